import PyProof.Rows.All
import Wide.All
import OpenK.AllK
import Wide.FinOn
import Lean
import PyProof.EqAt
import PyProof.EqKinds
import PyProof.TupleCall
import PySem.Challenge.RW_pairlings_k09_whole_exchanged_and_togeth
set_option Elab.async false
set_option linter.all false
set_option maxRecDepth 100000
/-! THE HAND LAYER, for ints, bools, texts, own classes, LISTS and tuples (index, slices, in, append, pop ..), calls, loops. Paste it whole ahead of your own text; what your proof does not reach may be deleted. -/
namespace L2
open PySem PySem.Spec PyProof.Rows

/-- a key: an int or a str -/
abbrev Key := Sum Int Str
def keyIs : Key → Value → Bool
  | .inl k, v => Value.isInt k v
  | .inr x, v => Value.isStrOf x v
def keyH (w : World) : Key → Int
  | .inl k => hashInt k
  | .inr x => hashStr w x
theorem keyIs_shape : ∀ {k : Key} {v : Value}, keyIs k v = true → (∃ i t, k = Sum.inl i ∧ v = Value.int i t) ∨ (∃ x t, k = Sum.inr x ∧ v = Value.str x t)
  | .inl i, v, h => by
    obtain ⟨t, e⟩ := Value.isInt_shape (k := i) (v := v) h
    exact .inl ⟨i, t, rfl, e⟩
  | .inr x, v, h => by
    obtain ⟨t, e⟩ := Value.isStrOf_shape (x := x) (v := v) h
    exact .inr ⟨x, t, rfl, e⟩
theorem keyIs_int (i : Int) (t : Tok) : keyIs (.inl i) (.int i t) = true := by simp [keyIs, Value.isInt]
theorem keyIs_str (x : Str) (t : Tok) : keyIs (.inr x) (.str x t) = true := by simp [keyIs, Value.isStrOf]
theorem key_ll (a b : Int) : decide ((Sum.inl a : Key) = Sum.inl b) = (a == b) := by
  by_cases e : a = b
  · subst e; simp
  · have h : ¬ (Sum.inl a : Key) = Sum.inl b := fun q => e (Sum.inl.inj q)
    rw [decide_eq_false h]
    exact (beq_eq_false_iff_ne.mpr e).symm
theorem key_rr (a b : Str) : decide ((Sum.inr a : Key) = Sum.inr b) = decide (a = b) := by
  by_cases e : a = b
  · subst e; simp
  · have h : ¬ (Sum.inr a : Key) = Sum.inr b := fun q => e (Sum.inr.inj q)
    rw [decide_eq_false h, decide_eq_false e]
theorem key_lr (a : Int) (b : Str) : decide ((Sum.inl a : Key) = Sum.inr b) = false := decide_eq_false (fun q => nomatch q)
theorem key_rl (a : Str) (b : Int) : decide ((Sum.inr a : Key) = Sum.inl b) = false := decide_eq_false (fun q => nomatch q)

def mixKind (prog : Program) (w : World) : PySem.KeyKind prog w Key where
  is := keyIs
  hash := keyH w
  inj := fun v a b ha hb => by
    rcases keyIs_shape ha with ⟨i, t, rfl, rfl⟩ | ⟨x, t, rfl, rfl⟩
    · rcases keyIs_shape hb with ⟨j, u, rfl, e⟩ | ⟨y, u, rfl, e⟩
      · injection e with e1 _; rw [e1]
      · exact nomatch e
    · rcases keyIs_shape hb with ⟨j, u, rfl, e⟩ | ⟨y, u, rfl, e⟩
      · exact nomatch e
      · injection e with e1 _; rw [e1]
  byValue := fun k v h => by
    rcases keyIs_shape h with ⟨i, t, rfl, rfl⟩ | ⟨x, t, rfl, rfl⟩ <;> rfl
  pyHash := fun hv h => by
    rcases keyIs_shape hv with ⟨i, t, rfl, rfl⟩ | ⟨x, t, rfl, rfl⟩
    · exact wpAny_pyHash_int h
    · exact wpAny_pyHash_str h
  eqBool := fun hu hv h => by
    rcases keyIs_shape hu with ⟨i, t, rfl, rfl⟩ | ⟨x, t, rfl, rfl⟩
    · rcases keyIs_shape hv with ⟨j, u, rfl, rfl⟩ | ⟨y, u, rfl, rfl⟩
      · rw [key_ll] at h; exact wpAny_eqBool_int h
      · rw [key_lr] at h; exact SeqAt.EqAt.int_str i t y u _ _ _ _ h
    · rcases keyIs_shape hv with ⟨j, u, rfl, rfl⟩ | ⟨y, u, rfl, rfl⟩
      · rw [key_rl] at h; exact SeqAt.EqAt.str_int x t j u _ _ _ _ h
      · rw [key_rr] at h; exact wpAny_eqBool_str h
  «strs» := fun k x t v h => by
    rcases keyIs_shape h with ⟨i, u, rfl, e⟩ | ⟨y, u, rfl, e⟩
    · exact nomatch e
    · injection e with e1 _
      subst e1
      cases v <;> rfl

theorem mixKind_is (prog : Program) (w : World) (k : Key) (v : Value) : (mixKind prog w).is k v = keyIs k v := rfl
theorem mixKind_int (prog : Program) (w : World) (i : Int) (t : Tok) : (mixKind prog w).is (.inl i) (.int i t) = true := keyIs_int i t
theorem mixKind_str (prog : Program) (w : World) (x : Str) (t : Tok) : (mixKind prog w).is (.inr x) (.str x t) = true := keyIs_str x t
end L2

namespace L2
open PySem PySem.Spec PyProof.Rows

/-- a value, without the heap -/
inductive V where
  | non | bl (b : Bool) | int (i : Int) | str (x : Str) | byt (b : Array UInt8) | flt (b : UInt64) | ref (a : Addr) | ty (n : String)
  deriving DecidableEq

def RelV : V → Value → Prop
  | .non, u => u = Value.none
  | .bl b, u => u = Value.bool b
  | .int i, u => ∃ t, u = Value.int i t
  | .str x, u => ∃ t, u = Value.str x t
  | .byt b, u => ∃ t, u = Value.bytes b t
  | .flt b, u => ∃ t, u = Value.float b t
  | .ref a, u => u = Value.ref a
  | .ty n, u => u = Value.type n

abbrev Vals : List V → List Value → Prop := Paired RelV
theorem Vals.length {xs : List V} {us : List Value} (r : Vals xs us) : xs.length = us.length := Paired.length r
theorem Vals.get : ∀ {xs : List V} {us : List Value} {i : Nat} {x : V}, Vals xs us → xs[i]? = some x → ∃ u, us[i]? = some u ∧ RelV x u
  | _, _, _, _, .nil, e => by simp at e
  | _, _, 0, _, .cons r _, e => by simp at e; subst e; exact ⟨_, rfl, r⟩
  | _, _, i + 1, x, .cons _ t, e => by
    obtain ⟨u, h1, h2⟩ := Vals.get (i := i) (x := x) t (by simpa using e)
    exact ⟨u, by simpa using h1, h2⟩
theorem Vals.set {x : V} {u : Value} (r : RelV x u) : ∀ {xs : List V} {us : List Value} (i : Nat), Vals xs us → Vals (xs.set i x) (us.set i u)
  | _, _, _, .nil => .nil
  | _, _, 0, .cons _ t => .cons r t
  | _, _, i + 1, .cons q t => .cons q (Vals.set r i t)
theorem Vals.append : ∀ {xs ys : List V} {us ws : List Value}, Vals xs us → Vals ys ws → Vals (xs ++ ys) (us ++ ws)
  | _, _, _, _, .nil, s => s
  | _, _, _, _, .cons r t, s => .cons r (Vals.append t s)
theorem Vals.take : ∀ {xs : List V} {us : List Value} (n : Nat), Vals xs us → Vals (xs.take n) (us.take n)
  | _, _, 0, _ => .nil
  | _, _, _ + 1, .nil => .nil
  | _, _, n + 1, .cons r t => .cons r (Vals.take n t)
theorem Vals.drop : ∀ {xs : List V} {us : List Value} (n : Nat), Vals xs us → Vals (xs.drop n) (us.drop n)
  | _, _, 0, r => r
  | _, _, _ + 1, .nil => .nil
  | _, _, n + 1, .cons _ t => Vals.drop n t
theorem Vals.none_of : ∀ {xs : List V} {us : List Value} {i : Nat}, Vals xs us → xs[i]? = none → us[i]? = none := fun {xs us i} r e => by
  have h1 := r.length
  have h2 : xs.length ≤ i := List.getElem?_eq_none_iff.mp e
  exact List.getElem?_eq_none_iff.mpr (by omega)

def RelO : Option V → Option Value → Prop
  | some v, some u => RelV v u
  | none, none => True
  | _, _ => False
def KV {κ : Type} : List (κ × V) → List (κ × Value) → Prop := Paired fun (p : κ × V) (q : κ × Value) => p.1 = q.1 ∧ RelV p.2 q.2

/-- a key of a dict (00_mix): an int or a text -/
def kV : Key → V
  | .inl i => .int i
  | .inr x => .str x

/-- what stands at a tracked address -/
inductive HO where
  /-- a list -/
  | lst (xs : List V)
  /-- a tuple (never changes) -/
  | tup (xs : List V)
  /-- a dict whose keys are ints and texts; one whose keys are tuples of ints and texts (the empty one is both) -/
  | dK (kvs : List (Key × V)) | dT (kvs : List (List Key × V))
  /-- a set of ints: its members, its size -/
  | set (S : Int → Bool) (n : Nat)
  /-- an instance of the class at C, its dict at dx, its attributes -/
  | ins (C dx : Addr) (fs : List (Str × V))
  /-- the dict of the instance at x -/
  | own (x : Addr)
  /-- the dict of an exception -/
  | xd (fs : List (Str × V))
  /-- a bound method, f of x -/
  | met (f x : Addr)
  /-- a range object lo, lo + 1, .. below hi -/
  | rng (lo hi : Int)
  /-- a thing that is known to the object (the script; a dict while a loop walks it): read, never written while it is so -/
  | frz (o : Obj) (u : HO)
  /-- a code object's table -/
  | tbl (ps : Array Value)
  /-- any other thing, by what is true of its one object (a def of one's own: SetO a S n := HO.ext fun h => ..) -/
  | ext (φ : Heap → Prop)

abbrev Hp := Addr → Option HO
def upd (H : Hp) (a : Addr) (o : HO) : Hp := fun b => if b = a then some o else H b
theorem upd_same {H : Hp} {a : Addr} {o : HO} : upd H a o a = some o := by unfold upd; rw [if_pos rfl]
theorem upd_ne {H : Hp} {a b : Addr} {o : HO} (h : b ≠ a) : upd H a o b = H b := by unfold upd; rw [if_neg h]
theorem upd_upd {H : Hp} {a : Addr} {o u : HO} : upd (upd H a o) a u = upd H a u := by
  funext b; unfold upd; split <;> rfl
/-- two objects of different content stand apart -/
theorem ne_of {H : Hp} {a b : Addr} {o u : HO} (h : H a = some o) (h' : H b = some u) (d : o ≠ u) : a ≠ b := by
  intro e; subst e; rw [h] at h'; exact d (Option.some.inj h')
theorem ne_of_none {H : Hp} {a b : Addr} {o : HO} (h : H a = some o) (h' : H b = none) : a ≠ b := by
  intro e; subst e; rw [h] at h'; cases h'

section
variable (P : Program) (w : World)
def ObjOk (H : Hp) (h : Heap) (a : Addr) : HO → Prop
  | .lst xs => xs.length ≤ sizeLine ∧ ∃ (its : List Value) (n : Nat), Vals xs its ∧ h.get? a = some { cls := .type "list", data := .seq its.toArray n }
  | .tup xs => xs.length ≤ sizeLine ∧ ∃ its : List Value, Vals xs its ∧ IsTup h a its.toArray
  | .dK kvs => kvs.length ≤ sizeLine ∧ (a == sysModules) = false ∧ ∃ vs, KV kvs vs ∧ h.DictOf (mixKind P w) a vs
  | .dT kvs => kvs.length ≤ sizeLine ∧ (a == sysModules) = false ∧ ∃ xs : List (List Key × Addr × Value),
      Paired (fun (p : List Key × V) (q : List Key × Addr × Value) => p.1 = q.1 ∧ H q.2.1 = some (.tup (p.1.map kV)) ∧ RelV p.2 q.2.2) kvs xs ∧
      ∃ o es ep, h.get? a = some o ∧ o.ExactDict ∧ o.data = .dict es ep ∧ es.toList = xs.map (entryOfKey (tupleKind (mixKind P w))) ∧ (xs.map (·.1)).Nodup
  | .set S n => h.SetOf (intKind P w) a S n
  | .ins C dx fs => H dx = some (.own a) ∧ fs.length ≤ 1000 ∧ dx ≠ a ∧ h.get? a = some (PySem.W.instObj C dx) ∧
      ∃ mA, h.Ns1 dx mA ∧ (∀ f, RelO (fs.lookup f) (mA f)) ∧ PySem.Within mA (fs.map (·.1))
  | .own _ => ∃ o, h.get? a = some o
  | .xd fs => ∃ mA, h.Ns1 a mA ∧ ∀ f, RelO (fs.lookup f) (mA f)
  | .rng lo hi => ∃ t u v, h.get? a = some { cls := .type "range", data := .fields #[.int lo t, .int hi u, .int 1 v] }
  | .frz o u => h.get? a = some o ∧ ObjOk H h a u
  | .tbl ps => h.get? a = some { cls := .none, data := .fields ps }
  | .met f x => h.get? a = some (PySem.W.methodObj (.ref f) (.ref x))
  | .ext φ => φ h ∧ (∃ o, h.get? a = some o) ∧ ∀ h1 h2 : Heap, φ h1 → (∀ o, h1.get? a = some o → h2.get? a = some o) → φ h2
/-- the abstract heap is held -/
def HOk (H : Hp) (h : Heap) : Prop := ∀ a o, H a = some o → ObjOk P w H h a o
end

section
variable {P : Program} {w : World} {H H' : Hp} {h h' : Heap} {a : Addr} {o : HO}
theorem ObjOk.lt (x : ObjOk P w H h a o) : a < h.objs.size := by
  cases o with
  | lst xs => obtain ⟨_, _, _, _, e⟩ := x; exact Heap.lt_size e
  | tup xs => obtain ⟨_, _, _, p⟩ := x; exact p.lt
  | dK kvs => obtain ⟨_, _, _, _, o, _, _, e, _⟩ := x; exact Heap.lt_size e
  | dT kvs => obtain ⟨_, _, _, _, o, _, _, e, _⟩ := x; exact Heap.lt_size e
  | set S n => obtain ⟨o, _, _, _, e, _⟩ := x; exact Heap.lt_size e
  | ins C dx fs => obtain ⟨_, _, _, e, _⟩ := x; exact Heap.lt_size e
  | own y => obtain ⟨_, e⟩ := x; exact Heap.lt_size e
  | xd fs => obtain ⟨_, ⟨_, _, _, e, _⟩, _⟩ := x; exact Heap.lt_size e
  | rng lo hi => obtain ⟨_, _, _, e⟩ := x; exact Heap.lt_size e
  | frz ob u => obtain ⟨e, _⟩ := x; exact Heap.lt_size e
  | tbl ps => exact Heap.lt_size (show h.get? a = some _ from x)
  | met f y => exact Heap.lt_size (show h.get? a = some _ from x)
  | ext φ => obtain ⟨_, ⟨_, e⟩, _⟩ := x; exact Heap.lt_size e
theorem Paired.mapP {α β : Type} {F G : α → β → Prop} : ∀ {l₁ : List α} {l₂ : List β}, Paired F l₁ l₂ → (∀ a b, F a b → G a b) → Paired G l₁ l₂
  | _, _, .nil, _ => .nil
  | _, _, .cons r t, f => .cons (f _ _ r) (Paired.mapP t f)
theorem Paired.imp' {α β : Type} {F G : α → β → Prop} (f : ∀ a b, F a b → G a b) {l₁ : List α} {l₂ : List β} (r : Paired F l₁ l₂) : Paired G l₁ l₂ := Paired.mapP r f
/-- what an object's description leans on: its own object, its own dict, the tuples -/
theorem ObjOk.stay (x : ObjOk P w H h a o) (k : ∀ b u, (b = a ∨ H b = some (.own a)) → h.get? b = some u → h'.get? b = some u)
    (ho : ∀ b, H b = some (.own a) → H' b = some (.own a)) (ht : ∀ b xs, H b = some (.tup xs) → H' b = some (.tup xs)) : ObjOk P w H' h' a o := by
  induction o with
  | lst xs => obtain ⟨z, its, n, r, e⟩ := x; exact ⟨z, its, n, r, k _ _ (.inl rfl) e⟩
  | tup xs => obtain ⟨z, its, r, ob, e, c⟩ := x; exact ⟨z, its, r, ob, k _ _ (.inl rfl) e, c⟩
  | dK kvs => obtain ⟨z, y, vs, r, ob, es, ep, e, c⟩ := x; exact ⟨z, y, vs, r, ob, es, ep, k _ _ (.inl rfl) e, c⟩
  | dT kvs =>
    obtain ⟨z, y, xs, r, ob, es, ep, e, c⟩ := x
    exact ⟨z, y, xs, Paired.mapP r fun p q z => ⟨z.1, ht _ _ z.2.1, z.2.2⟩, ob, es, ep, k _ _ (.inl rfl) e, c⟩
  | set S n => obtain ⟨ob, es, ep, t, e, c⟩ := x; exact ⟨ob, es, ep, t, k _ _ (.inl rfl) e, c⟩
  | ins C dx fs =>
    obtain ⟨d, z, ne, e, mA, ⟨od, es, ep, e2, c⟩, r⟩ := x
    exact ⟨ho _ d, z, ne, k _ _ (.inl rfl) e, mA, ⟨od, es, ep, k _ _ (.inr d) e2, c⟩, r⟩
  | own y => obtain ⟨ob, e⟩ := x; exact ⟨ob, k _ _ (.inl rfl) e⟩
  | xd fs => obtain ⟨mA, ⟨od, es, ep, e, c⟩, r⟩ := x; exact ⟨mA, ⟨od, es, ep, k _ _ (.inl rfl) e, c⟩, r⟩
  | rng lo hi => obtain ⟨t, u, v, e⟩ := x; exact ⟨t, u, v, k _ _ (.inl rfl) e⟩
  | frz ob u ih => obtain ⟨e, q⟩ := x; exact ⟨k _ _ (.inl rfl) e, ih q⟩
  | tbl ps =>
    have e : h.get? a = some { cls := .none, data := .fields ps } := x
    show h'.get? a = some { cls := .none, data := .fields ps }
    exact k a _ (.inl rfl) e
  | met f y =>
    have e : h.get? a = some (PySem.W.methodObj (.ref f) (.ref y)) := x
    show h'.get? a = some (PySem.W.methodObj (.ref f) (.ref y))
    exact k a _ (.inl rfl) e
  | ext φ => obtain ⟨p, ⟨o, e⟩, st⟩ := x; exact ⟨st _ _ p fun o q => k _ _ (.inl rfl) q, ⟨o, k _ _ (.inl rfl) e⟩, st⟩
theorem HOk.lt (x : HOk P w H h) (e : H a = some o) : a < h.objs.size := (x a o e).lt
theorem HOk.fresh (x : HOk P w H h) (e : h.objs.size ≤ a) : H a = none := by
  cases q : H a with
  | none => rfl
  | some u => exact absurd (Nat.lt_of_lt_of_le (x.lt q) e) (Nat.lt_irrefl _)
/-- every object of the heap is kept -/
theorem HOk.kept (x : HOk P w H h) (k : ∀ b u, h.get? b = some u → h'.get? b = some u) : HOk P w H h' := fun a o e =>
  (x a o e).stay (fun b u _ q => k b u q) (fun _ q => q) fun _ _ q => q
/-- a new object is laid and tracked -/
theorem HOk.laid (x : HOk P w H h) (k : ∀ b u, h.get? b = some u → h'.get? b = some u) (hp : h.objs.size ≤ a) (new : ObjOk P w (upd H a o) h' a o) : HOk P w (upd H a o) h' := fun b u e => by
  have hn := x.fresh hp
  by_cases hb : b = a
  · subst hb; rw [upd_same] at e; cases e; exact new
  · rw [upd_ne hb] at e
    exact (x b u e).stay (fun c v _ q => k c v q) (fun c q => by rw [upd_ne (ne_of_none q hn)]; exact q) fun c xs q => by rw [upd_ne (ne_of_none q hn)]; exact q
end

/-- what may be read as u: it is u, or a known u -/
def Rd (H : Hp) (a : Addr) (u : HO) : Prop := H a = some u ∨ ∃ o, H a = some (.frz o u)
theorem Rd.of {H : Hp} {a : Addr} {u : HO} (h : H a = some u) : Rd H a u := .inl h
theorem Rd.ok {P : Program} {w : World} {H : Hp} {h : Heap} {a : Addr} {u : HO} (r : Rd H a u) (x : HOk P w H h) : ObjOk P w H h a u := by
  rcases r with r | ⟨o, r⟩
  · exact x a u r
  · obtain ⟨_, q⟩ := x a _ r
    exact q
/-- what may be written -/
def Mut : Option HO → Prop
  | some (.lst _) => True
  | some (.dK _) => True
  | some (.dT _) => True
  | some (.set _ _) => True
  | some (.ins _ _ _) => True
  | some (.ext _) => True
  | _ => False
section
variable {P : Program} {w : World} {H : Hp} {h h' : Heap} {x e : Addr} {o' : HO}
/-- the object at e is changed: x itself, or the dict of the instance x -/
theorem HOk.write (ok : HOk P w H h) (mu : Mut (H x)) (he : e = x ∨ H e = some (.own x)) (k : ∀ b u, b ≠ e → h.get? b = some u → h'.get? b = some u) (heo : ∃ u, h'.get? e = some u)
    (new : ObjOk P w (upd H x o') h' x o') : HOk P w (upd H x o') h' := fun b u q => by
  have nown : ∀ c y, H c = some (.own y) → c ≠ x := fun c y r z => by subst z; rw [r] at mu; exact mu
  have ntup : ∀ c xs, H c = some (.tup xs) → c ≠ x := fun c xs r z => by subst z; rw [r] at mu; exact mu
  by_cases hb : b = x
  · subst hb; rw [upd_same] at q; cases q; exact new
  · rw [upd_ne hb] at q
    by_cases hbe : b = e
    · have q' : H b = some (.own x) := by
        rcases he with z | z
        · exact absurd (hbe.trans z) hb
        · rw [hbe]; exact z
      rw [q] at q'; cases q'
      obtain ⟨v, hv⟩ := heo
      exact ⟨v, by rw [hbe]; exact hv⟩
    · refine (ok b u q).stay (fun c v hc r => k c v ?_ r) (fun c r => by rw [upd_ne (nown c b r)]; exact r) fun c xs r => by rw [upd_ne (ntup c xs r)]; exact r
      rcases hc with rfl | hc
      · exact hbe
      · rintro rfl
        rcases he with z | z
        · exact nown c b hc z
        · rw [hc] at z; cases z; exact hb rfl
end

/-! ### kept unless tracked; of the frames at fs (the callers') the slots may change (an exception that passes writes there); of the records at ex (iterators) nothing is said -/
structure Un (fs ex : List Addr) (H H' : Hp) (h h' : Heap) : Prop where
  keep : ∀ b o, h.get? b = some o → H b = none → b ∉ fs → b ∉ ex → h'.get? b = some o
  slot : ∀ b o, h.get? b = some o → H b = none → b ∈ fs → b ∉ ex → ∃ sl, h'.get? b = some { o with slots := sl }
  free : ∀ b o, h.get? b = some o → H b = none → b ∉ ex → H' b = none
  there : ∀ b o, h.get? b = some o → b ∉ ex → ∃ o', h'.get? b = some o'
  tups : ∀ b xs, H b = some (.tup xs) → H' b = some (.tup xs)
  frzs : ∀ b o u, H b = some (.frz o u) → H' b = some (.frz o u)
  tbls : ∀ b ps, H b = some (.tbl ps) → ∃ more, H' b = some (.tbl (ps ++ more))
section
variable {fs fs' ex ex' : List Addr} {H H1 H2 : Hp} {h h1 h2 h' : Heap} {a x e : Addr} {o : HO}
theorem Un.any (u : Un fs ex H H1 h h1) {b : Addr} {ob : Obj} (q : h.get? b = some ob) (n : H b = none) (hx : b ∉ ex) : ∃ sl, h1.get? b = some { ob with slots := sl } := by
  by_cases hb : b ∈ fs
  · exact u.slot b ob q n hb hx
  · exact ⟨ob.slots, u.keep b ob q n hb hx⟩
theorem Un.trans (a : Un fs ex H H1 h h1) (b : Un fs ex H1 H2 h1 h2) : Un fs ex H H2 h h2 where
  keep := fun c ob q n hc hx => b.keep c ob (a.keep c ob q n hc hx) (a.free c ob q n hx) hc hx
  slot := fun c ob q n hc hx => by
    obtain ⟨sl, e1⟩ := a.slot c ob q n hc hx
    obtain ⟨sl', e2⟩ := b.slot c _ e1 (a.free c ob q n hx) hc hx
    exact ⟨sl', e2⟩
  free := fun c ob q n hx => by
    obtain ⟨o', e1⟩ := a.there c ob q hx
    exact b.free c o' e1 (a.free c ob q n hx) hx
  there := fun c ob q hx => by
    obtain ⟨o', e1⟩ := a.there c ob q hx
    exact b.there c o' e1 hx
  tups := fun c xs q => b.tups c xs (a.tups c xs q)
  frzs := fun c ob xs q => b.frzs c ob xs (a.frzs c ob xs q)
  tbls := fun c ps q => by
    obtain ⟨m1, e1⟩ := a.tbls c ps q
    obtain ⟨m2, e2⟩ := b.tbls c _ e1
    exact ⟨m1 ++ m2, by rw [e2, Array.append_assoc]⟩
theorem Un.kept (k : ∀ b u, h.get? b = some u → h'.get? b = some u) : Un fs ex H H h h' :=
  ⟨fun b ob q _ _ _ => k b ob q, fun b ob q _ _ _ => ⟨ob.slots, k b ob q⟩, fun _ _ _ n _ => n, fun b ob q _ => ⟨ob, k b ob q⟩, fun _ _ q => q, fun _ _ _ q => q, fun _ ps q => ⟨#[], by rw [q]; simp⟩⟩
theorem Un.refl : Un fs ex H H h h := Un.kept fun _ _ q => q
theorem Un.laid (k : ∀ b u, h.get? b = some u → h'.get? b = some u) (hp : h.objs.size ≤ a) (hn : H a = none) : Un fs ex H (upd H a o) h h' where
  keep := fun b u q _ _ _ => k b u q
  slot := fun b u q _ _ _ => ⟨u.slots, k b u q⟩
  free := fun b u q n _ => by rw [upd_ne (Nat.ne_of_lt (Nat.lt_of_lt_of_le (Heap.lt_size q) hp))]; exact n
  there := fun b u q _ => ⟨u, k b u q⟩
  tups := fun b xs q => by rw [upd_ne (ne_of_none q hn)]; exact q
  frzs := fun b u xs q => by rw [upd_ne (ne_of_none q hn)]; exact q
  tbls := fun b ps q => ⟨#[], by rw [upd_ne (ne_of_none q hn), q]; simp⟩
theorem Un.write (mu : Mut (H x)) (he : e = x ∨ H e = some (.own x)) (k : ∀ b u, b ≠ e → h.get? b = some u → h'.get? b = some u) (heo : ∃ u, h'.get? e = some u) : Un fs ex H (upd H x o) h h' := by
  have hx : ∀ b, H b = none → b ≠ x := fun b n z => by subst z; rw [n] at mu; exact mu
  have hb : ∀ b, H b = none → b ≠ e := fun b n z => by
    subst z
    rcases he with r | r
    · exact hx b n r
    · rw [n] at r; cases r
  have hm : ∀ b u, H b = some u → ¬ Mut (some u) → b ≠ x := fun b u q nm z => by subst z; rw [q] at mu; exact nm mu
  refine ⟨fun b u q n _ _ => k b u (hb b n) q, fun b u q n _ _ => ⟨u.slots, k b u (hb b n) q⟩, fun b u q n _ => by rw [upd_ne (hx b n)]; exact n, fun b u q _ => ?_,
    fun b xs q => by rw [upd_ne (hm b _ q fun z => z)]; exact q, fun b u xs q => by rw [upd_ne (hm b _ q fun z => z)]; exact q, fun b ps q => ⟨#[], by rw [upd_ne (hm b _ q fun z => z), q]; simp⟩⟩
  by_cases hbe : b = e
  · subst hbe; exact heo
  · exact ⟨u, k b u hbe q⟩
theorem Un.mono (u : Un fs ex H H1 h h1) (hs : ∀ b ∈ fs, b ∈ fs') (hx : ∀ b ∈ ex, b ∈ ex') : Un fs' ex' H H1 h h1 :=
  ⟨fun b ob q n hb he => u.keep b ob q n (fun z => hb (hs b z)) fun z => he (hx b z), fun _ _ q n _ he => u.any q n fun z => he (hx _ z), fun b ob q n he => u.free b ob q n fun z => he (hx b z), fun b ob q he => u.there b ob q fun z => he (hx b z), u.tups, u.frzs, u.tbls⟩
end

/-! ### the heap without what is tracked -/
def trk (h : Heap) (H : Hp) : List Addr := (List.range h.objs.size).filter fun a => (H a).isSome
def hidT (h : Heap) (H : Hp) : Heap := PySem.W.hideAll h (trk h H)
theorem hidT_size (h : Heap) (H : Hp) : (hidT h H).objs.size = h.objs.size := PySem.W.hideAll_size _ _
theorem hidT_get {h : Heap} {H : Hp} {b : Addr} {o : Obj} (e : h.get? b = some o) (n : H b = none) : (hidT h H).get? b = some o :=
  PySem.W.hideAll_get _ e fun hm => by
    have q : (H b).isSome = true := (List.mem_filter.mp hm).2
    rw [n] at q; simp at q
theorem of_hidT {h : Heap} {H : Hp} {b : Addr} {o : Obj} (e : (hidT h H).get? b = some o) : h.get? b = some o ∧ H b = none := by
  have e' : h.get? b = some o := PySem.W.of_hideAll (trk h H) e
  refine ⟨e', ?_⟩
  cases q : H b with
  | none => rfl
  | some x =>
    have hm : b ∈ trk h H := List.mem_filter.mpr ⟨List.mem_range.mpr (Heap.lt_size e'), by simp [q]⟩
    have z : (hidT h H).get? b = none := PySem.W.hideAll_none (trk h H) hm
    rw [z] at e; cases e

/-! ### OpenK's ledger, filled with every new object but one -/
def allNews (g h : Heap) (L : Addr) : List (Addr × Obj) := (List.range h.objs.size).filterMap fun a => if a = L ∨ (g.get? a).isSome = true then none else (h.get? a).map fun o => (a, o)
theorem mem_allNews {g h : Heap} {L a : Addr} {o : Obj} (h1 : a ≠ L) (h2 : g.get? a = none) (h3 : h.get? a = some o) : (a, o) ∈ allNews g h L :=
  List.mem_filterMap.mpr ⟨a, List.mem_range.mpr (Heap.lt_size h3), by simp [h1, h2, h3]⟩
theorem of_mem_allNews {g h : Heap} {L : Addr} {p : Addr × Obj} (hp : p ∈ allNews g h L) : p.1 ≠ L ∧ g.get? p.1 = none ∧ h.get? p.1 = some p.2 := by
  obtain ⟨b, _, e⟩ := List.mem_filterMap.mp hp
  split at e
  · cases e
  · rename_i hn
    cases q : h.get? b with
    | none => rw [q] at e; simp at e
    | some u =>
      rw [q] at e
      simp only [Option.map_some, Option.some.injEq] at e
      subst e
      refine ⟨fun z => hn (.inl z), ?_, q⟩
      show g.get? b = none
      cases r : g.get? b with
      | none => rfl
      | some v => exact (hn (.inr (by simp [r]))).elim
def rest (g h : Heap) (L d : Addr) : List (Addr × Obj) := (allNews g h L).filter fun p => decide (p.1 ≠ d)
theorem rest_ne {g h : Heap} {L d : Addr} : ∀ p ∈ rest g h L d, p.1 ≠ d := fun p hp => of_decide_eq_true (List.mem_filter.mp hp).2
theorem mem_rest {g h : Heap} {L d a : Addr} {o : Obj} (h1 : a ≠ L) (h2 : g.get? a = none) (h3 : h.get? a = some o) (h4 : a ≠ d) : (a, o) ∈ rest g h L d :=
  List.mem_filter.mpr ⟨mem_allNews h1 h2 h3, decide_eq_true h4⟩
theorem news_all {g h : Heap} {L : Addr} : News g L h (allNews g h L) := fun p hp => let ⟨a, b, c⟩ := of_mem_allNews hp; ⟨c, a, b⟩
theorem news_at {g h : Heap} {L d : Addr} {o : Obj} (h1 : d ≠ L) (h2 : g.get? d = none) (h3 : h.get? d = some o) : News g L h ((d, o) :: rest g h L d) := fun p hp => by
  rcases List.mem_cons.mp hp with rfl | hp
  · exact ⟨h3, h1, h2⟩
  · exact news_all p (List.mem_filter.mp hp).1
/-- behind a rule that changed d alone: all else but the frame is kept -/
theorem kept_of_news {g h h' : Heap} {L d : Addr} {m : Str → Option Value} (k : ∀ b o, g.get? b = some o → h.get? b = some o) (F : Fr g L h' m) (N : News g L h' (rest g h L d)) :
    ∀ b o, b ≠ L → b ≠ d → h.get? b = some o → h'.get? b = some o := fun b o h1 h2 e => by
  cases q : g.get? b with
  | some u =>
    have := k b u q
    rw [e] at this; cases this
    exact F.keep b _ q
  | none => exact (N (b, o) (mem_rest h1 q e h2)).1
end L2

namespace L2
open PySem PySem.Spec PyProof.Rows

/-- the module's facts, over the base: the heap at the law's entry without what is tracked there -/
structure Mod (K : PySem.W.Frag) (mg : Str → Option Value) (base : Heap) : Prop where
  kin : K.In base
  glob : base.Ns mainGlobals mg
  blt : ∃ mb, base.Ns builtinsNs mb ∧ ∀ x : Str, x ≠ "__name__" → mb x = bootBuiltins x
  nolimit : base.NoLimit

/-- the context: a def's body (or a comprehension's block) running. base: fixed through the whole law; s₀, H₀: the entry; outer: the frames whose slots others may change (a def's callers); stack: all frames that run;
   ex: iterators that were made ahead of the entry and are walked here (a comprehension's); fn: the names whose cells were made at the entry (a def: all; a comprehension's block: its own); calm: not within an except suite; pn: pins that every state bears; xe: what is wanted of an exception that leaves the code -/
structure Cx where
  prog : Program
  w : World
  K : PySem.W.Frag
  mg : Str → Option Value
  base : Heap
  A : Around
  N : List Str
  s₀ : Shared
  H₀ : Hp
  env : Env
  outer : List Env
  stack : List Env
  ex : List Addr
  fn : Str → Bool
  calm : Bool
  pn : List (Addr × Obj)
  xe : Value → Shared → Prop
/-- the callers' frames -/
def frs (l : List Env) : List Addr := l.filterMap (·.frame)
abbrev Cx.fs (X : Cx) : List Addr := frs X.outer

def Vis (sc : Scope) (x : Str) : Prop := sc.names.lookup x = some .local ∨ sc.names.lookup x = some .cell ∨ sc.names.lookup x = some .free
def Loc (sc : Scope) (x : Str) : Prop := sc.names.lookup x = some .local ∨ sc.names.lookup x = some .cell
def Look (env : Env) (h : Heap) (m : Str → Option Value) (x : Str) (u : Value) : Prop :=
  (env.kindOf x = some .local ∧ m x = some u) ∨ ((env.kindOf x = some .cell ∨ env.kindOf x = some .free) ∧ ∃ c, env.cells.lookup x = some c ∧ h.IsCell c (some u))

structure Cx.Ok (X : Cx) : Prop where
  mod : Mod X.K X.mg X.base
  kind : X.env.scope.kind = .function
  glob : X.env.globals = mainGlobals
  blt : X.env.builtins = builtinsNs
  above : X.s₀.heap.objs.size ≤ X.env.locals
  inj : ∀ x y c, X.env.cells.lookup x = some c → X.env.cells.lookup y = some c → x = y
  has : ∀ x, (X.env.kindOf x = some .cell ∨ X.env.kindOf x = some .free) → ∃ c, X.env.cells.lookup x = some c
  cab : ∀ x c, X.fn x = true → X.env.cells.lookup x = some c → X.s₀.heap.objs.size ≤ c
  hd : X.calm = true → X.A.handled = none
  frames : X.A.frames = some X.stack
  stk : X.stack = X.outer ∨ (X.stack = X.env :: X.outer ∧ X.env.frame = some X.env.locals)
  exf : ∀ b ∈ X.ex, b ≠ X.env.locals ∧ ∀ x c, X.env.cells.lookup x = some c → c ≠ b
  bs : ∀ b o, X.base.get? b = some o → X.s₀.heap.get? b = some o ∧ X.H₀ b = none
  bsz : X.base.objs.size ≤ X.s₀.heap.objs.size
  noex : ∀ b o, X.base.get? b = some o → b ∉ X.ex
  exfs : ∀ b ∈ X.ex, b ∉ X.fs
  funs : X.s₀.heap.FunFrames X.base X.outer
  frf : ∀ b ∈ X.fs, X.H₀ b = none

structure Inv (X : Cx) (pins : List (Addr × Obj)) (σ : List (Option V)) (H : Hp) (s : Shared) : Prop where
  ok : X.Ok
  os : s.os = X.s₀.os
  bare : AllBare s.gens
  base : Un X.fs X.ex X.H₀ H X.s₀.heap s.heap
  loc : ∃ m, s.heap.Ns X.env.locals m ∧ ∀ (i : Nat) (x : Str) (v : V), X.N[i]? = some x → σ[i]? = some (some v) → Vis X.env.scope x → ∃ u, RelV v u ∧ Look X.env s.heap m x u
  cell : ∀ x c, X.env.cells.lookup x = some c → ∃ v, s.heap.IsCell c v
  free : H X.env.locals = none
  freeC : ∀ x c, X.env.cells.lookup x = some c → H c = none
  pin : ∀ p ∈ X.pn ++ pins, s.heap.get? p.1 = some p.2 ∧ H p.1 = none ∧ p.1 ≠ X.env.locals ∧ p.1 ∉ X.fs ∧ ∀ v, p.2.data ≠ .cell v
  hok : HOk X.prog X.w H s.heap
  len : σ.length = X.N.length

section
variable {X : Cx} {pins : List (Addr × Obj)} {σ : List (Option V)} {H H' : Hp} {s : Shared} {h' : Heap}

theorem Cx.Ok.nofr (ok : X.Ok) {b : Addr} {o : Obj} (e : X.base.get? b = some o) : b ∉ X.fs := fun hb => by
  have := (ok.funs.mem hb).1
  rw [e] at this; cases this
theorem Inv.bs (I : Inv X pins σ H s) : ∀ b o, X.base.get? b = some o → s.heap.get? b = some o ∧ H b = none := fun b o e =>
  ⟨I.base.keep b o (I.ok.bs b o e).1 (I.ok.bs b o e).2 (I.ok.nofr e) (I.ok.noex b o e), I.base.free b o (I.ok.bs b o e).1 (I.ok.bs b o e).2 (I.ok.noex b o e)⟩
theorem Inv.bk (I : Inv X pins σ H s) : ∀ b o, X.base.get? b = some o → s.heap.get? b = some o := fun b o e => (I.bs b o e).1
theorem Inv.mod (I : Inv X pins σ H s) : Mod X.K X.mg X.base := I.ok.mod
theorem Inv.kIn (I : Inv X pins σ H s) : X.K.In s.heap := I.ok.mod.kin.keeps I.bk
theorem Inv.nolimit (I : Inv X pins σ H s) : s.heap.NoLimit := I.ok.mod.nolimit.keeps I.bk
/-- the frame over the base: for OpenK's rules (K.In X.base is I.mod.kin) -/
theorem Inv.fr (I : Inv X pins σ H s) : ∃ m, Fr X.base X.env.locals s.heap m :=
  let ⟨m, hn, _⟩ := I.loc
  ⟨m, hn, I.bk, Nat.le_trans I.ok.bsz I.ok.above⟩
theorem Inv.lt (I : Inv X pins σ H s) : X.env.locals < s.heap.objs.size := let ⟨_, hn, _⟩ := I.loc; hn.lt
theorem Inv.sz (I : Inv X pins σ H s) : X.s₀.heap.objs.size ≤ s.heap.objs.size := Nat.le_trans I.ok.above (Nat.le_of_lt I.lt)
theorem Inv.nofs (I : Inv X pins σ H s) {a : Addr} (h : s.heap.objs.size ≤ a) : a ∉ X.fs := fun hb => by
  obtain ⟨_, o, ho, _⟩ := I.ok.funs.mem hb
  exact absurd (Nat.lt_of_lt_of_le (Heap.lt_size ho) (Nat.le_trans I.sz h)) (Nat.lt_irrefl _)
theorem Inv.cne (I : Inv X pins σ H s) : ∀ x c, X.env.cells.lookup x = some c → c ≠ X.env.locals := fun x c e z => by
  obtain ⟨v, o, ho, hd⟩ := I.cell x c e
  obtain ⟨m, ⟨o', es, ep, ho', hd', _⟩, _⟩ := I.loc
  rw [z, ho'] at ho; cases ho; rw [hd'] at hd; cases hd
theorem Inv.funs (I : Inv X pins σ H s) : s.heap.FunFrames X.base X.outer := by
  have all : ∀ (l : List Env), (∀ b ∈ frs l, b ∈ X.fs) → X.s₀.heap.FunFrames X.base l → s.heap.FunFrames X.base l := by
    intro l
    induction l with
    | nil => intro _ _; trivial
    | cons env r ih =>
      intro hs hl
      obtain ⟨hk, ⟨L, o, hf, hn, ho, hd⟩, hr⟩ := hl
      have hL : L ∈ X.fs := hs L (by unfold frs; rw [List.filterMap_cons, hf]; exact List.mem_cons_self)
      obtain ⟨sl, e⟩ := I.base.slot L o ho (I.ok.frf L hL) hL fun z => I.ok.exfs L z hL
      exact ⟨hk, ⟨L, _, hf, hn, e, hd⟩, ih (fun b hb => hs b (by unfold frs; rw [List.filterMap_cons, hf]; exact List.mem_cons_of_mem _ hb)) hr⟩
  exact all X.outer (fun _ hb => hb) I.ok.funs

/-- the frames that run, for a call -/
theorem Inv.stack (I : Inv X pins σ H s) : s.heap.FunFrames X.base X.stack := by
  rcases I.ok.stk with e | ⟨e, hf⟩
  · rw [e]; exact I.funs
  · rw [e]
    obtain ⟨m, hn, _⟩ := I.loc
    refine .cons (by rw [I.ok.kind]; decide) hf hn ?_ I.funs
    exact Heap.get?_none_of_le (Nat.le_trans I.ok.bsz I.ok.above)
theorem Inv.stkSub (I : Inv X pins σ H s) : ∀ b ∈ frs X.stack, b ∈ X.env.locals :: X.fs := fun b hb => by
  rcases I.ok.stk with e | ⟨e, hf⟩
  · rw [e] at hb; exact List.mem_cons_of_mem _ hb
  · rw [e] at hb
    unfold frs at hb
    rw [List.filterMap_cons, hf] at hb
    exact hb
theorem Inv.stkFree (I : Inv X pins σ H s) : ∀ b ∈ frs X.stack, H b = none := fun b hb => by
  rcases List.mem_cons.mp (I.stkSub b hb) with e | hb
  · rw [e]; exact I.free
  · obtain ⟨_, o, ho, _⟩ := I.ok.funs.mem hb
    exact I.base.free b o ho (I.ok.frf b hb) fun z => I.ok.exfs b z hb

/-- THE STEP: the untracked objects but the frame and the records at ch are kept (the callers' frames up to slots), the frame's map is kept, the new abstract heap is held -/
theorem Inv.step {g' : Array GenState} {t' : Nat} {d' : Drawn} {ch : List Addr} (I : Inv X pins σ H s)
    (hch : ∀ b ∈ ch, (b ∈ X.ex ∨ X.s₀.heap.objs.size ≤ b) ∧ b ≠ X.env.locals ∧ (∀ x c, X.env.cells.lookup x = some c → c ≠ b) ∧ ∀ p ∈ X.pn ++ pins, p.1 ≠ b)
    (keep : ∀ b o, b ≠ X.env.locals → b ∉ X.fs → b ∉ ch → s.heap.get? b = some o → H b = none → h'.get? b = some o)
    (slot : ∀ b o, b ≠ X.env.locals → b ∈ X.fs → b ∉ ch → s.heap.get? b = some o → H b = none → ∃ sl, h'.get? b = some { o with slots := sl }) (free : ∀ b o, b ∉ ch → s.heap.get? b = some o → H b = none → H' b = none)
    (there : ∀ b o, b ∉ ch → s.heap.get? b = some o → ∃ o', h'.get? b = some o')
    (tups : ∀ b xs, H b = some (.tup xs) → H' b = some (.tup xs)) (frzs : ∀ b o u, H b = some (.frz o u) → H' b = some (.frz o u)) (tbls : ∀ b ps, H b = some (.tbl ps) → ∃ more, H' b = some (.tbl (ps ++ more)))
    (ns : ∀ m, s.heap.Ns X.env.locals m → h'.Ns X.env.locals m) (hok : HOk X.prog X.w H' h') (hg : AllBare g') :
    Inv X pins σ H' { s with heap := h', gens := g', drawn := d', toks := t' } := by
  have neL : ∀ b o, X.s₀.heap.get? b = some o → b ≠ X.env.locals := fun b o e => Nat.ne_of_lt (Nat.lt_of_lt_of_le (Heap.lt_size e) I.ok.above)
  have neC : ∀ b o, X.s₀.heap.get? b = some o → b ∉ X.ex → b ∉ ch := fun b o e hx hb => by
    rcases (hch b hb).1 with z | z
    · exact hx z
    · exact absurd (Nat.lt_of_lt_of_le (Heap.lt_size e) z) (Nat.lt_irrefl _)
  have cellK : ∀ x c, X.env.cells.lookup x = some c → ∀ v, s.heap.IsCell c v → h'.IsCell c v := fun x c e v ⟨o, ho, hd⟩ => by
    have nch : c ∉ ch := fun z => (hch c z).2.2.1 x c e rfl
    by_cases hc : c ∈ X.fs
    · obtain ⟨sl, q⟩ := slot c o (I.cne x c e) hc nch ho (I.freeC x c e)
      exact ⟨_, q, hd⟩
    · exact ⟨o, keep c o (I.cne x c e) hc nch ho (I.freeC x c e), hd⟩
  refine ⟨I.ok, I.os, hg, ⟨fun b o e n hb hx => ?_, fun b o e n hb hx => ?_, fun b o e n hx => ?_, fun b o e hx => ?_, fun b xs e => tups b xs (I.base.tups b xs e), fun b o xs e => frzs b o xs (I.base.frzs b o xs e), fun b ps e => ?_⟩, ?_, fun x c e => ?_, ?_, fun x c e => ?_, fun p hp => ?_, hok, I.len⟩
  · exact keep b o (neL b o e) hb (neC b o e hx) (I.base.keep b o e n hb hx) (I.base.free b o e n hx)
  · obtain ⟨sl, e1⟩ := I.base.slot b o e n hb hx
    obtain ⟨sl', e2⟩ := slot b _ (neL b o e) hb (neC b o e hx) e1 (I.base.free b o e n hx)
    exact ⟨sl', e2⟩
  · obtain ⟨o', e1⟩ := I.base.there b o e hx
    exact free b o' (neC b o e hx) e1 (I.base.free b o e n hx)
  · obtain ⟨o', e1⟩ := I.base.there b o e hx
    exact there b o' (neC b o e hx) e1
  · obtain ⟨m1, e1⟩ := I.base.tbls b ps e
    obtain ⟨m2, e2⟩ := tbls b _ e1
    exact ⟨m1 ++ m2, by rw [e2, Array.append_assoc]⟩
  · obtain ⟨m, hn, hl⟩ := I.loc
    refine ⟨m, ns m hn, fun i x v e1 e2 e3 => ?_⟩
    obtain ⟨u, r, l⟩ := hl i x v e1 e2 e3
    refine ⟨u, r, ?_⟩
    rcases l with l | ⟨k, c, e, z⟩
    · exact .inl l
    · exact .inr ⟨k, c, e, cellK x c e _ z⟩
  · obtain ⟨v, z⟩ := I.cell x c e
    exact ⟨v, cellK x c e v z⟩
  · obtain ⟨m, ⟨o, _, _, ho, _⟩, _⟩ := I.loc
    exact free _ o (fun z => (hch _ z).2.1 rfl) ho I.free
  · obtain ⟨v, o, ho, hd⟩ := I.cell x c e
    exact free c o (fun z => (hch c z).2.2.1 x c e rfl) ho (I.freeC x c e)
  · obtain ⟨e, n, ne, nf, d⟩ := I.pin p hp
    have nch : p.1 ∉ ch := fun z => (hch p.1 z).2.2.2 p hp rfl
    exact ⟨keep p.1 p.2 ne nf nch e n, free p.1 p.2 nch e n, ne, nf, d⟩
/-- .. where the frame's own object is kept too -/
theorem Inv.un {t' : Nat} (I : Inv X pins σ H s) (u : Un X.fs [] H H' s.heap h') (hok : HOk X.prog X.w H' h') : Inv X pins σ H' { s with heap := h', toks := t' } := by
  obtain ⟨m, ⟨o, es, ep, ho, r⟩, _⟩ := id I.loc
  obtain ⟨sl, hL⟩ := u.any ho I.free (by simp)
  exact I.step (g' := s.gens) (d' := s.drawn) (ch := []) (fun _ z => nomatch z) (fun b o _ hb _ e n => u.keep b o e n hb (by simp)) (fun b o _ hb _ e n => u.slot b o e n hb (by simp)) (fun b o _ e n => u.free b o e n (by simp)) (fun b o _ e => u.there b o e (by simp)) u.tups u.frzs u.tbls (fun m' hm => by
    obtain ⟨o', es', ep', ho', r'⟩ := hm
    rw [ho] at ho'; cases ho'
    exact ⟨_, es', ep', hL, r'⟩) hok I.bare
/-- behind a call (or a comprehension's block): the slots of this frame may have changed too, the records at ch may have turned -/
theorem Inv.call {g' : Array GenState} {t' : Nat} {d' : Drawn} {ch : List Addr} (I : Inv X pins σ H s) (u : Un (frs X.stack) ch H H' s.heap h') (hok : HOk X.prog X.w H' h') (hg : AllBare g')
    (hch : ∀ b ∈ ch, (b ∈ X.ex ∨ X.s₀.heap.objs.size ≤ b) ∧ b ≠ X.env.locals ∧ (∀ x c, X.env.cells.lookup x = some c → c ≠ b) ∧ ∀ p ∈ X.pn ++ pins, p.1 ≠ b) :
    Inv X pins σ H' { s with heap := h', gens := g', drawn := d', toks := t' } := by
  obtain ⟨m, ⟨o, es, ep, ho, r⟩, _⟩ := id I.loc
  obtain ⟨sl, hL⟩ := u.any ho I.free fun z => (hch _ z).2.1 rfl
  exact I.step (ch := ch) hch (fun b o hL hb hc e n => u.keep b o e n (fun z => (List.mem_cons.mp (I.stkSub b z)).elim hL hb) hc) (fun b o _ _ hc e n => u.any e n hc) (fun b o hc e n => u.free b o e n hc) (fun b o hc e => u.there b o e hc) u.tups u.frzs u.tbls (fun m' hm => by
    obtain ⟨o', es', ep', ho', r'⟩ := hm
    rw [ho] at ho'; cases ho'
    exact ⟨_, es', ep', hL, r'⟩) hok hg
/-- an untracked record of ours (an iterator) has turned -/
theorem Inv.turned {t' : Nat} {it : Addr} (I : Inv X pins σ H s) (k : ∀ b o, b ≠ it → s.heap.get? b = some o → h'.get? b = some o) (hn : H it = none) (hL : it ≠ X.env.locals)
    (h1 : it ∈ X.ex ∨ X.s₀.heap.objs.size ≤ it) (h2 : ∀ x c, X.env.cells.lookup x = some c → c ≠ it) (h3 : ∀ p ∈ X.pn ++ pins, p.1 ≠ it) : Inv X pins σ H { s with heap := h', toks := t' } := by
  have nit : ∀ b u, H b = some u → b ≠ it := fun b u e z => by rw [z, hn] at e; cases e
  refine I.step (g' := s.gens) (d' := s.drawn) (ch := [it]) (fun b hb => ?_) (fun b o _ _ hc e _ => k b o (fun z => hc (by simp [z])) e) (fun b o _ _ hc e _ => ⟨o.slots, k b o (fun z => hc (by simp [z])) e⟩) (fun _ _ _ _ n => n)
    (fun b o hc e => ⟨o, k b o (fun z => hc (by simp [z])) e⟩) (fun _ _ e => e) (fun _ _ _ e => e) (fun b ps e => ⟨#[], by rw [e]; simp⟩) (fun m hm => ?_) (fun b u e => ?_) I.bare
  · have e : b = it := by simpa using hb
    subst e
    exact ⟨h1, hL, h2, h3⟩
  · obtain ⟨o, es, ep, ho, r⟩ := hm
    exact ⟨o, es, ep, k _ o (Ne.symm hL) ho, r⟩
  · refine (I.hok b u e).stay (fun c v hc q => k c v ?_ q) (fun _ q => q) fun _ _ q => q
    rcases hc with z | z
    · rw [z]; exact nit b u e
    · exact nit c _ z
theorem Inv.tok (I : Inv X pins σ H s) (t : Nat) : Inv X pins σ H { s with toks := t } := I.un (h' := s.heap) (t' := t) Un.refl I.hok
/-- all objects kept -/
theorem Inv.kept {t' : Nat} (I : Inv X pins σ H s) (k : ∀ b u, s.heap.get? b = some u → h'.get? b = some u) : Inv X pins σ H { s with heap := h', toks := t' } := I.un (Un.kept k) (I.hok.kept k)
/-- a new object laid and tracked -/
theorem Inv.laid {a : Addr} {o : HO} {t' : Nat} (I : Inv X pins σ H s) (k : ∀ b u, s.heap.get? b = some u → h'.get? b = some u) (hp : s.heap.objs.size ≤ a) (new : ObjOk X.prog X.w (upd H a o) h' a o) :
    Inv X pins σ (upd H a o) { s with heap := h', toks := t' } := I.un (Un.laid k hp (I.hok.fresh hp)) (I.hok.laid k hp new)
/-- an object written -/
theorem Inv.write {x e : Addr} {o : HO} {t' : Nat} (I : Inv X pins σ H s) (mu : Mut (H x)) (he : e = x ∨ H e = some (.own x)) (k : ∀ b u, b ≠ e → s.heap.get? b = some u → h'.get? b = some u) (heo : ∃ u, h'.get? e = some u)
    (new : ObjOk X.prog X.w (upd H x o) h' x o) : Inv X pins σ (upd H x o) { s with heap := h', toks := t' } := I.un (Un.write mu he k heo) (I.hok.write mu he k heo new)
/-- forgetting slots, pins -/
theorem Inv.weak {σ' : List (Option V)} (I : Inv X pins σ H s) (hl : σ'.length = σ.length) (w : ∀ (i : Nat) v, σ'[i]? = some (some v) → σ[i]? = some (some v)) : Inv X pins σ' H s :=
  ⟨I.ok, I.os, I.bare, I.base, let ⟨m, hn, hl'⟩ := I.loc; ⟨m, hn, fun i x v e1 e2 e3 => hl' i x v e1 (w i v e2) e3⟩, I.cell, I.free, I.freeC, I.pin, I.hok, hl.trans I.len⟩
theorem Inv.pins_of {pins' : List (Addr × Obj)} (I : Inv X pins σ H s) (h : ∀ p ∈ pins', s.heap.get? p.1 = some p.2 ∧ H p.1 = none ∧ p.1 ≠ X.env.locals ∧ p.1 ∉ X.fs ∧ ∀ v, p.2.data ≠ .cell v) : Inv X pins' σ H s :=
  ⟨I.ok, I.os, I.bare, I.base, I.loc, I.cell, I.free, I.freeC, fun p hp => (List.mem_append.mp hp).elim (fun z => I.pin p (List.mem_append_left _ z)) (h p), I.hok, I.len⟩

theorem nodup_ix {N : List Str} (hN : N.Nodup) {i j : Nat} {x : Str} (a : N[i]? = some x) (b : N[j]? = some x) : i = j := by
  obtain ⟨h1, e1⟩ := List.getElem?_eq_some_iff.mp a
  obtain ⟨h2, e2⟩ := List.getElem?_eq_some_iff.mp b
  exact (List.getElem_inj hN).mp (e1.trans e2.symm)

/-- a name is stored; what changed -/
theorem store_ok2 {M : Model} {A : Around} {E : Value → Shared → Prop} {i : Nat} {x : Str} {v : V} {u : Value} {Q : Unit → Shared → Prop} (I : Inv X pins σ H s) (hN : X.N.Nodup) (hi : X.N[i]? = some x) (hx : Loc X.env.scope x) (r : RelV v u)
    (h : ∀ s', Inv X pins (σ.set i (some v)) H s' → (∃ a, Heap.SameBut a s.heap s'.heap ∧ (a = X.env.locals ∨ X.env.cells.lookup x = some a)) → Q () s') (hf : X.fn x = true ∨ X.env.scope.names.lookup x = some .local := by first | exact .inl rfl | exact .inr rfl | assumption) : wpAny M A (storeName X.env x u) Q E s := by
  obtain ⟨m, hn, hl⟩ := id I.loc
  have hcls : (X.env.scope.kind == .class || (X.env.scope.kind == .module && X.env.locals != X.env.globals)) = false := by rw [I.ok.kind]; rfl
  have hiσ : i < σ.length := by rw [I.len]; exact (List.getElem?_eq_some_iff.mp hi).1
  have cne := I.cne
  have tracked : ∀ {a : Addr} {h' : Heap}, (∃ o, s.heap.get? a = some o ∧ H a = none) → Heap.SameBut a s.heap h' → HOk X.prog X.w H h' := fun {a h'} ha hs b ob e => by
    obtain ⟨_, _, hfree⟩ := ha
    refine (I.hok b ob e).stay (fun c w' hc q => (hs.2 c ?_).trans q) (fun _ q => q) fun _ _ q => q
    rintro rfl
    rcases hc with rfl | hc
    · rw [hfree] at e; cases e
    · rw [hfree] at hc; cases hc
  rcases hx with hk | hk
  · refine wpAny_storeName_local hk hn (fun h' hn' hs => ?_) hcls
    obtain ⟨oL, _, _, hoL, _⟩ := id hn
    refine h _ ⟨I.ok, I.os, I.bare, ⟨fun b o e n hb hx => ?_, fun b o e n hb hx => ?_, I.base.free, fun b o e hx => ?_, I.base.tups, I.base.frzs, I.base.tbls⟩, ⟨_, hn', fun j y v' e1 e2 e3 => ?_⟩, fun y c e => ?_, I.free, I.freeC, fun p hp => ?_, tracked ⟨oL, hoL, I.free⟩ hs, by simpa using I.len⟩ ⟨_, hs, .inl rfl⟩
    · exact (hs.2 b (Nat.ne_of_lt (Nat.lt_of_lt_of_le (Heap.lt_size e) I.ok.above))).trans (I.base.keep b o e n hb hx)
    · obtain ⟨sl, e1⟩ := I.base.slot b o e n hb hx
      exact ⟨sl, (hs.2 b (Nat.ne_of_lt (Nat.lt_of_lt_of_le (Heap.lt_size e) I.ok.above))).trans e1⟩
    · obtain ⟨o', e1⟩ := I.base.there b o e hx
      exact ⟨o', (hs.2 b (Nat.ne_of_lt (Nat.lt_of_lt_of_le (Heap.lt_size e) I.ok.above))).trans e1⟩
    · by_cases hj : j = i
      · subst hj
        rw [hi] at e1; cases e1
        rw [List.getElem?_set_self hiσ] at e2
        cases e2
        exact ⟨u, r, .inl ⟨hk, by simp⟩⟩
      · rw [List.getElem?_set_ne (Ne.symm hj)] at e2
        obtain ⟨u', r', q⟩ := hl j y v' e1 e2 e3
        refine ⟨u', r', ?_⟩
        rcases q with ⟨k, e⟩ | ⟨k, c, e, z⟩
        · refine .inl ⟨k, ?_⟩
          have : y ≠ x := fun e => hj (nodup_ix hN e1 (e ▸ hi))
          simp [this, e]
        · exact .inr ⟨k, c, e, z.sameBut hs (cne y c e)⟩
    · obtain ⟨w', z⟩ := I.cell y c e
      exact ⟨w', z.sameBut hs (cne y c e)⟩
    · obtain ⟨e, n, ne, nf, d⟩ := I.pin p hp
      exact ⟨(hs.2 p.1 ne).trans e, n, ne, nf, d⟩
  · have hfn : X.fn x = true := by
      rcases hf with z | z
      · exact z
      · rw [z] at hk; cases hk
    obtain ⟨c, hc⟩ := I.ok.has x (.inl hk)
    obtain ⟨w', z⟩ := I.cell x c hc
    refine wpAny_storeName_cell I.ok.kind hk hc z (fun h' hc' hs => ?_)
    obtain ⟨oc, hoc, hocd⟩ := id z
    refine h { s with heap := h' } ⟨I.ok, I.os, I.bare, ⟨fun b o e n hb hx => ?_, fun b o e n hb hx => ?_, I.base.free, fun b o e hx => ?_, I.base.tups, I.base.frzs, I.base.tbls⟩, ⟨m, hn.sameBut hs (Ne.symm (cne x c hc)), fun j y v' e1 e2 e3 => ?_⟩, fun y c' e => ?_, I.free, I.freeC, fun p hp => ?_, tracked ⟨oc, hoc, I.freeC x c hc⟩ hs, by simpa using I.len⟩ ⟨c, hs, .inr hc⟩
    · exact (hs.2 b (Nat.ne_of_lt (Nat.lt_of_lt_of_le (Heap.lt_size e) (I.ok.cab x c hfn hc)))).trans (I.base.keep b o e n hb hx)
    · obtain ⟨sl, e1⟩ := I.base.slot b o e n hb hx
      exact ⟨sl, (hs.2 b (Nat.ne_of_lt (Nat.lt_of_lt_of_le (Heap.lt_size e) (I.ok.cab x c hfn hc)))).trans e1⟩
    · obtain ⟨o', e1⟩ := I.base.there b o e hx
      exact ⟨o', (hs.2 b (Nat.ne_of_lt (Nat.lt_of_lt_of_le (Heap.lt_size e) (I.ok.cab x c hfn hc)))).trans e1⟩
    · by_cases hj : j = i
      · subst hj
        rw [hi] at e1; cases e1
        rw [List.getElem?_set_self hiσ] at e2
        cases e2
        exact ⟨u, r, .inr ⟨.inl hk, c, hc, hc'⟩⟩
      · rw [List.getElem?_set_ne (Ne.symm hj)] at e2
        obtain ⟨u', r', q⟩ := hl j y v' e1 e2 e3
        refine ⟨u', r', ?_⟩
        rcases q with q | ⟨k, c', e, z'⟩
        · exact .inl q
        · refine .inr ⟨k, c', e, z'.sameBut hs ?_⟩
          rintro rfl
          exact hj (nodup_ix hN e1 (I.ok.inj _ _ _ e hc ▸ hi))
    · by_cases hcc : c' = c
      · subst hcc; exact ⟨_, hc'⟩
      · obtain ⟨w2, z2⟩ := I.cell y c' e
        exact ⟨w2, z2.sameBut hs hcc⟩
    · obtain ⟨e, n, ne, nf, d⟩ := I.pin p hp
      refine ⟨(hs.2 p.1 ?_).trans e, n, ne, nf, d⟩
      intro q
      rw [q, hoc] at e
      have q' : oc = p.2 := Option.some.inj e
      exact d w' (by rw [← q']; exact hocd)
theorem store_ok {M : Model} {A : Around} {E : Value → Shared → Prop} {i : Nat} {x : Str} {v : V} {u : Value} {Q : Unit → Shared → Prop} (I : Inv X pins σ H s) (hN : X.N.Nodup) (hi : X.N[i]? = some x) (hx : Loc X.env.scope x) (r : RelV v u)
    (h : ∀ s', Inv X pins (σ.set i (some v)) H s' → Q () s') (hf : X.fn x = true ∨ X.env.scope.names.lookup x = some .local := by first | exact .inl rfl | exact .inr rfl | assumption) : wpAny M A (storeName X.env x u) Q E s :=
  store_ok2 I hN hi hx r (fun s' I' _ => h s' I') hf
/-- behind a call or a block, the state as it is -/
theorem Inv.call' {s' : Shared} {ch : List Addr} (I : Inv X pins σ H s) (ho : s'.os = s.os) (u : Un (frs X.stack) ch H H' s.heap s'.heap) (hok : HOk X.prog X.w H' s'.heap) (hg : AllBare s'.gens)
    (hch : ∀ b ∈ ch, (b ∈ X.ex ∨ X.s₀.heap.objs.size ≤ b) ∧ b ≠ X.env.locals ∧ (∀ x c, X.env.cells.lookup x = some c → c ≠ b) ∧ ∀ p ∈ X.pn ++ pins, p.1 ≠ b) : Inv X pins σ H' s' := by
  obtain ⟨h', g', d', t', o'⟩ := s'
  have e : o' = s.os := ho
  subst e
  exact I.call (g' := g') (t' := t') (d' := d') u hok hg hch
end

/-! ### the judgements -/
/-- an exception: its class, its own dict's address (where it has one), the abstract heap behind it -/
abbrev XK := Value → Option Addr → Hp → Prop
abbrev St := List (Option V)
abbrev VK := V → Hp → Prop
/-- an expression's reading; a test's; an argument list's -/
abbrev TE := St → Hp → VK → Prop
abbrev TT := St → Hp → (Bool → Hp → Prop) → Prop
abbrev TA := St → Hp → (List V → Hp → Prop) → Prop
/-- what is wanted behind a statement -/
structure Ends where
  nx : St → Hp → Prop
  rt : VK
  bk : St → Hp → Prop := fun _ _ => False
  ct : St → Hp → Prop := fun _ _ => False
abbrev TS := Ends → St → Hp → Prop

def EP (X : Cx) (pins : List (Addr × Obj)) (σ : St) (Q : VK) (u : Value) (s' : Shared) : Prop := ∃ v H', Inv X pins σ H' s' ∧ RelV v u ∧ Q v H'
def TP (X : Cx) (pins : List (Addr × Obj)) (σ : St) (Q : Bool → Hp → Prop) (b : Bool) (s' : Shared) : Prop := ∃ H', Inv X pins σ H' s' ∧ Q b H'
def AP (X : Cx) (pins : List (Addr × Obj)) (σ : St) (Q : List V → Hp → Prop) (us : List Value) (s' : Shared) : Prop := ∃ vs H', Inv X pins σ H' s' ∧ Vals vs us ∧ Q vs H'
def SP (X : Cx) (pins : List (Addr × Obj)) (D : Ends) (f : Flow) (s' : Shared) : Prop :=
  match f with
  | .next => ∃ σ' H', Inv X pins σ' H' s' ∧ D.nx σ' H'
  | .brk => ∃ σ' H', Inv X pins σ' H' s' ∧ D.bk σ' H'
  | .cont => ∃ σ' H', Inv X pins σ' H' s' ∧ D.ct σ' H'
  | .ret u => ∃ v σ' H', Inv X pins σ' H' s' ∧ RelV v u ∧ D.rt v H'

def PE (X : Cx) (e : Expr) (t : TE) : Prop :=
  ∀ (pins : List (Addr × Obj)) (s : Shared) (σ : St) (H : Hp) (Q : VK), Inv X pins σ H s → t σ H Q → wpAny (model X.prog X.w) X.A (eval e X.env) (EP X pins σ Q) X.xe s
def PT (X : Cx) (e : Expr) (t : TT) : Prop :=
  ∀ (pins : List (Addr × Obj)) (s : Shared) (σ : St) (H : Hp) (Q : Bool → Hp → Prop), Inv X pins σ H s → t σ H Q → wpAny (model X.prog X.w) X.A (isTrue e X.env (eval e X.env)) (TP X pins σ Q) X.xe s
/-- a test whatever its 'whole' is (and, or) -/
def PW (X : Cx) (e : Expr) (t : TT) : Prop :=
  ∀ (whole : Sem Value) (pins : List (Addr × Obj)) (s : Shared) (σ : St) (H : Hp) (Q : Bool → Hp → Prop), Inv X pins σ H s → t σ H Q → wpAny (model X.prog X.w) X.A (isTrue e X.env whole) (TP X pins σ Q) X.xe s
theorem PW.pt {X : Cx} {e : Expr} {t : TT} (h : PW X e t) : PT X e t := h _
/-- an argument list (no star), from the left -/
def PA (X : Cx) (es : List Expr) (t : TA) : Prop :=
  ∀ (pos : Pos) (pins : List (Addr × Obj)) (s : Shared) (σ : St) (H : Hp) (Q : List V → Hp → Prop), Inv X pins σ H s → t σ H Q → wpAny (model X.prog X.w) X.A (spliced (backTo pos (starEach es X.env))) (AP X pins σ Q) X.xe s
def PS (X : Cx) (st : Stmt) (t : TS) : Prop :=
  ∀ (pins : List (Addr × Obj)) (s : Shared) (σ : St) (H : Hp) (D : Ends), Inv X pins σ H s → t D σ H → wpAny (model X.prog X.w) X.A (exec st X.env) (SP X pins D) X.xe s
def PSs (X : Cx) (st : List Stmt) (t : TS) : Prop :=
  ∀ (pins : List (Addr × Obj)) (s : Shared) (σ : St) (H : Hp) (D : Ends), Inv X pins σ H s → t D σ H → wpAny (model X.prog X.w) X.A (execs st X.env) (SP X pins D) X.xe s
/-- weaken the end -/
theorem thn {α : Type} {t : Sem α} {Q Q' : α → Shared → Prop} {M : Model} {A : Around} {E : Value → Shared → Prop} {s : Shared} (h : wpAny M A t Q E s) (hQ : ∀ a s, Q a s → Q' a s) : wpAny M A t Q' E s := wpAny_mono h hQ fun _ _ x => x
end L2

namespace L2
open PySem PySem.Spec PyProof.Rows
section
variable {X : Cx}

/-- two expressions in a row -/
theorem bin {a b : Expr} {ta tb : TE} (ha : PE X a ta) (hb : PE X b tb) {pins : List (Addr × Obj)} {s : Shared} {σ : St} {H : Hp} {R : V → V → Hp → Prop} (I : Inv X pins σ H s) (h : ta σ H fun x H1 => tb σ H1 fun y H2 => R x y H2)
    {α : Type} {Q : α → Shared → Prop} {f : Value → Value → Sem α}
    (hf : ∀ v u s2 x y H2, Inv X pins σ H2 s2 → RelV x v → RelV y u → R x y H2 → wpAny (model X.prog X.w) X.A (f v u) Q X.xe s2) :
    wpAny (model X.prog X.w) X.A (eval a X.env) (fun v s₁ => wpAny (model X.prog X.w) X.A (eval b X.env) (fun u s₂ => wpAny (model X.prog X.w) X.A (f v u) Q X.xe s₂) X.xe s₁) X.xe s := by
  refine thn (ha pins s σ H _ I h) fun v s1 ⟨x, H1, I1, r1, q1⟩ => ?_
  refine thn (hb pins s1 σ H1 _ I1 q1) fun u s2 ⟨y, H2, I2, r2, q2⟩ => ?_
  exact hf v u s2 x y H2 I2 r1 r2 q2

/-! ### names and constants -/
def tVar (i : Nat) : TE := fun σ H Q => ∃ v, σ[i]? = some (some v) ∧ Q v H
def tC (v : V) : TE := fun _ H Q => Q v H
theorem pe_var {i : Nat} {x : Str} {pos : Pos} (hN : X.N[i]? = some x) (hv : Vis X.env.scope x) (hd : (x == ("__debug__" : Str)) = false := by decide) (hcd : (x == ("__classdict__" : Str)) = false := by decide) : PE X (.Name x pos) (tVar i) := by
  intro pins s σ H Q I h
  obtain ⟨v, e, h⟩ := h
  obtain ⟨m, hn, hl⟩ := I.loc
  obtain ⟨u, r, l⟩ := hl i x v hN e hv
  have fin : EP X pins σ Q u s := ⟨v, H, I, r, h⟩
  rcases l with ⟨hk, hm⟩ | ⟨hk, c, hc, hcell⟩
  · exact wpAny_Name (wpAny_loadName_local I.ok.kind hk hn hm fin) hd
  · rcases hk with hk | hk
    · exact wpAny_Name (wpAny_loadName_cell I.ok.kind hk hc hcell fin) hd
    · exact wpAny_Name (wpAny_loadName_free I.ok.kind hk hc hcell fin hcd) hd
theorem pe_int {i j pos} : PE X (.Constant (.int i) j pos) (tC (.int i)) := fun _ _ _ H _ I h => wpAny_Constant_int ⟨.int i, H, I.tok _, ⟨_, rfl⟩, h⟩
theorem pe_bl {b j pos} : PE X (.Constant (.bool b) j pos) (tC (.bl b)) := fun _ _ _ H _ I h => Constant_bool ⟨.bl b, H, I, rfl, h⟩
theorem pe_non {j pos} : PE X (.Constant .none j pos) (tC .non) := fun _ _ _ H _ I h => Constant_none ⟨.non, H, I, rfl, h⟩
theorem pe_str {x j pos} : PE X (.Constant (.str x) j pos) (tC (.str x)) := fun _ _ _ H _ I h => Calls.Constant_str ⟨.str x, H, I.tok _, ⟨_, rfl⟩, h⟩

/-- a global name of the def -/
def Gl (X : Cx) (x : Str) : Prop := X.env.kindOf x = some .globalImplicit
theorem ld_glob {E : Value → Shared → Prop} {pins : List (Addr × Obj)} {s : Shared} {σ : St} {H : Hp} {x : Str} {u : Value} {pos : Pos} {Q : Value → Shared → Prop} (I : Inv X pins σ H s) (hg : Gl X x) (hm : X.mg x = some u) (h : Q u s)
    (hd : (x == ("__debug__" : Str)) = false := by decide) : wpAny (model X.prog X.w) X.A (eval (.Name x pos) X.env) Q E s :=
  Calls.Name_function_global I.ok.kind hg (Calls.loadGlobal_global (by rw [I.ok.glob]; exact I.mod.glob.keeps I.bk) hm h) hd
theorem ld_blt {E : Value → Shared → Prop} {pins : List (Addr × Obj)} {s : Shared} {σ : St} {H : Hp} {x : Str} {u : Value} {pos : Pos} {Q : Value → Shared → Prop} (I : Inv X pins σ H s) (hg : Gl X x) (hm : X.mg x = none) (hv : bootBuiltins x = some u) (h : Q u s)
    (hn : x ≠ "__name__" := by decide) (hd : (x == ("__debug__" : Str)) = false := by decide) : wpAny (model X.prog X.w) X.A (eval (.Name x pos) X.env) Q E s := by
  obtain ⟨mb, h1, h2⟩ := I.mod.blt
  exact Calls.Name_function_global I.ok.kind hg (Calls.loadGlobal_builtin (by rw [I.ok.glob]; exact I.mod.glob.keeps I.bk) hm (by rw [I.ok.blt]; exact h1.keeps I.bk) ((h2 x hn).trans hv) h) hd
/-- a module's constant, a class, a function, as a value -/
theorem pe_glob {x : Str} {v : V} {u : Value} {pos : Pos} (hg : Gl X x) (hm : X.mg x = some u) (r : RelV v u) (hd : (x == ("__debug__" : Str)) = false := by decide) : PE X (.Name x pos) (tC v) :=
  fun _ _ _ H _ I h => ld_glob I hg hm ⟨v, H, I, r, h⟩ hd
theorem pe_bltn {x : Str} {v : V} {u : Value} {pos : Pos} (hg : Gl X x) (hm : X.mg x = none) (hv : bootBuiltins x = some u) (r : RelV v u) (hn : x ≠ "__name__" := by decide) (hd : (x == ("__debug__" : Str)) = false := by decide) : PE X (.Name x pos) (tC v) :=
  fun _ _ _ H _ I h => ld_blt I hg hm hv ⟨v, H, I, r, h⟩ hn hd

/-! ### arithmetic -/
/-- two ints -/
def t2I (ta tb : TE) (k : Int → Int → Hp → Prop) : St → Hp → Prop := fun σ H => ta σ H fun x H1 => tb σ H1 fun y H2 => ∃ i j, x = .int i ∧ y = .int j ∧ k i j H2
def tAdd (ta tb : TE) : TE := fun σ H Q => t2I ta tb (fun i j H2 => Q (.int (i + j)) H2) σ H
def tSub (ta tb : TE) : TE := fun σ H Q => t2I ta tb (fun i j H2 => Q (.int (i - j)) H2) σ H
/-- the left factor below 2^64 -/
def tMul (ta tb : TE) : TE := fun σ H Q => t2I ta tb (fun i j H2 => (-(2 ^ 64) < i ∧ i < 2 ^ 64) ∧ Q (.int (i * j)) H2) σ H
variable {a b : Expr} {ta tb : TE} {pos : Pos}
theorem pe_add (ha : PE X a ta) (hb : PE X b tb) : PE X (.BinOp a .Add b pos) (tAdd ta tb) := by
  intro pins s σ H Q I h
  refine wpAny_BinOp (bin ha hb I h fun v u s2 x y H2 I2 rx ry q => ?_)
  obtain ⟨i, j, rfl, rfl, q⟩ := q
  obtain ⟨t, rfl⟩ := rx
  obtain ⟨t', rfl⟩ := ry
  exact add_int ⟨.int _, H2, I2.tok _, ⟨_, rfl⟩, q⟩
theorem pe_sub (ha : PE X a ta) (hb : PE X b tb) : PE X (.BinOp a .Sub b pos) (tSub ta tb) := by
  intro pins s σ H Q I h
  refine wpAny_BinOp (bin ha hb I h fun v u s2 x y H2 I2 rx ry q => ?_)
  obtain ⟨i, j, rfl, rfl, q⟩ := q
  obtain ⟨t, rfl⟩ := rx
  obtain ⟨t', rfl⟩ := ry
  exact sub_int ⟨.int _, H2, I2.tok _, ⟨_, rfl⟩, q⟩
theorem pe_mul (ha : PE X a ta) (hb : PE X b tb) : PE X (.BinOp a .Mult b pos) (tMul ta tb) := by
  intro pins s σ H Q I h
  refine wpAny_BinOp (bin ha hb I h fun v u s2 x y H2 I2 rx ry q => ?_)
  obtain ⟨i, j, rfl, rfl, ⟨q1, q2⟩, q⟩ := q
  obtain ⟨t, rfl⟩ := rx
  obtain ⟨t', rfl⟩ := ry
  exact mul_int ⟨.int _, H2, I2.tok _, ⟨_, rfl⟩, q⟩ (.of_left (intBits_le_64 q1 q2))

/-! ### comparisons -/
def PC (X : Cx) (op : CmpOp) (a b : Expr) (t : TE) : Prop :=
  ∀ (pins : List (Addr × Obj)) (s : Shared) (σ : St) (H : Hp) (Q : VK), Inv X pins σ H s → t σ H Q →
    wpAny (model X.prog X.w) X.A (eval a X.env) (fun v s₁ => wpAny (model X.prog X.w) X.A (eval b X.env) (fun u s₂ => wpAny (model X.prog X.w) X.A (compareOp op v u) (EP X pins σ Q) X.xe s₂) X.xe s₁) X.xe s
theorem nobehind (b : Expr) {op : CmpOp} (h : op ≠ .In) (h2 : op ≠ .NotIn) : behindInMarks op b = false := by
  have e1 : (op == CmpOp.In) = false := by cases op <;> first | rfl | exact absurd rfl h
  have e2 : (op == CmpOp.NotIn) = false := by cases op <;> first | rfl | exact absurd rfl h2
  cases b <;> simp [behindInMarks, e1, e2]
def tCmp (p : Int → Int → Bool) (ta tb : TE) : TE := fun σ H Q => t2I ta tb (fun i j H2 => Q (.bl (p i j)) H2) σ H
abbrev tLt : TE → TE → TE := tCmp fun i j => decide (i < j)
abbrev tLe : TE → TE → TE := tCmp fun i j => decide (i ≤ j)
abbrev tGt : TE → TE → TE := tCmp fun i j => decide (j < i)
abbrev tGe : TE → TE → TE := tCmp fun i j => decide (j ≤ i)
abbrev tEqI : TE → TE → TE := tCmp fun i j => decide (i = j)
abbrev tNeI : TE → TE → TE := tCmp fun i j => !decide (i = j)
/-- a comparison of two ints, by its rule -/
theorem pc_int {op : CmpOp} {p : Int → Int → Bool} (ha : PE X a ta) (hb : PE X b tb)
    (rule : ∀ (i j : Int) (t u : Tok) (Q : Value → Shared → Prop) (s : Shared), Q (.bool (p i j)) s → wpAny (model X.prog X.w) X.A (compareOp op (.int i t) (.int j u)) Q X.xe s) : PC X op a b (tCmp p ta tb) := by
  intro pins s σ H Q I h
  refine bin ha hb I h fun v u s2 x y H2 I2 rx ry q => ?_
  obtain ⟨i, j, rfl, rfl, q⟩ := q
  obtain ⟨t, rfl⟩ := rx
  obtain ⟨t', rfl⟩ := ry
  exact rule i j t t' _ s2 ⟨.bl _, H2, I2, rfl, q⟩
theorem pc_lt (ha : PE X a ta) (hb : PE X b tb) : PC X .Lt a b (tLt ta tb) := pc_int ha hb fun _ _ _ _ _ _ h => lt_int h
theorem pc_le (ha : PE X a ta) (hb : PE X b tb) : PC X .LtE a b (tLe ta tb) := pc_int ha hb fun _ _ _ _ _ _ h => le_int h
theorem pc_gt (ha : PE X a ta) (hb : PE X b tb) : PC X .Gt a b (tGt ta tb) := pc_int ha hb fun _ _ _ _ _ _ h => gt_int h
theorem pc_ge (ha : PE X a ta) (hb : PE X b tb) : PC X .GtE a b (tGe ta tb) := pc_int ha hb fun _ _ _ _ _ _ h => ge_int h
theorem pc_eqI (ha : PE X a ta) (hb : PE X b tb) : PC X .Eq a b (tEqI ta tb) := pc_int ha hb fun _ _ _ _ _ _ h => eq_int (by rw [Bool.beq_eq_decide_eq]; exact h)
theorem pc_neI (ha : PE X a ta) (hb : PE X b tb) : PC X .NotEq a b (tNeI ta tb) := pc_int ha hb fun _ _ _ _ _ _ h => ne_int (by rw [bne, Bool.beq_eq_decide_eq]; exact h)
/-- is None -/
def tIsN (ta : TE) : TE := fun σ H Q => ta σ H fun x H1 => Q (.bl (decide (x = .non))) H1
def tNotN (ta : TE) : TE := fun σ H Q => ta σ H fun x H1 => Q (.bl (!decide (x = .non))) H1
theorem RelV.none_iff {x : V} {v : Value} (r : RelV x v) : (v == Value.none) = decide (x = .non) := by
  cases x with
  | non => cases r; rfl
  | bl _ => cases r; rfl
  | int _ => obtain ⟨t, rfl⟩ := r; rfl
  | str _ => obtain ⟨t, rfl⟩ := r; rfl
  | byt _ => obtain ⟨t, rfl⟩ := r; rfl
  | flt _ => obtain ⟨t, rfl⟩ := r; rfl
  | ref _ => cases r; rfl
  | ty _ => cases r; rfl
theorem pc_isN {j pos'} (ha : PE X a ta) : PC X .Is a (.Constant .none j pos') (tIsN ta) := by
  intro pins s σ H Q I h
  refine thn (ha pins s σ H _ I h) fun v s1 ⟨x, H1, I1, r1, q1⟩ => ?_
  exact Constant_none (is_none_gen ⟨.bl _, H1, I1, by rw [r1.none_iff]; rfl, q1⟩)
theorem pc_notN {j pos'} (ha : PE X a ta) : PC X .IsNot a (.Constant .none j pos') (tNotN ta) := by
  intro pins s σ H Q I h
  refine thn (ha pins s σ H _ I h) fun v s1 ⟨x, H1, I1, r1, q1⟩ => ?_
  exact Constant_none (isnot_none_gen ⟨.bl _, H1, I1, by rw [r1.none_iff]; rfl, q1⟩)
/-- a comparison as a value, as a test -/
def tB (t : TE) : TT := fun σ H Q => t σ H fun x H1 => ∃ c, x = .bl c ∧ Q c H1
theorem pe_cmp {op : CmpOp} {t : TE} (h : PC X op a b t) (h1 : behindInMarks op b = false := by first | exact nobehind _ (by decide) (by decide) | rfl) : PE X (.Compare a [op] [b] pos) t := fun pins s σ H Q I hw => wpAny_Compare1 (h pins s σ H Q I hw) h1
theorem pt_cmp {op : CmpOp} {t : TE} (h : PC X op a b t) (h1 : behindInMarks op b = false := by first | exact nobehind _ (by decide) (by decide) | rfl) : PT X (.Compare a [op] [b] pos) (tB t) := by
  intro pins s σ H Q I hw
  refine wpAny_isTrue_Compare1 (thn (h pins s σ H _ I hw) fun v s1 h1 => thn h1 fun u s2 h2 => thn h2 fun c s3 ⟨x, H1, I1, r1, q1⟩ => ?_) h1
  obtain ⟨d, rfl, q⟩ := q1
  cases r1
  exact wpAny_truthy_bool ⟨H1, I1, q⟩
/-- an expression whose value is a bool, as a test -/
theorem pt_val {e : Expr} {t : TE} (h : PE X e t) (he : ∀ whole, isTrue e X.env whole = (do let v ← whole; standAt e.pos; holding [v] (truthy v)) := by intro _; rfl) : PT X e (tB t) := by
  intro pins s σ H Q I hw
  refine isTrue_plain (thn (h pins s σ H _ I hw) fun v s1 ⟨x, H1, I1, r1, q1⟩ => ?_) (he _)
  obtain ⟨d, rfl, q⟩ := q1
  cases r1
  exact wpAny_truthy_bool ⟨H1, I1, q⟩

/-! ### and, or, not -/
variable {tA tB' : TT} {rest : List Expr}
def tAnd (t u : TT) : TT := fun σ H Q => t σ H fun c H1 => if c = true then u σ H1 Q else Q false H1
def tOr (t u : TT) : TT := fun σ H Q => t σ H fun c H1 => if c = true then Q true H1 else u σ H1 Q
def tNot (t : TT) : TT := fun σ H Q => t σ H fun c H1 => Q (!c) H1
theorem pw_and1 (ha : PT X a tA) : PW X (.BoolOp .And [a] pos) tA := by
  intro wh pins s σ H Q I h
  refine isTrue_and (thn (ha pins s σ H Q I h) fun c s1 e => ?_)
  cases c with
  | true => exact isTrue_and_nil e
  | false => exact e
theorem pw_or1 (ha : PT X a tA) : PW X (.BoolOp .Or [a] pos) tA := by
  intro wh pins s σ H Q I h
  refine isTrue_or (thn (ha pins s σ H Q I h) fun c s1 e => ?_)
  cases c with
  | false => exact isTrue_or_nil e
  | true => exact e
theorem pw_and (ha : PT X a tA) (hb : PW X (.BoolOp .And (b :: rest) pos) tB') : PW X (.BoolOp .And (a :: b :: rest) pos) (tAnd tA tB') := by
  intro wh pins s σ H Q I h
  refine isTrue_and (thn (ha pins s σ H _ I h) fun c s1 ⟨H1, I1, q1⟩ => ?_)
  cases c with
  | true => exact hb wh pins s1 σ H1 Q I1 q1
  | false => exact ⟨H1, I1, q1⟩
theorem pw_or (ha : PT X a tA) (hb : PW X (.BoolOp .Or (b :: rest) pos) tB') : PW X (.BoolOp .Or (a :: b :: rest) pos) (tOr tA tB') := by
  intro wh pins s σ H Q I h
  refine isTrue_or (thn (ha pins s σ H _ I h) fun c s1 ⟨H1, I1, q1⟩ => ?_)
  cases c with
  | true => exact ⟨H1, I1, q1⟩
  | false => exact hb wh pins s1 σ H1 Q I1 q1
theorem pt_not (ha : PT X a tA) : PT X (.UnaryOp .Not a pos) (tNot tA) := by
  intro pins s σ H Q I h
  exact isTrue_not (ha pins s σ H (fun c H1 => Q (!c) H1) I h)
/-- .. as values (bools) -/
def tAndV (ta tb : TE) : TE := fun σ H Q => ta σ H fun x H1 => ∃ c, x = .bl c ∧ if c = true then tb σ H1 Q else Q (.bl false) H1
def tOrV (ta tb : TE) : TE := fun σ H Q => ta σ H fun x H1 => ∃ c, x = .bl c ∧ if c = true then Q (.bl true) H1 else tb σ H1 Q
def tNotV (ta : TE) : TE := fun σ H Q => ta σ H fun x H1 => ∃ c, x = .bl c ∧ Q (.bl (!c)) H1
theorem pe_one {op} {t : TE} (h : PE X a t) : PE X (.BoolOp op [a] pos) t := fun pins s σ H Q I hw => BoolOp_one (h pins s σ H Q I hw)
theorem pe_and (ha : PE X a ta) (hb : PE X (.BoolOp .And (b :: rest) pos) tb) : PE X (.BoolOp .And (a :: b :: rest) pos) (tAndV ta tb) := by
  intro pins s σ H Q I h
  refine BoolOp_and (thn (ha pins s σ H _ I h) fun v s1 ⟨x, H1, I1, r1, q1⟩ => ?_)
  obtain ⟨c, rfl, q1⟩ := q1
  cases r1
  refine wpAny_truthy_bool ?_
  cases c with
  | true => exact hb pins s1 σ H1 Q I1 q1
  | false => exact ⟨.bl false, H1, I1, rfl, q1⟩
theorem pe_or (ha : PE X a ta) (hb : PE X (.BoolOp .Or (b :: rest) pos) tb) : PE X (.BoolOp .Or (a :: b :: rest) pos) (tOrV ta tb) := by
  intro pins s σ H Q I h
  refine BoolOp_or (thn (ha pins s σ H _ I h) fun v s1 ⟨x, H1, I1, r1, q1⟩ => ?_)
  obtain ⟨c, rfl, q1⟩ := q1
  cases r1
  refine wpAny_truthy_bool ?_
  cases c with
  | false => exact hb pins s1 σ H1 Q I1 q1
  | true => exact ⟨.bl true, H1, I1, rfl, q1⟩
theorem pe_not (ha : PE X a ta) : PE X (.UnaryOp .Not a pos) (tNotV ta) := by
  intro pins s σ H Q I h
  refine UnaryOp_ (thn (ha pins s σ H _ I h) fun v s1 ⟨x, H1, I1, r1, q1⟩ => ?_)
  obtain ⟨c, rfl, q1⟩ := q1
  cases r1
  exact not_of (wpAny_truthy_bool ⟨.bl (!c), H1, I1, rfl, q1⟩)
/-- a if t else b -/
def tIf (t : TT) (ta tb : TE) : TE := fun σ H Q => t σ H fun c H1 => if c = true then ta σ H1 Q else tb σ H1 Q
theorem pe_ifExp {c : Expr} (hc : PT X c tA) (ha : PE X a ta) (hb : PE X b tb) : PE X (.IfExp c a b pos) (tIf tA ta tb) := by
  intro pins s σ H Q I h
  refine wpAny_IfExp (thn (hc pins s σ H _ I h) fun d s1 ⟨H1, I1, q1⟩ => ?_)
  cases d with
  | true => exact ha pins s1 σ H1 Q I1 q1
  | false => exact hb pins s1 σ H1 Q I1 q1
end
end L2

namespace L2
open PySem PySem.Spec PyProof.Rows

/-! ### a list, a tuple that is read: tracked, frozen, or an object of the module -/
def SqL (K : PySem.W.Frag) (H : Hp) (a : Addr) (xs : List V) : Prop :=
  Rd H a (.lst xs) ∨
    ∃ (o : Obj) (its : Array Value) (n : Nat), K.lookup a = some o ∧ o.cls = .type "list" ∧ o.dict = none ∧ o.data = .seq its n ∧ its.size ≤ sizeLine ∧ Vals xs its.toList
def SqT (K : PySem.W.Frag) (H : Hp) (a : Addr) (xs : List V) : Prop :=
  Rd H a (.tup xs) ∨
    ∃ (o : Obj) (its : Array Value) (n : Nat), K.lookup a = some o ∧ o.cls = .type "tuple" ∧ o.data = .seq its n ∧ its.size ≤ sizeLine ∧ Vals xs its.toList
def absV : Value → Option V
  | .none => some .non
  | .bool b => some (.bl b)
  | .int i _ => some (.int i)
  | .str x _ => some (.str x)
  | .bytes b _ => some (.byt b)
  | .float b _ => some (.flt b)
  | .ref a => some (.ref a)
  | .type n => some (.ty n)
  | _ => none
theorem RelV.abs {x : V} {u : Value} (r : RelV x u) : absV u = some x := by
  cases x with
  | non => cases r; rfl
  | bl _ => cases r; rfl
  | int _ => obtain ⟨t, rfl⟩ := r; rfl
  | str _ => obtain ⟨t, rfl⟩ := r; rfl
  | byt _ => obtain ⟨t, rfl⟩ := r; rfl
  | flt _ => obtain ⟨t, rfl⟩ := r; rfl
  | ref _ => cases r; rfl
  | ty _ => cases r; rfl
theorem RelV.inj {x y : V} {u : Value} (r : RelV x u) (q : RelV y u) : x = y := Option.some.inj (r.abs.symm.trans q.abs)
theorem Vals.inj : ∀ {xs ys : List V} {us : List Value}, Vals xs us → Vals ys us → xs = ys
  | _, _, _, .nil, .nil => rfl
  | _, _, _, .cons r t, .cons r' t' => by rw [r.inj r', Vals.inj t t']
section
variable {X : Cx} {pins : List (Addr × Obj)} {σ : St} {H : Hp} {s : Shared} {a : Addr} {xs ys : List V}
theorem SqL.of {K : PySem.W.Frag} (h : H a = some (.lst xs)) : SqL K H a xs := .inl (.inl h)
theorem SqT.of {K : PySem.W.Frag} (h : H a = some (.tup xs)) : SqT K H a xs := .inl (.inl h)
theorem Inv.list (I : Inv X pins σ H s) (h : SqL X.K H a xs) : ∃ its : List Value, Vals xs its ∧ PlainL s.heap a its.toArray ∧ xs.length ≤ sizeLine := by
  rcases h with h | ⟨o, its, n, hk, hc, hd, hs, hz, r⟩
  · obtain ⟨z, its, n, r, e⟩ := h.ok I.hok
    exact ⟨its, r, ⟨_, n, e, rfl, rfl, rfl⟩, z⟩
  · refine ⟨its.toList, r, ⟨o, n, I.kIn a o hk, hc, hd, by simpa using hs⟩, ?_⟩
    have e := r.length
    simp only [Array.length_toList] at e
    omega
theorem Inv.tuple (I : Inv X pins σ H s) (h : SqT X.K H a xs) : ∃ its : List Value, Vals xs its ∧ IsTup s.heap a its.toArray ∧ xs.length ≤ sizeLine := by
  rcases h with h | ⟨o, its, n, hk, hc, hs, hz, r⟩
  · obtain ⟨z, its, r, p⟩ := h.ok I.hok
    exact ⟨its, r, p, z⟩
  · refine ⟨its.toList, r, ⟨o, I.kIn a o hk, hc, n, by simpa using hs⟩, ?_⟩
    have e := r.length
    simp only [Array.length_toList] at e
    omega
theorem Inv.list_inj (I : Inv X pins σ H s) (h : SqL X.K H a xs) (h' : SqL X.K H a ys) : xs = ys := by
  obtain ⟨its, r, ⟨o, n, e, _, _, d⟩, _⟩ := I.list h
  obtain ⟨its', r', ⟨o', n', e', _, _, d'⟩, _⟩ := I.list h'
  rw [e] at e'; cases e'
  rw [d] at d'
  injection d' with d1 _
  have : its = its' := by simpa using congrArg Array.toList d1
  subst this
  exact r.inj r'
theorem Inv.tuple_inj (I : Inv X pins σ H s) (h : SqT X.K H a xs) (h' : SqT X.K H a ys) : xs = ys := by
  obtain ⟨its, r, ⟨o, e, _, n, d⟩, _⟩ := I.tuple h
  obtain ⟨its', r', ⟨o', e', _, n', d'⟩, _⟩ := I.tuple h'
  rw [e] at e'; cases e'
  rw [d] at d'
  injection d' with d1 _
  have : its = its' := by simpa using congrArg Array.toList d1
  subst this
  exact r.inj r'
end

/-! ### another wish about exceptions -/
abbrev Cx.wish (X : Cx) (E : Value → Shared → Prop) : Cx := { X with xe := E }
/-- no exception leaves -/
abbrev Cx.nox (X : Cx) : Cx := X.wish fun _ _ => False
theorem Cx.Ok.wish {X : Cx} (ok : X.Ok) (E : Value → Shared → Prop) : (X.wish E).Ok :=
  ⟨ok.mod, ok.kind, ok.glob, ok.blt, ok.above, ok.inj, ok.has, ok.cab, ok.hd, ok.frames, ok.stk, ok.exf, ok.bs, ok.bsz, ok.noex, ok.exfs, ok.funs, ok.frf⟩
theorem Cx.Ok.unwish {X : Cx} {E : Value → Shared → Prop} (ok : (X.wish E).Ok) : X.Ok :=
  ⟨ok.mod, ok.kind, ok.glob, ok.blt, ok.above, ok.inj, ok.has, ok.cab, ok.hd, ok.frames, ok.stk, ok.exf, ok.bs, ok.bsz, ok.noex, ok.exfs, ok.funs, ok.frf⟩
section
variable {X : Cx} {pins : List (Addr × Obj)} {σ : St} {H : Hp} {s : Shared} {E : Value → Shared → Prop}
theorem Inv.wish (I : Inv X pins σ H s) (E : Value → Shared → Prop) : Inv (X.wish E) pins σ H s := ⟨I.ok.wish E, I.os, I.bare, I.base, I.loc, I.cell, I.free, I.freeC, I.pin, I.hok, I.len⟩
theorem Inv.unwish (I : Inv (X.wish E) pins σ H s) : Inv X pins σ H s := ⟨I.ok.unwish, I.os, I.bare, I.base, I.loc, I.cell, I.free, I.freeC, I.pin, I.hok, I.len⟩
theorem SP.unwish {D : Ends} {f : Flow} {s' : Shared} (h : SP (X.wish E) pins D f s') : SP X pins D f s' := by
  cases f with
  | next => obtain ⟨σ', H', I, q⟩ := h; exact ⟨σ', H', I.unwish, q⟩
  | brk => obtain ⟨σ', H', I, q⟩ := h; exact ⟨σ', H', I.unwish, q⟩
  | cont => obtain ⟨σ', H', I, q⟩ := h; exact ⟨σ', H', I.unwish, q⟩
  | ret u => obtain ⟨v, σ', H', I, r, q⟩ := h; exact ⟨v, σ', H', I.unwish, r, q⟩
theorem PE.nox {e : Expr} {t : TE} (h : PE X.nox e t) : PE X e t := fun pins s σ H Q I hw =>
  wpAny_mono (h pins s σ H Q (I.wish _) hw) (fun _ _ ⟨v, H', I', r, q⟩ => ⟨v, H', I'.unwish, r, q⟩) fun _ _ z => False.elim z
theorem PT.nox {e : Expr} {t : TT} (h : PT X.nox e t) : PT X e t := fun pins s σ H Q I hw =>
  wpAny_mono (h pins s σ H Q (I.wish _) hw) (fun _ _ ⟨H', I', q⟩ => ⟨H', I'.unwish, q⟩) fun _ _ z => False.elim z
theorem PSs.nox {st : List Stmt} {t : TS} (h : PSs X.nox st t) : PSs X st t := fun pins s σ H D I hw =>
  wpAny_mono (h pins s σ H D (I.wish _) hw) (fun _ _ q => q.unwish) fun _ _ z => False.elim z
end

/-! ### blocks and small statements -/
section
variable {X : Cx} {st : Stmt} {rest : List Stmt} {t u : TS} {e : Expr} {te : TE} {pos : Pos}
def tNext : TS := fun D σ H => D.nx σ H
def tSeq (t u : TS) : TS := fun D σ H => t { D with nx := u D } σ H
theorem pss_nil : PSs X [] tNext := fun _ _ σ H _ I h => wpAny_execs_nil ⟨σ, H, I, h⟩
theorem pss_cons (h1 : PS X st t) (h2 : PSs X rest u) : PSs X (st :: rest) (tSeq t u) := by
  intro pins s σ H D I h
  refine wpAny_execs_cons (thn (h1 pins s σ H { D with nx := u D } I h) fun f s1 q => ?_)
  cases f with
  | next =>
    obtain ⟨σ', H', I', q⟩ := q
    exact h2 pins s1 σ' H' D I' q
  | ret v => exact q
  | brk => exact q
  | cont => exact q
theorem pss_one (h1 : PS X st t) : PSs X [st] t := by
  intro pins s σ H D I h
  refine wpAny_execs_cons (thn (h1 pins s σ H D I h) fun f s1 q => ?_)
  cases f with
  | next => exact wpAny_execs_nil q
  | ret v => exact q
  | brk => exact q
  | cont => exact q
def tBreak : TS := fun D σ H => D.bk σ H
def tCont : TS := fun D σ H => D.ct σ H
theorem ps_pass : PS X (.Pass pos) tNext := fun _ _ σ H _ I h => wpAny_Pass ⟨σ, H, I, h⟩
theorem ps_break : PS X (.Break pos) tBreak := fun _ _ σ H _ I h => wpAny_Break ⟨σ, H, I, h⟩
theorem ps_continue : PS X (.Continue pos) tCont := fun _ _ σ H _ I h => wpAny_Continue ⟨σ, H, I, h⟩
/-- in a def's body nothing is shown -/
theorem Inv.quiet {pins : List (Addr × Obj)} {σ : St} {H : Hp} {s : Shared} (I : Inv X pins σ H s) : interactive X.env = false := by simp [interactive, I.ok.kind]
/-- a docstring -/
theorem ps_doc {x j pos pos'} : PS X (.Expr (.Constant (.str x) j pos) pos') tNext := fun _ s σ H _ I h => wpAny_Expr (Calls.Constant_str (show SP X _ _ .next { s with toks := s.toks + 1 } from ⟨σ, H, I.tok _, h⟩)) I.quiet
/-- an expression whose value is dropped -/
def tDrop (te : TE) : TS := fun D σ H => te σ H fun _ H1 => D.nx σ H1
theorem ps_expr (he : PE X e te) (hs : swapsWith e none pos.line X.env = pure false := by rfl) : PS X (.Expr e pos) (tDrop te) := by
  intro pins s σ H D I h
  exact wpAny_Expr_any (thn (he pins s σ H _ I h) fun v s1 ⟨x, H1, I1, r1, q1⟩ => ⟨σ, H1, I1, q1⟩) I.quiet hs
def tRet (te : TE) : TS := fun D σ H => te σ H D.rt
theorem ps_ret (he : PE X e te) : PS X (.Return (some e) pos) (tRet te) := by
  intro pins s σ H D I h
  exact wpAny_Return_some (thn (he pins s σ H _ I h) fun v s1 ⟨x, H1, I1, r1, q1⟩ => ⟨x, σ, H1, I1, r1, q1⟩)
def tRetN : TS := fun D _ H => D.rt .non H
theorem ps_retN : PS X (.Return none pos) tRetN := fun _ _ σ H _ I h => wpAny_Return_none ⟨.non, σ, H, I, rfl, h⟩
def tIfS (c : TT) (t u : TS) : TS := fun D σ H => c σ H fun b H1 => if b = true then t D σ H1 else u D σ H1
theorem ps_if {c : Expr} {a b : List Stmt} {tc : TT} (hc : PT X c tc) (ha : PSs X a t) (hb : PSs X b u) : PS X (.If c a b pos) (tIfS tc t u) := by
  intro pins s σ H D I h
  refine wpAny_If (thn (hc pins s σ H _ I h) fun d s1 ⟨H1, I1, q1⟩ => ?_)
  cases d with
  | true => exact ha pins s1 σ H1 D I1 q1
  | false => exact hb pins s1 σ H1 D I1 q1
/-- code that the proof never comes to -/
def tNever : TS := fun _ _ _ => False
theorem ps_never : PS X st tNever := fun _ _ _ _ _ _ h => h.elim
theorem pss_never {sts : List Stmt} : PSs X sts tNever := fun _ _ _ _ _ _ h => h.elim
end

/-! ### targets -/
abbrev TG := V → St → Hp → (St → Hp → Prop) → Prop
abbrev TGs := List V → St → Hp → (St → Hp → Prop) → Prop
def PG (X : Cx) (target : Expr) (t : TG) : Prop :=
  ∀ (pins : List (Addr × Obj)) (s : Shared) (σ : St) (H : Hp) (v : V) (u : Value) (Q : St → Hp → Prop), Inv X pins σ H s → RelV v u → t v σ H Q →
    wpAny (model X.prog X.w) X.A (assign target X.env u) (fun _ s' => ∃ σ' H', Inv X pins σ' H' s' ∧ Q σ' H') X.xe s
/-- several targets, one after another -/
def PGs (X : Cx) (ts : List Expr) (t : TGs) : Prop :=
  ∀ (pins : List (Addr × Obj)) (s : Shared) (σ : St) (H : Hp) (vs : List V) (us : List Value) (Q : St → Hp → Prop), Inv X pins σ H s → Vals vs us → t vs σ H Q →
    wpAny (model X.prog X.w) X.A (assignInOrder ((assignEach ts X.env).map (·.2)) us) (fun _ s' => ∃ σ' H', Inv X pins σ' H' s' ∧ Q σ' H') X.xe s
/-- o[i] = v, by values -/
abbrev TSet := V → V → V → Hp → (Hp → Prop) → Prop
def PSet (X : Cx) (t : TSet) : Prop :=
  ∀ (pins : List (Addr × Obj)) (s : Shared) (σ : St) (H : Hp) (o i v : V) (ov iv u : Value) (Q : Hp → Prop), Inv X pins σ H s → RelV o ov → RelV i iv → RelV v u → t o i v H Q →
    wpAny (model X.prog X.w) X.A (setItem ov iv u) (fun _ s' => ∃ H', Inv X pins σ H' s' ∧ Q H') X.xe s
/-- a op= b, by values -/
abbrev TIp := V → V → Hp → VK → Prop
def PIp (X : Cx) (op : Operator) (t : TIp) : Prop :=
  ∀ (pins : List (Addr × Obj)) (s : Shared) (σ : St) (H : Hp) (x y : V) (v u : Value) (Q : VK), Inv X pins σ H s → RelV x v → RelV y u → t x y H Q →
    wpAny (model X.prog X.w) X.A (inplaceOp op v u) (EP X pins σ Q) X.xe s
section
variable {X : Cx} {pos : Pos}
def gName (i : Nat) : TG := fun v σ H Q => Q (σ.set i (some v)) H
theorem pg_name {i : Nat} {x : Str} (hN : X.N.Nodup) (hi : X.N[i]? = some x) (hx : Loc X.env.scope x) (hf : X.fn x = true ∨ X.env.scope.names.lookup x = some .local := by first | exact .inl rfl | exact .inr rfl | assumption) : PG X (.Name x pos) (gName i) := by
  intro pins s σ H v u Q I r h
  exact wpAny_assign_Name (store_ok I hN hi hx r (fun s' I' => ⟨_, H, I', h⟩) hf)
def gNil : TGs := fun vs σ H Q => vs = [] ∧ Q σ H
def gCons (t : TG) (u : TGs) : TGs := fun vs σ H Q => ∃ v r, vs = v :: r ∧ t v σ H fun σ' H' => u r σ' H' Q
theorem pgs_nil : PGs X [] gNil := by
  intro pins s σ H vs us Q I r h
  obtain ⟨e, h⟩ := h
  subst e
  cases r
  exact assignInOrder_nil ⟨σ, H, I, h⟩
theorem pgs_cons {e : Expr} {es : List Expr} {t : TG} {u : TGs} (h1 : PG X e t) (h2 : PGs X es u)
    (hs : (assignEach (e :: es) X.env).map (·.2) = assign e X.env :: (assignEach es X.env).map (·.2) := by rfl) : PGs X (e :: es) (gCons t u) := by
  intro pins s σ H vs us Q I r h
  obtain ⟨v, vr, e1, h⟩ := h
  subst e1
  cases r with
  | cons r rr =>
    rw [hs]
    refine assignInOrder_cons (thn (h1 pins s σ H _ _ _ I r h) fun _ s1 ⟨σ1, H1, I1, q1⟩ => ?_)
    exact h2 pins s1 σ1 H1 _ _ Q I1 rr q1
/-- (a, b, ..) = a tuple of that length -/
def gTup (K : PySem.W.Frag) (n : Nat) (t : TGs) : TG := fun v σ H Q => ∃ a xs, v = .ref a ∧ SqT K H a xs ∧ xs.length = n ∧ t xs σ H Q
theorem pg_tup {es : List Expr} {k : Nat} {t : TGs} {n : Nat} (hc : X.calm = true) (h : PGs X es t)
    (hn : (assignEach es X.env).length = n := by rfl) (hst : (assignEach es X.env).findIdx? (·.1) = none := by rfl) : PG X (.Tuple es k pos) (gTup X.K n t) := by
  intro pins s σ H v u Q I r hw
  obtain ⟨a, xs, e1, hq, hl, hw⟩ := hw
  subst e1
  cases r
  obtain ⟨its, rv, ht, hz⟩ := I.tuple hq
  refine assign_Tuple_tuple (I.ok.hd hc) ht (by simp [hn, ← hl, rv.length]) hst fun h' hx => ?_
  have I1 : Inv X pins σ H { s with heap := h' } := I.kept (t' := s.toks) fun b o e => hx b o (Nat.ne_of_lt (Heap.lt_size e)) e
  exact h pins _ σ H xs _ Q I1 (by simpa using rv) hw
/-- o[i] = .. -/
def gSub (to ti : TE) (t : TSet) : TG := fun v σ H Q => to σ H fun o H1 => ti σ H1 fun i H2 => t o i v H2 fun H3 => Q σ H3
theorem pg_sub {o i : Expr} {to ti : TE} {t : TSet} (ho : PE X o to) (hi : PE X i ti) (hs : PSet X t)
    (ha : ∀ v, assign (.Subscript o i pos) X.env v = (do
      let ov ← holding [v] (eval o X.env)
      let iv ← holding [v, ov] (eval i X.env)
      standAt pos
      holding [v, ov, iv] (setItem ov iv v)
      release [v, ov, iv] []) := by intro _; rfl) : PG X (.Subscript o i pos) (gSub to ti t) := by
  intro pins s σ H v u Q I r h
  rw [ha]
  refine wpAny_bind (wpAny_holding (thn (ho pins s σ H _ I h) fun ov s1 ⟨x, H1, I1, r1, q1⟩ => ?_))
  refine wpAny_bind (wpAny_holding (thn (hi pins s1 σ H1 _ I1 q1) fun iv s2 ⟨y, H2, I2, r2, q2⟩ => ?_))
  refine wpAny_bind (wpAny_standAt (wpAny_bind (wpAny_holding (thn (hs pins s2 σ H2 x y v ov iv u _ I2 r1 r2 r q2) fun _ s3 ⟨H3, I3, q3⟩ => ?_))))
  exact wpAny_release ⟨σ, H3, I3, q3⟩
/-- target = value -/
def tAsg (te : TE) (g : TG) : TS := fun D σ H => te σ H fun x H1 => g x σ H1 D.nx
theorem ps_asg {tg e : Expr} {te : TE} {g : TG} (he : PE X e te) (hg : PG X tg g) (hs : swapsWithSole [tg] e pos.line X.env = pure false := by rfl) (hw : swappedStores [tg] e X.env = pure none := by rfl)
    (h1 : (assignEach [tg] X.env).map (·.2) = [assign tg X.env] := by rfl) : PS X (.Assign [tg] e pos) (tAsg te g) := by
  intro pins s σ H D I h
  refine wpAny_Assign_stores (thn (he pins s σ H _ I h) fun v s1 ⟨x, H1, I1, r1, q1⟩ => ?_) hs hw
  rw [h1]
  exact thn (hg pins s1 σ H1 x v _ I1 r1 q1) fun _ s2 q => q
/-- name = value -/
theorem ps_set {i : Nat} {x : Str} {e : Expr} {te : TE} {pos' : Pos} (hN : X.N.Nodup) (hi : X.N[i]? = some x) (hx : Loc X.env.scope x) (he : PE X e te) (hs : swapsWith e (some (.Name x pos')) pos.line X.env = pure false := by rfl) (hf : X.fn x = true ∨ X.env.scope.names.lookup x = some .local := by first | exact .inl rfl | exact .inr rfl | assumption) :
    PS X (.Assign [.Name x pos'] e pos) (tAsg te (gName i)) := by
  intro pins s σ H D I h
  refine wpAny_Assign_Name (thn (he pins s σ H _ I h) fun v s1 ⟨y, H1, I1, r1, q1⟩ => ?_) hs
  exact store_ok I1 hN hi hx r1 (fun s2 I2 => ⟨_, H1, I2, q1⟩) hf
/-- a, b = x, y with plain local names: stored from the right; the pair itself is not tracked (the opening rows as in PyProof/Rows/TupAssign.lean:23) -/
def tPar (i j : Nat) (ta : TA) : TS := fun D σ H => ta σ H fun vs H1 => ∃ v w, vs = [v, w] ∧ D.nx ((σ.set i (some v)).set j (some w)) H1
theorem ps_par {i j : Nat} {x y : Str} {a b : Expr} {ta : TA} {px py pt : Pos} {kt k2 pt2} (hc : X.calm = true) (hN : X.N.Nodup) (hi : X.N[i]? = some x) (hj : X.N[j]? = some y) (hij : i ≠ j)
    (hx : X.env.scope.names.lookup x = some .local) (hy : X.env.scope.names.lookup y = some .local) (ha : PA X [a, b] ta)
    (hw : swappedStores [.Tuple [.Name x px, .Name y py] kt pt] (.Tuple [a, b] k2 pt2) X.env = pure (some [x, y]))
    (hs : swapsWithSole [.Tuple [.Name x px, .Name y py] kt pt] (.Tuple [a, b] k2 pt2) pos.line X.env = pure false := by rfl) :
    PS X (.Assign [.Tuple [.Name x px, .Name y py] kt pt] (.Tuple [a, b] k2 pt2) pos) (tPar i j ta) := by
  intro pins s σ H D I h
  rw [exec_Assign_arm]
  refine wpAny_bind (wpAny_standAt ?_)
  rw [hs]
  refine wpAny_bind (wpAny_pure ?_)
  rw [if_neg (by decide)]
  refine wpAny_bind (Tuple_ (thn (ha _ pins s σ H _ I h) fun us s1 ⟨vs, H1, I1, r1, q1⟩ => ?_))
  obtain ⟨v, w, e1, q1⟩ := q1
  subst e1
  obtain ⟨u1, u2, rfl, rv, rw'⟩ : ∃ u1 u2, us = [u1, u2] ∧ RelV v u1 ∧ RelV w u2 := by
    cases r1 with
    | cons p q =>
      cases q with
      | cons p' q' =>
        cases q'
        exact ⟨_, _, rfl, p, p'⟩
  refine wpAny_newObj_type ?_ (by show 2 ≤ sizeLine; decide)
  have I2 : Inv X pins σ H1 { s1 with heap := s1.heap.push { cls := .type "tuple", data := .seq [u1, u2].toArray } } := I1.kept (t' := s1.toks) fun b o e => Heap.get?_push_of_some _ e
  rw [hw]
  refine wpAny_bind (wpAny_pure ?_)
  show wpAny (model X.prog X.w) X.A (do rule "assign.swapped-stores"; let items ← unpackItems (.ref s1.heap.objs.size) 2 none; assignInOrder [fun v => bindName X.env y v, fun v => bindName X.env x v] items.reverse; pure Flow.next) _ _ _
  refine wpAny_bind (wpAny_rule (wpAny_bind (unpackItems_tuple (items := #[u1, u2]) (I.ok.hd hc) (IsTup.new s1.heap _) fun h' hx' => ?_)))
  have I3 := I2.kept (h' := h') (t' := s1.toks) fun b o e => hx' b o (Nat.ne_of_lt (Heap.lt_size e)) e
  show wpAny _ _ (assignInOrder [fun v => bindName X.env y v, fun v => bindName X.env x v] [u2, u1] >>= fun _ => pure Flow.next) _ _ _
  refine wpAny_bind (assignInOrder_cons (wpAny_bindName (store_ok I3 hN hj (.inl hy) rw' (fun s2 I4 => ?_) (.inr hy))))
  refine assignInOrder_cons (wpAny_bindName (store_ok I4 hN hi (.inl hx) rv (fun s3 I5 => assignInOrder_nil (wpAny_pure ?_)) (.inr hx)))
  rw [List.set_comm _ _ (Ne.symm hij)] at I5
  exact ⟨_, H1, I5, q1⟩
/-- name op= e -/
def tAug (i : Nat) (te : TE) (ti : TIp) : TS := fun D σ H => ∃ x, σ[i]? = some (some x) ∧ te σ H fun y H1 => ti x y H1 fun z H2 => D.nx (σ.set i (some z)) H2
theorem ps_aug {i : Nat} {x : Str} {e : Expr} {te : TE} {op : Operator} {ti : TIp} {pos' : Pos} (hN : X.N.Nodup) (hi : X.N[i]? = some x) (hx : Loc X.env.scope x) (he : PE X e te) (ho : PIp X op ti) (hf : X.fn x = true ∨ X.env.scope.names.lookup x = some .local := by first | exact .inl rfl | exact .inr rfl | assumption) :
    PS X (.AugAssign (.Name x pos') op e pos) (tAug i te ti) := by
  intro pins s σ H D I h
  obtain ⟨v, e1, h⟩ := h
  obtain ⟨m, hn, hl⟩ := I.loc
  have vis : Vis X.env.scope x := by rcases hx with k | k; exact .inl k; exact .inr (.inl k)
  obtain ⟨u, r, l⟩ := hl i x v hi e1 vis
  refine wpAny_AugAssign_Name ?_
  have go : wpAny (model X.prog X.w) X.A (eval e X.env) (fun w s₂ => wpAny (model X.prog X.w) X.A (inplaceOp op u w) (fun r s₃ => wpAny (model X.prog X.w) X.A (storeName X.env x r) (fun _ => SP X pins D .next) X.xe s₃) X.xe s₂) X.xe s := by
    refine thn (he pins s σ H _ I h) fun w s1 ⟨y, H1, I1, r1, q1⟩ => ?_
    refine thn (ho pins s1 σ H1 v y u w _ I1 r r1 q1) fun z s2 ⟨zv, H2, I2, r2, q2⟩ => ?_
    exact store_ok I2 hN hi hx r2 (fun s3 I3 => ⟨_, H2, I3, q2⟩) hf
  rcases l with ⟨hk, hm⟩ | ⟨hk, c, hc, hcell⟩
  · exact wpAny_loadName_local I.ok.kind hk hn hm go
  · rcases hk with hk | hk
    · exact wpAny_loadName_cell I.ok.kind hk hc hcell go
    · rcases hx with k | k
      · have : X.env.scope.names.lookup x = some .free := hk
        rw [k] at this; cases this
      · have : X.env.scope.names.lookup x = some .free := hk
        rw [k] at this; cases this
/-- o[i] op= e -/
def tAugS (to ti te : TE) (tget : V → V → Hp → VK → Prop) (tip : TIp) (tset : TSet) : TS := fun D σ H => to σ H fun o H1 => ti σ H1 fun i H2 => tget o i H2 fun x H3 => te σ H3 fun y H4 => tip x y H4 fun z H5 => tset o i z H5 fun H6 => D.nx σ H6
/-- o[i], by values -/
def PGet (X : Cx) (t : V → V → Hp → VK → Prop) : Prop :=
  ∀ (pins : List (Addr × Obj)) (s : Shared) (σ : St) (H : Hp) (o i : V) (ov iv : Value) (Q : VK), Inv X pins σ H s → RelV o ov → RelV i iv → t o i H Q →
    wpAny (model X.prog X.w) X.A (getItem ov iv) (EP X pins σ Q) X.xe s
theorem ps_augS {o i e : Expr} {to ti te : TE} {tget : V → V → Hp → VK → Prop} {tip : TIp} {tset : TSet} {op : Operator} {tpos : Pos} (ho : PE X o to) (hi : PE X i ti) (hg : PGet X tget) (he : PE X e te) (hp : PIp X op tip) (hs : PSet X tset)
    (ha : ∀ ov iv new, augStore i ov iv new = (do holding [new, ov, iv] (setItem ov iv new); release [new, ov, iv] []; pure .next) := by intros; rfl) : PS X (.AugAssign (.Subscript o i tpos) op e pos) (tAugS to ti te tget tip tset) := by
  intro pins s σ H D I h
  refine wpAny_AugAssign_SubscriptAny (thn (ho pins s σ H _ I h) fun ov s1 ⟨x1, H1, I1, r1, q1⟩ => ?_) ha
  refine thn (hi pins s1 σ H1 _ I1 q1) fun iv s2 ⟨x2, H2, I2, r2, q2⟩ => ?_
  refine thn (hg pins s2 σ H2 x1 x2 ov iv _ I2 r1 r2 q2) fun old s3 ⟨x3, H3, I3, r3, q3⟩ => ?_
  refine thn (he pins s3 σ H3 _ I3 q3) fun v s4 ⟨x4, H4, I4, r4, q4⟩ => ?_
  refine thn (hp pins s4 σ H4 x3 x4 old v _ I4 r3 r4 q4) fun new s5 ⟨x5, H5, I5, r5, q5⟩ => ?_
  exact thn (hs pins s5 σ H5 x1 x2 x5 ov iv new _ I5 r1 r2 r5 q5) fun _ s6 ⟨H6, I6, q6⟩ => ⟨σ, H6, I6, q6⟩
/-- ints -/
def ipI (f : Int → Int → Int) : TIp := fun x y H Q => ∃ i j, x = .int i ∧ y = .int j ∧ Q (.int (f i j)) H
theorem ip_add : PIp X .Add (ipI fun i j => i + j) := by
  intro pins s σ H x y v u Q I r1 r2 h
  obtain ⟨i, j, e1, e2, q⟩ := h
  subst e1; subst e2
  obtain ⟨t, rfl⟩ := r1
  obtain ⟨t', rfl⟩ := r2
  exact iadd_int ⟨.int _, H, I.tok _, ⟨_, rfl⟩, q⟩
theorem ip_sub : PIp X .Sub (ipI fun i j => i - j) := by
  intro pins s σ H x y v u Q I r1 r2 h
  obtain ⟨i, j, e1, e2, q⟩ := h
  subst e1; subst e2
  obtain ⟨t, rfl⟩ := r1
  obtain ⟨t', rfl⟩ := r2
  exact isub_int ⟨.int _, H, I.tok _, ⟨_, rfl⟩, q⟩
end

/-! ### while -/
section
variable {X : Cx} {pos : Pos}
/-- the invariant W with its measure -/
def tWhile (c : TT) (tb : TS) : TS := fun D σ H => ∃ W : Nat → St → Hp → Prop, (∃ m, W m σ H) ∧ ∀ m σ H, W m σ H →
  c σ H fun b H1 => if b = true then ∃ N : St → Hp → Prop, (∀ σ' H', N σ' H' → ∃ m', m' < m ∧ W m' σ' H') ∧ tb { D with nx := N, ct := N, bk := D.nx } σ H1 else D.nx σ H1
theorem ps_while {c : Expr} {body : List Stmt} {tc : TT} {tb : TS} (hp : PassesOwn (model X.prog X.w) X.A X.env X.xe) (hc : PT X c tc) (hb : PSs X body tb) : PS X (.While c body [] pos) (tWhile tc tb) := by
  intro pins s σ H D I h
  obtain ⟨W, ⟨m0, w0⟩, turn⟩ := h
  refine wpAny_While (codeAny_whileLoop (fun n s' => ∃ σ' H', Inv X pins σ' H' s' ∧ W n σ' H') ?_ m0 ⟨σ, H, I, w0⟩)
  rintro n s1 ⟨σ1, H1, I1, w1⟩
  refine wpAny_passesOwn hp (thn (hc pins s1 σ1 H1 _ I1 (turn n σ1 H1 w1)) fun b s2 ⟨H2, I2, q2⟩ => ?_)
  cases b with
  | true =>
    obtain ⟨N, hN, q2⟩ := q2
    rw [if_pos rfl]
    refine wpAny_passesOwn hp (thn (hb pins s2 σ1 H2 _ I2 q2) fun f s3 q3 => ?_)
    cases f with
    | next =>
      obtain ⟨σ3, H3, I3, n3⟩ := q3
      obtain ⟨m', hm, w3⟩ := hN σ3 H3 n3
      exact ⟨m', hm, σ3, H3, I3, w3⟩
    | cont =>
      obtain ⟨σ3, H3, I3, n3⟩ := q3
      obtain ⟨m', hm, w3⟩ := hN σ3 H3 n3
      exact ⟨m', hm, σ3, H3, I3, w3⟩
    | brk => exact q3
    | ret v => exact q3
  | false =>
    rw [if_neg Bool.false_ne_true]
    exact wpAny_execs_nil ⟨σ1, H2, I2, q2⟩
end

/-! ### what a loop or a comprehension walks -/
/-- at turn i: it yields x (the heap may grow), or it stops -/
structure It where
  go : Nat → Hp → Prop
  yld : Nat → Hp → V → Hp → Prop
  stop : Nat → Hp → Prop
/-- the iterator's own objects may turn: they are not the frame's, not pinned, younger than the entry (or a comprehension's own) -/
def FpOk (X : Cx) (pins : List (Addr × Obj)) (H : Hp) (b : Addr) : Prop :=
  H b = none ∧ b ≠ X.env.locals ∧ b ∉ X.fs ∧ (b ∈ X.ex ∨ X.s₀.heap.objs.size ≤ b) ∧ (∀ x c, X.env.cells.lookup x = some c → c ≠ b) ∧ ∀ p ∈ X.pn ++ pins, p.1 ≠ b
theorem Inv.fpOk {X : Cx} {pins : List (Addr × Obj)} {σ : St} {H H' : Hp} {s : Shared} {b : Addr} (I : Inv X pins σ H s) (hb : s.heap.objs.size ≤ b) (hn : H' b = none) : FpOk X pins H' b := by
  refine ⟨hn, Nat.ne_of_gt (Nat.lt_of_lt_of_le I.lt hb), I.nofs hb, .inr (Nat.le_trans I.sz hb), fun x c e z => ?_, fun p hp z => ?_⟩
  · obtain ⟨v, q⟩ := I.cell x c e
    exact absurd (Nat.lt_of_lt_of_le q.lt (by rw [z]; exact hb)) (Nat.lt_irrefl _)
  · exact absurd (Nat.lt_of_lt_of_le (Heap.lt_size (I.pin p hp).1) (by rw [z]; exact hb)) (Nat.lt_irrefl _)
structure Turn (P : Program) (w : World) (K : PySem.W.Frag) (tg : Expr) (J : It) (fp : List Addr) (it : Addr) (tn : Nat → Heap → Prop) : Prop where
  mem : it ∈ fp
  obj : ∀ i h, tn i h → ∀ b ∈ fp, ∃ o, h.get? b = some o ∧ ∀ v, o.data ≠ .cell v
  keep : ∀ i h h', tn i h → (∀ b ∈ fp, ∀ o, h.get? b = some o → h'.get? b = some o) → tn i h'
  item : ∀ (X : Cx), X.prog = P → X.w = w → X.K = K → X.calm = true → ∀ (i : Nat) (pins : List (Addr × Obj)) (s : Shared) (σ : St) (H : Hp) (E : Value → Shared → Prop), Inv X pins σ H s → (∀ b ∈ fp, FpOk X pins H b) → tn i s.heap → J.go i H →
    wpAny (model P w) X.A (pyNext (.ref it)) (fun r s1 => ∃ u, r = some u ∧
      wpAny (model P w) X.A (letOwnedTupleGo tg (.ref it) u) (fun _ s2 => ∃ x H', Inv X pins σ H' s2 ∧ RelV x u ∧ J.yld i H x H' ∧ tn (i + 1) s2.heap ∧ ∀ b ∈ fp, H' b = none) E s1) E s
  done : ∀ (X : Cx), X.prog = P → X.w = w → X.K = K → X.calm = true → ∀ (i : Nat) (pins : List (Addr × Obj)) (s : Shared) (σ : St) (H : Hp) (E : Value → Shared → Prop), Inv X pins σ H s → (∀ b ∈ fp, FpOk X pins H b) → tn i s.heap → J.stop i H →
    wpAny (model P w) X.A (pyNext (.ref it)) (fun r s1 => r = none ∧ Inv X pins σ H s1) E s
  self : ∀ (A : Around) (i : Nat) (s : Shared) (Q : Value → Shared → Prop) (E : Value → Shared → Prop), tn i s.heap → Q (.ref it) s → wpAny (model P w) A (pyIter (.ref it)) Q E s
abbrev TI := St → Hp → (It → Hp → Prop) → Prop
/-- an iterator has come -/
def PIE (X : Cx) (pins : List (Addr × Obj)) (σ : St) (tg : Expr) (R : It → Hp → Prop) (itv : Value) (s2 : Shared) : Prop :=
  ∃ (it : Addr) (fp : List Addr) (tn : Nat → Heap → Prop) (J : It) (H' : Hp), itv = .ref it ∧ Inv X pins σ H' s2 ∧ Turn X.prog X.w X.K tg J fp it tn ∧ tn 0 s2.heap ∧ (∀ b ∈ fp, FpOk X pins H' b) ∧ R J H'
def PI (X : Cx) (tg iter : Expr) (wi : TI) : Prop :=
  ∀ (pins : List (Addr × Obj)) (s : Shared) (σ : St) (H : Hp) (R : It → Hp → Prop), Inv X pins σ H s → wi σ H R →
    wpAny (model X.prog X.w) X.A (eval iter X.env) (fun v s1 => wpAny (model X.prog X.w) X.A (pyIter v) (PIE X pins σ tg R) X.xe s1) X.xe s

/-- the step ahead of the store is nothing for an iterator that keeps no tuple -/
theorem go_of {M : Model} {A : Around} {E : Value → Shared → Prop} {s : Shared} {tg : Expr} {it : Addr} {u : Value} {o : Obj} {n : String} {vs : Array Value} {Q : Unit → Shared → Prop} (ho : s.heap.get? it = some o) (hc : o.cls = .type n) (hd : o.data = .fields vs)
    (hn : ["enumerate", "zip", "dict_itemiterator", "dict_reverseitemiterator", "odict_iterator", "itertools.zip_longest", "itertools.pairwise"].contains n = false) (hQ : Q () s) : wpAny M A (letOwnedTupleGo tg (.ref it) u) Q E s := by
  unfold letOwnedTupleGo
  cases tg <;> first
    | exact wpAny_pure hQ
    | (cases u <;> first
        | exact wpAny_pure hQ
        | (refine wpAny_bind (wpAny_load ho ?_)
           rw [hc, hd]
           show wpAny M A (if (["enumerate", "zip", "dict_itemiterator", "dict_reverseitemiterator", "odict_iterator", "itertools.zip_longest", "itertools.pairwise"].contains n && vs[0]? == some (rawInt _)) = true then _ else _) Q E s
           rw [if_neg (by intro h; rw [hn, Bool.false_and] at h; cases h)]
           exact wpAny_pure hQ))

/-- the list at a, as it stands at each turn (a loop may append to it) -/
def Itl (K : PySem.W.Frag) (a : Addr) : It :=
  ⟨fun i H => ∃ xs x, SqL K H a xs ∧ xs[i]? = some x, fun i H x H' => H' = H ∧ ∀ xs, SqL K H a xs → xs[i]? = some x, fun i H => ∃ xs, SqL K H a xs ∧ xs.length ≤ i⟩
def Itt (K : PySem.W.Frag) (a : Addr) : It :=
  ⟨fun i H => ∃ xs x, SqT K H a xs ∧ xs[i]? = some x, fun i H x H' => H' = H ∧ ∀ xs, SqT K H a xs → xs[i]? = some x, fun i H => ∃ xs, SqT K H a xs ∧ xs.length ≤ i⟩
/-- lo, lo + 1, .. (n of them) -/
def Itr (lo : Int) (n : Nat) : It := ⟨fun i _ => i < n, fun i H x H' => H' = H ∧ x = .int (lo + i), fun i _ => n ≤ i⟩
theorem turn_list {P : Program} {w : World} {K : PySem.W.Frag} {tg : Expr} (a it : Addr) : Turn P w K tg (Itl K a) [it] it (fun i h => h.IsListIter it a i) where
  mem := by simp
  obj := fun i h st b hb => by
    have e : b = it := by simpa using hb
    subst e
    obtain ⟨o, e, c, d⟩ := st
    exact ⟨o, e, fun v z => by rw [d] at z; cases z⟩
  keep := fun i h h' st k => st.at fun o e => k it (by simp) o e
  item := by
    intro X hP hw hK hc i pins s σ H E I hf st hg
    subst hP hw hK
    obtain ⟨xs, x, hq, hx⟩ := hg
    obtain ⟨its, rv, p, hz⟩ := I.list hq
    obtain ⟨u, hu, ru⟩ := rv.get hx
    obtain ⟨f0, f1, f2, f3, f4, f5⟩ := hf it (by simp)
    refine wpAny_pyNext_list_item st p.isList (x := u) (by simpa using hu) fun h' st' sb => ?_
    have I1 : Inv X pins σ H { s with heap := h' } := I.turned (t' := s.toks) (fun b o hb e => (sb.2 b hb).trans e) f0 f1 f3 f4 f5
    obtain ⟨o, e, c, d⟩ := id st'
    exact ⟨u, rfl, go_of (s := { s with heap := h' }) e c d (by decide) ⟨x, H, I1, ru, ⟨rfl, fun ys hy => by rw [I.list_inj hy hq]; exact hx⟩, st', fun b hb => (hf b hb).1⟩⟩
  done := by
    intro X hP hw hK hc i pins s σ H E I hf st hg
    subst hP hw hK
    obtain ⟨xs, hq, hx⟩ := hg
    obtain ⟨its, rv, p, hz⟩ := I.list hq
    obtain ⟨f0, f1, f2, f3, f4, f5⟩ := hf it (by simp)
    have hl := rv.length
    exact wpAny_pyNext_list_end (I.ok.hd hc) st p.isList (by simp; omega) fun h' eb => ⟨rfl, I.turned (t' := s.toks) (fun b o hb e => eb b o hb e) f0 f1 f3 f4 f5⟩
  self := fun _ _ _ _ _ st h => wpAny_pyIter_listiter st h
theorem turn_tuple {P : Program} {w : World} {K : PySem.W.Frag} {tg : Expr} (a it : Addr) : Turn P w K tg (Itt K a) [it] it (fun i h => h.IsTupleIter it a i) where
  mem := by simp
  obj := fun i h st b hb => by
    have e : b = it := by simpa using hb
    subst e
    obtain ⟨o, e, c, d⟩ := st
    exact ⟨o, e, fun v z => by rw [d] at z; cases z⟩
  keep := fun i h h' st k => st.at fun o e => k it (by simp) o e
  item := by
    intro X hP hw hK hc i pins s σ H E I hf st hg
    subst hP hw hK
    obtain ⟨xs, x, hq, hx⟩ := hg
    obtain ⟨its, rv, p, hz⟩ := I.tuple hq
    obtain ⟨u, hu, ru⟩ := rv.get hx
    obtain ⟨f0, f1, f2, f3, f4, f5⟩ := hf it (by simp)
    refine wpAny_pyNext_tuple_item st (show s.heap.IsTuple a its.toArray from p) (x := u) (by simpa using hu) fun h' st' sb => ?_
    have I1 : Inv X pins σ H { s with heap := h' } := I.turned (t' := s.toks) (fun b o hb e => (sb.2 b hb).trans e) f0 f1 f3 f4 f5
    obtain ⟨o, e, c, d⟩ := id st'
    exact ⟨u, rfl, go_of (s := { s with heap := h' }) e c d (by decide) ⟨x, H, I1, ru, ⟨rfl, fun ys hy => by rw [I.tuple_inj hy hq]; exact hx⟩, st', fun b hb => (hf b hb).1⟩⟩
  done := by
    intro X hP hw hK hc i pins s σ H E I hf st hg
    subst hP hw hK
    obtain ⟨xs, hq, hx⟩ := hg
    obtain ⟨its, rv, p, hz⟩ := I.tuple hq
    obtain ⟨f0, f1, f2, f3, f4, f5⟩ := hf it (by simp)
    have hl := rv.length
    exact wpAny_pyNext_tuple_end (I.ok.hd hc) st (show s.heap.IsTuple a its.toArray from p) (by simp; omega) fun h' eb => ⟨rfl, I.turned (t' := s.toks) (fun b o hb e => eb b o hb e) f0 f1 f3 f4 f5⟩
  self := fun _ _ _ _ _ st h => wpAny_pyIter_tupleiter st h
theorem turn_range {P : Program} {w : World} {K : PySem.W.Frag} {tg : Expr} (it : Addr) (lo : Int) (n : Nat) : Turn P w K tg (Itr lo n) [it] it (fun i h => IsRangeIter h it (lo + (i : Nat) * 1) ((n : Int) - (i : Nat)) 1) where
  mem := by simp
  obj := fun i h st b hb => by
    have e : b = it := by simpa using hb
    subst e
    exact ⟨_, st, fun v z => by
      have z' : Data.fields _ = Data.cell v := z
      cases z'⟩
  keep := fun i h h' st k => k it (by simp) _ st
  item := by
    intro X hP hw hK hc i pins s σ H E I hf st hg
    subst hP hw hK
    obtain ⟨f0, f1, f2, f3, f4, f5⟩ := hf it (by simp)
    have W := Walks.range (prog := X.prog) (w := X.w) (I.ok.hd hc) it lo 1 n
    refine W.item i s _ _ hg st fun v h' tk hv st' kk => ?_
    obtain ⟨t, rfl⟩ := hv
    have I1 : Inv X pins σ H { s with heap := h', toks := tk } := I.turned (fun b o hb e => kk b o (by simpa using hb) e) f0 f1 f3 f4 f5
    refine ⟨_, rfl, go_of (s := { s with heap := h', toks := tk }) (n := "range_iterator") st' rfl rfl (by decide) ⟨.int (lo + i), H, I1, ⟨t, ?_⟩, ⟨rfl, rfl⟩, st', fun b hb => (hf b hb).1⟩⟩
    rw [Int.mul_one]
  done := by
    intro X hP hw hK hc i pins s σ H E I hf st hg
    subst hP hw hK
    obtain ⟨f0, f1, f2, f3, f4, f5⟩ := hf it (by simp)
    exact wpAny_pyNext_range_end (I.ok.hd hc) st (by have : n ≤ i := hg; omega) fun h' eb => ⟨rfl, I.turned (t' := s.toks) (fun b o hb e => eb b o hb e) f0 f1 f3 f4 f5⟩
  self := fun _ _ _ _ _ st h => wpAny_pyIter_rangeiter st h
end L2

namespace L2
open PySem PySem.Spec PyProof.Rows
section
variable {X : Cx} {tg : Expr}
def iList (K : PySem.W.Frag) (tl : TE) : TI := fun σ H R => tl σ H fun x H1 => ∃ a, x = .ref a ∧ (∃ xs, SqL K H1 a xs) ∧ R (Itl K a) H1
def iTup (K : PySem.W.Frag) (tl : TE) : TI := fun σ H R => tl σ H fun x H1 => ∃ a, x = .ref a ∧ (∃ xs, SqT K H1 a xs) ∧ R (Itt K a) H1
theorem pi_list {l : Expr} {tl : TE} (hl : PE X l tl) : PI X tg l (iList X.K tl) := by
  intro pins s σ H R I h
  refine thn (hl pins s σ H _ I h) fun v s1 ⟨x, H1, I1, r1, q1⟩ => ?_
  obtain ⟨a, e, ⟨xs, hq⟩, q⟩ := q1
  subst e
  cases r1
  obtain ⟨its, rv, p, hz⟩ := I1.list hq
  refine wpAny_pyIter_list p.isList ?_
  refine ⟨s1.heap.objs.size, [s1.heap.objs.size], _, _, H1, rfl, I1.kept (t' := s1.toks) fun b o e => Heap.get?_push_of_some _ e, turn_list a _, ⟨_, Heap.get?_push_size _ rfl, rfl, rfl⟩, fun b hb => ?_, q⟩
  have e : b = s1.heap.objs.size := by simpa using hb
  subst e
  exact I1.fpOk (Nat.le_refl _) (I1.hok.fresh (Nat.le_refl _))
theorem pi_tup {l : Expr} {tl : TE} (hl : PE X l tl) : PI X tg l (iTup X.K tl) := by
  intro pins s σ H R I h
  refine thn (hl pins s σ H _ I h) fun v s1 ⟨x, H1, I1, r1, q1⟩ => ?_
  obtain ⟨a, e, ⟨xs, hq⟩, q⟩ := q1
  subst e
  cases r1
  obtain ⟨its, rv, p, hz⟩ := I1.tuple hq
  refine wpAny_pyIter_tuple (show s1.heap.IsTuple a its.toArray from p) ?_
  refine ⟨s1.heap.objs.size, [s1.heap.objs.size], _, _, H1, rfl, I1.kept (t' := s1.toks) fun b o e => Heap.get?_push_of_some _ e, turn_tuple a _, ⟨_, Heap.get?_push_size _ rfl, rfl, rfl⟩, fun b hb => ?_, q⟩
  have e : b = s1.heap.objs.size := by simpa using hb
  subst e
  exact I1.fpOk (Nat.le_refl _) (I1.hok.fresh (Nat.le_refl _))
/-- a range object just made, walked -/
theorem range_it {pins : List (Addr × Obj)} {σ : St} {H : Hp} {s : Shared} {R : It → Hp → Prop} {E : Value → Shared → Prop} {lo hi : Int} {t u v : Tok} {tk : Nat} (I : Inv X pins σ H s) (h1 : -(2 ^ 62) ≤ lo) (h2 : lo < 2 ^ 62) (h3 : -(2 ^ 62) ≤ hi) (h4 : hi < 2 ^ 62)
    (q : R (Itr lo (hi - lo).toNat) H) : wpAny (model X.prog X.w) X.A (pyIter (.ref s.heap.objs.size)) (PIE X pins σ tg R) E { s with heap := s.heap.push { cls := .type "range", data := .fields #[.int lo t, .int hi u, .int 1 v] }, toks := tk } := by
  refine wpAny_pyIter_range (IsRange.new ..) (small_one h1 h2 h3 h4) ?_
  have I1 : Inv X pins σ H { s with heap := s.heap.push { cls := .type "range", data := .fields #[.int lo t, .int hi u, .int 1 v] }, toks := tk } := I.kept fun b o e => Heap.get?_push_of_some _ e
  refine ⟨(s.heap.push { cls := .type "range", data := .fields #[.int lo t, .int hi u, .int 1 v] }).objs.size, [(s.heap.push { cls := .type "range", data := .fields #[.int lo t, .int hi u, .int 1 v] }).objs.size], _, _, H, rfl,
    I1.kept (t' := tk) fun b o e => Heap.get?_push_of_some _ e, turn_range _ lo (hi - lo).toNat, ?_, fun b hb => ?_, q⟩
  · have e1 : lo + ((0 : Nat) : Int) * 1 = lo := by simp
    have e2 : (((hi - lo).toNat : Nat) : Int) - ((0 : Nat) : Int) = Builtin.Range.rangeSize lo hi 1 := by rw [rangeSize_one]; split <;> omega
    show IsRangeIter _ _ (lo + ((0 : Nat) : Int) * 1) ((((hi - lo).toNat : Nat) : Int) - ((0 : Nat) : Int)) 1
    rw [e1, e2]
    exact Heap.get?_push_size _ rfl
  · have e : b = (s.heap.push { cls := .type "range", data := .fields #[.int lo t, .int hi u, .int 1 v] }).objs.size := by simpa using hb
    subst e
    exact I1.fpOk (Nat.le_refl _) (I1.hok.fresh (Nat.le_refl _))
def iRng1 (ta : TA) : TI := fun σ H R => ta σ H fun vs H1 => ∃ j : Int, vs = [.int j] ∧ -(2 ^ 62) ≤ j ∧ j < 2 ^ 62 ∧ R (Itr 0 j.toNat) H1
def iRng2 (ta : TA) : TI := fun σ H R => ta σ H fun vs H1 => ∃ i j : Int, vs = [.int i, .int j] ∧ (-(2 ^ 62) ≤ i ∧ i < 2 ^ 62 ∧ -(2 ^ 62) ≤ j ∧ j < 2 ^ 62) ∧ R (Itr i (j - i).toNat) H1
theorem pi_range1 {a : Expr} {ta : TA} {p pos : Pos} (hg : Gl X "range") (hm : X.mg "range" = none) (ha : PA X [a] ta) (hs : starEach [a] X.env = [(false, eval a X.env)] := by rfl) : PI X tg (.Call (.Name "range" p) [a] [] pos) (iRng1 ta) := by
  intro pins s σ H R I h
  refine Call_ (ld_blt I hg hm boot_range (PyProof.Rows.callWith_type1 (thn (ha pos pins s σ H _ I h) fun us s1 ⟨vs, H1, I1, r1, q1⟩ => ?_) hs rfl))
  obtain ⟨j, e, q1, q2, q⟩ := q1
  subst e
  cases r1 with
  | cons r rr =>
    cases rr
    obtain ⟨t, rfl⟩ := r
    exact call_range_1 (range_it I1 (by omega) (by omega) q1 q2 (by simpa using q))
theorem pi_range2 {a b : Expr} {ta : TA} {p pos : Pos} (hg : Gl X "range") (hm : X.mg "range" = none) (ha : PA X [a, b] ta) (hs : starEach [a, b] X.env = [(false, eval a X.env), (false, eval b X.env)] := by rfl) (hs2 : starEach [b] X.env = [(false, eval b X.env)] := by rfl) :
    PI X tg (.Call (.Name "range" p) [a, b] [] pos) (iRng2 ta) := by
  intro pins s σ H R I h
  refine Call_ (ld_blt I hg hm boot_range (PyProof.Rows.callWith_type1 (thn (ha pos pins s σ H _ I h) fun us s1 ⟨vs, H1, I1, r1, q1⟩ => ?_) (by rw [hs, hs2]) (by rw [hs2]; rfl)))
  obtain ⟨i, j, e, ⟨q1, q2, q3, q4⟩, q⟩ := q1
  subst e
  cases r1 with
  | cons r rr =>
    cases rr with
    | cons r' rr =>
      cases rr
      obtain ⟨t, rfl⟩ := r
      obtain ⟨t', rfl⟩ := r'
      exact call_range_2 (range_it I1 q1 q2 q3 q4 q)

/-! ### for -/
/-- W: the invariant by the turn and a measure; N: what the body is to reach -/
def tFor (wi : TI) (g : TG) (tb : TS) : TS := fun D σ H => wi σ H fun J H1 => ∃ W : Nat → Nat → St → Hp → Prop, (∃ m, W 0 m σ H1) ∧ ∀ i m σ H, W i m σ H →
  (J.stop i H ∧ D.nx σ H) ∨ (J.go i H ∧ ∃ N : St → Hp → Prop, (∀ σ' H', N σ' H' → ∃ m', m' < m ∧ W (i + 1) m' σ' H') ∧ ∀ x H', J.yld i H x H' → g x σ H' fun σ2 H2 => tb { D with nx := N, ct := N, bk := D.nx } σ2 H2)
/-- the records at fp as they stand -/
def pinsAt (fp : List Addr) (h : Heap) : List (Addr × Obj) := fp.filterMap fun b => (h.get? b).map fun o => (b, o)
theorem mem_pinsAt {fp : List Addr} {h : Heap} {b : Addr} {o : Obj} (hb : b ∈ fp) (e : h.get? b = some o) : (b, o) ∈ pinsAt fp h := List.mem_filterMap.mpr ⟨b, hb, by rw [e]; rfl⟩
theorem of_pinsAt {fp : List Addr} {h : Heap} {p : Addr × Obj} (hp : p ∈ pinsAt fp h) : p.1 ∈ fp ∧ h.get? p.1 = some p.2 := by
  obtain ⟨b, hb, e⟩ := List.mem_filterMap.mp hp
  cases q : h.get? b with
  | none => rw [q] at e; cases e
  | some o =>
    rw [q] at e
    have e' : (b, o) = p := Option.some.inj e
    subst e'
    exact ⟨hb, q⟩
theorem Inv.pinned {pins : List (Addr × Obj)} {σ : St} {H : Hp} {s : Shared} {fp : List Addr} (I : Inv X pins σ H s) (hf : ∀ b ∈ fp, FpOk X pins H b) (ho : ∀ b ∈ fp, ∃ o, s.heap.get? b = some o ∧ ∀ v, o.data ≠ .cell v) : Inv X (pins ++ pinsAt fp s.heap) σ H s :=
  I.pins_of fun p hp => (List.mem_append.mp hp).elim (fun z => I.pin p (List.mem_append_right _ z)) fun z => by
    obtain ⟨hb, e⟩ := of_pinsAt z
    obtain ⟨f0, f1, f2, _⟩ := hf p.1 hb
    obtain ⟨o, e', d⟩ := ho p.1 hb
    rw [e] at e'; cases e'
    exact ⟨e, f0, f1, f2, d⟩
theorem Inv.unpinned {pins pl : List (Addr × Obj)} {σ : St} {H : Hp} {s : Shared} (I : Inv X (pins ++ pl) σ H s) : Inv X pins σ H s := I.pins_of fun p hp => I.pin p (List.mem_append_right _ (List.mem_append_left _ hp))
theorem ps_for {iter : Expr} {body : List Stmt} {wi : TI} {g : TG} {tb : TS} {pos : Pos} (hp : PassesOwn (model X.prog X.w) X.A X.env X.xe) (hc : X.calm = true) (hi : PI X tg iter wi) (hg : PG X tg g) (hb : PSs X body tb)
    (hs : ∀ x, foldedSetIterable iter X.env x = pure x := by intro _; rfl) : PS X (.For tg iter body [] pos) (tFor wi g tb) := by
  intro pins s σ H D I h
  refine wpAny_For (thn (hi pins s σ H _ I h) fun v s1 h1 => thn h1 fun itv s2 h2 => ?_) hs
  obtain ⟨it, fp, tn, J, H2, e, I2, T, st2, f2, W, ⟨m0, w0⟩, turn⟩ := h2
  subst e
  -- what stays true of the iterator's objects through the loop
  have stat : ∀ {H' : Hp}, (∀ b ∈ fp, H' b = none) → ∀ b ∈ fp, FpOk X pins H' b := fun hn b hb => ⟨hn b hb, (f2 b hb).2⟩
  refine codeAny_forLoop_any (fun n s' => ∃ i σ' H', Inv X pins σ' H' s' ∧ tn i s'.heap ∧ (∀ b ∈ fp, H' b = none) ∧ W i n σ' H') ?_ m0 ⟨0, σ, H2, I2, st2, fun b hb => (f2 b hb).1, w0⟩
  rintro n s3 ⟨i, σ3, H3, I3, st3, fr3, w3⟩
  rcases turn i n σ3 H3 w3 with ⟨stop, qn⟩ | ⟨go, N, hN, step⟩
  · refine wpAny_passesOwn hp (thn (T.done X rfl rfl rfl hc i pins s3 σ3 H3 X.xe I3 (stat fr3) st3 stop) fun r s4 ⟨hr, I4⟩ => ?_)
    subst hr
    exact wpAny_execs_nil ⟨σ3, H3, I4, qn⟩
  · refine wpAny_passesOwn hp (thn (T.item X rfl rfl rfl hc i pins s3 σ3 H3 X.xe I3 (stat fr3) st3 go) fun r s4 ⟨u, hr, h4⟩ => ?_)
    subst hr
    refine wpAny_passesOwn hp (thn h4 fun _ s5 ⟨x, H5, I5, r5, y5, st5, fr5⟩ => ?_)
    have I5' := I5.pinned (stat fr5) (T.obj _ _ st5)
    refine wpAny_passesOwn hp (thn (hg _ s5 σ3 H5 x u _ I5' r5 (step x H5 y5)) fun _ s6 ⟨σ6, H6, I6, q6⟩ => ?_)
    refine wpAny_passesOwn hp (thn (hb _ s6 σ6 H6 _ I6 q6) fun f s7 q7 => ?_)
    have again : ∀ {σ7 : St} {H7 : Hp}, Inv X (pins ++ pinsAt fp s5.heap) σ7 H7 s7 → N σ7 H7 → ∃ m, m < n ∧ ∃ i σ' H', Inv X pins σ' H' s7 ∧ tn i s7.heap ∧ (∀ b ∈ fp, H' b = none) ∧ W i m σ' H' := fun {σ7 H7} I7 n7 => by
      obtain ⟨m', hm, w7⟩ := hN σ7 H7 n7
      refine ⟨m', hm, i + 1, σ7, H7, I7.unpinned, T.keep _ _ _ st5 fun b hb o e => (I7.pin (b, o) (List.mem_append_right _ (List.mem_append_right _ (mem_pinsAt hb e)))).1, fun b hb => ?_, w7⟩
      obtain ⟨o, e, d⟩ := T.obj _ _ st5 b hb
      exact (I7.pin (b, o) (List.mem_append_right _ (List.mem_append_right _ (mem_pinsAt hb e)))).2.1
    cases f with
    | next => obtain ⟨σ7, H7, I7, n7⟩ := q7; exact again I7 n7
    | cont => obtain ⟨σ7, H7, I7, n7⟩ := q7; exact again I7 n7
    | brk => obtain ⟨σ7, H7, I7, q7⟩ := q7; exact ⟨σ7, H7, I7.unpinned, q7⟩
    | ret v => obtain ⟨x7, σ7, H7, I7, r7, q7⟩ := q7; exact ⟨x7, σ7, H7, I7.unpinned, r7, q7⟩
end

/-! ### the forms one uses -/
/-- over a list that the body leaves as it is -/
theorem for_list {K : PySem.W.Frag} {a : Addr} {xs : List V} {g : TG} {tb : TS} {D : Ends} {σ : St} {H : Hp} (Pv : Nat → St → Hp → Prop) (h0 : Pv 0 σ H) (hl : ∀ i σ H, i ≤ xs.length → Pv i σ H → SqL K H a xs)
    (hs : ∀ i x σ H, xs[i]? = some x → Pv i σ H → g x σ H fun σ2 H2 => tb { D with nx := Pv (i + 1), ct := Pv (i + 1), bk := D.nx } σ2 H2) (hd : ∀ σ H, Pv xs.length σ H → D.nx σ H) :
    ∃ W : Nat → Nat → St → Hp → Prop, (∃ m, W 0 m σ H) ∧ ∀ i m σ H, W i m σ H →
      ((Itl K a).stop i H ∧ D.nx σ H) ∨ ((Itl K a).go i H ∧ ∃ N : St → Hp → Prop, (∀ σ' H', N σ' H' → ∃ m', m' < m ∧ W (i + 1) m' σ' H') ∧ ∀ x H', (Itl K a).yld i H x H' → g x σ H' fun σ2 H2 => tb { D with nx := N, ct := N, bk := D.nx } σ2 H2) := by
  refine ⟨fun i m σ H => m = xs.length - i ∧ i ≤ xs.length ∧ Pv i σ H, ⟨xs.length, by simp, Nat.zero_le _, h0⟩, ?_⟩
  rintro i m σ H ⟨rfl, hi, p⟩
  have q := hl i σ H hi p
  by_cases hlt : i < xs.length
  · refine .inr ⟨⟨xs, xs[i], q, by simp [hlt]⟩, Pv (i + 1), fun σ' H' p' => ⟨xs.length - (i + 1), by omega, rfl, hlt, p'⟩, fun x H' y => ?_⟩
    obtain ⟨e, y⟩ := y
    subst e
    exact hs i x σ _ (y xs q) p
  · have e : i = xs.length := by omega
    subst e
    exact .inl ⟨⟨xs, q, Nat.le_refl _⟩, hd σ H p⟩
theorem for_tup {K : PySem.W.Frag} {a : Addr} {xs : List V} {g : TG} {tb : TS} {D : Ends} {σ : St} {H : Hp} (Pv : Nat → St → Hp → Prop) (h0 : Pv 0 σ H) (hl : ∀ i σ H, i ≤ xs.length → Pv i σ H → SqT K H a xs)
    (hs : ∀ i x σ H, xs[i]? = some x → Pv i σ H → g x σ H fun σ2 H2 => tb { D with nx := Pv (i + 1), ct := Pv (i + 1), bk := D.nx } σ2 H2) (hd : ∀ σ H, Pv xs.length σ H → D.nx σ H) :
    ∃ W : Nat → Nat → St → Hp → Prop, (∃ m, W 0 m σ H) ∧ ∀ i m σ H, W i m σ H →
      ((Itt K a).stop i H ∧ D.nx σ H) ∨ ((Itt K a).go i H ∧ ∃ N : St → Hp → Prop, (∀ σ' H', N σ' H' → ∃ m', m' < m ∧ W (i + 1) m' σ' H') ∧ ∀ x H', (Itt K a).yld i H x H' → g x σ H' fun σ2 H2 => tb { D with nx := N, ct := N, bk := D.nx } σ2 H2) := by
  refine ⟨fun i m σ H => m = xs.length - i ∧ i ≤ xs.length ∧ Pv i σ H, ⟨xs.length, by simp, Nat.zero_le _, h0⟩, ?_⟩
  rintro i m σ H ⟨rfl, hi, p⟩
  have q := hl i σ H hi p
  by_cases hlt : i < xs.length
  · refine .inr ⟨⟨xs, xs[i], q, by simp [hlt]⟩, Pv (i + 1), fun σ' H' p' => ⟨xs.length - (i + 1), by omega, rfl, hlt, p'⟩, fun x H' y => ?_⟩
    obtain ⟨e, y⟩ := y
    subst e
    exact hs i x σ _ (y xs q) p
  · have e : i = xs.length := by omega
    subst e
    exact .inl ⟨⟨xs, q, Nat.le_refl _⟩, hd σ H p⟩
theorem for_range {lo : Int} {n : Nat} {g : TG} {tb : TS} {D : Ends} {σ : St} {H : Hp} (Pv : Nat → St → Hp → Prop) (h0 : Pv 0 σ H)
    (hs : ∀ i σ H, i < n → Pv i σ H → g (.int (lo + i)) σ H fun σ2 H2 => tb { D with nx := Pv (i + 1), ct := Pv (i + 1), bk := D.nx } σ2 H2) (hd : ∀ σ H, Pv n σ H → D.nx σ H) :
    ∃ W : Nat → Nat → St → Hp → Prop, (∃ m, W 0 m σ H) ∧ ∀ i m σ H, W i m σ H →
      ((Itr lo n).stop i H ∧ D.nx σ H) ∨ ((Itr lo n).go i H ∧ ∃ N : St → Hp → Prop, (∀ σ' H', N σ' H' → ∃ m', m' < m ∧ W (i + 1) m' σ' H') ∧ ∀ x H', (Itr lo n).yld i H x H' → g x σ H' fun σ2 H2 => tb { D with nx := N, ct := N, bk := D.nx } σ2 H2) := by
  refine ⟨fun i m σ H => m = n - i ∧ i ≤ n ∧ Pv i σ H, ⟨n, by simp, Nat.zero_le _, h0⟩, ?_⟩
  rintro i m σ H ⟨rfl, hi, p⟩
  by_cases hlt : i < n
  · refine .inr ⟨hlt, Pv (i + 1), fun σ' H' p' => ⟨n - (i + 1), by omega, rfl, hlt, p'⟩, fun x H' y => ?_⟩
    obtain ⟨e, y⟩ := y
    subst e y
    exact hs i σ _ hlt p
  · have e : i = n := by omega
    subst e
    exact .inl ⟨Nat.le_refl _, hd σ H p⟩
/-- while, by a word and a measure of the state -/
theorem while_by {c : TT} {tb : TS} {D : Ends} {σ : St} {H : Hp} (Pv : St → Hp → Prop) (μ : St → Hp → Nat) (h0 : Pv σ H)
    (hs : ∀ σ H, Pv σ H → c σ H fun b H1 => if b = true then tb { D with nx := fun σ' H' => Pv σ' H' ∧ μ σ' H' < μ σ H, ct := fun σ' H' => Pv σ' H' ∧ μ σ' H' < μ σ H, bk := D.nx } σ H1 else D.nx σ H1)
    (mono : ∀ σ H Q Q', (∀ b H1, Q b H1 → Q' b H1) → c σ H Q → c σ H Q') : tWhile c tb D σ H := by
  refine ⟨fun m σ H => m = μ σ H ∧ Pv σ H, ⟨_, rfl, h0⟩, ?_⟩
  rintro m σ H ⟨rfl, p⟩
  refine mono σ H _ _ (fun b H1 q => ?_) (hs σ H p)
  cases b with
  | true => exact ⟨_, fun σ' H' ⟨p', l⟩ => ⟨_, l, rfl, p'⟩, q⟩
  | false => exact q
end L2

namespace L2
open PySem PySem.Spec PyProof.Rows

abbrev R2 := V → V → Hp → VK → Prop
/-- a two-place operation on values: f is binaryOp op, inplaceOp op or compareOp op -/
def OpR (X : Cx) (f : Value → Value → Sem Value) (r : R2) : Prop :=
  ∀ (pins : List (Addr × Obj)) (s : Shared) (σ : St) (H : Hp) (x y : V) (v u : Value) (Q : VK), Inv X pins σ H s → RelV x v → RelV y u → r x y H Q →
    wpAny (model X.prog X.w) X.A (f v u) (EP X pins σ Q) X.xe s
/-- a one-place operation -/
def UnR (X : Cx) (f : Value → Sem Value) (r : V → Hp → VK → Prop) : Prop :=
  ∀ (pins : List (Addr × Obj)) (s : Shared) (σ : St) (H : Hp) (x : V) (v : Value) (Q : VK), Inv X pins σ H s → RelV x v → r x H Q →
    wpAny (model X.prog X.w) X.A (f v) (EP X pins σ Q) X.xe s
/-- a call of a value that is known (a builtin, a type) with values -/
def CallR (X : Cx) (f : Value) (r : List V → Hp → VK → Prop) : Prop :=
  ∀ (pins : List (Addr × Obj)) (s : Shared) (σ : St) (H : Hp) (xs : List V) (us : List Value) (Q : VK), Inv X pins σ H s → Vals xs us → r xs H Q →
    wpAny (model X.prog X.w) X.A (call f us) (EP X pins σ Q) X.xe s
/-- a value's truth -/
def TruR (X : Cx) (r : V → Hp → (Bool → Hp → Prop) → Prop) : Prop :=
  ∀ (pins : List (Addr × Obj)) (s : Shared) (σ : St) (H : Hp) (x : V) (v : Value) (Q : Bool → Hp → Prop), Inv X pins σ H s → RelV x v → r x H Q →
    wpAny (model X.prog X.w) X.A (truthy v) (TP X pins σ Q) X.xe s

def tOp (r : R2) (ta tb : TE) : TE := fun σ H Q => ta σ H fun x H1 => tb σ H1 fun y H2 => r x y H2 Q
def tUn (r : V → Hp → VK → Prop) (ta : TE) : TE := fun σ H Q => ta σ H fun x H1 => r x H1 Q
/-- ints in, under C, and a value out -/
def rI (C : Int → Int → Prop) (g : Int → Int → V) : R2 := fun x y H Q => ∃ i j, x = .int i ∧ y = .int j ∧ C i j ∧ Q (g i j) H
def rI0 (g : Int → Int → V) : R2 := fun x y H Q => ∃ i j, x = .int i ∧ y = .int j ∧ Q (g i j) H
def rU (g : Int → V) : V → Hp → VK → Prop := fun x H Q => ∃ i, x = .int i ∧ Q (g i) H

section
variable {X : Cx} {a b c : Expr} {ta tb tc : TE} {pos : Pos}

theorem binT (ha : PE X a ta) (hb : PE X b tb) {pins : List (Addr × Obj)} {s : Shared} {σ : St} {H : Hp} {R : V → V → Hp → Prop} (I : Inv X pins σ H s)
    (h : ta σ H fun x H1 => tb σ H1 fun y H2 => R x y H2) {Q : Value → Shared → Prop} {f : Value → Value → Sem Value}
    (hf : ∀ v u s2 x y H2, Inv X pins σ H2 s2 → RelV x v → RelV y u → R x y H2 → wpAny (model X.prog X.w) X.A (f v u) Q X.xe s2) :
    wpAny (model X.prog X.w) X.A (eval a X.env) (fun v s₁ => wpAny (model X.prog X.w) X.A (eval b X.env) (fun u s₂ => wpAny (model X.prog X.w) X.A (f v u) Q X.xe s₂) X.xe s₁) X.xe s := by
  refine thn (ha pins s σ H _ I h) fun v s1 ⟨x, H1, I1, r1, q1⟩ => ?_
  refine thn (hb pins s1 σ H1 _ I1 q1) fun u s2 ⟨y, H2, I2, r2, q2⟩ => ?_
  exact hf v u s2 x y H2 I2 r1 r2 q2

theorem pe_op {op : Operator} {r : R2} (ho : OpR X (binaryOp op) r) (ha : PE X a ta) (hb : PE X b tb) : PE X (.BinOp a op b pos) (tOp r ta tb) := by
  intro pins s σ H Q I h
  exact wpAny_BinOp (binT ha hb I h fun v u s2 x y H2 I2 rx ry q => ho pins s2 σ H2 x y v u Q I2 rx ry q)
theorem pe_un {op : UnaryOp} {r : V → Hp → VK → Prop} (ho : UnR X (unaryOp op) r) (ha : PE X a ta) : PE X (.UnaryOp op a pos) (tUn r ta) := by
  intro pins s σ H Q I h
  exact UnaryOp_ (thn (ha pins s σ H _ I h) fun v s1 ⟨x, H1, I1, r1, q1⟩ => ho pins s1 σ H1 x v Q I1 r1 q1)
/-- a op= e at a name: the name's slot i -/
theorem augR {op : Operator} {r : R2} (ho : OpR X (inplaceOp op) r) {pins : List (Addr × Obj)} {s : Shared} {σ : St} {H : Hp} {x y : V} {v u : Value} {Q : VK} (I : Inv X pins σ H s)
    (rx : RelV x v) (ry : RelV y u) (q : r x y H Q) : wpAny (model X.prog X.w) X.A (inplaceOp op v u) (EP X pins σ Q) X.xe s := ho pins s σ H x y v u Q I rx ry q

/-! ### ints -/
theorem opI {f : Value → Value → Sem Value} {C : Int → Int → Prop} {g : Int → Int → Int}
    (rule : ∀ (i j : Int) (t u : Tok) (s : Shared) (Q : Value → Shared → Prop) (E : Value → Shared → Prop), C i j → Q (.int (g i j) s.toks) { s with toks := s.toks + 1 } → wpAny (model X.prog X.w) X.A (f (.int i t) (.int j u)) Q E s) :
    OpR X f (rI C fun i j => .int (g i j)) := by
  intro pins s σ H x y v u Q I rx ry h
  obtain ⟨i, j, rfl, rfl, hc, q⟩ := h
  obtain ⟨t, rfl⟩ := rx
  obtain ⟨t', rfl⟩ := ry
  exact rule i j t t' s _ _ hc ⟨.int (g i j), H, I.tok _, ⟨_, rfl⟩, q⟩
theorem opI0 {f : Value → Value → Sem Value} {g : Int → Int → Int}
    (rule : ∀ (i j : Int) (t u : Tok) (s : Shared) (Q : Value → Shared → Prop) (E : Value → Shared → Prop), Q (.int (g i j) s.toks) { s with toks := s.toks + 1 } → wpAny (model X.prog X.w) X.A (f (.int i t) (.int j u)) Q E s) :
    OpR X f (rI0 fun i j => .int (g i j)) := by
  intro pins s σ H x y v u Q I rx ry h
  obtain ⟨i, j, rfl, rfl, q⟩ := h
  obtain ⟨t, rfl⟩ := rx
  obtain ⟨t', rfl⟩ := ry
  exact rule i j t t' s _ _ ⟨.int (g i j), H, I.tok _, ⟨_, rfl⟩, q⟩
theorem opB0 {f : Value → Value → Sem Value} {g : Int → Int → Bool}
    (rule : ∀ (i j : Int) (t u : Tok) (s : Shared) (Q : Value → Shared → Prop) (E : Value → Shared → Prop), Q (.bool (g i j)) s → wpAny (model X.prog X.w) X.A (f (.int i t) (.int j u)) Q E s) :
    OpR X f (rI0 fun i j => .bl (g i j)) := by
  intro pins s σ H x y v u Q I rx ry h
  obtain ⟨i, j, rfl, rfl, q⟩ := h
  obtain ⟨t, rfl⟩ := rx
  obtain ⟨t', rfl⟩ := ry
  exact rule i j t t' s _ _ ⟨.bl (g i j), H, I, rfl, q⟩

def CDiv (i j : Int) : Prop := 0 < j ∧ j < 1073741824
def CDivN (i j : Int) : Prop := j ≠ 0 ∧ j.natAbs < 1073741824
def CPow (i j : Int) : Prop := 0 ≤ j ∧ j ≤ 1000000 ∧ i.natAbs < 2 ^ 64
def CMul (i j : Int) : Prop := (-(2 ^ 64) < i ∧ i < 2 ^ 64) ∨ (-(2 ^ 64) < j ∧ j < 2 ^ 64)
theorem CMul.ok {i j : Int} (h : CMul i j) : IntMulOk i j := by
  rcases h with ⟨h1, h2⟩ | ⟨h1, h2⟩
  · exact .of_left (intBits_le_64 h1 h2)
  · exact .of_right (intBits_le_64 h1 h2)
theorem two_pow_nn (k : Nat) : (0 : Int) ≤ 2 ^ k := by
  rw [two_pow_cast]
  exact Int.natCast_nonneg _

theorem op_add : OpR X (binaryOp .Add) (rI0 fun i j => .int (i + j)) := opI0 fun _ _ _ _ _ _ _ q => add_int q
theorem op_sub : OpR X (binaryOp .Sub) (rI0 fun i j => .int (i - j)) := opI0 fun _ _ _ _ _ _ _ q => sub_int q
theorem op_mul : OpR X (binaryOp .Mult) (rI CMul fun i j => .int (i * j)) := opI fun _ _ _ _ _ _ _ hc q => mul_int q hc.ok
/-- // by a positive divisor -/
theorem op_fdiv : OpR X (binaryOp .FloorDiv) (rI CDiv fun i j => .int (i / j)) := opI fun i j _ _ _ _ _ hc q => by
  have h1 : (0 : Int) < j := hc.1
  have h2 : j < 1073741824 := hc.2
  exact floordiv_int (by omega) (by rw [Int.fdiv_eq_ediv_of_nonneg i (by omega)]; exact q) (.inl (PyProof.noPylong_small (by omega)))
theorem op_fdivN : OpR X (binaryOp .FloorDiv) (rI CDivN fun i j => .int (i.fdiv j)) := opI fun _ _ _ _ _ _ _ hc q => floordiv_int hc.1 q (.inl (PyProof.noPylong_small hc.2))
/-- % by a positive divisor of any size -/
theorem op_mod : OpR X (binaryOp .Mod) (rI (fun _ j => 0 < j) fun i j => .int (i % j)) := opI fun i j _ _ _ _ _ hc q => by
  have h1 : (0 : Int) < j := hc
  exact mod_int' (by omega) (by rw [Int.fmod_eq_emod_of_nonneg i (by omega)]; exact q)
theorem op_modN : OpR X (binaryOp .Mod) (rI (fun _ j => j ≠ 0) fun i j => .int (i.fmod j)) := opI fun _ _ _ _ _ _ _ hc q => mod_int' hc q
theorem op_pow : OpR X (binaryOp .Pow) (rI CPow fun i j => .int (i ^ j.toNat)) := opI fun _ _ _ _ _ _ _ hc q => pow_int_small hc.1 hc.2.1 hc.2.2 q
theorem op_shl : OpR X (binaryOp .LShift) (rI CPow fun i j => .int (i * 2 ^ j.toNat)) := opI fun _ _ _ _ _ _ _ hc q => lshift_int_small hc.1 hc.2.1 hc.2.2 q
theorem op_shr : OpR X (binaryOp .RShift) (rI (fun _ j => 0 ≤ j) fun i j => .int (i / 2 ^ j.toNat)) := opI fun i j _ _ _ _ _ hc q =>
  rshift_int hc (by rw [Int.fdiv_eq_ediv_of_nonneg i (two_pow_nn _)]; exact q)
theorem op_and : OpR X (binaryOp .BitAnd) (rI0 fun i j => .int (Builtin.bitAnd i j)) := opI0 fun _ _ _ _ _ _ _ q => and_int q
theorem op_or : OpR X (binaryOp .BitOr) (rI0 fun i j => .int (Builtin.bitOr i j)) := opI0 fun _ _ _ _ _ _ _ q => or_int q
theorem op_xor : OpR X (binaryOp .BitXor) (rI0 fun i j => .int (Builtin.bitXor i j)) := opI0 fun _ _ _ _ _ _ _ q => xor_int q

theorem iop_add : OpR X (inplaceOp .Add) (rI0 fun i j => .int (i + j)) := opI0 fun _ _ _ _ _ _ _ q => iadd_int q
theorem iop_sub : OpR X (inplaceOp .Sub) (rI0 fun i j => .int (i - j)) := opI0 fun _ _ _ _ _ _ _ q => isub_int q
theorem iop_mul : OpR X (inplaceOp .Mult) (rI CMul fun i j => .int (i * j)) := opI fun _ _ _ _ _ _ _ hc q => imul_int q hc.ok
theorem iop_fdiv : OpR X (inplaceOp .FloorDiv) (rI CDiv fun i j => .int (i / j)) := opI fun i j _ _ _ _ _ hc q => by
  have h1 : (0 : Int) < j := hc.1
  have h2 : j < 1073741824 := hc.2
  exact ifloordiv_int (by omega) (by rw [Int.fdiv_eq_ediv_of_nonneg i (by omega)]; exact q) (.inl (PyProof.noPylong_small (by omega)))
theorem iop_mod : OpR X (inplaceOp .Mod) (rI (fun _ j => 0 < j) fun i j => .int (i % j)) := opI fun i j _ _ _ _ _ hc q => by
  have h1 : (0 : Int) < j := hc
  exact imod_int (by omega) (by rw [Int.fmod_eq_emod_of_nonneg i (by omega)]; exact q)
theorem iop_shl : OpR X (inplaceOp .LShift) (rI CPow fun i j => .int (i * 2 ^ j.toNat)) := opI fun _ _ _ _ _ _ _ hc q => ilshift_int_small hc.1 hc.2.1 hc.2.2 q
theorem iop_shr : OpR X (inplaceOp .RShift) (rI (fun _ j => 0 ≤ j) fun i j => .int (i / 2 ^ j.toNat)) := opI fun i j _ _ _ _ _ hc q =>
  irshift_int hc (by rw [Int.fdiv_eq_ediv_of_nonneg i (two_pow_nn _)]; exact q)
theorem iop_and : OpR X (inplaceOp .BitAnd) (rI0 fun i j => .int (Builtin.bitAnd i j)) := opI0 fun _ _ _ _ _ _ _ q => iand_int q
theorem iop_or : OpR X (inplaceOp .BitOr) (rI0 fun i j => .int (Builtin.bitOr i j)) := opI0 fun _ _ _ _ _ _ _ q => ior_int q
theorem iop_xor : OpR X (inplaceOp .BitXor) (rI0 fun i j => .int (Builtin.bitXor i j)) := opI0 fun _ _ _ _ _ _ _ q => ixor_int q

theorem unI {f : Value → Sem Value} {g : Int → Int}
    (rule : ∀ (i : Int) (t : Tok) (s : Shared) (Q : Value → Shared → Prop) (E : Value → Shared → Prop), Q (.int (g i) s.toks) { s with toks := s.toks + 1 } → wpAny (model X.prog X.w) X.A (f (.int i t)) Q E s) :
    UnR X f (rU fun i => .int (g i)) := by
  intro pins s σ H x v Q I rx h
  obtain ⟨i, rfl, q⟩ := h
  obtain ⟨t, rfl⟩ := rx
  exact rule i t s _ _ ⟨.int (g i), H, I.tok _, ⟨_, rfl⟩, q⟩
theorem un_neg : UnR X (unaryOp .USub) (rU fun i => .int (-i)) := unI fun _ _ _ _ _ q => neg_int q
theorem un_inv : UnR X (unaryOp .Invert) (rU fun i => .int (Builtin.bitNot i)) := unI fun _ _ _ _ _ q => invert_int q

/-! ### bools among ints: n += (a < b) -/
theorem op_add_ib : OpR X (binaryOp .Add) (fun x y H Q => ∃ i k, x = .int i ∧ y = .bl k ∧ Q (.int (i + b2i k)) H) := by
  intro pins s σ H x y v u Q I rx ry h
  obtain ⟨i, k, rfl, rfl, q⟩ := h
  obtain ⟨t, rfl⟩ := rx
  cases ry
  exact add_int_bool ⟨.int (i + b2i k), H, I.tok _, ⟨_, rfl⟩, q⟩
end

/-! ### comparisons -/
/-- the scalars that == tells apart as data does -/
def scal : V → V → Bool
  | .non, .non => true | .non, .int _ => true | .int _, .non => true | .non, .bl _ => true | .bl _, .non => true | .non, .str _ => true | .str _, .non => true
  | .int _, .int _ => true | .bl _, .bl _ => true | .str _, .str _ => true | .byt _, .byt _ => true
  | .int _, .str _ => true | .str _, .int _ => true | .bl _, .str _ => true | .str _, .bl _ => true
  | _, _ => false
def rEq : R2 := fun x y H Q => scal x y = true ∧ Q (.bl (decide (x = y))) H
def rNe : R2 := fun x y H Q => scal x y = true ∧ Q (.bl (!decide (x = y))) H

theorem dec_int {i j : Int} : decide (V.int i = V.int j) = (i == j) := by
  rw [Bool.eq_iff_iff]
  simp
theorem dec_bl {i j : Bool} : decide (V.bl i = V.bl j) = (i == j) := by
  rw [Bool.eq_iff_iff]
  simp
theorem dec_str {i j : Str} : decide (V.str i = V.str j) = (i == j) := by
  rw [Bool.eq_iff_iff]
  simp
theorem dec_byt {i j : Array UInt8} : decide (V.byt i = V.byt j) = (i.toList == j.toList) := by
  rw [Bool.eq_iff_iff]
  cases i
  cases j
  simp

section
variable {X : Cx} {a b c : Expr} {ta tb tc : TE} {pos : Pos}
theorem fin_bl {pins : List (Addr × Obj)} {σ : St} {H : Hp} {s : Shared} {Q : VK} {k k' : Bool} (I : Inv X pins σ H s) (q : Q (.bl k) H) (e : k = k') : EP X pins σ Q (.bool k') s := by
  subst e
  exact ⟨.bl k, H, I, rfl, q⟩
theorem op_eq : OpR X (compareOp .Eq) rEq := by
  intro pins s σ H x y v u Q I rx ry h
  obtain ⟨hs, q⟩ := h
  cases x with
  | non =>
    cases rx
    cases y with
    | non => cases ry; exact PySem.EqNone.eq_none_none (fin_bl I q (by simp))
    | bl j => cases ry; exact PySem.EqNone.eq_none_bool (fin_bl I q (by simp))
    | int j => obtain ⟨t', rfl⟩ := ry; exact PySem.EqNone.eq_none_int (fin_bl I q (by simp))
    | str j => obtain ⟨t', rfl⟩ := ry; exact PySem.EqNone.eq_none_str (fin_bl I q (by simp))
    | _ => exact absurd (show false = true from hs) Bool.false_ne_true
  | bl i =>
    cases rx
    cases y with
    | non => cases ry; exact PySem.EqNone.eq_bool_none (fin_bl I q (by simp))
    | bl j => cases ry; exact eq_bool (fin_bl I q dec_bl)
    | str j => obtain ⟨t', rfl⟩ := ry; exact PySem.EqMixed.eq_bool_str (fin_bl I q (by simp))
    | _ => exact absurd (show false = true from hs) Bool.false_ne_true
  | int i =>
    obtain ⟨t, rfl⟩ := rx
    cases y with
    | non => cases ry; exact PySem.EqNone.eq_int_none (fin_bl I q (by simp))
    | int j => obtain ⟨t', rfl⟩ := ry; exact eq_int (fin_bl I q dec_int)
    | str j => obtain ⟨t', rfl⟩ := ry; exact PySem.EqMixed.eq_int_str (fin_bl I q (by simp))
    | _ => exact absurd (show false = true from hs) Bool.false_ne_true
  | str i =>
    obtain ⟨t, rfl⟩ := rx
    cases y with
    | non => cases ry; exact PySem.EqNone.eq_str_none (fin_bl I q (by simp))
    | bl j => cases ry; exact PySem.EqMixed.eq_str_bool (fin_bl I q (by simp))
    | int j => obtain ⟨t', rfl⟩ := ry; exact PySem.EqMixed.eq_str_int (fin_bl I q (by simp))
    | str j => obtain ⟨t', rfl⟩ := ry; exact eq_str (fin_bl I q dec_str)
    | _ => exact absurd (show false = true from hs) Bool.false_ne_true
  | byt i =>
    obtain ⟨t, rfl⟩ := rx
    cases y with
    | byt j => obtain ⟨t', rfl⟩ := ry; exact PySem.W.eq_bytes (fin_bl I q dec_byt)
    | _ => exact absurd (show false = true from hs) Bool.false_ne_true
  | _ => cases y <;> exact absurd (show false = true from hs) Bool.false_ne_true
theorem op_ne : OpR X (compareOp .NotEq) rNe := by
  intro pins s σ H x y v u Q I rx ry h
  obtain ⟨hs, q⟩ := h
  cases x with
  | non =>
    cases rx
    cases y with
    | non => cases ry; exact PySem.EqNone.ne_none_none (fin_bl I q (by simp))
    | bl j => cases ry; exact PySem.EqNone.ne_none_bool (fin_bl I q (by simp))
    | int j => obtain ⟨t', rfl⟩ := ry; exact PySem.EqNone.ne_none_int (fin_bl I q (by simp))
    | str j => obtain ⟨t', rfl⟩ := ry; exact PySem.EqNone.ne_none_str (fin_bl I q (by simp))
    | _ => exact absurd (show false = true from hs) Bool.false_ne_true
  | bl i =>
    cases rx
    cases y with
    | non => cases ry; exact PySem.EqNone.ne_bool_none (fin_bl I q (by simp))
    | bl j => cases ry; exact ne_bool (fin_bl I q (congrArg not dec_bl))
    | str j => obtain ⟨t', rfl⟩ := ry; exact PySem.EqMixed.ne_bool_str (fin_bl I q (by simp))
    | _ => exact absurd (show false = true from hs) Bool.false_ne_true
  | int i =>
    obtain ⟨t, rfl⟩ := rx
    cases y with
    | non => cases ry; exact PySem.EqNone.ne_int_none (fin_bl I q (by simp))
    | int j => obtain ⟨t', rfl⟩ := ry; exact ne_int (fin_bl I q (congrArg not dec_int))
    | str j => obtain ⟨t', rfl⟩ := ry; exact PySem.EqMixed.ne_int_str (fin_bl I q (by simp))
    | _ => exact absurd (show false = true from hs) Bool.false_ne_true
  | str i =>
    obtain ⟨t, rfl⟩ := rx
    cases y with
    | non => cases ry; exact PySem.EqNone.ne_str_none (fin_bl I q (by simp))
    | bl j => cases ry; exact PySem.EqMixed.ne_str_bool (fin_bl I q (by simp))
    | int j => obtain ⟨t', rfl⟩ := ry; exact PySem.EqMixed.ne_str_int (fin_bl I q (by simp))
    | str j => obtain ⟨t', rfl⟩ := ry; exact ne_str (fin_bl I q (congrArg not dec_str))
    | _ => exact absurd (show false = true from hs) Bool.false_ne_true
  | byt i =>
    obtain ⟨t, rfl⟩ := rx
    cases y with
    | byt j => obtain ⟨t', rfl⟩ := ry; exact PySem.W.ne_bytes (fin_bl I q (congrArg not dec_byt))
    | _ => exact absurd (show false = true from hs) Bool.false_ne_true
  | _ => cases y <;> exact absurd (show false = true from hs) Bool.false_ne_true

theorem op_lt : OpR X (compareOp .Lt) (rI0 fun i j => .bl (decide (i < j))) := opB0 fun _ _ _ _ _ _ _ q => lt_int q
theorem op_le : OpR X (compareOp .LtE) (rI0 fun i j => .bl (decide (i ≤ j))) := opB0 fun _ _ _ _ _ _ _ q => le_int q
theorem op_gt : OpR X (compareOp .Gt) (rI0 fun i j => .bl (decide (j < i))) := opB0 fun _ _ _ _ _ _ _ q => gt_int q
theorem op_ge : OpR X (compareOp .GtE) (rI0 fun i j => .bl (decide (j ≤ i))) := opB0 fun _ _ _ _ _ _ _ q => ge_int q
theorem op_lt_str : OpR X (compareOp .Lt) (fun x y H Q => ∃ i j, x = .str i ∧ y = .str j ∧ Q (.bl (decide (i.cps.toList < j.cps.toList))) H) := by
  intro pins s σ H x y v u Q I rx ry h
  obtain ⟨i, j, rfl, rfl, q⟩ := h
  obtain ⟨t, rfl⟩ := rx
  obtain ⟨t', rfl⟩ := ry
  exact lt_str (fin_bl I q rfl)
/-- the one string within the other -/
theorem op_in_str : OpR X (compareOp .In) (fun x y H Q => ∃ i j, x = .str i ∧ y = .str j ∧ Q (.bl (!(Builtin.Str.occurrences j i 0 j.length 1).isEmpty)) H) := by
  intro pins s σ H x y v u Q I rx ry h
  obtain ⟨i, j, rfl, rfl, q⟩ := h
  obtain ⟨t, rfl⟩ := rx
  obtain ⟨t', rfl⟩ := ry
  exact in_str (fin_bl I q rfl)

/-- is None, is not None: the right side a value none -/
theorem op_isN : OpR X (compareOp .Is) (fun x y H Q => y = .non ∧ Q (.bl (decide (x = .non))) H) := by
  intro pins s σ H x y v u Q I rx ry h
  obtain ⟨rfl, q⟩ := h
  cases ry
  refine is_none_gen (fin_bl I q ?_)
  cases x <;> first
    | (cases rx; rfl)
    | (obtain ⟨t, rfl⟩ := rx; rfl)
theorem op_notN : OpR X (compareOp .IsNot) (fun x y H Q => y = .non ∧ Q (.bl (!decide (x = .non))) H) := by
  intro pins s σ H x y v u Q I rx ry h
  obtain ⟨rfl, q⟩ := h
  cases ry
  refine isnot_none_gen (fin_bl I q ?_)
  cases x <;> first
    | (cases rx; rfl)
    | (obtain ⟨t, rfl⟩ := rx; rfl)

theorem op_notin_str : OpR X (compareOp .NotIn) (fun x y H Q => ∃ i j, x = .str i ∧ y = .str j ∧ Q (.bl (!(!(Builtin.Str.occurrences j i 0 j.length 1).isEmpty))) H) := by
  intro pins s σ H x y v u Q I rx ry h
  obtain ⟨i, j, rfl, rfl, q⟩ := h
  obtain ⟨t, rfl⟩ := rx
  obtain ⟨t', rfl⟩ := ry
  exact notIn_str (fin_bl I q rfl)
/-- is, is not of two objects that are tracked lists or instances -/
def isObj : HO → Bool
  | .lst _ => true
  | .ins _ _ _ => true
  | _ => false
theorem obj_there {pins : List (Addr × Obj)} {s : Shared} {σ : St} {H : Hp} {a : Addr} {o : HO} (I : Inv X pins σ H s) (h : H a = some o) (p : isObj o = true) : ∃ ob, s.heap.get? a = some ob ∧ ob.cls ≠ .type "tuple" := by
  cases o with
  | lst xs =>
    obtain ⟨_, its, n, _, e⟩ : xs.length ≤ sizeLine ∧ ∃ (its : List Value) (n : Nat), Vals xs its ∧ s.heap.get? a = some { cls := .type "list", data := .seq its.toArray n } := I.hok a _ h
    exact ⟨_, e, (by show Value.type "list" ≠ .type "tuple"; decide +kernel)⟩
  | ins C dx fs =>
    have x := I.hok a _ h
    obtain ⟨_, _, _, e, _⟩ := x
    exact ⟨_, e, (by show Value.ref C ≠ .type "tuple"; exact fun z => by cases z)⟩
  | _ => exact absurd (show false = true from p) Bool.false_ne_true
theorem op_is_ref : OpR X (compareOp .Is) (fun x y H Q => ∃ a b oa ob, x = .ref a ∧ y = .ref b ∧ H a = some oa ∧ isObj oa = true ∧ H b = some ob ∧ isObj ob = true ∧ Q (.bl (decide (a = b))) H) := by
  intro pins s σ H x y v u Q I rx ry h
  obtain ⟨a, b, oa, ob, rfl, rfl, ha, pa, hb, pb, q⟩ := h
  cases rx
  cases ry
  obtain ⟨o1, e1, n1⟩ := obj_there I ha pa
  obtain ⟨o2, e2, _⟩ := obj_there I hb pb
  by_cases z : a = b
  · subst z
    exact wpAny_is_ref_self (fin_bl I q (by simp))
  · exact wpAny_is_ref_other z e1 e2 n1 (fin_bl I q (by simp [z]))
theorem op_isnot_ref : OpR X (compareOp .IsNot) (fun x y H Q => ∃ a b oa ob, x = .ref a ∧ y = .ref b ∧ H a = some oa ∧ isObj oa = true ∧ H b = some ob ∧ isObj ob = true ∧ Q (.bl (!decide (a = b))) H) := by
  intro pins s σ H x y v u Q I rx ry h
  obtain ⟨a, b, oa, ob, rfl, rfl, ha, pa, hb, pb, q⟩ := h
  cases rx
  cases ry
  obtain ⟨o1, e1, n1⟩ := obj_there I ha pa
  obtain ⟨o2, e2, _⟩ := obj_there I hb pb
  by_cases z : a = b
  · subst z
    exact wpAny_isNot_ref_self (fin_bl I q (by simp))
  · exact wpAny_isNot_ref_other z e1 e2 n1 (fin_bl I q (by simp [z]))

/-- two rules for one operation: by cases -/
theorem OpR.or {f : Value → Value → Sem Value} {r r' : R2} (h : OpR X f r) (h' : OpR X f r') : OpR X f (fun x y H Q => r x y H Q ∨ r' x y H Q) := by
  intro pins s σ H x y v u Q I rx ry q
  rcases q with q | q
  · exact h pins s σ H x y v u Q I rx ry q
  · exact h' pins s σ H x y v u Q I rx ry q

theorem nomark (b : Expr) {op : CmpOp} (h : op ≠ .In := by decide) (h2 : op ≠ .NotIn := by decide) : behindInMarks op b = false := by
  have e1 : (op == CmpOp.In) = false := by cases op <;> first | rfl | exact absurd rfl h
  have e2 : (op == CmpOp.NotIn) = false := by cases op <;> first | rfl | exact absurd rfl h2
  cases b <;> simp [behindInMarks, e1, e2]
/-- a comparison as a value; hm: nomark b, or (for in, not in) by with_unfolding_all rfl -/
theorem pe_cmpR {op : CmpOp} {r : R2} (ho : OpR X (compareOp op) r) (ha : PE X a ta) (hb : PE X b tb) (hm : behindInMarks op b = false) : PE X (.Compare a [op] [b] pos) (tOp r ta tb) := by
  intro pins s σ H Q I h
  exact wpAny_Compare1 (binT ha hb I h fun v u s2 x y H2 I2 rx ry q => ho pins s2 σ H2 x y v u Q I2 rx ry q) hm
/-- a reading of a value as a test -/
def tTest (t : TE) : TT := fun σ H Q => t σ H fun x H' => ∃ k, x = .bl k ∧ Q k H'
theorem pt_cmpR {op : CmpOp} {r : R2} (ho : OpR X (compareOp op) r) (ha : PE X a ta) (hb : PE X b tb) (hm : behindInMarks op b = false) : PT X (.Compare a [op] [b] pos) (tTest (tOp r ta tb)) := by
  intro pins s σ H Q I h
  refine wpAny_isTrue_Compare1 (thn (ha pins s σ H _ I h) fun v s1 ⟨x, H1, I1, r1, q1⟩ => thn (hb pins s1 σ H1 _ I1 q1) fun u s2 ⟨y, H2, I2, r2, q2⟩ =>
    thn (ho pins s2 σ H2 x y v u _ I2 r1 r2 q2) fun c s3 ⟨z, H3, I3, r3, k, e, q3⟩ => ?_) hm
  subst e
  cases r3
  exact wpAny_truthy_bool ⟨H3, I3, q3⟩
/-- a op1 b op2 c -/
def tChain (r r' : R2) (ta tb tc : TE) : TE := fun σ H Q => ta σ H fun x H1 => tb σ H1 fun y H2 => r x y H2 fun z H3 => ∃ k, z = .bl k ∧
  (if k = true then tc σ H3 fun w' H4 => r' y w' H4 Q else Q (.bl false) H3)
theorem pe_chain {op op' : CmpOp} {r r' : R2} (ho : OpR X (compareOp op) r) (ho' : OpR X (compareOp op') r') (ha : PE X a ta) (hb : PE X b tb) (hc : PE X c tc)
    (hm : lastMarks [op, op'] [b, c] = false := by with_unfolding_all rfl) : PE X (.Compare a [op, op'] [b, c] pos) (tChain r r' ta tb tc) := by
  intro pins s σ H Q I h
  refine Compare_chain (thn (ha pins s σ H _ I h) fun v s1 ⟨x, H1, I1, r1, q1⟩ => chain_link (thn (hb pins s1 σ H1 _ I1 q1) fun u s2 ⟨y, H2, I2, r2, q2⟩ =>
    thn (ho pins s2 σ H2 x y v u _ I2 r1 r2 q2) fun d s3 ⟨z, H3, I3, r3, k, e, q3⟩ => ?_)) hm
  subst e
  cases r3
  refine wpAny_truthy_bool ?_
  cases k with
  | false => exact ite_ff ⟨.bl false, H3, I3, rfl, q3⟩
  | true => exact ite_tt (chain_last (thn (hc pins s3 σ H3 _ I3 q3) fun w' s4 ⟨z', H4, I4, r4, q4⟩ => ho' pins s4 σ H4 y z' u w' Q I4 r2 r4 q4))
theorem pt_chain {op op' : CmpOp} {r r' : R2} (ho : OpR X (compareOp op) r) (ho' : OpR X (compareOp op') r') (ha : PE X a ta) (hb : PE X b tb) (hc : PE X c tc)
    (hm : lastMarks [op, op'] [b, c] = false := by with_unfolding_all rfl) : PT X (.Compare a [op, op'] [b, c] pos) (tTest (tChain r r' ta tb tc)) := by
  intro pins s σ H Q I h
  refine isTrue_chain (thn (ha pins s σ H _ I h) fun v s1 ⟨x, H1, I1, r1, q1⟩ => test_link (thn (hb pins s1 σ H1 _ I1 q1) fun u s2 ⟨y, H2, I2, r2, q2⟩ =>
    thn (ho pins s2 σ H2 x y v u _ I2 r1 r2 q2) fun d s3 ⟨z, H3, I3, r3, k, e, q3⟩ => ?_)) hm
  subst e
  cases r3
  refine wpAny_truthy_bool ?_
  cases k with
  | false =>
    obtain ⟨k', e', q'⟩ := q3
    cases e'
    exact ite_ff ⟨H3, I3, q'⟩
  | true =>
    refine ite_tt (test_last (thn (hc pins s3 σ H3 _ I3 q3) fun w' s4 ⟨z', H4, I4, r4, q4⟩ => thn (ho' pins s4 σ H4 y z' u w' _ I4 r2 r4 q4) fun d' s5 ⟨z2, H5, I5, r5, k2, e2, q5⟩ => ?_))
    subst e2
    cases r5
    exact wpAny_truthy_bool ⟨H5, I5, q5⟩

/-! ### truth -/
/-- a value's truth by the abstract heap -/
def TruV (K : PySem.W.Frag) (x : V) (H : Hp) (k : Bool) : Prop :=
  match x with
  | .non => k = false
  | .bl b => k = b
  | .int i => k = (i != 0)
  | .str y => y.length ≤ sizeLine ∧ k = ((y.length : Int) != 0)
  | .byt y => y.size ≤ sizeLine ∧ k = ((y.size : Int) != 0)
  | .ref p => (∃ xs, SqL K H p xs ∧ k = !xs.isEmpty) ∨ (∃ xs, SqT K H p xs ∧ k = !xs.isEmpty) ∨ ∃ kvs, H p = some (.dK kvs) ∧ k = !kvs.isEmpty
  | _ => False
theorem isEmpty_kv {κ : Type} {kvs : List (κ × V)} {vs : List (κ × Value)} (r : KV kvs vs) : (!vs.isEmpty) = !kvs.isEmpty := by
  cases r <;> rfl
theorem isEmpty_of {xs : List V} {its : List Value} (r : Vals xs its) : (!its.toArray.isEmpty) = !xs.isEmpty := by
  cases r <;> simp
theorem line63 : (sizeLine : Nat) < 2 ^ 63 := by rw [sizeLine_eq]; decide
theorem tru_ok : TruR X (fun x H Q => ∃ k, TruV X.K x H k ∧ Q k H) := by
  intro pins s σ H x v Q I rx h
  obtain ⟨k, e, q⟩ := h
  have hl := line63
  have hs : sizeLine = 16777216 := sizeLine_eq
  cases x with
  | non =>
    cases rx
    have e' : k = false := e
    subst e'
    exact truthy_none ⟨H, I, q⟩
  | bl b =>
    cases rx
    have e' : k = b := e
    subst e'
    exact wpAny_truthy_bool ⟨H, I, q⟩
  | int i =>
    obtain ⟨t, rfl⟩ := rx
    have e' : k = (i != 0) := e
    subst e'
    exact PySem.P.truthy_int ⟨H, I, q⟩
  | str y =>
    obtain ⟨t, rfl⟩ := rx
    obtain ⟨hy, e'⟩ : y.length ≤ sizeLine ∧ k = ((y.length : Int) != 0) := e
    subst e'
    exact PySem.P.truthy_str (by omega) ⟨H, I.tok _, q⟩
  | byt y =>
    obtain ⟨t, rfl⟩ := rx
    obtain ⟨hy, e'⟩ : y.size ≤ sizeLine ∧ k = ((y.size : Int) != 0) := e
    subst e'
    exact PySem.W.truthy_bytes (by omega) ⟨H, I.tok _, q⟩
  | ref p =>
    cases rx
    have e' : (∃ xs, SqL X.K H p xs ∧ k = !xs.isEmpty) ∨ (∃ xs, SqT X.K H p xs ∧ k = !xs.isEmpty) ∨ ∃ kvs, H p = some (.dK kvs) ∧ k = !kvs.isEmpty := e
    rcases e' with ⟨xs, hx, e'⟩ | ⟨xs, hx, e'⟩ | ⟨kvs, hx, e'⟩
    · subst e'
      obtain ⟨its, r, pl, hz⟩ := I.list hx
      have hlen := r.length
      exact wpAny_truthy_list pl.isList (by simp only [List.size_toArray]; omega) ⟨H, I.tok _, by rw [isEmpty_of r]; exact q⟩
    · subst e'
      obtain ⟨its, r, pl, hz⟩ := I.tuple hx
      have hlen := r.length
      exact truthy_tuple pl (by simp only [List.size_toArray]; omega) ⟨H, I.tok _, by rw [isEmpty_of r]; exact q⟩
    · subst e'
      obtain ⟨hz, hS, vs, r, m⟩ : kvs.length ≤ sizeLine ∧ (p == sysModules) = false ∧ ∃ vs, KV kvs vs ∧ s.heap.DictOf (mixKind X.prog X.w) p vs := I.hok p _ hx
      have hlen : kvs.length = vs.length := Paired.length r
      exact wpAny_truthy_dict hS m (by omega) ⟨H, I.tok _, by rw [isEmpty_kv r]; exact q⟩
  | _ => exact (show False from e).elim
/-- any expression whose test is its value's truth (a name, a call, a subscript, a field ..: he by fun _ => rfl) -/
theorem pt_truth (ha : PE X a ta) (he : ∀ whole, isTrue a X.env whole = (do let v ← whole; standAt a.pos; holding [v] (truthy v))) :
    PT X a (fun σ H Q => ta σ H fun x H' => ∃ k, TruV X.K x H' k ∧ Q k H') := by
  intro pins s σ H Q I h
  exact isTrue_plain (thn (ha pins s σ H _ I h) fun v s1 ⟨x, H1, I1, r1, q1⟩ => tru_ok pins s1 σ H1 x v Q I1 r1 q1) (he _)

/-! ### strs and bytes -/
theorem pe_byt {x : List UInt8} {k : Nat} : PE X (.Constant (.bytes x) k pos) (fun _ H Q => Q (.byt x.toArray) H) := fun _ _ _ H _ I h => PySem.W.Constant_bytes ⟨.byt x.toArray, H, I.tok _, ⟨_, rfl⟩, h⟩
theorem op_add_str : OpR X (binaryOp .Add) (fun x y H Q => ∃ i j, x = .str i ∧ y = .str j ∧ i.length + j.length ≤ sizeLine ∧ Q (.str (i ++ j)) H) := by
  intro pins s σ H x y v u Q I rx ry h
  obtain ⟨i, j, rfl, rfl, hz, q⟩ := h
  obtain ⟨t, rfl⟩ := rx
  obtain ⟨t', rfl⟩ := ry
  exact add_str (fun t' tk => ⟨.str (i ++ j), H, I.tok _, ⟨_, rfl⟩, q⟩) hz
theorem iop_add_str : OpR X (inplaceOp .Add) (fun x y H Q => ∃ i j, x = .str i ∧ y = .str j ∧ i.length + j.length ≤ sizeLine ∧ Q (.str (i ++ j)) H) := by
  intro pins s σ H x y v u Q I rx ry h
  obtain ⟨i, j, rfl, rfl, hz, q⟩ := h
  obtain ⟨t, rfl⟩ := rx
  obtain ⟨t', rfl⟩ := ry
  exact iadd_str (fun t' tk => ⟨.str (i ++ j), H, I.tok _, ⟨_, rfl⟩, q⟩) hz
theorem op_add_byt : OpR X (binaryOp .Add) (fun x y H Q => ∃ i j, x = .byt i ∧ y = .byt j ∧ i.size + j.size ≤ 16777216 ∧ Q (.byt (i ++ j)) H) := by
  intro pins s σ H x y v u Q I rx ry h
  obtain ⟨i, j, rfl, rfl, hz, q⟩ := h
  obtain ⟨t, rfl⟩ := rx
  obtain ⟨t', rfl⟩ := ry
  exact PySem.W.KBy.add_bytes hz (fun t' tk => ⟨.byt (i ++ j), H, I.tok _, ⟨_, rfl⟩, q⟩)

def PlainIxT (b : Expr) : Prop := ∀ o i, subscripted b false o i = operate [o, i] (getItem o i)
/-- s[i], 0 ≤ i < len -/
theorem pe_item_str (ha : PE X a ta) (hb : PE X b tb) (hs : PlainIxT b) :
    PE X (.Subscript a b pos) (tOp (fun x y H Q => ∃ z i c, x = .str z ∧ y = .int i ∧ 0 ≤ i ∧ i < 2 ^ 63 ∧ i < z.length ∧ z.cps[i.toNat]? = some c ∧ Q (.str ⟨#[c]⟩) H) ta tb) := by
  intro pins s σ H Q I h
  refine Subscript_ (binT ha hb I h fun v u s2 x y H2 I2 rx ry q => ?_)
  obtain ⟨z, i, c, rfl, rfl, h0, h63, h1, hc, q⟩ := q
  obtain ⟨t, rfl⟩ := rx
  obtain ⟨t', rfl⟩ := ry
  have e : seqIndex? i z.length = some i.toNat := PySem.StrLaws.seqIndex_nonneg h0 h1
  exact tail_any (typeIs_str s2 z t) slot_str_getitem.lookup (getItem_str (c := c) (by
    have e1 : decide (i < -(2 ^ 63 : Int)) = false := decide_eq_false (by omega)
    have e2 : decide (i ≥ 2 ^ 63) = false := decide_eq_false (by omega)
    rw [e1, e2] <;> rfl) (by rw [e]; exact hc) ⟨.str ⟨#[c]⟩, H2, I2.tok _, ⟨_, rfl⟩, q⟩) (hs _ _)
/-- b[i], 0 ≤ i < len -/
theorem pe_item_byt (ha : PE X a ta) (hb : PE X b tb) (hs : PlainIxT b) :
    PE X (.Subscript a b pos) (tOp (fun x y H Q => ∃ (z : List UInt8) (i : Int), x = .byt z.toArray ∧ y = .int i ∧ z.length ≤ sizeLine ∧ 0 ≤ i ∧ i < z.length ∧ Q (.int ((z.getD i.toNat 0).toNat : Nat)) H) ta tb) := by
  intro pins s σ H Q I h
  refine Subscript_ (binT ha hb I h fun v u s2 x y H2 I2 rx ry q => ?_)
  obtain ⟨z, i, rfl, rfl, hz, h0, h1, q⟩ := q
  obtain ⟨t, rfl⟩ := rx
  obtain ⟨t', rfl⟩ := ry
  have hl : sizeLine = 16777216 := sizeLine_eq
  exact tail_any (PySem.W.typeIs_bytes s2 z.toArray t) PySem.W.FB.slot_bytes_getitem.lookup (PySem.W.getItem_bytes (by omega) h0 h1 ⟨.int ((z.getD i.toNat 0).toNat : Nat), H2, I2.tok _, ⟨_, rfl⟩, q⟩) (hs _ _)

/-! ### scalar builtins, by CallR -/
theorem vals1 {x : V} {us : List Value} (r : Vals [x] us) : ∃ u, us = [u] ∧ RelV x u := by
  cases r with
  | cons r1 r2 => cases r2; exact ⟨_, rfl, r1⟩
theorem vals2 {x y : V} {us : List Value} (r : Vals [x, y] us) : ∃ u w', us = [u, w'] ∧ RelV x u ∧ RelV y w' := by
  cases r with
  | cons r1 r2 =>
    cases r2 with
    | cons r3 r4 => cases r4; exact ⟨_, _, rfl, r1, r3⟩
theorem call_abs : CallR X (.builtin "abs") (fun xs H Q => ∃ i, xs = [.int i] ∧ Q (.int (if i < 0 then -i else i)) H) := by
  intro pins s σ H xs us Q I r h
  obtain ⟨i, rfl, q⟩ := h
  obtain ⟨u, rfl, t, rfl⟩ := vals1 r
  exact call_abs_int fun u tk => ⟨.int (if i < 0 then -i else i), H, I.tok _, ⟨_, rfl⟩, q⟩
theorem call_max2 (hc : X.calm = true) : CallR X (.builtin "max") (fun xs H Q => ∃ i j, xs = [.int i, .int j] ∧ Q (.int (if j > i then j else i)) H) := by
  intro pins s σ H xs us Q I r h
  obtain ⟨i, j, rfl, q⟩ := h
  obtain ⟨u, w', rfl, ⟨t, rfl⟩, ⟨t', rfl⟩⟩ := vals2 r
  refine max_two_ints (I.ok.hd hc) fun h' tk k => ⟨_, H, I.kept k, ?_, q⟩
  by_cases hj : j > i
  · rw [if_pos hj, if_pos hj]; exact ⟨_, rfl⟩
  · rw [if_neg hj, if_neg hj]; exact ⟨_, rfl⟩
theorem call_min2 (hc : X.calm = true) : CallR X (.builtin "min") (fun xs H Q => ∃ i j, xs = [.int i, .int j] ∧ Q (.int (if j < i then j else i)) H) := by
  intro pins s σ H xs us Q I r h
  obtain ⟨i, j, rfl, q⟩ := h
  obtain ⟨u, w', rfl, ⟨t, rfl⟩, ⟨t', rfl⟩⟩ := vals2 r
  refine min_two_ints (I.ok.hd hc) fun h' tk k => ⟨_, H, I.kept k, ?_, q⟩
  by_cases hj : j < i
  · rw [if_pos hj, if_pos hj]; exact ⟨_, rfl⟩
  · rw [if_neg hj, if_neg hj]; exact ⟨_, rfl⟩
theorem call_int1 : CallR X (.type "int") (fun xs H Q => (∃ i, xs = [.int i] ∧ Q (.int i) H) ∨ ∃ k, xs = [.bl k] ∧ Q (.int (if k then 1 else 0)) H) := by
  intro pins s σ H xs us Q I r h
  rcases h with ⟨i, rfl, q⟩ | ⟨k, rfl, q⟩
  · obtain ⟨u, rfl, t, rfl⟩ := vals1 r
    exact call_int_int ⟨.int i, H, I, ⟨_, rfl⟩, q⟩
  · obtain ⟨u, rfl, r1⟩ := vals1 r
    cases r1
    exact call_int_bool ⟨.int (if k then 1 else 0), H, I.tok _, ⟨_, rfl⟩, q⟩
theorem call_bool1 : CallR X (.type "bool") (fun xs H Q => (∃ i, xs = [.int i] ∧ Q (.bl (i != 0)) H) ∨ ∃ k, xs = [.bl k] ∧ Q (.bl k) H) := by
  intro pins s σ H xs us Q I r h
  rcases h with ⟨i, rfl, q⟩ | ⟨k, rfl, q⟩
  · obtain ⟨u, rfl, t, rfl⟩ := vals1 r
    exact call_bool_int ⟨.bl (i != 0), H, I, rfl, q⟩
  · obtain ⟨u, rfl, r1⟩ := vals1 r
    cases r1
    exact call_bool_bool ⟨.bl k, H, I, rfl, q⟩
theorem call_str_int : CallR X (.type "str") (fun xs H Q => ∃ i, xs = [.int i] ∧ i.natAbs.log2 < 1920 ∧ Q (.str (toString i)) H) := by
  intro pins s σ H xs us Q I r h
  obtain ⟨i, rfl, hz, q⟩ := h
  obtain ⟨u, rfl, t, rfl⟩ := vals1 r
  exact PySem.P.str_of_int hz ⟨.str _, H, I.tok _, ⟨_, rfl⟩, q⟩
theorem call_ord : CallR X (.builtin "ord") (fun xs H Q => ∃ x, xs = [.str x] ∧ x.length = 1 ∧ Q (.int (x.cps.getD 0 0 : Nat)) H) := by
  intro pins s σ H xs us Q I r h
  obtain ⟨x, rfl, hz, q⟩ := h
  obtain ⟨u, rfl, t, rfl⟩ := vals1 r
  exact ord_of_one hz ⟨.int _, H, I.tok _, ⟨_, rfl⟩, q⟩
theorem call_chr : CallR X (.builtin "chr") (fun xs H Q => ∃ i, xs = [.int i] ∧ 0 ≤ i ∧ i ≤ 1114111 ∧ Q (.str ⟨#[i.toNat]⟩) H) := by
  intro pins s σ H xs us Q I r h
  obtain ⟨i, rfl, h0, h1, q⟩ := h
  obtain ⟨u, rfl, t, rfl⟩ := vals1 r
  exact chr_of_range h0 h1 ⟨.str _, H, I.tok _, ⟨_, rfl⟩, q⟩
/-- len of a str, a bytes, a list, a tuple -/
def LenV (K : PySem.W.Frag) (x : V) (H : Hp) (n : Nat) : Prop :=
  match x with
  | .str y => y.length ≤ sizeLine ∧ n = y.length
  | .byt y => y.size ≤ sizeLine ∧ n = y.size
  | .ref p => (∃ xs, SqL K H p xs ∧ n = xs.length) ∨ ∃ xs, SqT K H p xs ∧ n = xs.length
  | _ => False
theorem call_len : CallR X (.builtin "len") (fun xs H Q => ∃ x n, xs = [x] ∧ LenV X.K x H n ∧ Q (.int n) H) := by
  intro pins s σ H xs us Q I r h
  obtain ⟨x, n, rfl, e, q⟩ := h
  obtain ⟨u, rfl, rx⟩ := vals1 r
  have hl := line63
  have hs : sizeLine = 16777216 := sizeLine_eq
  cases x with
  | str y =>
    obtain ⟨t, rfl⟩ := rx
    obtain ⟨hy, e'⟩ : y.length ≤ sizeLine ∧ n = y.length := e
    subst e'
    exact len_str (by omega) ⟨.int _, H, I.tok _, ⟨_, rfl⟩, q⟩
  | byt y =>
    obtain ⟨t, rfl⟩ := rx
    obtain ⟨hy, e'⟩ : y.size ≤ sizeLine ∧ n = y.size := e
    subst e'
    exact PySem.W.len_bytes (by omega) ⟨.int _, H, I.tok _, ⟨_, rfl⟩, q⟩
  | ref p =>
    cases rx
    have e' : (∃ xs, SqL X.K H p xs ∧ n = xs.length) ∨ ∃ xs, SqT X.K H p xs ∧ n = xs.length := e
    rcases e' with ⟨xs, hx, e'⟩ | ⟨xs, hx, e'⟩
    · subst e'
      obtain ⟨its, r', pl, hz⟩ := I.list hx
      have hlen := r'.length
      exact Calls.call_len_list pl.isList (by simp only [List.size_toArray]; omega) ⟨.int xs.length, H, I.tok _, ⟨_, by simp only [List.size_toArray]; rw [hlen]⟩, q⟩
    · subst e'
      obtain ⟨its, r', pl, hz⟩ := I.tuple hx
      have hlen := r'.length
      exact len_tuple pl (by simp only [List.size_toArray]; omega) ⟨.int xs.length, H, I.tok _, ⟨_, by simp only [List.size_toArray]; rw [hlen]⟩, q⟩
  | _ => exact (show False from e).elim
/-- divmod: a new tuple -/
theorem call_divmod : CallR X (.builtin "divmod") (fun xs H Q => ∃ i j, xs = [.int i, .int j] ∧ CDiv i j ∧ ∀ p, H p = none → Q (.ref p) (upd H p (.tup [.int (i / j), .int (i % j)]))) := by
  intro pins s σ H xs us Q I r h
  obtain ⟨i, j, rfl, ⟨h1, h2⟩, q⟩ := h
  obtain ⟨u, w', rfl, ⟨t, rfl⟩, ⟨t', rfl⟩⟩ := vals2 r
  refine divmod_int (by omega) ?_ (.inl (PyProof.noPylong_small (by omega)))
  rw [Int.fdiv_eq_ediv_of_nonneg i (by omega), Int.fmod_eq_emod_of_nonneg i (by omega)]
  have hn : H s.heap.objs.size = none := I.hok.fresh (Nat.le_refl _)
  refine ⟨.ref s.heap.objs.size, _, ?_, rfl, q _ hn⟩
  refine I.laid (fun b o e => Heap.get?_push_of_some _ e) (Nat.le_refl _) ⟨by simp only [List.length_cons, List.length_nil]; rw [sizeLine_eq]; decide, [.int (i / j) s.toks, .int (i % j) (s.toks + 1)], .cons ⟨_, rfl⟩ (.cons ⟨_, rfl⟩ .nil), ?_⟩
  exact ⟨_, Heap.get?_push_size s.heap rfl, rfl, 0, rfl⟩
end
end L2

namespace L2
open PySem PySem.Spec PyProof.Rows

/-! ### an instance, its attributes a map -/
structure ObjM (h : Heap) (x dx C : Addr) (mA : Str → Option Value) : Prop where
  obj : h.get? x = some (PySem.W.instObj C dx)
  ns : h.Ns1 dx mA
  ne : dx ≠ x

theorem lookIn_ns {h : Heap} {dx : Addr} {mA : Str → Option Value} (n : h.Ns1 dx mA) : ∃ od, h.get? dx = some od ∧ ∀ name, PySem.W.lookIn name od = some (mA name) := by
  obtain ⟨o, es, ep, ho, hd, hk, _, hm⟩ := n
  refine ⟨o, ho, fun name => ?_⟩
  have e := hm name
  unfold nsFind findBy at e
  rw [← Array.find?_toList] at e
  unfold PySem.W.lookIn
  rw [hd]
  dsimp only
  split
  · rename_i y q
    rw [q] at e
    exact congrArg some e
  · rename_i q
    rw [q] at e
    have a : es.toList.any (·.refKey) = false := by
      rw [List.any_eq_false]
      intro y hy
      obtain ⟨z, t, hkey⟩ := hk y (Array.mem_toList_iff.mp hy)
      simp [DictEntry.refKey, hkey]
    have a' : ¬ es.toList.any (·.refKey) = true := by rw [a]; exact Bool.false_ne_true
    rw [if_neg a']
    exact congrArg some e

theorem ObjM.look {h : Heap} {x dx C : Addr} {mA : Str → Option Value} (I : ObjM h x dx C mA) : ∃ od, PySem.W.InstAt h x (PySem.W.instObj C dx) C (some od) ∧ ∀ name, PySem.W.lookIn name od = some (mA name) :=
  let ⟨od, ho, hl⟩ := lookIn_ns I.ns
  ⟨od, ⟨I.obj, rfl, rfl, ho⟩, hl⟩

section
variable {prog : Program} {w : World} {A : Around} {E : Value → Shared → Prop} {s : Shared} {K : PySem.W.Frag} {x dx C f : Addr} {mA : Str → Option Value} {name : Str} {v : Value}

theorem get_map {expr : Bool} {Q : Value → Shared → Prop} (X : K.In s.heap) (I : ObjM s.heap x dx C mA) (hg : PySem.W.plainGet K C name = true) (hh : PySem.W.hasDictIn K C = true)
    (ha : PySem.W.findIn K (.ref C) name = some none) (hv : mA name = some v) (hv' : PySem.W.handedIn v = true) (h : Q v { s with toks := s.toks + 1 }) :
    wpAny (model prog w) A (getAttr (.ref x) name expr) Q E s := by
  obtain ⟨od, J, hl⟩ := I.look
  exact PySem.W.get_value X J (PySem.W.plainGet_of hg).1 (PySem.W.findObj_own hh ha rfl (by rw [hl, hv])) hv' h

theorem get_const {expr : Bool} {a : Value} {Q : Value → Shared → Prop} (X : K.In s.heap) (I : ObjM s.heap x dx C mA) (hg : PySem.W.plainGet K C name = true) (hh : PySem.W.hasDictIn K C = true)
    (ha : PySem.W.findIn K (.ref C) name = some (some a)) (hn : PySem.W.specialIn K a "__get__" = some none) (hc : PySem.W.copiedNames.contains name = false) (hv : mA name = none) (hv' : PySem.W.handedIn a = true)
    (h : Q a { s with toks := s.toks + 1 }) : wpAny (model prog w) A (getAttr (.ref x) name expr) Q E s := by
  obtain ⟨od, J, hl⟩ := I.look
  exact PySem.W.get_value X J (PySem.W.plainGet_of hg).1 (PySem.W.findObj_cls hh ha hn hv' hc (by rw [hl, hv])) hv' h

theorem get_meth {pl : Sem Bool} {Q : Value × List Value → Shared → Prop} (X : K.In s.heap) (I : ObjM s.heap x dx C mA) (hg : PySem.W.plainGet K C name = true)
    (hf : PySem.W.findIn K (.ref C) name = some (some (.ref f))) (ht : PySem.W.isFn K (.ref f) = true) (hv : mA name = none) (h : Q (.ref f, [.ref x]) s) :
    wpAny (model prog w) A (getMethod (.ref x) name pl) Q E s := by
  obtain ⟨od, J, hl⟩ := I.look
  exact PySem.W.method_fn X J (PySem.W.plainGet_of hg).1 (PySem.W.plainGet_of hg).2 hf (beq_iff_eq.mp ht) (by show (PySem.W.lookIn name od).map (·.isSome) = some false; rw [hl, hv]; rfl) h

theorem set_map {ns : List Str} {Q : Unit → Shared → Prop} (X : K.In s.heap) (I : ObjM s.heap x dx C mA)
    (hs : PySem.W.findIn K (.ref C) "__setattr__" = some (some (.builtin "object.__setattr__"))) (hp : PySem.W.plainOver K C = true) (ht : PySem.W.takerIn K C name = some none) (hh : PySem.W.hasDictIn K C = true)
    (hw : PySem.Within mA ns) (hsz : ns.length ≤ sizeLine)
    (h : ∀ h', ObjM h' x dx C (fun y => if y = name then some v else mA y) → Heap.SameBut dx s.heap h' → Q () { s with heap := h', toks := s.toks + 2 }) :
    wpAny (model prog w) A (setAttr (.ref x) name v) Q E s := by
  obtain ⟨od, J, hl⟩ := I.look
  refine PySem.W.set_plain X J hs (PySem.W.osa_open (s := { s with toks := s.toks + 1 }) (r := none) X J hp ht fun b => ?_)
  obtain ⟨cd, hc, hd'⟩ := PySem.W.any_some hh
  have hx : s.heap.get? x = some ⟨.ref C, some dx, .plain, #[]⟩ := I.obj
  refine wpAny_bind (wpAny_pure (wpAny_bind (wpAny_bind (wpAny_loadPart hx (wpAny_bind (PySem.W.Looks.here (s := { s with toks := s.toks + 1 }) (PySem.W.looks_clsIn X hc) ?_))))))
  rw [hd']
  refine wpAny_pure (a := some dx) (wpAny_bind (wpAny_pure (wpAny_bind ?_)))
  refine wpAny_nsSet1 (s := { s with toks := s.toks + 1 }) I.ns fun h' hn2 hs2 => ?_
  obtain ⟨oD, esD, epD, hoD, hdD, hcD⟩ := hn2.count (PySem.Within.cons name v hw)
  refine wpAny_bind (wpAny_lookBehind hoD (by rw [hdD]; exact pastItsLine_dict (Nat.le_trans hcD (by rw [List.length_cons]; omega))) ?_)
  exact wpAny_pure (h _ ⟨(hs2.2 _ (Ne.symm I.ne)).trans I.obj, hn2, I.ne⟩ hs2)

/-- C(..): the dict at the heap's end, the instance behind it; then its __init__ -/
theorem make_map {R : Result → Shared → Prop} {vs : List Value} {kw : List (Str × Value)} (X : K.In s.heap) (hm : PySem.W.makesIn K C = true)
    (hi : PySem.W.findIn K (.ref C) "__init__" = some (some (.ref f))) (hf : PySem.W.typeIn K (.ref f) = some (.type "function"))
    (h : codeAny (model prog w) (A.under (.builtin "type.__call__" ⟨.ref C :: vs, kw⟩)) (.call (.ref f) ⟨.ref (s.heap.objs.size + 1) :: vs, kw⟩) (PySem.W.InitBack (s.heap.objs.size + 1) R)
      { s with heap := (s.heap.push PySem.W.emptyDict).push (PySem.W.instObj C s.heap.objs.size) }) :
    codeAny (model prog w) A (.call (.ref C) ⟨vs, kw⟩) R s := by
  obtain ⟨hh, g, d, t, os⟩ := s
  exact PySem.W.make_core (PySem.W.makes_of X hm) (PySem.W.looks_findIn X hi) (fun self => PySem.W.bind_fn X self hf) (.inl rfl) h
/-- C() where there is no __init__ but object's -/
theorem make_map0 {R : Result → Shared → Prop} (X : K.In s.heap) (hm : PySem.W.makesIn K C = true)
    (hi : PySem.W.findIn K (.ref C) "__init__" = some (some (.builtin "object.__init__")))
    (hb : ∀ self, PySem.W.Looks (model prog w) s.heap (bindSpecial (.builtin "object.__init__") self) (.builtin "object.__init__", [self]))
    (h : codeAny (model prog w) (A.under (.builtin "type.__call__" ⟨[.ref C], []⟩)) (.call (.builtin "object.__init__") ⟨[.ref (s.heap.objs.size + 1)], []⟩) (PySem.W.InitBack (s.heap.objs.size + 1) R)
      { s with heap := (s.heap.push PySem.W.emptyDict).push (PySem.W.instObj C s.heap.objs.size) }) :
    codeAny (model prog w) A (.call (.ref C) ⟨[], []⟩) R s := by
  obtain ⟨hh, g, d, t, os⟩ := s
  exact PySem.W.make_core (PySem.W.makes_of X hm) (PySem.W.looks_findIn X hi) hb (.inr ⟨rfl, rfl⟩) h
end

/-! ### the attributes as a list of pairs -/
def putF (f : Str) (v : V) : List (Str × V) → List (Str × V)
  | [] => [(f, v)]
  | (g, x) :: r => if g = f then (g, v) :: r else (g, x) :: putF f v r
theorem lookup_putF (f g : Str) (v : V) : ∀ fs : List (Str × V), (putF f v fs).lookup g = if g = f then some v else fs.lookup g
  | [] => by
    show List.lookup g [(f, v)] = _
    by_cases h : g = f
    · have hb : (g == f) = true := beq_iff_eq.mpr h
      simp only [List.lookup, hb, if_pos h]
    · have hb : (g == f) = false := beq_eq_false_iff_ne.mpr h
      simp only [List.lookup, hb, if_neg h]
  | (k, x) :: r => by
    have ih := lookup_putF f g v r
    rw [show putF f v ((k, x) :: r) = (if k = f then (k, v) :: r else (k, x) :: putF f v r) from rfl]
    by_cases hk : k = f
    · rw [if_pos hk]
      by_cases h : g = k
      · have hb : (g == k) = true := beq_iff_eq.mpr h
        simp only [List.lookup, hb, if_pos (h.trans hk)]
      · have hb : (g == k) = false := beq_eq_false_iff_ne.mpr h
        simp only [List.lookup, hb, if_neg (fun e : g = f => h (e.trans hk.symm))]
    · rw [if_neg hk]
      by_cases h : g = k
      · have hb : (g == k) = true := beq_iff_eq.mpr h
        simp only [List.lookup, hb, if_neg (fun e : g = f => hk (h.symm.trans e))]
      · have hb : (g == k) = false := beq_eq_false_iff_ne.mpr h
        simp only [List.lookup, hb]
        exact ih
theorem keys_putF (f : Str) (v : V) : ∀ fs : List (Str × V), f ∈ (putF f v fs).map (·.1) ∧ ∀ g, g ∈ fs.map (·.1) → g ∈ (putF f v fs).map (·.1)
  | [] => ⟨by simp [putF], fun g h => by simp at h⟩
  | (k, x) :: r => by
    obtain ⟨i1, i2⟩ := keys_putF f v r
    rw [show putF f v ((k, x) :: r) = (if k = f then (k, v) :: r else (k, x) :: putF f v r) from rfl]
    by_cases hk : k = f
    · rw [if_pos hk]
      subst hk
      exact ⟨by simp, fun g h => by simpa using h⟩
    · rw [if_neg hk]
      refine ⟨?_, fun g h => ?_⟩
      · rw [List.map_cons]
        exact List.mem_cons_of_mem _ i1
      · rw [List.map_cons] at h ⊢
        rcases List.mem_cons.mp h with e | e
        · exact List.mem_cons.mpr (.inl e)
        · exact List.mem_cons_of_mem _ (i2 g e)
theorem length_putF (f : Str) (v : V) : ∀ fs : List (Str × V), (putF f v fs).length ≤ fs.length + 1
  | [] => by simp [putF]
  | (k, x) :: r => by
    have ih := length_putF f v r
    rw [show putF f v ((k, x) :: r) = (if k = f then (k, v) :: r else (k, x) :: putF f v r) from rfl]
    by_cases hk : k = f
    · rw [if_pos hk, List.length_cons, List.length_cons]; omega
    · rw [if_neg hk, List.length_cons, List.length_cons]; omega

theorem RelO.some_of {v : V} {o : Option Value} (r : RelO (some v) o) : ∃ u, o = some u ∧ RelV v u := by
  cases o with
  | none => exact (show False from r).elim
  | some u => exact ⟨u, rfl, r⟩
theorem RelO.none_of {o : Option Value} (r : RelO none o) : o = none := by
  cases o with
  | none => rfl
  | some u => exact (show False from r).elim
theorem handed_of {v : V} {u : Value} (r : RelV v u) : PySem.W.handedIn u = true := by
  cases v with
  | non => cases (show u = Value.none from r); rfl
  | bl b => cases (show u = Value.bool b from r); rfl
  | int i => obtain ⟨t, e⟩ := (show ∃ t, u = Value.int i t from r); cases e; rfl
  | str x => obtain ⟨t, e⟩ := (show ∃ t, u = Value.str x t from r); cases e; rfl
  | byt b => obtain ⟨t, e⟩ := (show ∃ t, u = Value.bytes b t from r); cases e; rfl
  | flt b => obtain ⟨t, e⟩ := (show ∃ t, u = Value.float b t from r); cases e; rfl
  | ref a => cases (show u = Value.ref a from r); rfl
  | ty n => cases (show u = Value.type n from r); rfl

section
variable {P : Program} {w : World} {H H' : Hp} {h h' : Heap} {a C dx : Addr} {fs fs' : List (Str × V)}
theorem ins_get (hok : HOk P w H h) (e : H a = some (.ins C dx fs)) : ∃ mA, ObjM h a dx C mA ∧ (∀ f, RelO (fs.lookup f) (mA f)) ∧ PySem.Within mA (fs.map (·.1)) ∧ fs.length ≤ 1000 ∧ H dx = some (.own a) := by
  obtain ⟨d, z, ne, ob, mA, n, r, q⟩ := (show ObjOk P w H h a (.ins C dx fs) from hok a _ e)
  exact ⟨mA, ⟨ob, n, ne⟩, r, q, z, d⟩
end

/-! ### what of the text a class must have -/
structure Cls (K : PySem.W.Frag) (C : Addr) : Prop where
  pg : PySem.W.plainGet K C Str.empty = true
  hd : PySem.W.hasDictIn K C = true
  po : PySem.W.plainOver K C = true
  sa : PySem.W.findIn K (.ref C) "__setattr__" = some (some (.builtin "object.__setattr__"))
theorem Cls.get {K : PySem.W.Frag} {C : Addr} (c : Cls K C) (f : Str) : PySem.W.plainGet K C f = true := c.pg
/-- no class of it has the name -/
def NoAttr (K : PySem.W.Frag) (C : Addr) (f : Str) : Prop := PySem.W.findIn K (.ref C) f = some none
theorem NoAttr.taker {K : PySem.W.Frag} {C : Addr} {f : Str} (n : NoAttr K C f) : PySem.W.takerIn K C f = some none := by
  unfold PySem.W.takerIn
  rw [show PySem.W.findIn K (.ref C) f = some none from n]
  rfl
/-- a constant of the class -/
structure Con (K : PySem.W.Frag) (C : Addr) (f : Str) (v : V) (u : Value) : Prop where
  at_ : PySem.W.findIn K (.ref C) f = some (some u)
  rel : RelV v u
  get : PySem.W.specialIn K u "__get__" = some none
  cp : PySem.W.copiedNames.contains f = false
/-- a method: a plain def of the class or of one above it -/
structure Meth (K : PySem.W.Frag) (C : Addr) (m : Str) (f : Addr) : Prop where
  at_ : PySem.W.findIn K (.ref C) m = some (some (.ref f))
  fn : PySem.W.isFn K (.ref f) = true
  kp : PySem.W.keepIn K (.ref f) = true

section
variable {X : Cx} {pins : List (Addr × Obj)} {σ : St} {H : Hp} {s : Shared} {a C dx : Addr} {fs : List (Str × V)} {f : Str} {v : V} {A : Around} {E : Value → Shared → Prop}

theorem getattr_ok {b : Bool} {Q : Value → Shared → Prop} (I : Inv X pins σ H s) (e : H a = some (.ins C dx fs)) (c : Cls X.K C) (n : NoAttr X.K C f) (l : fs.lookup f = some v)
    (h : ∀ u s', Inv X pins σ H s' → RelV v u → Q u s') : wpAny (model X.prog X.w) A (getAttr (.ref a) f b) Q E s := by
  obtain ⟨mA, O, r, _, _, _⟩ := ins_get I.hok e
  obtain ⟨u, hu, ru⟩ := RelO.some_of (v := v) (o := mA f) (by rw [← l]; exact r f)
  exact get_map I.kIn O (c.get f) c.hd n hu (handed_of ru) (h u _ (I.tok _) ru)

theorem getcon_ok {b : Bool} {u : Value} {Q : Value → Shared → Prop} (I : Inv X pins σ H s) (e : H a = some (.ins C dx fs)) (c : Cls X.K C) (k : Con X.K C f v u) (l : fs.lookup f = none)
    (h : ∀ s', Inv X pins σ H s' → Q u s') : wpAny (model X.prog X.w) A (getAttr (.ref a) f b) Q E s := by
  obtain ⟨mA, O, r, _, _, _⟩ := ins_get I.hok e
  have hn : mA f = none := RelO.none_of (by rw [← l]; exact r f)
  exact get_const I.kIn O (c.get f) c.hd k.at_ k.get k.cp hn (handed_of k.rel) (h _ (I.tok _))

theorem getmeth_ok {m : Str} {g : Addr} {pl : Sem Bool} {Q : Value × List Value → Shared → Prop} (I : Inv X pins σ H s) (e : H a = some (.ins C dx fs)) (c : Cls X.K C) (k : Meth X.K C m g) (l : fs.lookup m = none)
    (h : Q (.ref g, [.ref a]) s) : wpAny (model X.prog X.w) A (getMethod (.ref a) m pl) Q E s := by
  obtain ⟨mA, O, r, _, _, _⟩ := ins_get I.hok e
  have hn : mA m = none := RelO.none_of (by rw [← l]; exact r m)
  exact get_meth I.kIn O (c.get m) k.at_ k.fn hn h

theorem setattr_ok {y : V} {u : Value} {Q : Unit → Shared → Prop} (I : Inv X pins σ H s) (e : H a = some (.ins C dx fs)) (c : Cls X.K C) (n : NoAttr X.K C f) (hl : fs.length < 1000) (ry : RelV y u)
    (h : ∀ s', Inv X pins σ (upd H a (.ins C dx (putF f y fs))) s' → Q () s') : wpAny (model X.prog X.w) A (setAttr (.ref a) f u) Q E s := by
  obtain ⟨mA, O, r, wi, _, ho⟩ := ins_get I.hok e
  have hz : (fs.map (·.1)).length ≤ sizeLine := by rw [List.length_map, sizeLine_eq]; omega
  refine set_map I.kIn O c.sa c.po n.taker c.hd wi hz fun h' O' sb => h _ ?_
  have hd : ∃ o, h'.get? dx = some o := let ⟨o, _, _, e', _⟩ := O'.ns; ⟨o, e'⟩
  refine I.write (x := a) (e := dx) (by rw [e]; exact True.intro) (.inr ho) (fun b q hb z => (sb.2 b hb).trans z) hd ?_
  refine ⟨by rw [upd_ne O.ne]; exact ho, ?_, O.ne, O'.obj, _, O'.ns, fun g => ?_, fun g hg => ?_⟩
  · have := length_putF f y fs; omega
  · show RelO ((putF f y fs).lookup g) (if g = f then some u else mA g)
    rw [lookup_putF]
    by_cases q : g = f
    · rw [if_pos q, if_pos q]; exact ry
    · rw [if_neg q, if_neg q]; exact r g
  · by_cases q : g = f
    · rw [q]; exact (keys_putF f y fs).1
    · refine (keys_putF f y fs).2 g (wi g fun z => hg ?_)
      show (if g = f then some u else mA g) = none
      rw [if_neg q]; exact z

/-- a new instance, tracked, without attributes -/
theorem Inv.made (I : Inv X pins σ H s) : Inv X pins σ (upd (upd H s.heap.objs.size (.own (s.heap.objs.size + 1))) (s.heap.objs.size + 1) (.ins C s.heap.objs.size []))
    { s with heap := (s.heap.push PySem.W.emptyDict).push (PySem.W.instObj C s.heap.objs.size) } := by
  have e1 : (s.heap.push PySem.W.emptyDict).get? s.heap.objs.size = some PySem.W.emptyDict := Heap.get?_push_size s.heap rfl
  have e2 : ((s.heap.push PySem.W.emptyDict).push (PySem.W.instObj C s.heap.objs.size)).get? (s.heap.objs.size + 1) = some (PySem.W.instObj C s.heap.objs.size) := by
    have := Heap.get?_push_size (s.heap.push PySem.W.emptyDict) (o := PySem.W.instObj C s.heap.objs.size) rfl
    rwa [Heap.size_push] at this
  have e3 : (s.heap.push PySem.W.emptyDict).Ns s.heap.objs.size (fun _ => none) := ⟨PySem.W.emptyDict, #[], _, e1, rfl, (fun e he => absurd he (by simp)), fun _ => rfl⟩
  have I1 := I.laid (a := s.heap.objs.size) (o := .own (s.heap.objs.size + 1)) (h' := s.heap.push PySem.W.emptyDict) (t' := s.toks) (fun b u q => Heap.get?_push_of_some _ q) (Nat.le_refl _) ⟨_, e1⟩
  refine I1.laid (a := s.heap.objs.size + 1) (o := .ins C s.heap.objs.size []) (t' := s.toks) (fun b u q => Heap.get?_push_of_some _ q) (Nat.le_of_eq (Heap.size_push _ _)) ?_
  have ne : s.heap.objs.size ≠ s.heap.objs.size + 1 := Nat.ne_of_lt (Nat.lt_succ_self _)
  refine ⟨by rw [upd_ne ne, upd_same], Nat.zero_le _, ne, e2, fun _ => none, (Heap.Ns1.of_empty e3).at fun o q => Heap.get?_push_of_some _ q, fun _ => True.intro, fun y hy => absurd rfl hy⟩

/-- e.f where nothing but the object is asked: through attributeBase (super) and the last hold -/
theorem attr_of {prog : Program} {w : World} {env : Env} {e : Expr} {f : Str} {pos : Pos} {s : Shared} {Q : Value → Shared → Prop} (hb : attributeBase e f env (eval e env) = eval e env)
    (h : wpAny (model prog w) A (eval e env) (fun o s₁ => wpAny (model prog w) A (getAttr o f true) Q E s₁) E s) : wpAny (model prog w) A (eval (.Attribute e f pos) env) Q E s :=
  Attribute_any_ h (by rw [arm_eval_Attribute, hb])
end

/-! ### readings and rules -/
/-- e.f, an attribute of the instance -/
def tFld (K : PySem.W.Frag) (ta : TE) (f : Str) : TE := fun σ H Q => ta σ H fun x H1 => ∃ a C dx fs v, x = .ref a ∧ H1 a = some (.ins C dx fs) ∧ Cls K C ∧ NoAttr K C f ∧ fs.lookup f = some v ∧ Q v H1
/-- e.f, a constant of the class -/
def tCon (K : PySem.W.Frag) (ta : TE) (f : Str) : TE := fun σ H Q => ta σ H fun x H1 => ∃ a C dx fs v u, x = .ref a ∧ H1 a = some (.ins C dx fs) ∧ Cls K C ∧ Con K C f v u ∧ fs.lookup f = none ∧ Q v H1
/-- e.f = value -/
def sFld (K : PySem.W.Frag) (ta tv : TE) (f : Str) : TS := fun D σ H => tv σ H fun y H1 => ta σ H1 fun x H2 => ∃ a C dx fs, x = .ref a ∧ H2 a = some (.ins C dx fs) ∧ Cls K C ∧ NoAttr K C f ∧ fs.length < 1000 ∧
  D.nx σ (upd H2 a (.ins C dx (putF f y fs)))
/-- an augmented operator on two values -/
def InOp (X : Cx) (op : Operator) (rd : V → V → Hp → VK → Prop) : Prop :=
  ∀ (pins : List (Addr × Obj)) (s : Shared) (σ : St) (H : Hp) (x y : V) (u v : Value) (Q : VK), Inv X pins σ H s → RelV x u → RelV y v → rd x y H Q → wpAny (model X.prog X.w) X.A (inplaceOp op u v) (EP X pins σ Q) X.xe s
/-- e.f op= value -/
def sFldAug (K : PySem.W.Frag) (ta tv : TE) (rd : V → V → Hp → VK → Prop) (f : Str) : TS := fun D σ H => ta σ H fun x H1 => ∃ a C dx fs v, x = .ref a ∧ H1 a = some (.ins C dx fs) ∧ Cls K C ∧ NoAttr K C f ∧ fs.lookup f = some v ∧
  tv σ H1 fun y H2 => rd v y H2 fun z H3 => ∃ dx' fs', H3 a = some (.ins C dx' fs') ∧ fs'.length < 1000 ∧ D.nx σ (upd H3 a (.ins C dx' (putF f z fs')))

section
variable {X : Cx} {o e value : Expr} {f : Str} {pos pos' tpos : Pos} {ta tv : TE}
theorem pe_fld (he : PE X e ta) (hb : attributeBase e f X.env (eval e X.env) = eval e X.env) : PE X (.Attribute e f pos) (tFld X.K ta f) := by
  intro pins s σ H Q I h
  refine attr_of hb (thn (he pins s σ H _ I h) fun u s1 ⟨x, H1, I1, rx, a, C, dx, fs, v, ex, ea, c, n, l, q⟩ => ?_)
  subst ex
  obtain rfl : u = Value.ref a := rx
  exact getattr_ok I1 ea c n l fun u' s2 I2 ru => ⟨v, H1, I2, ru, q⟩
theorem pe_con (he : PE X e ta) (hb : attributeBase e f X.env (eval e X.env) = eval e X.env) : PE X (.Attribute e f pos) (tCon X.K ta f) := by
  intro pins s σ H Q I h
  refine attr_of hb (thn (he pins s σ H _ I h) fun u s1 ⟨x, H1, I1, rx, a, C, dx, fs, v, u0, ex, ea, c, k, l, q⟩ => ?_)
  subst ex
  obtain rfl : u = Value.ref a := rx
  exact getcon_ok I1 ea c k l fun s2 I2 => ⟨v, H1, I2, k.rel, q⟩
theorem ps_fld (ha : PE X o ta) (hv : PE X value tv) (hs : swapsWith value (some (.Attribute o f pos')) pos.line X.env = pure false) : PS X (.Assign [.Attribute o f pos'] value pos) (sFld X.K ta tv f) := by
  intro pins s σ H D I h
  refine plainObj_wpAny_Assign_Attribute (thn (hv pins s σ H _ I h) fun u s1 ⟨y, H1, I1, ry, q⟩ => thn (ha pins s1 σ H1 _ I1 q) fun ov s2 ⟨x, H2, I2, rx, a, C, dx, fs, ex, ea, c, n, l, q2⟩ => ?_) hs
  subst ex
  obtain rfl : ov = Value.ref a := rx
  exact setattr_ok I2 ea c n l ry fun s3 I3 => ⟨σ, _, I3, q2⟩
theorem ps_fldaug {op : Operator} {rd : V → V → Hp → VK → Prop} (ha : PE X o ta) (hv : PE X value tv) (hop : InOp X op rd) : PS X (.AugAssign (.Attribute o f tpos) op value pos) (sFldAug X.K ta tv rd f) := by
  intro pins s σ H D I h
  refine wpAny_AugAssign_AttributeAny (thn (ha pins s σ H _ I h) fun ov s1 ⟨x, H1, I1, rx, a, C, dx, fs, v, ex, ea, c, n, l, q⟩ => ?_)
  subst ex
  obtain rfl : ov = Value.ref a := rx
  refine getattr_ok I1 ea c n l fun u s2 I2 ru => thn (hv pins s2 σ H1 _ I2 q) fun w3 s3 ⟨y, H2, I3, ry, q3⟩ => thn (hop pins s3 σ H2 v y u w3 _ I3 ru ry q3) fun w4 s4 ⟨z, H3, I4, rz, dx', fs', ea', l', q4⟩ => ?_
  exact setattr_ok I4 ea' c n l' rz fun s5 I5 => ⟨σ, _, I5, q4⟩
def rAdd : V → V → Hp → VK → Prop := fun x y H Q => ∃ i j, x = .int i ∧ y = .int j ∧ Q (.int (i + j)) H
def rSub : V → V → Hp → VK → Prop := fun x y H Q => ∃ i j, x = .int i ∧ y = .int j ∧ Q (.int (i - j)) H
theorem in_add : InOp X .Add rAdd := by
  rintro pins s σ H x y u v Q I rx ry ⟨i, j, rfl, rfl, q⟩
  obtain ⟨t, rfl⟩ := (show ∃ t, u = Value.int i t from rx)
  obtain ⟨t', rfl⟩ := (show ∃ t', v = Value.int j t' from ry)
  exact PyProof.Rows.iadd_int ⟨.int (i + j), H, I.tok _, ⟨_, rfl⟩, q⟩
theorem in_sub : InOp X .Sub rSub := by
  rintro pins s σ H x y u v Q I rx ry ⟨i, j, rfl, rfl, q⟩
  obtain ⟨t, rfl⟩ := (show ∃ t, u = Value.int i t from rx)
  obtain ⟨t', rfl⟩ := (show ∃ t', v = Value.int j t' from ry)
  exact PyProof.Rows.isub_int ⟨.int (i - j), H, I.tok _, ⟨_, rfl⟩, q⟩

/-- what is between an instance and its method: the tree of a method call -/
theorem methcall_of {pl : Sem Bool} {m : Str} {apos : Pos} {args : List Expr} {pins : List (Addr × Obj)} {s : Shared} {σ : St} {H : Hp} {Q : Value → Shared → Prop} {te : TE} (he : PE X e te) (I : Inv X pins σ H s)
    (h : te σ H fun x H1 => ∃ a C dx fs g, x = .ref a ∧ H1 a = some (.ins C dx fs) ∧ Cls X.K C ∧ Meth X.K C m g ∧ fs.lookup m = none ∧
      ∀ s1, Inv X pins σ H1 s1 → wpAny (model X.prog X.w) X.A (callWith pos (.ref g) [.ref a] (backTo pos (starEach args X.env)) (backToKw pos (keywordEach [] X.env))) Q X.xe s1)
    (ht : eval (.Call (.Attribute e m apos) args [] pos) X.env = (do
      let ov ← eval e X.env
      standAt apos.atName
      let (f, first) ← holding [ov] (getMethod ov m pl)
      callWith pos f first (backTo pos (starEach args X.env)) (backToKw pos (keywordEach [] X.env)))) :
    wpAny (model X.prog X.w) X.A (eval (.Call (.Attribute e m apos) args [] pos) X.env) Q X.xe s := by
  refine PySem.W.methodCall_KW (pl := pl) (thn (he pins s σ H _ I h) fun u s1 ⟨x, H1, I1, rx, a, C, dx, fs, g, ex, ea, c, k, l, q⟩ => ?_) ht
  subst ex
  obtain rfl : u = Value.ref a := rx
  exact getmeth_ok I1 ea c k l (q s1 I1)
end

/-! ### isinstance -/
section
variable {X : Cx} {pins : List (Addr × Obj)} {σ : St} {H : Hp} {s : Shared} {A : Around} {E : Value → Shared → Prop} {Q : Value → Shared → Prop} {c : Value} {b : Bool}
/-- the type of a value, as the fragment's deciders take it; for an instance its class -/
inductive TyOf (K : PySem.W.Frag) (H : Hp) : V → Value → Prop where
  | non : TyOf K H .non (.type "NoneType")
  | bl (x : Bool) : TyOf K H (.bl x) (.type "bool")
  | int (i : Int) : TyOf K H (.int i) (.type "int")
  | str (x : Str) : TyOf K H (.str x) (.type "str")
  | flt (x : UInt64) : TyOf K H (.flt x) (.type "float")
  | lst {a : Addr} {xs : List V} (e : H a = some (.lst xs)) : TyOf K H (.ref a) (.type "list")
  | frz {a : Addr} {o : Obj} {xs : List V} (e : H a = some (.frz o (.lst xs))) : TyOf K H (.ref a) (.type "list")
  | tup {a : Addr} {xs : List V} (e : H a = some (.tup xs)) : TyOf K H (.ref a) (.type "tuple")
  | dK {a : Addr} {kvs : List (Key × V)} (e : H a = some (.dK kvs)) : TyOf K H (.ref a) (.type "dict")
  | dT {a : Addr} {kvs : List (List Key × V)} (e : H a = some (.dT kvs)) : TyOf K H (.ref a) (.type "dict")
  | ins {a C dx : Addr} {fs : List (Str × V)} (e : H a = some (.ins C dx fs)) (cl : Cls K C) (ha : PySem.W.findIn K (.ref C) "__class__" = some (some (.builtin "object.__class__")))
      (hn : PySem.W.specialIn K (.builtin "object.__class__") "__get__" = some (some (.builtin "getset_descriptor.__get__"))) (htk : PySem.W.takesIn K (.builtin "object.__class__") = some true)
      (hm : PySem.W.mroIn K C (.type "object") = some true) : TyOf K H (.ref a) (.ref C)
/-- isinstance(x, c) for one class c, a built-in or an own one: kitOne's answer -/
theorem isinst_ok {x : V} {u t : Value} (I : Inv X pins σ H s) (rx : RelV x u) (ty : TyOf X.K H x t) (e : PySem.W.kitOne X.K t c = some b) (h : ∀ tk, Q (.bool b) { s with toks := tk }) :
    wpAny (model X.prog X.w) A (call (.builtin "isinstance") [u, c]) Q E s := by
  cases ty with
  | non => cases (show u = Value.none from rx); exact PySem.W.kia_one PySem.W.kitx_none I.kIn True.intro e (fun z => nomatch z) h
  | bl y => cases (show u = Value.bool y from rx); exact PySem.W.kia_one PySem.W.kitx_bool I.kIn True.intro e (fun z => nomatch z) h
  | int i => obtain ⟨t, q⟩ := (show ∃ t, u = Value.int i t from rx); cases q; exact PySem.W.kia_one PySem.W.kitx_int I.kIn True.intro e (fun z => nomatch z) h
  | str y => obtain ⟨t, q⟩ := (show ∃ t, u = Value.str y t from rx); cases q; exact PySem.W.kia_one PySem.W.kitx_str I.kIn True.intro e (fun z => nomatch z) h
  | flt y => obtain ⟨t, q⟩ := (show ∃ t, u = Value.float y t from rx); cases q; exact PySem.W.kia_one PySem.W.kitx_float I.kIn True.intro e (fun z => nomatch z) h
  | @lst a xs ea =>
    cases (show u = Value.ref a from rx)
    obtain ⟨_, _, n, _, h1⟩ := (show ObjOk X.prog X.w H s.heap a (.lst xs) from I.hok a _ ea)
    exact PySem.W.kia_one PySem.W.kitx_list I.kIn ⟨_, h1, rfl⟩ e (fun z => nomatch z) h
  | @frz a ob xs ea =>
    cases (show u = Value.ref a from rx)
    obtain ⟨_, _, _, n, _, h1⟩ := (show ObjOk X.prog X.w H s.heap a (.frz ob (.lst xs)) from I.hok a _ ea)
    exact PySem.W.kia_one PySem.W.kitx_list I.kIn ⟨_, h1, rfl⟩ e (fun z => nomatch z) h
  | @tup a xs ea =>
    cases (show u = Value.ref a from rx)
    obtain ⟨_, _, _, p⟩ := (show ObjOk X.prog X.w H s.heap a (.tup xs) from I.hok a _ ea)
    obtain ⟨o, h1, h2, _⟩ := p
    exact PySem.W.kia_one PySem.W.kitx_tuple I.kIn ⟨o, h1, h2⟩ e (fun z => nomatch z) h
  | @dK a kvs ea =>
    cases (show u = Value.ref a from rx)
    obtain ⟨_, _, vs, _, p⟩ := (show ObjOk X.prog X.w H s.heap a (.dK kvs) from I.hok a _ ea)
    obtain ⟨o, es, ep, h1, h2, _⟩ := p
    exact PySem.W.kia_one PySem.W.kitx_dict I.kIn ⟨o, h1, h2.1⟩ e (fun z => nomatch z) h
  | @dT a kvs ea =>
    cases (show u = Value.ref a from rx)
    obtain ⟨_, _, xs, _, o, es, ep, h1, h2, _⟩ := (show ObjOk X.prog X.w H s.heap a (.dT kvs) from I.hok a _ ea)
    exact PySem.W.kia_one PySem.W.kitx_dict I.kIn ⟨o, h1, h2.1⟩ e (fun z => nomatch z) h
  | @ins a C dx fs ea cl ha hn htk hm =>
    cases (show u = Value.ref a from rx)
    obtain ⟨mA, O, _⟩ := ins_get I.hok ea
    obtain ⟨od, J, _⟩ := O.look
    exact PySem.W.kia_one (PySem.W.kitx_own (cl.get _) cl.hd ha hn htk hm) I.kIn J e (fun z => nomatch z) h
end
end L2

namespace L2
open PySem PySem.Spec PyProof.Rows

/-! ### room -/
structure Room (k : Nat) (A : Around) : Prop where
  hd : A.handled = none
  dp : A.depth + 3 * k + 5 < recursionLimit
  un : A.units + 16 * k + 200 < cLine
theorem Room.mono {j k : Nat} {A : Around} (r : Room k A) (h : j ≤ k) : Room j A := ⟨r.hd, by have := r.dp; omega, by have := r.un; omega⟩
theorem Room.deeper {k : Nat} {A : Around} (r : Room (k + 1) A) (env : Env) : Room k (A.deeper env) :=
  ⟨r.hd, by have := r.dp; show A.depth + 1 + 3 * k + 5 < _; omega, by have := r.un; show A.units + 3 + 16 * k + 200 < _; omega⟩
theorem Room.in1 {k : Nat} {A : Around} (r : Room (k + 1) A) : Room k A.in1 :=
  ⟨r.hd, by have := r.dp; show A.depth + 3 * k + 5 < _; omega, by have := r.un; show A.units + 1 + 16 * k + 200 < _; omega⟩
theorem make_depth {A : Around} {C : Addr} {us : List Value} {kw : List (Str × Value)} : (A.under (.builtin "type.__call__" ⟨.ref C :: us, kw⟩)).depth = A.depth + 1 := by
  first | rfl | simp [Around.under, Code.weight, Code.isCreation, Code.isGuard, Code.isCaller, Code.frames, Code.isFrame, guardIds]
theorem make_units {A : Around} {C : Addr} {us : List Value} {kw : List (Str × Value)} : (A.under (.builtin "type.__call__" ⟨.ref C :: us, kw⟩)).units = A.units + 1 := by
  first | rfl | simp [Around.under, Code.cUnits, Code.frames, Code.isFrame]
theorem Room.make {k : Nat} {A : Around} (r : Room (k + 1) A) (C : Addr) (us : List Value) (kw : List (Str × Value)) : Room k (A.under (.builtin "type.__call__" ⟨.ref C :: us, kw⟩)) :=
  ⟨r.hd, by have := r.dp; rw [make_depth]; omega, by have := r.un; rw [make_units]; omega⟩
theorem Room.depth {k : Nat} {A : Around} (r : Room k A) : A.depth < recursionLimit := by have := r.dp; omega
theorem Room.units {k : Nat} {A : Around} (r : Room k A) : A.units + 64 < cLine := by have := r.un; omega
theorem Room.units0 {k : Nat} {A : Around} (r : Room k A) : A.units < cLine := by have := r.un; omega

/-! ### argument lists and displays -/
def tNil : TA := fun _ H Q => Q [] H
def tCons (ta : TE) (tr : TA) : TA := fun σ H Q => ta σ H fun x H1 => tr σ H1 fun xs H2 => Q (x :: xs) H2
section
variable {X : Cx} {e : Expr} {es : List Expr} {te : TE} {t : TA} {pos : Pos}
theorem pa_nil : PA X [] tNil := fun _ _ _ _ H Q I h => Calls.spliced_nil ⟨[], H, I, .nil, h⟩
theorem pa_cons (ha : PE X e te) (hr : PA X es t) (hs : starEach (e :: es) X.env = (false, eval e X.env) :: starEach es X.env := by rfl) : PA X (e :: es) (tCons te t) := by
  intro pos pins s σ H Q I h
  rw [hs]
  show wpAny _ _ (spliced ((false, eval e X.env) :: backTo pos (starEach es X.env))) _ _ s
  refine Calls.spliced_cons (thn (ha pins s σ H _ I h) fun u s1 ⟨x, H1, I1, r1, q1⟩ => ?_)
  exact thn (hr pos pins s1 σ H1 _ I1 q1) fun us s2 ⟨xs, H2, I2, r2, q2⟩ => ⟨x :: xs, H2, I2, .cons r1 r2, q2⟩

/-- a tuple, a list of written items -/
def tTup (t : TA) : TE := fun σ H Q => t σ H fun xs H1 => xs.length ≤ sizeLine ∧ ∀ p, H1 p = none → Q (.ref p) (upd H1 p (.tup xs))
def tLst (t : TA) : TE := fun σ H Q => t σ H fun xs H1 => xs.length ≤ sizeLine ∧ ∀ p, H1 p = none → Q (.ref p) (upd H1 p (.lst xs))
theorem pe_tup {x1} (h : PA X es t) : PE X (.Tuple es x1 pos) (tTup t) := by
  intro pins s σ H Q I hq
  refine wpAny_Tuple_spliced (thn (h pos pins s σ H _ I hq) fun us s1 ⟨xs, H1, I1, r, z, q⟩ => ⟨by rw [← r.length]; exact z, ?_⟩)
  have hf : H1 s1.heap.objs.size = none := I1.hok.fresh (Nat.le_refl _)
  refine ⟨.ref s1.heap.objs.size, upd H1 s1.heap.objs.size (.tup xs), I1.laid (t' := s1.toks) (fun b u e => Heap.get?_push_of_some _ e) (Nat.le_refl _) ?_, rfl, q _ hf⟩
  exact ⟨z, us, r, ⟨_, Heap.get?_push_size _ rfl, rfl, _, rfl⟩⟩
theorem pe_lst (h : PA X es t) : PE X (.List es pos) (tLst t) := by
  intro pins s σ H Q I hq
  refine wpAny_List_spliced (thn (h pos pins s σ H _ I hq) fun us s1 ⟨xs, H1, I1, r, z, q⟩ => ⟨by rw [← r.length]; exact z, ?_⟩)
  have hf : H1 s1.heap.objs.size = none := I1.hok.fresh (Nat.le_refl _)
  refine ⟨.ref s1.heap.objs.size, upd H1 s1.heap.objs.size (.lst xs), I1.laid (t' := s1.toks) (fun b u e => Heap.get?_push_of_some _ e) (Nat.le_refl _) ?_, rfl, q _ hf⟩
  exact ⟨z, us, 0, r, Heap.get?_push_size _ rfl⟩
end

/-! ### what a def promises -/
/-- a def's promise: the bound arguments in the parameters' order, the heap, the wanted end, the wanted exception -/
abbrev Sp := List V → Hp → VK → XK → Prop
/-- how an exception lies behind a call (file 08 gives it): the callers' frames, abstract heap and state ahead of the call, the wish, the exception, the state -/
abbrev CXT := List Env → Hp → Shared → XK → Value → Shared → Prop

/-- the state at a call -/
structure Env0 (P : Program) (w : World) (K : PySem.W.Frag) (mg : Str → Option Value) (base : Heap) (A : Around) (outer : List Env) (s : Shared) (H : Hp) : Prop where
  frames : A.frames = some outer
  mod : Mod K mg base
  bs : ∀ b o, base.get? b = some o → s.heap.get? b = some o ∧ H b = none
  bsz : base.objs.size ≤ s.heap.objs.size
  funs : s.heap.FunFrames base outer
  frf : ∀ b ∈ frs outer, H b = none
  hok : HOk P w H s.heap
  bare : AllBare s.gens
/-- a call's end -/
def CE (outer : List Env) (P : Program) (w : World) (H : Hp) (s : Shared) (Q : VK) (u : Value) (s' : Shared) : Prop :=
  ∃ v H', s'.os = s.os ∧ AllBare s'.gens ∧ Un (frs outer) [] H H' s.heap s'.heap ∧ HOk P w H' s'.heap ∧ RelV v u ∧ Q v H'
def CR (CX : CXT) (outer : List Env) (P : Program) (w : World) (H : Hp) (s : Shared) (Q : VK) (E : XK) (r : Result) (s' : Shared) : Prop :=
  match r with
  | .ok (.ret u) => CE outer P w H s Q u s'
  | .ok _ => False
  | .error e => CX outer H s E e s'
structure FnOk (P : Program) (w : World) (K : PySem.W.Frag) (mg : Str → Option Value) (base : Heap) (CX : CXT) (k : Nat) (f : Addr) (fd : FuncData) (ps : List Str) (sp : Sp) : Prop where
  len : ∀ vs H Q E, sp vs H Q E → vs.length = ps.length
  run : ∀ (A : Around) (outer : List Env) (s : Shared) (H : Hp) (args : Args) (us : List Value) (vs : List V) (Q : VK) (E : XK), Room k A → Env0 P w K mg base A outer s H → BindsTo s fd args (ps.zip us) → Vals vs us → sp vs H Q E →
    codeAny (model P w) A (.call (.ref f) args) (CR CX outer P w H s Q E) s
theorem FnOk.mono {P : Program} {w : World} {K : PySem.W.Frag} {mg : Str → Option Value} {base : Heap} {CX : CXT} {j k : Nat} {f : Addr} {fd : FuncData} {ps : List Str} {sp : Sp} (F : FnOk P w K mg base CX j f fd ps sp) (h : j ≤ k) :
    FnOk P w K mg base CX k f fd ps sp := ⟨F.len, fun A outer s H args us vs Q E hr => F.run A outer s H args us vs Q E (hr.mono h)⟩
/-- a weaker promise -/
theorem FnOk.imp {P : Program} {w : World} {K : PySem.W.Frag} {mg : Str → Option Value} {base : Heap} {CX : CXT} {k : Nat} {f : Addr} {fd : FuncData} {ps : List Str} {sp sp' : Sp} (F : FnOk P w K mg base CX k f fd ps sp)
    (h : ∀ vs H Q E, sp' vs H Q E → sp vs H Q E) : FnOk P w K mg base CX k f fd ps sp' :=
  ⟨fun vs H Q E q => F.len vs H Q E (h _ _ _ _ q), fun A outer s H args us vs Q E hr he hb hv hs => F.run A outer s H args us vs Q E hr he hb hv (h _ _ _ _ hs)⟩

theorem Env0.make {P : Program} {w : World} {K : PySem.W.Frag} {mg : Str → Option Value} {base : Heap} {A : Around} {outer : List Env} {s : Shared} {H : Hp} (e : Env0 P w K mg base A outer s H) (C : Addr) (us : List Value) (kw : List (Str × Value)) :
    Env0 P w K mg base (A.under (.builtin "type.__call__" ⟨.ref C :: us, kw⟩)) outer s H := ⟨by first | exact e.frames | (simpa [Around.under, Code.envs, Code.isFrame, pushEnvs] using e.frames), e.mod, e.bs, e.bsz, e.funs, e.frf, e.hok, e.bare⟩
theorem Env0.in1 {P : Program} {w : World} {K : PySem.W.Frag} {mg : Str → Option Value} {base : Heap} {A : Around} {outer : List Env} {s : Shared} {H : Hp} (e : Env0 P w K mg base A outer s H) :
    Env0 P w K mg base A.in1 outer s H := ⟨e.frames, e.mod, e.bs, e.bsz, e.funs, e.frf, e.hok, e.bare⟩

section
variable {X : Cx} {pins : List (Addr × Obj)} {σ : St} {H : Hp} {s s' : Shared}
/-- from a body: what a callee wants -/
theorem Inv.env0 (I : Inv X pins σ H s) : Env0 X.prog X.w X.K X.mg X.base X.A X.stack s H :=
  ⟨I.ok.frames, I.ok.mod, I.bs, Nat.le_trans I.ok.bsz I.sz, I.stack, I.stkFree, I.hok, I.bare⟩
/-- behind a call -/
theorem Inv.after {Q : VK} {u : Value} (I : Inv X pins σ H s) (h : CE X.stack X.prog X.w H s Q u s') : EP X pins σ Q u s' := by
  obtain ⟨v, H', os, bare, un, hok, r, q⟩ := h
  obtain ⟨hh, g, d, t, os'⟩ := s'
  obtain rfl : os' = s.os := os
  exact ⟨v, H', I.call (h' := hh) (g' := g) (d' := d) (t' := t) (ch := []) un hok bare (fun b z => absurd z (by simp)), r, q⟩
end

/-! ### calls -/
/-- f(..): the written arguments, then the defaults dvs; E: what is wanted of an exception -/
def tCall (sp : Sp) (dvs : List V) (E : XK) (t : TA) : TE := fun σ H Q => t σ H fun vs H1 => sp (vs ++ dvs) H1 Q E
/-- o.m(..) of an instance of the class at C -/
def tMeth (C : Addr) (m : Str) (sp : Sp) (dvs : List V) (E : XK) (ta : TE) (t : TA) : TE := fun σ H Q => ta σ H fun x H1 => ∃ a dx fs, x = .ref a ∧ H1 a = some (.ins C dx fs) ∧ fs.lookup m = none ∧
  t σ H1 fun vs H2 => sp (x :: (vs ++ dvs)) H2 Q E
/-- C(..): a new instance and its dict, then __init__ -/
def tMake (C : Addr) (sp : Sp) (dvs : List V) (E : XK) (t : TA) : TE := fun σ H Q => t σ H fun vs H1 => ∀ x dx, H1 x = none → H1 dx = none → dx ≠ x →
  sp (.ref x :: (vs ++ dvs)) (upd (upd H1 dx (.own x)) x (.ins C dx [])) (fun v H2 => v = .non ∧ Q (.ref x) H2) E

/-- how the parameters are bound: us the positional arguments, kw the keywords' values by name, ds the defaults that fill up -/
def Binds (K : PySem.W.Frag) (fd : FuncData) (ps : List Str) (ds : List Value) : Prop :=
  ∀ (s : Shared) (us : List Value), K.In s.heap → (us ++ ds).length = ps.length → BindsTo s fd ⟨us, []⟩ (ps.zip (us ++ ds))
/-- every parameter is given -/
theorem Binds.all {K : PySem.W.Frag} {fd : FuncData} {ps : List Str} (h : ∀ us : List Value, us.length = ps.length → bindArgs fd ⟨us, []⟩ = pure (ps.zip us)) : Binds K fd ps [] := fun s us _ hl => by
  rw [List.append_nil] at hl ⊢
  exact .of_eq (h us hl)

/-- an exception of a callee reaches what this body wants of exceptions -/
def Passes (CX : CXT) (X : Cx) (E : XK) : Prop := ∀ (pins : List (Addr × Obj)) (σ : St) (H : Hp) (s : Shared) (e : Value) (s' : Shared), Inv X pins σ H s → CX X.stack H s E e s' → X.xe e s'

section
variable {X : Cx} {CX : CXT} {k : Nat} {f C : Addr} {fd : FuncData} {ps : List Str} {sp : Sp} {dvs : List V} {ds : List Value} {E : XK} {x m : Str} {p pos apos : Pos} {e o : Expr} {es : List Expr} {ta : TE} {t : TA}

/-- the callee runs -/
theorem run_fn {pins : List (Addr × Obj)} {σ : St} {H : Hp} {s : Shared} {Q : VK} {us : List Value} {vs : List V} (F : FnOk X.prog X.w X.K X.mg X.base CX k f fd ps sp) (hr : Room k X.A) (hb : Binds X.K fd ps ds) (hd : Vals dvs ds) (hx : Passes CX X E)
    (I : Inv X pins σ H s) (r : Vals vs us) (h : sp (vs ++ dvs) H Q E) : wpAny (model X.prog X.w) X.A (call (.ref f) us) (EP X pins σ Q) X.xe s := by
  have r2 : Vals (vs ++ dvs) (us ++ ds) := r.append hd
  have hl : (us ++ ds).length = ps.length := by rw [← r2.length]; exact F.len _ _ _ _ h
  refine wpAny_call (codeAny_mono (F.run X.A X.stack s H ⟨us, []⟩ (us ++ ds) (vs ++ dvs) Q E hr I.env0 (hb s us I.kIn hl) r2 h) fun r s' hq => ?_)
  cases r with
  | error e => exact hx pins σ H s e s' I hq
  | ok fl =>
    cases fl with
    | ret u => exact I.after hq
    | next => exact False.elim hq
    | brk => exact False.elim hq
    | cont => exact False.elim hq

theorem pe_call (F : FnOk X.prog X.w X.K X.mg X.base CX k f fd ps sp) (hr : Room k X.A) (hg : Gl X x) (hm : X.mg x = some (.ref f)) (hk : PySem.W.keepIn X.K (.ref f) = true) (hb : Binds X.K fd ps ds) (hd : Vals dvs ds) (hx : Passes CX X E)
    (ha : PA X (e :: es) t) (hdb : (x == ("__debug__" : Str)) = false := by decide) (he : starEach (e :: es) X.env = (false, eval e X.env) :: starEach es X.env := by rfl) (hpl : (backTo pos (starEach es X.env)).any (·.1) = false := by rfl) :
    PE X (.Call (.Name x p) (e :: es) [] pos) (tCall sp dvs E t) := by
  intro pins s σ H Q I h
  refine wpAny_Call_Name_kw (ld_glob I hg hm ?_ hdb)
  refine PySem.W.callWith_K (h₀ := X.base) I.ok.mod.kin hk (thn (ha pos pins s σ H _ I h) fun us s1 ⟨vs, H1, I1, r, q⟩ => ⟨I1.kIn, ?_⟩) he hpl
  exact run_fn F hr hb hd hx I1 r q
theorem pe_call0 (F : FnOk X.prog X.w X.K X.mg X.base CX k f fd ps sp) (hr : Room k X.A) (hg : Gl X x) (hm : X.mg x = some (.ref f)) (hk : PySem.W.keepIn X.K (.ref f) = true) (hb : Binds X.K fd ps ds) (hd : Vals dvs ds) (hx : Passes CX X E)
    (hdb : (x == ("__debug__" : Str)) = false := by decide) : PE X (.Call (.Name x p) [] [] pos) (tCall sp dvs E tNil) := by
  intro pins s σ H Q I h
  refine wpAny_Call_Name_kw (ld_glob I hg hm ?_ hdb)
  exact PySem.W.callWith_K0 I.kIn hk (run_fn (us := []) F hr hb hd hx I .nil h)

/-- o.m(e, ..) -/
theorem pe_meth {pl : Sem Bool} (he : PE X o ta) (c : Cls X.K C) (hm : Meth X.K C m f) (F : FnOk X.prog X.w X.K X.mg X.base CX k f fd ps sp) (hr : Room k X.A) (hb : Binds X.K fd ps ds) (hd : Vals dvs ds) (hx : Passes CX X E) (ha : PA X (e :: es) t)
    (hst : starEach (e :: es) X.env = (false, eval e X.env) :: starEach es X.env := by rfl) (hpl : (backTo pos (starEach es X.env)).any (·.1) = false := by rfl)
    (ht : eval (.Call (.Attribute o m apos) (e :: es) [] pos) X.env = (do
      let ov ← eval o X.env
      standAt apos.atName
      let (f, first) ← holding [ov] (getMethod ov m pl)
      callWith pos f first (backTo pos (starEach (e :: es) X.env)) (backToKw pos (keywordEach [] X.env))) := by rfl) :
    PE X (.Call (.Attribute o m apos) (e :: es) [] pos) (tMeth C m sp dvs E ta t) := by
  intro pins s σ H Q I h
  refine PySem.W.methodCall_KW (pl := pl) (thn (he pins s σ H _ I h) fun u s1 ⟨x, H1, I1, rx, a, dx, fs, ex, ea, l, q⟩ => ?_) ht
  subst ex
  obtain rfl : u = Value.ref a := rx
  refine getmeth_ok I1 ea c hm l ?_
  refine PySem.W.callWith_K (first := [.ref a]) (h₀ := X.base) I.ok.mod.kin hm.kp (thn (ha pos pins s1 σ H1 _ I1 q) fun us s2 ⟨vs, H2, I2, r, q2⟩ => ⟨I2.kIn, ?_⟩) hst hpl
  exact run_fn (us := .ref a :: us) (vs := .ref a :: vs) F hr hb hd hx I2 (.cons rfl r) q2
/-- o.m() -/
theorem pe_meth0 {pl : Sem Bool} (he : PE X o ta) (c : Cls X.K C) (hm : Meth X.K C m f) (F : FnOk X.prog X.w X.K X.mg X.base CX k f fd ps sp) (hr : Room k X.A) (hb : Binds X.K fd ps ds) (hd : Vals dvs ds) (hx : Passes CX X E)
    (ht : eval (.Call (.Attribute o m apos) [] [] pos) X.env = (do
      let ov ← eval o X.env
      standAt apos.atName
      let (f, first) ← holding [ov] (getMethod ov m pl)
      callWith pos f first (backTo pos (starEach [] X.env)) (backToKw pos (keywordEach [] X.env))) := by rfl) :
    PE X (.Call (.Attribute o m apos) [] [] pos) (tMeth C m sp dvs E ta tNil) := by
  intro pins s σ H Q I h
  refine PySem.W.methodCall_KW (pl := pl) (thn (he pins s σ H _ I h) fun u s1 ⟨x, H1, I1, rx, a, dx, fs, ex, ea, l, q⟩ => ?_) ht
  subst ex
  obtain rfl : u = Value.ref a := rx
  refine getmeth_ok I1 ea c hm l ?_
  exact PySem.W.callWith_K0 (first := [.ref a]) I1.kIn hm.kp (run_fn (us := [.ref a]) (vs := [.ref a]) F hr hb hd hx I1 (.cons rfl .nil) q)

/-- what a class must have to be made -/
structure Mk (K : PySem.W.Frag) (C f : Addr) : Prop where
  makes : PySem.W.makesIn K C = true
  init : PySem.W.findIn K (.ref C) "__init__" = some (some (.ref f))
  fn : PySem.W.isFn K (.ref f) = true
  kp : PySem.W.keepIn K (.ref C) = true

theorem run_make {pins : List (Addr × Obj)} {σ : St} {H : Hp} {s : Shared} {Q : VK} {us : List Value} {vs : List V} (M : Mk X.K C f) (F : FnOk X.prog X.w X.K X.mg X.base CX k f fd ps sp) (hr : Room (k + 1) X.A) (hb : Binds X.K fd ps ds) (hd : Vals dvs ds)
    (hx : Passes CX X E) (I : Inv X pins σ H s) (r : Vals vs us)
    (h : ∀ x dx, H x = none → H dx = none → dx ≠ x → sp (.ref x :: (vs ++ dvs)) (upd (upd H dx (.own x)) x (.ins C dx [])) (fun v H2 => v = .non ∧ Q (.ref x) H2) E) :
    wpAny (model X.prog X.w) X.A (call (.ref C) us) (EP X pins σ Q) X.xe s := by
  have hq := h (s.heap.objs.size + 1) s.heap.objs.size (I.hok.fresh (Nat.le_succ _)) (I.hok.fresh (Nat.le_refl _)) (Nat.ne_of_lt (Nat.lt_succ_self _))
  have I2 := Inv.made (C := C) I
  have r2 : Vals (V.ref (s.heap.objs.size + 1) :: (vs ++ dvs)) (Value.ref (s.heap.objs.size + 1) :: (us ++ ds)) := .cons rfl (r.append hd)
  have hl : (Value.ref (s.heap.objs.size + 1) :: us ++ ds).length = ps.length := by
    have e := r2.length
    rw [F.len _ _ _ _ hq] at e
    exact e.symm
  refine wpAny_call (make_map (f := f) I.kIn M.makes M.init (beq_iff_eq.mp M.fn) (codeAny_mono (F.run _ X.stack _ _ ⟨Value.ref (s.heap.objs.size + 1) :: us, []⟩ (Value.ref (s.heap.objs.size + 1) :: (us ++ ds)) _ _ E (hr.make C us [])
    (I2.env0.make C us []) (hb _ (Value.ref (s.heap.objs.size + 1) :: us) I2.kIn hl) r2 hq) fun r s' hq' => ?_))
  cases r with
  | error e => exact hx pins σ _ _ e s' I2 hq'
  | ok fl =>
    cases fl with
    | ret u =>
      obtain ⟨v, H', I3, rv, ev, q3⟩ := I2.after hq'
      subst ev
      exact ⟨rv, ⟨V.ref (s.heap.objs.size + 1), H', I3, rfl, q3⟩⟩
    | next => exact False.elim hq'
    | brk => exact False.elim hq'
    | cont => exact False.elim hq'
theorem pe_make (M : Mk X.K C f) (F : FnOk X.prog X.w X.K X.mg X.base CX k f fd ps sp) (hr : Room (k + 1) X.A) (hg : Gl X x) (hm : X.mg x = some (.ref C)) (hb : Binds X.K fd ps ds) (hd : Vals dvs ds) (hx : Passes CX X E)
    (ha : PA X (e :: es) t) (hdb : (x == ("__debug__" : Str)) = false := by decide) (he : starEach (e :: es) X.env = (false, eval e X.env) :: starEach es X.env := by rfl) (hpl : (backTo pos (starEach es X.env)).any (·.1) = false := by rfl) :
    PE X (.Call (.Name x p) (e :: es) [] pos) (tMake C sp dvs E t) := by
  intro pins s σ H Q I h
  refine wpAny_Call_Name_kw (ld_glob I hg hm ?_ hdb)
  refine PySem.W.callWith_K (h₀ := X.base) I.ok.mod.kin M.kp (thn (ha pos pins s σ H _ I h) fun us s1 ⟨vs, H1, I1, r, q⟩ => ⟨I1.kIn, ?_⟩) he hpl
  exact run_make M F hr hb hd hx I1 r q
theorem pe_make0 (M : Mk X.K C f) (F : FnOk X.prog X.w X.K X.mg X.base CX k f fd ps sp) (hr : Room (k + 1) X.A) (hg : Gl X x) (hm : X.mg x = some (.ref C)) (hb : Binds X.K fd ps ds) (hd : Vals dvs ds) (hx : Passes CX X E)
    (hdb : (x == ("__debug__" : Str)) = false := by decide) : PE X (.Call (.Name x p) [] [] pos) (tMake C sp dvs E tNil) := by
  intro pins s σ H Q I h
  refine wpAny_Call_Name_kw (ld_glob I hg hm ?_ hdb)
  exact PySem.W.callWith_K0 I.kIn M.kp (run_make (us := []) M F hr hb hd hx I .nil h)
end

/-! ### keywords -/
/-- the values of the keywords, from the left -/
def PK (X : Cx) (kws : List Keyword) (t : TA) : Prop :=
  ∀ (pos : Pos) (pins : List (Addr × Obj)) (s : Shared) (σ : St) (H : Hp) (Q : List V → Hp → Prop), Inv X pins σ H s → t σ H Q → wpAny (model X.prog X.w) X.A (evalAll ((backToKw pos (keywordEach kws X.env)).map (·.2))) (AP X pins σ Q) X.xe s
section
variable {X : Cx} {CX : CXT} {k : Nat} {f C : Addr} {fd : FuncData} {ps ks : List Str} {sp : Sp} {E : XK} {x m : Str} {p pos apos kpos : Pos} {e o : Expr} {es : List Expr} {kws : List Keyword} {te ta : TE} {t tk : TA} {nm : Option Str}
theorem pk_nil : PK X [] tNil := fun _ _ _ _ H Q I h => wpAny_evalAll_nil ⟨[], H, I, .nil, h⟩
theorem pk_cons (ha : PE X e te) (hr : PK X kws t) : PK X (⟨nm, e, kpos⟩ :: kws) (tCons te t) := by
  intro pos pins s σ H Q I h
  show wpAny _ _ (evalAll ((do let v ← eval e X.env; standAt pos; pure v) :: (backToKw pos (keywordEach kws X.env)).map (·.2))) _ _ s
  refine wpAny_evalAll_cons (wpAny_bind (thn (ha pins s σ H _ I h) fun u s1 ⟨x, H1, I1, r1, q1⟩ => wpAny_bind (wpAny_standAt (wpAny_pure ?_))))
  exact thn (hr pos pins s1 σ H1 _ I1 q1) fun us s2 ⟨xs, H2, I2, r2, q2⟩ => ⟨x :: xs, H2, I2, .cons r1 r2, q2⟩

/-- how a call with keywords binds: g puts the positional values us and the keywords' values ws (names ks) in the parameters' order, defaults among them -/
structure KBinds (K : PySem.W.Frag) (fd : FuncData) (ps ks : List Str) (g : List Value → List Value → List Value) (gV : List V → List V → List V) : Prop where
  to : ∀ (s : Shared) (us ws : List Value), K.In s.heap → (g us ws).length = ps.length → BindsTo s fd ⟨us, ks.zip ws⟩ (ps.zip (g us ws))
  rel : ∀ {vs : List V} {us : List Value} {zs : List V} {ws : List Value}, Vals vs us → Vals zs ws → Vals (gV vs zs) (g us ws)
def tCallK (sp : Sp) (gV : List V → List V → List V) (E : XK) (t tk : TA) : TE := fun σ H Q => t σ H fun vs H1 => tk σ H1 fun zs H2 => sp (gV vs zs) H2 Q E
variable {g : List Value → List Value → List Value} {gV : List V → List V → List V}
theorem run_fnk {pins : List (Addr × Obj)} {σ : St} {H : Hp} {s : Shared} {Q : VK} {us ws : List Value} {vs zs : List V} (F : FnOk X.prog X.w X.K X.mg X.base CX k f fd ps sp) (hr : Room k X.A) (hb : KBinds X.K fd ps ks g gV) (hx : Passes CX X E)
    (I : Inv X pins σ H s) (r : Vals vs us) (rz : Vals zs ws) (h : sp (gV vs zs) H Q E) : wpAny (model X.prog X.w) X.A (call (.ref f) us (ks.zip ws)) (EP X pins σ Q) X.xe s := by
  have r2 := hb.rel r rz
  have hl : (g us ws).length = ps.length := by rw [← r2.length]; exact F.len _ _ _ _ h
  refine wpAny_call (codeAny_mono (F.run X.A X.stack s H ⟨us, ks.zip ws⟩ (g us ws) (gV vs zs) Q E hr I.env0 (hb.to s us ws I.kIn hl) r2 h) fun r s' hq => ?_)
  cases r with
  | error e => exact hx pins σ H s e s' I hq
  | ok fl =>
    cases fl with
    | ret u => exact I.after hq
    | next => exact False.elim hq
    | brk => exact False.elim hq
    | cont => exact False.elim hq
/-- f(e, .., k = v, ..) -/
theorem pe_callK (F : FnOk X.prog X.w X.K X.mg X.base CX k f fd ps sp) (hr : Room k X.A) (hg : Gl X x) (hm : X.mg x = some (.ref f)) (hk : PySem.W.keepIn X.K (.ref f) = true) (hb : KBinds X.K fd ps ks g gV) (hx : Passes CX X E)
    (ha : PA X (e :: es) t) (hkw : PK X kws tk) (hall : (backToKw pos (keywordEach kws X.env)).all (·.1.isSome) = true := by rfl) (hks : (backToKw pos (keywordEach kws X.env)).filterMap (·.1) = ks := by rfl)
    (hdb : (x == ("__debug__" : Str)) = false := by decide) (he : starEach (e :: es) X.env = (false, eval e X.env) :: starEach es X.env := by rfl)
    (hpl : ((backTo pos (starEach (e :: es) X.env)).any (·.1) || (backToKw pos (keywordEach kws X.env)).any (·.1.isNone)) = false := by rfl) :
    PE X (.Call (.Name x p) (e :: es) kws pos) (tCallK sp gV E t tk) := by
  intro pins s σ H Q I h
  refine wpAny_Call_Name_kw (ld_glob I hg hm ?_ hdb)
  refine PySem.W.callWith_KW (h₀ := X.base) I.ok.mod.kin hk hall (thn (ha pos pins s σ H _ I h) fun us s1 ⟨vs, H1, I1, r, q⟩ => ?_) hpl he
  refine thn (hkw pos pins s1 σ H1 _ I1 q) fun ws s2 ⟨zs, H2, I2, rz, q2⟩ => ⟨I2.kIn, ?_⟩
  rw [hks]
  exact run_fnk F hr hb hx I2 r rz q2
end

/-! ### a def's body keeps its promise -/
/-- names: the parameters first -/
structure FnScope (N P : List Str) (sc : Scope) : Prop where
  kind : sc.kind = .function
  co : sc.isCoroutine = false
  gen : sc.isGenerator = false
  nd : N.Nodup
  pre : N.take P.length = P
  par : ∀ x ∈ P, sc.names.lookup x = some .local ∨ sc.names.lookup x = some .cell
  nofree : ∀ y ∈ sc.names, y.2 ≠ .free

theorem bindL_out {kindOf : Str → Option NameKind} {x : Str} : ∀ {binds : List (Str × Value)} {m : Str → Option Value}, (∀ v, (x, v) ∉ binds) → bindL kindOf binds m x = m x
  | [], _, _ => rfl
  | (n, v) :: r, m, h => by
    unfold bindL
    rw [bindL_out fun w hw => h w (List.mem_cons_of_mem _ hw)]
    split
    · have : x ≠ n := by rintro rfl; exact h v List.mem_cons_self
      simp [this]
    · rfl
theorem bindC_out {kindOf : Str → Option NameKind} {x : Str} : ∀ {binds : List (Str × Value)} {m : Str → Option Value}, (∀ v, (x, v) ∉ binds) → bindC kindOf binds m x = m x
  | [], _, _ => rfl
  | (n, v) :: r, m, h => by
    unfold bindC
    rw [bindC_out fun w hw => h w (List.mem_cons_of_mem _ hw)]
    split
    · rfl
    · have : x ≠ n := by rintro rfl; exact h v List.mem_cons_self
      simp [this]
theorem bindL_get {kindOf : Str → Option NameKind} {x : Str} {v : Value} : ∀ {P : List Str} {vs : List Value} {i : Nat} {m : Str → Option Value}, P.Nodup → P[i]? = some x → vs[i]? = some v → kindOf x = some .local →
    bindL kindOf (P.zip vs) m x = some v
  | [], _, _, _, _, h, _, _ => by simp at h
  | _ :: _, [], _, _, _, _, h, _ => by simp at h
  | p :: P, w :: vs, 0, m, nd, h1, h2, hk => by
    simp at h1 h2; subst h1; subst h2
    show bindL kindOf ((p, w) :: P.zip vs) m p = _
    unfold bindL
    rw [bindL_out fun v hv => (List.nodup_cons.mp nd).1 (List.of_mem_zip hv).1, if_pos hk]
    simp
  | p :: P, w :: vs, i + 1, m, nd, h1, h2, hk => by
    show bindL kindOf ((p, w) :: P.zip vs) m x = _
    unfold bindL
    exact bindL_get (i := i) (List.nodup_cons.mp nd).2 (by simpa using h1) (by simpa using h2) hk
theorem bindC_get {kindOf : Str → Option NameKind} {x : Str} {v : Value} : ∀ {P : List Str} {vs : List Value} {i : Nat} {m : Str → Option Value}, P.Nodup → P[i]? = some x → vs[i]? = some v → kindOf x ≠ some .local →
    bindC kindOf (P.zip vs) m x = some v
  | [], _, _, _, _, h, _, _ => by simp at h
  | _ :: _, [], _, _, _, _, h, _ => by simp at h
  | p :: P, w :: vs, 0, m, nd, h1, h2, hk => by
    simp at h1 h2; subst h1; subst h2
    show bindC kindOf ((p, w) :: P.zip vs) m p = _
    unfold bindC
    rw [bindC_out fun v hv => (List.nodup_cons.mp nd).1 (List.of_mem_zip hv).1, if_neg hk]
    simp
  | p :: P, w :: vs, i + 1, m, nd, h1, h2, hk => by
    show bindC kindOf ((p, w) :: P.zip vs) m x = _
    unfold bindC
    exact bindC_get (i := i) (List.nodup_cons.mp nd).2 (by simpa using h1) (by simpa using h2) hk

/-- the names' values at the entry -/
def start (N : List Str) (vs : List V) : St := vs.map some ++ List.replicate (N.length - vs.length) none

/-- the context of a def's body, at its entry; an exception leaves the frame, then lies as CX says -/
def cxOf (CX : CXT) (P : Program) (w : World) (K : PySem.W.Frag) (mg : Str → Option Value) (base : Heap) (N : List Str) (qual : Str) (scope : Scope) (f : Addr) (cd : Value) (A : Around) (outer : List Env) (s : Shared) (H : Hp) (E : XK) : Cx where
  prog := P
  w := w
  K := K
  mg := mg
  base := base
  A := A.deeper (envOfC qual scope s.heap.objs.size f cd)
  N := N
  s₀ := s
  H₀ := H
  env := envOfC qual scope s.heap.objs.size f cd
  outer := outer
  stack := envOfC qual scope s.heap.objs.size f cd :: outer
  ex := []
  calm := true
  fn := fun _ => true
  pn := []
  xe := fun e s' => wpAny (model P w) (A.deeper (envOfC qual scope s.heap.objs.size f cd)) (leaving (envOfC qual scope s.heap.objs.size f cd) e) (fun _ s'' => CX outer H s E e s'') (fun e' s'' => CX outer H s E e' s'') s'

theorem cell_has {sc : Scope} {n : Nat} {x : Str} (h : sc.names.lookup x = some .cell) : ∃ c, (cellsFrom n sc.names []).lookup x = some c := by
  have q := PySem.W.cellsFrom_some sc.names n [] (.inl h)
  exact Option.isSome_iff_exists.mp q

theorem inv_start {CX : CXT} {P : Program} {w : World} {K : PySem.W.Frag} {mg : Str → Option Value} {base : Heap} {N ps : List Str} {qual : Str} {scope : Scope} {f : Addr} {cd : Value} {A : Around} {outer : List Env} {s s1 : Shared} {H : Hp} {E : XK} {us : List Value} {vs : List V}
    (S : FnScope N ps scope) (hd : A.handled = none) (e0 : Env0 P w K mg base A outer s H) (hl : vs.length = ps.length) (r : Vals vs us)
    (x : InCallC s s.heap.objs.size (bindL (envOfC qual scope s.heap.objs.size f cd).kindOf (ps.zip us) fun _ => none) (cellsFrom (s.heap.objs.size + 1) scope.names []) (bindC (envOfC qual scope s.heap.objs.size f cd).kindOf (ps.zip us) fun _ => none) s1) :
    Inv (cxOf CX P w K mg base N qual scope f cd A outer s H E) [] (start N vs) H s1 := by
  have hpl : ps.length ≤ N.length := by have := congrArg List.length S.pre; rw [List.length_take] at this; omega
  obtain ⟨h1, tk, rfl, hk⟩ := x.done
  have noA : ∀ b : Addr, b ∉ (cxOf CX P w K mg base N qual scope f cd A outer s H E).ex := fun b z => absurd (show b ∈ ([] : List Addr) from z) (by simp)
  refine ⟨⟨e0.mod, S.kind, rfl, rfl, Nat.le_refl _, fun y z c h1 h2 => ?_, fun y hy => ?_, fun y c _ h => ?_, fun _ => hd, Around.frames_deeper e0.frames, .inr ⟨rfl, rfl⟩, fun b z => absurd z (noA b), e0.bs, e0.bsz, fun b _ _ => noA b, fun b z => absurd z (noA b), e0.funs, e0.frf⟩,
    rfl, e0.bare, Un.kept hk, ⟨_, x.toInCall.ns, fun i y v h1 h2 h3 => ?_⟩, fun y c h => ⟨_, x.cell y c h⟩, e0.hok.fresh (Nat.le_refl _), fun y c h => ?_, fun p hp => absurd (show p ∈ ([] : List (Addr × Obj)) from hp) (by simp), e0.hok.kept hk, ?_⟩
  · exact name_of_addr x.apart (PySem.mem_of_lookup h1) (PySem.mem_of_lookup h2)
  · have hy : scope.names.lookup y = some .cell ∨ scope.names.lookup y = some .free := hy
    rcases hy with hy | hy
    · exact cell_has hy
    · exact absurd rfl (S.nofree _ (PySem.mem_of_lookup hy))
  · exact Nat.le_of_lt (x.above y c (PySem.mem_of_lookup h))
  · have hi : i < vs.length := by
      unfold start at h2
      by_cases hi : i < vs.length
      · exact hi
      · rw [List.getElem?_append_right (by simpa using hi)] at h2
        rw [List.getElem?_replicate] at h2
        split at h2 <;> cases h2
    have ha : vs[i]? = some v := by
      unfold start at h2
      rw [List.getElem?_append_left (by simpa using hi), List.getElem?_map] at h2
      cases e : vs[i]? with
      | none => rw [e] at h2; cases h2
      | some a => rw [e] at h2; cases h2; rfl
    obtain ⟨u, hu, rv⟩ := r.get ha
    have hp : ps[i]? = some y := by
      rw [← S.pre, List.getElem?_take_of_lt (by omega)]; exact h1
    have ndP : ps.Nodup := by rw [← S.pre]; exact S.nd.sublist (List.take_sublist _ _)
    refine ⟨u, rv, ?_⟩
    rcases S.par y (List.mem_of_getElem? hp) with k | k
    · exact .inl ⟨k, bindL_get ndP hp hu k⟩
    · obtain ⟨c, e⟩ := cell_has (n := s.heap.objs.size + 1) k
      refine .inr ⟨.inl k, c, e, ?_⟩
      have q := x.cell y c e
      rw [bindC_get ndP hp hu (by show scope.names.lookup y ≠ _; rw [k]; decide)] at q
      exact q
  · exact e0.hok.fresh (Nat.le_of_lt (x.above y c (PySem.mem_of_lookup h)))
  · unfold start
    show _ = N.length
    rw [List.length_append, List.length_map, List.length_replicate]
    omega

/-- THE RULE: a def (or a method) of the text, by its body. The body's reading t is chosen for each entry; it is run at the parameters' values -/
theorem fn_of {CX : CXT} {P : Program} {w : World} {K : PySem.W.Frag} {mg : Str → Option Value} {base : Heap} {k : Nat} {f : Addr} {name qual : Str} {params : Arguments} {body : List Stmt} {scope : Scope} {dV kV doc pm cdv ct oc : Value} {an od : Option Addr}
    {osl : Array (Option Value)} {N ps : List Str} {sp : Sp} (lk : K.lookup f = some ⟨oc, od, .func (PySem.W.fnOf name qual params body scope dV kV doc pm an cdv ct), osl⟩) (hcd : PySem.W.codeIn K cdv qual = true) (S : FnScope N ps scope)
    (len : ∀ vs H Q E, sp vs H Q E → vs.length = ps.length)
    (hbody : ∀ (A : Around) (outer : List Env) (s : Shared) (H : Hp) (vs : List V) (Q : VK) (E : XK), Room k (A.deeper (envOfC qual scope s.heap.objs.size f cdv)) → sp vs H Q E →
      ∃ t, PSs (cxOf CX P w K mg base N qual scope f cdv A outer s H E) body t ∧ t { nx := fun _ H' => Q .non H', rt := Q } (start N vs) H) :
    FnOk P w K mg base CX (k + 1) f (PySem.W.fnOf name qual params body scope dV kV doc pm an cdv ct) ps sp := by
  refine ⟨len, fun A outer s H args us vs Q E hr e0 hb r hsp => ?_⟩
  have hl := len _ _ _ _ hsp
  have KX : K.In s.heap := e0.mod.kin.keeps fun b o e => (e0.bs b o e).1
  have lim : s.heap.NoLimit := e0.mod.nolimit.keeps fun b o e => (e0.bs b o e).1
  have hkind : ∀ y ∈ ps.zip us, scope.names.lookup y.1 = some .local ∨ (scope.names.lookup y.1 = some .cell ∧ ((cellsFrom (s.heap.objs.size + 1) scope.names []).lookup y.1).isSome = true) := fun ⟨n, v⟩ hy => by
    rcases S.par n (List.of_mem_zip hy).1 with q | q
    · exact .inl q
    · exact .inr ⟨q, PySem.W.cellsFrom_some _ _ _ (.inl q)⟩
  refine codeAny_call_function hr.depth (KX _ _ lk) rfl S.co S.gen rfl (PySem.W.codeRec_of KX hcd) (hb _ _ _ _ ?_)
  refine wpAny_newFunctionEnv_cells S.kind hkind fun env he s1 x => ?_
  subst he
  refine ⟨lim.keeps x.toInCall.keep, codeAny_func ?_⟩
  obtain ⟨t, ht, hq⟩ := hbody A outer s H vs Q E (hr.deeper _) hsp
  have I : Inv (cxOf CX P w K mg base N qual scope f cdv A outer s H E) [] (start N vs) H s1 := inv_start S hr.hd e0 hl r x
  refine wpAny_mono (ht [] s1 (start N vs) H _ I hq) (fun fl s' hs => ?_) fun e s' hs => hs
  have fin : ∀ {σ' : St} {H' : Hp} {v : V} {u : Value}, Inv (cxOf CX P w K mg base N qual scope f cdv A outer s H E) [] σ' H' s' → RelV v u → Q v H' → CE outer P w H s Q u s' :=
    fun {σ' H' v u} J rv q => ⟨v, H', J.os, J.bare, J.base, J.hok, rv, q⟩
  cases fl with
  | ret u =>
    obtain ⟨v, σ', H', J, rv, q⟩ := hs
    exact fin J rv q
  | next =>
    obtain ⟨σ', H', J, q⟩ := hs
    exact fin (v := V.non) (u := Value.none) J rfl q
  | brk =>
    obtain ⟨_, _, _, q⟩ := hs
    exact False.elim q
  | cont =>
    obtain ⟨_, _, _, q⟩ := hs
    exact False.elim q
end L2

namespace L2
open PySem PySem.Spec PyProof.Rows
section
variable {X : Cx} {x : Str} {p pos : Pos} {e : Expr} {es : List Expr} {t : TA} {id T : String} {r : List V → Hp → VK → Prop}

def tCB (r : List V → Hp → VK → Prop) (t : TA) : TE := fun σ H Q => t σ H fun vs H1 => r vs H1 Q
/-- f(e, ..), f a built-in function -/
theorem pe_callB (hc : CallR X (.builtin id) r) (hg : Gl X x) (hm : X.mg x = none) (hv : bootBuiltins x = some (.builtin id)) (ha : PA X (e :: es) t) (hn : x ≠ "__name__" := by decide) (hdb : (x == ("__debug__" : Str)) = false := by decide)
    (he : starEach (e :: es) X.env = (false, eval e X.env) :: starEach es X.env := by rfl) (hpl : (backTo pos (starEach es X.env)).any (·.1) = false := by rfl) : PE X (.Call (.Name x p) (e :: es) [] pos) (tCB r t) := by
  intro pins s σ H Q I h
  refine wpAny_Call_Name_kw (ld_blt I hg hm hv ?_ hn hdb)
  exact PyProof.Rows.callWith_builtin1 (thn (ha pos pins s σ H _ I h) fun us s1 ⟨vs, H1, I1, r1, q1⟩ => hc pins s1 σ H1 vs us Q I1 r1 q1) he hpl
/-- T(e, ..), T a built-in type -/
theorem pe_callTy (hc : CallR X (.type T) r) (hg : Gl X x) (hm : X.mg x = none) (hv : bootBuiltins x = some (.type T)) (ha : PA X (e :: es) t) (hn : x ≠ "__name__" := by decide) (hdb : (x == ("__debug__" : Str)) = false := by decide)
    (he : starEach (e :: es) X.env = (false, eval e X.env) :: starEach es X.env := by rfl) (hpl : (backTo pos (starEach es X.env)).any (·.1) = false := by rfl) : PE X (.Call (.Name x p) (e :: es) [] pos) (tCB r t) := by
  intro pins s σ H Q I h
  refine wpAny_Call_Name_kw (ld_blt I hg hm hv ?_ hn hdb)
  exact PyProof.Rows.callWith_type1 (thn (ha pos pins s σ H _ I h) fun us s1 ⟨vs, H1, I1, r1, q1⟩ => hc pins s1 σ H1 vs us Q I1 r1 q1) he hpl
/-- T() -/
theorem pe_callTy0 (hc : CallR X (.type T) r) (hg : Gl X x) (hm : X.mg x = none) (hv : bootBuiltins x = some (.type T)) (hn : x ≠ "__name__" := by decide) (hdb : (x == ("__debug__" : Str)) = false := by decide) :
    PE X (.Call (.Name x p) [] [] pos) (tCB r tNil) := by
  intro pins s σ H Q I h
  refine wpAny_Call_Name_kw (ld_blt I hg hm hv ?_ hn hdb)
  exact PyProof.Rows.callWith_type0 (hc pins s σ H [] [] Q I .nil h)
end
end L2

namespace HT
open PySem PyProof.Rows

/-- t < u of tuples of ints -/
def lexLt : List Int → List Int → Bool
  | [], [] => false
  | [], _ :: _ => true
  | _ :: _, [] => false
  | x :: xs, y :: ys => if x = y then lexLt xs ys else decide (x < y)
theorem lexLt_cons (x y : Int) (xs ys : List Int) : lexLt (x :: xs) (y :: ys) = if x = y then lexLt xs ys else decide (x < y) := rfl
theorem lexLt_nil_nil : lexLt [] [] = false := rfl
theorem lexLt_nil_cons (y : Int) (ys : List Int) : lexLt [] (y :: ys) = true := rfl
theorem lexLt_cons_nil (x : Int) (xs : List Int) : lexLt (x :: xs) [] = false := rfl

theorem eqAt_int (A : Around) (s : Shared) (a : Int) (t : Tok) (c : Int) (u : Tok) : ∃ e, SeqAt.EqAt A s (.int a t) (.int c u) e ∧ (e = true ↔ a = c) :=
  ⟨(a == c), SeqAt.EqAt.int_int a t c u, by simp⟩
theorem rcLt_int (A : Around) (s : Shared) (a : Int) (t : Tok) (c : Int) (u : Tok) (prog : Program) (w : World) (E : Value → Shared → Prop) (Q : Value → Shared → Prop) (h : Q (.bool (decide (a < c))) s) :
    wpAny (model prog w) A (richCompare .Lt (.int a t) (.int c u)) Q E s :=
  (PyProof.Rows.lt_int h : wpAny (model prog w) A (compareOp .Lt (.int a t) (.int c u)) Q E s)

section
open PySem.SeqAt
open PySem.AutoSeq1 (wpAny_loadPart')
open PySem.MeetsSeq PySem.MeetsSeq2 PySem.MeetsSeq3

theorem tuple_lt_ints (l b : Addr) (items items2 : Array Value) (n n2 : Nat) (dd dd2 : Option Addr) (sl sl2 : Array (Option Value)) (ns ms : List Int) (hi : IntsAre items.toList ns) (hj : IntsAre items2.toList ms) :
    Meets (Builtin.«tuple.__lt__» ⟨[.ref l, .ref b], []⟩)
      (fun _ R s => s.heap.get? l = some { cls := .type "tuple", dict := dd, data := .seq items n, slots := sl } ∧ s.heap.get? b = some { cls := .type "tuple", dict := dd2, data := .seq items2 n2, slots := sl2 } ∧
        R (.ok (.ret (.bool (lexLt ns ms)))) s) :=
  .of_wp fun prog w A R s h => by
    obtain ⟨hp, g, d, tk, os⟩ := s; obtain ⟨hl, hb, h⟩ := h
    have f2 := AutoSeq1.sub_tuple_tuple
    have z1 : items.size = ns.length := by rw [← hi.length]; simp
    have z2 : items2.size = ms.length := by rw [← hj.length]; simp
    wp_walk using wpAny_loadPart' hl, wpAny_loadPart' hb, wpAny_forIn_list _ (fun rest b s' => b.1 = none ∧ s' = ⟨hp, g, d, tk, os⟩ ∧ ∃ (vs ws : List Value) (ns' ms' : List Int), rest = vs.zip ws ∧
      IntsAre vs ns' ∧ IntsAre ws ms' ∧ ns'.length + items2.size = ms'.length + items.size ∧ R (.ok (.ret (.bool (lexLt ns' ms')))) ⟨hp, g, d, tk, os⟩) _
    case turn =>
      rintro ⟨y, x⟩ rest b s' ⟨hb', rfl, vs, ws, ns', ms', hz, hvi, hwi, hlen, hR⟩
      cases hvi with
      | nil => rw [List.zip_nil_left] at hz; cases hz
      | cons a t hvi' =>
        cases hwi with
        | nil => rw [List.zip_nil_right] at hz; cases hz
        | cons c u hwi' =>
          rw [List.zip_cons_cons] at hz
          injection hz with hyx hrest
          injection hyx with hy hx
          subst hy hx
          rw [lexLt_cons] at hR
          simp only [List.length_cons] at hlen
          obtain ⟨e, he, hiff⟩ := eqAt_int A.in1 ⟨hp, g, d, tk, os⟩ a t c u
          refine wpAny_bind (he prog w _ _ ?_)
          cases e with
          | true =>
            rw [if_pos (hiff.mp rfl)] at hR
            wp_walk
            exact ⟨rfl, rfl, _, _, _, _, hrest, hvi', hwi', by omega, hR⟩
          | false =>
            rw [if_neg (fun q => absurd (hiff.mpr q) Bool.false_ne_true)] at hR
            have hri := rcLt_int A.in1 ⟨hp, g, d, tk, os⟩ a t c u prog w
            wp_walk using hri
            exact ⟨_, rfl, by simpa using hR⟩
    case fin =>
      rintro ⟨b1, b2⟩ s' ⟨hb', rfl, vs, ws, ns', ms', hz, hvi, hwi, hlen, hR⟩
      simp only at hb'
      subst hb'
      have hv : lexLt ns' ms' = decide (items.size < items2.size) := by
        cases hvi with
        | nil =>
          cases hwi with
          | nil =>
            simp only [List.length_nil] at hlen
            rw [lexLt_nil_nil]
            exact (decide_eq_false (by omega)).symm
          | cons c u hw =>
            simp only [List.length_nil, List.length_cons] at hlen
            rw [lexLt_nil_cons]
            exact (decide_eq_true (by omega)).symm
        | cons a t hv =>
          cases hwi with
          | nil =>
            simp only [List.length_nil, List.length_cons] at hlen
            rw [lexLt_cons_nil]
            exact (decide_eq_false (by omega)).symm
          | cons c u hw =>
            rw [List.zip_cons_cons] at hz
            cases hz
      rw [hv] at hR
      wp_walk
      exact ⟨_, rfl, by simpa [Builtin.Tuple.tupleCompareSizes] using hR⟩
    case h =>
      exact ⟨rfl, rfl, items.toList, items2.toList, ns, ms, rfl, hi, hj, by omega, h⟩
end

section
variable {prog : Program} {w : World} {A : Around} {E : Value → Shared → Prop} {s : Shared}

theorem lt_tupInts {l b : Addr} {items items2 : Array Value} {ns ms : List Int} {Q : Value → Shared → Prop} (hl : IsTup s.heap l items) (hb : IsTup s.heap b items2) (hi : IntsAre items.toList ns) (hj : IntsAre items2.toList ms)
    (hu : A.units < cLine) (h : Q (.bool (lexLt ns ms)) s) : wpAny (model prog w) A (compareOp .Lt (.ref l) (.ref b)) Q E s := by
  obtain ⟨⟨cls, dd, data, sl⟩, ho, hc, n, hd⟩ := id hl
  obtain ⟨⟨cls2, dd2, data2, sl2⟩, ho2, hc2, n2, hd2⟩ := id hb
  simp only at hc hd hc2 hd2
  subst hc hd hc2 hd2
  exact richCompare_meets_room (op := .Lt) ⟨_, ho, rfl⟩ ⟨_, ho2, rfl⟩ PySem.F.slot_tuple_lt PySem.F.entry_tuple_lt (PySem.F.args_tuple_lt_2 _ _) (tuple_lt_ints l b items items2 n n2 dd dd2 sl sl2 ns ms hi hj)
    ⟨ho, ho2, show Value.bool (lexLt ns ms) ≠ Value.notImplemented ∧ Q (.bool (lexLt ns ms)) s from ⟨(fun x => nomatch x), h⟩⟩ hu

/-- t + u, t not empty -/
theorem cat_tup {t b : Addr} {vs ws : List Value} {Q : Value → Shared → Prop} (ht : IsTup s.heap t vs.toArray) (hb : IsTup s.heap b ws.toArray) (hv : vs ≠ [])
    (h1 : ws = [] → Q (.ref t) s) (h2 : ws ≠ [] → Q (.ref s.heap.objs.size) { s with heap := s.heap.push { cls := .type "tuple", data := .seq (vs ++ ws).toArray } })
    (hsz : vs.length + ws.length ≤ sizeLine) : wpAny (model prog w) A (binaryOp .Add (.ref t) (.ref b)) Q E s := by
  obtain ⟨⟨cls, dd, data, sl⟩, ho, hc, n, hd⟩ := id ht
  obtain ⟨⟨cls2, dd2, data2, sl2⟩, ho2, hc2, n2, hd2⟩ := id hb
  simp only at hc hd hc2 hd2
  subst hc hd hc2 hd2
  have e : vs.toArray ++ ws.toArray = (vs ++ ws).toArray := by simp
  by_cases hw : ws = []
  · exact concat_meets ⟨_, ho, rfl⟩ ⟨_, ho2, rfl⟩ noFill_tuple_add seq_tuple_add PySem.F.slot_tuple_add PySem.F.entry_tuple_add (PySem.F.args_tuple_add_2 _ _)
      (tuple_addW1 t b vs.toArray ws.toArray n n2 dd dd2 sl sl2 (by simpa using hv) (by simp [hw])) ⟨ho, ho2, h1 hw⟩
  · refine concat_meets ⟨_, ho, rfl⟩ ⟨_, ho2, rfl⟩ noFill_tuple_add seq_tuple_add PySem.F.slot_tuple_add PySem.F.entry_tuple_add (PySem.F.args_tuple_add_2 _ _)
      (tuple_addW2 t b vs.toArray ws.toArray n n2 dd dd2 sl sl2 (by simpa using hv) (by simpa using hw) (by rw [List.size_toArray, List.size_toArray]; exact hsz)) ⟨ho, ho2, ?_⟩
    rw [e]
    exact h2 hw

/-! ### t[a:b], not the whole -/
/-- a slice's bound as a place among n (d where it is left out) -/
def sIx (n d : Nat) : Option Int → Nat
  | none => d
  | some v => if v < 0 then (v + (n : Int)).toNat else min v.toNat n
theorem sIx_none (n d : Nat) : sIx n d none = d := rfl
theorem sIx_nat (n d k : Nat) : sIx n d (some (k : Int)) = min k n := by
  show (if (k : Int) < 0 then ((k : Int) + (n : Int)).toNat else min (k : Int).toNat n) = min k n
  rw [if_neg (by omega), Int.toNat_natCast]
theorem sIx_le (n d : Nat) (hd : d ≤ n) (o : Option Int) : sIx n d o ≤ n := by
  cases o with
  | none => exact hd
  | some v =>
    show (if v < 0 then (v + (n : Int)).toNat else min v.toNat n) ≤ n
    by_cases hv : v < 0
    · rw [if_pos hv]; omega
    · rw [if_neg hv]; exact Nat.min_le_right _ _
theorem clip_eq (v : Int) (n d : Nat) : (if v < 0 then max (v + (n : Int)) 0 else min v (n : Int)) = ((sIx n d (some v) : Nat) : Int) := by
  show (if v < 0 then max (v + (n : Int)) 0 else min v (n : Int)) = (((if v < 0 then (v + (n : Int)).toNat else min v.toNat n) : Nat) : Int)
  by_cases hv : v < 0
  · simp only [if_pos hv]; omega
  · simp only [if_neg hv]; omega
theorem adjust_gen (lo hi : Option Int) (n : Nat) : Builtin.Slice.sliceAdjust lo hi 1 (n : Int) = (((sIx n 0 lo : Nat) : Int), ((sIx n n hi : Nat) : Int)) := by
  have h1 : ¬ ((1 : Int) < 0) := by omega
  unfold Builtin.Slice.sliceAdjust
  simp only [h1, if_false]
  refine Prod.ext ?_ ?_
  · cases lo with
    | none => rfl
    | some v => exact clip_eq v n 0
  · cases hi with
    | none => rfl
    | some v => exact clip_eq v n n
theorem places_gen (i j : Nat) : Builtin.Slice.slicePlaces (i : Int) (j : Int) 1 = j - i := by
  unfold Builtin.Slice.slicePlaces
  have h1 : (1 : Int) > 0 := by omega
  simp only [h1, if_true, Int.ediv_one]
  split <;> omega
theorem slicePart_ {v : Value} {o : Option Int} {Q : Option Int → Shared → Prop} (p : IsPart v o) (h : Q o s) : wpAny (model prog w) A (Builtin.Slice.slicePartIndex v) Q E s := by
  cases p with
  | none => exact slicePart_none h
  | int i t => exact slicePart_int h
theorem sliceApplied_gen {sl : Addr} {vl vu : Value} {lo hi : Option Int} {n : Nat} {Q : Int × Int × Nat → Shared → Prop} (hs : s.heap.IsSliceOf sl vl vu .none) (pl : IsPart vl lo) (pu : IsPart vu hi)
    (h : Q (((sIx n 0 lo : Nat) : Int), 1, sIx n n hi - sIx n 0 lo) s) : wpAny (model prog w) A (Builtin.Slice.sliceApplied (.ref sl) (pure (n : Int))) Q E s := by
  obtain ⟨os, hos, hcs, hds⟩ := id hs
  unfold Builtin.Slice.sliceApplied Builtin.Slice.sliceFields
  refine wpAny_bind (wpAny_bind (wpAny_field hos hds (x := vl) rfl (wpAny_bind (wpAny_field hos hds (x := vu) rfl (wpAny_bind (wpAny_field hos hds (x := .none) rfl (wpAny_pure ?_)))))))
  refine wpAny_bind (slicePart_none ?_)
  show wpAny _ _ (if ((1 : Int) == 0) = true then _ else _) _ _ s
  rw [if_neg (by decide)]
  refine wpAny_bind (slicePart_ pl (wpAny_bind (slicePart_ pu (wpAny_bind (wpAny_pure ?_)))))
  show wpAny _ _ (match Builtin.Slice.sliceAdjust lo hi 1 (n : Int) with | (lo, hi) => pure (lo, (1 : Int), Builtin.Slice.slicePlaces lo hi 1)) _ _ s
  rw [adjust_gen lo hi n]
  show wpAny _ _ (pure (((sIx n 0 lo : Nat) : Int), (1 : Int), Builtin.Slice.slicePlaces ((sIx n 0 lo : Nat) : Int) ((sIx n n hi : Nat) : Int) 1)) _ _ s
  rw [places_gen]
  exact wpAny_pure h
theorem pick_gen (xs : Array Value) (i k : Nat) : ((List.range k).filterMap fun (m : Nat) => xs[((i : Int) + (m : Int) * 1).toNat]?).toArray = ((xs.toList.drop i).take k).toArray := by
  have e : (fun (m : Nat) => xs[((i : Int) + (m : Int) * 1).toNat]?) = fun m => xs[i + m]? := by
    funext m
    have : ((i : Int) + (m : Int) * 1).toNat = i + m := by omega
    rw [this]
  rw [e]
  have := pick_run xs i k
  rw [List.filterMap_map] at this
  have e2 : ((fun x => xs[x]?) ∘ fun x => i + x) = fun m => xs[i + m]? := rfl
  rw [e2] at this
  rw [this]

theorem getItem_tuple_cut {t sl : Addr} {items : Array Value} {vl vu : Value} {lo hi : Option Int} {Q : Value → Shared → Prop} (ht : IsTup s.heap t items) (hs : s.heap.IsSliceOf sl vl vu .none) (pl : IsPart vl lo) (pu : IsPart vu hi)
    (hw : ¬ (sIx items.size 0 lo = 0 ∧ sIx items.size items.size hi = items.size))
    (h : Q (.ref s.heap.objs.size) { s with heap := s.heap.push { cls := .type "tuple", data := .seq ((items.toList.drop (sIx items.size 0 lo)).take (sIx items.size items.size hi - sIx items.size 0 lo)).toArray } })
    (hsz : items.size ≤ sizeLine) : wpAny (model prog w) A (getItem (.ref t) (.ref sl)) Q E s := by
  have htake : sizeOk (.seq ((items.toList.drop (sIx items.size 0 lo)).take (sIx items.size items.size hi - sIx items.size 0 lo)).toArray) := by
    show ((items.toList.drop (sIx items.size 0 lo)).take (sIx items.size items.size hi - sIx items.size 0 lo)).toArray.size ≤ sizeLine
    rw [List.size_toArray, List.length_take, List.length_drop, Array.length_toList]
    omega
  have hj : sIx items.size items.size hi ≤ items.size := sIx_le _ _ (Nat.le_refl _) hi
  obtain ⟨os, hos, hcs, hds⟩ := id hs
  have hTs : s.TypeIs (.ref sl) "slice" := ⟨os, hos, hcs⟩
  unfold getItem
  try with_reducible refine wpAny_holding ?_
  first | refine wpAny_bind (wpAny_pure ?_) | skip
  refine wpAny_bind (wpAny_sequenceKey ht.typeIs (by decide) ?_)
  refine wpAny_bind (wpAny_callSpecial?_slot (name := Str.ofString "__getitem__") ht.typeIs PyProof.Rows.slot_tuple_getitem
    (wpAny_call_entry PyProof.Rows.slot_tuple_getitem ht.typeIs entry_tuple_getitem ?_ (args_tuple_getitem _ _)))
  show wpAny _ _ (Builtin.Tuple.tupleItemsOf (.ref t) >>= _) _ _ s
  refine wpAny_bind (tupleItemsOf_ ht ?_)
  refine wpAny_bind (wpAny_typeOf hTs ?_)
  rw [if_pos (by decide)]
  refine wpAny_bind (sliceApplied_gen hs pl pu ?_)
  have hno : ¬ ((((sIx items.size 0 lo : Nat) : Int) == 0 && (1 : Int) == 1 && (sIx items.size items.size hi - sIx items.size 0 lo) == items.size) = true) := by
    intro q
    rw [Bool.and_eq_true, Bool.and_eq_true] at q
    have q1 : ((sIx items.size 0 lo : Nat) : Int) = 0 := eq_of_beq q.1.1
    have q2 : sIx items.size items.size hi - sIx items.size 0 lo = items.size := eq_of_beq q.2
    exact hw ⟨by omega, by omega⟩
  show wpAny _ _ (if (((sIx items.size 0 lo : Nat) : Int) == 0 && (1 : Int) == 1 && (sIx items.size items.size hi - sIx items.size 0 lo) == items.size) = true then _ else _) _ _ s
  rw [if_neg hno, pick_gen]
  first
    | exact wpAny_bind (m := Builtin.Tuple.tupleExact _) (wpAny_newObj_type (wpAny_pure ⟨_, rfl, wpAny_pure h⟩) htake)
    | exact wpAny_bind (m := Builtin.Tuple.tupleExact _) (wpAny_newObj_type (wpAny_bind (wpAny_pure (wpAny_pure ⟨_, rfl, wpAny_pure h⟩))) htake)
    | exact wpAny_bind (wpAny_bind (m := Builtin.Tuple.tupleExact _) (wpAny_newObj_type (wpAny_pure (wpAny_pure ⟨_, rfl, wpAny_pure h⟩)) htake))
    | exact wpAny_bind (wpAny_bind (m := Builtin.Tuple.tupleExact _) (wpAny_newObj_type (wpAny_pure ⟨_, rfl, wpAny_pure h⟩) htake))
end
end HT

namespace L2
open PySem PySem.Spec PyProof.Rows

/-! ### the parts of a slice -/
abbrev TO := St → Hp → (Option Int → Hp → Prop) → Prop
/-- a slice's part (left out, or an int) -/
def PO (X : Cx) (e : Option Expr) (t : TO) : Prop :=
  ∀ (pins : List (Addr × Obj)) (s : Shared) (σ : St) (H : Hp) (Q : Option Int → Hp → Prop), Inv X pins σ H s → t σ H Q →
    wpAny (model X.prog X.w) X.A (evalPart e X.env) (fun u s' => ∃ o H', Inv X pins σ H' s' ∧ IsPart u o ∧ Q o H') X.xe s
def tNoPart : TO := fun _ H Q => Q none H
def tPart (t : TE) : TO := fun σ H Q => t σ H fun x H1 => ∃ i, x = .int i ∧ Q (some i) H1

theorem intsAre_of {ns : List Int} : ∀ {us : List Value}, Vals (ns.map V.int) us → IntsAre us ns := by
  induction ns with
  | nil => intro us r; rw [List.map_nil] at r; cases r; exact .nil
  | cons n ns ih =>
    intro us r
    rw [List.map_cons] at r
    cases r with
    | cons r1 r2 =>
      obtain ⟨t, e⟩ := r1
      subst e
      exact .cons n t (ih r2)

section
variable {X : Cx} {e : Expr} {te : TE} {lo hi : Option Expr} {tl th : TO} {pos p2 : Pos}

theorem po_none : PO X none tNoPart := by
  intro pins s σ H Q I h
  rw [evalPart_none]
  exact wpAny_pure ⟨none, H, I, .none, h⟩
theorem po_some (h : PE X e te) : PO X (some e) (tPart te) := by
  intro pins s σ H Q I hw
  rw [evalPart_some]
  refine thn (h pins s σ H _ I hw) fun u s1 ⟨x, H1, I1, r1, q1⟩ => ?_
  obtain ⟨i, rfl, q⟩ := q1
  obtain ⟨t, rfl⟩ := r1
  exact ⟨some i, H1, I1, .int i t, q⟩

/-- what a slice of a value is, by values: the slice object stands at sl -/
def SlR (X : Cx) (r : V → Option Int → Option Int → Hp → VK → Prop) : Prop :=
  ∀ (pins : List (Addr × Obj)) (s : Shared) (σ : St) (H : Hp) (x : V) (v vl vu : Value) (lo hi : Option Int) (sl : Addr) (Q : VK), Inv X pins σ H s → RelV x v → s.heap.IsSliceOf sl vl vu .none → IsPart vl lo → IsPart vu hi → r x lo hi H Q →
    ∃ T id, typeLookup (.type T) "__getitem__" = pure (some (.builtin id)) ∧ s.TypeIs v T ∧ wpAny (model X.prog X.w) X.A (getItem v (.ref sl)) (EP X pins σ Q) X.xe s
theorem SlR.or {r r' : V → Option Int → Option Int → Hp → VK → Prop} (h : SlR X r) (h' : SlR X r') : SlR X (fun x lo hi H Q => r x lo hi H Q ∨ r' x lo hi H Q) := by
  intro pins s σ H x v vl vu lo hi sl Q I rx hs pl pu q
  rcases q with q | q
  · exact h pins s σ H x v vl vu lo hi sl Q I rx hs pl pu q
  · exact h' pins s σ H x v vl vu lo hi sl Q I rx hs pl pu q
def tSl (r : V → Option Int → Option Int → Hp → VK → Prop) (te : TE) (tl th : TO) : TE := fun σ H Q => te σ H fun x H1 => tl σ H1 fun l H2 => th σ H2 fun u H3 => r x l u H3 Q
/-- a[lo:hi], any a -/
theorem pe_slice {r : V → Option Int → Option Int → Hp → VK → Prop} (hr : SlR X r) (he : PE X e te) (hl : PO X lo tl) (hu : PO X hi th) : PE X (.Subscript e (.Slice lo hi none p2) pos) (tSl r te tl th) := by
  intro pins s σ H Q I h
  refine Subscript_ (thn (he pins s σ H _ I h) fun v s1 ⟨x, H1, I1, r1, q1⟩ => ?_)
  refine wpAny_Slice (thn (hl pins s1 σ H1 _ I1 q1) fun vl s2 ⟨l, H2, I2, pl, q2⟩ => thn (hu pins s2 σ H2 _ I2 q2) fun vu s3 ⟨u, H3, I3, pu, q3⟩ => ?_)
  rw [evalPart_none]
  refine wpAny_pure ?_
  have I4 : Inv X pins σ H3 { s3 with heap := s3.heap.push { cls := .type "slice", data := .fields #[vl, vu, .none] } } := I3.kept (t' := s3.toks) fun b ob q => Heap.get?_push_of_some _ q
  obtain ⟨T, id, hT, ht, hg⟩ := hr pins { s3 with heap := s3.heap.push { cls := .type "slice", data := .fields #[vl, vu, .none] } } σ H3 x v vl vu l u s3.heap.objs.size Q I4 r1 (Heap.IsSliceOf.new ..) pl pu q3
  show wpAny (model X.prog X.w) X.A (subscriptTail e (.Slice lo hi none p2) v (.ref s3.heap.objs.size)) (EP X pins σ Q) X.xe { s3 with heap := s3.heap.push { cls := .type "slice", data := .fields #[vl, vu, .none] } }
  exact tail_any (ops := [.ref s3.heap.objs.size, v]) ht hT hg (by with_unfolding_all rfl)

/-- the items of xs[lo:hi] -/
def cutV (xs : List V) (lo hi : Option Int) : List V := (xs.drop (HT.sIx xs.length 0 lo)).take (HT.sIx xs.length xs.length hi - HT.sIx xs.length 0 lo)
theorem cutV_length (xs : List V) (lo hi : Option Int) : (cutV xs lo hi).length ≤ xs.length := by
  unfold cutV
  rw [List.length_take, List.length_drop]
  omega
/-- t[lo:hi], not the whole of it (the whole would be t itself) -/
def rSlT (K : PySem.W.Frag) : V → Option Int → Option Int → Hp → VK → Prop := fun x lo hi H Q => ∃ a xs, x = .ref a ∧ SqT K H a xs ∧
  ¬ (HT.sIx xs.length 0 lo = 0 ∧ HT.sIx xs.length xs.length hi = xs.length) ∧ ∀ p, H p = none → Q (.ref p) (upd H p (.tup (cutV xs lo hi)))
theorem sl_tup : SlR X (rSlT X.K) := by
  intro pins s σ H x v vl vu lo hi sl Q I rx hs pl pu h
  obtain ⟨a, xs, rfl, hx, hw, q⟩ := h
  cases rx
  obtain ⟨its, r, ht, hz⟩ := I.tuple hx
  have hlen : its.toArray.size = xs.length := by rw [List.size_toArray]; exact r.length.symm
  refine ⟨"tuple", _, PyProof.Rows.slot_tuple_getitem.lookup, ht.typeIs, ?_⟩
  refine HT.getItem_tuple_cut ht hs pl pu (by rw [hlen]; exact hw) ?_ (by rw [hlen]; exact hz)
  rw [hlen]
  refine ⟨.ref s.heap.objs.size, _, I.laid (t' := s.toks) (o := .tup (cutV xs lo hi)) (fun b ob q => Heap.get?_push_of_some _ q) (Nat.le_refl _) ?_, rfl, q _ (I.hok.fresh (Nat.le_refl _))⟩
  exact ⟨Nat.le_trans (cutV_length xs lo hi) hz, _, (r.drop (HT.sIx xs.length 0 lo)).take (HT.sIx xs.length xs.length hi - HT.sIx xs.length 0 lo), IsTup.new _ _⟩

/-! ### t < u, t + u -/
def rLtT (K : PySem.W.Frag) : R2 := fun x y H Q => ∃ a b ns ms, x = .ref a ∧ y = .ref b ∧ SqT K H a (ns.map V.int) ∧ SqT K H b (ms.map V.int) ∧ Q (.bl (HT.lexLt ns ms)) H
theorem op_ltT (hu : X.A.units < cLine) : OpR X (compareOp .Lt) (rLtT X.K) := by
  intro pins s σ H x y v u Q I rx ry h
  obtain ⟨a, b, ns, ms, rfl, rfl, ha, hb, q⟩ := h
  cases rx
  cases ry
  obtain ⟨its, r1, p1, _⟩ := I.tuple ha
  obtain ⟨its2, r2, p2, _⟩ := I.tuple hb
  have i1 : IntsAre its.toArray.toList ns := intsAre_of r1
  have i2 : IntsAre its2.toArray.toList ms := intsAre_of r2
  exact HT.lt_tupInts p1 p2 i1 i2 hu ⟨.bl (HT.lexLt ns ms), H, I, rfl, q⟩
/-- t + u, t not empty: u empty gives t itself -/
def rCatT (K : PySem.W.Frag) : R2 := fun x y H Q => ∃ a b xs ys, x = .ref a ∧ y = .ref b ∧ SqT K H a xs ∧ SqT K H b ys ∧ xs ≠ [] ∧ xs.length + ys.length ≤ sizeLine ∧
  (ys = [] → Q (.ref a) H) ∧ (ys ≠ [] → ∀ p, H p = none → Q (.ref p) (upd H p (.tup (xs ++ ys))))
theorem Vals.nil_iff {xs : List V} {us : List Value} (r : Vals xs us) : us = [] ↔ xs = [] := by
  cases r with
  | nil => simp
  | cons _ _ => simp
theorem op_catT : OpR X (binaryOp .Add) (rCatT X.K) := by
  intro pins s σ H x y v u Q I rx ry h
  obtain ⟨a, b, xs, ys, rfl, rfl, ha, hb, hx, hz, q1, q2⟩ := h
  cases rx
  cases ry
  obtain ⟨its, r1, p1, _⟩ := I.tuple ha
  obtain ⟨its2, r2, p2, _⟩ := I.tuple hb
  refine HT.cat_tup p1 p2 (fun z => hx (r1.nil_iff.mp z)) (fun z => ⟨.ref a, H, I, rfl, q1 (r2.nil_iff.mp z)⟩) (fun z => ?_) (by rw [← r1.length, ← r2.length]; exact hz)
  refine ⟨.ref s.heap.objs.size, _, I.laid (t' := s.toks) (o := .tup (xs ++ ys)) (fun b ob q => Heap.get?_push_of_some _ q) (Nat.le_refl _) ?_, rfl, q2 (fun w => z (r2.nil_iff.mpr w)) _ (I.hok.fresh (Nat.le_refl _))⟩
  exact ⟨by rw [List.length_append]; exact hz, _, r1.append r2, IsTup.new _ _⟩
/-- tuple(t) -/
theorem call_tupleT : CallR X (.type "tuple") (fun xs H Q => ∃ a ys, xs = [.ref a] ∧ SqT X.K H a ys ∧ Q (.ref a) H) := by
  intro pins s σ H xs us Q I r h
  obtain ⟨a, ys, rfl, ha, q⟩ := h
  obtain ⟨u, rfl, ru⟩ := vals1 r
  cases ru
  obtain ⟨its, _, p1, _⟩ := I.tuple ha
  exact call_tuple_same (items := its.toArray) p1 ⟨.ref a, H, I, rfl, q⟩
end
end L2

namespace L2
open PySem PySem.Spec PyProof.Rows

/-! ### places -/
/-- the place that an index of any sign means -/
def ixN (n : Nat) (i : Int) : Option Nat := if 0 ≤ i then (if i < n then some i.toNat else none) else if -(n : Int) ≤ i then some (i + n).toNat else none
def atI {α : Type} (xs : List α) (i : Int) : Option α := (ixN xs.length i).bind fun j => xs[j]?
theorem ixN_seq {n : Nat} {i : Int} {j : Nat} (h : ixN n i = some j) : seqIndex? i n = some j ∧ j < n ∧ -(n : Int) ≤ i ∧ i < n := by
  unfold ixN at h
  by_cases h0 : 0 ≤ i
  · rw [if_pos h0] at h
    by_cases h1 : i < n
    · rw [if_pos h1] at h
      have e : i.toNat = j := Option.some.inj h
      exact ⟨by rw [seqIndex_of h0 h1, e], by omega, by omega, h1⟩
    · rw [if_neg h1] at h; cases h
  · rw [if_neg h0] at h
    by_cases h1 : -(n : Int) ≤ i
    · rw [if_pos h1] at h
      have e : (i + n).toNat = j := Option.some.inj h
      exact ⟨by rw [seqIndex_neg (by omega) h1, e], by omega, h1, by omega⟩
    · rw [if_neg h1] at h; cases h
theorem atI_get {α : Type} {xs : List α} {i : Int} {v : α} (h : atI xs i = some v) : ∃ j, seqIndex? i xs.length = some j ∧ xs[j]? = some v ∧ j < xs.length ∧ -(xs.length : Int) ≤ i ∧ i < xs.length := by
  unfold atI at h
  cases e : ixN xs.length i with
  | none => rw [e] at h; cases h
  | some j =>
    rw [e] at h
    obtain ⟨h1, h2, h3, h4⟩ := ixN_seq e
    exact ⟨j, h1, h, h2, h3, h4⟩
theorem atI_nat {α : Type} {xs : List α} {j : Nat} {v : α} (h : xs[j]? = some v) : atI xs (j : Int) = some v := by
  have hj : j < xs.length := (List.getElem?_eq_some_iff.mp h).1
  have e : ixN xs.length (j : Int) = some j := by
    unfold ixN
    rw [if_pos (by omega), if_pos (by omega)]; simp
  unfold atI; rw [e]; exact h
theorem atI_last {α : Type} (xs : List α) (v : α) : atI (xs ++ [v]) (-1) = some v := by
  have hl : (xs ++ [v]).length = xs.length + 1 := by simp
  have e : ixN (xs ++ [v]).length (-1) = some xs.length := by
    unfold ixN
    rw [hl, if_neg (by decide), if_pos (by omega)]
    congr 1
    omega
  unfold atI
  rw [e]
  show (xs ++ [v])[xs.length]? = some v
  simp

/-! ### what may be subscripted -/
/-- what stands as an index of a plain subscript -/
def PlainIx (b : Expr) : Prop := ∀ o i, subscripted b false o i = operate [o, i] (getItem o i)
/-- a subscript by values -/
def IxR (X : Cx) (r : R2) : Prop :=
  ∀ (value slice : Expr) (pins : List (Addr × Obj)) (s : Shared) (σ : St) (H : Hp) (x y : V) (v u : Value) (Q : VK), Inv X pins σ H s → RelV x v → RelV y u → r x y H Q →
    subscripted slice false v u = operate [v, u] (getItem v u) → wpAny (model X.prog X.w) X.A (subscriptTail value slice v u) (EP X pins σ Q) X.xe s
/-- a call of a builtin's method by values: the receiver, the arguments -/
def MtR (X : Cx) (id : String) (r : V → List V → Hp → VK → Prop) : Prop :=
  ∀ (pins : List (Addr × Obj)) (s : Shared) (σ : St) (H : Hp) (x : V) (xs : List V) (v : Value) (us : List Value) (Q : VK), Inv X pins σ H s → RelV x v → Vals xs us → r x xs H Q →
    wpAny (model X.prog X.w) X.A (call (.builtin id) (v :: us)) (EP X pins σ Q) X.xe s
section
variable {X : Cx} {a b : Expr} {ta tb : TE} {pos : Pos}
theorem IxR.or {r r' : R2} (h : IxR X r) (h' : IxR X r') : IxR X (fun x y H Q => r x y H Q ∨ r' x y H Q) := by
  intro value slice pins s σ H x y v u Q I rx ry q hs
  rcases q with q | q
  · exact h value slice pins s σ H x y v u Q I rx ry q hs
  · exact h' value slice pins s σ H x y v u Q I rx ry q hs
theorem MtR.or {id : String} {r r' : V → List V → Hp → VK → Prop} (h : MtR X id r) (h' : MtR X id r') : MtR X id (fun x xs H Q => r x xs H Q ∨ r' x xs H Q) := by
  intro pins s σ H x xs v us Q I rx rs q
  rcases q with q | q
  · exact h pins s σ H x xs v us Q I rx rs q
  · exact h' pins s σ H x xs v us Q I rx rs q
/-- a[b] -/
theorem pe_ix {r : R2} (hr : IxR X r) (ha : PE X a ta) (hb : PE X b tb) (hs : PlainIx b) : PE X (.Subscript a b pos) (tOp r ta tb) := by
  intro pins s σ H Q I h
  exact Subscript_ (binT ha hb I h fun v u s2 x y H2 I2 rx ry q => hr a b pins s2 σ H2 x y v u Q I2 rx ry q (hs _ _))

def rIxL (K : PySem.W.Frag) : R2 := fun x y H Q => ∃ p xs i v, x = .ref p ∧ y = .int i ∧ SqL K H p xs ∧ atI xs i = some v ∧ Q v H
def rIxT (K : PySem.W.Frag) : R2 := fun x y H Q => ∃ p xs i v, x = .ref p ∧ y = .int i ∧ SqT K H p xs ∧ atI xs i = some v ∧ Q v H
def rIxS : R2 := fun x y H Q => ∃ z i c, x = .str z ∧ y = .int i ∧ z.length ≤ sizeLine ∧ atI z.cps.toList i = some c ∧ Q (.str ⟨#[c]⟩) H
theorem ix_list : IxR X (rIxL X.K) := by
  intro value slice pins s σ H x y v u Q I rx ry h hs
  obtain ⟨p, xs, i, z, rfl, rfl, hq, he, q⟩ := h
  cases rx
  obtain ⟨t, rfl⟩ := ry
  obtain ⟨its, r, pl, hz⟩ := I.list hq
  obtain ⟨j, h1, h2, h3, h4, h5⟩ := atI_get he
  obtain ⟨w, ew, rw'⟩ := r.get h2
  have hl := r.length
  have hn := line63
  have fin : EP X pins σ Q w s := ⟨z, H, I, rw', q⟩
  by_cases h0 : 0 ≤ i
  · have hj : i.toNat = j := by
      rw [seqIndex_of h0 h5] at h1
      exact Option.some.inj h1
    exact item_listR pl.isList h0 (by omega) (by rw [hj]; simpa using ew) fin hs
  · have hj : (i + (its.toArray.size : Int)).toNat = j := by
      rw [seqIndex_neg (by omega) h4] at h1
      rw [List.size_toArray, ← hl]
      exact Option.some.inj h1
    exact subscriptTail_builtinR (x := w) pl.isList.typeIs slot_list_getitem.lookup
      (wpAny_getItem_list_neg (Q := fun r s' => r = w ∧ EP X pins σ Q r s') pl.isList (by omega) (by rw [List.size_toArray] <;> omega) (by omega) (by rw [hj]; simpa using ew) ⟨rfl, fin⟩) hs
theorem ix_tup : IxR X (rIxT X.K) := by
  intro value slice pins s σ H x y v u Q I rx ry h hs
  obtain ⟨p, xs, i, z, rfl, rfl, hq, he, q⟩ := h
  cases rx
  obtain ⟨t, rfl⟩ := ry
  obtain ⟨its, r, pl, hz⟩ := I.tuple hq
  obtain ⟨j, h1, h2, h3, h4, h5⟩ := atI_get he
  obtain ⟨w, ew, rw'⟩ := r.get h2
  have hl := r.length
  have hn := line63
  have fin : EP X pins σ Q w s := ⟨z, H, I, rw', q⟩
  exact subscriptTail_builtinR (x := w) pl.typeIs slot_tuple_getitem.lookup
    (getItem_tuple (j := j) (Q := fun r s' => r = w ∧ EP X pins σ Q r s') pl (by omega) (by omega) (by rw [List.size_toArray, ← hl]; exact h1) (by simpa using ew) ⟨rfl, fin⟩) hs
theorem ix_str : IxR X rIxS := by
  intro value slice pins s σ H x y v u Q I rx ry h hs
  obtain ⟨z, i, c, rfl, rfl, hz, he, q⟩ := h
  obtain ⟨t, rfl⟩ := rx
  obtain ⟨t', rfl⟩ := ry
  obtain ⟨j, h1, h2, h3, h4, h5⟩ := atI_get he
  have hl : z.cps.toList.length = z.length := by simp [Str.length]
  rw [hl] at h1 h4 h5
  have hn := line63
  exact tail_any (typeIs_str s z t) slot_str_getitem.lookup (getItem_str (c := c) (by
    have e1 : decide (i < -(2 ^ 63 : Int)) = false := decide_eq_false (by omega)
    have e2 : decide (i ≥ 2 ^ 63) = false := decide_eq_false (by omega)
    rw [e1, e2, Bool.or_false]) (by rw [h1]; simpa using h2) ⟨.str ⟨#[c]⟩, H, I.tok _, ⟨_, rfl⟩, q⟩) hs
/-- list, tuple or str -/
def rIx (K : PySem.W.Frag) : R2 := fun x y H Q => rIxL K x y H Q ∨ rIxT K x y H Q ∨ rIxS x y H Q
theorem ix_seq : IxR X (rIx X.K) := ix_list.or (ix_tup.or ix_str)

/-! ### xs[i] = v, any sign -/
/-- the list's object behind a store -/
theorem mapSeq_set (its : List Value) (n j : Nat) (u : Value) : Obj.mapSeq (·.setIfInBounds j u) { cls := .type "list", data := .seq its.toArray n } = { cls := .type "list", data := .seq (its.set j u).toArray n } := by
  simp [Obj.mapSeq]
theorem Inv.lst {pins : List (Addr × Obj)} {σ : St} {H : Hp} {s : Shared} {p : Addr} {xs : List V} (I : Inv X pins σ H s) (h : H p = some (.lst xs)) :
    ∃ (its : List Value) (n : Nat), Vals xs its ∧ s.heap.get? p = some { cls := .type "list", data := .seq its.toArray n } ∧ xs.length ≤ sizeLine := by
  obtain ⟨z, its, n, r, e⟩ := I.hok p _ h
  exact ⟨its, n, r, e, z⟩
/-- the list at p is written by an update of its object -/
theorem Inv.lstUpd {pins : List (Addr × Obj)} {σ : St} {H : Hp} {s : Shared} {p : Addr} {xs ys : List V} {its its' : List Value} {n n' : Nat} {f : Obj → Obj} (I : Inv X pins σ H s) (h : H p = some (.lst xs))
    (ho : s.heap.get? p = some { cls := .type "list", data := .seq its.toArray n }) (hf : f { cls := .type "list", data := .seq its.toArray n } = { cls := .type "list", data := .seq its'.toArray n' }) (r : Vals ys its') (hz : ys.length ≤ sizeLine) (t : Nat) :
    Inv X pins σ (upd H p (.lst ys)) { s with heap := s.heap.update p f, toks := t } := by
  have e : (s.heap.update p f).get? p = some { cls := .type "list", data := .seq its'.toArray n' } := by
    rw [Heap.get?_update_self f ho (by rw [hf] <;> rfl), hf]
  refine I.write (x := p) (e := p) (by rw [h]; trivial) (.inl rfl) (fun b u hb q => (Heap.get?_update_other _ _ (Ne.symm hb)).trans q) ⟨_, e⟩ ?_
  exact ⟨hz, its', n', r, e⟩
def rSetL : V → V → V → Hp → (Hp → Prop) → Prop := fun o i v H Q => ∃ p xs k j, o = .ref p ∧ i = .int k ∧ H p = some (.lst xs) ∧ ixN xs.length k = some j ∧ Q (upd H p (.lst (xs.set j v)))
theorem set_list : PSet X rSetL := by
  intro pins s σ H o i v ov iv u Q I ro ri rv h
  obtain ⟨p, xs, k, j, rfl, rfl, hp, hj, q⟩ := h
  cases ro
  obtain ⟨t, rfl⟩ := ri
  obtain ⟨its, n, r, ho, hz⟩ := I.lst hp
  obtain ⟨h1, h2, h3, h4⟩ := ixN_seq hj
  have hl := r.length
  have hn := line63
  have I' : Inv X pins σ (upd H p (.lst (xs.set j v))) { s with heap := s.heap.update p (Obj.mapSeq (·.setIfInBounds j u)) } :=
    I.lstUpd hp ho (mapSeq_set its n j u) (r.set rv j) (by rw [List.length_set]; exact hz) s.toks
  by_cases h0 : 0 ≤ k
  · have hk : k.toNat = j := by
      rw [seqIndex_of h0 h4] at h1
      exact Option.some.inj h1
    exact PySem.W.ki_setAt ho h0 (by omega) (by rw [List.size_toArray, ← hl]; exact h4) (by rw [hk]; exact ⟨_, I', q⟩)
  · have hk : (k + (its.toArray.size : Int)).toNat = j := by
      rw [seqIndex_neg (by omega) h3] at h1
      rw [List.size_toArray, ← hl]
      exact Option.some.inj h1
    exact PySem.W.ki_setBack ho (by omega) (by rw [List.size_toArray, ← hl]; exact h3) (by omega) (by rw [hk]; exact ⟨_, I', q⟩)

/-! ### slices -/
theorem slice_bounds (lo hi : Option Int) (n : Nat) : (sliceBounds lo hi none n).1 = ((HT.sIx n 0 lo : Nat) : Int) ∧ (sliceBounds lo hi none n).2.1 = ((HT.sIx n n hi : Nat) : Int) ∧ (sliceBounds lo hi none n).2.2 = 1 := by
  refine ⟨?_, ?_, rfl⟩
  · cases lo with
    | none => simp [sliceBounds, HT.sIx]
    | some i =>
      simp only [sliceBounds, HT.sIx, Option.getD_none, show (1 : Int) > 0 by decide, if_true]
      by_cases h : i < 0
      · simp only [h, if_true] <;> omega
      · simp only [h, if_false] <;> omega
  · cases hi with
    | none => simp [sliceBounds, HT.sIx]
    | some i =>
      simp only [sliceBounds, HT.sIx, Option.getD_none, show (1 : Int) > 0 by decide, if_true]
      by_cases h : i < 0
      · simp only [h, if_true] <;> omega
      · simp only [h, if_false] <;> omega
theorem slicePick_cut (its : List Value) (lo hi : Option Int) : slicePick its.toArray lo hi none = ((its.drop (HT.sIx its.length 0 lo)).take (HT.sIx its.length its.length hi - HT.sIx its.length 0 lo)).toArray := by
  obtain ⟨h1, h2, h3⟩ := slice_bounds lo hi its.toArray.size
  unfold slicePick
  rw [h1, h2, h3]
  simp only [sliceRange_one, pick_run, List.size_toArray] <;> rfl
/-- xs[lo:hi] of a list: a new list -/
def rSlL (K : PySem.W.Frag) : V → Option Int → Option Int → Hp → VK → Prop := fun x lo hi H Q => ∃ a xs, x = .ref a ∧ SqL K H a xs ∧ ∀ p, H p = none → Q (.ref p) (upd H p (.lst (cutV xs lo hi)))
theorem sl_list : SlR X (rSlL X.K) := by
  intro pins s σ H x v vl vu lo hi sl Q I rx hs pl pu h
  obtain ⟨a, xs, rfl, hx, q⟩ := h
  cases rx
  obtain ⟨its, r, ht, hz⟩ := I.list hx
  have hlen := r.length
  refine ⟨"list", _, slot_list_getitem.lookup, ht.isList.typeIs, ?_⟩
  refine wpAny_getItem_list_slice ht.isList hs pl pu .none (by simp) ?_ (by rw [List.size_toArray] <;> omega)
  rw [slicePick_cut, ← hlen]
  refine ⟨.ref s.heap.objs.size, _, I.laid (t' := s.toks) (o := .lst (cutV xs lo hi)) (fun b ob q => Heap.get?_push_of_some _ q) (Nat.le_refl _) ?_, rfl, q _ (I.hok.fresh (Nat.le_refl _))⟩
  exact ⟨Nat.le_trans (cutV_length xs lo hi) hz, _, 0, (r.drop (HT.sIx xs.length 0 lo)).take (HT.sIx xs.length xs.length hi - HT.sIx xs.length 0 lo), Heap.get?_push_size _ rfl⟩

/-! ### in, not in: flat items -/
def flatV : V → Bool
  | .non => true
  | .bl _ => true
  | .int _ => true
  | .str _ => true
  | _ => false
/-- == of flat values -/
def eqV : V → V → Bool
  | .non, .non => true
  | .bl a, .bl b => a == b
  | .bl a, .int b => (if a then 1 else 0) == b
  | .int a, .bl b => a == (if b then 1 else 0)
  | .int a, .int b => a == b
  | .str a, .str b => a == b
  | _, _ => false
theorem eqAt_V {A : Around} {s : Shared} {y x : V} {u v : Value} (ry : RelV y u) (rx : RelV x v) (fy : flatV y = true) (fx : flatV x = true) : SeqAt.EqAt A s u v (eqV y x) := by
  cases y with
  | non =>
    cases ry
    cases x with
    | non => cases rx; exact SeqAt.EqAt.same _
    | bl b => cases rx; exact SeqAt.EqAt.none_bool b
    | int b => obtain ⟨t, rfl⟩ := rx; exact SeqAt.EqAt.none_int b t
    | str b => obtain ⟨t, rfl⟩ := rx; exact SeqAt.EqAt.none_str b t
    | _ => exact absurd (show false = true from fx) Bool.false_ne_true
  | bl a =>
    cases ry
    cases x with
    | non => cases rx; exact SeqAt.EqAt.bool_none a
    | bl b => cases rx; exact SeqAt.EqAt.bool_bool a b
    | int b => obtain ⟨t, rfl⟩ := rx; exact SeqAt.EqAt.bool_int a b t
    | str b => obtain ⟨t, rfl⟩ := rx; exact SeqAt.EqAt.bool_str a b t
    | _ => exact absurd (show false = true from fx) Bool.false_ne_true
  | int a =>
    obtain ⟨t', rfl⟩ := ry
    cases x with
    | non => cases rx; exact SeqAt.EqAt.int_none a t'
    | bl b => cases rx; exact SeqAt.EqAt.int_bool a t' b
    | int b => obtain ⟨t, rfl⟩ := rx; exact SeqAt.EqAt.int_int a t' b t
    | str b => obtain ⟨t, rfl⟩ := rx; exact SeqAt.EqAt.int_str a t' b t
    | _ => exact absurd (show false = true from fx) Bool.false_ne_true
  | str a =>
    obtain ⟨t', rfl⟩ := ry
    cases x with
    | non => cases rx; exact SeqAt.EqAt.str_none a t'
    | bl b => cases rx; exact SeqAt.EqAt.str_bool a t' b
    | int b => obtain ⟨t, rfl⟩ := rx; exact SeqAt.EqAt.str_int a t' b t
    | str b => obtain ⟨t, rfl⟩ := rx; exact SeqAt.EqAt.str_str a t' b t
    | _ => exact absurd (show false = true from fx) Bool.false_ne_true
  | _ => exact absurd (show false = true from fy) Bool.false_ne_true
/-- the items' answers, read off the values (a value's own answer does not lean on its token) -/
def eqU (x : V) (u : Value) : Bool := match u with
  | .none => eqV .non x
  | .bool b => eqV (.bl b) x
  | .int i _ => eqV (.int i) x
  | .str z _ => eqV (.str z) x
  | _ => false
theorem eqU_of {x y : V} {u : Value} (r : RelV y u) (f : flatV y = true) : eqU x u = eqV y x := by
  cases y with
  | non => cases r; rfl
  | bl b => cases r; rfl
  | int i => obtain ⟨t, rfl⟩ := r; rfl
  | str z => obtain ⟨t, rfl⟩ := r; rfl
  | _ => exact absurd (show false = true from f) Bool.false_ne_true
theorem any_eqU {x : V} : ∀ {xs : List V} {us : List Value}, Vals xs us → xs.all flatV = true → us.any (eqU x) = xs.any fun y => eqV y x
  | _, _, .nil, _ => rfl
  | y :: xs, u :: us, .cons r t, f => by
    rw [List.all_cons, Bool.and_eq_true] at f
    rw [List.any_cons, List.any_cons, eqU_of r f.1, any_eqU t f.2]
theorem mem_eqAt {A : Around} {s : Shared} {x : V} {v : Value} (rx : RelV x v) (fx : flatV x = true) : ∀ {xs : List V} {us : List Value}, Vals xs us → xs.all flatV = true → ∀ u ∈ us, SeqAt.EqAt A s u v (eqU x u)
  | _, _, .nil, _ => fun u hu => by cases hu
  | y :: xs, u :: us, .cons r t, f => fun u' hu => by
    rw [List.all_cons, Bool.and_eq_true] at f
    rcases List.mem_cons.mp hu with rfl | hu
    · rw [eqU_of r f.1]; exact eqAt_V r rx f.1 fx
    · exact mem_eqAt rx fx t f.2 u' hu
def inV (x : V) (xs : List V) : Bool := xs.any fun y => eqV y x
/-- x in a list or tuple of flat items -/
def rIn (K : PySem.W.Frag) (neg : Bool) : R2 := fun x y H Q => ∃ p xs, y = .ref p ∧ (SqL K H p xs ∨ SqT K H p xs) ∧ flatV x = true ∧ xs.all flatV = true ∧ Q (.bl (if neg then !inV x xs else inV x xs)) H
theorem op_in_seq : OpR X (compareOp .In) (rIn X.K false) := by
  intro pins s σ H x y v u Q I rx ry h
  obtain ⟨p, xs, rfl, hq, fx, fs, q⟩ := h
  cases ry
  rcases hq with hq | hq
  · obtain ⟨its, r, pl, hz⟩ := I.list hq
    refine SeqAt.in_listAt (eqU x) pl.isList (fun w hw => mem_eqAt rx fx r fs w (by simpa using hw)) ⟨.bl _, H, I, rfl, ?_⟩
    rw [show its.toArray.any (eqU x) = its.any (eqU x) by simp, any_eqU r fs]
    exact q
  · obtain ⟨its, r, pl, hz⟩ := I.tuple hq
    refine SeqAt.in_tupleAt (eqU x) pl (fun w hw => mem_eqAt rx fx r fs w (by simpa using hw)) ⟨.bl _, H, I, rfl, ?_⟩
    rw [show its.toArray.any (eqU x) = its.any (eqU x) by simp, any_eqU r fs]
    exact q
theorem op_notIn_seq : OpR X (compareOp .NotIn) (rIn X.K true) := by
  intro pins s σ H x y v u Q I rx ry h
  obtain ⟨p, xs, rfl, hq, fx, fs, q⟩ := h
  cases ry
  rcases hq with hq | hq
  · obtain ⟨its, r, pl, hz⟩ := I.list hq
    refine SeqAt.notIn_listAt (eqU x) pl.isList (fun w hw => mem_eqAt rx fx r fs w (by simpa using hw)) ⟨.bl _, H, I, rfl, ?_⟩
    rw [show its.toArray.any (eqU x) = its.any (eqU x) by simp, any_eqU r fs]
    exact q
  · obtain ⟨its, r, pl, hz⟩ := I.tuple hq
    refine SeqAt.notIn_tupleAt (eqU x) pl (fun w hw => mem_eqAt rx fx r fs w (by simpa using hw)) ⟨.bl _, H, I, rfl, ?_⟩
    rw [show its.toArray.any (eqU x) = its.any (eqU x) by simp, any_eqU r fs]
    exact q
theorem op_notIn_str : OpR X (compareOp .NotIn) (fun x y H Q => ∃ i j, x = .str i ∧ y = .str j ∧ Q (.bl (!(!(Builtin.Str.occurrences j i 0 j.length 1).isEmpty))) H) := by
  intro pins s σ H x y v u Q I rx ry h
  obtain ⟨i, j, rfl, rfl, q⟩ := h
  obtain ⟨t, rfl⟩ := rx
  obtain ⟨t', rfl⟩ := ry
  exact notIn_str ⟨.bl _, H, I, rfl, q⟩

/-! ### len, list(x), tuple(x) of any list or tuple that is read -/
theorem call_len_seq : CallR X (.builtin "len") (fun xs H Q => ∃ p ys, xs = [.ref p] ∧ (SqL X.K H p ys ∨ SqT X.K H p ys) ∧ Q (.int ys.length) H) := by
  intro pins s σ H xs us Q I r h
  obtain ⟨p, ys, rfl, hq, q⟩ := h
  obtain ⟨u, rfl, rx⟩ := vals1 r
  cases rx
  have hn := line63
  rcases hq with hq | hq
  · obtain ⟨its, r', pl, hz⟩ := I.list hq
    have hlen := r'.length
    exact Calls.call_len_list pl.isList (by simp only [List.size_toArray] <;> omega) ⟨.int ys.length, H, I.tok _, ⟨s.toks + 1, by rw [List.size_toArray, hlen]⟩, q⟩
  · obtain ⟨its, r', pl, hz⟩ := I.tuple hq
    have hlen := r'.length
    exact len_tuple pl (by simp only [List.size_toArray] <;> omega) ⟨.int ys.length, H, I.tok _, ⟨s.toks + 1, by rw [List.size_toArray, hlen]⟩, q⟩
theorem call_len_str : CallR X (.builtin "len") (fun xs H Q => ∃ z, xs = [.str z] ∧ z.length ≤ sizeLine ∧ Q (.int z.length) H) := by
  intro pins s σ H xs us Q I r h
  obtain ⟨z, rfl, hz, q⟩ := h
  obtain ⟨u, rfl, t, rfl⟩ := vals1 r
  have hn := line63
  exact len_str (by omega) ⟨.int z.length, H, I.tok _, ⟨_, rfl⟩, q⟩
theorem CallR.or {f : Value} {r r' : List V → Hp → VK → Prop} (h : CallR X f r) (h' : CallR X f r') : CallR X f (fun xs H Q => r xs H Q ∨ r' xs H Q) := by
  intro pins s σ H xs us Q I rs q
  rcases q with q | q
  · exact h pins s σ H xs us Q I rs q
  · exact h' pins s σ H xs us Q I rs q
theorem call_list_of : CallR X (.type "list") (fun xs H Q => ∃ p ys, xs = [.ref p] ∧ (SqL X.K H p ys ∨ SqT X.K H p ys) ∧ ∀ l, H l = none → Q (.ref l) (upd H l (.lst ys))) := by
  intro pins s σ H xs us Q I r h
  obtain ⟨p, ys, rfl, hq, q⟩ := h
  obtain ⟨u, rfl, rx⟩ := vals1 r
  cases rx
  have fin : ∀ (its : List Value), Vals ys its → ys.length ≤ sizeLine → ∀ (h' : Heap) (c' : Nat), (∀ b o', s.heap.get? b = some o' → h'.get? b = some o') →
      h'.get? s.heap.objs.size = some { cls := .type "list", dict := none, data := .seq its.toArray c', slots := #[] } → EP X pins σ Q (.ref s.heap.objs.size) { s with heap := h' } := fun its r' hz h' c' kp e =>
    ⟨.ref s.heap.objs.size, _, I.laid (t' := s.toks) kp (Nat.le_refl _) (show ObjOk X.prog X.w _ h' _ (.lst ys) from ⟨hz, its, c', r', e⟩), rfl, q _ (I.hok.fresh (Nat.le_refl _))⟩
  rcases hq with hq | hq
  · obtain ⟨its, r', pl, hz⟩ := I.list hq
    have hlen := r'.length
    obtain ⟨o, ho, hc, n, hd⟩ := pl.isList
    exact call_list_seq p (.inl rfl) ho hc hd (fun h' c' kp e => fin its r' hz h' c' kp e) (by simp only [List.size_toArray] <;> omega)
  · obtain ⟨its, r', pl, hz⟩ := I.tuple hq
    have hlen := r'.length
    obtain ⟨o, ho, hc, n, hd⟩ := pl
    exact call_list_seq p (.inr rfl) ho hc hd (fun h' c' kp e => fin its r' hz h' c' kp e) (by simp only [List.size_toArray] <;> omega)
theorem call_tuple_of : CallR X (.type "tuple") (fun xs H Q => ∃ p ys, xs = [.ref p] ∧ ((SqL X.K H p ys ∧ ∀ l, H l = none → Q (.ref l) (upd H l (.tup ys))) ∨ (SqT X.K H p ys ∧ Q (.ref p) H))) := by
  intro pins s σ H xs us Q I r h
  obtain ⟨p, ys, rfl, h⟩ := h
  obtain ⟨u, rfl, rx⟩ := vals1 r
  cases rx
  rcases h with ⟨hq, q⟩ | ⟨hq, q⟩
  · obtain ⟨its, r', pl, hz⟩ := I.list hq
    have hlen := r'.length
    refine call_tuple_list pl.isList (fun h' kp => ?_) (by simp only [List.size_toArray] <;> omega)
    have I1 : Inv X pins σ H { s with heap := h' } := I.kept (t' := s.toks) kp
    have I2 : Inv X pins σ (upd H h'.objs.size (.tup ys)) { s with heap := h'.push { cls := .type "tuple", data := .seq its.toArray } } :=
      I1.laid (t' := s.toks) (fun b o e => Heap.get?_push_of_some _ e) (Nat.le_refl _) (show ObjOk X.prog X.w _ _ _ (.tup ys) from ⟨hz, its, r', IsTup.new _ _⟩)
    exact ⟨.ref h'.objs.size, _, I2, rfl, q _ (I1.hok.fresh (Nat.le_refl _))⟩
  · obtain ⟨its, r', pl, hz⟩ := I.tuple hq
    exact call_tuple_same pl ⟨.ref p, H, I, rfl, q⟩

/-! ### the call of a builtin's method: o.m(..) -/
/-- the value is of that builtin type -/
def tyV (K : PySem.W.Frag) (T : String) (x : V) (H : Hp) : Prop := match x with
  | .str _ => T = "str"
  | .int _ => T = "int"
  | .ref p => (T = "list" ∧ ∃ xs, SqL K H p xs) ∨ (T = "tuple" ∧ ∃ o, K.lookup p = some o ∧ o.cls = .type "tuple" ∧ o.dict = none) ∨
      (T = "dict" ∧ ((∃ kvs, H p = some (.dK kvs)) ∨ ∃ kvs, H p = some (.dT kvs))) ∨ (T = "set" ∧ ∃ S n, H p = some (.set S n))
  | _ => False
theorem tyV_is {pins : List (Addr × Obj)} {σ : St} {H : Hp} {s : Shared} {T : String} {x : V} {v : Value} (I : Inv X pins σ H s) (r : RelV x v) (ty : tyV X.K T x H) :
    s.TypeIs v T ∧ ∀ a, v = .ref a → ∃ ob, s.heap.get? a = some ob ∧ ob.dict = none := by
  cases x with
  | str z =>
    obtain ⟨t, rfl⟩ := r
    cases (show T = "str" from ty)
    exact ⟨typeIs_str s z t, fun _ e => nomatch e⟩
  | int i =>
    obtain ⟨t, rfl⟩ := r
    cases (show T = "int" from ty)
    exact ⟨typeIs_int s i t, fun _ e => nomatch e⟩
  | ref p =>
    cases r
    rcases ty with ⟨rfl, xs, hq⟩ | ⟨rfl, o, hk, hc, hd⟩ | ⟨rfl, hk⟩ | ⟨rfl, S, n, hk⟩
    · obtain ⟨its, _, pl, _⟩ := I.list hq
      refine ⟨pl.isList.typeIs, fun a e => ?_⟩
      cases e
      obtain ⟨o, n, e, c, hd, _⟩ := pl
      exact ⟨o, e, hd⟩
    · refine ⟨⟨o, I.kIn p o hk, hc⟩, fun a e => ?_⟩
      cases e
      exact ⟨o, I.kIn _ o hk, hd⟩
    · have z : ∃ o, s.heap.get? p = some o ∧ o.ExactDict := by
        rcases hk with ⟨kvs, hk⟩ | ⟨kvs, hk⟩
        · obtain ⟨_, _, _, _, o, _, _, e, ex, _⟩ := I.hok p _ hk
          exact ⟨o, e, ex⟩
        · obtain ⟨_, _, _, _, o, _, _, e, ex, _⟩ := I.hok p _ hk
          exact ⟨o, e, ex⟩
      obtain ⟨o, e, ex⟩ := z
      refine ⟨⟨o, e, ex.1⟩, fun a e2 => ?_⟩
      cases e2
      exact ⟨o, e, ex.2.1⟩
    · obtain ⟨o, _, _, _, e, ex, _⟩ := I.hok p _ hk
      refine ⟨⟨o, e, ex.1⟩, fun a e2 => ?_⟩
      cases e2
      exact ⟨o, e, ex.2.1⟩
  | _ => exact False.elim ty
def tBM0 (K : PySem.W.Frag) (T : String) (r : V → List V → Hp → VK → Prop) (to : TE) : TE := fun σ H Q => to σ H fun x H1 => tyV K T x H1 ∧ r x [] H1 Q
def tBM (K : PySem.W.Frag) (T : String) (r : V → List V → Hp → VK → Prop) (to : TE) (t : TA) : TE := fun σ H Q => to σ H fun x H1 => tyV K T x H1 ∧ t σ H1 fun xs H2 => r x xs H2 Q
variable {o e : Expr} {es : List Expr} {to : TE} {t : TA} {name : Str} {apos cpos : Pos} {T id : String} {r : V → List V → Hp → VK → Prop}
theorem pe_bm0 (pa : PlainAttrs T) (slot : Slot T name id) (hty : typeOf (.builtin id) = pure (.type "method_descriptor")) (hm : MtR X id r) (ho : PE X o to)
    (hbase : attributeBase o name X.env (eval o X.env) = eval o X.env := by rfl) (hline : (apos.endLine == cpos.line) = true := by rfl) : PE X (.Call (.Attribute o name apos) [] [] cpos) (tBM0 X.K T r to) := by
  intro pins s σ H Q I h
  refine wpAny_Call_method0_late hbase hline (thn (ho pins s σ H _ I h) fun v s1 ⟨x, H1, I1, r1, ty, q1⟩ => ?_)
  obtain ⟨h1, h2⟩ := tyV_is I1 r1 ty
  exact ⟨T, id, pa, slot, hty, h1, h2, Calls.callWith_builtin rfl (PySem.evalArgs_none (hm pins s1 σ H1 x [] v [] Q I1 r1 .nil q1))⟩
theorem pe_bm (pa : PlainAttrs T) (slot : Slot T name id) (hty : typeOf (.builtin id) = pure (.type "method_descriptor")) (hm : MtR X id r) (ho : PE X o to) (ha : PA X (e :: es) t)
    (hbase : attributeBase o name X.env (eval o X.env) = eval o X.env := by rfl)
    (hfew : ((backTo cpos (starEach (e :: es) X.env)).all (fun x => !x.1) && (backToKw cpos (keywordEach [] X.env)).all (fun x => x.1.isSome)
      && decide ((e :: es).length + ([] : List Keyword).length + (if ([] : List Keyword).isEmpty then 0 else 1) < 30)) = true := by rfl)
    (hline : (apos.endLine == cpos.line) = true := by rfl) (hs : starEach (e :: es) X.env = (false, eval e X.env) :: starEach es X.env := by rfl) (hplain : (backTo cpos (starEach es X.env)).any (·.1) = false := by rfl) :
    PE X (.Call (.Attribute o name apos) (e :: es) [] cpos) (tBM X.K T r to t) := by
  intro pins s σ H Q I h
  refine wpAny_Call_method_late hbase hfew hline rfl (thn (ho pins s σ H _ I h) fun v s1 ⟨x, H1, I1, r1, ty, q1⟩ => ?_)
  obtain ⟨h1, h2⟩ := tyV_is I1 r1 ty
  refine ⟨T, id, pa, slot, hty, h1, h2, ?_⟩
  have hA := ha cpos pins s1 σ H1 _ I1 q1
  rw [hs] at hA ⊢
  refine Calls.callWith_builtin (by show (false || (backTo cpos (starEach es X.env)).any (·.1)) = false; rw [hplain] <;> rfl) (Calls.evalArgs_plain ?_)
  exact thn hA fun us s2 ⟨vs, H2, I2, r2, q2⟩ => hm pins s2 σ H2 x vs v us Q I2 r1 r2 q2
/- xs.append(e), list.index on a module's tuple .. are MtR facts of 06m -/
end
end L2

namespace L2
open PySem PySem.Spec PyProof.Rows

def MtM (X : Cx) (id : String) (r : V → List V → Hp → VK → Prop) : Prop :=
  ∀ (pins : List (Addr × Obj)) (s : Shared) (σ : St) (H : Hp) (x : V) (xs : List V) (v : Value) (us : List Value) (Q : VK), Inv X pins σ H s → RelV x v → Vals xs us → r x xs H Q →
    wpAny (model X.prog X.w) X.A (call (.builtin id) (v :: us)) (EP X pins σ Q) X.xe s

/-! ### lists of values -/
theorem Vals.one : ∀ {x : V} {us : List Value}, Vals [x] us → ∃ u, us = [u] ∧ RelV x u
  | _, _, .cons r .nil => ⟨_, rfl, r⟩
theorem Vals.two : ∀ {x y : V} {us : List Value}, Vals [x, y] us → ∃ u v, us = [u, v] ∧ RelV x u ∧ RelV y v
  | _, _, _, .cons r (.cons q .nil) => ⟨_, _, rfl, r, q⟩
theorem Vals.zero : ∀ {us : List Value}, Vals [] us → us = []
  | _, .nil => rfl
theorem Vals.dropLast {xs : List V} {us : List Value} (h : Vals xs us) : Vals xs.dropLast us.dropLast := by
  induction h with
  | nil => exact .nil
  | cons r t ih =>
    cases t with
    | nil => exact .nil
    | cons q t' => exact .cons r ih
theorem Vals.eraseIdx : ∀ {xs : List V} {us : List Value} (i : Nat), Vals xs us → Vals (xs.eraseIdx i) (us.eraseIdx i)
  | _, _, _, .nil => .nil
  | _, _, 0, .cons _ t => t
  | _, _, i + 1, .cons r t => .cons r (Vals.eraseIdx i t)
theorem Vals.reverse {xs : List V} {us : List Value} (h : Vals xs us) : Vals xs.reverse us.reverse := by
  induction h with
  | nil => exact .nil
  | cons r t ih => rw [List.reverse_cons, List.reverse_cons]; exact Vals.append ih (.cons r .nil)
theorem Vals.rep {xs : List V} {us : List Value} (h : Vals xs us) : ∀ k : Nat, Vals (List.replicate k xs).flatten (List.replicate k us).flatten
  | 0 => .nil
  | k + 1 => by
    rw [List.replicate_succ, List.replicate_succ, List.flatten_cons, List.flatten_cons]
    exact Vals.append h (Vals.rep h k)
theorem erase_last {α : Type} (l : List α) : l.eraseIdx (l.length - 1) = l.dropLast := by
  induction l with
  | nil => rfl
  | cons a r ih =>
    cases r with
    | nil => rfl
    | cons b r =>
      have e : (a :: b :: r).length - 1 = ((b :: r).length - 1) + 1 := by
        have h1 : (a :: b :: r).length = r.length + 2 := rfl
        have h2 : (b :: r).length = r.length + 1 := rfl
        omega
      rw [e, List.eraseIdx_cons_succ, ih]
      all_goals rfl
theorem len_erase {α : Type} : ∀ (l : List α) (i : Nat), (l.eraseIdx i).length ≤ l.length
  | [], _ => Nat.le_refl _
  | _ :: _, 0 => Nat.le_succ _
  | _ :: r, i + 1 => Nat.succ_le_succ (len_erase r i)
theorem foldl_rep (its : List Value) : ∀ (k : Nat) (acc : List Value),
    List.foldl (fun x1 x2 => x1 ++ x2) acc.toArray (List.replicate k its.toArray) = (acc ++ (List.replicate k its).flatten).toArray
  | 0, acc => by simp
  | k + 1, acc => by
    have e : acc.toArray ++ its.toArray = (acc ++ its).toArray := by simp
    have e2 : (acc ++ its) ++ (List.replicate k its).flatten = acc ++ (List.replicate (k + 1) its).flatten := by
      rw [List.replicate_succ, List.flatten_cons, List.append_assoc]
    rw [← e2, ← foldl_rep its k (acc ++ its), ← e, List.replicate_succ, List.foldl_cons]

section
variable {X : Cx} {pins : List (Addr × Obj)} {σ : St} {H : Hp} {s : Shared} {l b : Addr} {xs ys zs : List V}

/-! ### the two steps: a tracked list is rewritten, a new list is laid -/
theorem Inv.lset {its its' : List Value} {n : Nat} {f : Array Value → Array Value} {t' : Nat} (I : Inv X pins σ H s) (hH : H l = some (.lst xs))
    (e : s.heap.get? l = some { cls := .type "list", data := .seq its.toArray n }) (hf : f its.toArray = its'.toArray) (hv : Vals ys its') (hz : ys.length ≤ sizeLine) :
    Inv X pins σ (upd H l (.lst ys)) { s with heap := s.heap.update l (Obj.mapSeq f), toks := t' } := by
  have q := PySem.IsL.update e f
  rw [hf] at q
  refine I.write (x := l) (e := l) (by rw [hH]; exact trivial) (.inl rfl) (fun b' u hb hu => (Heap.get?_update_other s.heap (Obj.mapSeq f) (Ne.symm hb)).trans hu) ⟨_, q⟩ ?_
  exact ⟨hz, its', _, hv, q⟩
theorem Inv.lnew {its : List Value} {t' : Nat} (I : Inv X pins σ H s) (hv : Vals ys its) (hz : ys.length ≤ sizeLine) :
    Inv X pins σ (upd H s.heap.objs.size (.lst ys)) { s with heap := s.heap.push { cls := .type "list", data := .seq its.toArray }, toks := t' } :=
  I.laid (fun _ _ q => Heap.get?_push_of_some _ q) (Nat.le_refl _) ⟨hz, its, 0, hv, Heap.get?_push_size _ rfl⟩
theorem Inv.fresh (I : Inv X pins σ H s) : H s.heap.objs.size = none := I.hok.fresh (Nat.le_refl _)
theorem Inv.lstM (I : Inv X pins σ H s) (hH : H l = some (.lst xs)) : xs.length ≤ sizeLine ∧ ∃ (its : List Value) (n : Nat), Vals xs its ∧ xs.length = its.length ∧ s.heap.get? l = some { cls := .type "list", data := .seq its.toArray n } := by
  obtain ⟨z, its, n, r, e⟩ := I.hok l _ hH
  exact ⟨z, its, n, r, r.length, e⟩

theorem notLongL {n : Nat} (h : n ≤ sizeLine) : Builtin.List.listTooLong n = false := by
  unfold Builtin.List.listTooLong
  exact decide_eq_false (by omega)
end

section
variable {X : Cx}

/-! ### methods -/
def rAppend : V → List V → Hp → VK → Prop := fun x vs H Q => ∃ l xs y, x = .ref l ∧ vs = [y] ∧ H l = some (.lst xs) ∧ xs.length < sizeLine ∧ Q .non (upd H l (.lst (xs ++ [y])))
theorem mt_append : MtM X "list.append" rAppend := by
  intro pins s σ H x vs v us Q I rx rv h
  obtain ⟨l, xs, y, rfl, rfl, hH, hz, q⟩ := h
  cases rx
  obtain ⟨u, rfl, ru⟩ := rv.one
  obtain ⟨z, its, n, r, hl, e⟩ := I.lstM hH
  refine call_meets F.slot_list_append ⟨_, e, rfl⟩ F.entry_list_append (F.args_list_append_2 _ _) (PySem.list_append l its.toArray n u (by rw [List.size_toArray]; omega)) ⟨e, ?_⟩
  refine ⟨.non, _, I.lset (its' := its ++ [u]) hH e (by simp) (r.append (.cons ru .nil)) ?_, rfl, q⟩
  rw [List.length_append, List.length_singleton]
  omega

def rExtend : V → List V → Hp → VK → Prop := fun x vs H Q => ∃ l b xs zs, x = .ref l ∧ vs = [.ref b] ∧ H l = some (.lst xs) ∧ H b = some (.lst zs) ∧ xs.length + zs.length ≤ sizeLine ∧ Q .non (upd H l (.lst (xs ++ zs)))
theorem mt_extend : MtM X "list.extend" rExtend := by
  intro pins s σ H x vs v us Q I rx rv h
  obtain ⟨l, b, xs, zs, rfl, rfl, hH, hB, hz, q⟩ := h
  cases rx
  obtain ⟨u, rfl, ru⟩ := rv.one
  cases ru
  obtain ⟨z, its, n, r, hl, e⟩ := I.lstM hH
  obtain ⟨z2, its2, n2, r2, hl2, e2⟩ := I.lstM hB
  have hsz : its.toArray.size + its2.toArray.size ≤ sizeLine := by rw [List.size_toArray, List.size_toArray]; omega
  have hlong : ¬ (!its.toArray.isEmpty && Builtin.List.listTooLong (its.toArray.size + its2.toArray.size)) = true := by
    rw [notLongL hsz, Bool.and_false]
    exact Bool.false_ne_true
  refine call_meets F.slot_list_extend ⟨_, e, rfl⟩ F.entry_list_extend (F.args_list_extend_2 _ _)
    (AutoSeq1.list_extend_list_list_0 l its.toArray n b its2.toArray n2 hlong (by rw [List.size_toArray]; omega) (by omega)) ⟨e, e2, ?_⟩
  refine ⟨.non, _, I.lset (its' := its ++ its2) hH e (by simp) (r.append r2) ?_, rfl, q⟩
  rw [List.length_append]
  omega

def rPop : V → List V → Hp → VK → Prop := fun x vs H Q => ∃ l xs y, x = .ref l ∧ vs = [] ∧ H l = some (.lst xs) ∧ xs[xs.length - 1]? = some y ∧ Q y (upd H l (.lst xs.dropLast))
theorem mt_pop : MtM X "list.pop" rPop := by
  intro pins s σ H x vs v us Q I rx rv h
  obtain ⟨l, xs, y, rfl, rfl, hH, hy, q⟩ := h
  cases rx
  have hus := rv.zero
  subst hus
  obtain ⟨z, its, n, r, hl, e⟩ := I.lstM hH
  obtain ⟨u, hu, ru⟩ := r.get hy
  have hy' : its.toArray[its.toArray.size - 1]? = some u := by
    show its.toArray[its.length - 1]? = some u
    rw [← Array.getElem?_toList, ← hl]
    exact hu
  refine call_meets F.slot_list_pop ⟨_, e, rfl⟩ F.entry_list_pop (F.args_list_pop_1 _) (MeetsSeq.list_pop_last l its.toArray n u hy' (by rw [List.size_toArray]; omega)) ⟨e, ?_⟩
  refine ⟨y, _, I.lset (its' := its.dropLast) hH e ?_ r.dropLast ?_, ru, q⟩
  · show its.toArray.eraseIdxIfInBounds (its.toArray.size - 1) = its.dropLast.toArray
    rw [List.size_toArray, List.eraseIdxIfInBounds_toArray, erase_last]
  · rw [List.length_dropLast]
    omega

def rPopAt : V → List V → Hp → VK → Prop := fun x vs H Q => ∃ l xs i k y, x = .ref l ∧ vs = [.int i] ∧ H l = some (.lst xs) ∧ -(2 ^ 63) ≤ i ∧ i < 2 ^ 63 ∧ seqIndex? i xs.length = some k ∧ xs[k]? = some y ∧ Q y (upd H l (.lst (xs.eraseIdx k)))
theorem mt_popAt : MtM X "list.pop" rPopAt := by
  intro pins s σ H x vs v us Q I rx rv h
  obtain ⟨l, xs, i, k, y, rfl, rfl, hH, h1, h2, hk, hy, q⟩ := h
  cases rx
  obtain ⟨u, rfl, ru⟩ := rv.one
  obtain ⟨t, rfl⟩ := ru
  obtain ⟨z, its, n, r, hl, e⟩ := I.lstM hH
  obtain ⟨w, hw, rw'⟩ := r.get hy
  refine call_meets F.slot_list_pop ⟨_, e, rfl⟩ F.entry_list_pop (F.args_list_pop_2 _ _)
    (MeetsSeq.list_pop_at l its.toArray n i t k w (fitsIndex_both h1 h2) (by rw [List.size_toArray, ← hl]; exact hk) (by rw [← Array.getElem?_toList]; exact hw) (by rw [List.size_toArray]; omega)) ⟨e, ?_⟩
  refine ⟨y, _, I.lset (its' := its.eraseIdx k) hH e ?_ (r.eraseIdx k) ?_, rw', q⟩
  · show its.toArray.eraseIdxIfInBounds k = (its.eraseIdx k).toArray
    rw [List.eraseIdxIfInBounds_toArray]
  · have := len_erase xs k
    omega

def rReverse : V → List V → Hp → VK → Prop := fun x vs H Q => ∃ l xs, x = .ref l ∧ vs = [] ∧ H l = some (.lst xs) ∧ Q .non (upd H l (.lst xs.reverse))
theorem mt_reverse : MtM X "list.reverse" rReverse := by
  intro pins s σ H x vs v us Q I rx rv h
  obtain ⟨l, xs, rfl, rfl, hH, q⟩ := h
  cases rx
  have hus := rv.zero
  subst hus
  obtain ⟨z, its, n, r, hl, e⟩ := I.lstM hH
  refine call_meets F.slot_list_reverse ⟨_, e, rfl⟩ F.entry_list_reverse (F.args_list_reverse_1 _) (AutoSeq1.list_reverse_list_0 l its.toArray n (by rw [List.size_toArray]; omega)) ⟨e, ?_⟩
  refine ⟨.non, _, I.lset (its' := its.reverse) hH e (by simp) r.reverse ?_, rfl, q⟩
  rw [List.length_reverse]
  omega

def rClear : V → List V → Hp → VK → Prop := fun x vs H Q => ∃ l xs, x = .ref l ∧ vs = [] ∧ H l = some (.lst xs) ∧ Q .non (upd H l (.lst []))
theorem mt_clear : MtM X "list.clear" rClear := by
  intro pins s σ H x vs v us Q I rx rv h
  obtain ⟨l, xs, rfl, rfl, hH, q⟩ := h
  cases rx
  have hus := rv.zero
  subst hus
  obtain ⟨z, its, n, r, hl, e⟩ := I.lstM hH
  refine call_meets F.slot_list_clear ⟨_, e, rfl⟩ F.entry_list_clear (F.args_list_clear_1 _) (AutoSeq1.list_clear_list_0 l its.toArray n (by rw [List.size_toArray]; omega)) ⟨e, ?_⟩
  exact ⟨.non, _, I.lset (its' := []) (ys := []) hH e rfl .nil (Nat.zero_le _), rfl, q⟩

/-! ### list + list, list += list, list * int -/
def rCat : R2 := fun x y H Q => ∃ l b xs zs, x = .ref l ∧ y = .ref b ∧ H l = some (.lst xs) ∧ H b = some (.lst zs) ∧ xs.length + zs.length ≤ sizeLine ∧ ∀ p, H p = none → Q (.ref p) (upd H p (.lst (xs ++ zs)))
theorem op_cat : OpR X (binaryOp .Add) rCat := by
  intro pins s σ H x y v u Q I rx ry h
  obtain ⟨l, b, xs, zs, rfl, rfl, hH, hB, hz, q⟩ := h
  cases rx
  cases ry
  obtain ⟨z, its, n, r, hl, e⟩ := I.lstM hH
  obtain ⟨z2, its2, n2, r2, hl2, e2⟩ := I.lstM hB
  refine PySem.P.add_list e e2 ?_ (by rw [List.size_toArray, List.size_toArray]; omega)
  have ea : its.toArray ++ its2.toArray = (its ++ its2).toArray := by simp
  rw [ea]
  exact ⟨.ref _, _, I.lnew (t' := s.toks) (r.append r2) (by rw [List.length_append]; omega), rfl, q _ I.fresh⟩
/-- a list times an int (a negative one is nothing) -/
def rRep : R2 := fun x y H Q => ∃ l k xs, x = .ref l ∧ y = .int k ∧ H l = some (.lst xs) ∧ -(2 ^ 63) ≤ k ∧ k < 2 ^ 63 ∧ xs.length * k.toNat ≤ sizeLine ∧
  ∀ p, H p = none → Q (.ref p) (upd H p (.lst (List.replicate k.toNat xs).flatten))
theorem len_rep {α : Type} (xs : List α) (k : Nat) : (List.replicate k xs).flatten.length = k * xs.length := by
  induction k with
  | zero => simp
  | succ k ih => rw [List.replicate_succ, List.flatten_cons, List.length_append, ih, Nat.succ_mul, Nat.add_comm]
theorem op_rep : OpR X (binaryOp .Mult) rRep := by
  intro pins s σ H x y v u Q I rx ry h
  obtain ⟨l, k, xs, rfl, rfl, hH, h1, h2, hz, q⟩ := h
  cases rx
  obtain ⟨t, rfl⟩ := ry
  obtain ⟨z, its, n, r, hl, e⟩ := I.lstM hH
  have hlen : its.toArray.size * k.toNat ≤ sizeLine := by rw [List.size_toArray, ← hl]; exact hz
  have hcap : ¬ its.toArray.size * k.toNat > (2 ^ 63 - 1) / 8 := by
    have : (sizeLine : Nat) ≤ (2 ^ 63 - 1) / 8 := by decide
    omega
  have hfit : ¬ (!Builtin.List.listFitsIndex k) = true := by
    rw [fitsIndex_both h1 h2]
    exact Bool.false_ne_true
  have hlong : ¬ Builtin.List.listTooLong (its.toArray.size * k.toNat) = true := by
    rw [notLongL hlen]
    exact Bool.false_ne_true
  have hnew : List.foldl (fun x1 x2 => x1 ++ x2) #[] (List.replicate (if its.toArray.isEmpty = true then 0 else k.toNat) its.toArray) = (List.replicate k.toNat its).flatten.toArray := by
    have f0 : ∀ m : Nat, List.foldl (fun x1 x2 => x1 ++ x2) #[] (List.replicate m its.toArray) = (List.replicate m its).flatten.toArray := fun m => by
      have := foldl_rep its m []
      rw [List.nil_append] at this
      exact this
    rw [f0]
    cases its with
    | nil => simp
    | cons a r' => rw [if_neg (by simp)]
  refine wpAny_binaryOp_repeat_ref (T := "list") (U := "int") (by decide) ⟨_, e, rfl⟩ (fun s' => typeIs_int s' k t) noFill_list_mul F.fills_int_mul F.slot_int_rmul repeat_list F.slot_int_index.lookup
    (call_meets F.slot_int_rmul (typeIs_int s k t) F.entry_int_rmul (F.args_int_rmul_2 _ _) (int___rmul___int_list k t l its.toArray n)
      ⟨e, rfl, ⟨_, e, rfl⟩, call_meets F.slot_list_mul ⟨_, e, rfl⟩ F.entry_list_mul (F.args_list_mul_2 _ _) (AutoListH.list___mul___list_int_3 l its.toArray n k t hfit hcap hlong) ⟨e, ?_⟩⟩)
  rw [hnew]
  exact ⟨.ref _, _, I.lnew (t' := s.toks) (r.rep k.toNat) (by rw [len_rep, Nat.mul_comm]; exact hz), rfl, q _ I.fresh⟩

/-! ### del xs[i] -/
theorem del_list {pins : List (Addr × Obj)} {s : Shared} {σ : St} {H : Hp} {l : Addr} {xs : List V} {i : Int} {t : Tok} {k : Nat} {Q : Unit → Shared → Prop} (I : Inv X pins σ H s) (hH : H l = some (.lst xs))
    (h1 : -(2 ^ 63) ≤ i) (h2 : i < 2 ^ 63) (hk : seqIndex? i xs.length = some k) (h : ∀ s', Inv X pins σ (upd H l (.lst (xs.eraseIdx k))) s' → Q () s') :
    wpAny (model X.prog X.w) X.A (delItem (.ref l) (.int i t)) Q X.xe s := by
  obtain ⟨z, its, n, r, hl, e⟩ := I.lstM hH
  refine PySem.P.delItem_list (k := k) e (fitsIndex_both h1 h2) (by rw [List.size_toArray, ← hl]; exact hk) (h _ ?_) (by rw [List.size_toArray]; omega)
  refine I.lset (its' := its.eraseIdx k) (t' := s.toks) hH e ?_ (r.eraseIdx k) ?_
  · show its.toArray.eraseIdxIfInBounds k = (its.eraseIdx k).toArray
    rw [List.eraseIdxIfInBounds_toArray]
  · have := len_erase xs k
    omega
end

/-! ### xs[a:b] = ys -/
section
variable {prog : Program} {w : World} {A : Around} {E : Value → Shared → Prop} {s : Shared}
theorem splice_eq (its its2 : List Value) (a c : Nat) : its.toArray.extract 0 a ++ its2.toArray ++ its.toArray.extract c its.toArray.size = (its.take a ++ its2 ++ its.drop c).toArray := by
  apply Array.toList_inj.mp
  first
    | (simp
       exact List.take_of_length_le (by simp))
    | simp [List.take_of_length_le]
    | simp
theorem bounds_run {a c n : Nat} (hac : a ≤ c) (hc : c ≤ n) : sliceBounds (some (a : Int)) (some (c : Int)) none n = ((a : Int), (c : Int), 1) := by
  simp only [sliceBounds, Option.getD_none]
  have h1 : ¬ ((a : Int) < 0) := by omega
  have h2 : ¬ ((c : Int) < 0) := by omega
  simp only [h1, h2, if_false, show (1 : Int) > 0 by decide, if_true]
  congr 1
  · omega
  · congr 1; omega
set_option maxRecDepth 100000 in
/-- list.__setitem__ with a slice of step one and another list -/
theorem setItem_slice {l b sl : Addr} {items new : Array Value} {n n2 : Nat} {vl vu : Value} {a c : Nat} {Q : Unit → Shared → Prop}
    (e : s.heap.get? l = some { cls := .type "list", data := .seq items n }) (e2 : s.heap.get? b = some { cls := .type "list", data := .seq new n2 }) (hne : l ≠ b)
    (hs : s.heap.IsSliceOf sl vl vu .none) (pl : IsPart vl (some (a : Int))) (pu : IsPart vu (some (c : Int))) (hac : a ≤ c) (hc : c ≤ items.size)
    (hsz : items.size + new.size ≤ sizeLine) (h : Q () { s with heap := s.heap.update l (Obj.mapSeq fun xs => xs.extract 0 a ++ new ++ xs.extract c xs.size) }) :
    wpAny (model prog w) A (setItem (.ref l) (.ref sl) (.ref b)) Q E s := by
  have hl : s.heap.IsList l items := PySem.IsL.isList e
  have hb : s.heap.IsList b new := PySem.IsL.isList e2
  obtain ⟨os, hos, hcs, hds⟩ := id hs
  have hTs : s.TypeIs (.ref sl) "slice" := ⟨os, hos, hcs⟩
  have hstep : ¬ ((rawPart none == rawInt 0) = true) := Bool.false_ne_true
  have hsame : Builtin.List.listSameRef (.ref l) (.ref b) = false := by
    unfold Builtin.List.listSameRef
    exact beq_eq_false_iff_ne.mpr hne
  have hmax : (max (a : Int) (c : Int)).toNat = c := by omega
  have hz' : ((fun xs : Array Value => xs.extract 0 a ++ new ++ xs.extract c xs.size) items).size ≤ sizeLine + 1 := by
    simp only [Array.size_append, Array.size_extract]
    omega
  unfold setItem
  try with_reducible refine wpAny_holding ?_
  first | refine wpAny_bind (wpAny_pure ?_) | skip
  refine wpAny_bind (wpAny_sequenceKey hl.typeIs (by decide) ?_)
  refine wpAny_bind (wpAny_callSpecial?_slot (name := Str.ofString "__setitem__") hl.typeIs slot_list_setitem
    (wpAny_call_entry slot_list_setitem hl.typeIs entry_list_setitem ?_ (args_list_setitem _ _ _)))
  show wpAny _ _ (Builtin.List.listSubscript? (.ref sl) >>= _) _ _ s
  refine wpAny_bind ?_
  unfold Builtin.List.listSubscript?
  refine wpAny_bind (wpAny_specialOf hTs slice_no_index ?_)
  simp only [Option.isNone_none, if_true]
  refine wpAny_pure ?_
  show wpAny _ _ (typeOf (.ref sl) >>= _) _ _ s
  refine wpAny_bind (wpAny_typeOf hTs ?_)
  first
    | rw [if_neg (by decide)]
    | refine PySem.W.KFB.if_not (by decide) ?_
  rw [listSliceParts_eq]
  refine wpAny_bind (wpAny_bind (wpAny_field hos hds (x := .none) rfl (wpAny_bind (wpAny_listPart .none ?_))))
  rw [if_neg hstep]
  refine wpAny_bind (wpAny_field hos hds (x := vl) rfl (wpAny_bind (wpAny_listPart pl ?_)))
  refine wpAny_bind (wpAny_field hos hds (x := vu) rfl (wpAny_bind (wpAny_listPart pu (wpAny_pure ?_))))
  first
    | simp only [hsame, Bool.false_eq_true, if_false]
    | refine PySem.W.KFB.if_not hsame ?_
    | (dsimp only
       rw [if_neg (by rw [hsame]; exact Bool.false_ne_true)])
  refine wpAny_bind (m := Builtin.List.listAllItems (.ref b) "must assign iterable to extended slice") ?_
  unfold Builtin.List.listAllItems
  refine wpAny_bind (wpAny_typeOf hb.typeIs ?_)
  first
    | refine PySem.W.KFB.if_so (by decide) ?_
    | rw [if_pos (by decide)]
    | simp only [beq_self_eq_true, Bool.true_or, if_true]
  unfold Builtin.List.listItems
  refine wpAny_bind (wpAny_seqItems e2 rfl (wpAny_pure ?_))
  refine wpAny_bind (wpAny_bind (wpAny_seqItems e rfl (wpAny_pure ?_)))
  refine wpAny_bind (wpAny_of_eq ((sliceIndices_raw (some (a : Int)) (some (c : Int)) none items.size (by simp)).trans (congrArg (pure : Int × Int × Int → Sem (Int × Int × Int)) (bounds_run hac hc))) ?_)
  show wpAny _ _ (if ((1 : Int) == 1) = true then _ else _) _ _ s
  rw [if_pos (by decide)]
  refine wpAny_bind (wpAny_rule ?_)
  first
    | simp only [notLongL hsz, Bool.false_eq_true, if_false]
    | refine PySem.W.KFB.if_not (notLongL hsz) ?_
  first | refine wpAny_bind (wpAny_pure ?_) | skip
  show wpAny _ _ (updateSeq l (fun xs => xs.extract 0 ((a : Int)).toNat ++ new ++ xs.extract (max (a : Int) (c : Int)).toNat xs.size) >>= _) _ _ s
  rw [hmax, Int.toNat_natCast]
  refine wpAny_bind (wpAny_updateSeq (hz := Nat.le_trans (Nat.le_add_right _ _) hsz) (_hz' := hz') e rfl ?_)
  refine wpAny_bind (wpAny_letGo ?_)
  first
    | exact wpAny_bind (wpAny_pure (wpAny_pure ⟨.none, rfl, wpAny_pure h⟩))
    | exact wpAny_pure ⟨.none, rfl, wpAny_pure h⟩
end

section
variable {X : Cx}
/-- xs[a:c] = ys of another list, at the value level: sl is the slice object that was just made -/
theorem set_slice {pins : List (Addr × Obj)} {s : Shared} {σ : St} {H : Hp} {l b sl : Addr} {xs ys : List V} {a c : Int} {vl vu : Value} {Q : Unit → Shared → Prop} (I : Inv X pins σ H s)
    (hH : H l = some (.lst xs)) (hB : H b = some (.lst ys)) (hne : l ≠ b) (hs : s.heap.IsSliceOf sl vl vu .none) (ra : RelV (.int a) vl) (rc : RelV (.int c) vu) (h0 : 0 ≤ a) (hac : a ≤ c) (hc : c ≤ xs.length)
    (hz : xs.length + ys.length ≤ sizeLine) (h : ∀ s', Inv X pins σ (upd H l (.lst (xs.take a.toNat ++ ys ++ xs.drop c.toNat))) s' → Q () s') :
    wpAny (model X.prog X.w) X.A (setItem (.ref l) (.ref sl) (.ref b)) Q X.xe s := by
  obtain ⟨ta, rfl⟩ := ra
  obtain ⟨tc, rfl⟩ := rc
  obtain ⟨z, its, n, r, hl, e⟩ := I.lstM hH
  obtain ⟨z2, its2, n2, r2, hl2, e2⟩ := I.lstM hB
  obtain ⟨a', rfl⟩ := Int.eq_ofNat_of_zero_le h0
  obtain ⟨c', rfl⟩ := Int.eq_ofNat_of_zero_le (Int.le_trans h0 hac)
  simp only [Int.toNat_natCast] at h
  refine setItem_slice (a := a') (c := c') e e2 hne hs (.int _ _) (.int _ _) (by omega) (by rw [List.size_toArray]; omega) (by rw [List.size_toArray, List.size_toArray]; omega) (h _ ?_)
  refine I.lset (its' := its.take a' ++ its2 ++ its.drop c') (t' := s.toks) hH e ?_ (Vals.append (Vals.append (r.take _) r2) (r.drop _)) ?_
  · exact splice_eq its its2 a' c'
  · rw [List.length_append, List.length_append, List.length_take, List.length_drop]
    omega
end
end L2

namespace Att
open PySem PySem.W PySem.Calls PyProof.Rows

/-! ### the script -/
theorem ints_of_wellAll {P : Params} {h : Heap} : ∀ (ns : List Int) (vs : List Value), WellAll P h vs (ns.map WData.int) → IntsAre vs ns := by
  intro ns
  induction ns with
  | nil =>
    intro vs w
    rw [List.map_nil] at w
    cases w
    exact .nil
  | cons n ns ih =>
    intro vs w
    rw [List.map_cons] at w
    cases w with
    | cons a b =>
      cases a
      exact .cons _ _ (ih _ b)

theorem script_of {l : OpenLaw} {n : Nat} (hn : l.most = some n) {P : Params} {h : Heap} {args : List WData} {vals : List Value}
    (hpre : l.row.toRowW.claim.pre args = true) (hwl : WellAll P h vals args) :
    ∃ a vs ns, vals = [Value.ref a] ∧ args = [WData.list (ns.map WData.int)] ∧ h.get? a = some { cls := .type "list", data := .seq vs.toArray } ∧ IntsAre vs ns ∧ ns.length ≤ n := by
  have hsh : WShape.hasAll [] args [.list .int] = true := (pre_splitW hpre).1
  have hc : l.pre.holds [] { args := args } = true := (pre_splitW hpre).2
  obtain ⟨d, r, rfl, h1, h2⟩ := hasAllW_cons hsh
  obtain rfl := hasAllW_nil h2
  obtain ⟨xs, rfl, h3⟩ := hasW_list h1
  obtain ⟨ns, rfl⟩ := items_int h3
  have hlen : ns.length ≤ n := by
    unfold OpenLaw.pre at hc
    have h4 : (WTm.not (.lt (.lit (.int (n : Int))) (.len (.arg 0)))).holds [] { args := [.list (ns.map .int)] } = true := by
      have h4 := (holds_andW hc).1
      rw [hn] at h4
      exact h4
    have h5 := condW_of h4 (w_not (w_lt w_lit (w_len_list (w_arg rfl))))
    rw [List.length_map] at h5
    refine Nat.le_of_not_lt fun q => ?_
    have q' : (n : Int) < ((ns.length : Nat) : Int) := by omega
    first
      | (rw [decide_eq_true q'] at h5; exact absurd h5 (by decide))
      | (simp at h5; omega)
  cases hwl with
  | cons w1 w2 =>
    cases w2
    cases w1 with
    | list ho hall => exact ⟨_, _, ns, rfl, rfl, ho, ints_of_wellAll ns _ hall, hlen⟩

theorem post_true (l : OpenLaw) (args : List WData) : l.row.toRowW.claim.post args (.bool true) args = true :=
  postW_of (r := l.row.toRowW) (X := (true == true))
    (show WShape.has [] (.bool true) .bool = true by first | rfl | decide | simp [WShape.has, WShape.arms, WShape.armsAll])
    (show (WTm.eq .res (.lit (.bool true))).value [] { args := args, res := some (.bool true), after := args } = some (.bool (true == true)) from w_eq_bool (w_res rfl) w_lit) rfl

/-! ### the attachment: holds_open's last premise (the goal 'hc' behind k_head) from a wpAny of the law's body -/
theorem attach {l : OpenLaw} {n : Nat} {q : Program} {loose : List Str} {XP : (Str → Option Value) → Heap → Prop} {YP : World → Heap → Prop} {d : DefRec} {x : Str}
    (hn : l.most = some n) (hdf : d.params.defaults = [])
    (hbind : ∀ pm cd doc v : Value, bindArgs (docDef d.name d.params d.body d.scope pm cd doc) ⟨[v], []⟩ = pure [(x, v)])
    (hx : d.scope.names.lookup x = some .local ∨ d.scope.names.lookup x = some .cell)
    (hk : d.scope.kind = .function) (hco : d.scope.isCoroutine = false) (hgen : d.scope.isGenerator = false)
    (body : ∀ (w : World) (s₀ s₁ s : Shared) (mg mb : Str → Option Value) (fa : Addr) (o : Obj) (pm cd doc : Value) (a : Addr) (vs : List Value) (ns : List Int),
      Ground q loose [] XP w s₀ mg mb s₁.heap → YP w s₁.heap →
      s₁.heap.get? fa = some o → o.data = .func (docDef d.name d.params d.body d.scope pm cd doc) → s₁.heap.CodeRec cd d.name → mg d.name = some (.ref fa) →
      s₁.heap.get? a = some { cls := .type "list", data := .seq vs.toArray } → IntsAre vs ns → ns.length ≤ n →
      s.gens = #[] → s.os = s₁.os →
      Fr s₁.heap s₁.heap.objs.size s.heap (bindL (envOfC d.name d.scope s₁.heap.objs.size fa cd).kindOf [(x, .ref a)] fun _ => none) →
      Cl s₁.heap.objs.size (cellsFrom (s₁.heap.objs.size + 1) d.scope.names []) s.heap (bindC (envOfC d.name d.scope s₁.heap.objs.size fa cd).kindOf [(x, .ref a)] fun _ => none) →
      wpAny (model l.prog w) (callerA.deeper (envOfC d.name d.scope s₁.heap.objs.size fa cd)) (execs d.body (envOfC d.name d.scope s₁.heap.objs.size fa cd))
        (fun f s' => f = .ret (.bool true) ∧ OldK s₁.heap s'.heap ∧ s'.os = s₁.os ∧ AllBare s'.gens) (fun _ _ => False) s) :
    WalkO q loose XP YP l.row.toRowW d [] (fun f vs => PySem.call f vs) := by
  intro w s₀ s₁ mg mb G Y fa o pm cd doc dV kV ho hd hcd hD hmg hg args vals as hpre hlay hrd hwl hlo
  obtain rfl : dV = .none := Dflts.none hD hdf
  obtain rfl : kV = .none := Dflts.noKw hD
  obtain ⟨a, vs, ns, rfl, rfl, hobj, hints, hlen⟩ := script_of hn hpre hwl
  refine enter_call ?_
  refine call_cells_ret (o := o) (by rw [depth_caller]; decide) ho (fd_plain hd) G.T.nolimit hcd (hbind pm cd doc (.ref a)) (fun y hy => ?_) (fun h₁ tk F X => ?_) hco hgen hk
  · obtain rfl : y = (x, Value.ref a) := List.mem_singleton.mp hy
    rcases hx with e | e
    · exact .inl e
    · exact .inr ⟨e, cellsFrom_some _ _ _ (.inl e)⟩
  · refine wpAny_mono (body w s₀ s₁ { s₁ with heap := h₁, toks := tk } mg mb fa o pm cd doc a vs ns G Y ho (fd_plain hd) hcd hmg hobj hints hlen hg rfl F X) (fun f s' hq => ?_) (fun _ _ hq => hq)
    obtain ⟨rfl, h2, h3, h4⟩ := hq
    exact ⟨.inl ⟨.bool true, .bool true, [], rfl, fun _ => rfl, .bool true, post_true l _, fun _ => ⟨List.Pairwise.nil, fun _ hm => (nomatch hm)⟩⟩, h2, h3, h4⟩

/-- the same from a codeAny of the CALL (for a layer whose function contracts speak of calls) -/
theorem attach_call {l : OpenLaw} {n : Nat} {q : Program} {loose : List Str} {XP : (Str → Option Value) → Heap → Prop} {YP : World → Heap → Prop} {d : DefRec}
    (hn : l.most = some n) (hdf : d.params.defaults = [])
    (call : ∀ (w : World) (s₀ s₁ : Shared) (mg mb : Str → Option Value) (fa : Addr) (o : Obj) (pm cd doc : Value) (a : Addr) (vs : List Value) (ns : List Int),
      Ground q loose [] XP w s₀ mg mb s₁.heap → YP w s₁.heap →
      s₁.heap.get? fa = some o → o.data = .func (docDef d.name d.params d.body d.scope pm cd doc) → s₁.heap.CodeRec cd d.name → mg d.name = some (.ref fa) →
      s₁.heap.get? a = some { cls := .type "list", data := .seq vs.toArray } → IntsAre vs ns → ns.length ≤ n → s₁.gens = #[] →
      codeAny (model l.prog w) callerA (.call (.ref fa) ⟨[.ref a], []⟩) (fun r s' => r = .ok (.ret (.bool true)) ∧ OldK s₁.heap s'.heap ∧ s'.os = s₁.os ∧ AllBare s'.gens) s₁) :
    WalkO q loose XP YP l.row.toRowW d [] (fun f vs => PySem.call f vs) := by
  intro w s₀ s₁ mg mb G Y fa o pm cd doc dV kV ho hd hcd hD hmg hg args vals as hpre hlay hrd hwl hlo
  obtain rfl : dV = .none := Dflts.none hD hdf
  obtain rfl : kV = .none := Dflts.noKw hD
  obtain ⟨a, vs, ns, rfl, rfl, hobj, hints, hlen⟩ := script_of hn hpre hwl
  refine enter_call (codeAny_mono (call w s₀ s₁ mg mb fa o pm cd doc a vs ns G Y ho (fd_plain hd) hcd hmg hobj hints hlen hg) fun r s' hq => ?_)
  obtain ⟨rfl, h2, h3, h4⟩ := hq
  exact ⟨.inl ⟨.bool true, .bool true, [], rfl, fun _ => rfl, .bool true, post_true l _, fun _ => ⟨List.Pairwise.nil, fun _ hm => (nomatch hm)⟩⟩, h2, h3, h4⟩

/-- the same where the top left finished generators (o_head chose holds_openN): nothing may have changed at all and no generator may be left -/
theorem attachN {l : OpenLaw} {n : Nat} {q : Program} {loose : List Str} {XP : (Str → Option Value) → Heap → Prop} {YP : World → Heap → Prop} {d : DefRec} {x : Str}
    (hn : l.most = some n) (hdf : d.params.defaults = [])
    (hbind : ∀ pm cd doc v : Value, bindArgs (docDef d.name d.params d.body d.scope pm cd doc) ⟨[v], []⟩ = pure [(x, v)])
    (hx : d.scope.names.lookup x = some .local ∨ d.scope.names.lookup x = some .cell)
    (hk : d.scope.kind = .function) (hco : d.scope.isCoroutine = false) (hgen : d.scope.isGenerator = false)
    (body : ∀ (w : World) (s₀ s₁ s : Shared) (mg mb : Str → Option Value) (fa : Addr) (o : Obj) (pm cd doc : Value) (a : Addr) (vs : List Value) (ns : List Int),
      Ground q loose [] XP w s₀ mg mb s₁.heap → YP w s₁.heap →
      s₁.heap.get? fa = some o → o.data = .func (docDef d.name d.params d.body d.scope pm cd doc) → s₁.heap.CodeRec cd d.name → mg d.name = some (.ref fa) →
      s₁.heap.get? a = some { cls := .type "list", data := .seq vs.toArray } → IntsAre vs ns → ns.length ≤ n →
      s.gens = #[] → s.os = s₁.os →
      Fr s₁.heap s₁.heap.objs.size s.heap (bindL (envOfC d.name d.scope s₁.heap.objs.size fa cd).kindOf [(x, .ref a)] fun _ => none) →
      Cl s₁.heap.objs.size (cellsFrom (s₁.heap.objs.size + 1) d.scope.names []) s.heap (bindC (envOfC d.name d.scope s₁.heap.objs.size fa cd).kindOf [(x, .ref a)] fun _ => none) →
      wpAny (model l.prog w) (callerA.deeper (envOfC d.name d.scope s₁.heap.objs.size fa cd)) (execs d.body (envOfC d.name d.scope s₁.heap.objs.size fa cd))
        (fun f s' => f = .ret (.bool true) ∧ (∀ b o, s₁.heap.get? b = some o → s'.heap.get? b = some o) ∧ s'.os = s₁.os ∧ s'.gens = #[]) (fun _ _ => False) s) :
    WalkN q loose XP YP l.row.toRowW d [] (fun f vs => PySem.call f vs) := by
  intro w s₀ s₁ mg mb G Y fa o pm cd doc dV kV ho hd hcd hD hmg hg args vals as hpre hlay hrd hwl hlo
  obtain rfl : dV = .none := Dflts.none hD hdf
  obtain rfl : kV = .none := Dflts.noKw hD
  obtain ⟨a, vs, ns, rfl, rfl, hobj, hints, hlen⟩ := script_of hn hpre hwl
  refine enter_callW ?_
  refine call_cells_ret (o := o) (by rw [depth_caller]; decide) ho (fd_plain hd) G.T.nolimit hcd (hbind pm cd doc (.ref a)) (fun y hy => ?_) (fun h₁ tk F X => ?_) hco hgen hk
  · obtain rfl : y = (x, Value.ref a) := List.mem_singleton.mp hy
    rcases hx with e | e
    · exact .inl e
    · exact .inr ⟨e, cellsFrom_some _ _ _ (.inl e)⟩
  · refine wpAny_mono (body w s₀ s₁ { s₁ with heap := h₁, toks := tk } mg mb fa o pm cd doc a vs ns G Y ho (fd_plain hd) hcd hmg hobj hints hlen hg rfl F X) (fun f s' hq => ?_) (fun _ _ hq => hq)
    obtain ⟨rfl, h2, h3, h4⟩ := hq
    exact ⟨.inl ⟨.bool true, .bool true, [], rfl, fun _ => rfl, .bool true, post_true l _, fun _ => ⟨List.Pairwise.nil, fun _ hm => (nomatch hm)⟩⟩, h2, h3, h4⟩

/-! ### rules over ANY heap (no ledger) from facts about the written part K: the library's own take a ledger (News) for what they write -/
section
variable {prog : Program} {w : World} {A : Around} {E : Value → Shared → Prop} {s : Shared} {K : Frag}

/-- a def of the module, or a method (qual 'C.m'), entered: the frame is the next address; cells behind it -/
theorem call_fn {R : Result → Shared → Prop} {name qual : Str} {params : Arguments} {body : List Stmt} {scope : Scope} {dV kV doc pm cdv ct oc : Value} {an od : Option Addr} {osl : Array (Option Value)} {f : Addr} {args : Args} {binds : List (Str × Value)}
    (X : K.In s.heap) (hlim : s.heap.NoLimit) (ho : K.lookup f = some ⟨oc, od, .func (fnOf name qual params body scope dV kV doc pm an cdv ct), osl⟩) (hcd : codeIn K cdv qual = true) (hroom : A.depth < recursionLimit)
    (hbind : BindsTo s (fnOf name qual params body scope dV kV doc pm an cdv ct) args binds)
    (hkind : (binds.all fun y => scope.names.lookup y.1 == some .local || scope.names.lookup y.1 == some .cell) = true)
    (h : ∀ s₁, InCallC s s.heap.objs.size (bindL (envOfC qual scope s.heap.objs.size f cdv).kindOf binds fun _ => none) (cellsFrom (s.heap.objs.size + 1) scope.names [])
        (bindC (envOfC qual scope s.heap.objs.size f cdv).kindOf binds fun _ => none) s₁ →
      wpAny (model prog w) (A.deeper (envOfC qual scope s.heap.objs.size f cdv)) (execs body (envOfC qual scope s.heap.objs.size f cdv))
        (fun fl s' => R (.ok (.ret (match fl with | .ret v => v | _ => .none))) s')
        (fun e s' => wpAny (model prog w) (A.deeper (envOfC qual scope s.heap.objs.size f cdv)) (leaving (envOfC qual scope s.heap.objs.size f cdv) e) (fun _ s'' => R (.error e) s'') (fun e' s'' => R (.error e') s'') s') s₁)
    (hco : scope.isCoroutine = false) (hgen : scope.isGenerator = false) (hk : scope.kind = .function) : codeAny (model prog w) A (.call (.ref f) args) R s := by
  refine codeAny_call_function hroom (X _ _ ho) rfl hco hgen rfl (codeRec_of X hcd) (hbind _ _ _ _ ?_)
  refine wpAny_newFunctionEnv_cells hk (kindsX hkind _) fun env he s₁ x => ?_
  subst he
  exact ⟨hlim.keeps x.toInCall.keep, codeAny_func (h s₁ x)⟩

/-- C(..): dict at size, instance at size + 1, then __init__ -/
theorem make_obj {R : Result → Shared → Prop} {C fI : Addr} {rest : List Value} {kw : List (Str × Value)}
    (X : K.In s.heap) (hm : makesIn K C = true) (hi : findIn K (.ref C) "__init__" = some (some (.ref fI))) (hf : isFn K (.ref fI) = true)
    (h : codeAny (model prog w) (A.under (.builtin "type.__call__" ⟨.ref C :: rest, kw⟩)) (.call (.ref fI) ⟨.ref (s.heap.objs.size + 1) :: rest, kw⟩) (InitBack (s.heap.objs.size + 1) R)
      { s with heap := (s.heap.push emptyDict).push (instObj C s.heap.objs.size) }) : codeAny (model prog w) A (.call (.ref C) ⟨rest, kw⟩) R s := by
  obtain ⟨hh, g, d, t, os⟩ := s
  exact make_core (makes_of X hm) (looks_findIn X hi) (fun self => bind_fn X self (beq_iff_eq.mp hf)) (.inl rfl) h

/-- x.name where the instance's dict holds the name and the class does not -/
theorem get_field {x C : Addr} {ox : Obj} {es : List DictEntry} {n : Nat} {name : Str} {expr : Bool} {v : Value} {Q : Value → Shared → Prop}
    (X : K.In s.heap) (I : PySem.W.InstAt s.heap x ox C (some (dictOf es n))) (hg : plainGet K C name = true) (hh : hasDictIn K C = true) (ha : findIn K (.ref C) name = some none)
    (hl : getL name es = some (some v)) (hv : handedIn v = true) (h : Q v { s with toks := s.toks + 1 }) : wpAny (model prog w) A (getAttr (.ref x) name expr) Q E s :=
  get_value X I (plainGet_of hg).1 (findObj_own hh ha rfl hl) hv h

/-- x.m(..): the method found in the class -/
theorem get_method {x C f : Addr} {ox : Obj} {es : List DictEntry} {n : Nat} {name : Str} {pl : Sem Bool} {Q : Value × List Value → Shared → Prop}
    (X : K.In s.heap) (I : PySem.W.InstAt s.heap x ox C (some (dictOf es n))) (hg : plainGet K C name = true) (hf : findIn K (.ref C) name = some (some (.ref f))) (ht : isFn K (.ref f) = true)
    (hl : getL name es = some none) (h : Q (.ref f, [.ref x]) s) : wpAny (model prog w) A (getMethod (.ref x) name pl) Q E s :=
  method_fn X I (plainGet_of hg).1 (plainGet_of hg).2 hf (beq_iff_eq.mp ht) (by show (lookIn name (dictOf es n)).map _ = _; rw [lookIn_dict, hl]; rfl) h

/-! the whole heap as the ledger: makes every rule that writes through a ledger a rule over any heap -/
def noObjs (h : Heap) : Heap := { h with objs := #[] }
theorem noObjs_get (h : Heap) (b : Addr) : (noObjs h).get? b = none := by
  cases e : (noObjs h).get? b with
  | none => rfl
  | some o => exact absurd (Heap.lt_size e) (Nat.not_lt_zero _)
def ledger (h : Heap) (L d : Addr) : List (Addr × Obj) := (List.range h.objs.size).filterMap fun a => if a = L ∨ a = d then none else (h.get? a).map fun o => (a, o)
theorem mem_ledger {h : Heap} {L d a : Addr} {o : Obj} : (a, o) ∈ ledger h L d ↔ a ≠ L ∧ a ≠ d ∧ h.get? a = some o := by
  unfold ledger
  rw [List.mem_filterMap]
  constructor
  · rintro ⟨b, _, e⟩
    split at e
    · cases e
    · rename_i hb
      obtain ⟨o', ho, e'⟩ := Option.map_eq_some_iff.mp e
      cases e'
      exact ⟨fun q => hb (.inl q), fun q => hb (.inr q), ho⟩
  · rintro ⟨n1, n2, ho⟩
    refine ⟨a, List.mem_range.mpr (Heap.lt_size ho), ?_⟩
    rw [if_neg (show ¬ (a = L ∨ a = d) from fun q => q.elim n1 n2), ho] <;> rfl
theorem news_ledger {h : Heap} {L d : Addr} {od : Obj} (hne : d ≠ L) (ho : h.get? d = some od) : News (noObjs h) L h ([] ++ (d, od) :: ledger h L d) := by
  rintro ⟨a, o⟩ hp
  rcases List.mem_cons.mp hp with e | hp
  · cases e
    exact ⟨ho, hne, noObjs_get _ _⟩
  · obtain ⟨n1, n2, e⟩ := mem_ledger.mp hp
    exact ⟨e, n1, noObjs_get _ _⟩
theorem fr_all {h : Heap} {L : Addr} {m : Str → Option Value} (n : h.Ns L m) : Fr (noObjs h) L h m :=
  ⟨n, fun b o e => (by rw [noObjs_get] at e; cases e), Nat.zero_le _⟩
/-- Upd of the head entry (for append_K, setItem_K ..) -/
theorem upd_ledger {h : Heap} {L d : Addr} {o o' : Obj} : Upd d o o' ((d, o) :: ledger h L d) ((d, o') :: ledger h L d) :=
  .head fun ⟨_, _⟩ hp => (mem_ledger.mp hp).2.1

/-- x.name = v over any heap: L is any namespace of the heap (the frame's, say): its map stays, its object is not told; all else but the dict stays -/
theorem set_field {x C dx L : Addr} {ox : Obj} {m : Str → Option Value} {es es' : List DictEntry} {n n' : Nat} {name : Str} {v : Value} {Q : Unit → Shared → Prop}
    (X : K.In s.heap) (I : PySem.W.InstAt s.heap x ox C (some (dictOf es n))) (hd : ox.dict = some dx) (hL : s.heap.Ns L m) (hne : dx ≠ L)
    (hs : findIn K (.ref C) "__setattr__" = some (some (.builtin "object.__setattr__"))) (hp : plainOver K C = true) (ht : takerIn K C name = some none) (hh : hasDictIn K C = true) (hl : (getL name es).isSome = true)
    (e : (putL name (PyData.keyHash w.params name) (.str name (s.toks + 1)) v es, putN name es n) = (es', n')) (hz : es'.length ≤ 1000)
    (h : ∀ h' : Heap, h'.Ns L m → h'.get? dx = some (dictOf es' n') → (∀ b o, b ≠ dx → b ≠ L → s.heap.get? b = some o → h'.get? b = some o) → Q () { s with heap := h', toks := s.toks + 2 }) :
    wpAny (model prog w) A (setAttr (.ref x) name v) Q E s := by
  obtain ⟨e1, e2⟩ := Prod.mk.inj e
  have hdx : s.heap.get? dx = some (dictOf es n) := by
    have := I.dict
    rw [hd] at this
    exact this
  refine set_plain X I hs (osa_dict (s := { s with toks := s.toks + 1 }) (h₀ := noObjs s.heap) (L := L) (m := m) (od := dictOf es n) (od' := dictOf es' n') (es := es') (n := n') (pre := []) (post := ledger s.heap L dx)
    (fr_all hL) (news_ledger hne hdx) X I hd hp ht hh hl (fun _ q => nomatch q) (fun ⟨_, _⟩ q => (mem_ledger.mp q).2.1) (by rw [putName_dict, e1, e2]) rfl hz fun h' F' N' => ?_)
  exact h h' F'.ns (N'.get (List.Mem.head _)) fun b o n1 n2 ho => N'.get (List.Mem.tail _ (mem_ledger.mpr ⟨n2, n1, ho⟩))
end
end Att

namespace L2
open PySem PySem.Spec PyProof.Rows

theorem vals_ints : ∀ {vs : List Value} {ns : List Int}, IntsAre vs ns → Vals (ns.map V.int) vs
  | _, _, .nil => .nil
  | _, _, .cons n t h => .cons ⟨t, rfl⟩ (vals_ints h)

/-- nothing is tracked but the script, known to the object (or it is an object of the module) -/
def Only (H : Hp) : Prop := ∀ b, H b = none ∨ ∃ o xs, H b = some (.frz o (.lst xs))

/-- THE HEAD: the law's promise, at the heap behind the top. F, the promise of the law's def, may use that base is part of the heap (so K.In base, base.Ns mainGlobals mg stand in Mod) -/
theorem law_call {P : Program} {w : World} {K : PySem.W.Frag} {mg mb : Str → Option Value} {CX : CXT} {k : Nat} {fa a : Addr} {fd : FuncData} {x : Str} {sp : Sp} {s₁ : Shared} {vs : List Value} {ns : List Int}
    (KX : K.In s₁.heap) (hns : s₁.heap.Ns mainGlobals mg) (hb : s₁.heap.Ns builtinsNs mb) (hbb : ∀ x : Str, x ≠ "__name__" → mb x = bootBuiltins x) (hlim : s₁.heap.NoLimit) (hg : s₁.gens = #[])
    (ha : s₁.heap.get? a = some { cls := .type "list", data := .seq vs.toArray }) (hi : IntsAre vs ns) (hl : ns.length ≤ sizeLine) (hr : Room k callerA)
    (F : ∀ base : Heap, K.In base → base.Ns mainGlobals mg → FnOk P w K mg base CX k fa fd [x] sp) (hbind : ∀ (s : Shared) (u : Value), BindsTo s fd ⟨[u], []⟩ [(x, u)])
    (hsp : ∀ H : Hp, Only H → SqL K H a (ns.map V.int) → sp [.ref a] H (fun v _ => v = .bl true) fun _ _ _ => False)
    (hCX : ∀ H e s', CX [] H s₁ (fun _ _ _ => False) e s' → False) :
    codeAny (model P w) callerA (.call (.ref fa) ⟨[.ref a], []⟩) (fun r s' => r = .ok (.ret (.bool true)) ∧ OldK s₁.heap s'.heap ∧ s'.os = s₁.os ∧ AllBare s'.gens) s₁ := by
  have rv := vals_ints hi
  have lenV := hi.length
  -- from an abstract heap in which nothing but the script may be tracked
  have core : ∀ H : Hp, Only H → SqL K H a (ns.map V.int) → HOk P w H s₁.heap → (∀ b, H b ≠ none → b = a) → (H a ≠ none → K.lookup a = none) →
      codeAny (model P w) callerA (.call (.ref fa) ⟨[.ref a], []⟩) (fun r s' => r = .ok (.ret (.bool true)) ∧ OldK s₁.heap s'.heap ∧ s'.os = s₁.os ∧ AllBare s'.gens) s₁ := by
    intro H hO hS hok hA hK
    have base_of : ∀ {b : Addr} {o : Obj}, s₁.heap.get? b = some o → H b = none → (hidT s₁.heap H).get? b = some o := fun e n => hidT_get e n
    have noA : ∀ {b : Addr} {o : Obj} {es : Array DictEntry} {ep : Nat}, s₁.heap.get? b = some o → o.data = .dict es ep → H b = none := fun {b o es ep} e d => by
      cases q : H b with
      | none => rfl
      | some u =>
        have e' : b = a := hA b (by rw [q]; simp)
        subst e'
        rw [ha] at e; cases e
        have d' : Data.seq vs.toArray _ = Data.dict es ep := d
        cases d'
    have nsK : ∀ {b : Addr} {m : Str → Option Value}, s₁.heap.Ns b m → (hidT s₁.heap H).Ns b m := fun {b m} ⟨o, es, ep, e, d, r⟩ => ⟨o, es, ep, base_of e (noA e d), d, r⟩
    have hKb : K.In (hidT s₁.heap H) := fun b o e => base_of (KX b o e) (by
      cases q : H b with
      | none => rfl
      | some u =>
        have e' : b = a := hA b (by rw [q]; simp)
        subst e'
        rw [hK (by rw [q]; simp)] at e; cases e)
    have hM : Mod K mg (hidT s₁.heap H) := ⟨hKb, nsK hns, ⟨mb, nsK hb, hbb⟩, let ⟨mc, h1, h2⟩ := hlim; ⟨mc, nsK h1, h2⟩⟩
    have e0 : Env0 P w K mg (hidT s₁.heap H) callerA [] s₁ H := ⟨rfl, hM, fun b o e => of_hidT e, Nat.le_of_eq (hidT_size _ _), trivial, fun b hb => absurd (show b ∈ ([] : List Addr) from hb) (by simp), hok, .of_eq hg⟩
    refine codeAny_mono ((F _ hKb (nsK hns)).run callerA [] s₁ H ⟨[.ref a], []⟩ [.ref a] [.ref a] _ _ hr e0 (hbind s₁ (.ref a)) (.cons rfl .nil) (hsp H hO hS)) fun r s' h => ?_
    cases r with
    | error e => exact (hCX H e s' h).elim
    | ok fl =>
      cases fl with
      | next => exact False.elim h
      | brk => exact False.elim h
      | cont => exact False.elim h
      | ret u =>
        obtain ⟨v, H', os, bare, un, hok', r', q⟩ := h
        have q' : v = .bl true := q
        subst q'
        obtain rfl : u = Value.bool true := r'
        refine ⟨rfl, OldK.of_keep fun b o e => ?_, os, bare⟩
        cases q : H b with
        | none => exact un.keep b o e q (by intro z; exact absurd (show b ∈ ([] : List Addr) from z) (by simp)) (by simp)
        | some u =>
          rcases hO b with z | ⟨ob, xs, z⟩
          · rw [q] at z; cases z
          · have z2 := un.frzs b ob _ z
            obtain ⟨e1, _⟩ := hok b _ z
            obtain ⟨e2, _⟩ := hok' b _ z2
            rw [e] at e1; cases e1
            exact e2
  cases hk : K.lookup a with
  | some o =>
    -- the script is one of the module's own objects
    have e := KX a o hk
    rw [ha] at e
    cases e
    refine core (fun _ => none) (fun _ => .inl rfl) (.inr ⟨_, vs.toArray, _, hk, rfl, rfl, rfl, by rw [List.size_toArray, lenV]; exact hl, by simpa using rv⟩) (fun b u z => by have z' : (none : Option HO) = some u := z; cases z') (fun b z => absurd rfl z) fun z => absurd rfl z
  | none =>
    refine core (fun b => if b = a then some (.frz { cls := .type "list", data := .seq vs.toArray } (.lst (ns.map V.int))) else none) (fun b => ?_) (.inl (.inr ⟨{ cls := .type "list", data := .seq vs.toArray }, if_pos rfl⟩)) (fun b u z => ?_) (fun b z => ?_) fun _ => hk
    · by_cases hb : b = a
      · exact .inr ⟨_, _, if_pos hb⟩
      · exact .inl (if_neg hb)
    · by_cases hb : b = a
      · have z' := (if_pos hb).symm.trans z
        cases z'
        subst hb
        exact ⟨ha, by rw [List.length_map]; exact hl, vs, _, rv, ha⟩
      · have z' := (if_neg hb).symm.trans z
        cases z'
    · by_cases hb : b = a
      · exact hb
      · exact absurd (if_neg hb) z
end L2

namespace L2
open PySem PySem.Spec PyProof.Rows

abbrev KOf {K : PySem.W.Frag} {h : Heap} (_ : K.In h) : PySem.W.Frag := K

/-- the goal that k_head leaves (case hc), from the law's promise. F gives the function object fd (K's own) once, then the promise over every base -/
theorem walk_of {l : PySem.W.OpenLaw} {n k : Nat} {q : Program} {loose : List Str} {XP : (Str → Option Value) → Heap → Prop} {YP : World → Heap → Prop} {d : DefRec} {K : Params → PySem.W.Frag} {CX : World → CXT} {sp : World → Sp} {x : Str}
    (hn : l.most = some n) (hn2 : n ≤ sizeLine) (hdf : d.params.defaults = []) (hr : Room k callerA)
    (hY : ∀ (w : World) (h : Heap), YP w h → (K w.params).In h)
    (F : ∀ (w : World) (mg : Str → Option Value) (fa : Addr) (h : Heap), (K w.params).In h → h.Ns mainGlobals mg → mg d.name = some (.ref fa) →
      ∃ fd : FuncData, (∀ (s : Shared) (u : Value), BindsTo s fd ⟨[u], []⟩ [(x, u)]) ∧
        ∀ base : Heap, (K w.params).In base → base.Ns mainGlobals mg → FnOk l.prog w (K w.params) mg base (CX w) k fa fd [x] (sp w))
    (hsp : ∀ (w : World) (H : Hp) (a : Addr) (ns : List Int), ns.length ≤ n → Only H → SqL (K w.params) H a (ns.map V.int) → sp w [.ref a] H (fun v _ => v = .bl true) fun _ _ _ => False)
    (hCX : ∀ (w : World) (H : Hp) (s : Shared) (e : Value) (s' : Shared), CX w [] H s (fun _ _ _ => False) e s' → False) :
    PySem.W.WalkO q loose XP YP l.row.toRowW d [] (fun f vs => PySem.call f vs) := by
  refine Att.attach_call hn hdf fun w s₀ s₁ mg mb fa o pm cd doc a vs ns G Y ho hd hcd hmg hobj hints hlen hg => ?_
  have KX := hY w _ Y
  obtain ⟨fd, hb, hF⟩ := F w mg fa _ KX G.T.g hmg
  exact law_call KX G.T.g G.T.b G.T.builtins G.T.nolimit hg hobj hints (Nat.le_trans hlen hn2) hr hF hb (fun H hO hS => hsp w H a ns hlen hO hS) fun H e s' => hCX w H s₁ e s'
/-- the same where the promise hangs on the written part alone: (sp := My.sp_law), no hole under a binder -/
theorem walk_ofK {l : PySem.W.OpenLaw} {n k : Nat} {q : Program} {loose : List Str} {XP : (Str → Option Value) → Heap → Prop} {YP : World → Heap → Prop} {d : DefRec} {K : Params → PySem.W.Frag} {CX : CXT} {sp : PySem.W.Frag → Sp} {x : Str}
    (hn : l.most = some n) (hn2 : n ≤ sizeLine) (hdf : d.params.defaults = []) (hr : Room k callerA)
    (hY : ∀ (w : World) (h : Heap), YP w h → (K w.params).In h)
    (F : ∀ (w : World) (mg : Str → Option Value) (fa : Addr) (h : Heap), (K w.params).In h → h.Ns mainGlobals mg → mg d.name = some (.ref fa) →
      ∃ fd : FuncData, (∀ (s : Shared) (u : Value), BindsTo s fd ⟨[u], []⟩ [(x, u)]) ∧
        ∀ base : Heap, (K w.params).In base → base.Ns mainGlobals mg → FnOk l.prog w (K w.params) mg base CX k fa fd [x] (sp (K w.params)))
    (hsp : ∀ (K : PySem.W.Frag) (H : Hp) (a : Addr) (ns : List Int), ns.length ≤ n → Only H → SqL K H a (ns.map V.int) → sp K [.ref a] H (fun v _ => v = .bl true) fun _ _ _ => False)
    (hCX : ∀ (H : Hp) (s : Shared) (e : Value) (s' : Shared), CX [] H s (fun _ _ _ => False) e s' → False) :
    PySem.W.WalkO q loose XP YP l.row.toRowW d [] (fun f vs => PySem.call f vs) :=
  walk_of (K := K) (CX := fun _ => CX) (sp := fun w => sp (K w.params)) hn hn2 hdf hr hY F (fun w H a ns h1 h2 h3 => hsp (K w.params) H a ns h1 h2 h3) fun _ H s e s' => hCX H s e s'
end L2

/- THE LAST THEOREM (shape; LID, My.* are yours):
   My.Adr: a structure of the addresses that your layer names (classes, functions); My.Txt K t: a structure (Prop) of the equations over K;
   My.txt_mk : {K} {implicit addresses ..} (e1 : nsIn K mainGlobals "law" = some (some (.ref f))) (e2 : K.lookup f = some ⟨oc, od, .func (fnOf "law" "law" params body scope dV kV doc pm an cdv ct), sl⟩) (e3 : codeIn K cdv "law" = true) .. : ∃ t, My.Txt K t

set_option maxRecDepth 100000 in
set_option maxHeartbeats 0 in
theorem PySem.Challenge.cw_LID_holds : PySem.Challenge.rw_LID.Holds := by
  w_on; o_law; k_head; (case hw => w_witness2)
  k_fill
  refine L2.walk_of (l := PySem.Challenge.rw_LID) (n := 63) (k := 40) (x := "script") (CX := fun w => ..) (sp := fun _ => My.sp_law) rfl (by decide) rfl ⟨rfl, by decide, by decide⟩ (fun w h Y => PySem.W.kIn_of Y) ?F ?S ?C
  case F =>
    intro w mg fa h KX G hmg
    have T : ∃ t, My.Txt (L2.KOf KX) t := by
      dsimp only [L2.KOf]                          -- K must stand as «<heap const> w.params» for k_is
      refine' My.txt_mk ?e1 ?e2 ?e3 ..
      (case e1 => PySem.W.k_is)                    -- in the order: a name -> its address -> its object -> its parts
      (case e2 => PySem.W.k_is)
      ..
    obtain ⟨t, T⟩ := T
    have e0 := hmg.symm.trans (PySem.W.mg_of KX G T.law)
    cases e0                                       -- fa is the law's own address
    exact ⟨_, fun s u => .of_eq rfl, fun base kb nb => My.law_fn T kb nb⟩     -- if «.of_eq rfl» comes too early: refine' ⟨_, ?b, fun base kb nb => My.law_fn T kb nb⟩; exact fun s u => .of_eq rfl
  case S => exact fun w H a ns hl hO hS => ..
  case C => exact ..
(the tactic k_is has no namespace: write k_is) -/

/-! SHORT WORDS over the layer: a def of the text, its body, what a loop and a test want. -/
namespace L2
open PySem PySem.Spec PyProof.Rows

/-! ### the text by places -/
/-- the j-th statement of a class's body -/
def inClass (s : Stmt) (j : Nat) : Stmt := match s with
  | .ClassDef _ _ _ body _ _ _ _ _ _ _ => body.getD j (.Pass ⟨0, 0, 0, 0⟩)
  | _ => .Pass ⟨0, 0, 0, 0⟩
def defArgs (s : Stmt) : Arguments := match s with
  | .FunctionDef _ a _ _ _ _ _ _ _ _ => a
  | _ => { posonlyargs := [], args := [], vararg := none, kwonlyargs := [], kw_defaults := [], kwarg := none, defaults := [] }
def defBody (s : Stmt) : List Stmt := match s with
  | .FunctionDef _ _ b _ _ _ _ _ _ _ => b
  | _ => []
def defScope (s : Stmt) : Scope := match s with
  | .FunctionDef _ _ _ _ _ _ sc _ _ _ => sc
  | _ => { kind := .function, names := [], isGenerator := false, isCoroutine := false }

/-! ### no exception leaves a def -/
abbrev CX0 : CXT := fun _ _ _ _ _ _ => False
abbrev E0 : XK := fun _ _ _ => False
theorem pass0 {X : Cx} : Passes CX0 X E0 := fun _ _ _ _ _ _ _ h => h.elim

/-! ### a def (or method) of the text as it stands behind the top -/
structure Fun (K : PySem.W.Frag) (x qual : Str) (st : Stmt) (f : Addr) (fd : FuncData) : Prop where
  ex : ∃ (oc : Value) (od : Option Addr) (kV doc pm : Value) (an : Option Addr) (cdv ct : Value) (osl : Array (Option Value)),
    fd = PySem.W.fnOf x qual (defArgs st) (defBody st) (defScope st) .none kV doc pm an cdv ct ∧ K.lookup f = some ⟨oc, od, .func fd, osl⟩ ∧ PySem.W.codeIn K cdv qual = true
  kp : PySem.W.keepIn K (.ref f) = true
section
variable {P : Program} {w : World} {K : PySem.W.Frag} {mg : Str → Option Value} {base : Heap}
/-- THE RULE for a def: its body as a term of rules, and the reading of that term -/
theorem Fun.ok {x qual : Str} {st : Stmt} {f : Addr} {fd : FuncData} {N ps : List Str} {k : Nat} {sp : Sp} (F : Fun K x qual st f fd) (S : FnScope N ps (defScope st)) (len : ∀ vs H Q E, sp vs H Q E → vs.length = ps.length)
    (hbody : ∀ (cdv : Value) (A : Around) (outer : List Env) (s : Shared) (H : Hp) (vs : List V) (Q : VK) (E : XK), Room k (A.deeper (envOfC qual (defScope st) s.heap.objs.size f cdv)) → sp vs H Q E →
      ∃ t, PSs (cxOf CX0 P w K mg base N qual (defScope st) f cdv A outer s H E).nox (defBody st) t ∧ t { nx := fun _ H' => Q .non H', rt := Q } (start N vs) H) : FnOk P w K mg base CX0 (k + 1) f fd ps sp := by
  obtain ⟨oc, od, kV, doc, pm, an, cdv, ct, osl, rfl, lk, hcd⟩ := F.ex
  refine fn_of lk hcd S len fun A outer s H vs Q E hr hsp => ?_
  obtain ⟨t, h, q⟩ := hbody cdv A outer s H vs Q E hr hsp
  exact ⟨t, h.nox, q⟩
/-- how its arguments bind (no defaults): h is «fun _ _ _ _ _ _ us hl => match us, hl with | [_, _], _ => rfl», one _ a parameter -/
theorem Fun.binds {x qual : Str} {st : Stmt} {f : Addr} {fd : FuncData} {ps : List Str} (F : Fun K x qual st f fd)
    (h : ∀ (kV doc pm : Value) (an : Option Addr) (cdv ct : Value) (us : List Value), us.length = ps.length → bindArgs (PySem.W.fnOf x qual (defArgs st) (defBody st) (defScope st) .none kV doc pm an cdv ct) ⟨us, []⟩ = pure (ps.zip us)) : Binds K fd ps [] := by
  obtain ⟨oc, od, kV, doc, pm, an, cdv, ct, osl, rfl, lk, hcd⟩ := F.ex
  exact .all (h kV doc pm an cdv ct)
theorem fun_mk {x qual : Str} {st : Stmt} {f : Addr} {oc : Value} {od an : Option Addr} {osl : Array (Option Value)} {kV doc pm cdv ct : Value} (l : K.lookup f = some ⟨oc, od, .func (PySem.W.fnOf x qual (defArgs st) (defBody st) (defScope st) .none kV doc pm an cdv ct), osl⟩)
    (c : PySem.W.codeIn K cdv qual = true) (k : PySem.W.keepIn K (.ref f) = true) : Fun K x qual st f (PySem.W.fnOf x qual (defArgs st) (defBody st) (defScope st) .none kV doc pm an cdv ct) := ⟨⟨oc, od, kV, doc, pm, an, cdv, ct, osl, rfl, l, c⟩, k⟩
end
theorem hu_of {A : Around} {k : Nat} (hr : Room k A) : A.units + 1 < cLine := Nat.lt_of_le_of_lt (Nat.add_le_add_left (by decide : 1 ≤ 64) _) hr.units
theorem small1000 {n : Nat} (h : n ≤ 1000) : n < sizeLine := Nat.lt_of_le_of_lt h (by decide)

/-! ### expressions in short: the name that stands in the i-th slot -/
section
variable {X : Cx}
theorem pv (i : Nat) {x : Str} {pos : Pos} (hN : X.N[i]? = some x := by rfl) (hv : Vis X.env.scope x := by first | exact Or.inl rfl | exact Or.inr (Or.inl rfl) | exact Or.inr (Or.inr rfl)) (hd : (x == ("__debug__" : Str)) = false := by decide)
    (hcd : (x == ("__classdict__" : Str)) = false := by decide) : PE X (.Name x pos) (tVar i) := pe_var hN hv hd hcd
end

/-! ### tests -/
theorem iteF {A B : Prop} (h : B) : if false = true then A else B := by
  rw [if_neg Bool.false_ne_true]
  exact h
theorem iteT {A B : Prop} (h : A) : if true = true then A else B := by
  rw [if_pos rfl]
  exact h
theorem ite2 {c A B : Prop} [Decidable c] (h1 : c → A) (h2 : ¬ c → B) : if c then A else B := by
  by_cases h : c
  · rw [if_pos h]
    exact h1 h
  · rw [if_neg h]
    exact h2 h
theorem iteNS {c A B : Prop} [Decidable c] (hc : c) (h : B) : if (!decide c) = true then A else B := by
  rw [decide_eq_true hc]
  exact iteF h

/-! ### heaps -/
/-- all that was tracked is as it was -/
def Same (H H' : Hp) : Prop := ∀ b o, H b = some o → H' b = some o
theorem Same.refl (H : Hp) : Same H H := fun _ _ h => h
theorem Same.trans {H H1 H2 : Hp} (a : Same H H1) (b : Same H1 H2) : Same H H2 := fun c o h => b c o (a c o h)
theorem Same.free {H H' : Hp} (e : Same H H') {l : Addr} (h : H' l = Option.none) : H l = Option.none := by
  cases q : H l with
  | none => rfl
  | some o =>
    rw [e l o q] at h
    cases h
theorem Same.seq {K : PySem.W.Frag} {H H' : Hp} {a : Addr} {xs : List V} (e : Same H H') (h : SqL K H a xs) : SqL K H' a xs := by
  rcases h with (h | ⟨o, h⟩) | h
  · exact .inl (.inl (e _ _ h))
  · exact .inl (.inr ⟨o, e _ _ h⟩)
  · exact .inr h

end L2
set_option maxHeartbeats 4000000
namespace L2
open PySem PySem.Spec PyProof.Rows

/-! ### comprehensions -/
/-- the block of a comprehension: its own frame at C, the iterator's objects at fp -/
def blk (X : Cx) (scope : Scope) (N : List Str) (cl : List (Str × Addr)) (C : Addr) (s : Shared) (H : Hp) (fp : List Addr) : Cx where
  prog := X.prog
  w := X.w
  K := X.K
  mg := X.mg
  base := X.base
  A := X.A
  N := N
  s₀ := s
  H₀ := H
  env := compEnvC scope cl C X.env
  outer := X.stack
  stack := X.stack
  ex := fp
  fn := fun _ => false
  calm := X.calm
  pn := []
  xe := fun _ _ => False

/-- the captured names, and the slots in which they stand outside -/
inductive Cap (X : Cx) (scope : Scope) (cl : List (Str × Addr)) : List Str → List Nat → Prop where
  | nil : Cap X scope cl [] []
  | cons {y : Str} {j : Nat} {ys : List Str} {js : List Nat} (h1 : X.N[j]? = some y) (h2 : X.env.kindOf y = some .cell) (h3 : (relabel scope X.env).names.lookup y = some .cell) (h4 : cl.lookup y = X.env.cells.lookup y)
      (r : Cap X scope cl ys js) : Cap X scope cl (y :: ys) (j :: js)
def capS (js : List Nat) (σ : St) : St := js.map fun (j : Nat) => (σ[j]?).join
theorem Cap.len {X : Cx} {scope : Scope} {cl : List (Str × Addr)} : ∀ {ys : List Str} {js : List Nat}, Cap X scope cl ys js → ys.length = js.length
  | _, _, .nil => rfl
  | _, _, .cons _ _ _ _ r => by rw [List.length_cons, List.length_cons, r.len]
theorem Cap.get {X : Cx} {scope : Scope} {cl : List (Str × Addr)} {σ : St} : ∀ {ys : List Str} {js : List Nat} {i : Nat} {y : Str} {v : V}, Cap X scope cl ys js → ys[i]? = some y → (capS js σ)[i]? = some (some v) →
    ∃ j : Nat, X.N[j]? = some y ∧ σ[j]? = some (some v) ∧ X.env.kindOf y = some .cell ∧ (relabel scope X.env).names.lookup y = some .cell ∧ cl.lookup y = X.env.cells.lookup y
  | _, _, 0, _, v, .cons (j := j) h1 h2 h3 h4 _, e1, e2 => by
    simp only [List.getElem?_cons_zero, Option.some.injEq] at e1
    subst e1
    have e3 : (σ[j]?).join = some v := by simpa [capS] using e2
    refine ⟨j, h1, ?_, h2, h3, h4⟩
    cases q : σ[j]? with
    | none => rw [q] at e3; cases e3
    | some z => rw [q] at e3; exact congrArg some e3
  | _, _, i + 1, _, _, .cons _ _ _ _ r, e1, e2 => Cap.get (i := i) r (by simpa using e1) (by simpa [capS] using e2)

/-- the tests of a comprehension -/
def PIfs (X : Cx) (ifs : List Expr) (t : TT) : Prop :=
  ∀ (pins : List (Addr × Obj)) (s : Shared) (σ : St) (H : Hp) (Q : Bool → Hp → Prop), Inv X pins σ H s → t σ H Q →
    wpAny (model X.prog X.w) X.A (forIn ifs true fun c r => if r = true then do let ok ← isTrue c X.env (eval c X.env); pure (ForInStep.yield ok) else pure (ForInStep.yield r)) (TP X pins σ Q) X.xe s
def tYes : TT := fun _ H Q => Q true H
theorem pif_nil {X : Cx} : PIfs X [] tYes := fun _ _ _ H _ I h => wpAny_tests_nil ⟨H, I, h⟩
theorem pif_one {X : Cx} {c : Expr} {t : TT} (h : PT X c t) : PIfs X [c] t := fun pins s σ H Q I q => wpAny_tests_one (h pins s σ H Q I q)

/-- how a comprehension goes: W by the turn, a measure, what is gathered, the heap -/
def CompW (J : It) (σb : V → St) (tc : TT) (te : TE) (D : Addr) (Q : VK) (H : Hp) : Prop :=
  ∃ W : Nat → Nat → List V → Hp → Prop, (∃ m, W 0 m [] (upd H D (.lst []))) ∧ ∀ i m ys H, W i m ys H → H D = some (.lst ys) ∧
    ((J.stop i H ∧ Q (.ref D) H) ∨ (J.go i H ∧ ∀ x H', J.yld i H x H' → tc (σb x) H' fun b H2 =>
      if b = true then te (σb x) H2 fun y H3 => H3 D = some (.lst ys) ∧ ys.length < sizeLine ∧ ∃ m', m' < m ∧ W (i + 1) m' (ys ++ [y]) (upd H3 D (.lst (ys ++ [y])))
      else ∃ m', m' < m ∧ W (i + 1) m' ys H2))
def tComp (wi : TI) (js : List Nat) (tc : TT) (te : TE) : TE := fun σ H Q => wi σ H fun J H1 => ∀ D, H1 D = none → CompW J (fun x => some x :: capS js σ) tc te D Q H1

section
variable {X : Cx} {pins : List (Addr × Obj)} {σ : St} {H : Hp} {s : Shared}
/-- an object that nothing tracks has changed -/
theorem HOk.but {P : Program} {w : World} {h h' : Heap} {C : Addr} (ok : HOk P w H h) (hC : H C = none) (hs : Heap.SameBut C h h') : HOk P w H h' := fun b u e => by
  refine (ok b u e).stay (fun c v hc q => (hs.2 c ?_).trans q) (fun _ q => q) fun _ _ q => q
  rintro rfl
  rcases hc with z | z
  · rw [← z, hC] at e; cases e
  · rw [hC] at z; cases z

theorem blk_ok {scope : Scope} {x : Str} {ys : List Str} {js : List Nat} {cl : List (Str × Addr)} {fp : List Addr} {h1 : Heap} {tk : Nat} (I : Inv X pins σ H s) (hk : scope.kind = .function) (cap : Cap X scope cl ys js)
    (hcl : ∀ y c, cl.lookup y = some c → X.env.cells.lookup y = some c) (hhas : ∀ y, ((relabel scope X.env).names.lookup y = some .cell ∨ (relabel scope X.env).names.lookup y = some .free) → ∃ c, cl.lookup y = some c)
    (hf : ∀ b ∈ fp, FpOk X pins H b) (hlt : ∀ b ∈ fp, b < s.heap.objs.size)
    (hns : ∃ m, h1.Ns s.heap.objs.size m) (keep : ∀ b o, s.heap.get? b = some o → h1.get? b = some o) :
    Inv (blk X scope (x :: ys) cl s.heap.objs.size s H fp) [] (none :: capS js σ) H { s with heap := h1, toks := tk } := by
  have fresh : H s.heap.objs.size = none := I.hok.fresh (Nat.le_refl _)
  refine ⟨⟨I.ok.mod, hk, I.ok.glob, I.ok.blt, Nat.le_refl _, fun y z c e1 e2 => I.ok.inj y z c (hcl y c e1) (hcl z c e2), fun y hy => hhas y hy, fun y c e => absurd e Bool.false_ne_true, I.ok.hd, I.ok.frames, .inl rfl,
      fun b hb => ⟨Nat.ne_of_lt (hlt b hb), fun y c e => (hf b hb).2.2.2.2.1 y c (hcl y c e)⟩, I.bs, Nat.le_trans I.ok.bsz I.sz, fun b o e hb => ?_, fun b hb z => ?_, I.stack, I.stkFree⟩,
    rfl, I.bare, Un.kept keep, ?_, fun y c e => ?_, fresh, fun y c e => I.freeC y c (hcl y c e), fun p hp => absurd (show p ∈ ([] : List (Addr × Obj)) from hp) (by simp), I.hok.kept keep, ?_⟩
  · rcases (hf b hb).2.2.2.1 with z | z
    · exact I.ok.noex b o e z
    · exact absurd (Nat.lt_of_lt_of_le (Heap.lt_size e) (Nat.le_trans I.ok.bsz z)) (Nat.lt_irrefl _)
  · rcases List.mem_cons.mp (I.stkSub b z) with q | q
    · exact (hf b hb).2.1 q
    · exact (hf b hb).2.2.1 q
  · obtain ⟨m, hm⟩ := hns
    refine ⟨m, hm, fun i y v e1 e2 _ => ?_⟩
    cases i with
    | zero =>
      have e2' : (none : Option V) = some v := by simpa using e2
      cases e2'
    | succ i =>
      obtain ⟨j, n1, n2, n3, n4, n5⟩ := cap.get (i := i) (by simpa [blk] using e1) (by simpa using e2)
      obtain ⟨m0, hn0, hl0⟩ := I.loc
      obtain ⟨u, r, l⟩ := hl0 j y v n1 n2 (.inr (.inl n3))
      refine ⟨u, r, ?_⟩
      rcases l with ⟨l1, _⟩ | ⟨_, c, l2, o, ho, hd⟩
      · rw [n3] at l1; cases l1
      · exact .inr ⟨.inl n4, c, n5.trans l2, o, keep c o ho, hd⟩
  · obtain ⟨v, o, ho, hd⟩ := I.cell y c (hcl y c e)
    exact ⟨v, o, keep c o ho, hd⟩
  · show (none :: capS js σ).length = (x :: ys).length
    rw [List.length_cons, List.length_cons, cap.len, capS, List.length_map]
end

section
variable {X : Cx} {x : Str} {px pos : Pos} {elt iter : Expr} {ifs : List Expr} {scope : Scope} {ys : List Str} {js : List Nat} {tc : TT} {te : TE} {wi : TI}

/-- what the block wants to know of its scope -/
structure CScope (X : Cx) (scope : Scope) (x : Str) (ys : List Str) (js : List Nat) (cl : List (Str × Addr)) : Prop where
  kind : scope.kind = .function
  nocell : ∀ y ∈ scope.names, y.2 ≠ .cell
  locals : ∀ y ∈ scope.names, y.2 = .local → scope.names.lookup y.1 = some .local
  own : scope.names.lookup x = some .local
  clos : closureFor scope X.env = pure cl
  cap : Cap X scope cl ys js
  cells : ∀ y c, cl.lookup y = some c → X.env.cells.lookup y = some c
  has : ∀ y, ((relabel scope X.env).names.lookup y = some .cell ∨ (relabel scope X.env).names.lookup y = some .free) → ∃ c, cl.lookup y = some c
  nd : (x :: ys).Nodup

theorem comp_core {cl : List (Str × Addr)} (S : CScope X scope x ys js cl) (hc : X.calm = true)
    (ht : ∀ C s H fp, PIfs (blk X scope (x :: ys) cl C s H fp) ifs tc) (he : ∀ C s H fp, PE (blk X scope (x :: ys) cl C s H fp) elt te)
    {pins : List (Addr × Obj)} {σ : St} {s2 : Shared} {E : Value → Shared → Prop} {RR : Value → Addr → Result → Shared → Prop} {it : Addr} {fp : List Addr} {tn : Nat → Heap → Prop} {J : It} {H2 : Hp} {Q : VK}
    (I2 : Inv X pins σ H2 s2) (T : Turn X.prog X.w X.K (.Name x px) J fp it tn) (st2 : tn 0 s2.heap) (f2 : ∀ b ∈ fp, FpOk X pins H2 b)
    (q : ∀ D, H2 D = none → CompW J (fun v => some v :: capS js σ) tc te D Q H2)
    (hRR : ∀ D C Hf s', Inv X pins σ Hf s' → (∃ m, s'.heap.Ns C m) → FpOk X pins Hf C → Q (.ref D) Hf → RR (.ref D) C (.ok .next) s') :
    wpAny (model X.prog X.w) X.A (newList []) (fun acc s₃ => wpAny (model X.prog X.w) X.A (newFunctionEnv scope X.env.globals cl [] X.env.qual none .none (some X.env)) (fun cenv s₄ =>
      codeAny (model X.prog X.w) X.A (.compStart (.ListComp elt [⟨.Name x px, iter, ifs, 0⟩] scope pos) 0 (.ref it) acc { cenv with scope := relabel scope X.env }) (RR acc cenv.locals) s₄) E s₃) E s2 := by
  have fr2 : H2 s2.heap.objs.size = none := I2.hok.fresh (Nat.le_refl _)
  have flt : ∀ b ∈ fp, b < s2.heap.objs.size := fun b hb => let ⟨o, e, _⟩ := T.obj 0 _ st2 b hb; Heap.lt_size e
  refine wpAny_newObj_type (wpAny_newFunctionEnv S.nocell (by intro y hy; simp at hy) (fun h₁ hns₁ hsb₁ => ?_) S.kind) (by show 0 ≤ sizeLine; exact Nat.zero_le _)
  dsimp only at hns₁ hsb₁ ⊢
  have I3 : Inv X pins σ (upd H2 s2.heap.objs.size (.lst [])) { s2 with heap := s2.heap.push { cls := .type "list", dict := none, data := .seq ([] : List Value).toArray } } :=
    Inv.lnew (t' := s2.toks) I2 (its := []) .nil (Nat.zero_le _)
  obtain ⟨W, ⟨m0, w0⟩, turn⟩ := q _ fr2
  generalize hD : s2.heap.objs.size = D at *
  generalize hH3 : upd H2 D (.lst []) = H3 at *
  have hsz3 : (s2.heap.push { cls := .type "list", dict := none, data := .seq ([] : List Value).toArray }).objs.size = D + 1 := by rw [Heap.size_push, hD]
  have up3 : ∀ b o, s2.heap.get? b = some o → (s2.heap.push { cls := .type "list", dict := none, data := .seq ([] : List Value).toArray }).get? b = some o := fun b o e => Heap.get?_push_of_some _ e
  generalize hs3 : s2.heap.push { cls := .type "list", dict := none, data := .seq ([] : List Value).toArray } = h3 at *
  have fnD : ∀ b ∈ fp, b ≠ D := fun b hb => Nat.ne_of_lt (flt b hb)
  have f3 : ∀ b ∈ fp, FpOk X pins H3 b := fun b hb => ⟨by rw [← hH3, upd_ne (fnD b hb)]; exact (f2 b hb).1, (f2 b hb).2⟩
  have flt3 : ∀ b ∈ fp, b < h3.objs.size := fun b hb => by rw [hsz3]; exact Nat.lt_succ_of_lt (flt b hb)
  have keep : ∀ b o, h3.get? b = some o → h₁.get? b = some o := fun b o e => hsb₁.extBut b o (Nat.ne_of_lt (Heap.lt_size e)) (Heap.get?_push_of_some _ e)
  have I4 := blk_ok (x := x) (s := { s2 with heap := h3 }) (tk := s2.toks + ([] : List (Str × Value)).length) I3 S.kind S.cap S.cells S.has f3 flt3 ⟨_, hns₁⟩ keep
  generalize hC : h3.objs.size = C at *
  have st4 : tn 0 h₁ := T.keep 0 _ _ st2 fun b _ o e => keep b o (up3 b o e)
  -- a state of the block is a state of the def
  have back : ∀ {σ' : St} {Hf : Hp} {s' : Shared}, Inv (blk X scope (x :: ys) cl C { s2 with heap := h3 } H3 fp) [] σ' Hf s' → Inv X pins σ Hf s' := fun {σ' Hf s'} J' =>
    I3.call' J'.os J'.base J'.hok J'.bare fun b hb => ⟨(f3 b hb).2.2.2.1, (f3 b hb).2.1, (f3 b hb).2.2.2.2.1, (f3 b hb).2.2.2.2.2⟩
  have fC : ∀ {Hf : Hp}, Hf C = none → FpOk X pins Hf C := fun hn => I3.fpOk (by rw [← hC]; exact Nat.le_refl _) hn
  have loop : codeAny (model X.prog X.w) X.A (.compLoop (.ListComp elt [⟨.Name x px, iter, ifs, 0⟩] scope pos) 0 (.ref it) (.ref D) (compEnvC scope cl C X.env)) (RR (.ref D) C)
      { s2 with heap := h₁, toks := s2.toks + ([] : List (Str × Value)).length } := by
    refine codeAny_loop rfl (fun n s' => ∃ i zs H', Inv (blk X scope (x :: ys) cl C { s2 with heap := h3 } H3 fp) [] (none :: capS js σ) H' s' ∧ tn i s'.heap ∧ (∀ b ∈ fp, H' b = none) ∧ W i n zs H')
      ?_ m0 ⟨0, [], H3, I4, st4, fun b hb => (f3 b hb).1, w0⟩
    rintro n s5 ⟨i, zs, H5, I5, st5, fr5, w5⟩
    show wpAny (model X.prog X.w) X.A ((compTurn (.ListComp elt [⟨.Name x px, iter, ifs, 0⟩] scope pos) 0 (.ref it) (.ref D) (compEnvC scope cl C X.env)).onRaise (fun e => do noteFrame e (compEnvC scope cl C X.env); theTreesLotGoes e)) _ _ s5
    refine wpAny_noted ?_
    rw [compTurn_list]
    have stat : ∀ {H' : Hp}, (∀ b ∈ fp, H' b = none) → ∀ b ∈ fp, FpOk (blk X scope (x :: ys) cl C { s2 with heap := h3 } H3 fp) [] H' b := fun hn b hb =>
      ⟨hn b hb, I5.ok.exf b hb |>.1, I5.ok.exfs b hb, .inl hb, I5.ok.exf b hb |>.2, fun p hp => absurd (show p ∈ ([] : List (Addr × Obj)) from hp) (by simp)⟩
    obtain ⟨hHD, way⟩ := turn i n zs H5 w5
    rcases way with ⟨stop, fin⟩ | ⟨go, step⟩
    · refine wpAny_bind (wpAny_standAt (wpAny_bind (thn (T.done (blk X scope (x :: ys) cl C { s2 with heap := h3 } H3 fp) rfl rfl rfl hc i [] s5 (none :: capS js σ) H5 _ I5 (stat fr5) st5 stop) fun r s6 ⟨hr, I6⟩ => ?_)))
      subst hr
      exact wpAny_pure (hRR D C H5 s6 (back I6) (let ⟨m, h, _⟩ := I6.loc; ⟨m, h⟩) (fC I6.free) fin)
    · refine wpAny_bind (wpAny_standAt (wpAny_bind (thn (T.item (blk X scope (x :: ys) cl C { s2 with heap := h3 } H3 fp) rfl rfl rfl hc i [] s5 (none :: capS js σ) H5 _ I5 (stat fr5) st5 go) fun r s6 ⟨u, hr, h6⟩ => ?_)))
      subst hr
      refine wpAny_bind (thn h6 fun _ s7 ⟨v, H7, I7, r7, y7, st7, fr7⟩ => ?_)
      have I7' := I7.pinned (stat fr7) (T.obj _ _ st7)
      refine wpAny_bind (wpAny_mono (pg_name (i := 0) (X := blk X scope (x :: ys) cl C { s2 with heap := h3 } H3 fp) S.nd rfl (.inl (lookup_relabel_local S.own)) (.inr (lookup_relabel_local S.own)) _ s7 (none :: capS js σ) H7 v u
        (fun σ' H' => σ' = some v :: capS js σ ∧ H' = H7) I7' r7 ⟨rfl, rfl⟩) (fun _ s8 ⟨σ8, H8, I8, e8, e8'⟩ => ?_) fun _ _ z => False.elim z)
      subst e8 e8'
      refine wpAny_bind (wpAny_mono (ht C { s2 with heap := h3 } H3 fp _ s8 _ _ _ I8 (step v _ y7)) (fun ok s9 ⟨H9, I9, q9⟩ => ?_) fun _ _ z => False.elim z)
      have again : ∀ {σ' : St} {H' : Hp} {s' : Shared} {zs' : List V}, Inv (blk X scope (x :: ys) cl C { s2 with heap := h3 } H3 fp) ([] ++ pinsAt fp s7.heap) (some v :: capS js σ) H' s' → (∃ m', m' < n ∧ W (i + 1) m' zs' H') →
          ∃ m, m < n ∧ ∃ i zs H', Inv (blk X scope (x :: ys) cl C { s2 with heap := h3 } H3 fp) [] (none :: capS js σ) H' s' ∧ tn i s'.heap ∧ (∀ b ∈ fp, H' b = none) ∧ W i m zs H' := fun {σ' H' s' zs'} J' ⟨m', hm, w'⟩ => by
        refine ⟨m', hm, i + 1, zs', H', J'.unpinned.weak (by simp) (fun k v' e => ?_), T.keep _ _ _ st7 fun b hb o e => (J'.pin (b, o) (List.mem_append_right _ (List.mem_append_right _ (mem_pinsAt hb e)))).1, fun b hb => ?_, w'⟩
        · cases k with
          | zero => simp at e
          | succ k => simpa using e
        · obtain ⟨o, e, d⟩ := T.obj _ _ st7 b hb
          exact (J'.pin (b, o) (List.mem_append_right _ (List.mem_append_right _ (mem_pinsAt hb e)))).2.1
      cases ok with
      | false =>
        simp only [Bool.false_eq_true, if_false] at q9 ⊢
        exact wpAny_pure ⟨rfl, again (σ' := []) I9 q9⟩
      | true =>
        simp only [if_true] at q9 ⊢
        refine wpAny_bind (wpAny_bind (wpAny_mono (he C { s2 with heap := h3 } H3 fp _ s9 _ _ _ I9 q9) (fun a s10 ⟨y, H10, I10, r10, hD10, hz10, q10⟩ => ?_) fun _ _ z => False.elim z))
        refine wpAny_bind (wpAny_mono (mt_append (X := blk X scope (x :: ys) cl C { s2 with heap := h3 } H3 fp) _ s10 _ H10 (.ref D) [y] (.ref D) [a] (fun _ H' => H' = upd H10 D (.lst (zs ++ [y]))) I10 rfl (.cons r10 .nil)
          ⟨D, zs, y, rfl, rfl, hD10, hz10, rfl⟩) (fun _ s11 ⟨_, H11, I11, _, e11⟩ => ?_) fun _ _ z => False.elim z)
        subst e11
        exact wpAny_pure (wpAny_pure ⟨rfl, again (σ' := []) I11 q10⟩)
  exact codeAny_compStart_list loop (T.self X.A 0 _ _ _ st4 loop)

/-- [elt for x in iter if ..] -/
theorem pe_comp {cl : List (Str × Addr)} (S : CScope X scope x ys js cl) (hc : X.calm = true) (hi : PI X (.Name x px) iter wi)
    (ht : ∀ C s H fp, PIfs (blk X scope (x :: ys) cl C s H fp) ifs tc) (he : ∀ C s H fp, PE (blk X scope (x :: ys) cl C s H fp) elt te)
    (hs : ∀ x, foldedSetIterable iter X.env x = pure x := by intro _; rfl) : PE X (.ListComp elt [⟨.Name x px, iter, ifs, 0⟩] scope pos) (tComp wi js tc te) := by
  intro pins s σ H Q I h
  rw [eval_ListComp]
  refine wpAny_comprehension_free (use := none) rfl hs S.clos S.kind S.locals (thn (hi pins s σ H _ I h) fun v s1 h1 => thn h1 fun itv s2 h2 => ?_)
  obtain ⟨it, fp, tn, J, H2, e, I2, T, st2, f2, q⟩ := h2
  subst e
  refine comp_core (RR := fun acc C => compPost (model X.prog X.w) X.A X.xe none (EP X pins σ Q) acc C) S hc ht he I2 T st2 f2 q fun D C Hf s' I' ns ⟨f0, f1, _, f3, f4, f5⟩ fin => ?_
  obtain ⟨m, ns⟩ := ns
  exact ⟨m, ns, fun h' hs' => ⟨.ref D, Hf, I'.turned (t' := s'.toks) (fun b o hb e => (hs'.2 b hb).trans e) f0 f1 f3 f4 f5, rfl, fin⟩⟩
/-- y = [elt for x in iter if ..], all in one row -/
theorem ps_comp {cl : List (Str × Addr)} {i : Nat} {y : Str} {py spos : Pos} (S : CScope X scope x ys js cl) (hc : X.calm = true) (hN : X.N.Nodup) (hi' : X.N[i]? = some y) (hy : X.env.scope.names.lookup y = some .local) (hi : PI X (.Name x px) iter wi)
    (ht : ∀ C s H fp, PIfs (blk X scope (x :: ys) cl C s H fp) ifs tc) (he : ∀ C s H fp, PE (blk X scope (x :: ys) cl C s H fp) elt te)
    (hsw : swapsWith (.ListComp elt [⟨.Name x px, iter, ifs, 0⟩] scope pos) (some (.Name y py)) spos.line X.env = pure true)
    (hs : ∀ x, foldedSetIterable iter X.env x = pure x := by intro _; rfl) : PS X (.Assign [.Name y py] (.ListComp elt [⟨.Name x px, iter, ifs, 0⟩] scope pos) spos) (tAsg (tComp wi js tc te) (gName i)) := by
  intro pins s σ H D0 I h
  rw [exec_Assign_Name_used _ _ _ _ hsw]
  refine wpAny_bind (wpAny_standAt (wpAny_bind ?_))
  show wpAny (model X.prog X.w) X.A (comprehension (.ListComp elt [⟨.Name x px, iter, ifs, 0⟩] scope pos) scope X.env _ (newList []) false (eval iter X.env) (some (assign (.Name y py) X.env)) >>= fun _ => pure ()) _ _ s
  refine wpAny_bind (thn (wpAny_comprehension_free (use := some (assign (.Name y py) X.env)) (Q := fun _ s' => SP X pins D0 .next s') rfl hs S.clos S.kind S.locals (thn (hi pins s σ H _ I h) fun v s1 h1 => thn h1 fun itv s2 h2 => ?_))
    fun _ s' hq => wpAny_pure (wpAny_pure hq))
  obtain ⟨it, fp, tn, J, H2, e, I2, T, st2, f2, q⟩ := h2
  subst e
  refine comp_core (RR := fun acc C => compPost (model X.prog X.w) X.A X.xe (some (assign (.Name y py) X.env)) (fun _ s' => SP X pins D0 .next s') acc C) S hc ht he I2 T st2 f2 q fun D C Hf s' I' ns ⟨f0, f1, _, f3, f4, f5⟩ fin => ?_
  obtain ⟨m, ns⟩ := ns
  show wpAny (model X.prog X.w) X.A (assign (.Name y py) X.env (.ref D)) _ X.xe s'
  refine wpAny_assign_Name (store_ok2 (v := .ref D) I' hN hi' (.inl hy) rfl (fun s'' I'' ⟨a, sb, ha⟩ => ⟨m, ns.sameBut sb ?_, fun h' hs' => ⟨_, Hf, I''.turned (t' := s''.toks) (fun b o hb e => (hs'.2 b hb).trans e) f0 f1 f3 f4 f5, fin⟩⟩) (.inr hy))
  rcases ha with z | z
  · rw [z]; exact f1
  · exact Ne.symm (f4 _ _ z)
end
end L2
namespace L2
open PySem PySem.Spec PyProof.Rows

/-! ### data, and equality of data -/
mutual
inductive Rp (K : PySem.W.Frag) (H : Hp) : V → PyData → Prop where
  | non : Rp K H .non .none
  | bl (b : Bool) : Rp K H (.bl b) (.bool b)
  | int (i : Int) : Rp K H (.int i) (.int i)
  | str (x : Str) : Rp K H (.str x) (.str x)
  | lst {a : Addr} {xs : List V} {ds : List PyData} (h : SqL K H a xs) (r : RpAll K H xs ds) : Rp K H (.ref a) (.list ds)
  | tup {a : Addr} {xs : List V} {ds : List PyData} (h : SqT K H a xs) (r : RpAll K H xs ds) : Rp K H (.ref a) (.tuple ds)
inductive RpAll (K : PySem.W.Frag) (H : Hp) : List V → List PyData → Prop where
  | nil : RpAll K H [] []
  | cons {x : V} {d : PyData} {xs : List V} {ds : List PyData} (h : Rp K H x d) (r : RpAll K H xs ds) : RpAll K H (x :: xs) (d :: ds)
end
section
variable {X : Cx} {pins : List (Addr × Obj)} {σ : St} {H : Hp} {s : Shared}
mutual
theorem Rp.reads (I : Inv X pins σ H s) : ∀ {v : V} {d : PyData} {u : Value}, Rp X.K H v d → RelV v u → ∃ as, Reads s.heap u d as
  | _, _, _, .non, r => by cases r; exact ⟨_, .none⟩
  | _, _, _, .bl b, r => by cases r; exact ⟨_, .bool b⟩
  | _, _, _, .int i, r => by obtain ⟨t, rfl⟩ := r; exact ⟨_, .int i t⟩
  | _, _, _, .str x, r => by obtain ⟨t, rfl⟩ := r; exact ⟨_, .str x t⟩
  | _, _, _, .lst h rr, r => by
    cases r
    obtain ⟨its, rv, pl, _⟩ := I.list h
    obtain ⟨o, ho, hc, n, hd⟩ := pl.isList
    obtain ⟨as, ha⟩ := RpAll.reads I rr rv
    exact ⟨_, .list ho hc hd (by simpa using ha)⟩
  | _, _, _, .tup h rr, r => by
    cases r
    obtain ⟨its, rv, pl, _⟩ := I.tuple h
    obtain ⟨o, ho, hc, n, hd⟩ := pl
    obtain ⟨as, ha⟩ := RpAll.reads I rr rv
    exact ⟨_, .tuple ho hc hd (by simpa using ha)⟩
theorem RpAll.reads (I : Inv X pins σ H s) : ∀ {xs : List V} {ds : List PyData} {us : List Value}, RpAll X.K H xs ds → Vals xs us → ∃ as, ReadsAll s.heap us ds as
  | _, _, _, .nil, r => by cases r; exact ⟨_, .nil⟩
  | _, _, _, .cons h hr, r => by
    cases r with
    | cons r1 r2 =>
      obtain ⟨as, ha⟩ := Rp.reads I h r1
      obtain ⟨bs, hb⟩ := RpAll.reads I hr r2
      exact ⟨_, .cons ha hb⟩
end
end
/-- x == y, x != y by data -/
def rEqD (K : PySem.W.Frag) (neg : Bool) : R2 := fun x y H Q => ∃ d e, Rp K H x d ∧ Rp K H y e ∧ d.canLay0 = true ∧ e.canLay0 = true ∧ d.depth ≤ 60 ∧ Q (.bl (if neg then !PyData.eqv d e else PyData.eqv d e)) H
section
variable {X : Cx}
theorem op_eqD (hu : X.A.units + 64 < cLine) : OpR X (compareOp .Eq) (rEqD X.K false) := by
  intro pins s σ H x y v u Q I rx ry h
  obtain ⟨d, e, rd, re, cd, ce, hd, q⟩ := h
  obtain ⟨as, ra⟩ := rd.reads I rx
  obtain ⟨bs, rb⟩ := re.reads I ry
  exact PySem.SeqAt.compareEq_reads ra rb cd ce (by have := Nat.min_le_left d.depth e.depth; omega) ⟨.bl _, H, I, rfl, q⟩
theorem op_neD (hu : X.A.units + 64 < cLine) : OpR X (compareOp .NotEq) (rEqD X.K true) := by
  intro pins s σ H x y v u Q I rx ry h
  obtain ⟨d, e, rd, re, cd, ce, hd, q⟩ := h
  obtain ⟨as, ra⟩ := rd.reads I rx
  obtain ⟨bs, rb⟩ := re.reads I ry
  exact PySem.SeqAt.compareNe_reads ra rb cd ce (by have := Nat.min_le_left d.depth e.depth; omega) ⟨.bl _, H, I, rfl, q⟩

/-! ### isinstance -/
def rIsi (K : PySem.W.Frag) : List V → Hp → VK → Prop := fun xs H Q => ∃ x c t b, xs = [x, .ty c] ∧ TyOf K H x t ∧ PySem.W.kitOne K t (.type c) = some b ∧ Q (.bl b) H
theorem call_isi : CallR X (.builtin "isinstance") (rIsi X.K) := by
  intro pins s σ H xs us Q I r h
  obtain ⟨x, c, t, b, rfl, ty, e, q⟩ := h
  obtain ⟨u, v, rfl, ru, rv⟩ := r.two
  obtain rfl : v = Value.type c := rv
  exact isinst_ok I ru ty e fun tk => ⟨.bl b, H, I.tok tk, rfl, q⟩

/-! ### a < b < c < d -/
section
variable {a b c d : Expr} {ta tb tc td : TE} {pos : Pos}
def tChain3 (r1 r2 r3 : R2) (ta tb tc td : TE) : TE := fun σ H Q => ta σ H fun x H1 => tb σ H1 fun y H2 => r1 x y H2 fun z H3 => ∃ k, z = .bl k ∧
  (if k = true then tc σ H3 fun y2 H4 => r2 y y2 H4 fun z2 H5 => ∃ k2, z2 = .bl k2 ∧ (if k2 = true then td σ H5 fun w H6 => r3 y2 w H6 Q else Q (.bl false) H5) else Q (.bl false) H3)
theorem pe_chain3 {o1 o2 o3 : CmpOp} {r1 r2 r3 : R2} (h1 : OpR X (compareOp o1) r1) (h2 : OpR X (compareOp o2) r2) (h3 : OpR X (compareOp o3) r3) (ha : PE X a ta) (hb : PE X b tb) (hc : PE X c tc) (hd : PE X d td)
    (hm : lastMarks [o1, o2, o3] [b, c, d] = false := by with_unfolding_all rfl) : PE X (.Compare a [o1, o2, o3] [b, c, d] pos) (tChain3 r1 r2 r3 ta tb tc td) := by
  intro pins s σ H Q I h
  refine Compare_chain (thn (ha pins s σ H _ I h) fun v s1 ⟨x, H1, I1, rx, q1⟩ => chain_link (thn (hb pins s1 σ H1 _ I1 q1) fun u s2 ⟨y, H2, I2, ry, q2⟩ =>
    thn (h1 pins s2 σ H2 x y v u _ I2 rx ry q2) fun d1 s3 ⟨z, H3, I3, r3', k, e, q3⟩ => ?_)) hm
  subst e
  cases r3'
  refine wpAny_truthy_bool ?_
  cases k with
  | false => exact ite_ff ⟨.bl false, H3, I3, rfl, q3⟩
  | true =>
    refine ite_tt (chain_link (thn (hc pins s3 σ H3 _ I3 q3) fun u2 s4 ⟨y2, H4, I4, ry2, q4⟩ => thn (h2 pins s4 σ H4 y y2 u u2 _ I4 ry ry2 q4) fun d2 s5 ⟨z2, H5, I5, r5, k2, e2, q5⟩ => ?_))
    subst e2
    cases r5
    refine wpAny_truthy_bool ?_
    cases k2 with
    | false => exact ite_ff ⟨.bl false, H5, I5, rfl, q5⟩
    | true => exact ite_tt (chain_last (thn (hd pins s5 σ H5 _ I5 q5) fun w6 s6 ⟨z6, H6, I6, r6, q6⟩ => h3 pins s6 σ H6 y2 z6 u2 w6 Q I6 ry2 r6 q6))
end
end

/-! ### ranges by a step -/
/-- lo, lo + c, .. (n of them) -/
def Its (lo c : Int) (n : Nat) : It := ⟨fun i _ => i < n, fun i H x H' => H' = H ∧ x = .int (lo + i * c), fun i _ => n ≤ i⟩
theorem turn_step {P : Program} {w : World} {K : PySem.W.Frag} {tg : Expr} (it : Addr) (lo c : Int) (n : Nat) : Turn P w K tg (Its lo c n) [it] it (fun i h => IsRangeIter h it (lo + (i : Nat) * c) ((n : Int) - (i : Nat)) c) where
  mem := by simp
  obj := fun i h st b hb => by
    obtain rfl : b = it := by simpa using hb
    exact ⟨_, st, fun v z => by cases (show Data.fields _ = Data.cell v from z)⟩
  keep := fun i h h' st k => k it (by simp) _ st
  item := by
    intro X hP hw hK hc i pins s σ H E I hf st hg
    subst hP hw hK
    obtain ⟨f0, f1, f2, f3, f4, f5⟩ := hf it (by simp)
    refine (Walks.range (prog := X.prog) (w := X.w) (I.ok.hd hc) it lo c n).item i s _ _ hg st fun v h' tk hv st' kk => ?_
    obtain ⟨t, rfl⟩ := hv
    have I1 : Inv X pins σ H { s with heap := h', toks := tk } := I.turned (fun b o hb e => kk b o (by simpa using hb) e) f0 f1 f3 f4 f5
    exact ⟨_, rfl, go_of (s := { s with heap := h', toks := tk }) (n := "range_iterator") st' rfl rfl (by decide) ⟨.int (lo + i * c), H, I1, ⟨t, rfl⟩, ⟨rfl, rfl⟩, st', fun b hb => (hf b hb).1⟩⟩
  done := by
    intro X hP hw hK hc i pins s σ H E I hf st hg
    subst hP hw hK
    obtain ⟨f0, f1, f2, f3, f4, f5⟩ := hf it (by simp)
    exact wpAny_pyNext_range_end (I.ok.hd hc) st (by have : n ≤ i := hg; omega) fun h' eb => ⟨rfl, I.turned (t' := s.toks) (fun b o hb e => eb b o hb e) f0 f1 f3 f4 f5⟩
  self := fun _ _ _ _ _ st h => wpAny_pyIter_rangeiter st h
section
variable {X : Cx} {tg : Expr}
def iDown (ta : TA) : TI := fun σ H R => ta σ H fun vs H1 => ∃ i j : Int, vs = [.int i, .int j, .int (-1)] ∧ (-(2 ^ 60) ≤ i ∧ i < 2 ^ 60 ∧ -(2 ^ 60) ≤ j ∧ j < 2 ^ 60) ∧ R (Its i (-1) (i - j).toNat) H1
theorem size_down (i j : Int) : Builtin.Range.rangeSize i j (-1) = ((i - j).toNat : Int) := by
  unfold Builtin.Range.rangeSize
  rw [if_neg (by decide)]
  split
  · rw [show (-(-1) : Int) = 1 by decide, Int.ediv_one]; omega
  · omega
theorem small_down {i j : Int} (h1 : -(2 ^ 60) ≤ i) (h2 : i < 2 ^ 60) (h3 : -(2 ^ 60) ≤ j) (h4 : j < 2 ^ 60) : Builtin.Range.small i j (-1) = true := by
  unfold Builtin.Range.small
  rw [size_down]
  simp only [Builtin.Range.rangeFitsLong, Bool.and_eq_true, Bool.or_eq_true, decide_eq_true_eq, beq_iff_eq, show ¬ ((-1 : Int) > 0) by decide, if_false]
  omega
theorem pi_down {a b c : Expr} {ta : TA} {p pos : Pos} (hg : Gl X "range") (hm : X.mg "range" = none) (ha : PA X [a, b, c] ta) (hs : starEach [a, b, c] X.env = (false, eval a X.env) :: starEach [b, c] X.env := by rfl) (hp : (backTo pos (starEach [b, c] X.env)).any (·.1) = false := by rfl) :
    PI X tg (.Call (.Name "range" p) [a, b, c] [] pos) (iDown ta) := by
  intro pins s σ H R I h
  refine Call_ (ld_blt I hg hm boot_range (PyProof.Rows.callWith_type1 (thn (ha pos pins s σ H _ I h) fun us s1 ⟨vs, H1, I1, r1, q1⟩ => ?_) hs hp))
  obtain ⟨i, j, e, ⟨q1, q2, q3, q4⟩, q⟩ := q1
  subst e
  cases r1 with
  | cons r rr =>
    cases rr with
    | cons r' rr =>
      cases rr with
      | cons r'' rr =>
        cases rr
        obtain ⟨t, rfl⟩ := r
        obtain ⟨t', rfl⟩ := r'
        obtain ⟨t'', rfl⟩ := r''
        refine call_range_3 (by decide) ?_ (.inl (PyProof.noPylong_small (by decide)))
        refine wpAny_pyIter_range (IsRange.new ..) (small_down q1 q2 q3 q4) ?_
        have I2 : Inv X pins σ H1 { s1 with heap := s1.heap.push { cls := .type "range", data := .fields #[.int i t, .int j t', .int (-1) t''] } } := I1.kept (t' := s1.toks) fun b o e => Heap.get?_push_of_some _ e
        refine ⟨(s1.heap.push { cls := .type "range", data := .fields #[.int i t, .int j t', .int (-1) t''] }).objs.size, [(s1.heap.push { cls := .type "range", data := .fields #[.int i t, .int j t', .int (-1) t''] }).objs.size], _, _, H1, rfl,
          I2.kept (t' := s1.toks) fun b o e => Heap.get?_push_of_some _ e, turn_step _ i (-1) (i - j).toNat, ?_, fun b hb => ?_, q⟩
        · have e1 : i + ((0 : Nat) : Int) * (-1) = i := by simp
          have e2 : (((i - j).toNat : Nat) : Int) - ((0 : Nat) : Int) = Builtin.Range.rangeSize i j (-1) := by rw [size_down]; omega
          show IsRangeIter _ _ (i + ((0 : Nat) : Int) * (-1)) ((((i - j).toNat : Nat) : Int) - ((0 : Nat) : Int)) (-1)
          rw [e1, e2]
          exact Heap.get?_push_size _ rfl
        · obtain rfl : b = (s1.heap.push { cls := .type "range", data := .fields #[.int i t, .int j t', .int (-1) t''] }).objs.size := by simpa using hb
          exact I2.fpOk (Nat.le_refl _) (I2.hok.fresh (Nat.le_refl _))
/-- over a range by a step -/
theorem for_step {lo c : Int} {n : Nat} {g : TG} {tb : TS} {D : Ends} {σ : St} {H : Hp} (Pv : Nat → St → Hp → Prop) (h0 : Pv 0 σ H)
    (hs : ∀ i σ H, i < n → Pv i σ H → g (.int (lo + i * c)) σ H fun σ2 H2 => tb { D with nx := Pv (i + 1), ct := Pv (i + 1), bk := D.nx } σ2 H2) (hd : ∀ σ H, Pv n σ H → D.nx σ H) :
    ∃ W : Nat → Nat → St → Hp → Prop, (∃ m, W 0 m σ H) ∧ ∀ i m σ H, W i m σ H →
      ((Its lo c n).stop i H ∧ D.nx σ H) ∨ ((Its lo c n).go i H ∧ ∃ N : St → Hp → Prop, (∀ σ' H', N σ' H' → ∃ m', m' < m ∧ W (i + 1) m' σ' H') ∧ ∀ x H', (Its lo c n).yld i H x H' → g x σ H' fun σ2 H2 => tb { D with nx := N, ct := N, bk := D.nx } σ2 H2) := by
  refine ⟨fun i m σ H => m = n - i ∧ i ≤ n ∧ Pv i σ H, ⟨n, rfl, Nat.zero_le _, h0⟩, ?_⟩
  rintro i m σ H ⟨rfl, hi, p⟩
  rcases Nat.lt_or_ge i n with hlt | hge
  · exact .inr ⟨hlt, Pv (i + 1), fun σ' H' p' => ⟨n - (i + 1), by omega, rfl, hlt, p'⟩, fun x H' ⟨e1, e2⟩ => by subst e1 e2; exact hs i σ _ hlt p⟩
  · obtain rfl : i = n := by omega
    exact .inl ⟨Nat.le_refl _, hd σ H p⟩

/-! ### list(range(n)) -/
def rRng : List V → Hp → VK → Prop := fun xs H Q => ∃ j : Int, xs = [.int j] ∧ ∀ p, H p = none → Q (.ref p) (upd H p (.rng 0 j))
theorem call_rng : CallR X (.type "range") rRng := by
  intro pins s σ H xs us Q I r h
  obtain ⟨j, rfl, q⟩ := h
  obtain ⟨u, rfl, ru⟩ := r.one
  obtain ⟨t, rfl⟩ := ru
  exact call_range_1 ⟨.ref s.heap.objs.size, _, I.laid (o := .rng 0 j) (fun b o e => Heap.get?_push_of_some _ e) (Nat.le_refl _) ⟨_, _, _, Heap.get?_push_size _ rfl⟩, rfl, q _ I.fresh⟩
def rListRng : List V → Hp → VK → Prop := fun xs H Q => ∃ (p : Addr) (j : Int), xs = [.ref p] ∧ H p = some (.rng 0 j) ∧ 0 ≤ j ∧ j ≤ 100000 ∧ ∀ l, H l = none → Q (.ref l) (upd H l (.lst ((List.range j.toNat).map fun (i : Nat) => V.int i)))
theorem vals_items {n : Nat} {acc : Array Value} (h : ItemsOf (fun i v => ∃ t, v = Value.int (0 + (i : Int) * 1) t) acc n) : Vals ((List.range n).map fun (i : Nat) => V.int i) acc.toList := by
  have key : ∀ (l : List Value) (k : Nat), (∀ i v, l[i]? = some v → ∃ t, v = Value.int ((k + i : Nat) : Int) t) → Vals ((List.range' k l.length).map fun (i : Nat) => V.int i) l := by
    intro l
    induction l with
    | nil => intro k _; exact .nil
    | cons v r ih =>
      intro k hv
      rw [List.length_cons, List.range'_succ, List.map_cons]
      refine .cons ?_ (ih (k + 1) fun i w e => ?_)
      · obtain ⟨t, e⟩ := hv 0 v rfl
        exact ⟨t, by simpa using e⟩
      · obtain ⟨t, e'⟩ := hv (i + 1) w (by simpa using e)
        exact ⟨t, by rw [e']; congr 1; omega⟩
  have hl : acc.toList.length = n := by rw [Array.length_toList]; exact h.1
  have := key acc.toList 0 fun i v e => by
    obtain ⟨t, e'⟩ := h.2 i v (by simpa using e)
    exact ⟨t, by rw [e']; congr 1; omega⟩
  rw [hl] at this
  rw [List.range_eq_range']
  exact this
theorem call_list_rng (hc : X.calm = true) : CallR X (.type "list") rListRng := by
  intro pins s σ H xs us Q I r h
  obtain ⟨p, j, rfl, hp, h0, h1, q⟩ := h
  obtain ⟨u, rfl, ru⟩ := r.one
  obtain rfl : u = Value.ref p := ru
  obtain ⟨t, t', t'', e⟩ := I.hok p _ hp
  have hn : Builtin.Range.rangeSize 0 j 1 = (j.toNat : Int) := by rw [rangeSize_one]; split <;> omega
  refine call_list_range (I.ok.hd hc) (show IsRange s.heap p 0 j 1 t t' t'' from e) (small_one (by decide) (by decide) (by omega) (by omega)) hn (by omega) fun h' tk acc c' hk hS hacc => ?_
  have hz : ((List.range j.toNat).map fun (i : Nat) => V.int i).length ≤ sizeLine := by rw [List.length_map, List.length_range, sizeLine_eq]; omega
  exact ⟨.ref s.heap.objs.size, _, I.laid (t' := tk) (o := .lst ((List.range j.toNat).map fun (i : Nat) => V.int i)) hk (Nat.le_refl _) ⟨hz, acc.toList, c', vals_items hacc, by simpa using hS⟩, rfl, q _ I.fresh⟩
end
end L2
namespace Srt
open PySem PySem.W PyProof.Rows
def runT {α : Type} (o : Nat → Nat → Bool) : KasT α → α
  | .ret a => a
  | .ask i j k => runT o (k (o i j))
theorem runT_bind {α β : Type} (o : Nat → Nat → Bool) (f : α → KasT β) : ∀ t : KasT α, runT o (t.bind f) = runT o (f (runT o t))
  | .ret _ => rfl
  | .ask i j k => runT_bind o f (k (o i j))
structure Ord (o : Nat → Nat → Bool) : Prop where
  asy : ∀ a b, o a b = true → o b a = false
  tr : ∀ a b c, o b a = false → o c b = false → o c a = false
theorem Ord.irr {o : Nat → Nat → Bool} (h : Ord o) (a : Nat) : o a a = false := by
  cases e : o a a with
  | false => rfl
  | true => rw [h.asy a a e] at e; cases e
def Inc (o : Nat → Nat → Bool) (p : Array Nat) (n : Nat) : Prop := ∀ i j, i ≤ j → j < n → o (p.getD j 0) (p.getD i 0) = false
def Dec (o : Nat → Nat → Bool) (p : Array Nat) (n : Nat) : Prop := ∀ i j, i ≤ j → j < n → o (p.getD i 0) (p.getD j 0) = false
theorem getD_of {p q : Array Nat} {i j : Nat} (h : p[i]? = q[j]?) : p.getD i 0 = q.getD j 0 := by
  rw [Array.getD_eq_getD_getElem?, Array.getD_eq_getD_getElem?, h]
theorem rev_getD {p : Array Nat} {i j : Nat} (hj : j ≤ p.size) (k : Nat) : (kas_rev p i j).getD k 0 = if i ≤ k ∧ k < j then p.getD (i + j - 1 - k) 0 else p.getD k 0 := by
  unfold kas_rev
  have h := getElem?_mirror_all (xs := p) (i := i) hj k
  split
  · rename_i c; rw [if_pos c] at h; exact getD_of h
  · rename_i c; rw [if_neg c] at h; exact getD_of h
theorem rev_size (p : Array Nat) (i j : Nat) : (kas_rev p i j).size = p.size := mirror_size _ _ _ _
theorem rev_perm (p : Array Nat) (i j : Nat) : (kas_rev p i j).Perm p := mirror_perm _ _ _ _
section
variable {o : Nat → Nat → Bool} (O : Ord o)
include O
theorem Inc.succ {p : Array Nat} {n : Nat} (h : Inc o p n) (h1 : 1 ≤ n) (e : o (p.getD n 0) (p.getD (n - 1) 0) = false) : Inc o p (n + 1) := by
  intro i j hij hj
  by_cases hjn : j < n
  · exact h i j hij hjn
  · have : j = n := by omega
    subst this
    by_cases hi : i = j
    · subst hi; exact O.irr _
    · exact O.tr _ _ _ (h i (j - 1) (by omega) (by omega)) e
theorem Dec.succ {p : Array Nat} {n : Nat} (h : Dec o p n) (h1 : 1 ≤ n) (e : o (p.getD (n - 1) 0) (p.getD n 0) = false) : Dec o p (n + 1) := by
  intro i j hij hj
  by_cases hjn : j < n
  · exact h i j hij hjn
  · have : j = n := by omega
    subst this
    by_cases hi : i = j
    · subst hi; exact O.irr _
    · exact O.tr _ _ _ e (h i (j - 1) (by omega) (by omega))
theorem Inc.one {p : Array Nat} : Inc o p 1 := by
  intro i j hij hj
  have h1 : i = 0 := by omega
  have h2 : j = 0 := by omega
  subst h1 h2; exact O.irr _
theorem asc_ok (p : Array Nat) : ∀ (f n : Nat), 1 ≤ n → Inc o p n → n ≤ runT o (kas_asc p f n) ∧ runT o (kas_asc p f n) ≤ n + f ∧ Inc o p (runT o (kas_asc p f n)) ∧
    (runT o (kas_asc p f n) = n + f ∨ o (p.getD (runT o (kas_asc p f n)) 0) (p.getD (runT o (kas_asc p f n) - 1) 0) = true)
  | 0, n, _, h => ⟨Nat.le_refl _, Nat.le_refl _, h, .inl rfl⟩
  | f + 1, n, h1, h => by
    unfold kas_asc
    simp only [runT]
    cases e : o (p.getD n 0) (p.getD (n - 1) 0) with
    | true => simp only [if_true, runT]; exact ⟨Nat.le_refl _, by omega, h, .inr e⟩
    | false =>
      simp only [Bool.false_eq_true, if_false]
      obtain ⟨a, b, c, d⟩ := asc_ok p f (n + 1) (by omega) (Inc.succ O h h1 e)
      exact ⟨by omega, by omega, c, by rcases d with d | d; exact .inl (by omega); exact .inr d⟩
def Blk (o : Nat → Nat → Bool) (p : Array Nat) (n q : Nat) : Prop := q < n ∧ ∀ i, n - (q + 1) ≤ i → i < n → o (p.getD (n - 1) 0) (p.getD i 0) = false
omit O in
theorem blk_rev {p : Array Nat} {n q : Nat} (hn : n ≤ p.size) (k : Nat) (hk : k < n) : ∃ k', k' < n ∧ (kas_rev p (n - (q + 1)) n).getD k 0 = p.getD k' 0 ∧ (k' = k ∨ (n - (q + 1) ≤ k' ∧ n - (q + 1) ≤ k)) := by
  rw [rev_getD hn]
  split
  · exact ⟨_, by omega, rfl, .inr ⟨by omega, by omega⟩⟩
  · exact ⟨k, hk, rfl, .inl rfl⟩
theorem dec_rev {p : Array Nat} {n q : Nat} (hn : n ≤ p.size) (D : Dec o p n) (B : Blk o p n q) : Dec o (kas_rev p (n - (q + 1)) n) n := by
  intro i j hij hj
  obtain ⟨i', hi', ei, ci⟩ := blk_rev (q := q) hn i (by omega)
  obtain ⟨j', hj', ej, cj⟩ := blk_rev (q := q) hn j hj
  rw [ei, ej]
  by_cases h : i' ≤ j'
  · exact D i' j' h hj'
  · -- both in the block
    have h1 : n - (q + 1) ≤ j' := by omega
    have h2 : n - (q + 1) ≤ i' := by omega
    exact O.tr _ _ _ (B.2 j' h1 hj') (D i' (n - 1) (by omega) (by omega))
theorem desc_ok : ∀ (f : Nat) (p : Array Nat) (n q : Nat), 1 ≤ n → n + f ≤ p.size → Dec o p n → Blk o p n q →
    ∀ r, runT o (kas_desc f p n q) = r → r.1.Perm p ∧ r.1.size = p.size ∧ n ≤ r.2.1 ∧ r.2.1 ≤ n + f ∧ Dec o r.1 r.2.1 ∧ Blk o r.1 r.2.1 r.2.2
  | 0, p, n, q, h1, hz, D, B, r, hr => by
    simp only [kas_desc, runT] at hr
    subst hr
    exact ⟨Array.Perm.refl _, rfl, Nat.le_refl _, Nat.le_refl _, D, B⟩
  | f + 1, p, n, q, h1, hz, D, B, r, hr => by
    unfold kas_desc at hr
    simp only [runT] at hr
    cases e : o (p.getD n 0) (p.getD (n - 1) 0) with
    | true =>
      rw [e] at hr
      simp only [if_true] at hr
      have blk0 : ∀ p : Array Nat, Blk o p (n + 1) 0 := fun p => ⟨by omega, fun i hi1 hi2 => by
        have : i = n := by omega
        subst this
        exact O.irr _⟩
      by_cases hq : q > 0
      · rw [if_pos hq] at hr
        have e2 : o ((kas_rev p (n - (q + 1)) n).getD (n - 1) 0) ((kas_rev p (n - (q + 1)) n).getD n 0) = false := by
          have en : (kas_rev p (n - (q + 1)) n).getD n 0 = p.getD n 0 := by rw [rev_getD (by omega), if_neg (by omega)]
          obtain ⟨k', hk', ek, ck⟩ := blk_rev (q := q) (p := p) (n := n) (by omega) (n - 1) (by omega)
          rw [en, ek]
          refine O.tr _ _ _ (O.asy _ _ e) ?_
          rcases ck with ck | ck
          · subst ck; exact O.irr _
          · exact D k' (n - 1) (by omega) (by omega)
        have D2 := Dec.succ O (dec_rev O (by omega) D B) h1 e2
        obtain ⟨a1, a2, a3, a4, a5, a6⟩ := desc_ok f _ (n + 1) 0 (by omega) (by rw [rev_size]; omega) D2 (blk0 _) r hr
        exact ⟨a1.trans (rev_perm _ _ _), by rw [a2, rev_size], by omega, by omega, a5, a6⟩
      · rw [if_neg hq] at hr
        obtain ⟨a1, a2, a3, a4, a5, a6⟩ := desc_ok f p (n + 1) 0 (by omega) (by omega) (Dec.succ O D h1 (O.asy _ _ e)) (blk0 _) r hr
        exact ⟨a1, a2, by omega, by omega, a5, a6⟩
    | false =>
      rw [e] at hr
      simp only [Bool.false_eq_true, if_false, runT] at hr
      cases e2 : o (p.getD (n - 1) 0) (p.getD n 0) with
      | true =>
        rw [e2] at hr
        simp only [if_true, runT] at hr
        subst hr
        exact ⟨Array.Perm.refl _, rfl, Nat.le_refl _, by show n ≤ n + (f + 1); omega, D, B⟩
      | false =>
        rw [e2] at hr
        simp only [Bool.false_eq_true, if_false] at hr
        have B2 : Blk o p (n + 1) (q + 1) := by
          refine ⟨by have := B.1; omega, fun i hi1 hi2 => ?_⟩
          by_cases hi : i = n
          · subst hi; exact O.irr _
          · show o (p.getD n 0) (p.getD i 0) = false
            exact O.tr _ _ _ (B.2 i (by omega) (by omega)) e
        obtain ⟨a1, a2, a3, a4, a5, a6⟩ := desc_ok f p (n + 1) (q + 1) (by omega) (by omega) (Dec.succ O D h1 e2) B2 r hr
        exact ⟨a1, a2, by omega, by omega, a5, a6⟩
theorem inc_rev {p : Array Nat} {n : Nat} (hn : n ≤ p.size) (D : Dec o p n) : Inc o (kas_rev p 0 n) n := by
  intro i j hij hj
  rw [rev_getD hn, rev_getD hn, if_pos (by omega), if_pos (by omega)]
  exact D _ _ (by omega) (by omega)
theorem tail3_ok {n nrem : Nat} {p : Array Nat} (h1 : 1 ≤ n) (hn : n ≤ nrem) (hz : nrem ≤ p.size) (D : Dec o p n) (r : Nat × Array Nat) (hr : runT o (kas_tail3 n nrem p) = r) :
    r.2.Perm p ∧ r.2.size = p.size ∧ 1 ≤ r.1 ∧ r.1 ≤ nrem ∧ Inc o r.2 r.1 := by
  unfold kas_tail3 at hr
  rw [runT_bind] at hr
  obtain ⟨a, b, c, _⟩ := asc_ok O (kas_rev p 0 n) (nrem - n) n h1 (inc_rev O (by omega) D)
  simp only [runT] at hr
  subst hr
  exact ⟨rev_perm _ _ _, rev_size _ _ _, by show 1 ≤ runT o _; omega, by show runT o _ ≤ nrem; omega, c⟩
theorem descPart_ok {n nrem : Nat} {p : Array Nat} (h1 : 1 ≤ n) (hn : n + 1 ≤ nrem) (hz : nrem ≤ p.size) (D : Dec o p (n + 1)) (r : Nat × Array Nat) (hr : runT o (kas_descPart n nrem p) = r) :
    r.2.Perm p ∧ r.2.size = p.size ∧ 1 ≤ r.1 ∧ r.1 ≤ nrem ∧ Inc o r.2 r.1 := by
  unfold kas_descPart at hr
  rw [runT_bind] at hr
  have blk0 : Blk o p (n + 1) 0 := ⟨by omega, fun i hi1 hi2 => by
    have : i = n := by omega
    subst this
    exact O.irr _⟩
  obtain ⟨a1, a2, a3, a4, a5, a6⟩ := desc_ok O (nrem - (n + 1)) p (n + 1) 0 (by omega) (by omega) D blk0 _ rfl
  generalize runT o (kas_desc (nrem - (n + 1)) p (n + 1) 0) = d at *
  by_cases hq : d.2.2 > 0
  · rw [if_pos hq] at hr
    obtain ⟨b1, b2, b3, b4, b5⟩ := tail3_ok O (by omega) (by omega) (by rw [rev_size]; omega) (dec_rev O (by omega) a5 a6) r hr
    exact ⟨b1.trans ((rev_perm _ _ _).trans a1), by rw [b2, rev_size, a2], b3, b4, b5⟩
  · rw [if_neg hq] at hr
    obtain ⟨b1, b2, b3, b4, b5⟩ := tail3_ok O (by omega) (by omega) (by omega) a5 r hr
    exact ⟨b1.trans a1, by rw [b2, a2], b3, b4, b5⟩
theorem count_ok {nrem : Nat} {p : Array Nat} (h1 : 2 ≤ nrem) (hz : nrem ≤ p.size) (r : Nat × Array Nat) (hr : runT o (kas_count nrem p) = r) :
    r.2.Perm p ∧ r.2.size = p.size ∧ 1 ≤ r.1 ∧ r.1 ≤ nrem ∧ Inc o r.2 r.1 := by
  unfold kas_count at hr
  rw [runT_bind] at hr
  obtain ⟨a, b, c, d⟩ := asc_ok O p (nrem - 1) 1 (Nat.le_refl _) (Inc.one O)
  generalize runT o (kas_asc p (nrem - 1) 1) = n at *
  by_cases hn : (n == nrem) = true
  · rw [if_pos hn] at hr
    simp only [runT] at hr
    subst hr
    exact ⟨Array.Perm.refl _, rfl, a, by show n ≤ nrem; omega, c⟩
  · rw [if_neg hn] at hr
    have hne : n ≠ nrem := by simpa using hn
    have hst : o (p.getD n 0) (p.getD (n - 1) 0) = true := by
      rcases d with d | d
      · omega
      · exact d
    by_cases h2 : n > 1
    · rw [if_pos h2] at hr
      simp only [runT] at hr
      cases e : o (p.getD 0 0) (p.getD (n - 1) 0) with
      | true =>
        rw [e] at hr
        simp only [if_true, runT] at hr
        subst hr
        exact ⟨Array.Perm.refl _, rfl, a, by show n ≤ nrem; omega, c⟩
      | false =>
        rw [e] at hr
        simp only [Bool.false_eq_true, if_false] at hr
        have D : Dec o (kas_rev p 0 n) (n + 1) := by
          refine Dec.succ O ?_ a ?_
          · intro i j hij hj
            rw [rev_getD (by omega), rev_getD (by omega), if_pos (by omega), if_pos (by omega)]
            exact O.tr _ _ _ (c (0 + n - 1 - j) (n - 1) (by omega) (by omega)) (O.tr _ _ _ e (c 0 (0 + n - 1 - i) (Nat.zero_le _) (by omega)))
          · rw [rev_getD (by omega), rev_getD (by omega), if_pos (by omega), if_neg (by omega)]
            have e0 : 0 + n - 1 - (n - 1) = 0 := by omega
            rw [e0]
            exact O.tr _ _ _ (O.asy _ _ hst) e
        obtain ⟨b1, b2, b3, b4, b5⟩ := descPart_ok O a (by omega) (by rw [rev_size]; omega) D r hr
        exact ⟨b1.trans (rev_perm _ _ _), by rw [b2, rev_size], b3, b4, b5⟩
    · rw [if_neg h2] at hr
      have en : n = 1 := by omega
      subst en
      exact descPart_ok O a (by omega) hz (Dec.succ O (fun i j hij hj => by
        have : i = 0 := by omega
        have : j = 0 := by omega
        subst i j; exact O.irr _) (by omega) (O.asy _ _ hst)) r hr
theorem place_ok (p : Array Nat) (k : Nat) : ∀ (f l r : Nat), l ≤ r → r ≤ k → r - l ≤ f → (∀ i, i < l → o (p.getD k 0) (p.getD i 0) = false) → (∀ i, r ≤ i → i < k → o (p.getD i 0) (p.getD k 0) = false) → Inc o p k →
    ∀ z, runT o (kas_place p k f l r) = z → z ≤ k ∧ (∀ i, i < z → o (p.getD k 0) (p.getD i 0) = false) ∧ (∀ i, z ≤ i → i < k → o (p.getD i 0) (p.getD k 0) = false)
  | 0, l, r, h1, h2, h3, hl, hr, hI, z, hz => by
    simp only [kas_place, runT] at hz
    subst hz
    exact ⟨by omega, hl, fun i a b => hr i (by omega) b⟩
  | f + 1, l, r, h1, h2, h3, hl, hr, hI, z, hz => by
    unfold kas_place at hz
    by_cases c : l ≥ r
    · rw [if_pos c] at hz
      simp only [runT] at hz
      subst hz
      exact ⟨by omega, hl, fun i a b => hr i (by omega) b⟩
    · rw [if_neg c] at hz
      simp only [runT] at hz
      cases e : o (p.getD k 0) (p.getD ((l + r) / 2) 0) with
      | true =>
        rw [e] at hz
        simp only [if_true] at hz
        refine place_ok p k f l ((l + r) / 2) (by omega) (by omega) (by omega) hl (fun i a b => ?_) hI z hz
        by_cases hi : r ≤ i
        · exact hr i hi b
        · exact O.tr _ _ _ (O.asy _ _ e) (hI _ i a b)
      | false =>
        rw [e] at hz
        simp only [Bool.false_eq_true, if_false] at hz
        refine place_ok p k f ((l + r) / 2 + 1) r (by omega) (by omega) (by omega) (fun i a => ?_) hr hI z hz
        exact O.tr _ _ _ (hI i ((l + r) / 2) (by omega) (by omega)) e
theorem bubble_getD {p : Array Nat} {k l : Nat} (hk : k < p.size) (hl : l ≤ k) (i : Nat) : (bubble p k (k - l)).getD i 0 = if i = l then p.getD k 0 else if l < i ∧ i ≤ k then p.getD (i - 1) 0 else p.getD i 0 := by
  have h := getElem?_bubble (xs := p) hk (k - l) (by omega) i
  have e : k - (k - l) = l := by omega
  rw [e] at h
  by_cases c : i = l
  · rw [if_pos c] at h ⊢; exact getD_of h
  · rw [if_neg c] at h ⊢
    by_cases c2 : l < i ∧ i ≤ k
    · rw [if_pos c2] at h ⊢; exact getD_of h
    · rw [if_neg c2] at h ⊢; exact getD_of h
theorem bin_ok : ∀ (f : Nat) (p : Array Nat) (k : Nat), k + f ≤ p.size → Inc o p k → ∀ r, runT o (kas_bin f p k) = r → r.Perm p ∧ r.size = p.size ∧ Inc o r (k + f)
  | 0, p, k, hz, hI, r, hr => by
    simp only [kas_bin, runT] at hr
    subst hr
    exact ⟨Array.Perm.refl _, rfl, hI⟩
  | f + 1, p, k, hz, hI, r, hr => by
    unfold kas_bin at hr
    rw [runT_bind] at hr
    obtain ⟨a, b, c⟩ := place_ok O p k k 0 k (Nat.zero_le _) (Nat.le_refl _) (by omega) (fun i h => absurd h (Nat.not_lt_zero _)) (fun i h1 h2 => by omega) hI _ rfl
    generalize runT o (kas_place p k k 0 k) = l at *
    have hI2 : Inc o (bubble p k (k - l)) (k + 1) := by
      intro i j hij hj
      rw [bubble_getD O (by omega) a, bubble_getD O (by omega) a]
      by_cases h1 : i = j
      · subst h1; exact O.irr _
      · by_cases hi : i = l
        · rw [if_pos hi, if_neg (by omega), if_pos (by omega)]
          exact c _ (by omega) (by omega)
        · rw [if_neg hi]
          by_cases hjl : j = l
          · rw [if_pos hjl, if_neg (by omega)]
            exact b i (by omega)
          · rw [if_neg hjl]
            by_cases hi2 : l < i ∧ i ≤ k
            · rw [if_pos hi2, if_pos (by omega)]
              exact hI _ _ (by omega) (by omega)
            · rw [if_neg hi2]
              by_cases hj2 : l < j ∧ j ≤ k
              · rw [if_pos hj2]; exact hI _ _ (by omega) (by omega)
              · rw [if_neg hj2]; exact hI _ _ (by omega) (by omega)
    obtain ⟨x1, x2, x3⟩ := bin_ok f (bubble p k (k - l)) (k + 1) (by rw [bubble_size]; omega) hI2 r hr
    exact ⟨x1.trans (bubble_perm _ _ _), by rw [x2, bubble_size], by rw [show k + (f + 1) = k + 1 + f by omega]; exact x3⟩
theorem sort_ok {n : Nat} (h2 : 2 ≤ n) (r : Array Nat) (hr : runT o (kas_sort n) = r) : r.Perm (List.toArray (List.range n)) ∧ r.size = n ∧ Inc o r n := by
  unfold kas_sort at hr
  rw [runT_bind] at hr
  obtain ⟨a, b, c, d, e⟩ := count_ok O h2 (p := List.toArray (List.range n)) (by simp) _ rfl
  generalize runT o (kas_count n (List.toArray (List.range n))) = q at *
  have hs : q.2.size = n := by rw [b]; simp
  by_cases hq : q.1 < n
  · rw [if_pos hq] at hr
    have em : max q.1 1 = q.1 := by omega
    rw [em] at hr
    obtain ⟨x1, x2, x3⟩ := bin_ok O (n - q.1) q.2 q.1 (by omega) e r hr
    exact ⟨x1.trans a, by rw [x2, hs], by rw [show q.1 + (n - q.1) = n by omega] at x3; exact x3⟩
  · rw [if_neg hq] at hr
    simp only [runT] at hr
    subst hr
    exact ⟨a, hs, by rw [show q.1 = n by omega] at e; exact e⟩
end
end Srt
namespace Srt
open PySem PySem.W PyProof.Rows
/-- every question is about places below n; what is told keeps R -/
def Bd {α : Type} (n : Nat) (R : α → Prop) : KasT α → Prop
  | .ret a => R a
  | .ask i j k => i < n ∧ j < n ∧ ∀ b, Bd n R (k b)
theorem Bd.bind {α β : Type} {n : Nat} {R : α → Prop} {R' : β → Prop} {f : α → KasT β} (hf : ∀ a, R a → Bd n R' (f a)) : ∀ {t : KasT α}, Bd n R t → Bd n R' (t.bind f)
  | .ret a, h => hf a h
  | .ask _ _ k, h => ⟨h.1, h.2.1, fun b => Bd.bind hf (h.2.2 b)⟩
def Lt (n : Nat) (p : Array Nat) : Prop := 0 < n ∧ ∀ x ∈ p.toList, x < n
theorem Lt.get {n : Nat} {p : Array Nat} (h : Lt n p) (k : Nat) : p.getD k 0 < n := by
  rw [Array.getD_eq_getD_getElem?]
  cases e : p[k]? with
  | none => exact h.1
  | some x =>
    refine h.2 x ?_
    exact Array.mem_toList_iff.mpr (Array.mem_of_getElem? e)
theorem Lt.perm {n : Nat} {p q : Array Nat} (h : Lt n p) (e : q.Perm p) : Lt n q := ⟨h.1, fun x hx => h.2 x ((Array.perm_iff_toList_perm.mp e).mem_iff.mp hx)⟩
theorem Lt.rev {n : Nat} {p : Array Nat} (h : Lt n p) (i j : Nat) : Lt n (kas_rev p i j) := h.perm (rev_perm _ _ _)
theorem asc_bd {n : Nat} {p : Array Nat} (h : Lt n p) : ∀ f k, Bd n (fun _ => True) (kas_asc p f k)
  | 0, _ => trivial
  | f + 1, k => by
    refine ⟨h.get _, h.get _, fun b => ?_⟩
    cases b with
    | true => exact trivial
    | false => exact asc_bd h f (k + 1)
theorem desc_bd {n : Nat} : ∀ f (p : Array Nat) k q, Lt n p → Bd n (fun r => Lt n r.1) (kas_desc f p k q)
  | 0, _, _, _, h => h
  | f + 1, p, k, q, h => by
    refine ⟨h.get _, h.get _, fun b => ?_⟩
    cases b with
    | true =>
      by_cases hq : q > 0
      · simp only [if_true, if_pos hq]; exact desc_bd f _ _ _ (h.rev _ _)
      · simp only [if_true, if_neg hq]; exact desc_bd f _ _ _ h
    | false =>
      simp only [Bool.false_eq_true, if_false]
      refine ⟨h.get _, h.get _, fun c => ?_⟩
      cases c with
      | true => exact h
      | false => exact desc_bd f _ _ _ h
theorem tail3_bd {n k m : Nat} {p : Array Nat} (h : Lt n p) : Bd n (fun r => Lt n r.2) (kas_tail3 k m p) := by
  refine (asc_bd (h.rev 0 k) _ _).bind fun z _ => ?_
  show Lt n (kas_rev p 0 k)
  exact h.rev _ _
theorem descPart_bd {n k m : Nat} {p : Array Nat} (h : Lt n p) : Bd n (fun r => Lt n r.2) (kas_descPart k m p) := by
  refine (desc_bd _ _ _ _ h).bind fun r hr => ?_
  by_cases hq : r.2.2 > 0
  · rw [if_pos hq]; exact tail3_bd (Lt.rev hr _ _)
  · rw [if_neg hq]; exact tail3_bd hr
theorem count_bd {n m : Nat} {p : Array Nat} (h : Lt n p) : Bd n (fun r => Lt n r.2) (kas_count m p) := by
  refine (asc_bd h _ _).bind fun k _ => ?_
  by_cases h1 : (k == m) = true
  · rw [if_pos h1]; exact h
  · rw [if_neg h1]
    by_cases h2 : k > 1
    · rw [if_pos h2]
      refine ⟨h.get _, h.get _, fun b => ?_⟩
      cases b with
      | true => exact h
      | false => exact descPart_bd (h.rev _ _)
    · rw [if_neg h2]; exact descPart_bd h
theorem place_bd {n : Nat} {p : Array Nat} {k : Nat} (h : Lt n p) : ∀ f l r, Bd n (fun _ => True) (kas_place p k f l r)
  | 0, _, _ => trivial
  | f + 1, l, r => by
    unfold kas_place
    by_cases c : l ≥ r
    · rw [if_pos c]; exact trivial
    · rw [if_neg c]
      refine ⟨h.get _, h.get _, fun b => ?_⟩
      cases b with
      | true => exact place_bd h f _ _
      | false => exact place_bd h f _ _
theorem bin_bd {n : Nat} : ∀ f (p : Array Nat) k, Lt n p → Bd n (fun r => Lt n r) (kas_bin f p k)
  | 0, _, _, h => h
  | f + 1, p, k, h => (place_bd h k 0 k).bind fun l _ => bin_bd f _ _ (h.perm (bubble_perm _ _ _))
theorem sort_bd {n : Nat} (h : 0 < n) : Bd n (fun r => Lt n r) (kas_sort n) := by
  refine (count_bd (n := n) ⟨h, fun x hx => by simpa using hx⟩).bind fun r hr => ?_
  by_cases c : r.1 < n
  · rw [if_pos c]; exact bin_bd _ _ _ hr
  · rw [if_neg c]; exact hr
theorem wp_run {α : Type} {n : Nat} {R : α → Prop} {o : Nat → Nat → Bool} {cmp : Nat → Nat → (Bool → Shared → Prop) → Shared → Prop} {s : Shared} {Q : α → Shared → Prop}
    (hc : ∀ i j C, i < n → j < n → C (o i j) s → cmp i j C s) : ∀ {t : KasT α}, Bd n R t → Q (runT o t) s → t.kasWp cmp Q s
  | .ret _, _, h => h
  | .ask i j k, b, h => hc i j _ b.1 b.2.1 (wp_run hc (b.2.2 (o i j)) h)

section
variable {prog : Program} {w : World} {A : Around} {E : Value → Shared → Prop} {s : Shared}
/-- sorting a list whose keys' order is known, and whose asking changes nothing -/
theorem list_srt {a : Addr} {vs : List Value} {n : Nat} {P : PySem.Fin → Shared → Prop} {o : Nat → Nat → Bool} {κ : SortKind} (O : Ord o) (ho : s.heap.get? a = some (seqObj "list" vs.toArray n)) (h64 : vs.length < 64)
    (hk : 2 ≤ vs.length → ∀ (h' : Heap) (Q' : SortKind → Shared → Prop) (E' : Value → Shared → Prop), (∀ b ob, b ≠ a → s.heap.get? b = some ob → h'.get? b = some ob) → Q' κ { s with heap := h' } → wpAny (model prog w) A (keyKind' vs.toArray) Q' E' { s with heap := h' })
    (hc : ∀ (h' : Heap) (i j : Nat) (Q' : Bool → Shared → Prop), (∀ b ob, b ≠ a → s.heap.get? b = some ob → h'.get? b = some ob) → i < vs.length → j < vs.length → Q' (o i j) { s with heap := h' } →
      wpAny (model prog w) A (keyLt' κ (vs.getD i Value.none) (vs.getD j Value.none)) Q' (fun _ _ => False) { s with heap := h' })
    (h : ∀ p : Array Nat, p.Perm (List.toArray (List.range vs.length)) → Inc o p vs.length → P (.done (.ret .none)) { s with heap := sortedHeap s.heap a vs (p.toList.map fun i => vs.getD i Value.none).toArray }) :
    wpAny (model prog w) A (Builtin.«list.sort» ⟨[.ref a], []⟩) P E s := by
  have ha : a < s.heap.objs.size := Heap.lt_size ho
  have hline : vs.length ≤ sizeLine := by rw [sizeLine_eq]; omega
  obtain ⟨e1, ho1⟩ : ∃ e1, (s.heap.update a (Obj.mapSeq fun _ => (#[] : Array Value))).get? a = some (seqObj "list" #[] e1) := ⟨_, get?_update_seq ho fun _ => #[]⟩
  have keep : ∀ b ob, b ≠ a → s.heap.get? b = some ob → (((s.heap.update a (Obj.mapSeq fun _ => (#[] : Array Value))).push (seqObj "tuple" vs.toArray 0)).push (seqObj "list" #[] 0)).get? b = some ob := fun b ob hb e =>
    Heap.get?_push_of_some _ (Heap.get?_push_of_some _ ((Heap.get?_update_ne _ _ _ _ hb).trans e))
  have ho6 := Heap.get?_push_of_some (seqObj "list" #[] 0) (Heap.get?_push_of_some (seqObj "tuple" vs.toArray 0) ho1)
  rw [list_sort_plain]
  refine wpAny_bind (listItems_at ho rfl (wpAny_bind (listUpdate_at ho rfl (wpAny_bind (seqEpoch_at ho1 rfl (wpAny_bind (wpAny_newTuple (wpAny_bind (wpAny_newList (wpAny_holding ?_) (Nat.zero_le _))) hline)))) (by rw [List.size_toArray]; exact hline) (Nat.zero_le _))))
  show wpAny (model prog w) A _ P E { s with heap := ((s.heap.update a (Obj.mapSeq fun _ => (#[] : Array Value))).push (seqObj "tuple" vs.toArray 0)).push (seqObj "list" #[] 0) }
  have fin : ∀ p : Array Nat, p.Perm (List.toArray (List.range vs.length)) → Inc o p vs.length → ∀ st : SortSt, (arrOf st).map (·.2) = (p.toList.map fun i => vs.getD i Value.none).toArray → failedOf st = none → (p.size = vs.length) →
      wpAny (model prog w) A (do
        let touched := (← seqEpoch a) != e1
        Builtin.List.listUpdate (.ref a) fun _ => (arrOf st).map (·.2)
        if let some e := failedOf st then rule "list.sort.comparison-raised"; throw e
        if touched then rule "list.sort.modified"; raiseError "ValueError" "list modified during sort"
        ret .none) P E { s with heap := ((s.heap.update a (Obj.mapSeq fun _ => (#[] : Array Value))).push (seqObj "tuple" vs.toArray 0)).push (seqObj "list" #[] 0) } := by
    intro p hp hi st ha' hf hz
    refine wpAny_bind (seqEpoch_at ho6 rfl (wpAny_bind (listUpdate_at ho6 rfl ?_ (Nat.zero_le _) ?_)))
    · rw [hf]
      simp only [bne_self_eq_false, Bool.false_eq_true, if_false, ha']
      exact wpAny_pure (h p hp hi)
    · rw [ha', List.size_toArray, List.length_map, Array.length_toList, hz]
      omega
  by_cases h2 : vs.toArray.size < 2
  · rw [if_pos h2, if_pos h2]
    refine wpAny_bind (wpAny_pure ?_)
    dsimp only
    rw [StateT.run_pure]
    refine wpAny_bind (wpAny_pure (fin (List.toArray (List.range vs.length)) (Array.Perm.refl _) (fun i j hij hj => ?_) _ ?_ rfl (by simp)))
    · rw [List.size_toArray] at h2
      have e : i = j := by omega
      subst e
      exact O.irr _
    · show (vs.toArray.zip vs.toArray).map (·.2) = _
      apply Array.toList_inj.mp
      rw [List.size_toArray] at h2
      match vs, h2 with
      | [], _ => simp
      | [v], _ => simp
      | _ :: _ :: _, h2 => simp at h2; omega
  · rw [if_neg h2, if_neg h2]
    rw [List.size_toArray] at h2
    refine wpAny_bind (hk (by omega) _ _ _ keep ?_)
    dsimp only
    refine wpAny_bind (wpAny_mono (kat_run (ks := vs) (vs := vs) (κ := κ) (Q := fun st' s' => ∃ p : Array Nat, p.Perm (List.toArray (List.range vs.length)) ∧ p.size = vs.length ∧ Inc o p vs.length ∧ (arrOf st').map (·.2) = (p.toList.map fun i => vs.getD i Value.none).toArray ∧ failedOf st' = none ∧
        s' = { s with heap := ((s.heap.update a (Obj.mapSeq fun _ => (#[] : Array Value))).push (seqObj "tuple" vs.toArray 0)).push (seqObj "list" #[] 0) })
      (G := fun p s' => s' = { s with heap := ((s.heap.update a (Obj.mapSeq fun _ => (#[] : Array Value))).push (seqObj "tuple" vs.toArray 0)).push (seqObj "list" #[] 0) } ∧ p = runT o (kas_sort vs.length)) rfl (by omega) h64
      (fun p st' s' z1 z2 z3 z4 => ?_) (wp_run (o := o) (fun i j C hi hj q => ?_) (sort_bd (by omega)) ⟨rfl, rfl⟩)) (fun r s' hq => ?_) fun _ _ e => e)
    · obtain ⟨w1, w2, w3⟩ := sort_ok O (by omega) p z4.2.symm
      exact ⟨p, w1, z1, w3, kat_snds rfl z2, z3, z4.1⟩
    · exact hc _ i j C keep hi hj q
    · obtain ⟨⟨⟩, st'⟩ := r
      obtain ⟨p, hp, hz, hi, ha', hf, rfl⟩ := hq
      exact fin p hp hi st' ha' hf hz
end
end Srt
namespace L2
open PySem PySem.Spec PyProof.Rows
/-! ### enumerate over a tuple -/
section
variable {prog : Program} {w : World} {A : Around} {E : Value → Shared → Prop} {s : Shared}
/-- what a tuple's iterator does, up to its question -/
theorem nextOf_tup {it t : Addr} {i : Nat} {items : Array Value} {Q : Value → Shared → Prop} (hit : s.heap.IsTupleIter it t i) (ht : s.heap.IsTuple t items)
    (hn : ∀ x, items[i]? = some x → ∀ h', h'.IsTupleIter it t (i + 1) → Heap.SameBut it s.heap h' → Q x { s with heap := h' })
    (he : items[i]? = none → A.handled = none ∧ ∀ h' e, Heap.ExtBut it s.heap h' → (∃ o, h'.get? e = some o ∧ o.cls = .type "StopIteration") → E (.ref e) { s with heap := h' }) :
    wpAny (model prog w) A (Builtin.SmallTypes.nextOf (.ref it)) Q E s := by
  obtain ⟨o, ho, hc, hd⟩ := id hit
  obtain ⟨ol, hol, _, nl, hdl⟩ := ht
  unfold Builtin.SmallTypes.nextOf
  refine wpAny_bind (wpAny_callSpecial?_slot (name := Str.ofString "__next__") hit.typeIs F.slot_tuple_iterator_next (wpAny_call_entry F.slot_tuple_iterator_next hit.typeIs F.entry_tuple_iterator_next ?_ (F.args_tuple_iterator_next_1 _)))
  show wpAny _ _ (field (.ref it) 0 >>= _) _ _ s
  refine wpAny_bind (wpAny_field ho hd (x := .ref t) rfl ?_)
  show wpAny _ _ (if (Value.ref t == Value.none) = true then _ else _) _ _ s
  rw [if_neg (show ¬ ((Value.ref t == Value.none) = true) from Bool.false_ne_true)]
  show wpAny _ _ (field (.ref it) 1 >>= _) _ _ s
  refine wpAny_bind (wpAny_field ho hd (x := .int i 0) rfl ?_)
  show wpAny _ _ (seqItems? (.ref t) >>= _) _ _ s
  refine wpAny_bind (wpAny_seqItems hol hdl ?_)
  cases hx : items[i]? with
  | some x =>
    simp only [Int.toNat_natCast, hx]
    refine wpAny_bind (wpAny_setField ho hd (by simp) (wpAny_pure ⟨x, rfl, wpAny_pure (hn x hx _ ?_ (Heap.SameBut.update ..))⟩))
    refine ⟨_, Heap.get?_update_self _ ho (Obj.isFreed_of_fields (Obj.data_mapFields hd _)), (Obj.cls_mapFields ..).trans hc, ?_⟩
    rw [Obj.data_mapFields hd]
    simp [rawInt]
  | none =>
    obtain ⟨hh, hE⟩ := he hx
    simp only [Int.toNat_natCast, hx]
    refine wpAny_bind (wpAny_rule (wpAny_bind (wpAny_setField ho hd (by simp) ?_)))
    show wpAny _ _ (newExc (.type "StopIteration") [] >>= _) _ _ _
    refine wpAny_bind ?_
    simp only [newExc, newTuple]
    refine wpAny_bind (wpAny_newObj_type ?_ (by size_fits))
    refine wpAny_bind (m := firstArgMember _ _) (wpAny_of_eq (a := Value.none) (by first | rfl | (simp only [firstArgMember]; rfl)) ?_)
    refine wpAny_newObj_type ?_ (by size_fits)
    simp only [raiseNew]
    refine wpAny_bind (wpAny_handled ?_)
    first | rw [show A.in1.handled = none from hh] | rw [hh]
    exact wpAny_bind (wpAny_pure (wpAny_throw (hE _ _ (((Heap.SameBut.update ..).extBut.push _).push _) ⟨_, Heap.get?_push_size _ rfl, rfl⟩)))
end
theorem draws_tup {prog : Program} {w : World} {A : Around} (hh : A.handled = none) (it l : Addr) (hne : l ≠ it) (items : Array Value) :
    Draws prog w A it [it, l] items.size (fun i v => items[i]? = some v) (fun i h => h.IsTupleIter it l i ∧ h.IsTuple l items) where
  live := fun _ _ st => let ⟨o, ho, _⟩ := st.1; ⟨o, ho⟩
  frame := fun _ _ _ st hk => ⟨st.1.at fun o e => hk it (by simp) o e, let ⟨o, ho, r⟩ := st.2; ⟨o, hk l (by simp) o ho, r⟩⟩
  item := fun i s Q E hi st hQ => nextOf_tup st.1 st.2 (fun x hx h' a b => hQ x h' s.toks hx ⟨a, st.2.extBut b.extBut hne⟩ b) fun hx => by
    rw [Array.getElem?_eq_none_iff] at hx
    omega
  done := fun s Q E st hE => nextOf_tup st.1 st.2 (fun x hx => by
    have := (Array.getElem?_eq_some_iff.mp hx).1
    omega) fun _ => ⟨hh, hE⟩
theorem enum_new (l : Addr) (items : Array Value) (n : Nat) (dct : Option Addr) (sl : Array (Option Value)) :
    Meets (Builtin.«enumerate.__new__» ⟨[.type "enumerate", .ref l], []⟩) (fun _ R s => s.heap.get? l = some { cls := .type "tuple", dict := dct, data := .seq items n, slots := sl } ∧
      R (.ok (.ret (.ref (s.heap.push { cls := .type "tuple_iterator", data := .fields #[.ref l, .int 0 0] }).objs.size)))
        { s with heap := (s.heap.push { cls := .type "tuple_iterator", data := .fields #[.ref l, .int 0 0] }).push { cls := .type "enumerate", data := .fields #[.none, .bool false, .ref s.heap.objs.size, rawInt 0, .none, .none] } }) :=
  .of_wp fun prog w A R s h => by
    obtain ⟨hp, g, d, tk, os⟩ := s
    obtain ⟨hl, h⟩ := h
    have hsub := sub_enumerate
    have hL : Heap.IsTuple (Shared.heap ⟨hp, g, d, tk, os⟩) l items := ⟨_, hl, rfl, n, rfl⟩
    wp_walk using AutoSeq1.wpAny_loadPart' hl
    refine wpAny_stack_any fun st => wpAny_pure ?_
    split
    · rename_i c _ _ _ _ _
      cases (c == Value.type "enumerate") <;> (wp_walk using AutoSeq1.wpAny_loadPart' hl, wpAny_pyIter_tuple hL) <;> exact ⟨_, rfl, h⟩
    · wp_walk using AutoSeq1.wpAny_loadPart' hl, wpAny_pyIter_tuple hL
      exact ⟨_, rfl, h⟩
/-- the tuple at a, with its places: each turn a new pair -/
def Ite (K : PySem.W.Frag) (a : Addr) : It :=
  ⟨fun i H => ∃ xs x, SqT K H a xs ∧ xs[i]? = some x, fun i H x H' => ∃ T y, H T = none ∧ x = .ref T ∧ H' = upd H T (.tup [.int i, y]) ∧ ∀ xs, SqT K H a xs → xs[i]? = some y, fun i H => ∃ xs, SqT K H a xs ∧ xs.length = i⟩
theorem turn_enum {P : Program} {w : World} {K : PySem.W.Frag} {es : List Expr} {k : Nat} {pos : Pos} (a e it : Addr) (hne : e ≠ it) : Turn P w K (.Tuple es k pos) (Ite K a) [e, it] e (fun i h => (∃ old, IsEnum h e it i old) ∧ h.IsTupleIter it a i) where
  mem := by simp
  obj := fun i h st b hb => by
    obtain ⟨⟨old, h1⟩, o, h2, _, h3⟩ := st
    rcases List.mem_cons.mp hb with rfl | hb
    · exact ⟨_, h1, fun v z => by cases (show Data.fields _ = Data.cell v from z)⟩
    · obtain rfl : b = it := by simpa using hb
      exact ⟨o, h2, fun v z => by rw [h3] at z; cases z⟩
  keep := fun i h h' st kp => by
    obtain ⟨⟨old, h1⟩, h2⟩ := st
    exact ⟨⟨old, kp e (by simp) _ h1⟩, h2.at fun o q => kp it (by simp) o q⟩
  item := by
    intro X hP hw hK hc i pins s σ H E I hf st hg
    subst hP hw hK
    obtain ⟨xs, x, hq, hx⟩ := hg
    obtain ⟨its, rv, p, hz⟩ := I.tuple hq
    obtain ⟨u, hu, ru⟩ := rv.get hx
    obtain ⟨⟨old, h1⟩, h2⟩ := st
    have p' : s.heap.IsTuple a its.toArray := p
    obtain ⟨e0, e1, e2, e3, e4, e5⟩ := hf e (by simp)
    obtain ⟨f0, f1, f2, f3, f4, f5⟩ := hf it (by simp)
    have nai : a ≠ it := by
      rintro rfl
      obtain ⟨o, h3, h4, _⟩ := h2
      obtain ⟨o', h5, h6, _⟩ := p'
      rw [h3] at h5; cases h5; rw [h4] at h6; injection h6 with z; exact absurd z (by decide)
    have nae : e ∉ [it, a] := by
      intro z
      rcases List.mem_cons.mp z with q | q
      · exact hne q
      · obtain rfl : e = a := by simpa using q
        obtain ⟨o', h5, h6, _⟩ := p'
        rw [h1] at h5; cases h5; injection h6 with z; exact absurd z (by decide)
    have hil : i < its.length := (List.getElem?_eq_some_iff.mp hu).1
    refine wpAny_pyNext_enum_itemD (draws_tup (prog := X.prog) (w := X.w) (show X.A.in1.handled = none from I.ok.hd hc) it a nai its.toArray) h1 ⟨h2, p'⟩ (by simpa using hil) hne nae fun y h' tk hy ho st' hT hsz hk => ?_
    obtain rfl : y = u := by
      have hy' : its.toArray[i]? = some y := hy
      rw [List.getElem?_toArray, hu] at hy'
      exact (Option.some.inj hy').symm
    refine ⟨_, rfl, wpAny_letOwnedTupleGo_enum (s := { s with heap := h', toks := tk + 1 }) ho fun h'' he hs => ?_⟩
    have kept : ∀ b ob, b ≠ e → b ≠ it → s.heap.get? b = some ob → h''.get? b = some ob := fun b ob n1 n2 q => (hs.2 b n1).trans (hk b ob n1 n2 q)
    have fr : H s.heap.objs.size = none := I.fresh
    have ok' : HOk X.prog X.w H h'' := fun b v q => (I.hok b v q).stay (fun c z hc' r => by
      have hct : ∃ z, H c = some z := by
        rcases hc' with rfl | hc'
        · exact ⟨_, q⟩
        · exact ⟨_, hc'⟩
      obtain ⟨z', hz'⟩ := hct
      exact kept c z (by rintro rfl; rw [e0] at hz'; cases hz') (by rintro rfl; rw [f0] at hz'; cases hz') r) (fun _ r => r) fun _ _ r => r
    have nT : ∀ b ob, s.heap.get? b = some ob → b ≠ s.heap.objs.size := fun b ob q => Nat.ne_of_lt (Heap.lt_size q)
    have hT'' : h''.get? s.heap.objs.size = some { cls := .type "tuple", data := .seq #[.int i tk, y] } := (hs.2 _ (Ne.symm (nT _ _ h1))).trans hT
    have okT : HOk X.prog X.w (upd H s.heap.objs.size (.tup [.int i, x])) h'' := fun b v q => by
      by_cases hb : b = s.heap.objs.size
      · subst hb
        rw [upd_same] at q
        cases q
        exact ⟨by show 2 ≤ sizeLine; decide, [.int i tk, y], .cons ⟨tk, rfl⟩ (.cons ru .nil), _, hT'', rfl, _, rfl⟩
      · rw [upd_ne hb] at q
        exact (ok' b v q).stay (fun _ _ _ r => r) (fun c r => by rw [upd_ne (ne_of_none r fr)]; exact r) fun c ys r => by rw [upd_ne (ne_of_none r fr)]; exact r
    have I1 : Inv X pins σ (upd H s.heap.objs.size (.tup [.int i, x])) { s with heap := h'', gens := s.gens, drawn := s.drawn, toks := tk + 1 } := by
      refine I.step (ch := [e, it]) (fun b hb => ?_) (fun b ob _ _ hb q _ => kept b ob (fun z => hb (by simp [z])) (fun z => hb (by simp [z])) q) (fun b ob _ _ hb q _ => ⟨ob.slots, kept b ob (fun z => hb (by simp [z])) (fun z => hb (by simp [z])) q⟩)
        (fun b ob _ q n => by rw [upd_ne (nT b ob q)]; exact n) (fun b ob hb q => ⟨ob, kept b ob (fun z => hb (by simp [z])) (fun z => hb (by simp [z])) q⟩)
        (fun b ys q => by rw [upd_ne (ne_of_none q fr)]; exact q) (fun b ob v q => by rw [upd_ne (ne_of_none q fr)]; exact q) (fun b ps q => ⟨#[], by rw [upd_ne (ne_of_none q fr), q]; simp⟩)
        (fun m hm => hm.at' fun ob q => kept _ ob (Ne.symm e1) (Ne.symm f1) q) okT I.bare
      rcases List.mem_cons.mp hb with rfl | hb
      · exact ⟨e3, e1, e4, e5⟩
      · obtain rfl : b = it := by simpa using hb
        exact ⟨f3, f1, f4, f5⟩
    refine ⟨.ref s.heap.objs.size, _, I1, rfl, ⟨_, x, fr, rfl, rfl, fun ys hy => by rw [I.tuple_inj hy hq]; exact hx⟩, ⟨⟨_, he⟩, st'.1.at fun ob q => (hs.2 it (Ne.symm hne)).trans q⟩, fun b hb => ?_⟩
    rcases List.mem_cons.mp hb with rfl | hb
    · rw [upd_ne (nT _ _ h1)]; exact e0
    · obtain rfl : b = it := by simpa using hb
      obtain ⟨ob, q, _⟩ := h2
      rw [upd_ne (nT _ _ q)]; exact f0
  done := by
    intro X hP hw hK hc i pins s σ H E I hf st hg
    subst hP hw hK
    obtain ⟨xs, hq, rfl⟩ := hg
    obtain ⟨its, rv, p, hz⟩ := I.tuple hq
    obtain ⟨⟨old, h1⟩, h2⟩ := st
    have p' : s.heap.IsTuple a its.toArray := p
    obtain ⟨f0, f1, f2, f3, f4, f5⟩ := hf it (by simp)
    have nai : a ≠ it := by
      rintro rfl
      obtain ⟨o, h3, h4, _⟩ := h2
      obtain ⟨o', h5, h6, _⟩ := p'
      rw [h3] at h5; cases h5; rw [h4] at h6; injection h6 with z; exact absurd z (by decide)
    have hl : xs.length = its.toArray.size := by rw [List.size_toArray]; exact rv.length
    exact wpAny_pyNext_enum_endD (draws_tup (prog := X.prog) (w := X.w) (show X.A.in1.handled = none from I.ok.hd hc) it a nai its.toArray) h1 (by rw [← hl]; exact ⟨h2, p'⟩) fun h' eb => ⟨rfl, I.turned (t' := s.toks) (fun b o hb q => eb b o hb q) f0 f1 f3 f4 f5⟩
  self := fun _ _ _ _ _ st h => let ⟨⟨_, h1⟩, _⟩ := st; wpAny_pyIter_enum h1 h
section
variable {X : Cx}
def iEnum (K : PySem.W.Frag) (ta : TA) : TI := fun σ H R => ta σ H fun vs H1 => ∃ a, vs = [.ref a] ∧ (∃ xs, SqT K H1 a xs) ∧ R (Ite K a) H1
theorem pi_enum {l : Expr} {ta : TA} {es : List Expr} {k : Nat} {tp p pos : Pos} (hg : Gl X "enumerate") (hm : X.mg "enumerate" = none) (ha : PA X [l] ta) (hs : starEach [l] X.env = [(false, eval l X.env)] := by rfl) :
    PI X (.Tuple es k tp) (.Call (.Name "enumerate" p) [l] [] pos) (iEnum X.K ta) := by
  intro pins s σ H R I h
  refine Call_ (ld_blt I hg hm boot_enumerate (PyProof.Rows.callWith_type1 (thn (ha pos pins s σ H _ I h) fun us s1 ⟨vs, H1, I1, r1, q1⟩ => ?_) hs rfl))
  obtain ⟨a, rfl, ⟨xs, hq⟩, q⟩ := q1
  obtain ⟨u, rfl, ru⟩ := r1.one
  obtain rfl : u = Value.ref a := ru
  obtain ⟨its, rv, pt, hz⟩ := I1.tuple hq
  obtain ⟨⟨c, dct, dt, sl⟩, ho, hc, n, hd⟩ := pt
  replace hc : c = .type "tuple" := hc
  replace hd : dt = .seq its.toArray n := hd
  subst hc hd
  have hz1 : (s1.heap.push { cls := .type "tuple_iterator", data := .fields #[.ref a, .int 0 0] }).objs.size = s1.heap.objs.size + 1 := Heap.size_push ..
  refine callType_new F.called_enumerate (by decide) (F.typeCall_enumerate_1 _) (F.newCall_enumerate_1 _) (fun obj => F.args_object_init_2 obj _) F.entry_enumerate_new (enum_new a its.toArray n dct sl) ⟨ho, ?_⟩
  rw [hz1]
  have he := Heap.get?_push_size (s1.heap.push { cls := .type "tuple_iterator", data := .fields #[.ref a, .int 0 0] }) (o := { cls := .type "enumerate", data := .fields #[.none, .bool false, .ref s1.heap.objs.size, rawInt 0, .none, .none] }) rfl
  rw [hz1] at he
  refine ⟨⟨_, he, rfl⟩, wpAny_pyIter_enum he ?_⟩
  have up : ∀ b o, s1.heap.get? b = some o → ((s1.heap.push { cls := .type "tuple_iterator", data := .fields #[.ref a, .int 0 0] }).push { cls := .type "enumerate", data := .fields #[.none, .bool false, .ref s1.heap.objs.size, rawInt 0, .none, .none] }).get? b = some o :=
    fun b o e => Heap.get?_push_of_some _ (Heap.get?_push_of_some _ e)
  refine ⟨s1.heap.objs.size + 1, [s1.heap.objs.size + 1, s1.heap.objs.size], _, _, H1, rfl, I1.kept (t' := s1.toks) up, turn_enum a _ s1.heap.objs.size (Nat.succ_ne_self _), ⟨⟨_, he⟩, ⟨_, Heap.get?_push_of_some _ (Heap.get?_push_size _ rfl), rfl, rfl⟩⟩, fun b hb => ?_, q⟩
  have hb' : s1.heap.objs.size ≤ b := by
    rcases List.mem_cons.mp hb with rfl | hb
    · exact Nat.le_succ _
    · obtain rfl : b = s1.heap.objs.size := by simpa using hb
      exact Nat.le_refl _
  exact I1.fpOk hb' (I1.hok.fresh hb')
/-- over a tuple with its places -/
theorem for_enum {K : PySem.W.Frag} {a : Addr} {xs : List V} {g : TG} {tb : TS} {D : Ends} {σ : St} {H : Hp} (Pv : Nat → St → Hp → Prop) (h0 : Pv 0 σ H) (hl : ∀ i σ H, i ≤ xs.length → Pv i σ H → SqT K H a xs)
    (hs : ∀ i x σ H T, xs[i]? = some x → H T = none → Pv i σ H → g (.ref T) σ (upd H T (.tup [.int i, x])) fun σ2 H2 => tb { D with nx := Pv (i + 1), ct := Pv (i + 1), bk := D.nx } σ2 H2) (hd : ∀ σ H, Pv xs.length σ H → D.nx σ H) :
    ∃ W : Nat → Nat → St → Hp → Prop, (∃ m, W 0 m σ H) ∧ ∀ i m σ H, W i m σ H →
      ((Ite K a).stop i H ∧ D.nx σ H) ∨ ((Ite K a).go i H ∧ ∃ N : St → Hp → Prop, (∀ σ' H', N σ' H' → ∃ m', m' < m ∧ W (i + 1) m' σ' H') ∧ ∀ x H', (Ite K a).yld i H x H' → g x σ H' fun σ2 H2 => tb { D with nx := N, ct := N, bk := D.nx } σ2 H2) := by
  refine ⟨fun i m σ H => m = xs.length - i ∧ i ≤ xs.length ∧ Pv i σ H, ⟨xs.length, rfl, Nat.zero_le _, h0⟩, ?_⟩
  rintro i m σ H ⟨rfl, hi, p⟩
  have q := hl i σ H hi p
  rcases Nat.lt_or_ge i xs.length with hlt | hge
  · refine .inr ⟨⟨xs, xs[i], q, by simp [hlt]⟩, Pv (i + 1), fun σ' H' p' => ⟨xs.length - (i + 1), by omega, rfl, hlt, p'⟩, fun x H' ⟨T, y, fT, e1, e2, ey⟩ => ?_⟩
    subst e1 e2
    exact hs i y σ H T (ey xs q) fT p
  · obtain rfl : i = xs.length := by omega
    exact .inl ⟨⟨xs, q, rfl⟩, hd σ H p⟩
end

/-! ### sorted, of tuples of two ints -/
def PrV (K : PySem.W.Frag) (H : Hp) (v : V) (p : Int × Int) : Prop := ∃ a, v = .ref a ∧ SqT K H a [.int p.1, .int p.2]
def lexI (a b : Int × Int) : Bool := if a.1 = b.1 then decide (a.2 < b.2) else decide (a.1 < b.1)
theorem lexI_ord (f : Nat → Int × Int) : Srt.Ord fun i j => lexI (f i) (f j) := by
  constructor
  · intro a b h
    unfold lexI at h ⊢
    by_cases e : (f a).1 = (f b).1
    · rw [if_pos e, decide_eq_true_eq] at h
      rw [if_pos e.symm, decide_eq_false_iff_not]
      omega
    · rw [if_neg e, decide_eq_true_eq] at h
      rw [if_neg (Ne.symm e), decide_eq_false_iff_not]
      omega
  · intro a b c h1 h2
    unfold lexI at h1 h2 ⊢
    split at h1 <;> split at h2 <;> split <;> simp only [decide_eq_false_iff_not] at h1 h2 ⊢ <;> omega
theorem paired_get {α β : Type} {F : α → β → Prop} : ∀ {xs : List α} {ys : List β} {i : Nat} {x : α}, Paired F xs ys → xs[i]? = some x → ∃ y, ys[i]? = some y ∧ F x y
  | _, _, _, _, .nil, e => by simp at e
  | _, _, 0, _, .cons r _, e => by
    obtain rfl := by simpa using e
    exact ⟨_, rfl, r⟩
  | _, _, i + 1, x, .cons _ t, e => by
    obtain ⟨y, h1, h2⟩ := paired_get (i := i) (x := x) t (by simpa using e)
    exact ⟨y, by simpa using h1, h2⟩
theorem paired_of {α β : Type} {F : α → β → Prop} : ∀ {xs : List α} {ys : List β}, xs.length = ys.length → (∀ (i : Nat) x y, xs[i]? = some x → ys[i]? = some y → F x y) → Paired F xs ys
  | [], [], _, _ => .nil
  | x :: xs, y :: ys, hl, h => .cons (h 0 x y rfl rfl) (paired_of (by simpa using hl) fun i a b e1 e2 => h (i + 1) a b (by simpa using e1) (by simpa using e2))
section
variable {X : Cx} {pins : List (Addr × Obj)} {σ : St} {H : Hp} {s : Shared}
theorem call_sortedP : CallR X (.builtin "sorted") (fun xs H Q => ∃ (p : Addr) (ys : List V) (ps : List (Int × Int)) (F : V → Int × Int → Prop), xs = [.ref p] ∧ (SqL X.K H p ys ∨ SqT X.K H p ys) ∧ Paired F ys ps ∧ (∀ v q, F v q → PrV X.K H v q) ∧ ys.length < 64 ∧
    ∀ (l : Addr) (zs : List V) (qs : List (Int × Int)), H l = none → Paired F zs qs → zs.Perm ys → qs.Perm ps → qs.Pairwise (fun a b => lexI b a = false) → Q (.ref l) (upd H l (.lst zs))) := by
  intro pins s σ H xs us Q I r h
  obtain ⟨p, ys, ps, Fr, rfl, hsq, hp, hFr, h64, q⟩ := h
  obtain ⟨u, rfl, ru⟩ := r.one
  obtain rfl : u = Value.ref p := ru
  have hline : ys.length ≤ sizeLine := by rw [sizeLine_eq]; omega
  obtain ⟨its, rv, T, o, n, hT, ho, hc, hd⟩ : ∃ (its : List Value), Vals ys its ∧ ∃ (T : String) (o : Obj) (n : Nat), (T = "list" ∨ T = "tuple") ∧ s.heap.get? p = some o ∧ o.cls = .type T ∧ o.data = .seq its.toArray n := by
    rcases hsq with hsq | hsq
    · obtain ⟨its, rv, pl, _⟩ := I.list hsq
      obtain ⟨o, ho, hc, n, hd⟩ := pl.isList
      exact ⟨its, rv, _, o, n, .inl rfl, ho, hc, hd⟩
    · obtain ⟨its, rv, pl, _⟩ := I.tuple hsq
      obtain ⟨o, ho, hc, n, hd⟩ := pl
      exact ⟨its, rv, _, o, n, .inr rfl, ho, hc, hd⟩
  have hlen := rv.length
  have hlp := Paired.length hp
  -- each item is a tuple of two ints, and stays so
  have item : ∀ i, i < its.length → ∃ a ob tk tk', its.getD i Value.none = .ref a ∧ s.heap.get? a = some ob ∧ ob.cls = .type "tuple" ∧ (∃ k, ob.data = .seq #[.int (ps.getD i (0, 0)).1 tk, .int (ps.getD i (0, 0)).2 tk'] k) := by
    intro i hi
    obtain ⟨y, hy⟩ : ∃ y, ys[i]? = some y := ⟨ys[i]'(by omega), List.getElem?_eq_getElem (by omega)⟩
    obtain ⟨u, hu, ru⟩ := rv.get hy
    obtain ⟨pr, hpr, hpf⟩ := paired_get hp hy
    obtain ⟨a, rfl, ht⟩ := hFr _ _ hpf
    obtain rfl : u = Value.ref a := ru
    obtain ⟨jt, jv, pt, _⟩ := I.tuple ht
    obtain ⟨ob, h1, h2, k, h3⟩ := pt
    cases jv with
    | cons r1 rr =>
      cases rr with
      | cons r2 rr =>
        cases rr
        obtain ⟨t1, rfl⟩ := r1
        obtain ⟨t2, rfl⟩ := r2
        refine ⟨a, ob, t1, t2, by simp [List.getD, hu], h1, h2, k, ?_⟩
        have : ps.getD i (0, 0) = pr := by simp [List.getD, hpr]
        rw [this]
        exact h3
  refine Calls.call_function_entry kind_sorted plain_sorted entry_sorted (args_sorted1 _) ?_
  unfold Builtin.«sorted»
  refine wpAny_bind (m := checkCount "sorted" 1 1 _) (wpAny_pure ?_)
  refine wpAny_bind (wpAny_collect_seq p hT ho hc hd (fun h1 k1 => ?_) (by rw [List.size_toArray, ← hlen]; exact hline))
  have I1 : Inv X pins σ H { s with heap := h1 } := I.kept (t' := s.toks) k1
  refine wpAny_bind (wpAny_newList ?_ (by show its.toArray.toList.length ≤ sizeLine; rw [List.toList_toArray, ← hlen]; exact hline))
  have hoL : (h1.push (seqObj "list" its.toArray 0)).get? h1.objs.size = some (seqObj "list" its.toArray 0) := Heap.get?_push_size _ rfl
  have k2 : ∀ b ob, h1.get? b = some ob → (h1.push (seqObj "list" its.toArray 0)).get? b = some ob := fun b ob e => Heap.get?_push_of_some _ e
  have nL : ∀ b ob, s.heap.get? b = some ob → b ≠ h1.objs.size := fun b ob e => Nat.ne_of_lt (Heap.lt_size (k1 b ob e))
  show wpAny _ _ (holding [Value.ref h1.objs.size] (call (.builtin "list.sort") [Value.ref h1.objs.size]) >>= _) _ _ { s with heap := h1.push (seqObj "list" its.toArray 0) }
  refine wpAny_bind (wpAny_holding (wpAny_call_entry slot_list_sort ⟨_, hoL, rfl⟩ entry_list_sort (Srt.list_srt (o := fun i j => lexI (ps.getD i (0, 0)) (ps.getD j (0, 0))) (κ := tuples' true) (lexI_ord _) hoL (by omega) ?hk ?hc fun pm hpm hinc => ⟨_, rfl, wpAny_pure ⟨_, rfl, ?_⟩⟩) (args_list_sort _)))
  case hk =>
    intro h2 h' Q' E' kp hq
    have tups : ∀ (l : List Value), (∀ v ∈ l, ∃ i, i < its.length ∧ its.getD i Value.none = v) → ∃ fs, PySem.W.KatTups h' l fs ∧ l.length = fs.length ∧ ∀ v ∈ fs, ∃ n t, v = Value.int n t := by
      intro l
      induction l with
      | nil => intro _; exact ⟨[], trivial, rfl, fun v hv => by simp at hv⟩
      | cons v r ih =>
        intro hl
        obtain ⟨fs, f1, f2, f3⟩ := ih fun v hv => hl v (List.mem_cons_of_mem _ hv)
        obtain ⟨i, hi, e⟩ := hl v List.mem_cons_self
        obtain ⟨a, ob, t1, t2, e2, g1, g2, k, g3⟩ := item i hi
        rw [e] at e2
        subst e2
        refine ⟨.int (ps.getD i (0, 0)).1 t1 :: fs, PySem.W.KatTups.cons (kp a ob (nL a ob g1) (k2 a ob (k1 a ob g1))) g2 g3 rfl f1, by simp [f2], fun v hv => ?_⟩
        rcases List.mem_cons.mp hv with rfl | hv
        · exact ⟨_, _, rfl⟩
        · exact f3 v hv
    obtain ⟨fs, f1, f2, f3⟩ := tups its fun v hv => by
      obtain ⟨i, hi, e⟩ := List.getElem_of_mem hv
      exact ⟨i, hi, by simp [List.getD, hi, e]⟩
    refine PySem.W.kat_kind (s := { s with heap := h' }) (T := .type "int") f1 (by omega) (fun v hv => ?_) rfl hq
    obtain ⟨n, t, rfl⟩ := f3 v hv
    exact .now
  case hc =>
    intro h' i j Q' kp hi hj hq
    obtain ⟨a, ob, t1, t2, e1, g1, g2, k, g3⟩ := item i hi
    obtain ⟨b, ob', u1, u2, e2, g4, g5, k', g6⟩ := item j hj
    rw [e1, e2]
    refine PySem.W.kat_lt (s := { s with heap := h' }) (kp a ob (nL a ob g1) (k2 a ob (k1 a ob g1))) g3 (kp b ob' (nL b ob' g4) (k2 b ob' (k1 b ob' g4))) g6 ?_
    refine PySem.W.kat_cons (wpAny_eqBool_int ?_)
    by_cases e3 : (ps.getD i (0, 0)).1 = (ps.getD j (0, 0)).1
    · have hq' : Q' (decide ((ps.getD i (0, 0)).2 < (ps.getD j (0, 0)).2)) { s with heap := h' } := by
        have : lexI (ps.getD i (0, 0)) (ps.getD j (0, 0)) = decide ((ps.getD i (0, 0)).2 < (ps.getD j (0, 0)).2) := by unfold lexI; rw [if_pos e3]
        rw [← this]; exact hq
      rw [beq_iff_eq.mpr e3]
      refine PySem.W.kat_yes (PySem.W.kat_cons (wpAny_eqBool_int ?_))
      by_cases e4 : (ps.getD i (0, 0)).2 = (ps.getD j (0, 0)).2
      · rw [beq_iff_eq.mpr e4]
        refine PySem.W.kat_yes (PySem.W.kat_nil ?_)
        have : decide ((ps.getD i (0, 0)).2 < (ps.getD j (0, 0)).2) = false := decide_eq_false (by omega)
        rw [this] at hq'
        exact hq'
      · rw [beq_eq_false_iff_ne.mpr e4]
        exact PySem.W.kat_no (PySem.W.kat_one _ _ (lt_int hq'))
    · have hq' : Q' (decide ((ps.getD i (0, 0)).1 < (ps.getD j (0, 0)).1)) { s with heap := h' } := by
        have : lexI (ps.getD i (0, 0)) (ps.getD j (0, 0)) = decide ((ps.getD i (0, 0)).1 < (ps.getD j (0, 0)).1) := by unfold lexI; rw [if_neg e3]
        rw [← this]; exact hq
      rw [beq_eq_false_iff_ne.mpr e3]
      exact PySem.W.kat_no (oneLt_int hq')
  -- the new list
  have pml : pm.toList.Perm (List.range its.length) := by simpa using (Array.perm_iff_toList_perm.mp hpm)
  have pmlt : ∀ i ∈ pm.toList, i < its.length := fun i hi => List.mem_range.mp (pml.mem_iff.mp hi)
  obtain ⟨ep, hat⟩ := sortedHeap_at (out := (pm.toList.map fun i => its.getD i Value.none).toArray) hoL
  have old : ∀ b ob, h1.get? b = some ob → (sortedHeap (h1.push (seqObj "list" its.toArray 0)) h1.objs.size its (pm.toList.map fun i => its.getD i Value.none).toArray).get? b = some ob := fun b ob e => by
    rw [sortedHeap_old (Nat.ne_of_lt (Heap.lt_size e)) (by rw [size_push']; exact Nat.lt_succ_of_lt (Heap.lt_size e))]
    exact k2 b ob e
  have nvals : Vals (pm.toList.map fun i => ys.getD i V.non) (pm.toList.map fun i => its.getD i Value.none) := by
    refine paired_of (by simp) fun i x u e1 e2 => ?_
    rw [List.getElem?_map] at e1 e2
    cases e : pm.toList[i]? with
    | none => rw [e] at e1; cases e1
    | some m =>
      rw [e] at e1 e2
      cases e1
      cases e2
      have hm := pmlt m (List.mem_of_getElem? e)
      obtain ⟨u, hu, ru⟩ := rv.get (List.getElem?_eq_getElem (by omega : m < ys.length))
      simp only [List.getD, List.getElem?_eq_getElem (by omega : m < ys.length), hu, Option.getD_some]
      exact ru
  have hz : (pm.toList.map fun i => ys.getD i V.non).length ≤ sizeLine := by rw [List.length_map, pml.length_eq, List.length_range]; omega
  have permOf : ∀ {α : Type} (l : List α) (d : α), l.length = its.length → (pm.toList.map fun i => l.getD i d).Perm l := fun {α} l d hl => by
    have e : (List.range its.length).map (fun i => l.getD i d) = l := by
      rw [← hl]
      apply List.ext_getElem?
      intro k
      rw [List.getElem?_map]
      by_cases hk : k < l.length
      · simp [List.getD, hk]
      · rw [List.getElem?_eq_none (by simpa using hk), List.getElem?_eq_none (by simpa using hk)]
        rfl
    have := pml.map fun i => l.getD i d
    rw [e] at this
    exact this
  have I2 := I1.laid (t' := s.toks) (a := h1.objs.size) (o := .lst (pm.toList.map fun i => ys.getD i V.non)) old (Nat.le_refl _) ⟨hz, _, ep, nvals, hat⟩
  refine ⟨.ref h1.objs.size, _, I2, rfl, q _ _ (pm.toList.map fun i => ps.getD i (0, 0)) I1.fresh (paired_of (by simp) fun i x y e1 e2 => ?_) (permOf ys V.non (by omega)) (permOf ps (0, 0) (by omega)) ?_⟩
  · rw [List.getElem?_map] at e1 e2
    cases e : pm.toList[i]? with
    | none => rw [e] at e1; cases e1
    | some m =>
      rw [e] at e1 e2
      cases e1
      cases e2
      have hm := pmlt m (List.mem_of_getElem? e)
      obtain ⟨y, hy, hF⟩ := paired_get hp (List.getElem?_eq_getElem (by omega : m < ys.length))
      simp only [List.getD, List.getElem?_eq_getElem (by omega : m < ys.length), hy, Option.getD_some]
      exact hF
  · rw [List.pairwise_map]
    rw [List.pairwise_iff_getElem]
    intro i j hi hj hij
    have hj' : j < its.length := by rw [pml.length_eq, List.length_range] at hj; exact hj
    have := hinc i j (Nat.le_of_lt hij) hj'
    simp only [Array.getD_eq_getD_getElem?] at this
    rw [show pm[i]? = some (pm.toList[i]) by rw [← Array.getElem?_toList]; exact List.getElem?_eq_getElem hi, show pm[j]? = some (pm.toList[j]) by rw [← Array.getElem?_toList]; exact List.getElem?_eq_getElem hj] at this
    exact this
end
end L2
namespace L2
open PySem PySem.Spec PyProof.Rows
theorem Same.sqT {K : PySem.W.Frag} {H H' : Hp} {a : Addr} {xs : List V} (e : Same H H') (h : SqT K H a xs) : SqT K H' a xs := by
  rcases h with (h | ⟨o, h⟩) | h
  · exact .inl (.inl (e _ _ h))
  · exact .inl (.inr ⟨o, e _ _ h⟩)
  · exact .inr h
/-- a comprehension whose items are told by a function; the heap may grow -/
theorem comp_fun {J : It} {σb : V → St} {tc : TT} {te : TE} {D : Addr} {Q : VK} {H : Hp} {xs : List V} (f : V → Option V) (hz : xs.length < sizeLine) (hD : H D = none)
    (hgo : ∀ i H', i < xs.length → Same H H' → J.go i H') (hy : ∀ (i : Nat) H' x H'', i < xs.length → Same H H' → J.yld i H' x H'' → H'' = H' ∧ xs[i]? = some x) (hst : ∀ H', Same H H' → J.stop xs.length H')
    (step : ∀ x ∈ xs, ∀ H', Same H H' → ∀ R : Option V → Hp → Prop, (∀ H'', Same H' H'' → R (f x) H'') → tc (σb x) H' fun b H2 => if b = true then te (σb x) H2 fun y H3 => R (some y) H3 else R none H2)
    (hQ : ∀ H', H' D = some (.lst (xs.filterMap f)) → Same H H' → Q (.ref D) H') : CompW J σb tc te D Q H := by
  refine ⟨fun i m ys H' => m = xs.length - i ∧ i ≤ xs.length ∧ ys = (xs.take i).filterMap f ∧ H' D = some (.lst ys) ∧ Same H H', ⟨xs.length, rfl, Nat.zero_le _, rfl, upd_same, fun b o e => ?_⟩, ?_⟩
  · rw [upd_ne (ne_of_none e hD)]; exact e
  · rintro i m ys H' ⟨rfl, hi, rfl, hd, hs⟩
    refine ⟨hd, ?_⟩
    rcases Nat.lt_or_ge i xs.length with hlt | hge
    · refine .inr ⟨hgo i H' hlt hs, fun x H'' hyl => ?_⟩
      obtain ⟨rfl, hx⟩ := hy i H' x H'' hlt hs hyl
      have htk : xs.take (i + 1) = xs.take i ++ [x] := by rw [List.take_add_one, hx]; rfl
      have hlen : ((xs.take i).filterMap f).length < sizeLine := Nat.lt_of_le_of_lt (Nat.le_trans (List.length_filterMap_le _ _) (by rw [List.length_take]; omega)) hz
      refine step x (List.mem_of_getElem? hx) _ hs (fun o H3 => match o with
        | some y => H3 D = some (.lst ((xs.take i).filterMap f)) ∧ ((xs.take i).filterMap f).length < sizeLine ∧ ∃ m', m' < xs.length - i ∧ (m' = xs.length - (i + 1) ∧ i + 1 ≤ xs.length ∧ (xs.take i).filterMap f ++ [y] = (xs.take (i + 1)).filterMap f ∧ (upd H3 D (.lst ((xs.take i).filterMap f ++ [y]))) D = some (.lst ((xs.take i).filterMap f ++ [y])) ∧ Same H (upd H3 D (.lst ((xs.take i).filterMap f ++ [y]))))
        | none => ∃ m', m' < xs.length - i ∧ (m' = xs.length - (i + 1) ∧ i + 1 ≤ xs.length ∧ (xs.take i).filterMap f = (xs.take (i + 1)).filterMap f ∧ H3 D = some (.lst ((xs.take i).filterMap f)) ∧ Same H H3)) fun H3 s3 => ?_
      have s4 : Same H H3 := hs.trans s3
      cases e : f x with
      | some y =>
        refine ⟨s3 _ _ hd, hlen, _, ?_, rfl, hlt, ?_, upd_same, fun b o q => ?_⟩
        · omega
        · rw [htk, List.filterMap_append]; simp [e]
        · rw [upd_ne (ne_of_none q hD)]; exact s4 b o q
      | none =>
        refine ⟨_, ?_, rfl, hlt, ?_, s3 _ _ hd, s4⟩
        · omega
        · rw [htk, List.filterMap_append]; simp [e]
    · obtain rfl : i = xs.length := by omega
      refine .inl ⟨hst H' hs, hQ H' ?_ hs⟩
      rw [hd, List.take_length]
theorem comp_list {K : PySem.W.Frag} {a : Addr} {σb : V → St} {tc : TT} {te : TE} {D : Addr} {Q : VK} {H : Hp} {xs : List V} (f : V → Option V) (h : SqL K H a xs) (hz : xs.length < sizeLine) (hD : H D = none)
    (step : ∀ x ∈ xs, ∀ H', Same H H' → ∀ R : Option V → Hp → Prop, (∀ H'', Same H' H'' → R (f x) H'') → tc (σb x) H' fun b H2 => if b = true then te (σb x) H2 fun y H3 => R (some y) H3 else R none H2)
    (hQ : ∀ H', H' D = some (.lst (xs.filterMap f)) → Same H H' → Q (.ref D) H') : CompW (Itl K a) σb tc te D Q H :=
  comp_fun f hz hD (fun i H' hi s => ⟨xs, xs[i], s.seq h, List.getElem?_eq_getElem hi⟩) (fun i H' x H'' hi s y => ⟨y.1, y.2 xs (s.seq h)⟩) (fun H' s => ⟨xs, s.seq h, Nat.le_refl _⟩) step hQ
theorem comp_tup {K : PySem.W.Frag} {a : Addr} {σb : V → St} {tc : TT} {te : TE} {D : Addr} {Q : VK} {H : Hp} {xs : List V} (f : V → Option V) (h : SqT K H a xs) (hz : xs.length < sizeLine) (hD : H D = none)
    (step : ∀ x ∈ xs, ∀ H', Same H H' → ∀ R : Option V → Hp → Prop, (∀ H'', Same H' H'' → R (f x) H'') → tc (σb x) H' fun b H2 => if b = true then te (σb x) H2 fun y H3 => R (some y) H3 else R none H2)
    (hQ : ∀ H', H' D = some (.lst (xs.filterMap f)) → Same H H' → Q (.ref D) H') : CompW (Itt K a) σb tc te D Q H :=
  comp_fun f hz hD (fun i H' hi s => ⟨xs, xs[i], s.sqT h, List.getElem?_eq_getElem hi⟩) (fun i H' x H'' hi s y => ⟨y.1, y.2 xs (s.sqT h)⟩) (fun H' s => ⟨xs, s.sqT h, Nat.le_refl _⟩) step hQ
theorem comp_range {lo : Int} {n : Nat} {σb : V → St} {tc : TT} {te : TE} {D : Addr} {Q : VK} {H : Hp} (f : V → Option V) (hz : n < sizeLine) (hD : H D = none)
    (step : ∀ i, i < n → ∀ H', Same H H' → ∀ R : Option V → Hp → Prop, (∀ H'', Same H' H'' → R (f (.int (lo + i))) H'') → tc (σb (.int (lo + i))) H' fun b H2 => if b = true then te (σb (.int (lo + i))) H2 fun y H3 => R (some y) H3 else R none H2)
    (hQ : ∀ H', H' D = some (.lst (((List.range n).map fun (i : Nat) => V.int (lo + i)).filterMap f)) → Same H H' → Q (.ref D) H') : CompW (Itr lo n) σb tc te D Q H := by
  refine comp_fun (xs := (List.range n).map fun (i : Nat) => V.int (lo + i)) f (by simpa using hz) hD (fun i H' hi s => by show i < n; simpa using hi) (fun i H' x H'' hi s y => ⟨y.1, ?_⟩) (fun H' s => by show n ≤ _; simp) (fun x hx => ?_) hQ
  · have hi' : i < n := by simpa using hi
    rw [y.2]
    simp [hi']
  · obtain ⟨i, hi, rfl⟩ := List.mem_map.mp hx
    exact step i (List.mem_range.mp hi)
/-- what a comprehension's names are -/
theorem has_of {names : List (Str × NameKind)} {cl : List (Str × Addr)} (h : ∀ p ∈ names, p.2 = .cell ∨ p.2 = .free → ∃ c, cl.lookup p.1 = some c) : ∀ y, (names.lookup y = some .cell ∨ names.lookup y = some .free) → ∃ c, cl.lookup y = some c := fun y q => by
  rcases q with q | q
  · exact h _ (PySem.mem_of_lookup q) (.inl rfl)
  · exact h _ (PySem.mem_of_lookup q) (.inr rfl)
end L2
namespace L2
open PySem PySem.Spec PyProof.Rows
/-- a comprehension by data: the items of xs bear ds; those that pass the test give what bears g -/
theorem comp_data {α β : Type} {J : It} {σb : V → St} {tc : TT} {te : TE} {D : Addr} {Q : VK} {H : Hp} {xs : List V} {ds : List α} (test : α → Bool) (g : α → β) (Rb : Hp → V → β → Prop)
    (hlen : xs.length = ds.length) (hz : xs.length < sizeLine) (hD : H D = none)
    (mono : ∀ H1 H2 v b, Same H1 H2 → Rb H1 v b → Rb H2 v b) (monoD : ∀ H1 ys zs v b, Same H H1 → H1 D = some (.lst ys) → Rb H1 v b → Rb (upd H1 D (.lst zs)) v b)
    (hgo : ∀ i H', i < xs.length → Same H H' → J.go i H') (hy : ∀ (i : Nat) H' x H'', i < xs.length → Same H H' → J.yld i H' x H'' → H'' = H' ∧ xs[i]? = some x) (hst : ∀ H', Same H H' → J.stop xs.length H')
    (step : ∀ (i : Nat) x d, xs[i]? = some x → ds[i]? = some d → ∀ H', Same H H' → (∃ ys, H' D = some (.lst ys)) → ∀ R : Option V → Hp → Prop, (test d = true → ∀ y H'', Same H' H'' → Rb H'' y (g d) → R (some y) H'') → (test d = false → ∀ H'', Same H' H'' → R none H'') →
      tc (σb x) H' fun b H2 => if b = true then te (σb x) H2 fun y H3 => R (some y) H3 else R none H2)
    (hQ : ∀ H' ys, H' D = some (.lst ys) → Paired (Rb H') ys ((ds.filter test).map g) → Same H H' → Q (.ref D) H') : CompW J σb tc te D Q H := by
  refine ⟨fun i m ys H' => m = xs.length - i ∧ i ≤ xs.length ∧ H' D = some (.lst ys) ∧ Paired (Rb H') ys (((ds.take i).filter test).map g) ∧ Same H H', ⟨xs.length, rfl, Nat.zero_le _, upd_same, .nil, fun b o e => ?_⟩, ?_⟩
  · rw [upd_ne (ne_of_none e hD)]; exact e
  · rintro i m ys H' ⟨rfl, hi, hd, hp, hs⟩
    refine ⟨hd, ?_⟩
    rcases Nat.lt_or_ge i xs.length with hlt | hge
    · refine .inr ⟨hgo i H' hlt hs, fun x H'' hyl => ?_⟩
      obtain ⟨rfl, hx⟩ := hy i H' x H'' hlt hs hyl
      obtain ⟨d, hdd⟩ : ∃ d, ds[i]? = some d := ⟨ds[i]'(by omega), List.getElem?_eq_getElem (by omega)⟩
      have htk : ds.take (i + 1) = ds.take i ++ [d] := by rw [List.take_add_one, hdd]; rfl
      have hl2 : ys.length < sizeLine := by
        rw [PySem.Paired.length hp, List.length_map]
        have := List.length_filter_le test (ds.take i)
        rw [List.length_take] at this
        omega
      refine step i x d hx hdd _ hs ⟨ys, hd⟩ (fun o H3 => match o with
        | some y => H3 D = some (.lst ys) ∧ ys.length < sizeLine ∧ ∃ m', m' < xs.length - i ∧ (m' = xs.length - (i + 1) ∧ i + 1 ≤ xs.length ∧ (upd H3 D (.lst (ys ++ [y]))) D = some (.lst (ys ++ [y])) ∧ Paired (Rb (upd H3 D (.lst (ys ++ [y])))) (ys ++ [y]) (((ds.take (i + 1)).filter test).map g) ∧ Same H (upd H3 D (.lst (ys ++ [y]))))
        | none => ∃ m', m' < xs.length - i ∧ (m' = xs.length - (i + 1) ∧ i + 1 ≤ xs.length ∧ H3 D = some (.lst ys) ∧ Paired (Rb H3) ys (((ds.take (i + 1)).filter test).map g) ∧ Same H H3)) (fun ht y H3 s3 hb => ?_) (fun ht H3 s3 => ?_)
      · have s4 : Same H H3 := hs.trans s3
        have hd3 := s3 _ _ hd
        refine ⟨hd3, hl2, _, ?_, rfl, hlt, upd_same, ?_, fun b o q => ?_⟩
        · omega
        · rw [htk, List.filter_append, List.map_append, List.filter_cons_of_pos ht]
          refine PySem.Paired.snoc (L2.Paired.mapP hp fun v b r => monoD _ _ _ _ _ s4 hd3 (mono _ _ _ _ s3 r)) (monoD _ _ _ _ _ s4 hd3 hb)
        · rw [upd_ne (ne_of_none q hD)]; exact s4 b o q
      · refine ⟨_, ?_, rfl, hlt, s3 _ _ hd, ?_, hs.trans s3⟩
        · omega
        · rw [htk, List.filter_append, List.filter_cons_of_neg (by rw [ht]; simp), List.filter_nil, List.append_nil]
          exact L2.Paired.mapP hp fun v b r => mono _ _ _ _ s3 r
    · obtain rfl : i = xs.length := by omega
      refine .inl ⟨hst H' hs, hQ H' ys hd ?_ hs⟩
      rw [hlen, List.take_length] at hp
      exact hp
end L2
namespace L2
open PySem PySem.Spec PyProof.Rows
/-! ### max(xs, key=len, default=d) -/
theorem args_maxkd (a v d : Value) : argsOk "max" ⟨[a], [(Str.ofString "key", v), (Str.ofString "default", d)]⟩ := by unfold argsOk; kernel_rfl
section
variable {prog : Program} {w : World} {A : Around} {E : Value → Shared → Prop} {s : Shared}
/-- what stands for the best so far -/
def bestObj (vs : List Value) (kf : Nat → Nat) : Option (Nat × Tok) → Array Value
  | none => #[]
  | some (i, t) => #[vs.getD i Value.none, .int (kf i) t]
def BestTo (kf : Nat → Nat) (i j : Nat) : Prop := i < j ∧ ∀ k, k < j → kf k ≤ kf i ∧ (k < i → kf k < kf i)
theorem max_loop {I l S : Addr} {vs : List Value} {d : Value} {kf : Nat → Nat} {R : Result → Shared → Prop} (hh : A.handled = none) (hsz : vs.length ≤ sizeLine) (hl : s.heap.IsList l vs.toArray) (hI : s.heap.objs.size ≤ I) (hS : s.heap.objs.size ≤ S) (hIS : S ≠ I)
    (hv : ∀ (i : Nat) v, vs[i]? = some v → ∃ a its, v = .ref a ∧ s.heap.IsList a its ∧ its.size = kf i ∧ its.size ≤ sizeLine)
    (h0 : vs = [] → ∀ h' tk, (∀ b o, s.heap.get? b = some o → h'.get? b = some o) → R (.ok (.ret d)) { s with heap := h', toks := tk })
    (h1 : ∀ i h' tk, BestTo kf i vs.length → (∀ b o, s.heap.get? b = some o → h'.get? b = some o) → R (.ok (.ret (vs.getD i Value.none))) { s with heap := h', toks := tk }) :
    ∀ (r j : Nat) (h : Heap) (tk c : Nat) (st : Option (Nat × Tok)), vs.length - j = r → j ≤ vs.length → (∀ b o, s.heap.get? b = some o → h.get? b = some o) → h.IsListIter I l j → h.get? S = some (seqObj "list" (bestObj vs kf st) c) →
      (match st with | none => j = 0 | some (i, _) => BestTo kf i j) →
      codeAny (model prog w) A (.builtin "max.loop" ⟨[.ref I, .builtin "len", .ref S], [(Str.ofString "default", d)]⟩) R { s with heap := h, toks := tk } := by
  have hname : (toString "max" ++ toString ".loop" : String) = "max.loop" := by decide
  have neI : ∀ b o, s.heap.get? b = some o → b ≠ I := fun b o e => Nat.ne_of_lt (Nat.lt_of_lt_of_le (Heap.lt_size e) hI)
  have neS : ∀ b o, s.heap.get? b = some o → b ≠ S := fun b o e => Nat.ne_of_lt (Nat.lt_of_lt_of_le (Heap.lt_size e) hS)
  have lst : ∀ {a : Addr} {its : Array Value} {h : Heap}, s.heap.IsList a its → (∀ b o, s.heap.get? b = some o → h.get? b = some o) → h.IsList a its := fun {a its h} ⟨o, ho, rest⟩ k => ⟨o, k a o ho, rest⟩
  intro r
  induction r with
  | zero =>
    intro j h tk c st hr hj kp hit hSo hst
    have ej : j = vs.length := by omega
    refine codeAny_builtin PySem.F.entry_max_loop ?_
    rw [Around.under_plainId PySem.F.plain_max_loop _]
    show wpAny _ A.in1 (seqItems? (.ref S) >>= _) _ _ _
    refine wpAny_bind (wpAny_seqItems hSo rfl ?_)
    show wpAny _ A.in1 (tryCatch (pyNext (.ref I)) _ >>= _) _ _ _
    refine wpAny_bind (wpAny_tryCatch (wpAny_pyNext_list_end (show A.in1.handled = none from hh) hit (lst hl kp) (by simp [ej]) fun h' eb => ?_))
    have kp' : ∀ b o, s.heap.get? b = some o → h'.get? b = some o := fun b o e => eb b o (neI b o e) (kp b o e)
    cases st with
    | none =>
      refine wpAny_bind (wpAny_rule ?_)
      refine wpAny_pure (h0 ?_ h' tk kp')
      have : j = 0 := hst
      exact List.length_eq_zero_iff.mp (by omega)
    | some it =>
      obtain ⟨i, t⟩ := it
      show wpAny _ A.in1 (updateSeq S (fun _ => #[]) >>= _) _ _ _
      refine wpAny_bind (wpAny_updateSeq (eb S _ hIS hSo) rfl (wpAny_bind (wpAny_letGo (wpAny_pure ?_))) (by show 2 ≤ sizeLine; decide))
      refine h1 i _ tk (by rw [← ej]; exact hst) fun b o e => (Heap.get?_update_ne _ _ _ _ (neS b o e)).trans (kp' b o e)
  | succ r ih =>
    intro j h tk c st hr hj kp hit hSo hst
    have hlt : j < vs.length := by omega
    have hvj : vs[j]? = some vs[j] := List.getElem?_eq_getElem hlt
    obtain ⟨a, its, hva, hla, hsa, hza⟩ := hv j _ hvj
    have eg : vs.getD j Value.none = vs[j] := by simp [hlt]
    refine codeAny_builtin PySem.F.entry_max_loop ?_
    rw [Around.under_plainId PySem.F.plain_max_loop _]
    show wpAny _ A.in1 (seqItems? (.ref S) >>= _) _ _ _
    refine wpAny_bind (wpAny_seqItems hSo rfl ?_)
    show wpAny _ A.in1 (tryCatch (pyNext (.ref I)) _ >>= _) _ _ _
    refine wpAny_bind (wpAny_tryCatch (wpAny_pyNext_list_item hit (lst hl kp) (x := vs[j]) (by simpa using hvj) fun h' hit' sb => ?_))
    have kp' : ∀ b o, s.heap.get? b = some o → h'.get? b = some o := fun b o e => (sb.2 b (neI b o e)).trans (kp b o e)
    have hSo' : h'.get? S = some (seqObj "list" (bestObj vs kf st) c) := (sb.2 S hIS).trans hSo
    show wpAny _ A.in1 (tryCatch (holding [vs[j]] (call (.builtin "len") [vs[j]])) _ >>= _) _ _ _
    rw [hva]
    refine wpAny_bind (wpAny_tryCatch (wpAny_holding (Calls.call_len_list (s := { s with heap := h', toks := tk }) (lst hla kp') (by rw [sizeLine_eq] at hza; omega) ?_)))
    rw [hsa]
    have up : ∀ (i' : Nat) (t' : Tok) (h'' : Heap), h'' = h'.update S (Obj.mapSeq fun _ => #[vs.getD i' Value.none, .int (kf i') t']) → ∃ c2, h''.get? S = some (seqObj "list" (bestObj vs kf (some (i', t'))) c2) ∧ (∀ b o, s.heap.get? b = some o → h''.get? b = some o) ∧ h''.IsListIter I l (j + 1) := fun i' t' h'' e => by
      subst e
      refine ⟨_, get?_update_seq hSo' fun _ => #[vs.getD i' Value.none, .int (kf i') t'], fun b o e => (Heap.get?_update_ne _ _ _ _ (neS b o e)).trans (kp' b o e), ?_⟩
      obtain ⟨o, ho, rr⟩ := hit'
      exact ⟨o, (Heap.get?_update_ne _ _ _ _ hIS.symm).trans ho, rr⟩
    cases st with
    | none =>
      show wpAny _ A.in1 (updateSeq S (fun _ => #[_, _]) >>= _) _ _ _
      refine wpAny_bind (wpAny_updateSeq hSo' rfl ?_ (Nat.zero_le _))
      rw [hname, ← hva, ← eg]
      obtain ⟨c2, u1, u2, u3⟩ := up j _ _ rfl
      have e0 : j = 0 := hst
      exact wpAny_pure ⟨plainId_quiet PySem.F.plain_max_loop _, ih (j + 1) _ _ c2 (some (j, _)) (by omega) hlt u2 u3 u1 ⟨Nat.lt_succ_self _, fun k hk => by
        have : k = j := by omega
        subst this; exact ⟨Nat.le_refl _, fun z => absurd z (Nat.lt_irrefl _)⟩⟩⟩
    | some it =>
      obtain ⟨i, t⟩ := it
      have hb : BestTo kf i j := hst
      show wpAny _ A.in1 (tryCatch (holding [_, _] (richCompare .Gt (.int (kf j : Nat) _) (.int (kf i : Nat) t) >>= _)) _ >>= _) _ _ _
      refine wpAny_bind (wpAny_tryCatch (wpAny_holding (wpAny_bind (show wpAny (model prog w) A.in1 (compareOp .Gt (.int (kf j : Nat) _) (.int (kf i : Nat) t)) _ _ _ from gt_int ?_))))
      refine wpAny_bind (wpAny_holding (wpAny_truthy_bool (wpAny_bind (wpAny_letGo (wpAny_pure ?_)))))
      by_cases hc : (kf i : Int) < (kf j : Int)
      · simp only [hc, decide_true, if_true]
        refine wpAny_bind ?_
        refine wpAny_updateSeq hSo' rfl (wpAny_bind (wpAny_letGo ?_)) (by show 2 ≤ sizeLine; decide)
        rw [hname, ← hva, ← eg]
        obtain ⟨c2, u1, u2, u3⟩ := up j _ _ rfl
        refine wpAny_pure ⟨plainId_quiet PySem.F.plain_max_loop _, ih (j + 1) _ _ c2 (some (j, _)) (by omega) hlt u2 u3 u1 ⟨Nat.lt_succ_self _, fun k hk => ?_⟩⟩
        by_cases ek : k = j
        · subst ek; exact ⟨Nat.le_refl _, fun z => absurd z (Nat.lt_irrefl _)⟩
        · have := (hb.2 k (by omega)).1
          exact ⟨by omega, fun _ => by omega⟩
      · simp only [hc, decide_false, Bool.false_eq_true, if_false]
        refine wpAny_bind (wpAny_letGo ?_)
        rw [hname]
        refine wpAny_pure ⟨plainId_quiet PySem.F.plain_max_loop _, ih (j + 1) _ _ c (some (i, t)) (by omega) hlt kp' hit' hSo' ⟨Nat.lt_succ_of_lt hb.1, fun k hk => ?_⟩⟩
        by_cases ek : k = j
        · subst ek; exact ⟨by omega, fun z => by have := hb.1; omega⟩
        · exact hb.2 k (by omega)
theorem max_len {l : Addr} {vs : List Value} {d : Value} {kf : Nat → Nat} {Q : Value → Shared → Prop} (hh : A.handled = none) (hsz : vs.length ≤ sizeLine) (hl : s.heap.IsList l vs.toArray)
    (hv : ∀ (i : Nat) v, vs[i]? = some v → ∃ a its, v = .ref a ∧ s.heap.IsList a its ∧ its.size = kf i ∧ its.size ≤ sizeLine)
    (h0 : vs = [] → ∀ h' tk, (∀ b o, s.heap.get? b = some o → h'.get? b = some o) → Q d { s with heap := h', toks := tk })
    (h1 : ∀ i h' tk, BestTo kf i vs.length → (∀ b o, s.heap.get? b = some o → h'.get? b = some o) → Q (vs.getD i Value.none) { s with heap := h', toks := tk }) :
    wpAny (model prog w) A (call (.builtin "max") [.ref l] [(Str.ofString "key", .builtin "len"), (Str.ofString "default", d)]) Q E s := by
  have hname : (toString "max" ++ toString ".loop" : String) = "max.loop" := by decide
  refine kmb_tree PySem.F.kind_max PySem.F.plain_max PySem.F.entry_max (args_maxkd _ _ _) ?_
  show wpAny _ A.in1 (Builtin.Builtins.bindParams "max" ["key", "default"] 0 ⟨[], [(Str.ofString "key", .builtin "len"), (Str.ofString "default", d)]⟩ >>= _) _ _ s
  refine wpAny_bind (wpAny_of_eq (show Builtin.Builtins.bindParams "max" ["key", "default"] 0 ⟨[], [(Str.ofString "key", .builtin "len"), (Str.ofString "default", d)]⟩ = pure [some (.builtin "len"), some d] from rfl) ?_)
  refine wpAny_bind (wpAny_pure (wpAny_bind (wpAny_pyIter_list hl (wpAny_bind (wpAny_newList ?_ (Nat.zero_le _))))))
  rw [hname]
  have up : ∀ b o, s.heap.get? b = some o → ((s.heap.push { cls := .type "list_iterator", data := .fields #[.ref l, .int 0 0] }).push (seqObj "list" #[] 0)).get? b = some o := fun b o e => Heap.get?_push_of_some _ (Heap.get?_push_of_some _ e)
  refine wpAny_pure ⟨plainId_quiet PySem.F.plain_max_loop _, ?_⟩
  refine max_loop (A := A) (s := s) (vs := vs) (kf := kf) (l := l) (I := s.heap.objs.size) (S := (s.heap.push { cls := .type "list_iterator", data := .fields #[.ref l, .int 0 0] }).objs.size) hh hsz hl (Nat.le_refl _) (by rw [size_push']; exact Nat.le_succ _) (by rw [size_push']; exact Nat.succ_ne_self _) hv h0 h1
    vs.length 0 _ s.toks 0 none rfl (Nat.zero_le _) up ⟨_, Heap.get?_push_of_some _ (Heap.get?_push_size _ rfl), rfl, rfl⟩ (Heap.get?_push_size _ rfl) rfl
end
/-- lists of which the lengths are told -/
def LensAt (K : PySem.W.Frag) (H : Hp) (ys : List V) (kf : Nat → Nat) : Prop := ∀ (i : Nat) y, ys[i]? = some y → ∃ a zs, y = .ref a ∧ SqL K H a zs ∧ zs.length = kf i
def tMaxLen (K : PySem.W.Frag) (te td : TE) : TE := fun σ H Q => te σ H fun x H1 => td σ H1 fun d H2 => ∃ l ys kf, x = .ref l ∧ SqL K H2 l ys ∧ LensAt K H2 ys kf ∧ (ys = [] → Q d H2) ∧ ∀ (i : Nat) y, ys[i]? = some y → BestTo kf i ys.length → Q y H2
section
variable {X : Cx} {e d : Expr} {te td : TE} {p p2 kp kp2 pos : Pos}
theorem pe_maxLen (hc : X.calm = true) (hg : Gl X "max") (hm : X.mg "max" = none) (hg2 : Gl X "len") (hm2 : X.mg "len" = none) (he : PE X e te) (hd : PE X d td)
    (hs : starEach [e] X.env = [(false, eval e X.env)] := by rfl) : PE X (.Call (.Name "max" p) [e] [⟨some "key", .Name "len" p2, kp⟩, ⟨some "default", d, kp2⟩] pos) (tMaxLen X.K te td) := by
  intro pins s σ H Q I h
  refine wpAny_Call_Name_kw (ld_blt I hg hm PyProof.Rows.boot_max ?_)
  refine PyProof.Rows.callWith_kw (thn (pa_cons he pa_nil (by rw [hs]; rfl) pos pins s σ H (fun vs H1 => match vs with | [x] => td σ H1 fun d H2 => ∃ l ys kf, x = .ref l ∧ SqL X.K H2 l ys ∧ LensAt X.K H2 ys kf ∧ (ys = [] → Q d H2) ∧ ∀ (i : Nat) y, ys[i]? = some y → BestTo kf i ys.length → Q y H2 | _ => False) I h) fun us s1 ⟨vs, H1, I1, r1, q1⟩ => ?_)
    (by rw [hs]; rfl) (by rw [hs]; rfl) rfl rfl
  · obtain ⟨x, rfl⟩ : ∃ x, vs = [x] := by
      match vs, q1 with
      | [x], _ => exact ⟨x, rfl⟩
    obtain ⟨u, rfl, ru⟩ := r1.one
    show wpAny _ _ (evalAll ((do let v ← eval (.Name "len" p2) X.env; standAt pos; pure v) :: (backToKw pos (keywordEach [⟨some "default", d, kp2⟩] X.env)).map (·.2))) _ _ s1
    refine wpAny_evalAll_cons (wpAny_bind (ld_blt I1 hg2 hm2 PySem.boot_len (wpAny_bind (wpAny_standAt (wpAny_pure ?_)))))
    refine thn (pk_cons hd pk_nil pos pins s1 σ H1 (fun vs H2 => match vs with | [d] => ∃ l ys kf, x = .ref l ∧ SqL X.K H2 l ys ∧ LensAt X.K H2 ys kf ∧ (ys = [] → Q d H2) ∧ ∀ (i : Nat) y, ys[i]? = some y → BestTo kf i ys.length → Q y H2 | _ => False) I1 q1) fun ws s2 ⟨zs, H2, I2, rz, q2⟩ => ?_
    · obtain ⟨d', rfl⟩ : ∃ x, zs = [x] := by
        match zs, q2 with
        | [x], _ => exact ⟨x, rfl⟩
      obtain ⟨w', rfl, rw'⟩ := rz.one
      obtain ⟨l, ys, kf, rfl, hq, hlens, h0, h1⟩ := q2
      obtain rfl : u = Value.ref l := ru
      obtain ⟨its, rv, pl, hz⟩ := I2.list hq
      have hlen := rv.length
      refine max_len (kf := kf) (I2.ok.hd hc) (by omega) pl.isList (fun i v ev => ?_) (fun e0 h' tk kp => ?_) fun i h' tk hb kp => ?_
      · obtain ⟨y, hy⟩ : ∃ y, ys[i]? = some y := by
          have := (List.getElem?_eq_some_iff.mp ev).1
          exact ⟨ys[i]'(by omega), List.getElem?_eq_getElem (by omega)⟩
        obtain ⟨u, hu, ru⟩ := rv.get hy
        rw [ev] at hu; cases hu
        obtain ⟨a, zs, rfl, ha, hl⟩ := hlens i y hy
        obtain rfl : v = Value.ref a := ru
        obtain ⟨jt, rj, pj, hj⟩ := I2.list ha
        have := rj.length
        exact ⟨a, _, rfl, pj.isList, by rw [List.size_toArray]; omega, by rw [List.size_toArray]; omega⟩
      · refine ⟨d', H2, I2.kept kp, rw', h0 ?_⟩
        subst e0
        exact List.length_eq_zero_iff.mp (by simpa using hlen)
      · have hi : i < its.length := hb.1
        obtain ⟨y, hy⟩ : ∃ y, ys[i]? = some y := ⟨ys[i]'(by omega), List.getElem?_eq_getElem (by omega)⟩
        obtain ⟨u, hu, ru⟩ := rv.get hy
        have eg : its.getD i Value.none = u := by simp [List.getD, hu]
        rw [eg]
        exact ⟨y, H2, I2.kept kp, ru, h1 i y hy (by rw [hlen]; exact hb)⟩
end
end L2
namespace L2
open PySem PySem.Spec PyProof.Rows
/-! ### x in xs, by data -/
open Classical in
noncomputable def eqR (h : Heap) (d : PyData) (y : Value) : Bool := if q : ∃ e, (∃ as, Reads h y e as) ∧ e.canLay0 = true then PyData.eqv (Classical.choose q) d else false
theorem eqR_of {h : Heap} {d e : PyData} {y : Value} {as : List Addr} (r : Reads h y e as) (c : e.canLay0 = true) : eqR h d y = PyData.eqv e d := by
  have q : ∃ e, (∃ as, Reads h y e as) ∧ e.canLay0 = true := ⟨e, ⟨as, r⟩, c⟩
  unfold eqR
  rw [dif_pos q]
  obtain ⟨⟨bs, r2⟩, c2⟩ := Classical.choose_spec q
  rw [PySem.SeqAt.Reads.unique _ _ _ _ _ c r r2]
theorem RpAll.get {K : PySem.W.Frag} {H : Hp} : ∀ {xs : List V} {ds : List PyData} {i : Nat} {x : V}, RpAll K H xs ds → xs[i]? = some x → ∃ d, ds[i]? = some d ∧ Rp K H x d
  | _, _, _, _, .nil, e => by simp at e
  | _, _, 0, _, .cons h _, e => by
    obtain rfl := by simpa using e
    exact ⟨_, rfl, h⟩
  | _, _, i + 1, x, .cons _ r, e => by
    obtain ⟨d, h1, h2⟩ := RpAll.get (i := i) (x := x) r (by simpa using e)
    exact ⟨d, by simpa using h1, h2⟩
theorem canAll_mem : ∀ {ds : List PyData} {d : PyData}, PyData.canLayAll0 ds = true → d ∈ ds → d.canLay0 = true
  | e :: r, d, h, hm => by
    rw [PyData.canLayAll0, Bool.and_eq_true] at h
    rcases List.mem_cons.mp hm with rfl | hm
    · exact h.1
    · exact canAll_mem h.2 hm
theorem any_eqR {X : Cx} {pins : List (Addr × Obj)} {σ : St} {H : Hp} {s : Shared} (I : Inv X pins σ H s) (d : PyData) : ∀ {xs : List V} {ds : List PyData} {us : List Value}, RpAll X.K H xs ds → Vals xs us → PyData.canLayAll0 ds = true → us.any (eqR s.heap d) = ds.any fun e => PyData.eqv e d
  | _, _, _, .nil, r, _ => by cases r; rfl
  | _, _, _, .cons h hr, r, c => by
    cases r with
    | cons r1 r2 =>
      rw [PyData.canLayAll0, Bool.and_eq_true] at c
      obtain ⟨as, ra⟩ := h.reads I r1
      rw [List.any_cons, List.any_cons, eqR_of ra c.1, any_eqR I d hr r2 c.2]
def rInD (K : PySem.W.Frag) (neg : Bool) : R2 := fun x y H Q => ∃ a xs d ds, y = .ref a ∧ (SqL K H a xs ∨ SqT K H a xs) ∧ Rp K H x d ∧ RpAll K H xs ds ∧ d.canLay0 = true ∧ PyData.canLayAll0 ds = true ∧ d.depth ≤ 50 ∧
  Q (.bl (if neg then !(ds.any fun e => PyData.eqv e d) else ds.any fun e => PyData.eqv e d)) H
section
variable {X : Cx}
theorem in_pre (hu : X.A.units + 64 < cLine) {pins : List (Addr × Obj)} {σ : St} {H : Hp} {s : Shared} (I : Inv X pins σ H s) {xs : List V} {ds : List PyData} {us : List Value} {d : PyData} {v : Value} {bs : List Addr} (rx : Reads s.heap v d bs) (ra : RpAll X.K H xs ds) (rv : Vals xs us)
    (cd : d.canLay0 = true) (cs : PyData.canLayAll0 ds = true) (hd : d.depth ≤ 50) : ∀ y, y ∈ us.toArray → SeqAt.EqAt X.A.in1 s y v (eqR s.heap d y) := fun y hy => by
  obtain ⟨i, hi, e⟩ := List.getElem_of_mem (by simpa using hy : y ∈ us)
  obtain ⟨x, hx⟩ : ∃ x, xs[i]? = some x := ⟨xs[i]'(by rw [rv.length]; exact hi), List.getElem?_eq_getElem _⟩
  obtain ⟨u, hu', ru⟩ := rv.get hx
  rw [List.getElem?_eq_getElem hi, e] at hu'
  cases hu'
  obtain ⟨e', he', hr⟩ := ra.get hx
  obtain ⟨as, rr⟩ := hr.reads I ru
  have ce := canAll_mem cs (List.mem_of_getElem? he')
  rw [eqR_of rr ce]
  refine SeqAt.eqAt_reads _ _ _ _ _ _ _ _ rr rx ce cd ?_
  have := Nat.min_le_right e'.depth d.depth
  show X.A.units + 1 + min e'.depth d.depth < cLine
  omega
theorem op_inD (hu : X.A.units + 64 < cLine) : OpR X (compareOp .In) (rInD X.K false) := by
  intro pins s σ H x y v u Q I rx ry h
  obtain ⟨a, xs, d, ds, rfl, hs, rd, ra, cd, cs, hd, q⟩ := h
  obtain rfl : u = Value.ref a := ry
  obtain ⟨bs, rb⟩ := rd.reads I rx
  have fin : ∀ {its : List Value}, Vals xs its → EP X pins σ Q (.bool (its.toArray.any (eqR s.heap d))) s := fun {its} rv => ⟨.bl _, H, I, rfl, by
    rw [List.any_toArray, any_eqR I d ra rv cs]; exact q⟩
  rcases hs with hs | hs
  · obtain ⟨its, rv, pl, _⟩ := I.list hs
    exact SeqAt.in_listAt (eqR s.heap d) pl.isList (in_pre hu I rb ra rv cd cs hd) (fin rv)
  · obtain ⟨its, rv, pl, _⟩ := I.tuple hs
    exact SeqAt.in_tupleAt (eqR s.heap d) (show s.heap.IsTuple a its.toArray from pl) (in_pre hu I rb ra rv cd cs hd) (fin rv)
theorem op_notInD (hu : X.A.units + 64 < cLine) : OpR X (compareOp .NotIn) (rInD X.K true) := by
  intro pins s σ H x y v u Q I rx ry h
  obtain ⟨a, xs, d, ds, rfl, hs, rd, ra, cd, cs, hd, q⟩ := h
  obtain rfl : u = Value.ref a := ry
  obtain ⟨bs, rb⟩ := rd.reads I rx
  have fin : ∀ {its : List Value}, Vals xs its → EP X pins σ Q (.bool (!its.toArray.any (eqR s.heap d))) s := fun {its} rv => ⟨.bl _, H, I, rfl, by
    rw [List.any_toArray, any_eqR I d ra rv cs]; exact q⟩
  rcases hs with hs | hs
  · obtain ⟨its, rv, pl, _⟩ := I.list hs
    exact SeqAt.notIn_listAt (eqR s.heap d) pl.isList (in_pre hu I rb ra rv cd cs hd) (fin rv)
  · obtain ⟨its, rv, pl, _⟩ := I.tuple hs
    exact SeqAt.notIn_tupleAt (eqR s.heap d) (show s.heap.IsTuple a its.toArray from pl) (in_pre hu I rb ra rv cd cs hd) (fin rv)
end
end L2
namespace L2
open PySem PySem.SeqAt PyProof.Rows
open AutoSeq1 (wpAny_loadPart')
open MeetsSeq MeetsSeq2 MeetsSeq3
/-! ### `<` of tuples and of lists -/
def RcLtAt (A : Around) (s : Shared) (y x : Value) (b : Bool) : Prop :=
  ∀ (prog : Program) (w : World) (E : Value → Shared → Prop) (Q : Value → Shared → Prop), Q (.bool b) s → wpAny (model prog w) A (richCompare .Lt y x) Q E s
/-- what the places from some place on tell: by the first that differ, else the lengths -/
def lexR (e l : Nat → Bool) (fin : Bool) : List Nat → Bool
  | [] => fin
  | j :: r => if e j then lexR e l fin r else l j
theorem lt_loopAt (l b : Addr) (items items2 : Array Value) (n n2 : Nat) (dd dd2 : Option Addr) (sl sl2 : Array (Option Value)) (e lt : Nat → Bool) (k : Nat) :
    ∀ i : Nat, min items.size items2.size - i = k → Meets (Builtin.«list.__eq__.loop» ⟨[.ref l, .ref b, rawInt i, rawInt 0], []⟩)
      (fun A R s => s.heap.get? l = some { cls := .type "list", dict := dd, data := .seq items n, slots := sl } ∧ s.heap.get? b = some { cls := .type "list", dict := dd2, data := .seq items2 n2, slots := sl2 } ∧
        (∀ j (h1 : j < items.size) (h2 : j < items2.size), EqAt A.in1 s items[j] items2[j] (e j)) ∧ (∀ j (h1 : j < items.size) (h2 : j < items2.size), RcLtAt A.in1 s items[j] items2[j] (lt j)) ∧
        R (.ok (.ret (.bool (lexR e lt (decide (items.size < items2.size)) ((List.range (min items.size items2.size)).drop i))))) s) := by
  induction k with
  | zero =>
    intro i hk prog w A R s h
    obtain ⟨hp, g, d, tk, os⟩ := s; obtain ⟨hl, hb, he, hlt, h⟩ := h
    wp_walk using wpAny_loadPart' hl, wpAny_loadPart' hb
    have hd : (List.range (min items.size items2.size)).drop i = [] := by rw [List.drop_eq_nil_iff, List.length_range]; omega
    rw [hd] at h
    have hi : items[((i : Nat) : Int).toNat]? = none ∨ items2[((i : Nat) : Int).toNat]? = none := by
      rcases Nat.lt_or_ge i items.size with c | c
      · right; simp; omega
      · left; simp; omega
    rcases hi with hi | hi
    · rw [hi]
      wp_walk using wpAny_loadPart' hl, wpAny_loadPart' hb
      exact h
    · rw [hi]
      cases items[((i : Nat) : Int).toNat]?
      · wp_walk using wpAny_loadPart' hl, wpAny_loadPart' hb
        exact h
      · wp_walk using wpAny_loadPart' hl, wpAny_loadPart' hb
        exact h
  | succ k ih =>
    intro i hk prog w A R s h
    obtain ⟨hp, g, d, tk, os⟩ := s; obtain ⟨hl, hb, he, hlt, h⟩ := h
    wp_walk using wpAny_loadPart' hl, wpAny_loadPart' hb
    have h1 : i < items.size := by omega
    have h2 : i < items2.size := by omega
    have hi1 : items[((i : Nat) : Int).toNat]? = some items[i] := by simp [h1]
    have hi2 : items2[((i : Nat) : Int).toNat]? = some items2[i] := by simp [h2]
    have hd : (List.range (min items.size items2.size)).drop i = i :: (List.range (min items.size items2.size)).drop (i + 1) := by
      rw [List.drop_eq_getElem_cons (by rw [List.length_range]; omega), List.getElem_range]
    have hc : ((i : Int) + 1) = ((i + 1 : Nat) : Int) := by push_cast; rfl
    rw [hd, lexR] at h
    rw [hi1, hi2]
    refine wpAny_bind (he i h1 h2 prog w _ _ ?_)
    cases hb' : e i with
    | true =>
      rw [hb'] at h
      wp_walk
      rw [hc]
      exact ⟨plainId_quiet plain_eq_loop _, codeAny_builtin entry_eq_loop (by
        rw [Around.under_plainId plain_eq_loop _]
        exact ih (i + 1) (by omega) prog w A R _ ⟨hl, hb, he, hlt, h⟩)⟩
    | false =>
      rw [hb'] at h
      wp_walk using wpAny_loadPart' hl, wpAny_loadPart' hb
      rw [hi1, hi2]
      refine wpAny_bind (hlt i h1 h2 prog w _ _ ?_)
      wp_walk
      exact h
theorem list_ltAt (l b : Addr) (items items2 : Array Value) (n n2 : Nat) (dd dd2 : Option Addr) (sl sl2 : Array (Option Value)) (e lt : Nat → Bool) :
    Meets (Builtin.«list.__lt__» ⟨[.ref l, .ref b], []⟩)
      (fun A R s => s.heap.get? l = some { cls := .type "list", dict := dd, data := .seq items n, slots := sl } ∧ s.heap.get? b = some { cls := .type "list", dict := dd2, data := .seq items2 n2, slots := sl2 } ∧
        (∀ j (h1 : j < items.size) (h2 : j < items2.size), EqAt A.in1 s items[j] items2[j] (e j)) ∧ (∀ j (h1 : j < items.size) (h2 : j < items2.size), RcLtAt A.in1 s items[j] items2[j] (lt j)) ∧
        R (.ok (.ret (.bool (lexR e lt (decide (items.size < items2.size)) (List.range (min items.size items2.size)))))) s) := by
  intro prog w A R s h
  obtain ⟨hp, g, d, tk, os⟩ := s; obtain ⟨hl, hb, he, hlt, h⟩ := h
  have f3 := AutoSeq1.sub_list_list
  wp_walk using wpAny_loadPart' hl, wpAny_loadPart' hb
  exact ⟨plainId_quiet plain_eq_loop _, codeAny_builtin entry_eq_loop (by
    rw [Around.under_plainId plain_eq_loop _]
    exact lt_loopAt l b items items2 n n2 dd dd2 sl sl2 e lt _ 0 rfl prog w A R _ ⟨hl, hb, he, hlt, by simpa using h⟩)⟩
theorem tuple_ltAt (l b : Addr) (items items2 : Array Value) (n n2 : Nat) (dd dd2 : Option Addr) (sl sl2 : Array (Option Value)) (e lt : Nat → Bool) :
    Meets (Builtin.«tuple.__lt__» ⟨[.ref l, .ref b], []⟩)
      (fun A R s => s.heap.get? l = some { cls := .type "tuple", dict := dd, data := .seq items n, slots := sl } ∧ s.heap.get? b = some { cls := .type "tuple", dict := dd2, data := .seq items2 n2, slots := sl2 } ∧
        (∀ j (h1 : j < items.size) (h2 : j < items2.size), EqAt A.in1 s items[j] items2[j] (e j)) ∧ (∀ j (h1 : j < items.size) (h2 : j < items2.size), RcLtAt A.in1 s items[j] items2[j] (lt j)) ∧
        R (.ok (.ret (.bool (lexR e lt (decide (items.size < items2.size)) (List.range (min items.size items2.size)))))) s) :=
  .of_wp fun prog w A R s h => by
    obtain ⟨hp, g, d, tk, os⟩ := s; obtain ⟨hl, hb, he, hlt, h⟩ := h
    have f2 := AutoSeq1.sub_tuple_tuple
    have hZ : (items.toList.zip items2.toList).length = min items.size items2.size := by simp
    wp_walk using wpAny_loadPart' hl, wpAny_loadPart' hb, wpAny_forIn_list _ (fun rest b s' => b.1 = none ∧ s' = ⟨hp, g, d, tk, os⟩ ∧ ∃ i, rest = (items.toList.zip items2.toList).drop i ∧
      R (.ok (.ret (.bool (lexR e lt (decide (items.size < items2.size)) ((List.range (min items.size items2.size)).drop i))))) ⟨hp, g, d, tk, os⟩) _
    case turn =>
      rintro ⟨y, x⟩ rest b s' ⟨hb', rfl, i, hz, hR⟩
      have hil : i < (items.toList.zip items2.toList).length := by
        rcases Nat.lt_or_ge i (items.toList.zip items2.toList).length with h' | h'
        · exact h'
        · rw [List.drop_of_length_le h'] at hz; cases hz
      have hm : i < min items.size items2.size := hZ ▸ hil
      have h1 : i < items.size := Nat.lt_of_lt_of_le hm (Nat.min_le_left _ _)
      have h2 : i < items2.size := Nat.lt_of_lt_of_le hm (Nat.min_le_right _ _)
      rw [List.drop_eq_getElem_cons hil] at hz
      injection hz with hyx hrest
      have hy : y = items[i] := by have := congrArg Prod.fst hyx; simpa using this
      have hx : x = items2[i] := by have := congrArg Prod.snd hyx; simpa using this
      subst hy hx
      have hd : (List.range (min items.size items2.size)).drop i = i :: (List.range (min items.size items2.size)).drop (i + 1) := by simp [List.drop_eq_getElem_cons, hm]
      rw [hd, lexR] at hR
      refine wpAny_bind (he i h1 h2 prog w _ _ ?_)
      cases hy : e i with
      | true =>
        rw [hy] at hR
        wp_walk
        exact ⟨rfl, rfl, i + 1, hrest, hR⟩
      | false =>
        rw [hy] at hR
        simp only [Bool.not_false, if_true]
        refine wpAny_bind (wpAny_rule (wpAny_bind (hlt i h1 h2 prog w _ _ ?_)))
        wp_walk
        exact ⟨_, rfl, hR⟩
    case fin =>
      rintro ⟨b1, b2⟩ s' ⟨hb', rfl, i, hz, hR⟩
      simp only at hb'
      subst hb'
      have hge : min items.size items2.size ≤ i := by
        rcases Nat.lt_or_ge i (items.toList.zip items2.toList).length with h' | h'
        · rw [List.drop_eq_getElem_cons h'] at hz; cases hz
        · exact hZ ▸ h'
      rw [List.drop_of_length_le (by simpa using hge)] at hR
      wp_walk
      exact ⟨_, rfl, hR⟩
    case h =>
      exact ⟨rfl, rfl, 0, rfl, by simpa using h⟩
end L2
namespace L2
open PySem PySem.SeqAt PyProof.Rows PySem.Calls
/-! ### any, of a list of bools -/
section
variable {X : Cx}
theorem call_anyB (hc : X.calm = true) : CallR X (.builtin "any") (fun xs H Q => ∃ (p : Addr) (ys : List V) (bs : List Bool), xs = [.ref p] ∧ SqL X.K H p ys ∧ ys = bs.map V.bl ∧ Q (.bl (bs.any id)) H) := by
  intro pins s σ H xs us Q I r h
  obtain ⟨p, ys, bs, rfl, hsq, rfl, q⟩ := h
  obtain ⟨u, rfl, ru⟩ := r.one
  obtain rfl : u = Value.ref p := ru
  obtain ⟨its, rv, pl, _⟩ := I.list hsq
  have hl := pl.isList
  have hlt : p < s.heap.objs.size := by obtain ⟨_, e, _⟩ := hl; exact Heap.lt_size e
  have hlen := rv.length
  rw [List.length_map] at hlen
  refine call_any_walk (wpAny_pyIter_list hl ?_)
  refine ⟨s.heap.objs.size, [s.heap.objs.size, p], [s.heap.objs.size], its.toArray.size, _, _, fun i => (bs[i]?).getD false, rfl, Walks.list (A := X.A.in1) (show X.A.in1.handled = none from I.ok.hd hc) _ p (Nat.ne_of_lt hlt) its.toArray,
    ⟨⟨_, Heap.get?_push_size _ rfl, rfl, rfl⟩, hl.push _⟩, fun i v s' Q' E' hP hQ => ?_, fun h' tk hk => ?_⟩
  · have hP' : its[i]? = some v := by simpa using hP
    have hi : i < bs.length := by rw [hlen]; exact (List.getElem?_eq_some_iff.mp hP').1
    obtain ⟨u, hu, ru⟩ := rv.get (show (bs.map V.bl)[i]? = some (.bl bs[i]) by rw [List.getElem?_map, List.getElem?_eq_getElem hi]; rfl)
    rw [hP'] at hu
    cases hu
    obtain rfl : v = Value.bool bs[i] := ru
    dsimp only at hQ
    rw [List.getElem?_eq_getElem hi] at hQ
    exact wpAny_truthy_bool hQ
  · have e : ((List.range its.toArray.size).any fun i => (bs[i]?).getD false) = bs.any id := by
      rw [List.size_toArray, ← hlen, Bool.eq_iff_iff]
      simp only [List.any_eq_true, List.mem_range, id]
      constructor
      · rintro ⟨i, hi, e⟩
        rw [List.getElem?_eq_getElem hi, Option.getD_some] at e
        exact ⟨_, List.getElem_mem hi, e⟩
      · rintro ⟨b, hb, rfl⟩
        obtain ⟨i, hi, e⟩ := List.getElem_of_mem hb
        exact ⟨i, hi, by rw [List.getElem?_eq_getElem hi, e]; rfl⟩
    rw [e]
    exact ⟨.bl _, H, I.kept (t' := tk) (LSm.kept_iter hk), rfl, q⟩
end
/-! ### sorted, of lists of pairs -/
def PairAt (h : Heap) (v : Value) (p : Int × Int) : Prop := ∃ a ob t1 t2 k, v = .ref a ∧ h.get? a = some ob ∧ ob.cls = .type "tuple" ∧ ob.data = .seq #[.int p.1 t1, .int p.2 t2] k
theorem PairAt.kept {h h' : Heap} {v : Value} {p : Int × Int} (k : ∀ b o, h.get? b = some o → o.cls = .type "tuple" → h'.get? b = some o) : PairAt h v p → PairAt h' v p := fun ⟨a, ob, t1, t2, n, e, h1, h2, h3⟩ => ⟨a, ob, t1, t2, n, e, k a ob h1 h2, h2, h3⟩
theorem eqAt_pair {A : Around} {s : Shared} {u v : Value} {p q : Int × Int} (hu : A.units < cLine) (h1 : PairAt s.heap u p) (h2 : PairAt s.heap v q) : EqAt A s u v (decide (p = q)) := by
  obtain ⟨a, ob, t1, t2, k, rfl, g1, g2, g3⟩ := h1
  obtain ⟨b, ob', u1, u2, k', rfl, g4, g5, g6⟩ := h2
  by_cases e : a = b
  · subst e
    rw [g1] at g4
    cases g4
    rw [g3] at g6
    injection g6 with g7
    have e1 : p = q := by
      have := congrArg Array.toList g7
      simp only [List.cons.injEq, Value.int.injEq, and_true] at this
      exact Prod.ext this.1.1 this.2.1
    rw [decide_eq_true e1]
    exact EqAt.same _
  · refine EqAt.of_refs e ?_
    have := RcAt.tuples (A := A) (s := s) (e := fun j => if j = 0 then p.1 == q.1 else p.2 == q.2) ⟨ob, g1, g2, k, g3⟩ ⟨ob', g4, g5, k', g6⟩ hu fun j h1 h2 => by
      match j, h1 with
      | 0, _ => exact EqAt.int_int _ _ _ _
      | 1, _ => exact EqAt.int_int _ _ _ _
    have e2 : ((List.range (min (#[Value.int p.1 t1, Value.int p.2 t2] : Array Value).size (#[Value.int q.1 u1, Value.int q.2 u2] : Array Value).size)).all (fun j => if j = 0 then p.1 == q.1 else p.2 == q.2) && (#[Value.int p.1 t1, Value.int p.2 t2] : Array Value).size == (#[Value.int q.1 u1, Value.int q.2 u2] : Array Value).size) = decide (p = q) := by
      rw [Bool.eq_iff_iff]
      simp [List.range_succ, Prod.ext_iff]
    rw [e2] at this
    exact this
theorem ltAt_pair {A : Around} {s : Shared} {u v : Value} {p q : Int × Int} (hu : A.units < cLine) (h1 : PairAt s.heap u p) (h2 : PairAt s.heap v q) : RcLtAt A s u v (lexI p q) := by
  obtain ⟨a, ⟨c1, d1, dt1, sl1⟩, t1, t2, k, rfl, g1, g2, g3⟩ := h1
  obtain ⟨b, ⟨c2, d2, dt2, sl2⟩, u1, u2, k', rfl, g4, g5, g6⟩ := h2
  simp only at g2 g3 g5 g6
  subst g2 g3 g5 g6
  intro prog w E Q h
  refine richCompare_meets_room (op := .Lt) ⟨_, g1, rfl⟩ ⟨_, g4, rfl⟩ F.slot_tuple_lt F.entry_tuple_lt (F.args_tuple_lt_2 _ _) (tuple_ltAt a b _ _ k k' d1 d2 sl1 sl2 (fun j => if j = 0 then p.1 == q.1 else p.2 == q.2) (fun j => if j = 0 then decide (p.1 < q.1) else decide (p.2 < q.2)))
    ⟨g1, g4, fun j h1 h2 => ?_, fun j h1 h2 => ?_, ?_⟩ hu
  · match j, h1 with
    | 0, _ => exact EqAt.int_int _ _ _ _
    | 1, _ => exact EqAt.int_int _ _ _ _
  · match j, h1 with
    | 0, _ => exact fun _ _ _ _ hq => lt_int hq
    | 1, _ => exact fun _ _ _ _ hq => lt_int hq
  · refine ⟨(fun x => nomatch x), ?_⟩
    have e : lexR (fun j => if j = 0 then p.1 == q.1 else p.2 == q.2) (fun j => if j = 0 then decide (p.1 < q.1) else decide (p.2 < q.2)) (decide ((#[Value.int p.1 t1, Value.int p.2 t2] : Array Value).size < (#[Value.int q.1 u1, Value.int q.2 u2] : Array Value).size))
        (List.range (min (#[Value.int p.1 t1, Value.int p.2 t2] : Array Value).size (#[Value.int q.1 u1, Value.int q.2 u2] : Array Value).size)) = lexI p q := by
      show lexR _ _ (decide (2 < 2)) [0, 1] = _
      unfold lexI
      simp only [lexR, if_true, beq_iff_eq]
      by_cases e1 : p.1 = q.1
      · rw [if_pos e1, if_pos e1]
        by_cases e2 : p.2 = q.2
        · simp [e2]
        · simp [e2]
      · rw [if_neg e1, if_neg e1]
    rw [e]
    exact h
def lexL : List (Int × Int) → List (Int × Int) → Bool
  | [], [] => false
  | [], _ :: _ => true
  | _ :: _, [] => false
  | a :: as, b :: bs => if a = b then lexL as bs else lexI a b
theorem lexI_asy {a b : Int × Int} : lexI a b = true → lexI b a = false := (lexI_ord fun n => if n = 0 then a else b).asy 0 1
theorem lexI_tr {a b c : Int × Int} : lexI b a = false → lexI c b = false → lexI c a = false := (lexI_ord fun n => if n = 0 then a else if n = 1 then b else c).tr 0 1 2
theorem lexI_eq {a b : Int × Int} (h1 : lexI a b = false) (h2 : lexI b a = false) : a = b := by
  unfold lexI at h1 h2
  split at h1 <;> split at h2 <;> simp only [decide_eq_false_iff_not] at h1 h2 <;> exact Prod.ext (by omega) (by omega)
theorem lexL_asy : ∀ {a b : List (Int × Int)}, lexL a b = true → lexL b a = false
  | [], [], h => by cases h
  | [], _ :: _, _ => rfl
  | _ :: _, [], h => by cases h
  | a :: as, b :: bs, h => by
    unfold lexL at h ⊢
    by_cases e : a = b
    · rw [if_pos e] at h; rw [if_pos e.symm]; exact lexL_asy h
    · rw [if_neg e] at h; rw [if_neg (Ne.symm e)]; exact lexI_asy h
theorem lexL_tr : ∀ {a b c : List (Int × Int)}, lexL b a = false → lexL c b = false → lexL c a = false
  | [], [], [], _, _ => rfl
  | [], [], _ :: _, _, _ => rfl
  | [], _ :: _, [], _, h => by cases h
  | [], _ :: _, _ :: _, _, _ => rfl
  | _ :: _, [], _, h, _ => by cases h
  | _ :: _, _ :: _, [], _, h => by cases h
  | a :: as, b :: bs, c :: cs, h1, h2 => by
    unfold lexL at h1 h2 ⊢
    by_cases e1 : b = a
    · rw [if_pos e1] at h1
      by_cases e2 : c = b
      · rw [if_pos e2] at h2; rw [if_pos (e2.trans e1)]; exact lexL_tr h1 h2
      · rw [if_neg e2] at h2; rw [if_neg (e1 ▸ e2)]; exact e1 ▸ h2
    · rw [if_neg e1] at h1
      by_cases e2 : c = b
      · rw [if_neg (e2 ▸ e1)]; exact e2 ▸ h1
      · rw [if_neg e2] at h2
        have h3 := lexI_tr h1 h2
        by_cases e3 : c = a
        · subst e3
          exact absurd (lexI_eq h1 h2) e1
        · rw [if_neg e3]; exact h3
theorem lexL_eq : ∀ {a b : List (Int × Int)}, lexL a b = false → lexL b a = false → a = b
  | [], [], _, _ => rfl
  | [], _ :: _, h, _ => by cases h
  | _ :: _, [], _, h => by cases h
  | a :: as, b :: bs, h1, h2 => by
    unfold lexL at h1 h2
    by_cases e : a = b
    · rw [if_pos e] at h1; rw [if_pos e.symm] at h2; rw [e, lexL_eq h1 h2]
    · rw [if_neg e] at h1; rw [if_neg (Ne.symm e)] at h2
      exact absurd (lexI_eq h1 h2) e
theorem lexR_lexL (as bs : List (Int × Int)) : ∀ (k i : Nat), min as.length bs.length - i = k → i ≤ as.length → i ≤ bs.length →
    lexR (fun j => decide (as.getD j (0, 0) = bs.getD j (0, 0))) (fun j => lexI (as.getD j (0, 0)) (bs.getD j (0, 0))) (decide (as.length < bs.length)) ((List.range (min as.length bs.length)).drop i) = lexL (as.drop i) (bs.drop i) := by
  intro k
  induction k with
  | zero =>
    intro i hk h1 h2
    rw [show (List.range (min as.length bs.length)).drop i = [] by rw [List.drop_eq_nil_iff, List.length_range]; omega]
    show decide (as.length < bs.length) = _
    rcases Nat.lt_or_ge i as.length with c | c
    · have : i = bs.length := by omega
      subst this
      rw [List.drop_length, List.drop_eq_getElem_cons c]
      exact decide_eq_false (by omega)
    · have : i = as.length := by omega
      subst this
      rw [List.drop_length]
      rcases Nat.lt_or_ge as.length bs.length with d | d
      · rw [List.drop_eq_getElem_cons d]; exact decide_eq_true d
      · rw [List.drop_of_length_le d]; exact decide_eq_false (by omega)
  | succ k ih =>
    intro i hk h1 h2
    have c1 : i < as.length := by omega
    have c2 : i < bs.length := by omega
    rw [show (List.range (min as.length bs.length)).drop i = i :: (List.range (min as.length bs.length)).drop (i + 1) by
      rw [List.drop_eq_getElem_cons (by rw [List.length_range]; omega), List.getElem_range]]
    rw [lexR, ih (i + 1) (by omega) c1 c2, List.drop_eq_getElem_cons c1, List.drop_eq_getElem_cons c2, lexL]
    have e1 : as.getD i (0, 0) = as[i] := by rw [List.getD_eq_getElem?_getD, List.getElem?_eq_getElem c1]; rfl
    have e2 : bs.getD i (0, 0) = bs[i] := by rw [List.getD_eq_getElem?_getD, List.getElem?_eq_getElem c2]; rfl
    rw [e1, e2]
    by_cases e : as[i] = bs[i]
    · rw [if_pos (decide_eq_true e), if_pos e]
    · rw [if_neg (by rw [decide_eq_true_eq]; exact e), if_neg e]
def RwV (K : PySem.W.Frag) (H : Hp) (v : V) (r : List (Int × Int)) : Prop := ∃ a vs, v = .ref a ∧ SqL K H a vs ∧ Paired (PrV K H) vs r
section
variable {X : Cx} {pins : List (Addr × Obj)} {σ : St} {H : Hp} {s : Shared}
theorem call_sortedL (hu : X.A.units + 64 < cLine) : CallR X (.builtin "sorted") (fun xs H Q => ∃ (p : Addr) (ys : List V) (ps : List (List (Int × Int))) (F : V → List (Int × Int) → Prop), xs = [.ref p] ∧ (SqL X.K H p ys ∨ SqT X.K H p ys) ∧ Paired F ys ps ∧ (∀ v q, F v q → RwV X.K H v q) ∧ ys.length < 64 ∧
    ∀ (l : Addr) (zs : List V) (qs : List (List (Int × Int))), H l = none → Paired F zs qs → zs.Perm ys → qs.Perm ps → qs.Pairwise (fun a b => lexL b a = false) → Q (.ref l) (upd H l (.lst zs))) := by
  intro pins s σ H xs us Q I r h
  obtain ⟨p, ys, ps, Fr, rfl, hsq, hp, hFr, h64, q⟩ := h
  obtain ⟨u, rfl, ru⟩ := r.one
  obtain rfl : u = Value.ref p := ru
  have hline : ys.length ≤ sizeLine := by rw [sizeLine_eq]; omega
  obtain ⟨its, rv, T, o, n, hT, ho, hc, hd⟩ : ∃ (its : List Value), Vals ys its ∧ ∃ (T : String) (o : Obj) (n : Nat), (T = "list" ∨ T = "tuple") ∧ s.heap.get? p = some o ∧ o.cls = .type T ∧ o.data = .seq its.toArray n := by
    rcases hsq with hsq | hsq
    · obtain ⟨its, rv, pl, _⟩ := I.list hsq
      obtain ⟨o, ho, hc, n, hd⟩ := pl.isList
      exact ⟨its, rv, _, o, n, .inl rfl, ho, hc, hd⟩
    · obtain ⟨its, rv, pl, _⟩ := I.tuple hsq
      obtain ⟨o, ho, hc, n, hd⟩ := pl
      exact ⟨its, rv, _, o, n, .inr rfl, ho, hc, hd⟩
  have hlen := rv.length
  have hlp := Paired.length hp
  -- each item is a list of pairs, and stays so
  have item : ∀ i, i < its.length → ∃ a ob k jt, its.getD i Value.none = .ref a ∧ s.heap.get? a = some ob ∧ ob.cls = .type "list" ∧ ob.data = .seq (List.toArray jt) k ∧ Paired (PairAt s.heap) jt (ps.getD i []) := by
    intro i hi
    obtain ⟨y, hy⟩ : ∃ y, ys[i]? = some y := ⟨ys[i]'(by omega), List.getElem?_eq_getElem (by omega)⟩
    obtain ⟨u, hu, ru⟩ := rv.get hy
    obtain ⟨pr, hpr, hpf⟩ := paired_get hp hy
    obtain ⟨a, vs, rfl, hl, hvs⟩ := hFr _ _ hpf
    obtain rfl : u = Value.ref a := ru
    obtain ⟨jt, jv, pl, _⟩ := I.list hl
    obtain ⟨ob, h1, h2, k, h3⟩ := pl.isList
    refine ⟨a, ob, k, jt, by simp [List.getD, hu], h1, h2, h3, ?_⟩
    rw [show ps.getD i [] = pr by simp [List.getD, hpr]]
    have jl := jv.length
    have vl := Paired.length hvs
    refine paired_of (by omega) fun m u q e1 e2 => ?_
    obtain ⟨x, hx⟩ : ∃ x, vs[m]? = some x := ⟨vs[m]'(by rw [jl]; exact (List.getElem?_eq_some_iff.mp e1).1), List.getElem?_eq_getElem _⟩
    obtain ⟨u', hu', ru'⟩ := jv.get hx
    rw [e1] at hu'
    cases hu'
    obtain ⟨q', hq', b, rfl, hb⟩ := paired_get hvs hx
    rw [e2] at hq'
    cases hq'
    obtain rfl : u = Value.ref b := ru'
    obtain ⟨kt, kv, pt, _⟩ := I.tuple hb
    obtain ⟨ob', g1, g2, n, g3⟩ := pt
    cases kv with
    | cons r1 rr =>
      cases rr with
      | cons r2 rr =>
        cases rr
        obtain ⟨t1, rfl⟩ := r1
        obtain ⟨t2, rfl⟩ := r2
        exact ⟨b, ob', t1, t2, n, rfl, g1, g2, g3⟩
  refine Calls.call_function_entry kind_sorted plain_sorted entry_sorted (args_sorted1 _) ?_
  unfold Builtin.«sorted»
  refine wpAny_bind (m := checkCount "sorted" 1 1 _) (wpAny_pure ?_)
  refine wpAny_bind (wpAny_collect_seq p hT ho hc hd (fun h1 k1 => ?_) (by rw [List.size_toArray, ← hlen]; exact hline))
  have I1 : Inv X pins σ H { s with heap := h1 } := I.kept (t' := s.toks) k1
  refine wpAny_bind (wpAny_newList ?_ (by show its.toArray.toList.length ≤ sizeLine; rw [List.toList_toArray, ← hlen]; exact hline))
  have hoL : (h1.push (seqObj "list" its.toArray 0)).get? h1.objs.size = some (seqObj "list" its.toArray 0) := Heap.get?_push_size _ rfl
  have k2 : ∀ b ob, h1.get? b = some ob → (h1.push (seqObj "list" its.toArray 0)).get? b = some ob := fun b ob e => Heap.get?_push_of_some _ e
  have nL : ∀ b ob, s.heap.get? b = some ob → b ≠ h1.objs.size := fun b ob e => Nat.ne_of_lt (Heap.lt_size (k1 b ob e))
  show wpAny _ _ (holding [Value.ref h1.objs.size] (call (.builtin "list.sort") [Value.ref h1.objs.size]) >>= _) _ _ { s with heap := h1.push (seqObj "list" its.toArray 0) }
  refine wpAny_bind (wpAny_holding (wpAny_call_entry slot_list_sort ⟨_, hoL, rfl⟩ entry_list_sort (Srt.list_srt (o := fun i j => lexL (ps.getD i []) (ps.getD j [])) (κ := oneType') ⟨fun _ _ => lexL_asy, fun _ _ _ => lexL_tr⟩ hoL (by omega) ?hk ?hc fun pm hpm hinc => ⟨_, rfl, wpAny_pure ⟨_, rfl, ?_⟩⟩) (args_list_sort _)))
  case hk =>
    intro h2 h' Q' E' kp hq
    refine PySem.W.kas_kind (s := { s with heap := h' }) (T := .type "list") h2 (fun v hv => ?_) (by decide) (by decide) hq
    obtain ⟨i, hi, e⟩ := List.getElem_of_mem hv
    obtain ⟨a, ob, k, jt, e2, g1, g2, g3, _⟩ := item i hi
    rw [show its.getD i Value.none = v by simp [List.getD, hi, e]] at e2
    subst e2
    have g1' : h'.get? a = some ob := kp a ob (nL a ob g1) (k2 a ob (k1 a ob g1))
    intro A Q E s' k' q'
    exact wpAny_typeOf ⟨_, k' a ob g1', g2⟩ q'
  case hc =>
    intro h' i j Q' kp hi hj hq
    obtain ⟨a, ⟨c1, d1, dt1, sl1⟩, k, jt, e1, g1, g2, g3, g4⟩ := item i hi
    obtain ⟨b, ⟨c2, d2, dt2, sl2⟩, k', jt', e2, g5, g6, g7, g8⟩ := item j hj
    rw [e1, e2, keyLt'_oneType, oneLt'_eq]
    simp only [if_true]
    simp only at g2 g3 g6 g7
    subst g2 g3 g6 g7
    have kp' : ∀ b o, s.heap.get? b = some o → o.cls = .type "tuple" → h'.get? b = some o := fun b o g _ => kp b o (nL b o g) (k2 b o (k1 b o g))
    have g1' := kp a _ (nL a _ g1) (k2 a _ (k1 a _ g1))
    have g5' := kp b _ (nL b _ g5) (k2 b _ (k1 b _ g5))
    have l1 := Paired.length g4
    have l2 := Paired.length g8
    have pr : ∀ (m : Nat) (h1 : m < jt.toArray.size) (h2 : m < jt'.toArray.size), PairAt h' jt.toArray[m] ((ps.getD i []).getD m (0, 0)) ∧ PairAt h' jt'.toArray[m] ((ps.getD j []).getD m (0, 0)) := by
      intro m h1 h2
      rw [List.size_toArray] at h1 h2
      obtain ⟨q1, e3, f1⟩ := paired_get g4 (List.getElem?_eq_getElem h1)
      obtain ⟨q2, e4, f2⟩ := paired_get g8 (List.getElem?_eq_getElem h2)
      rw [List.getD_eq_getElem?_getD, e3, List.getD_eq_getElem?_getD, e4]
      exact ⟨f1.kept kp', f2.kept kp'⟩
    refine wpAny_bind (wpAny_cRoomFor (by show X.A.units + 1 + 1 < cLine; omega) ?_)
    refine wpAny_bind (wpAny_callSpecialIfBound?_slot (T := "list") ⟨_, g1', rfl⟩ F.slot_list_lt (call_meets F.slot_list_lt ⟨_, g1', rfl⟩ F.entry_list_lt (F.args_list_lt_2 _ _)
      (list_ltAt a b _ _ k k' d1 d2 sl1 sl2 (fun m => decide ((ps.getD i []).getD m (0, 0) = (ps.getD j []).getD m (0, 0))) (fun m => lexI ((ps.getD i []).getD m (0, 0)) ((ps.getD j []).getD m (0, 0))))
      ⟨g1', g5', fun m h1 h2 => eqAt_pair (by show X.A.units + 1 + 1 + 1 < cLine; omega) (pr m h1 h2).1 (pr m h1 h2).2, fun m h1 h2 => ltAt_pair (by show X.A.units + 1 + 1 + 1 < cLine; omega) (pr m h1 h2).1 (pr m h1 h2).2, ?_⟩))
    have e5 := lexR_lexL (ps.getD i []) (ps.getD j []) _ 0 rfl (Nat.zero_le _) (Nat.zero_le _)
    rw [List.drop_zero, List.drop_zero, List.drop_zero] at e5
    rw [List.size_toArray, List.size_toArray, l1, l2, e5]
    exact wpAny_truthy_bool hq
  -- the new list
  have pml : pm.toList.Perm (List.range its.length) := by simpa using (Array.perm_iff_toList_perm.mp hpm)
  have pmlt : ∀ i ∈ pm.toList, i < its.length := fun i hi => List.mem_range.mp (pml.mem_iff.mp hi)
  obtain ⟨ep, hat⟩ := sortedHeap_at (out := (pm.toList.map fun i => its.getD i Value.none).toArray) hoL
  have old : ∀ b ob, h1.get? b = some ob → (sortedHeap (h1.push (seqObj "list" its.toArray 0)) h1.objs.size its (pm.toList.map fun i => its.getD i Value.none).toArray).get? b = some ob := fun b ob e => by
    rw [sortedHeap_old (Nat.ne_of_lt (Heap.lt_size e)) (by rw [size_push']; exact Nat.lt_succ_of_lt (Heap.lt_size e))]
    exact k2 b ob e
  have nvals : Vals (pm.toList.map fun i => ys.getD i V.non) (pm.toList.map fun i => its.getD i Value.none) := by
    refine paired_of (by simp) fun i x u e1 e2 => ?_
    rw [List.getElem?_map] at e1 e2
    cases e : pm.toList[i]? with
    | none => rw [e] at e1; cases e1
    | some m =>
      rw [e] at e1 e2
      cases e1
      cases e2
      have hm := pmlt m (List.mem_of_getElem? e)
      obtain ⟨u, hu, ru⟩ := rv.get (List.getElem?_eq_getElem (by omega : m < ys.length))
      simp only [List.getD, List.getElem?_eq_getElem (by omega : m < ys.length), hu, Option.getD_some]
      exact ru
  have hz : (pm.toList.map fun i => ys.getD i V.non).length ≤ sizeLine := by rw [List.length_map, pml.length_eq, List.length_range]; omega
  have permOf : ∀ {α : Type} (l : List α) (d : α), l.length = its.length → (pm.toList.map fun i => l.getD i d).Perm l := fun {α} l d hl => by
    have e : (List.range its.length).map (fun i => l.getD i d) = l := by
      rw [← hl]
      apply List.ext_getElem?
      intro k
      rw [List.getElem?_map]
      by_cases hk : k < l.length
      · simp [List.getD, hk]
      · rw [List.getElem?_eq_none (by simpa using hk), List.getElem?_eq_none (by simpa using hk)]
        rfl
    have := pml.map fun i => l.getD i d
    rw [e] at this
    exact this
  have I2 := I1.laid (t' := s.toks) (a := h1.objs.size) (o := .lst (pm.toList.map fun i => ys.getD i V.non)) old (Nat.le_refl _) ⟨hz, _, ep, nvals, hat⟩
  refine ⟨.ref h1.objs.size, _, I2, rfl, q _ _ (pm.toList.map fun i => ps.getD i []) I1.fresh (paired_of (by simp) fun i x y e1 e2 => ?_) (permOf ys V.non (by omega)) (permOf ps [] (by omega)) ?_⟩
  · rw [List.getElem?_map] at e1 e2
    cases e : pm.toList[i]? with
    | none => rw [e] at e1; cases e1
    | some m =>
      rw [e] at e1 e2
      cases e1
      cases e2
      have hm := pmlt m (List.mem_of_getElem? e)
      obtain ⟨y, hy, hF⟩ := paired_get hp (List.getElem?_eq_getElem (by omega : m < ys.length))
      simp only [List.getD, List.getElem?_eq_getElem (by omega : m < ys.length), hy, Option.getD_some]
      exact hF
  · rw [List.pairwise_map]
    rw [List.pairwise_iff_getElem]
    intro i j hi hj hij
    have hj' : j < its.length := by rw [pml.length_eq, List.length_range] at hj; exact hj
    have := hinc i j (Nat.le_of_lt hij) hj'
    simp only [Array.getD_eq_getD_getElem?] at this
    rw [show pm[i]? = some (pm.toList[i]) by rw [← Array.getElem?_toList]; exact List.getElem?_eq_getElem hi, show pm[j]? = some (pm.toList[j]) by rw [← Array.getElem?_toList]; exact List.getElem?_eq_getElem hj] at this
    exact this
end
theorem cells_of {cl m : List (Str × Addr)} (h : ∀ p ∈ cl, m.lookup p.1 = some p.2) : ∀ y c, cl.lookup y = some c → m.lookup y = some c := fun y c q => h _ (PySem.mem_of_lookup q)
def rSortedP (K : PySem.W.Frag) : List V → Hp → VK → Prop := fun xs H Q => ∃ (p : Addr) (ys : List V) (ps : List (Int × Int)) (F : V → Int × Int → Prop), xs = [.ref p] ∧ (SqL K H p ys ∨ SqT K H p ys) ∧ Paired F ys ps ∧ (∀ v q, F v q → PrV K H v q) ∧ ys.length < 64 ∧
    ∀ (l : Addr) (zs : List V) (qs : List (Int × Int)), H l = none → Paired F zs qs → zs.Perm ys → qs.Perm ps → qs.Pairwise (fun a b => lexI b a = false) → Q (.ref l) (upd H l (.lst zs))
theorem call_sortedP' {X : Cx} : CallR X (.builtin "sorted") (rSortedP X.K) := call_sortedP
end L2
namespace L2
open PySem PySem.W PySem.Spec PySem.Calls PyProof.Rows PySem.Builtin.Getset_descriptor
/-! ### exceptions of own classes: __class__, isinstance -/
section
variable {prog : Program} {w : World} {A : Around} {E : Value → Shared → Prop} {s : Shared} {K : Frag} {x D : Addr} {ox : Obj}
theorem bexc_type : builtinKind "BaseException.__getattribute__" = some .slot := by decide +kernel
theorem bexc_split : splitId "BaseException.__getattribute__" = some ("BaseException", "__getattribute__") := by decide +kernel
theorem bexc_ga_plain : plainId "BaseException.__getattribute__" = true := by decide +kernel
theorem bexc_ga_bind (self : Value) : bindSpecial (.builtin "BaseException.__getattribute__") self = pure (.builtin "BaseException.__getattribute__", [self]) := by
  have hop : withoutEnding? "BaseException.__getattribute__" "#opaque" = none := by decide +kernel
  have hdat : withoutEnding? "BaseException.__getattribute__" "#data" = none := by decide +kernel
  simp only [bindSpecial, typeOf, builtinType, hop, hdat, bexc_type]; rfl
/-- what an own exception class must have for a look at an instance's __class__ -/
structure ExcCls (K : Frag) (D : Addr) : Prop where
  cls : (clsIn K D).isSome = true
  ga : findIn K (.ref D) "__getattribute__" = some (some (.builtin "BaseException.__getattribute__"))
  gt : findIn K (.ref D) "__getattr__" = some none
  cl : findIn K (.ref D) "__class__" = some (some (.builtin "object.__class__"))
  sp : specialIn K (.builtin "object.__class__") "__get__" = some (some (.builtin "getset_descriptor.__get__"))
  tk : takesIn K (.builtin "object.__class__") = some true
  mb : mroIn K D (.type "BaseException") = some true
  mo : mroIn K D (.type "object") = some true
def ExcAt (x C : Addr) (h : Heap) : Prop := ∃ o, h.get? x = some o ∧ o.cls = .ref C
theorem ExcAt.type {M : Model} {h : Heap} (I : ExcAt x D h) : Looks M h (typeOf (.ref x)) (.ref D) := by
  obtain ⟨o, h1, h2⟩ := I
  exact h2 ▸ (Looks.ld h1).andThen .now
theorem class_getE {R : Result → Shared → Prop} {tp : Value} (X : K.In s.heap) (I : ExcAt x D s.heap) (hm : mroIn K D (.type "object") = some true)
    (h : R (.ok (.ret (.ref D))) s) : codeAny (model prog w) A (.call (.builtin "getset_descriptor.__get__") ⟨[.builtin "object.__class__", .ref x, tp], []⟩) R s := by
  obtain ⟨hh, g, dr, t, os⟩ := s
  have L0 := I.type (M := model prog w)
  have L1 := looks_mroIn (M := model prog w) X hm
  refine codeAny_call_builtin KF.slot_gs.plain KF.entry_gs (KF.slot_gs.check _ _ _ _ _ _ _ _ KF.type_class (KF.args_gs _ _ _) ?_)
  unfold Builtin.«getset_descriptor.__get__» descrGet
  rw [dga_obj]
  refine wpAny_bind (wpAny_pure ?_)
  unfold descrGetter descrCheckInstance descrNameAndClass isInstance
  simp only [KF.owner_class]
  repeat lk
  refine ⟨Code.quiet_builtin _ (by decide +kernel), codeAny_builtin KF.entry_class ?_⟩
  unfold Builtin.«object.__class__» shownTypeOf
  repeat lk
  exact h
theorem exc_class {Q : Option Value → Shared → Prop} (X : K.In s.heap) (I : ExcAt x D s.heap) (C : ExcCls K D) (h : Q (some (.ref D)) { s with toks := s.toks + 1 }) : wpAny (model prog w) A (getAttr? (.ref x) "__class__") Q E s := by
  obtain ⟨hh, g, d, t, os⟩ := s
  have L0 := I.type (M := model prog w)
  have L1 := looks_findIn (M := model prog w) X C.ga
  have L2 := looks_findIn (M := model prog w) X C.gt
  have L3 := looks_mroIn (M := model prog w) X C.mb
  have L4 : Looks (model prog w) hh (Builtin.ObjectAttr.find (.ref x) (.ref D) "__class__") (.bind (.builtin "getset_descriptor.__get__") (.builtin "object.__class__")) := by
    have L5 := looks_findIn (M := model prog w) X C.cl
    have L6 : Looks (model prog w) hh (Builtin.ObjectAttr.getOf (some (.builtin "object.__class__"))) (some (.builtin "getset_descriptor.__get__")) := looks_specialIn X C.sp
    have L7 := looks_takesIn (M := model prog w) X C.tk
    refine L5.andThen (L6.andThen ?_)
    exact (show Looks (model prog w) hh (Builtin.ObjectAttr.dataDescriptor? (some (.builtin "object.__class__")) (some (.builtin "getset_descriptor.__get__"))) (some (.builtin "getset_descriptor.__get__", .builtin "object.__class__")) from L7.andThen .now).andThen (Looks.tag .now)
  have hx2 : (onTheHeap (Value.ref D) && Value.builtin "BaseException.__getattribute__" == Value.builtin "object.__getattribute__") = false := by
    have : (Value.builtin "BaseException.__getattribute__" == Value.builtin "object.__getattribute__") = false := by decide +kernel
    rw [this]; rfl
  unfold getAttr? getAttrBy? getAttrBy
  refine wpAny_bind (wpAny_mkText (wpAny_bind (wpAny_attempt (wpAny_holding (wpAny_bind (L0.at (wpAny_bind (L1.at ?_))))))))
  dsimp only
  rw [hx2, if_neg (by decide)]
  unfold getAttrByItsOwn hookBefore
  refine wpAny_bind ?_
  rw [if_pos (show onTheHeap (Value.ref D) = true from rfl)]
  refine L2.at (wpAny_bind (wpAny_attempt (wpAny_holding ?_)))
  unfold callGetattribute boundAndCalled
  rw [if_neg (by decide)]
  have f3 := bexc_ga_bind (.ref x)
  rw [f3]
  refine wpAny_bind (wpAny_pure ?_)
  refine wpAny_call (codeAny_call_builtin bexc_ga_plain F.entry_bexc_ga ?_)
  simp only [checkBuiltinCall, bexc_type, bexc_split]
  refine wpAny_bind ?_
  unfold isInstance
  refine wpAny_bind (L0.at (L3.at ?_))
  dsimp only
  rw [if_neg (by decide)]
  have ok := F.args_bexc_ga (.ref x) (.str "__class__" t)
  have fin : wpAny (model prog w) A.in1 (Builtin.«object.__getattribute__» ⟨[.ref x, .str "__class__" t], []⟩) (fun fin s' => match fin with
      | .done (.ret v) => v = .ref D ∧ s' = ⟨hh, g, d, t + 1, os⟩
      | _ => False) (fun _ _ => False) ⟨hh, g, d, t + 1, os⟩ := by
    unfold Builtin.«object.__getattribute__»
    repeat (first | with_reducible refine wpAny_call (class_getE (s := ⟨hh, g, d, t + 1, os⟩) X I C.mo ?_) | lk)
    exact ⟨rfl, rfl⟩
  have end_ : ∀ {Q' : Fin → Shared → Prop} {E' : Value → Shared → Prop}, Q' (.done (.ret (.ref D))) ⟨hh, g, d, t + 1, os⟩ → wpAny (model prog w) A.in1 (Builtin.«object.__getattribute__» ⟨[.ref x, .str "__class__" t], []⟩) Q' E' ⟨hh, g, d, t + 1, os⟩ := fun {Q' E'} q => wpAny_mono fin (fun f s' z => by
    rcases f with (_ | _ | _ | _) | _ <;> first | exact z.elim | skip
    obtain ⟨rfl, rfl⟩ := z
    exact q) fun _ _ z => z.elim
  cases hsig : Manifest.signature? "BaseException.__getattribute__" with
  | none => exact wpAny_pure (end_ (handed_on rfl (wpAny_pure h)))
  | some sig =>
    simp only [argsOk, hsig] at ok
    have h2 : Bind.checkArgs "BaseException.__getattribute__" sig ⟨[.ref x, .str "__class__" t], []⟩ = pure () := ok
    show wpAny _ _ (Bind.checkArgs "BaseException.__getattribute__" sig ⟨[.ref x, .str "__class__" t], []⟩) _ _ _
    rw [h2]
    exact wpAny_pure (end_ (handed_on rfl (wpAny_pure h)))
theorem kitx_exc (C : ExcCls K D) : KitX K (.ref x) (.ref D) (ExcAt x D) where
  ty := fun _ _ _ I => I.type
  it := fun _ _ X _ => by
    obtain ⟨cdD, hcD⟩ := Option.isSome_iff_exists.mp C.cls
    unfold clsIn at hcD
    split at hcD
    · rename_i c' d' cd' sl' ho
      intro A' Q' E' s' k q
      unfold isType loadHead
      exact wpAny_bind (wpAny_loadPart (k _ _ (X _ _ ho)) (wpAny_pure q))
    · cases hcD
  ne := fun h tp dd its n sl X htp => by
    obtain ⟨cdD, hcD⟩ := Option.isSome_iff_exists.mp C.cls
    refine Bool.eq_false_iff.mpr fun q => ?_
    have e : D = tp := Value.ref.inj (beq_iff_eq.mp q)
    subst e
    unfold clsIn at hcD
    split at hcD
    · rename_i c' d' cd' sl' ho
      have z := (X _ _ ho).symm.trans htp
      cases z
    · cases hcD
  ca := fun X I k => exc_class X I C k
end
end L2
namespace L2
open PySem PySem.W PySem.Spec PyProof.Rows
/-! ### isinstance of an exception in hand -/
theorem ExcAt.stay {x C : Addr} {h1 h2 : Heap} (p : ExcAt x C h1) (k : ∀ o, h1.get? x = some o → h2.get? x = some o) : ExcAt x C h2 := by
  obtain ⟨ox, a, b⟩ := p
  exact ⟨ox, k _ a, b⟩
section
variable {X : Cx}
def rIsiE (K : Frag) : List V → Hp → VK → Prop := fun xs H Q => ∃ x C c b, xs = [.ref x, c] ∧ H x = some (.ext (ExcAt x C)) ∧ ExcCls K C ∧ ((∃ D, c = .ref D ∧ kitOne K (.ref C) (.ref D) = some b) ∨ (∃ T, c = .ty T ∧ kitOne K (.ref C) (.type T) = some b)) ∧ Q (.bl b) H
theorem call_isiE : CallR X (.builtin "isinstance") (rIsiE X.K) := by
  intro pins s σ H xs us Q I r h
  obtain ⟨x, C, c, b, rfl, hx, ec, hc, q⟩ := h
  obtain ⟨u, v, rfl, ru, rv⟩ := r.two
  obtain rfl : u = Value.ref x := ru
  have p : ExcAt x C s.heap := (show ObjOk X.prog X.w H s.heap x (.ext (ExcAt x C)) from I.hok x _ hx).1
  rcases hc with ⟨D, rfl, e⟩ | ⟨T, rfl, e⟩
  · obtain rfl : v = Value.ref D := rv
    exact kia_one (kitx_exc ec) I.kIn p e (fun z => nomatch z) fun tk => ⟨.bl b, H, I.tok tk, rfl, q⟩
  · obtain rfl : v = Value.type T := rv
    exact kia_one (kitx_exc ec) I.kIn p e (fun z => nomatch z) fun tk => ⟨.bl b, H, I.tok tk, rfl, q⟩
end
/-! ### an exception in flight -/
section
variable {X : Cx} {pins : List (Addr × Obj)} {σ : List (Option V)} {H H' : Hp} {s : Shared} {h' : Heap}
theorem Inv.step2 {g' : Array GenState} {t' : Nat} {d' : Drawn} {ch : List Addr} (I : Inv X pins σ H s)
    (hch : ∀ b ∈ ch, (b ∈ X.ex ∨ X.s₀.heap.get? b = none) ∧ b ≠ X.env.locals ∧ (∀ x c, X.env.cells.lookup x = some c → c ≠ b) ∧ ∀ p ∈ X.pn ++ pins, p.1 ≠ b)
    (keep : ∀ b o, b ≠ X.env.locals → b ∉ X.fs → b ∉ ch → s.heap.get? b = some o → H b = none → h'.get? b = some o)
    (slot : ∀ b o, b ≠ X.env.locals → b ∈ X.fs → b ∉ ch → s.heap.get? b = some o → H b = none → ∃ sl, h'.get? b = some { o with slots := sl }) (free : ∀ b o, b ∉ ch → s.heap.get? b = some o → H b = none → H' b = none)
    (there : ∀ b o, b ∉ ch → s.heap.get? b = some o → ∃ o', h'.get? b = some o')
    (tups : ∀ b xs, H b = some (.tup xs) → H' b = some (.tup xs)) (frzs : ∀ b o u, H b = some (.frz o u) → H' b = some (.frz o u)) (tbls : ∀ b ps, H b = some (.tbl ps) → ∃ more, H' b = some (.tbl (ps ++ more)))
    (ns : ∀ m, s.heap.Ns X.env.locals m → h'.Ns X.env.locals m) (hok : HOk X.prog X.w H' h') (hg : AllBare g') :
    Inv X pins σ H' { s with heap := h', gens := g', drawn := d', toks := t' } := by
  have neL : ∀ b o, X.s₀.heap.get? b = some o → b ≠ X.env.locals := fun b o e => Nat.ne_of_lt (Nat.lt_of_lt_of_le (Heap.lt_size e) I.ok.above)
  have neC : ∀ b o, X.s₀.heap.get? b = some o → b ∉ X.ex → b ∉ ch := fun b o e hx hb => by
    rcases (hch b hb).1 with z | z
    · exact hx z
    · rw [z] at e; cases e
  have cellK : ∀ x c, X.env.cells.lookup x = some c → ∀ v, s.heap.IsCell c v → h'.IsCell c v := fun x c e v ⟨o, ho, hd⟩ => by
    have nch : c ∉ ch := fun z => (hch c z).2.2.1 x c e rfl
    by_cases hc : c ∈ X.fs
    · obtain ⟨sl, q⟩ := slot c o (I.cne x c e) hc nch ho (I.freeC x c e)
      exact ⟨_, q, hd⟩
    · exact ⟨o, keep c o (I.cne x c e) hc nch ho (I.freeC x c e), hd⟩
  refine ⟨I.ok, I.os, hg, ⟨fun b o e n hb hx => ?_, fun b o e n hb hx => ?_, fun b o e n hx => ?_, fun b o e hx => ?_, fun b xs e => tups b xs (I.base.tups b xs e), fun b o xs e => frzs b o xs (I.base.frzs b o xs e), fun b ps e => ?_⟩, ?_, fun x c e => ?_, ?_, fun x c e => ?_, fun p hp => ?_, hok, I.len⟩
  · exact keep b o (neL b o e) hb (neC b o e hx) (I.base.keep b o e n hb hx) (I.base.free b o e n hx)
  · obtain ⟨sl, e1⟩ := I.base.slot b o e n hb hx
    obtain ⟨sl', e2⟩ := slot b _ (neL b o e) hb (neC b o e hx) e1 (I.base.free b o e n hx)
    exact ⟨sl', e2⟩
  · obtain ⟨o', e1⟩ := I.base.there b o e hx
    exact free b o' (neC b o e hx) e1 (I.base.free b o e n hx)
  · obtain ⟨o', e1⟩ := I.base.there b o e hx
    exact there b o' (neC b o e hx) e1
  · obtain ⟨m1, e1⟩ := I.base.tbls b ps e
    obtain ⟨m2, e2⟩ := tbls b _ e1
    exact ⟨m1 ++ m2, by rw [e2, Array.append_assoc]⟩
  · obtain ⟨m, hn, hl⟩ := I.loc
    refine ⟨m, ns m hn, fun i x v e1 e2 e3 => ?_⟩
    obtain ⟨u, r, l⟩ := hl i x v e1 e2 e3
    refine ⟨u, r, ?_⟩
    rcases l with l | ⟨k, c, e, z⟩
    · exact .inl l
    · exact .inr ⟨k, c, e, cellK x c e _ z⟩
  · obtain ⟨v, z⟩ := I.cell x c e
    exact ⟨v, cellK x c e v z⟩
  · obtain ⟨m, ⟨o, _, _, ho, _⟩, _⟩ := I.loc
    exact free _ o (fun z => (hch _ z).2.1 rfl) ho I.free
  · obtain ⟨v, o, ho, hd⟩ := I.cell x c e
    exact free c o (fun z => (hch c z).2.2.1 x c e rfl) ho (I.freeC x c e)
  · obtain ⟨e, n, ne, nf, d⟩ := I.pin p hp
    have nch : p.1 ∉ ch := fun z => (hch p.1 z).2.2.2 p hp rfl
    exact ⟨keep p.1 p.2 ne nf nch e n, free p.1 p.2 nch e n, ne, nf, d⟩

theorem ObjOk.there {P : Program} {w : World} {H : Hp} {h : Heap} {a : Addr} {o : HO} (x : ObjOk P w H h a o) : ∃ ob, h.get? a = some ob := by
  cases o with
  | lst xs => obtain ⟨_, _, _, _, e⟩ := x; exact ⟨_, e⟩
  | tup xs => obtain ⟨_, _, _, o, e, _⟩ := x; exact ⟨_, e⟩
  | dK kvs => obtain ⟨_, _, _, _, o, _, _, e, _⟩ := x; exact ⟨_, e⟩
  | dT kvs => obtain ⟨_, _, _, _, o, _, _, e, _⟩ := x; exact ⟨_, e⟩
  | set S n => obtain ⟨o, _, _, _, e, _⟩ := x; exact ⟨_, e⟩
  | ins C dx fs => obtain ⟨_, _, _, e, _⟩ := x; exact ⟨_, e⟩
  | own y => obtain ⟨_, e⟩ := x; exact ⟨_, e⟩
  | xd fs => obtain ⟨_, ⟨_, _, _, e, _⟩, _⟩ := x; exact ⟨_, e⟩
  | rng lo hi => obtain ⟨_, _, _, e⟩ := x; exact ⟨_, e⟩
  | frz ob u => obtain ⟨e, _⟩ := x; exact ⟨_, e⟩
  | tbl ps => exact ⟨_, (show h.get? a = some _ from x)⟩
  | met f y => exact ⟨_, (show h.get? a = some _ from x)⟩
  | ext φ => obtain ⟨_, e, _⟩ := x; exact e
theorem HOk.none {P : Program} {w : World} {H : Hp} {h : Heap} {a : Addr} (x : HOk P w H h) (e : h.get? a = none) : H a = none := by
  cases q : H a with
  | none => rfl
  | some o => obtain ⟨ob, z⟩ := (x a o q).there; rw [e] at z; cases z
/-- behind a step that changed the untracked records at ch, and slots of the frames that run -/
theorem Inv.left {ch : List Addr} (I : Inv X pins σ H s) (hch : ∀ b ∈ ch, X.s₀.heap.get? b = none ∧ H b = none ∧ b ≠ X.env.locals ∧ (∀ x c, X.env.cells.lookup x = some c → c ≠ b) ∧ ∀ p ∈ X.pn ++ pins, p.1 ≠ b)
    (stays : (hideAll s.heap (ch ++ frs X.stack)).StaysIn h') (ups : s.heap.UpToSlots h') : Inv X pins σ H { s with heap := h' } := by
  have keep : ∀ b o, b ∉ ch → b ∉ frs X.stack → s.heap.get? b = some o → h'.get? b = some o := fun b o h1 h2 e => stays b o (hideAll_get _ e fun z => (List.mem_append.mp z).elim h1 h2)
  have nst : ∀ b, b ≠ X.env.locals → b ∉ X.fs → b ∉ frs X.stack := fun b h1 h2 z => (List.mem_cons.mp (I.stkSub b z)).elim h1 h2
  have frame : ∀ b o, b ∈ frs X.stack → s.heap.get? b = some o → ∃ sl, h'.get? b = some { o with slots := sl } := fun b o hb e => by
    obtain ⟨_, o', ho', hnf⟩ := I.stack.mem hb
    rw [e] at ho'
    cases ho'
    exact ups b o e hnf
  refine I.step2 (g' := s.gens) (t' := s.toks) (d' := s.drawn) (ch := ch) (fun b hb => ⟨.inr (hch b hb).1, (hch b hb).2.2⟩) (fun b o h1 h2 h3 e _ => keep b o h3 (nst b h1 h2) e) (fun b o h1 h2 h3 e _ => ?_) (fun b o _ _ n => n) (fun b o h3 e => ?_) (fun _ _ e => e) (fun _ _ _ e => e) (fun b ps e => ⟨#[], by rw [e]; simp⟩) (fun m hm => ups.ns hm) (fun b u e => ?_) I.bare
  · obtain ⟨_, o', ho', hnf⟩ := I.funs.mem h2
    rw [e] at ho'
    cases ho'
    exact ups b o e hnf
  · by_cases hb : b ∈ frs X.stack
    · obtain ⟨sl, z⟩ := frame b o hb e
      exact ⟨_, z⟩
    · exact ⟨o, keep b o h3 hb e⟩
  · refine (I.hok b u e).stay (fun c v hc q => ?_) (fun _ q => q) fun _ _ q => q
    have hcn : ∃ z, H c = some z := by
      rcases hc with rfl | hc
      · exact ⟨_, e⟩
      · exact ⟨_, hc⟩
    obtain ⟨z, hz⟩ := hcn
    refine keep c v (fun m => ?_) (fun m => ?_) q
    · rw [(hch c m).2.1] at hz; cases hz
    · rw [I.stkFree c m] at hz; cases hz
/-- an exception that flies: it and its traceback's head are new, and nothing tracks them -/
def Flies (H : Hp) (h₀ h : Heap) (x : Addr) (cls : Value) : Prop := H x = none ∧ h₀.get? x = none ∧ ∃ oe vs T oT ts a0, h.get? x = some oe ∧ oe.cls = cls ∧ oe.data = .fields vs ∧ vs[0]? = some a0 ∧ vs[1]? = some (.ref T) ∧ H T = none ∧ h₀.get? T = none ∧ T ≠ x ∧
  h.get? T = some oT ∧ oT.data = .fields ts ∧ ts[3]? = some .none
end
end L2
namespace L2
open PySem PySem.W PySem.Spec PyProof.Rows
section
variable {X : Cx} {pins : List (Addr × Obj)} {σ : List (Option V)} {H : Hp} {s : Shared} {x T b : Addr} {cls a0 : Value}
/-- what is new stands apart from the frame, the cells, the pins -/
theorem Inv.gone (I : Inv X pins σ H s) (hex : X.ex = []) (e : s.heap.get? b = none) : X.s₀.heap.get? b = none ∧ H b = none ∧ b ≠ X.env.locals ∧ (∀ x c, X.env.cells.lookup x = some c → c ≠ b) ∧ ∀ p ∈ X.pn ++ pins, p.1 ≠ b := by
  refine ⟨?_, I.hok.none e, fun z => ?_, fun x c hc z => ?_, fun p hp z => ?_⟩
  · cases q : X.s₀.heap.get? b with
    | none => rfl
    | some o => obtain ⟨o', z⟩ := I.base.there b o q (by rw [hex]; simp); rw [e] at z; cases z
  · obtain ⟨m, ⟨o, _, _, ho, _⟩, _⟩ := I.loc
    rw [← z, e] at ho; cases ho
  · obtain ⟨v, o, ho, _⟩ := I.cell x c hc
    rw [z, e] at ho; cases ho
  · have := (I.pin p hp).1
    rw [z, e] at this; cases this
theorem frs_mem {l : List Env} {env : Env} {a : Addr} (h : env ∈ l) (e : env.frame = some a) : a ∈ frs l := List.mem_filterMap.mpr ⟨env, h, e⟩
/-- a flying exception over the heap without it -/
theorem fly_on (I : Inv X pins σ H s) {h₀ : Heap} (F : Flies H h₀ s.heap x cls) : ∃ T a0, H T = none ∧ h₀.get? T = none ∧ Heap.FlyingW (hideAll s.heap ([x, T] ++ frs X.stack)) X.stack x cls a0 s.heap := by
  obtain ⟨f1, f2, oe, vs, T, oT, ts, a0, g1, g2, g3, g4, g5, g6, g7, g8, g9, g10, g11⟩ := F
  exact ⟨T, a0, g6, g7, fun b o q => of_hideAll _ q, hideAll_none _ (by simp), funFrames_hide I.stack fun env he a ha => List.mem_append_right _ (frs_mem he ha), oe, vs, T, oT, ts, g1, ⟨g2, g4⟩, g3, g5, hideAll_none _ (by simp), g8, g9, g10, g11⟩
/-- and back: behind steps over it -/
theorem fly_back {h₀ h' : Heap} {ch : List Addr} {l : List Env} (I : Inv X pins σ H s) (hch : ∀ b ∈ ch, H b = none ∧ h₀.get? b = none) (hold : ∀ b, h₀.get? b = none → X.s₀.heap.get? b = none ∧ b ≠ X.env.locals ∧ (∀ x c, X.env.cells.lookup x = some c → c ≠ b) ∧ ∀ p ∈ X.pn ++ pins, p.1 ≠ b)
    (hnew : ∀ b, s.heap.get? b = none → h₀.get? b = none) (hx : x ∈ ch) (fly : Heap.FlyingW (hideAll s.heap (ch ++ frs X.stack)) l x cls a0 h') (ups : s.heap.UpToSlots h') : Inv X pins σ H { s with heap := h' } ∧ Flies H h₀ h' x cls := by
  obtain ⟨stays, _, _, oe, vs, T, oT, ts, g1, ⟨g2, g4⟩, g3, g5, gT, g8, g9, g10, g11⟩ := fly
  refine ⟨I.left (ch := ch) (fun b hb => ⟨(hold b (hch b hb).2).1, (hch b hb).1, (hold b (hch b hb).2).2⟩) stays ups, (hch x hx).1, (hch x hx).2, oe, vs, T, oT, ts, a0, g1, g2, g3, g4, g5, ?_⟩
  have nf : T ∉ frs X.stack := fun hb => by
    obtain ⟨_, o, ho, hnf⟩ := I.stack.mem hb
    obtain ⟨sl, z⟩ := ups T o ho hnf
    rw [g9] at z
    cases z
    exact hnf ts g10
  by_cases hT : T ∈ ch
  · exact ⟨(hch T hT).1, (hch T hT).2, g8, g9, g10, g11⟩
  · have e : s.heap.get? T = none := by
      cases q : s.heap.get? T with
      | none => rfl
      | some o => rw [hideAll_get _ q fun z => (List.mem_append.mp z).elim hT nf] at gT; cases gT
    exact ⟨I.hok.none e, hnew T e, g8, g9, g10, g11⟩
/-- a new exception leaves the frame -/
theorem leave_first {M : Model} {Q : Unit → Shared → Prop} {E : Value → Shared → Prop} {h1 : Heap} {vs : List Value} (I : Inv X pins σ H s) (hex : X.ex = []) (hst : X.stack = X.env :: X.outer) (hfr : X.env.frame = some X.env.locals) (m : Heap.MadeExcOf s.heap h1 x cls vs)
    (k : ∀ h', Inv X pins σ H { s with heap := h' } → Flies H s.heap h' x cls → Q () { s with heap := h' }) : wpAny M X.A (leaving X.env (.ref x)) Q E { s with heap := h1 } := by
  have I1 : Inv X pins σ H { s with heap := h1 } := I.kept (t' := s.toks) m.keeps
  obtain ⟨t, he, ht0, ht⟩ := m.there
  have hl : h1.FunFrames (hideAll h1 ([x] ++ frs X.stack)) (X.env :: X.outer) := by
    rw [← hst]
    exact funFrames_hide I1.stack fun env he a ha => List.mem_append_right _ (frs_mem he ha)
  refine wpAny_leaving_firstW (s := { s with heap := h1 }) (base := hideAll h1 ([x] ++ frs X.stack)) (by rw [I.ok.frames, hst]) hl hfr he (fun b o q => of_hideAll _ q) (hideAll_none _ (by simp)) rfl rfl rfl fun h' L => ?_
  obtain ⟨stays, ff, tr, ups⟩ := L
  obtain ⟨J, F⟩ := fly_back (s := { s with heap := h1 }) (h₀ := s.heap) (ch := [x]) (l := X.env :: X.outer) I1 (fun b hb => by rw [List.mem_singleton.mp hb]; exact ⟨I.hok.none m.new, m.new⟩) (fun b hb => ⟨(I.gone hex hb).1, (I.gone hex hb).2.2⟩) (fun b hb => by
    cases q : s.heap.get? b with
    | none => rfl
    | some o => rw [m.keeps b o q] at hb; cases hb) (by simp) ⟨stays, hideAll_none _ (by simp), ff, tr⟩ ups
  exact k h' J F
/-- one that flies leaves the frame -/
theorem leave_next {M : Model} {Q : Unit → Shared → Prop} {E : Value → Shared → Prop} {h₀ : Heap} (I : Inv X pins σ H s) (hst : X.stack = X.env :: X.outer) (hfr : X.env.frame = some X.env.locals) (F : Flies H h₀ s.heap x cls)
    (hold : ∀ b, h₀.get? b = none → X.s₀.heap.get? b = none ∧ b ≠ X.env.locals ∧ (∀ x c, X.env.cells.lookup x = some c → c ≠ b) ∧ ∀ p ∈ X.pn ++ pins, p.1 ≠ b) (hnew : ∀ b, s.heap.get? b = none → h₀.get? b = none)
    (k : ∀ h', Inv X pins σ H { s with heap := h' } → Flies H h₀ h' x cls → Q () { s with heap := h' }) : wpAny M X.A (leaving X.env (.ref x)) Q E s := by
  obtain ⟨T, a0, hT, hT0, fly⟩ := fly_on I F
  rw [hst] at fly
  refine wpAny_leaves_onW (by rw [I.ok.frames, hst]) hfr fly fun h' fly' ups => ?_
  rw [← hst] at fly'
  obtain ⟨J, F'⟩ := fly_back (ch := [x, T]) I (fun b hb => by
    simp only [List.mem_cons, List.not_mem_nil, or_false] at hb
    rcases hb with rfl | rfl
    · exact ⟨F.1, F.2.1⟩
    · exact ⟨hT, hT0⟩) hold hnew (by simp) fly' ups
  exact k h' J F'
end
/-! ### how an exception lies behind a call -/
def CX1 (P : Program) (w : World) : CXT := fun outer H s E e s' => ∃ x cls H', e = .ref x ∧ s'.os = s.os ∧ AllBare s'.gens ∧ Un (frs outer) [] H H' s.heap s'.heap ∧ HOk P w H' s'.heap ∧ Flies H' s.heap s'.heap x cls ∧ E cls none H'
section
variable {P : Program} {w : World} {K : Frag} {mg : Str → Option Value} {base : Heap} {N : List Str} {qual : Str} {scope : Scope} {f : Addr} {cdv : Value} {A : Around} {outer : List Env} {s₀ : Shared} {H₀ : Hp} {E : XK}
theorem Flies.since {H : Hp} {h₀ h₁ h : Heap} {x : Addr} {cls : Value} (F : Flies H h₁ h x cls) (k : ∀ b, h₁.get? b = none → h₀.get? b = none) : Flies H h₀ h x cls := by
  obtain ⟨f1, f2, oe, vs, T, oT, ts, a0, g1, g2, g3, g4, g5, g6, g7, g⟩ := F
  exact ⟨f1, k _ f2, oe, vs, T, oT, ts, a0, g1, g2, g3, g4, g5, g6, k _ g7, g⟩
/-- behind a call that raised -/
theorem Inv.afterX {X : Cx} {pins : List (Addr × Obj)} {σ : St} {H : Hp} {s s' : Shared} {E : XK} {e : Value} (I : Inv X pins σ H s) (h : CX1 X.prog X.w X.stack H s E e s') : ∃ x cls H', e = .ref x ∧ Inv X pins σ H' s' ∧ Flies H' s.heap s'.heap x cls ∧ (∀ b, s'.heap.get? b = none → s.heap.get? b = none) ∧ E cls none H' := by
  obtain ⟨x, cls, H', rfl, ho, hg, u, hok, fl, q⟩ := h
  refine ⟨x, cls, H', rfl, I.call' (ch := []) ho u hok hg (fun b z => absurd z (by simp)), fl, fun b hb => ?_, q⟩
  cases z : s.heap.get? b with
  | none => rfl
  | some o => obtain ⟨o', z'⟩ := u.there b o z (by simp); rw [hb] at z'; cases z'
abbrev cx1 (P : Program) (w : World) (K : Frag) (mg : Str → Option Value) (base : Heap) (N : List Str) (qual : Str) (scope : Scope) (f : Addr) (cd : Value) (A : Around) (outer : List Env) (s : Shared) (H : Hp) (E : XK) : Cx := cxOf (CX1 P w) P w K mg base N qual scope f cd A outer s H E
/-- an exception of a callee passes through -/
theorem pass1 : Passes (CX1 P w) (cx1 P w K mg base N qual scope f cdv A outer s₀ H₀ E) E := by
  intro pins σ H s e s' I h
  obtain ⟨x, cls, H', rfl, J, fl, hn, q⟩ := I.afterX h
  show wpAny _ _ (leaving _ (.ref x)) _ _ s'
  refine leave_next (X := cx1 P w K mg base N qual scope f cdv A outer s₀ H₀ E) J rfl rfl fl (fun b hb => ⟨(I.gone rfl hb).1, (I.gone rfl hb).2.2⟩) hn fun h' J' F' => ?_
  exact ⟨x, cls, H', rfl, J'.os, J'.bare, J'.base, J'.hok, F'.since fun b hb => (I.gone rfl hb).1, q⟩
/-- a new exception leaves -/
theorem raise1 {pins : List (Addr × Obj)} {σ : St} {H : Hp} {s : Shared} {h1 : Heap} {x : Addr} {cls : Value} {vs : List Value} (I : Inv (cx1 P w K mg base N qual scope f cdv A outer s₀ H₀ E) pins σ H s) (m : Heap.MadeExcOf s.heap h1 x cls vs) (q : E cls none H) :
    (cx1 P w K mg base N qual scope f cdv A outer s₀ H₀ E).xe (.ref x) { s with heap := h1 } := by
  show wpAny _ _ (leaving _ (.ref x)) _ _ _
  refine leave_first (X := cx1 P w K mg base N qual scope f cdv A outer s₀ H₀ E) I rfl rfl rfl m fun h' J F => ?_
  exact ⟨x, cls, H, rfl, J.os, J.bare, J.base, J.hok, F.since fun b hb => (I.gone rfl hb).1, q⟩
end
end L2
namespace L2
open PySem PySem.W PySem.Spec PyProof.Rows
/-! ### raise of an own class -/
theorem exc_obj {K : Frag} {h : Heap} {C : Addr} {bmB : List Value} {newId : String} (X : K.In h) (q : excIn K C bmB newId = true) :
    ∃ bm N nm q bs hdct sn sub ab col dd k0 k1 k2 k3 k5 mN, h.get? C = some (excClassObj nm q C N bs bm hdct sn sub ab col dd k0 k1 k2 k3 k5 newId) ∧ h.Ns N mN ∧ mN "__init__" = none ∧ OwnTail h bmB bm := by
  unfold excIn at q
  split at q
  · rename_i dd cd sl ho
    split at q
    · rename_i C' bm k0 k1 k2 k3 n k5 hm hs
      simp only [Bool.and_eq_true, beq_iff_eq, Bool.not_eq_true'] at q
      obtain ⟨⟨⟨⟨⟨rfl, rfl⟩, hdel⟩, ht⟩, hok⟩, hni⟩ := q
      obtain ⟨nm, bs, mro, ns, qn, hd, sn, sub, ab, col, del⟩ := cd
      dsimp only at hm hdel hok hni
      subst hm hdel
      have hsl : sl = #[k0, k1, k2, k3, some (.builtin n), k5] := by
        obtain ⟨l⟩ := sl
        simp only at hs
        rw [hs]
      subst hsl
      exact ⟨bm, ns, nm, qn, bs, hd, sn, sub, ab, col, dd, k0, k1, k2, k3, k5, _, X _ _ ho, .of_isNs (isNs_of_in X hok), nsMap_none_of_in X hok hni, tail_of_in X ht⟩
    · cases q
  · cases q
/-- the base classes of ValueError -/
abbrev bmV : List Value := [.type "ValueError", .type "Exception", .type "BaseException", .type "object"]
def tRaise (C : Addr) (E : XK) (ta : TA) : TS := fun _ σ H => ta σ H fun vs H1 => vs.length ≤ sizeLine ∧ E (.ref C) none H1
section
variable {P : Program} {w : World} {K : Frag} {mg : Str → Option Value} {base : Heap} {N : List Str} {qual : Str} {scope : Scope} {f : Addr} {cdv : Value} {A : Around} {outer : List Env} {s₀ : Shared} {H₀ : Hp} {E : XK}
theorem ps_raise {x : Str} {C : Addr} {e₀ : Expr} {rest : List Expr} {ta : TA} {np cpos pos : Pos} (hg : Gl (cx1 P w K mg base N qual scope f cdv A outer s₀ H₀ E) x) (hm : mg x = some (.ref C)) (hq : excIn K C bmV "ValueError.__new__" = true)
    (ha : PA (cx1 P w K mg base N qual scope f cdv A outer s₀ H₀ E) (e₀ :: rest) ta) (hd : (x == ("__debug__" : Str)) = false := by decide)
    (he : starEach (e₀ :: rest) (cx1 P w K mg base N qual scope f cdv A outer s₀ H₀ E).env = (false, eval e₀ (cx1 P w K mg base N qual scope f cdv A outer s₀ H₀ E).env) :: starEach rest (cx1 P w K mg base N qual scope f cdv A outer s₀ H₀ E).env := by rfl)
    (hpl : (backTo cpos (starEach rest (cx1 P w K mg base N qual scope f cdv A outer s₀ H₀ E).env)).any (·.1) = false := by rfl) :
    PS (cx1 P w K mg base N qual scope f cdv A outer s₀ H₀ E) (.Raise (some (.Call (.Name x np) (e₀ :: rest) [] cpos)) none pos) (tRaise C E ta) := by
  intro pins s σ H D I h
  obtain ⟨bm, Na, nm, q, bs, hdct, sn, sub, ab, col, dd, k0, k1, k2, k3, k5, mN, hC, hN, hni, T⟩ := exc_obj I.ok.mod.kin hq
  have FB := PySem.F.excBase_ValueError
  refine wpAny_Raise_call_subT (C := C) (nm := nm) (q := q) (N := Na) (bs := bs) (bm := bm) (hdct := hdct) (sn := sn) (sub := sub) (ab := ab) (col := col) (dd := dd) (k0 := k0) (k1 := k1) (k2 := k2) (k3 := k3) (k5 := k5)
    FB (mN := mN) (T.hasType FB.hasBase) (I.ok.hd rfl) (by rw [he]; show (false || (backTo cpos (starEach rest _)).any (·.1)) = false; rw [hpl]; rfl) hni (ld_glob I hg hm ⟨rfl, ?_⟩ hd)
  have ha' := ha cpos pins s σ H _ I h
  rw [he] at ha' ⊢
  refine Calls.evalArgs_plain (wpAny_mono ha' (fun us s₂ h₂ => ?_) fun _ _ y => y)
  obtain ⟨vs, H1, I2, r, hl, hE⟩ := h₂
  exact ⟨rfl, by rw [← r.length]; exact hl, I2.bk _ _ hC, hN.keeps I2.bk, T.keeps I2.bk, fun h' e m => raise1 I2 m hE⟩
/-- THE RULE for a def that may raise -/
theorem Fun.ok1 {x qual : Str} {st : Stmt} {f : Addr} {fd : FuncData} {N ps : List Str} {k : Nat} {sp : Sp} (F : Fun K x qual st f fd) (S : FnScope N ps (defScope st)) (len : ∀ vs H Q E, sp vs H Q E → vs.length = ps.length)
    (hbody : ∀ (cdv : Value) (A : Around) (outer : List Env) (s : Shared) (H : Hp) (vs : List V) (Q : VK) (E : XK), Room k (A.deeper (envOfC qual (defScope st) s.heap.objs.size f cdv)) → sp vs H Q E →
      ∃ t, PSs (cx1 P w K mg base N qual (defScope st) f cdv A outer s H E) (defBody st) t ∧ t { nx := fun _ H' => Q .non H', rt := Q } (start N vs) H) : FnOk P w K mg base (CX1 P w) (k + 1) f fd ps sp := by
  obtain ⟨oc, od, kV, doc, pm, an, cdv, ct, osl, rfl, lk, hcd⟩ := F.ex
  exact fn_of lk hcd S len fun A outer s H vs Q E hr hsp => hbody cdv A outer s H vs Q E hr hsp
end
end L2
namespace L2
open PySem PySem.W PySem.Spec PyProof.Rows
section
variable {prog : Program} {w : World} {A : Around} {E : Value → Shared → Prop} {s : Shared} {K : Frag} {x C D : Addr}
/-- what is caught: D a class of exceptions, C one under it -/
structure Caught (K : Frag) (C D : Addr) : Prop where
  ty : typeIn K (.ref D) = some (.type "type")
  cls : (clsIn K D).isSome = true
  mb : mroIn K D (.type "BaseException") = some true
  mro : mroIn K C (.ref D) = some true
theorem excMatch_own {Q : Bool → Shared → Prop} (X : K.In s.heap) (ex : ExcAt x C s.heap) (c : Caught K C D) (h : Q true s) : wpAny (model prog w) A (excMatches (.ref x) (.ref D)) Q E s := by
  obtain ⟨hh, g, d, t, os⟩ := s
  have L0 := ex.type (M := model prog w)
  have L1 := looks_typeIn (M := model prog w) X c.ty
  have L2 := looks_mroIn (M := model prog w) X c.mb
  have L3 := looks_mroIn (M := model prog w) X c.mro
  have L4 : Looks (model prog w) hh (isSubtype (.type "type") (.type "tuple")) false := Looks.of_pure tc_notTuple
  have L5 : Looks (model prog w) hh (isType (.ref D)) true := by
    obtain ⟨cdD, hcD⟩ := Option.isSome_iff_exists.mp c.cls
    unfold clsIn at hcD
    split at hcD
    · rename_i c' d' cd' sl' ho
      intro A' Q' E' s' k q
      unfold isType loadHead
      exact wpAny_bind (wpAny_loadPart (k _ _ (X _ _ ho)) (wpAny_pure q))
    · cases hcD
  unfold excMatches isInstance
  repeat lk
  exact h
end
/-! ### try: a call; except D as n: a suite -/
abbrev Cx.inEx (X : Cx) (x : Addr) : Cx := { X with A := X.A.mark (some (.ref x)), calm := false, xe := fun _ _ => False }
theorem Cx.Ok.inEx {X : Cx} (ok : X.Ok) (x : Addr) : (X.inEx x).Ok :=
  ⟨ok.mod, ok.kind, ok.glob, ok.blt, ok.above, ok.inj, ok.has, ok.cab, (fun z => nomatch z), ok.frames, ok.stk, ok.exf, ok.bs, ok.bsz, ok.noex, ok.exfs, ok.funs, ok.frf⟩
section
variable {X : Cx} {pins : List (Addr × Obj)} {σ : St} {H : Hp} {s : Shared} {x : Addr}
theorem Inv.inEx (I : Inv X pins σ H s) (x : Addr) : Inv (X.inEx x) pins σ H s := ⟨I.ok.inEx x, I.os, I.bare, I.base, I.loc, I.cell, I.free, I.freeC, I.pin, I.hok, I.len⟩
theorem Inv.outEx (I : Inv (X.inEx x) pins σ H s) (ok : X.Ok) : Inv X pins σ H s := ⟨ok, I.os, I.bare, I.base, I.loc, I.cell, I.free, I.freeC, I.pin, I.hok, I.len⟩
/-- the exception in hand is tracked -/
theorem Inv.track {C : Addr} (I : Inv X pins σ H s) (hx : H x = none) (h0 : X.s₀.heap.get? x = none ∧ x ≠ X.env.locals ∧ (∀ y c, X.env.cells.lookup y = some c → c ≠ x) ∧ ∀ p ∈ X.pn ++ pins, p.1 ≠ x) (p : ExcAt x C s.heap) : Inv X pins σ (upd H x (.ext (ExcAt x C))) s := by
  have ne : ∀ b u, H b = some u → b ≠ x := fun b u e => ne_of_none e hx
  refine I.step2 (g' := s.gens) (t' := s.toks) (d' := s.drawn) (h' := s.heap) (ch := [x]) (fun b hb => ?_) (fun b o _ _ _ e _ => e) (fun b o _ _ _ e _ => ⟨o.slots, e⟩) (fun b o hb _ n => ?_) (fun b o _ e => ⟨o, e⟩) (fun b xs e => ?_) (fun b o u e => ?_) (fun b ps e => ⟨#[], ?_⟩) (fun m hm => hm) (fun b u e => ?_) I.bare
  · rw [List.mem_singleton.mp hb]; exact ⟨.inr h0.1, h0.2⟩
  · rw [upd_ne (by simpa using hb)]; exact n
  · rw [upd_ne (ne b _ e)]; exact e
  · rw [upd_ne (ne b _ e)]; exact e
  · rw [upd_ne (ne b _ e), e]; simp
  · by_cases hb : b = x
    · subst hb
      rw [upd_same] at e
      cases e
      obtain ⟨o, h1, h2⟩ := p
      exact ⟨⟨o, h1, h2⟩, ⟨o, h1⟩, fun h1 h2 q k => q.stay k⟩
    · rw [upd_ne hb] at e
      exact (I.hok b u e).stay (fun _ _ _ q => q) (fun c q => by rw [upd_ne (ne c _ q)]; exact q) fun c xs q => by rw [upd_ne (ne c _ q)]; exact q
/-- a plain local name is deleted -/
theorem Inv.unbound {i : Nat} {n : Str} {h' : Heap} {m : Str → Option Value} {u : Option Value} (I : Inv X pins σ H s) (hN : X.N.Nodup) (hi : X.N[i]? = some n) (hm : s.heap.Ns X.env.locals m) (hn : h'.Ns X.env.locals fun y => if y = n then u else m y)
    (hs : Heap.SameBut X.env.locals s.heap h') (hloc : X.env.scope.names.lookup n = some .local) : Inv X pins (σ.set i none) H { s with heap := h' } := by
  obtain ⟨m', hn', hl⟩ := id I.loc
  have cne := I.cne
  have ltL : ∀ b o, X.s₀.heap.get? b = some o → b ≠ X.env.locals := fun b o e => Nat.ne_of_lt (Nat.lt_of_lt_of_le (Heap.lt_size e) I.ok.above)
  refine ⟨I.ok, I.os, I.bare, ⟨fun b o e n hb hx => (hs.2 b (ltL b o e)).trans (I.base.keep b o e n hb hx), fun b o e n hb hx => ?_, I.base.free, fun b o e hx => ?_, I.base.tups, I.base.frzs, I.base.tbls⟩, ⟨_, hn, fun j y v' e1 e2 e3 => ?_⟩, fun y c e => ?_, I.free, I.freeC, fun p hp => ?_, fun b ob e => ?_, by simpa using I.len⟩
  · obtain ⟨sl, e1⟩ := I.base.slot b o e n hb hx
    exact ⟨sl, (hs.2 b (ltL b o e)).trans e1⟩
  · obtain ⟨o', e1⟩ := I.base.there b o e hx
    exact ⟨o', (hs.2 b (ltL b o e)).trans e1⟩
  · have hj : j ≠ i := fun z => by
      subst z
      by_cases hl2 : j < σ.length
      · rw [List.getElem?_set_self hl2] at e2; cases e2
      · rw [List.getElem?_eq_none (by simpa using hl2)] at e2; cases e2
    rw [List.getElem?_set_ne (Ne.symm hj)] at e2
    obtain ⟨u', r', q⟩ := hl j y v' e1 e2 e3
    refine ⟨u', r', ?_⟩
    have hyn : y ≠ n := fun e => hj (nodup_ix hN e1 (e ▸ hi))
    rcases q with ⟨k, e⟩ | ⟨k, c, e, z⟩
    · refine .inl ⟨k, ?_⟩
      have : m = m' := hm.eq_nsMap.trans hn'.eq_nsMap.symm
      show (if y = n then u else m y) = some u'
      rw [if_neg hyn, this]
      exact e
    · exact .inr ⟨k, c, e, z.sameBut hs (cne y c e)⟩
  · obtain ⟨w', z⟩ := I.cell y c e
    exact ⟨w', z.sameBut hs (cne y c e)⟩
  · obtain ⟨e, nn, ne, nf, d⟩ := I.pin p hp
    exact ⟨(hs.2 p.1 ne).trans e, nn, ne, nf, d⟩
  · refine (I.hok b ob e).stay (fun c w' hc q => (hs.2 c ?_).trans q) (fun _ q => q) fun _ _ q => q
    rintro rfl
    rcases hc with rfl | hc
    · rw [I.free] at e; cases e
    · rw [I.free] at hc; cases hc
end
end L2
namespace L2
open PySem PySem.W PySem.Spec PyProof.Rows
section
variable {X : Cx}
/-- how an exception lies in the frame that called -/
def Lies (X : Cx) (pins : List (Addr × Obj)) (σ : St) (Ex : XK) (ex : Value) (s' : Shared) : Prop := ∃ x cls H' h₀, ex = .ref x ∧ Inv X pins σ H' s' ∧ Flies H' h₀ s'.heap x cls ∧
  (∀ b, h₀.get? b = none → X.s₀.heap.get? b = none ∧ b ≠ X.env.locals ∧ (∀ x c, X.env.cells.lookup x = some c → c ≠ b) ∧ ∀ p ∈ X.pn ++ pins, p.1 ≠ b) ∧ (∀ b, s'.heap.get? b = none → h₀.get? b = none) ∧ Ex cls none H'
/-- an expression that may raise -/
def PX (X : Cx) (e : Expr) (t : XK → TE) : Prop :=
  ∀ (pins : List (Addr × Obj)) (s : Shared) (σ : St) (H : Hp) (Q : VK) (Ex : XK), Inv X pins σ H s → t Ex σ H Q → wpAny (model X.prog X.w) X.A (eval e X.env) (EP X pins σ Q) (Lies X pins σ Ex) s
theorem px_call {k : Nat} {f : Addr} {fd : FuncData} {ps : List Str} {sp : Sp} {g : Str} {p pos : Pos} {e : Expr} {es : List Expr} {t : TA} (F : FnOk X.prog X.w X.K X.mg X.base (CX1 X.prog X.w) k f fd ps sp) (hr : Room k X.A) (hg : Gl X g) (hm : X.mg g = some (.ref f)) (hk : keepIn X.K (.ref f) = true) (hb : Binds X.K fd ps [])
    (hex : X.ex = []) (ha : ∀ xe, PA (X.wish xe) (e :: es) t) (hdb : (g == ("__debug__" : Str)) = false := by decide) (he : starEach (e :: es) X.env = (false, eval e X.env) :: starEach es X.env := by rfl) (hpl : (backTo pos (starEach es X.env)).any (·.1) = false := by rfl) :
    PX X (.Call (.Name g p) (e :: es) [] pos) (fun Ex => tCall sp [] Ex t) := by
  intro pins s σ H Q Ex I h
  refine wpAny_Call_Name_kw (ld_glob I hg hm ?_ hdb)
  refine PySem.W.callWith_K (h₀ := X.base) I.ok.mod.kin hk (thn (ha (Lies X pins σ Ex) pos pins s σ H _ (I.wish _) h) fun us s1 ⟨vs, H1, I1', r, q⟩ => ⟨I1'.unwish.kIn, ?_⟩) he hpl
  have I1 : Inv X pins σ H1 s1 := I1'.unwish
  have q : sp vs H1 Q Ex := by
    have q' : sp (vs ++ []) H1 Q Ex := q
    rw [List.append_nil] at q'
    exact q'
  have hl : us.length = ps.length := by rw [← r.length]; exact F.len _ _ _ _ q
  have hb' := hb s1 us I1.kIn (by rw [List.append_nil]; exact hl)
  rw [List.append_nil] at hb'
  refine wpAny_call (codeAny_mono (F.run X.A X.stack s1 H1 ⟨us, []⟩ us vs Q Ex hr I1.env0 hb' r q) fun r s' hq => ?_)
  cases r with
  | error ex =>
    obtain ⟨x, cls, H', rfl, J, fl, hn, q'⟩ := I1.afterX hq
    exact ⟨x, cls, H', s1.heap, rfl, J, fl, fun b hb => ⟨(I1.gone hex hb).1, (I1.gone hex hb).2.2⟩, hn, q'⟩
  | ok fl =>
    cases fl with
    | ret u => exact I1.after hq
    | next => exact False.elim hq
    | brk => exact False.elim hq
    | cont => exact False.elim hq
/-- a statement of one such expression -/
def PXS (X : Cx) (st : Stmt) (t : XK → TS) : Prop :=
  ∀ (pins : List (Addr × Obj)) (s : Shared) (σ : St) (H : Hp) (D : Ends) (Ex : XK), Inv X pins σ H s → t Ex D σ H → wpAny (model X.prog X.w) X.A (exec st X.env) (SP X pins D) (Lies X pins σ Ex) s
theorem pxs_expr {e : Expr} {t : XK → TE} {pos : Pos} (he : PX X e t) (hs : swapsWith e none pos.line X.env = pure false := by rfl) : PXS X (.Expr e pos) (fun Ex => tDrop (t Ex)) := by
  intro pins s σ H D Ex I h
  exact wpAny_Expr_any (thn (he pins s σ H _ Ex I h) fun v s1 ⟨x, H1, I1, r1, q1⟩ => ⟨σ, H1, I1, q1⟩) I.quiet hs
theorem pxs_set {i : Nat} {y : Str} {e : Expr} {t : XK → TE} {pos' pos : Pos} (hN : X.N.Nodup) (hi : X.N[i]? = some y) (hx : Loc X.env.scope y) (he : PX X e t) (hs : swapsWith e (some (.Name y pos')) pos.line X.env = pure false := by rfl) (hf : X.fn y = true ∨ X.env.scope.names.lookup y = some .local := by first | exact .inl rfl | exact .inr rfl | assumption) :
    PXS X (.Assign [.Name y pos'] e pos) (fun Ex => tAsg (t Ex) (gName i)) := by
  intro pins s σ H D Ex I h
  refine wpAny_Assign_Name (thn (he pins s σ H _ Ex I h) fun v s1 ⟨y, H1, I1, r1, q1⟩ => ?_) hs
  exact store_ok I1 hN hi hx r1 (fun s2 I2 => ⟨_, H1, I2, q1⟩) hf
/-- what is asked of a try -/
def tTry (K : Frag) (Dc : Addr) (i : Nat) (t : XK → TS) (th : TS) : TS := fun D σ H => t (fun cls _ H' => ∃ C, cls = .ref C ∧ Caught K C Dc ∧ ∀ x, H' x = none → th { nx := fun σ' H3 => D.nx (σ'.set i none) H3, rt := fun _ _ => False } (σ.set i (some (.ref x))) (upd H' x (.ext (ExcAt x C)))) D σ H
theorem ps_try {st : Stmt} {t : XK → TS} {c n : Str} {Dc : Addr} {i : Nat} {b₀ : Stmt} {suite : List Stmt} {th : TS} {np hpos pos : Pos} (hst : X.stack = X.env :: X.outer) (hfr : X.env.frame = some X.env.locals) (hN : X.N.Nodup) (hi : X.N[i]? = some n) (hloc : X.env.scope.names.lookup n = some .local)
    (hb : PXS X st t) (hg : Gl X c) (hm : X.mg c = some (.ref Dc)) (hs : ∀ x, PSs (X.inEx x) (b₀ :: suite) th) (hd : (c == ("__debug__" : Str)) = false := by decide) :
    PS X (.Try [st] [.ExceptHandler (some (.Name c np)) (some n) (b₀ :: suite) hpos] [] [] pos) (tTry X.K Dc i t th) := by
  intro pins s σ H D I h
  have hcls : (X.env.scope.kind == .class || (X.env.scope.kind == .module && X.env.locals != X.env.globals)) = false := by rw [I.ok.kind]; rfl
  refine wpAny_Try_except (wpAny_execs_cons (wpAny_mono (hb pins s σ H D _ I h) (fun fl s1 q => ?_) fun ex s1 q => ?_))
  · cases fl with
    | next => exact wpAny_execs_nil (wpAny_execs_nil q)
    | ret v => exact q
    | brk => exact q
    | cont => exact q
  · obtain ⟨x, cls, H', h₀, rfl, J, fl, hold, hnew, C, rfl, hC, q⟩ := q
    obtain ⟨T, a0, hT, hT0, fly⟩ := fly_on J fl
    rw [hst] at fly
    refine wpAny_looks_onW (by rw [J.ok.frames, hst]) hfr fly fun h4 held ups4 => ?_
    refine wpAny_landsW (s := { s1 with heap := h4 }) held fun h5 fly5 ups5 => ?_
    rw [← hst] at fly5
    have hch : ∀ b ∈ [x, T], H' b = none ∧ h₀.get? b = none := fun b hb => by
      simp only [List.mem_cons, List.not_mem_nil, or_false] at hb
      rcases hb with rfl | rfl
      · exact ⟨fl.1, fl.2.1⟩
      · exact ⟨hT, hT0⟩
    obtain ⟨J5, F5⟩ := fly_back (ch := [x, T]) J hch hold hnew (by simp) fly5 (ups4.trans ups5)
    have hnew5 : ∀ b, h5.get? b = none → h₀.get? b = none := fun b hb => by
      cases e : s1.heap.get? b with
      | none => exact hnew b e
      | some o =>
        by_cases m : b ∈ [x, T]
        · exact (hch b m).2
        · by_cases m2 : b ∈ frs X.stack
          · obtain ⟨_, o', ho', hnf⟩ := J.stack.mem m2
            obtain ⟨sl, z⟩ := (ups4.trans ups5) b o' ho' hnf
            rw [hb] at z; cases z
          · have := fly5.1 b o (hideAll_get _ e fun z => (List.mem_append.mp z).elim m m2)
            rw [hb] at this; cases this
    have exAt : ∀ {h : Heap}, Flies H' h₀ h x (.ref C) → ExcAt x C h := fun F => by
      obtain ⟨_, _, oe, vs, T, oT, ts, a0, g1, g2, _⟩ := F
      exact ⟨oe, g1, g2⟩
    refine wpAny_handleBy_cons (codeAny_handlers_test ?_) (by intro q; cases q)
    refine ld_glob (X := X.inEx x) (J5.inEx x) hg hm ?_ hd
    refine excMatch_own (K := X.K) (s := { s1 with heap := h5 }) J5.kIn (exAt F5) hC ?_
    refine codeAny_handlers_suite_as ?_
    obtain ⟨T6, a6, hT6, hT60, fly6⟩ := fly_on J5 F5
    refine lands_againW (s := { s1 with heap := h5 }) fly6 fun h7 fly7 ups7 => ?_
    obtain ⟨J7, F7⟩ := fly_back (s := { s1 with heap := h5 }) (ch := [x, T6]) J5 (fun b hb => by
      simp only [List.mem_cons, List.not_mem_nil, or_false] at hb
      rcases hb with rfl | rfl
      · exact ⟨F5.1, F5.2.1⟩
      · exact ⟨hT6, hT60⟩) hold hnew5 (by simp) fly7 ups7
    have J8 := J7.track F7.1 (hold x F7.2.1) (exAt F7)
    refine store_ok (X := X.inEx x) (J8.inEx x) hN hi (.inl hloc) (show RelV (.ref x) (.ref x) from rfl) (fun s9 J9 => ?_) (.inr hloc)
    refine wpAny_mono (hs x pins s9 _ _ _ J9 (q x fl.1)) (fun fl s3 z => ?_) fun _ _ z => z.elim
    cases fl with
    | next =>
      obtain ⟨σ', H3, J3, z⟩ := z
      have K3 : Inv X pins σ' H3 s3 := J3.outEx I.ok
      refine wpAny_bind (wpAny_bindName (store_ok K3 hN hi (.inl hloc) (show RelV .non .none from rfl) (fun s4 K4 => ?_) (.inr hloc)))
      obtain ⟨m, hm4, hl4⟩ := id K4.loc
      have hin : i < σ'.length := by rw [K3.len]; exact (List.getElem?_eq_some_iff.mp hi).1
      obtain ⟨u, ru, lk⟩ := hl4 i n .non hi (List.getElem?_set_self hin) (.inl hloc)
      have hmn : m n = some u := by
        rcases lk with ⟨_, e⟩ | ⟨k, _⟩
        · exact e
        · have k' : X.env.scope.names.lookup n = some .cell ∨ X.env.scope.names.lookup n = some .free := k
          rw [hloc] at k'
          rcases k' with z | z <;> cases z
      unfold unbindBehindTheSuite
      refine wpAny_onRaise (wpAny_unbindName_local (show X.env.kindOf n = some .local from hloc) hm4 hmn hcls fun h' u' hn' hs' => ?_)
      have K5 := K4.unbound (s := s4) hN hi hm4 hn' hs' hloc
      rw [List.set_set] at K5
      exact ⟨_, H3, K5, z⟩
    | ret v => obtain ⟨_, _, _, _, _, z⟩ := z; exact z.elim
    | brk => obtain ⟨_, _, _, z⟩ := z; exact z.elim
    | cont => obtain ⟨_, _, _, z⟩ := z; exact z.elim
end
end L2
namespace L2
open PySem PySem.Spec PyProof.Rows

/-! ### lists of pairs as tables -/
section
variable {κ : Type} [DecidableEq κ]
def valV (kvs : List (κ × V)) (k : κ) : Option V := (kvs.find? fun kv => decide (kv.1 = k)).map (·.2)
/-- in its place, or at the end -/
def putK (kvs : List (κ × V)) (k : κ) (v : V) : List (κ × V) :=
  if (kvs.any fun kv => decide (kv.1 = k)) = true then kvs.map (fun kv => if kv.1 = k then (kv.1, v) else kv) else kvs ++ [(k, v)]
def dropK (kvs : List (κ × V)) (k : κ) : List (κ × V) := kvs.filter fun kv => decide (kv.1 ≠ k)

theorem valV_nil {k : κ} : valV ([] : List (κ × V)) k = none := rfl
theorem valV_pos {p : κ × V} {r : List (κ × V)} {k : κ} (e : p.1 = k) : valV (p :: r) k = some p.2 := by simp [valV, List.find?_cons, e]
theorem valV_neg {p : κ × V} {r : List (κ × V)} {k : κ} (e : ¬ p.1 = k) : valV (p :: r) k = valV r k := by simp [valV, List.find?_cons, e]
theorem valV_any (k : κ) : ∀ kvs : List (κ × V), (kvs.any fun kv => decide (kv.1 = k)) = (valV kvs k).isSome
  | [] => rfl
  | p :: r => by
    rw [List.any_cons]
    by_cases e : p.1 = k
    · simp only [valV_pos e, decide_eq_true e, Bool.true_or, Option.isSome_some]
    · rw [valV_neg e, decide_eq_false e, Bool.false_or]; exact valV_any k r
theorem valV_map (k j : κ) (y : V) : ∀ kvs : List (κ × V), valV (kvs.map fun kv => if kv.1 = k then (kv.1, y) else kv) j = (valV kvs j).map fun x => if j = k then y else x
  | [] => rfl
  | p :: r => by
    have ih := valV_map k j y r
    rw [List.map_cons]
    by_cases h : p.1 = k
    · rw [if_pos h]
      by_cases e : p.1 = j
      · rw [valV_pos (p := (p.1, y)) e, valV_pos e, Option.map_some, if_pos (e.symm.trans h)]
      · rw [valV_neg (p := (p.1, y)) e, valV_neg e, ih]
    · rw [if_neg h]
      by_cases e : p.1 = j
      · rw [valV_pos (p := p) e, valV_pos e, Option.map_some, if_neg (fun z => h (e.trans z))]
      · rw [valV_neg (p := p) e, valV_neg e, ih]
theorem valV_snoc (k j : κ) (y : V) : ∀ kvs : List (κ × V), valV kvs k = none → valV (kvs ++ [(k, y)]) j = if j = k then some y else valV kvs j
  | [], _ => by
    by_cases e : k = j
    · rw [if_pos e.symm]; exact valV_pos (p := (k, y)) e
    · rw [if_neg (fun z => e z.symm)]; exact valV_neg (p := (k, y)) e
  | p :: r, hn => by
    rw [List.cons_append]
    have hk : ¬ p.1 = k := fun z => by rw [valV_pos z] at hn; cases hn
    rw [valV_neg hk] at hn
    have ih := valV_snoc k j y r hn
    by_cases e : p.1 = j
    · rw [valV_pos e, valV_pos e, if_neg (fun z => hk (e.trans z))]
    · rw [valV_neg e, valV_neg e, ih]
theorem valV_put (kvs : List (κ × V)) (k j : κ) (y : V) : valV (putK kvs k y) j = if j = k then some y else valV kvs j := by
  unfold putK
  by_cases a : (kvs.any fun kv => decide (kv.1 = k)) = true
  · rw [if_pos a, valV_map]
    rw [valV_any] at a
    by_cases e : j = k
    · obtain ⟨x, hx⟩ := Option.isSome_iff_exists.mp a
      rw [if_pos e, e, hx, Option.map_some, if_pos rfl]
    · rw [if_neg e]
      cases valV kvs j with
      | none => rfl
      | some x => rw [Option.map_some, if_neg e]
  · rw [if_neg a]
    refine valV_snoc k j y kvs ?_
    rw [valV_any] at a
    cases q : valV kvs k with
    | none => rfl
    | some x => rw [q] at a; exact (a rfl).elim
theorem length_putK (kvs : List (κ × V)) (k : κ) (v : V) : (putK kvs k v).length ≤ kvs.length + 1 := by
  unfold putK
  split
  · rw [List.length_map]; omega
  · rw [List.length_append, List.length_cons, List.length_nil]; omega
theorem putK_new {kvs : List (κ × V)} {k : κ} (v : V) (h : valV kvs k = none) : putK kvs k v = kvs ++ [(k, v)] := by
  unfold putK
  rw [valV_any, h]
  exact if_neg (by decide)

theorem RelO.isSome_eq {o : Option V} {u : Option Value} (r : RelO o u) : o.isSome = u.isSome := by
  cases o with
  | none => cases u with
    | none => rfl
    | some _ => exact (show False from r).elim
  | some _ => cases u with
    | none => exact (show False from r).elim
    | some _ => rfl
theorem RelO.getD {o : Option V} {u : Option Value} {d : V} {d' : Value} (r : RelO o u) (rd : RelV d d') : RelV (o.getD d) (u.getD d') := by
  cases o with
  | none => cases u with
    | none => exact rd
    | some _ => exact (show False from r).elim
  | some _ => cases u with
    | none => exact (show False from r).elim
    | some _ => exact r

/-- raw tables of the same keys -/
theorem KV.val {kvs : List (κ × V)} {vs : List (κ × Value)} (r : KV kvs vs) (k : κ) : RelO (valV kvs k) (valueAt vs k) := by
  unfold KV at r
  induction r with
  | nil => exact True.intro
  | @cons p q ps qs h t ih =>
    obtain ⟨h1, h2⟩ := h
    by_cases e : p.1 = k
    · have e' : q.1 = k := h1.symm.trans e
      have b : valueAt (q :: qs) k = some q.2 := by simp [valueAt, List.find?_cons, e']
      rw [valV_pos e, b]; exact h2
    · have e' : ¬ q.1 = k := fun z => e (h1.trans z)
      have b : valueAt (q :: qs) k = valueAt qs k := by simp [valueAt, List.find?_cons, e']
      rw [valV_neg e, b]; exact ih
theorem KV.any {kvs : List (κ × V)} {vs : List (κ × Value)} (r : KV kvs vs) (k : κ) : (kvs.any fun kv => decide (kv.1 = k)) = vs.any fun kv => decide (kv.1 = k) := by
  unfold KV at r
  induction r with
  | nil => rfl
  | cons h t ih => rw [List.any_cons, List.any_cons, ih, h.1]
theorem KV.repl {kvs : List (κ × V)} {vs : List (κ × Value)} (r : KV kvs vs) (k : κ) {y : V} {u : Value} (ry : RelV y u) :
    KV (kvs.map fun kv => if kv.1 = k then (kv.1, y) else kv) (vs.map fun kv => if kv.1 = k then (kv.1, u) else kv) := by
  unfold KV at r ⊢
  induction r with
  | nil => exact .nil
  | @cons p q ps qs h t ih =>
    rw [List.map_cons, List.map_cons]
    refine .cons ?_ ih
    obtain ⟨h1, h2⟩ := h
    by_cases e : p.1 = k
    · rw [if_pos e, if_pos (h1.symm.trans e)]; exact ⟨h1, ry⟩
    · rw [if_neg e, if_neg (fun z => e (h1.trans z))]; exact ⟨h1, h2⟩
theorem KV.put {kvs : List (κ × V)} {vs : List (κ × Value)} (r : KV kvs vs) (k : κ) {y : V} {u : Value} (ry : RelV y u) : KV (putK kvs k y) (stored vs k u) := by
  unfold putK stored
  rw [r.any k]
  by_cases e : (vs.any fun kv => decide (kv.1 = k)) = true
  · rw [if_pos e, if_pos e]; exact r.repl k ry
  · rw [if_neg e, if_neg e]; exact Paired.snoc r ⟨rfl, ry⟩
theorem KV.drop {kvs : List (κ × V)} {vs : List (κ × Value)} (r : KV kvs vs) (k : κ) : KV (dropK kvs k) (without vs k) := by
  unfold KV at r ⊢
  unfold dropK without
  induction r with
  | nil => exact .nil
  | @cons p q ps qs h t ih =>
    obtain ⟨h1, h2⟩ := h
    rw [List.filter_cons, List.filter_cons]
    by_cases e : p.1 = k
    · have a : ¬ decide (p.1 ≠ k) = true := by simp [e]
      have b : ¬ decide (q.1 ≠ k) = true := by simp [h1.symm.trans e]
      rw [if_neg a, if_neg b]; exact ih
    · have e' : ¬ q.1 = k := fun z => e (h1.trans z)
      have a : decide (p.1 ≠ k) = true := by simp [e]
      have b : decide (q.1 ≠ k) = true := by simp [e']
      rw [if_pos a, if_pos b]; exact .cons ⟨h1, h2⟩ ih
theorem KV.keys {kvs : List (κ × V)} {vs : List (κ × Value)} (r : KV kvs vs) : kvs.map (·.1) = vs.map (·.1) := by
  unfold KV at r
  induction r with
  | nil => rfl
  | cons h t ih => rw [List.map_cons, List.map_cons, ih, h.1]
theorem KV.length {kvs : List (κ × V)} {vs : List (κ × Value)} (r : KV kvs vs) : kvs.length = vs.length := Paired.length r
theorem dropK_le (kvs : List (κ × V)) (k : κ) : (dropK kvs k).length ≤ kvs.length := List.length_filter_le _ _
end


/-! ### a tracked dict, its keys ints and texts or tuples of these -/
theorem kV_is {P : Program} {w : World} {k : Key} {u : Value} (r : RelV (kV k) u) : (mixKind P w).is k u = true := by
  cases k with
  | inl i => obtain ⟨t, e⟩ := (show ∃ t, u = Value.int i t from r); subst e; exact mixKind_int P w i t
  | inr x => obtain ⟨t, e⟩ := (show ∃ t, u = Value.str x t from r); subst e; exact mixKind_str P w x t
theorem kV_inj {a b : Key} (e : kV a = kV b) : a = b := by
  cases a with
  | inl i => cases b with
    | inl j => have e' : V.int i = V.int j := e; injection e' with e'; rw [e']
    | inr y => exact nomatch (show V.int i = V.str y from e)
  | inr x => cases b with
    | inl j => exact nomatch (show V.str x = V.int j from e)
    | inr y => have e' : V.str x = V.str y := e; injection e' with e'; rw [e']
theorem kVs_inj : ∀ {a b : List Key}, a.map kV = b.map kV → a = b
  | [], [], _ => rfl
  | [], _ :: _, e => by simp at e
  | _ :: _, [], e => by simp at e
  | x :: xs, y :: ys, e => by
    rw [List.map_cons, List.map_cons] at e
    injection e with e1 e2
    rw [kV_inj e1, kVs_inj e2]
theorem items_are {P : Program} {w : World} : ∀ {ks : List Key} {us : List Value}, Vals (ks.map kV) us → ItemsAre (mixKind P w) ks us
  | [], _, r => by rw [List.map_nil] at r; cases r; exact .nil
  | k :: ks, _, r => by
    rw [List.map_cons] at r
    cases r with
    | cons h t => exact .cons (kV_is h) (items_are t)

/-- raw entries of a dict with tuple keys -/
abbrev KT (H : Hp) : List (List Key × V) → List (List Key × Addr × Value) → Prop := Paired fun p q => p.1 = q.1 ∧ H q.2.1 = some (.tup (p.1.map kV)) ∧ RelV p.2 q.2.2
theorem KT.val {H : Hp} {kvs : List (List Key × V)} {xs : List (List Key × Addr × Value)} (r : KT H kvs xs) (k : List Key) : RelO (valV kvs k) ((atKey xs k).map (·.2)) := by
  induction r with
  | nil => exact True.intro
  | @cons p q ps qs h t ih =>
    obtain ⟨h1, _, h2⟩ := h
    by_cases e : p.1 = k
    · have e' : q.1 = k := h1.symm.trans e
      have b : atKey (q :: qs) k = some q.2 := by simp [atKey, List.find?_cons, e']
      rw [valV_pos e, b]; exact h2
    · have e' : ¬ q.1 = k := fun z => e (h1.trans z)
      have b : atKey (q :: qs) k = atKey qs k := by simp [atKey, List.find?_cons, e']
      rw [valV_neg e, b]; exact ih
theorem KT.repl {H : Hp} {kvs : List (List Key × V)} {xs : List (List Key × Addr × Value)} (r : KT H kvs xs) (k : List Key) {y : V} {u : Value} (ry : RelV y u) :
    KT H (kvs.map fun kv => if kv.1 = k then (kv.1, y) else kv) (xs.map (putAt k u)) := by
  induction r with
  | nil => exact .nil
  | @cons p q ps qs h t ih =>
    rw [List.map_cons, List.map_cons]
    refine .cons ?_ ih
    obtain ⟨h1, h2, h3⟩ := h
    unfold putAt
    by_cases e : p.1 = k
    · rw [if_pos e, if_pos (h1.symm.trans e)]; exact ⟨h1, h2, ry⟩
    · rw [if_neg e, if_neg (fun z => e (h1.trans z))]; exact ⟨h1, h2, h3⟩
theorem KT.put {H : Hp} {kvs : List (List Key × V)} {xs : List (List Key × Addr × Value)} (r : KT H kvs xs) (k : List Key) {b : Addr} {y : V} {u : Value} (hb : H b = some (.tup (k.map kV))) (ry : RelV y u) :
    KT H (putK kvs k y) (storedH xs k b u) := by
  have e : (kvs.any fun kv => decide (kv.1 = k)) = (atKey xs k).isSome := by
    rw [valV_any, (r.val k).isSome_eq, Option.isSome_map]
  unfold putK storedH
  rw [e]
  by_cases q : (atKey xs k).isSome = true
  · rw [if_pos q, if_pos q]; exact r.repl k ry
  · rw [if_neg q, if_neg q]; exact Paired.snoc r ⟨rfl, hb, ry⟩
theorem KT.keeps {H H' : Hp} {kvs : List (List Key × V)} {xs : List (List Key × Addr × Value)} (r : KT H kvs xs) (ht : ∀ b ys, H b = some (.tup ys) → H' b = some (.tup ys)) : KT H' kvs xs :=
  Paired.mapP r fun _ _ z => ⟨z.1, ht _ _ z.2.1, z.2.2⟩

section
variable {P : Program} {w : World} {H : Hp} {h : Heap} {a : Addr}
theorem rd_of {u : HO} (ok : HOk P w H h) (e : Rd H a u) : ObjOk P w H h a u := e.ok ok
theorem dk_rd {kvs : List (Key × V)} (ok : HOk P w H h) (e : Rd H a (.dK kvs)) : kvs.length ≤ sizeLine ∧ (a == sysModules) = false ∧ ∃ vs, KV kvs vs ∧ h.DictOf (mixKind P w) a vs :=
  show ObjOk P w H h a (.dK kvs) from rd_of ok e
theorem dk_of {kvs : List (Key × V)} (ok : HOk P w H h) (e : H a = some (.dK kvs)) : kvs.length ≤ sizeLine ∧ (a == sysModules) = false ∧ ∃ vs, KV kvs vs ∧ h.DictOf (mixKind P w) a vs := dk_rd ok (.inl e)
/-- a tracked tuple of ints and texts is a key -/
theorem key_of {ks : List Key} (ok : HOk P w H h) (e : H a = some (.tup (ks.map kV))) : (tupleKind (mixKind P w)).is h ks a := by
  obtain ⟨_, its, r, o, h1, h2, n, h3⟩ := (show ObjOk P w H h a (.tup (ks.map kV)) from ok a _ e)
  exact ⟨o, its.toArray, n, h1, h2, h3, by simpa using items_are r⟩
theorem dt_rd {kvs : List (List Key × V)} (ok : HOk P w H h) (e : Rd H a (.dT kvs)) : kvs.length ≤ sizeLine ∧ (a == sysModules) = false ∧
    ∃ xs, KT H kvs xs ∧ h.DictOfH (tupleKind (mixKind P w)) a xs := by
  obtain ⟨z, y, xs, r, o, es, ep, h1, h2, h3, h4, h5⟩ := (show ObjOk P w H h a (.dT kvs) from rd_of ok e)
  refine ⟨z, y, xs, r, o, es, ep, h1, h2, h3, h4, fun x hx => ?_, h5⟩
  have all : ∀ {l : List (List Key × V)} {m : List (List Key × Addr × Value)}, KT H l m → ∀ x ∈ m, (tupleKind (mixKind P w)).is h x.1 x.2.1 := by
    intro l m q
    induction q with
    | nil => intro x hx; exact nomatch hx
    | @cons p q ps qs hq t ih =>
      intro x hx
      rcases List.mem_cons.mp hx with e | hx
      · subst e
        exact key_of ok (by rw [← hq.1]; exact hq.2.1)
      · exact ih x hx
  exact all r x hx
theorem dt_of {kvs : List (List Key × V)} (ok : HOk P w H h) (e : H a = some (.dT kvs)) : kvs.length ≤ sizeLine ∧ (a == sysModules) = false ∧
    ∃ xs, KT H kvs xs ∧ h.DictOfH (tupleKind (mixKind P w)) a xs := dt_rd ok (.inl e)
end

/-- what the dict at a holds at the key y -/
def DGet (H : Hp) (a : Addr) (y : V) (r : Option V) : Prop :=
  (∃ kvs k, Rd H a (.dK kvs) ∧ y = kV k ∧ r = valV kvs k) ∨ ∃ kvs k b, Rd H a (.dT kvs) ∧ y = .ref b ∧ H b = some (.tup (k.map kV)) ∧ r = valV kvs k
/-- the heap behind a[y] = v -/
def DPut (H : Hp) (a : Addr) (y v : V) (H' : Hp) : Prop :=
  (∃ kvs k, H a = some (.dK kvs) ∧ y = kV k ∧ kvs.length < sizeLine ∧ H' = upd H a (.dK (putK kvs k v))) ∨
  ∃ kvs k b, H a = some (.dT kvs) ∧ y = .ref b ∧ H b = some (.tup (k.map kV)) ∧ kvs.length < sizeLine ∧ H' = upd H a (.dT (putK kvs k v))
theorem DGet.k {H : Hp} {a : Addr} {kvs : List (Key × V)} {k : Key} (e : H a = some (.dK kvs)) : DGet H a (kV k) (valV kvs k) := .inl ⟨kvs, k, .inl e, rfl, rfl⟩
theorem DGet.t {H : Hp} {a b : Addr} {kvs : List (List Key × V)} {k : List Key} (e : H a = some (.dT kvs)) (eb : H b = some (.tup (k.map kV))) : DGet H a (.ref b) (valV kvs k) := .inr ⟨kvs, k, b, .inl e, rfl, eb, rfl⟩
theorem DPut.k {H : Hp} {a : Addr} {kvs : List (Key × V)} {k : Key} {v : V} (e : H a = some (.dK kvs)) (hl : kvs.length < sizeLine) : DPut H a (kV k) v (upd H a (.dK (putK kvs k v))) := .inl ⟨kvs, k, e, rfl, hl, rfl⟩
theorem DPut.t {H : Hp} {a b : Addr} {kvs : List (List Key × V)} {k : List Key} {v : V} (e : H a = some (.dT kvs)) (eb : H b = some (.tup (k.map kV))) (hl : kvs.length < sizeLine) :
    DPut H a (.ref b) v (upd H a (.dT (putK kvs k v))) := .inr ⟨kvs, k, b, e, rfl, eb, hl, rfl⟩


section
variable {X : Cx} {pins : List (Addr × Obj)} {σ : St} {H : Hp} {s : Shared} {a : Addr} {y v : V} {u r : Value} {o : Option V} {A : Around} {E : Value → Shared → Prop}

theorem Inv.big (I : Inv X pins σ H s) : sysModules < s.heap.objs.size := by
  have h : mainGlobals < s.heap.objs.size := (I.mod.glob.keeps I.bk).lt
  exact Nat.lt_trans (by decide) h

/-- d[y], there -/
theorem d_getItem {Q : Value → Shared → Prop} (hu : A.units + 1 < cLine) (I : Inv X pins σ H s) (g : DGet H a y (some v)) (ry : RelV y u) (h : ∀ w' s', Inv X pins σ H s' → RelV v w' → Q w' s') :
    wpAny (model X.prog X.w) A (getItem (.ref a) u) Q E s := by
  rcases g with ⟨kvs, k, e, ey, l⟩ | ⟨kvs, k, b, e, ey, eb, l⟩
  · subst ey
    obtain ⟨z, hd, vs, rel, dd⟩ := dk_rd I.hok e
    obtain ⟨w', hw, rw'⟩ := RelO.some_of (v := v) (o := valueAt vs k) (by rw [l]; exact rel.val k)
    exact wpAny_getItem_of (kV_is ry) dd.mapOf hw (h w' _ (I.tok _) rw')
  · subst ey
    cases (show u = Value.ref b from ry)
    obtain ⟨z, hd, xs, rel, dd⟩ := dt_rd I.hok e
    obtain ⟨w', hw, rw'⟩ := RelO.some_of (v := v) (o := (atKey xs k).map (·.2)) (by rw [l]; exact rel.val k)
    obtain ⟨p, hp, hp2⟩ := Option.map_eq_some_iff.mp hw
    refine wpAny_getItem_heap (tupleKind_room_in1 hu) (key_of I.hok eb) dd hp ?_
    rw [hp2]
    exact h w' _ (I.tok _) rw'
/-- y in d -/
theorem d_in {Q : Value → Shared → Prop} (hu : A.units + 1 < cLine) (I : Inv X pins σ H s) (g : DGet H a y o) (ry : RelV y u) (h : ∀ s', Inv X pins σ H s' → Q (.bool o.isSome) s') :
    wpAny (model X.prog X.w) A (compareOp .In u (.ref a)) Q E s := by
  rcases g with ⟨kvs, k, e, ey, l⟩ | ⟨kvs, k, b, e, ey, eb, l⟩
  · subst ey
    obtain ⟨z, hd, vs, rel, dd⟩ := dk_rd I.hok e
    refine wpAny_in_of (kV_is ry) hd dd.mapOf ?_
    rw [← (rel.val k).isSome_eq, ← l]
    exact h _ (I.tok _)
  · subst ey
    cases (show u = Value.ref b from ry)
    obtain ⟨z, hd, xs, rel, dd⟩ := dt_rd I.hok e
    refine wpAny_in_heap (tupleKind_room_in1 hu) (key_of I.hok eb) hd dd ?_
    have q := (rel.val k).isSome_eq
    rw [Option.isSome_map] at q
    rw [← q, ← l]
    exact h _ (I.tok _)
theorem d_notIn {Q : Value → Shared → Prop} (hu : A.units + 1 < cLine) (I : Inv X pins σ H s) (g : DGet H a y o) (ry : RelV y u) (h : ∀ s', Inv X pins σ H s' → Q (.bool (!o.isSome)) s') :
    wpAny (model X.prog X.w) A (compareOp .NotIn u (.ref a)) Q E s := by
  rcases g with ⟨kvs, k, e, ey, l⟩ | ⟨kvs, k, b, e, ey, eb, l⟩
  · subst ey
    obtain ⟨z, hd, vs, rel, dd⟩ := dk_rd I.hok e
    refine wpAny_notIn_of (kV_is ry) hd dd.mapOf ?_
    rw [← (rel.val k).isSome_eq, ← l]
    exact h _ (I.tok _)
  · subst ey
    cases (show u = Value.ref b from ry)
    obtain ⟨z, hd, xs, rel, dd⟩ := dt_rd I.hok e
    refine wpAny_notIn_heap (tupleKind_room_in1 hu) (key_of I.hok eb) hd dd ?_
    have q := (rel.val k).isSome_eq
    rw [Option.isSome_map] at q
    rw [← q, ← l]
    exact h _ (I.tok _)
/-- a dict's object is replaced -/
theorem d_write {h' : Heap} {t' : Nat} {ob : HO} (I : Inv X pins σ H s) (mu : Mut (H a)) (hs : Heap.SameBut a s.heap h') (he : ∃ q, h'.get? a = some q) (new : ObjOk X.prog X.w (upd H a ob) h' a ob) :
    Inv X pins σ (upd H a ob) { s with heap := h', toks := t' } :=
  I.write (x := a) (e := a) mu (.inl rfl) (fun b q hb z => (hs.2 b hb).trans z) he new
theorem dk_new {P : Program} {w : World} {H' : Hp} {h' : Heap} {kvs : List (Key × V)} {vs : List (Key × Value)} (z : kvs.length ≤ sizeLine) (hd : (a == sysModules) = false) (rel : KV kvs vs) (dd : h'.DictOf (mixKind P w) a vs) :
    ObjOk P w H' h' a (.dK kvs) := ⟨z, hd, vs, rel, dd⟩
/-- d[y] = v -/
theorem d_setItem {H' : Hp} {Q : Unit → Shared → Prop} (hu : A.units + 1 < cLine) (I : Inv X pins σ H s) (g : DPut H a y v H') (ry : RelV y u) (rv : RelV v r) (h : ∀ s', Inv X pins σ H' s' → Q () s') :
    wpAny (model X.prog X.w) A (setItem (.ref a) u r) Q E s := by
  rcases g with ⟨kvs, k, e, ey, l, eH⟩ | ⟨kvs, k, b, e, ey, eb, l, eH⟩
  · subst ey eH
    obtain ⟨z, hd, vs, rel, dd⟩ := dk_of I.hok e
    have hz : vs.length ≤ sizeLine := by rw [← rel.length]; exact z
    have hl : (putK kvs k v).length ≤ sizeLine := by have := length_putK kvs k v; omega
    refine wpAny_setItem_pairs (hsz := hz) (kV_is ry) dd fun h' dd' hs => h _ ?_
    have he : ∃ q, h'.get? a = some q := let ⟨q, _, _, hq, _⟩ := dd'; ⟨q, hq⟩
    exact d_write I (by rw [e]; exact True.intro) hs he (dk_new hl hd (rel.put k rv) dd')
  · subst ey eH
    cases (show u = Value.ref b from ry)
    obtain ⟨z, hd, xs, rel, dd⟩ := dt_of I.hok e
    have hz : xs.length ≤ sizeLine := by rw [← Paired.length rel]; exact z
    have hl : (putK kvs k v).length ≤ sizeLine := by have := length_putK kvs k v; omega
    refine wpAny_setItem_heap (hsz := hz) (tupleKind_room_in1 hu) (key_of I.hok eb) dd fun h' dd' hs => h _ ?_
    obtain ⟨q, es, ep, hq, h2, h3, h4, _, h5⟩ := dd'
    refine d_write I (by rw [e]; exact True.intro) hs ⟨q, hq⟩ ⟨hl, hd, _, (rel.put k eb rv).keeps fun c ys ec => ?_, q, es, ep, hq, h2, h3, h4, h5⟩
    rw [upd_ne (ne_of ec e (fun z => nomatch z))]
    exact ec
end

section
variable {X : Cx} {pins : List (Addr × Obj)} {σ : St} {H : Hp} {s : Shared} {a : Addr} {kvs : List (Key × V)} {k : Key} {u : Value} {A : Around} {E : Value → Shared → Prop}
/-- del d[k] -/
theorem d_delItem {Q : Unit → Shared → Prop} (I : Inv X pins σ H s) (e : H a = some (.dK kvs)) (ry : RelV (kV k) u) (l : (valV kvs k).isSome = true) (h : ∀ s', Inv X pins σ (upd H a (.dK (dropK kvs k))) s' → Q () s') :
    wpAny (model X.prog X.w) A (delItem (.ref a) u) Q E s := by
  obtain ⟨z, hd, vs, rel, dd⟩ := dk_of I.hok e
  refine wpAny_delItem_slot dd.typeIs (by decide) PySem.F.slot_dict_delitem
    (call_meetsIn PySem.F.slot_dict_delitem dd.typeIs PySem.F.entry_dict_delitem (PySem.F.args_dict_delitem_2 _ _) (meets_dict_delitem_pairs (mixKind X.prog X.w) a (kV_is ry)) ⟨vs, dd, by rw [← rel.length]; exact z, by rw [← (rel.val k).isSome_eq]; exact l, fun h' dd' hs => h _ ?_⟩)
  have he : ∃ q, h'.get? a = some q := let ⟨q, _, _, hq, _⟩ := dd'; ⟨q, hq⟩
  exact d_write I (by rw [e]; exact True.intro) hs he (dk_new (Nat.le_trans (dropK_le kvs k) z) hd (rel.drop k) dd')
/-- d.pop(k[, x]), there -/
theorem d_pop {v : V} {more : List Value} {Q : Value → Shared → Prop} (I : Inv X pins σ H s) (e : H a = some (.dK kvs)) (ry : RelV (kV k) u) (l : valV kvs k = some v) (hm : more = [] ∨ ∃ x, more = [x])
    (h : ∀ w' s', Inv X pins σ (upd H a (.dK (dropK kvs k))) s' → RelV v w' → Q w' s') : wpAny (model X.prog X.w) A (call (.builtin "dict.pop") (.ref a :: u :: more)) Q E s := by
  obtain ⟨z, hd, vs, rel, dd⟩ := dk_of I.hok e
  obtain ⟨w', hw, rw'⟩ := RelO.some_of (v := v) (o := valueAt vs k) (by rw [← l]; exact rel.val k)
  have hp : (keyPart u).isSome = true := by
    cases k with
    | inl i => obtain ⟨t, q⟩ := (show ∃ t, u = Value.int i t from ry); subst q; rfl
    | inr x => obtain ⟨t, q⟩ := (show ∃ t, u = Value.str x t from ry); subst q; rfl
  have ha : argsOk "dict.pop" ⟨.ref a :: u :: more, []⟩ := by
    rcases hm with q | ⟨x, q⟩
    · subst q; exact PySem.F.args_dict_pop_2 _ _
    · subst q; exact PySem.F.args_dict_pop_3 _ _ _
  refine call_meetsIn PySem.F.slot_dict_pop dd.typeIs PySem.F.entry_dict_pop ha (meets_dict_pop_there (mixKind X.prog X.w) a (kV_is ry) more hm hp)
    ⟨vs, w', dd, by rw [← rel.length]; exact z, hw, fun h' dd' hs => h w' _ ?_ rw'⟩
  have he : ∃ q, h'.get? a = some q := let ⟨q, _, _, hq, _⟩ := dd'; ⟨q, hq⟩
  exact d_write I (by rw [e]; exact True.intro) hs he (dk_new (Nat.le_trans (dropK_le kvs k) z) hd (rel.drop k) dd')
/-- d.pop(k, x), not there -/
theorem d_popD {r : Value} {Q : Value → Shared → Prop} (I : Inv X pins σ H s) (e : H a = some (.dK kvs)) (ry : RelV (kV k) u) (l : valV kvs k = none) (h : ∀ s', Inv X pins σ H s' → Q r s') :
    wpAny (model X.prog X.w) A (call (.builtin "dict.pop") [.ref a, u, r]) Q E s := by
  obtain ⟨z, hd, vs, rel, dd⟩ := dk_of I.hok e
  have hn : valueAt vs k = none := RelO.none_of (by rw [← l]; exact rel.val k)
  have hp : (keyPart u).isSome = true := by
    cases k with
    | inl i => obtain ⟨t, q⟩ := (show ∃ t, u = Value.int i t from ry); subst q; rfl
    | inr x => obtain ⟨t, q⟩ := (show ∃ t, u = Value.str x t from ry); subst q; rfl
  exact call_meetsIn PySem.F.slot_dict_pop dd.typeIs PySem.F.entry_dict_pop (PySem.F.args_dict_pop_3 _ _ _) (meets_dict_pop_default (mixKind X.prog X.w) a (kV_is ry) hd hp r) ⟨vs, dd, hn, h _ (I.tok _)⟩
/-- d.clear() -/
theorem d_clear {Q : Value → Shared → Prop} (I : Inv X pins σ H s) (e : H a = some (.dK kvs)) (h : ∀ s', Inv X pins σ (upd H a (.dK [])) s' → Q .none s') : wpAny (model X.prog X.w) A (call (.builtin "dict.clear") [.ref a]) Q E s := by
  obtain ⟨z, hd, vs, rel, dd⟩ := dk_of I.hok e
  refine call_meetsIn PySem.F.slot_dict_clear dd.typeIs PySem.F.entry_dict_clear (PySem.F.args_dict_clear_1 _) (meets_dict_clear (mixKind X.prog X.w) a) ⟨vs, dd, by rw [← rel.length]; exact z, fun h' dd' hs => h _ ?_⟩
  have he : ∃ q, h'.get? a = some q := let ⟨q, _, _, hq, _⟩ := dd'; ⟨q, hq⟩
  exact d_write (t' := s.toks) I (by rw [e]; exact True.intro) hs he (dk_new (Nat.zero_le _) hd .nil dd')
/-- len(d) -/
theorem d_len {Q : Value → Shared → Prop} (I : Inv X pins σ H s) (e : Rd H a (.dK kvs)) (h : ∀ t s', Inv X pins σ H s' → Q (.int kvs.length t) s') : wpAny (model X.prog X.w) A (call (.builtin "len") [.ref a]) Q E s := by
  obtain ⟨z, hd, vs, rel, dd⟩ := dk_rd I.hok e
  refine call_len_dict hd dd (by rw [← rel.length]; rw [sizeLine_eq] at z; omega) ?_
  rw [← rel.length]
  exact h _ _ (I.tok _)
/-- if d -/
theorem d_truth {Q : Bool → Shared → Prop} (I : Inv X pins σ H s) (e : Rd H a (.dK kvs)) (h : ∀ s', Inv X pins σ H s' → Q (!kvs.isEmpty) s') : wpAny (model X.prog X.w) A (truthy (.ref a)) Q E s := by
  obtain ⟨z, hd, vs, rel, dd⟩ := dk_rd I.hok e
  refine wpAny_truthy_dict hd dd (by rw [← rel.length]; rw [sizeLine_eq] at z; omega) ?_
  have q : kvs.isEmpty = vs.isEmpty := by cases rel <;> rfl
  rw [← q]
  exact h _ (I.tok _)
end


/-! ### readings and rules -/
/-- the element of a subscription, not a slice -/
def NoSl (i : Expr) : Prop := ∀ ov iv, subscripted i false ov iv = operate [ov, iv] (getItem ov iv)
theorem subD_of {prog : Program} {w : World} {A : Around} {E : Value → Shared → Prop} {s : Shared} {env : Env} {value slice : Expr} {pos : Pos} {T id : String} {Q : Value → Shared → Prop}
    (hl : typeLookup (.type T) "__getitem__" = pure (some (.builtin id))) (hs : NoSl slice)
    (h : wpAny (model prog w) A (eval value env) (fun o s₁ => wpAny (model prog w) A (eval slice env) (fun i s₂ => s₂.TypeIs o T ∧ wpAny (model prog w) A (getItem o i) Q E s₂) E s₁) E s) :
    wpAny (model prog w) A (eval (.Subscript value slice pos) env) Q E s := by
  refine Subscript_ (wpAny_mono h (fun o s₁ h₁ => wpAny_mono h₁ (fun i s₂ h₂ => ?_) fun _ _ x => x) fun _ _ x => x)
  obtain ⟨hT, h₂⟩ := h₂
  unfold subscriptTail
  refine wpAny_bind ?_
  rw [getitemInPython_of_ne hT.not_modules]
  refine wpAny_bind (wpAny_specialOf hT hl ?_)
  have fin : wpAny (model prog w) A (subscripted slice false o i) (fun r s₃ => wpAny (model prog w) A (letTemporaryGo value o r >>= fun _ => pure r) Q E s₃) E s₂ := by
    rw [hs o i]
    exact wpAny_operating (wpAny_mono h₂ (fun r s₃ h₃ => wpAny_bind (wpAny_letTemporaryGo (wpAny_pure h₃))) fun _ _ x => x)
  first
    | exact wpAny_pure (wpAny_bind fin)
    | exact wpAny_bind (wpAny_pure (wpAny_bind fin))
    | exact wpAny_bind fin

theorem dict_typeIs {X : Cx} {pins : List (Addr × Obj)} {σ : St} {H : Hp} {s : Shared} {a : Addr} {y : V} {o : Option V} (I : Inv X pins σ H s) (g : DGet H a y o) : s.TypeIs (.ref a) "dict" := by
  rcases g with ⟨kvs, k, e, _, _⟩ | ⟨kvs, k, b, e, _, _, _⟩
  · obtain ⟨_, _, vs, _, dd⟩ := dk_rd I.hok e
    exact dd.typeIs
  · obtain ⟨_, _, xs, _, dd⟩ := dt_rd I.hok e
    exact dd.typeIs
theorem dict_noDict {X : Cx} {pins : List (Addr × Obj)} {σ : St} {H : Hp} {s : Shared} {a : Addr} {y : V} {o : Option V} (I : Inv X pins σ H s) (g : DGet H a y o) :
    ∀ b, Value.ref a = .ref b → ∃ ob, s.heap.get? b = some ob ∧ ob.dict = none := fun b q => by
  cases q
  rcases g with ⟨kvs, k, e, _, _⟩ | ⟨kvs, k, b, e, _, _, _⟩
  · obtain ⟨_, _, vs, _, ob, _, _, h1, h2, _⟩ := dk_rd I.hok e
    exact ⟨ob, h1, h2.2.1⟩
  · obtain ⟨_, _, xs, _, ob, _, _, h1, h2, _⟩ := dt_rd I.hok e
    exact ⟨ob, h1, h2.2.1⟩

/-- d[y] -/
def tDGet (td ty : TE) : TE := fun σ H Q => td σ H fun x H1 => ty σ H1 fun y H2 => ∃ a v, x = .ref a ∧ DGet H2 a y (some v) ∧ Q v H2
/-- y in d, y not in d -/
def tDIn (ty td : TE) : TE := fun σ H Q => ty σ H fun y H1 => td σ H1 fun x H2 => ∃ a o, x = .ref a ∧ DGet H2 a y o ∧ Q (.bl o.isSome) H2
def tDNotIn (ty td : TE) : TE := fun σ H Q => ty σ H fun y H1 => td σ H1 fun x H2 => ∃ a o, x = .ref a ∧ DGet H2 a y o ∧ Q (.bl (!o.isSome)) H2
/-- d[y] = v -/
def sDPut (td ty tv : TE) : TS := fun D σ H => tv σ H fun v H1 => td σ H1 fun x H2 => ty σ H2 fun y H3 => ∃ a H4, x = .ref a ∧ DPut H3 a y v H4 ∧ D.nx σ H4
/-- d[y] op= v -/
def sDAug (td ty tv : TE) (rd : V → V → Hp → VK → Prop) : TS := fun D σ H => td σ H fun x H1 => ty σ H1 fun y H2 => ∃ a v, x = .ref a ∧ DGet H2 a y (some v) ∧
  tv σ H2 fun y2 H3 => rd v y2 H3 fun z H4 => ∃ H5, DPut H4 a y z H5 ∧ D.nx σ H5
/-- del d[y] -/
def sDDel (td ty : TE) : TS := fun D σ H => td σ H fun x H1 => ty σ H1 fun y H2 => ∃ a kvs k, x = .ref a ∧ H2 a = some (.dK kvs) ∧ y = kV k ∧ (valV kvs k).isSome = true ∧ D.nx σ (upd H2 a (.dK (dropK kvs k)))

section
variable {X : Cx} {o i e value : Expr} {pos pos' tpos : Pos} {td ty tv : TE}
theorem pe_dget (hu : X.A.units + 1 < cLine) (ho : PE X o td) (hi : PE X i ty) (hs : NoSl i) : PE X (.Subscript o i pos) (tDGet td ty) := by
  intro pins s σ H Q I h
  refine subD_of PySem.F.slot_dict_getitem.lookup hs (thn (ho pins s σ H _ I h) fun u s1 ⟨x, H1, I1, rx, q1⟩ => thn (hi pins s1 σ H1 _ I1 q1) fun iv s2 ⟨y, H2, I2, ry, a, v, ex, g, q2⟩ => ?_)
  subst ex
  obtain rfl : u = Value.ref a := rx
  exact ⟨dict_typeIs I2 g, d_getItem hu I2 g ry fun w' s3 I3 rw' => ⟨v, H2, I3, rw', q2⟩⟩
theorem pc_din (hu : X.A.units + 1 < cLine) (hi : PE X i ty) (ho : PE X o td) : PC X .In i o (tDIn ty td) := by
  intro pins s σ H Q I h
  refine thn (hi pins s σ H _ I h) fun iv s1 ⟨y, H1, I1, ry, q1⟩ => thn (ho pins s1 σ H1 _ I1 q1) fun u s2 ⟨x, H2, I2, rx, a, ov, ex, g, q2⟩ => ?_
  subst ex
  obtain rfl : u = Value.ref a := rx
  exact d_in hu I2 g ry fun s3 I3 => ⟨.bl ov.isSome, H2, I3, rfl, q2⟩
theorem pc_dnotin (hu : X.A.units + 1 < cLine) (hi : PE X i ty) (ho : PE X o td) : PC X .NotIn i o (tDNotIn ty td) := by
  intro pins s σ H Q I h
  refine thn (hi pins s σ H _ I h) fun iv s1 ⟨y, H1, I1, ry, q1⟩ => thn (ho pins s1 σ H1 _ I1 q1) fun u s2 ⟨x, H2, I2, rx, a, ov, ex, g, q2⟩ => ?_
  subst ex
  obtain rfl : u = Value.ref a := rx
  exact d_notIn hu I2 g ry fun s3 I3 => ⟨.bl (!ov.isSome), H2, I3, rfl, q2⟩
theorem ps_dput (hu : X.A.units + 1 < cLine) (ho : PE X o td) (hi : PE X i ty) (hv : PE X value tv) (hs : swapsWith value (some (.Subscript o i pos')) pos.line X.env = pure false) :
    PS X (.Assign [.Subscript o i pos'] value pos) (sDPut td ty tv) := by
  intro pins s σ H D I h
  refine wpAny_Assign_Subscript (thn (hv pins s σ H _ I h) fun r s1 ⟨v, H1, I1, rv, q1⟩ => thn (ho pins s1 σ H1 _ I1 q1) fun u s2 ⟨x, H2, I2, rx, q2⟩ => thn (hi pins s2 σ H2 _ I2 q2) fun iv s3 ⟨y, H3, I3, ry, a, H4, ex, g, q3⟩ => ?_) hs
  subst ex
  obtain rfl : u = Value.ref a := rx
  exact d_setItem hu I3 g ry rv fun s4 I4 => ⟨σ, H4, I4, q3⟩
theorem ps_daug {op : Operator} {rd : V → V → Hp → VK → Prop} (hu : X.A.units + 1 < cLine) (ho : PE X o td) (hi : PE X i ty) (hv : PE X value tv) (hop : InOp X op rd)
    (ha : ∀ ov iv new, augStore i ov iv new = (do holding [new, ov, iv] (setItem ov iv new); release [new, ov, iv] []; pure .next)) : PS X (.AugAssign (.Subscript o i tpos) op value pos) (sDAug td ty tv rd) := by
  intro pins s σ H D I h
  refine wpAny_AugAssign_SubscriptAny (thn (ho pins s σ H _ I h) fun u s1 ⟨x, H1, I1, rx, q1⟩ => thn (hi pins s1 σ H1 _ I1 q1) fun iv s2 ⟨y, H2, I2, ry, a, v, ex, g, q2⟩ => ?_) ha
  subst ex
  obtain rfl : u = Value.ref a := rx
  refine d_getItem hu I2 g ry fun w' s3 I3 rw' => thn (hv pins s3 σ H2 _ I3 q2) fun w2 s4 ⟨y2, H3, I4, ry2, q3⟩ => thn (hop pins s4 σ H3 v y2 w' w2 _ I4 rw' ry2 q3) fun w3 s5 ⟨z, H4, I5, rz, H5, g5, q4⟩ => ?_
  exact d_setItem hu I5 g5 ry rz fun s6 I6 => ⟨σ, H5, I6, q4⟩
theorem ps_ddel (ho : PE X o td) (hi : PE X i ty) : PS X (.Delete [.Subscript o i tpos] pos) (sDDel td ty) := by
  intro pins s σ H D I h
  refine wpAny_Delete (wpAny_deleteEach_cons (wpAny_delete_Subscript (thn (ho pins s σ H _ I h) fun u s1 ⟨x, H1, I1, rx, q1⟩ => thn (hi pins s1 σ H1 _ I1 q1) fun iv s2 ⟨y, H2, I2, ry, a, kvs, k, ex, e, ey, l, q2⟩ => ?_)))
  subst ex ey
  obtain rfl : u = Value.ref a := rx
  exact d_delItem I2 e ry l fun s3 I3 => wpAny_deleteEach_nil ⟨σ, _, I3, q2⟩
end


/-! ### displays -/
theorem dk_empty {P : Program} {w : World} {H : Hp} (h : Heap) (hb : sysModules < h.objs.size) : ObjOk P w H (h.push { cls := .type "dict", data := .dict #[] }) h.objs.size (.dK []) :=
  ⟨Nat.zero_le _, beq_eq_false_iff_ne.mpr (Ne.symm (Nat.ne_of_lt hb)), [], .nil, Heap.DictOf.new h⟩
theorem dt_empty {P : Program} {w : World} {H : Hp} (h : Heap) (hb : sysModules < h.objs.size) : ObjOk P w H (h.push { cls := .type "dict", data := .dict #[] }) h.objs.size (.dT []) :=
  ⟨Nat.zero_le _, beq_eq_false_iff_ne.mpr (Ne.symm (Nat.ne_of_lt hb)), [], .nil, _, #[], 0, Heap.get?_push_size _ rfl, ⟨rfl, rfl, rfl⟩, rfl, rfl, List.nodup_nil⟩
/-- {}, to be a dict of the kind that is wanted -/
def tDNewK : TE := fun _ H Q => ∀ p, H p = none → Q (.ref p) (upd H p (.dK []))
def tDNewT : TE := fun _ H Q => ∀ p, H p = none → Q (.ref p) (upd H p (.dT []))
section
variable {X : Cx} {pos : Pos}
theorem pe_dnewK : PE X (.Dict [] [] pos) tDNewK := fun pins s σ H Q I h =>
  wpAny_Dict_empty ⟨.ref s.heap.objs.size, _, I.laid (a := s.heap.objs.size) (o := .dK []) (t' := s.toks) (fun _ _ q => Heap.get?_push_of_some _ q) (Nat.le_refl _) (dk_empty s.heap I.big), rfl, h _ (I.hok.fresh (Nat.le_refl _))⟩
theorem pe_dnewT : PE X (.Dict [] [] pos) tDNewT := fun pins s σ H Q I h =>
  wpAny_Dict_empty ⟨.ref s.heap.objs.size, _, I.laid (a := s.heap.objs.size) (o := .dT []) (t' := s.toks) (fun _ _ q => Heap.get?_push_of_some _ q) (Nat.le_refl _) (dt_empty s.heap I.big), rfl, h _ (I.hok.fresh (Nat.le_refl _))⟩
end

/-- the pairs of a display, from the left -/
def tPairs : List (TE × TE) → St → Hp → (List (V × V) → Hp → Prop) → Prop
  | [], _, H, Q => Q [] H
  | (tk, tv) :: r, σ, H, Q => tk σ H fun x H1 => tv σ H1 fun y H2 => tPairs r σ H2 fun ps H3 => Q ((x, y) :: ps) H3
abbrev VV : List (V × V) → List (Value × Value) → Prop := Paired fun p q => RelV p.1 q.1 ∧ RelV p.2 q.2
def PPs (X : Cx) (pos : Pos) (keys : List (Option Expr)) (values : List Expr) (trs : List (TE × TE)) : Prop :=
  ∀ (pins : List (Addr × Obj)) (s : Shared) (σ : St) (H : Hp) (Q : List (V × V) → Hp → Prop), Inv X pins σ H s → tPairs trs σ H Q →
    wpAny (model X.prog X.w) X.A (evalPairs (pairTrees keys values X.env pos)) (fun vs s' => ∃ ps H', Inv X pins σ H' s' ∧ VV ps vs ∧ Q ps H') X.xe s
theorem pps_nil {X : Cx} {pos : Pos} : PPs X pos [] [] [] := fun pins s σ H Q I h => pairTrees_nil_walk ⟨[], H, I, .nil, h⟩
theorem pps_cons {X : Cx} {pos : Pos} {k v : Expr} {ks : List (Option Expr)} {vs : List Expr} {tk tv : TE} {trs : List (TE × TE)} (hk : PE X k tk) (hv : PE X v tv) (hr : PPs X pos ks vs trs) :
    PPs X pos (some k :: ks) (v :: vs) ((tk, tv) :: trs) := fun pins s σ H Q I h =>
  pairTrees_cons_walk (thn (hk pins s σ H _ I h) fun u s1 ⟨x, H1, I1, rx, q1⟩ => thn (hv pins s1 σ H1 _ I1 q1) fun w2 s2 ⟨y, H2, I2, ry, q2⟩ =>
    thn (hr pins s2 σ H2 _ I2 q2) fun ws s3 ⟨ps, H3, I3, rel, q3⟩ => ⟨(x, y) :: ps, H3, I3, .cons ⟨rx, ry⟩ rel, q3⟩)

def mergeK (kvs more : List (Key × V)) : List (Key × V) := more.foldl (fun acc kv => putK acc kv.1 kv.2) kvs
theorem KV.merge : ∀ {more : List (Key × V)} {rs : List (Key × Value)} {kvs : List (Key × V)} {vs : List (Key × Value)}, KV more rs → KV kvs vs → KV (mergeK kvs more) (merged vs rs) := by
  intro more rs kvs vs r
  unfold KV at r
  induction r generalizing kvs vs with
  | nil => intro q; exact q
  | @cons p q ps qs h t ih =>
    intro r0
    have e : KV (putK kvs p.1 p.2) (stored vs q.1 q.2) := by
      have := r0.put p.1 h.2
      rw [← h.1]; exact this
    exact ih e
theorem length_mergeK : ∀ (more kvs : List (Key × V)), (mergeK kvs more).length ≤ kvs.length + more.length
  | [], kvs => by show kvs.length ≤ kvs.length + 0; omega
  | p :: r, kvs => by
    have h1 := length_mergeK r (putK kvs p.1 p.2)
    have h2 := length_putK kvs p.1 p.2
    show (mergeK (putK kvs p.1 p.2) r).length ≤ _
    rw [List.length_cons]; omega
theorem carries_of {P : Program} {w : World} : ∀ {kvs : List (Key × V)} {ws : List (Value × Value)}, VV (kvs.map fun kv => (kV kv.1, kv.2)) ws → ∃ rs, Carries (mixKind P w) ws rs ∧ KV kvs rs
  | [], _, r => by rw [List.map_nil] at r; cases r; exact ⟨[], True.intro, .nil⟩
  | p :: kvs, _, r => by
    rw [List.map_cons] at r
    cases r with
    | @cons a b as bs h t =>
      obtain ⟨rs, c, q⟩ := carries_of (P := P) (w := w) t
      obtain ⟨b1, b2⟩ := b
      exact ⟨(p.1, b2) :: rs, ⟨kV_is h.1, rfl, c⟩, .cons ⟨rfl, h.2⟩ q⟩
/-- {k: v, ..} with keys ints and texts; the new dict stands empty while the pairs are made -/
def tDisp (trs : List (TE × TE)) : TE := fun σ H Q => ∀ p, H p = none → tPairs trs σ (upd H p (.dK [])) fun ps H2 => H2 p = some (.dK []) ∧ ∃ kvs : List (Key × V), ps = kvs.map (fun kv => (kV kv.1, kv.2)) ∧ kvs.length ≤ 15 ∧ Q (.ref p) (upd H2 p (.dK (mergeK [] kvs)))
theorem pe_disp {X : Cx} {pos : Pos} {keys : List (Option Expr)} {values : List Expr} {trs : List (TE × TE)} (h : PPs X pos keys values trs) (hall : keys.all (·.isSome) = true) (hl : keys.length = values.length) (h0 : keys ≠ [])
    (h15 : keys.length ≤ 15) : PE X (.Dict keys values pos) (tDisp trs) := by
  intro pins s σ H Q I q
  have hn := I.hok.fresh (Nat.le_refl s.heap.objs.size)
  have I1 := I.laid (a := s.heap.objs.size) (o := .dK []) (h' := s.heap.push { cls := .type "dict", data := .dict #[] }) (t' := s.toks) (fun _ _ q => Heap.get?_push_of_some _ q) (Nat.le_refl _) (dk_empty s.heap I.big)
  refine wpAny_Dict_walk (knd := mixKind X.prog X.w) hall hl h0 h15 (thn (h pins _ σ _ _ I1 (q _ hn)) fun ws s2 ⟨ps, H2, I2, rel, e, kvs, ep, lk, q2⟩ => ?_)
  subst ep
  obtain ⟨rs, c, rk⟩ := carries_of (P := X.prog) (w := X.w) rel
  obtain ⟨z, hd, vs0, r0, dd⟩ := dk_of I2.hok e
  cases r0
  refine ⟨rs, c, dd, fun h' dd' hs => ⟨.ref s.heap.objs.size, _, ?_, rfl, q2⟩⟩
  have hz : (mergeK [] kvs).length ≤ sizeLine := by
    have h1 := length_mergeK kvs []
    rw [List.length_nil] at h1
    rw [sizeLine_eq]; omega
  have he : ∃ q, h'.get? s.heap.objs.size = some q := let ⟨q, _, _, hq, _⟩ := dd'; ⟨q, hq⟩
  exact d_write I2 (by rw [e]; exact True.intro) hs he (dk_new hz hd (rk.merge .nil) dd')


/-! ### methods -/
/-- a method call o.m(e) of a built-in, with one argument: what must be seen of the text -/
structure M1 (X : Cx) (o : Expr) (m : Str) (apos : Pos) (e : Expr) (cpos : Pos) : Prop where
  base : attributeBase o m X.env (eval o X.env) = eval o X.env
  few : ((backTo cpos (starEach [e] X.env)).all (fun x => !x.1) && (backToKw cpos (keywordEach [] X.env)).all (fun x => x.1.isSome)
    && decide (([e] : List Expr).length + ([] : List Keyword).length + (if ([] : List Keyword).isEmpty then 0 else 1) < 30)) = true
  line : (apos.endLine == cpos.line) = true
  trees : backTo cpos (starEach [e] X.env) = [(false, eval e X.env)]
structure M2 (X : Cx) (o : Expr) (m : Str) (apos : Pos) (e f : Expr) (cpos : Pos) : Prop where
  base : attributeBase o m X.env (eval o X.env) = eval o X.env
  few : ((backTo cpos (starEach [e, f] X.env)).all (fun x => !x.1) && (backToKw cpos (keywordEach [] X.env)).all (fun x => x.1.isSome)
    && decide (([e, f] : List Expr).length + ([] : List Keyword).length + (if ([] : List Keyword).isEmpty then 0 else 1) < 30)) = true
  line : (apos.endLine == cpos.line) = true
  trees : backTo cpos (starEach [e, f] X.env) = [(false, eval e X.env), (false, eval f X.env)]

/-- a is a dict, whatever its keys -/
def IsD (H : Hp) (a : Addr) : Prop := (∃ kvs, Rd H a (.dK kvs)) ∨ ∃ kvs, Rd H a (.dT kvs)
theorem isD_at {X : Cx} {pins : List (Addr × Obj)} {σ : St} {H : Hp} {s : Shared} {a : Addr} (I : Inv X pins σ H s) (d : IsD H a) :
    s.TypeIs (.ref a) "dict" ∧ (∀ b, Value.ref a = .ref b → ∃ ob, s.heap.get? b = some ob ∧ ob.dict = none) ∧ (a == sysModules) = false := by
  rcases d with ⟨kvs, e⟩ | ⟨kvs, e⟩
  · obtain ⟨_, hd, vs, _, dd⟩ := dk_rd I.hok e
    refine ⟨dd.typeIs, fun b q => ?_, hd⟩
    cases q
    obtain ⟨ob, _, _, h1, h2, _⟩ := dd
    exact ⟨ob, h1, h2.2.1⟩
  · obtain ⟨_, hd, xs, _, dd⟩ := dt_rd I.hok e
    refine ⟨dd.typeIs, fun b q => ?_, hd⟩
    cases q
    obtain ⟨ob, _, _, h1, h2, _⟩ := dd
    exact ⟨ob, h1, h2.2.1⟩

section
variable {X : Cx} {pins : List (Addr × Obj)} {σ : St} {H : Hp} {s : Shared} {a : Addr} {y d : V} {u r : Value} {o : Option V} {A : Around} {E : Value → Shared → Prop}
/-- d.get(y) -/
theorem d_get1 {Q : Value → Shared → Prop} (hu : A.units + 1 < cLine) (I : Inv X pins σ H s) (g : DGet H a y o) (ry : RelV y u) (h : ∀ w' s', Inv X pins σ H s' → RelV (o.getD .non) w' → Q w' s') :
    wpAny (model X.prog X.w) A (call (.builtin "dict.get") [.ref a, u]) Q E s := by
  rcases g with ⟨kvs, k, e, ey, l⟩ | ⟨kvs, k, b, e, ey, eb, l⟩
  · subst ey
    obtain ⟨z, hd, vs, rel, dd⟩ := dk_rd I.hok e
    refine call_meetsIn PySem.F.slot_dict_get dd.typeIs PySem.F.entry_dict_get (PySem.F.args_dict_get_2 _ _) (meets_dict_get (mixKind X.prog X.w) a (kV_is ry) hd) ⟨_, dd.mapOf, h _ _ (I.tok _) ?_⟩
    rw [l]
    exact (rel.val k).getD rfl
  · subst ey
    cases (show u = Value.ref b from ry)
    obtain ⟨z, hd, xs, rel, dd⟩ := dt_rd I.hok e
    refine call_meetsIn PySem.F.slot_dict_get dd.typeIs PySem.F.entry_dict_get (PySem.F.args_dict_get_2 _ _) (meetsH_dict_get (tupleKind (mixKind X.prog X.w)) a b hd) ⟨tupleKind_room_in1 hu, k, xs, key_of I.hok eb, dd, h _ _ (I.tok _) ?_⟩
    rw [l]
    exact (rel.val k).getD rfl
/-- d.get(y, x) -/
theorem d_get2 {Q : Value → Shared → Prop} (hu : A.units + 1 < cLine) (I : Inv X pins σ H s) (g : DGet H a y o) (ry : RelV y u) (rd : RelV d r) (h : ∀ w' s', Inv X pins σ H s' → RelV (o.getD d) w' → Q w' s') :
    wpAny (model X.prog X.w) A (call (.builtin "dict.get") [.ref a, u, r]) Q E s := by
  rcases g with ⟨kvs, k, e, ey, l⟩ | ⟨kvs, k, b, e, ey, eb, l⟩
  · subst ey
    obtain ⟨z, hd, vs, rel, dd⟩ := dk_rd I.hok e
    refine call_meetsIn PySem.F.slot_dict_get dd.typeIs PySem.F.entry_dict_get (PySem.F.args_dict_get_3 _ _ _) (meets_dict_get_default (mixKind X.prog X.w) a (kV_is ry) hd r) ⟨_, dd.mapOf, h _ _ (I.tok _) ?_⟩
    rw [l]
    exact (rel.val k).getD rd
  · subst ey
    cases (show u = Value.ref b from ry)
    obtain ⟨z, hd, xs, rel, dd⟩ := dt_rd I.hok e
    refine call_meetsIn PySem.F.slot_dict_get dd.typeIs PySem.F.entry_dict_get (PySem.F.args_dict_get_3 _ _ _) (meetsH_dict_get_default (tupleKind (mixKind X.prog X.w)) a b hd r) ⟨tupleKind_room_in1 hu, k, xs, key_of I.hok eb, dd, h _ _ (I.tok _) ?_⟩
    rw [l]
    exact (rel.val k).getD rd
end

def tDGet1 (td ty : TE) : TE := fun σ H Q => td σ H fun x H1 => ∃ a, x = .ref a ∧ IsD H1 a ∧ ty σ H1 fun y H2 => ∃ o, DGet H2 a y o ∧ Q (o.getD .non) H2
def tDGet2 (td ty tx : TE) : TE := fun σ H Q => td σ H fun x H1 => ∃ a, x = .ref a ∧ IsD H1 a ∧ ty σ H1 fun y H2 => tx σ H2 fun z H3 => ∃ o, DGet H3 a y o ∧ Q (o.getD z) H3
/-- d.pop(k): there; d.pop(k, x): there or not -/
def tDPop1 (td ty : TE) : TE := fun σ H Q => td σ H fun x H1 => ∃ a, x = .ref a ∧ IsD H1 a ∧ ty σ H1 fun y H2 => ∃ kvs k v, H2 a = some (.dK kvs) ∧ y = kV k ∧ valV kvs k = some v ∧ Q v (upd H2 a (.dK (dropK kvs k)))
def tDPop2 (td ty tx : TE) : TE := fun σ H Q => td σ H fun x H1 => ∃ a, x = .ref a ∧ IsD H1 a ∧ ty σ H1 fun y H2 => tx σ H2 fun z H3 => ∃ kvs k, H3 a = some (.dK kvs) ∧ y = kV k ∧
  (∀ v, valV kvs k = some v → Q v (upd H3 a (.dK (dropK kvs k)))) ∧ (valV kvs k = none → Q z H3)
section
variable {X : Cx} {o e f : Expr} {apos cpos : Pos} {td ty tx : TE}
theorem pe_dget1 (hu : X.A.units + 1 < cLine) (ho : PE X o td) (he : PE X e ty) (m : M1 X o "get" apos e cpos) : PE X (.Call (.Attribute o "get" apos) [e] [] cpos) (tDGet1 td ty) := by
  intro pins s σ H Q I h
  refine wpAny_Call_method m.base m.few m.line PySem.F.plainAttrs_dict PySem.F.slot_dict_get PySem.F.type_dict_get (thn (ho pins s σ H _ I h) fun u s1 ⟨x, H1, I1, rx, a, ex, d, q1⟩ => ?_)
  subst ex
  obtain rfl : u = Value.ref a := rx
  obtain ⟨t1, t2, _⟩ := isD_at I1 d
  refine ⟨t1, t2, ?_⟩
  rw [m.trees]
  refine Calls.callWith_builtin rfl (Calls.evalArgs_plain (Calls.spliced_cons (thn (he pins s1 σ H1 _ I1 q1) fun iv s2 ⟨y, H2, I2, ry, ov, g, q2⟩ => Calls.spliced_nil ?_)))
  exact d_get1 hu I2 g ry fun w' s3 I3 rw' => ⟨_, H2, I3, rw', q2⟩
theorem pe_dget2 (hu : X.A.units + 1 < cLine) (ho : PE X o td) (he : PE X e ty) (hf : PE X f tx) (m : M2 X o "get" apos e f cpos) : PE X (.Call (.Attribute o "get" apos) [e, f] [] cpos) (tDGet2 td ty tx) := by
  intro pins s σ H Q I h
  refine wpAny_Call_method m.base m.few m.line PySem.F.plainAttrs_dict PySem.F.slot_dict_get PySem.F.type_dict_get (thn (ho pins s σ H _ I h) fun u s1 ⟨x, H1, I1, rx, a, ex, d, q1⟩ => ?_)
  subst ex
  obtain rfl : u = Value.ref a := rx
  obtain ⟨t1, t2, _⟩ := isD_at I1 d
  refine ⟨t1, t2, ?_⟩
  rw [m.trees]
  refine Calls.callWith_builtin rfl (Calls.evalArgs_plain (Calls.spliced_cons (thn (he pins s1 σ H1 _ I1 q1) fun iv s2 ⟨y, H2, I2, ry, q2⟩ =>
    Calls.spliced_cons (thn (hf pins s2 σ H2 _ I2 q2) fun fv s3 ⟨z, H3, I3, rz, ov, g, q3⟩ => Calls.spliced_nil ?_))))
  exact d_get2 hu I3 g ry rz fun w' s4 I4 rw' => ⟨_, H3, I4, rw', q3⟩
theorem pe_dpop1 (ho : PE X o td) (he : PE X e ty) (m : M1 X o "pop" apos e cpos) : PE X (.Call (.Attribute o "pop" apos) [e] [] cpos) (tDPop1 td ty) := by
  intro pins s σ H Q I h
  refine wpAny_Call_method m.base m.few m.line PySem.F.plainAttrs_dict PySem.F.slot_dict_pop PySem.F.type_dict_pop (thn (ho pins s σ H _ I h) fun u s1 ⟨x, H1, I1, rx, a, ex, d, q1⟩ => ?_)
  subst ex
  obtain rfl : u = Value.ref a := rx
  obtain ⟨t1, t2, _⟩ := isD_at I1 d
  refine ⟨t1, t2, ?_⟩
  rw [m.trees]
  refine Calls.callWith_builtin rfl (Calls.evalArgs_plain (Calls.spliced_cons (thn (he pins s1 σ H1 _ I1 q1) fun iv s2 ⟨y, H2, I2, ry, kvs, k, v, ea, ey, l, q2⟩ => Calls.spliced_nil ?_)))
  subst ey
  exact d_pop I2 ea ry l (.inl rfl) fun w' s3 I3 rw' => ⟨v, _, I3, rw', q2⟩
theorem pe_dpop2 (ho : PE X o td) (he : PE X e ty) (hf : PE X f tx) (m : M2 X o "pop" apos e f cpos) : PE X (.Call (.Attribute o "pop" apos) [e, f] [] cpos) (tDPop2 td ty tx) := by
  intro pins s σ H Q I h
  refine wpAny_Call_method m.base m.few m.line PySem.F.plainAttrs_dict PySem.F.slot_dict_pop PySem.F.type_dict_pop (thn (ho pins s σ H _ I h) fun u s1 ⟨x, H1, I1, rx, a, ex, d, q1⟩ => ?_)
  subst ex
  obtain rfl : u = Value.ref a := rx
  obtain ⟨t1, t2, _⟩ := isD_at I1 d
  refine ⟨t1, t2, ?_⟩
  rw [m.trees]
  refine Calls.callWith_builtin rfl (Calls.evalArgs_plain (Calls.spliced_cons (thn (he pins s1 σ H1 _ I1 q1) fun iv s2 ⟨y, H2, I2, ry, q2⟩ =>
    Calls.spliced_cons (thn (hf pins s2 σ H2 _ I2 q2) fun fv s3 ⟨z, H3, I3, rz, kvs, k, ea, ey, q3, q4⟩ => Calls.spliced_nil ?_))))
  subst ey
  cases l : valV kvs k with
  | some v => exact d_pop I3 ea ry l (.inr ⟨fv, rfl⟩) fun w' s4 I4 rw' => ⟨v, _, I4, rw', q3 v l⟩
  | none => exact d_popD I3 ea ry l fun s4 I4 => ⟨z, H3, I4, rz, q4 l⟩
end

end L2
namespace L2
open PySem PySem.Spec PyProof.Rows
/-! ### enumerate over a list -/
/-- the list at a, with its places: each turn a new pair -/
def Itel (K : PySem.W.Frag) (a : Addr) : It :=
  ⟨fun i H => ∃ xs x, SqL K H a xs ∧ xs[i]? = some x, fun i H x H' => ∃ T y, H T = none ∧ x = .ref T ∧ H' = upd H T (.tup [.int i, y]) ∧ ∀ xs, SqL K H a xs → xs[i]? = some y, fun i H => ∃ xs, SqL K H a xs ∧ xs.length = i⟩
theorem turn_enumL {P : Program} {w : World} {K : PySem.W.Frag} {es : List Expr} {k : Nat} {pos : Pos} (a e it : Addr) (hne : e ≠ it) : Turn P w K (.Tuple es k pos) (Itel K a) [e, it] e (fun i h => (∃ old, IsEnum h e it i old) ∧ h.IsListIter it a i) where
  mem := by simp
  obj := fun i h st b hb => by
    obtain ⟨⟨old, h1⟩, o, h2, _, h3⟩ := st
    rcases List.mem_cons.mp hb with rfl | hb
    · exact ⟨_, h1, fun v z => by cases (show Data.fields _ = Data.cell v from z)⟩
    · obtain rfl : b = it := by simpa using hb
      exact ⟨o, h2, fun v z => by rw [h3] at z; cases z⟩
  keep := fun i h h' st kp => by
    obtain ⟨⟨old, h1⟩, h2⟩ := st
    exact ⟨⟨old, kp e (by simp) _ h1⟩, h2.at fun o q => kp it (by simp) o q⟩
  item := by
    intro X hP hw hK hc i pins s σ H E I hf st hg
    subst hP hw hK
    obtain ⟨xs, x, hq, hx⟩ := hg
    obtain ⟨its, rv, p, hz⟩ := I.list hq
    obtain ⟨u, hu, ru⟩ := rv.get hx
    obtain ⟨⟨old, h1⟩, h2⟩ := st
    have p' : s.heap.IsList a its.toArray := p.isList
    obtain ⟨e0, e1, e2, e3, e4, e5⟩ := hf e (by simp)
    obtain ⟨f0, f1, f2, f3, f4, f5⟩ := hf it (by simp)
    have nai : a ≠ it := by
      rintro rfl
      obtain ⟨o, h3, h4, _⟩ := h2
      obtain ⟨o', h5, h6, _⟩ := p'
      rw [h3] at h5; cases h5; rw [h4] at h6; injection h6 with z; exact absurd z (by decide)
    have nae : e ∉ [it, a] := by
      intro z
      rcases List.mem_cons.mp z with q | q
      · exact hne q
      · obtain rfl : e = a := by simpa using q
        obtain ⟨o', h5, h6, _⟩ := p'
        rw [h1] at h5; cases h5; injection h6 with z; exact absurd z (by decide)
    have hil : i < its.length := (List.getElem?_eq_some_iff.mp hu).1
    refine wpAny_pyNext_enum_itemD (Draws.list (prog := X.prog) (w := X.w) (show X.A.in1.handled = none from I.ok.hd hc) it a nai its.toArray) h1 ⟨h2, p'⟩ (by simpa using hil) hne nae fun y h' tk hy ho st' hT hsz hk => ?_
    obtain rfl : y = u := by
      have hy' : its.toArray[i]? = some y := hy
      rw [List.getElem?_toArray, hu] at hy'
      exact (Option.some.inj hy').symm
    refine ⟨_, rfl, wpAny_letOwnedTupleGo_enum (s := { s with heap := h', toks := tk + 1 }) ho fun h'' he hs => ?_⟩
    have kept : ∀ b ob, b ≠ e → b ≠ it → s.heap.get? b = some ob → h''.get? b = some ob := fun b ob n1 n2 q => (hs.2 b n1).trans (hk b ob n1 n2 q)
    have fr : H s.heap.objs.size = none := I.fresh
    have ok' : HOk X.prog X.w H h'' := fun b v q => (I.hok b v q).stay (fun c z hc' r => by
      have hct : ∃ z, H c = some z := by
        rcases hc' with rfl | hc'
        · exact ⟨_, q⟩
        · exact ⟨_, hc'⟩
      obtain ⟨z', hz'⟩ := hct
      exact kept c z (by rintro rfl; rw [e0] at hz'; cases hz') (by rintro rfl; rw [f0] at hz'; cases hz') r) (fun _ r => r) fun _ _ r => r
    have nT : ∀ b ob, s.heap.get? b = some ob → b ≠ s.heap.objs.size := fun b ob q => Nat.ne_of_lt (Heap.lt_size q)
    have hT'' : h''.get? s.heap.objs.size = some { cls := .type "tuple", data := .seq #[.int i tk, y] } := (hs.2 _ (Ne.symm (nT _ _ h1))).trans hT
    have okT : HOk X.prog X.w (upd H s.heap.objs.size (.tup [.int i, x])) h'' := fun b v q => by
      by_cases hb : b = s.heap.objs.size
      · subst hb
        rw [upd_same] at q
        cases q
        exact ⟨by show 2 ≤ sizeLine; decide, [.int i tk, y], .cons ⟨tk, rfl⟩ (.cons ru .nil), _, hT'', rfl, _, rfl⟩
      · rw [upd_ne hb] at q
        exact (ok' b v q).stay (fun _ _ _ r => r) (fun c r => by rw [upd_ne (ne_of_none r fr)]; exact r) fun c ys r => by rw [upd_ne (ne_of_none r fr)]; exact r
    have I1 : Inv X pins σ (upd H s.heap.objs.size (.tup [.int i, x])) { s with heap := h'', gens := s.gens, drawn := s.drawn, toks := tk + 1 } := by
      refine I.step (ch := [e, it]) (fun b hb => ?_) (fun b ob _ _ hb q _ => kept b ob (fun z => hb (by simp [z])) (fun z => hb (by simp [z])) q) (fun b ob _ _ hb q _ => ⟨ob.slots, kept b ob (fun z => hb (by simp [z])) (fun z => hb (by simp [z])) q⟩)
        (fun b ob _ q n => by rw [upd_ne (nT b ob q)]; exact n) (fun b ob hb q => ⟨ob, kept b ob (fun z => hb (by simp [z])) (fun z => hb (by simp [z])) q⟩)
        (fun b ys q => by rw [upd_ne (ne_of_none q fr)]; exact q) (fun b ob v q => by rw [upd_ne (ne_of_none q fr)]; exact q) (fun b ps q => ⟨#[], by rw [upd_ne (ne_of_none q fr), q]; simp⟩)
        (fun m hm => hm.at' fun ob q => kept _ ob (Ne.symm e1) (Ne.symm f1) q) okT I.bare
      rcases List.mem_cons.mp hb with rfl | hb
      · exact ⟨e3, e1, e4, e5⟩
      · obtain rfl : b = it := by simpa using hb
        exact ⟨f3, f1, f4, f5⟩
    refine ⟨.ref s.heap.objs.size, _, I1, rfl, ⟨_, x, fr, rfl, rfl, fun ys hy => by rw [I.list_inj hy hq]; exact hx⟩, ⟨⟨_, he⟩, st'.1.at fun ob q => (hs.2 it (Ne.symm hne)).trans q⟩, fun b hb => ?_⟩
    rcases List.mem_cons.mp hb with rfl | hb
    · rw [upd_ne (nT _ _ h1)]; exact e0
    · obtain rfl : b = it := by simpa using hb
      obtain ⟨ob, q, _⟩ := h2
      rw [upd_ne (nT _ _ q)]; exact f0
  done := by
    intro X hP hw hK hc i pins s σ H E I hf st hg
    subst hP hw hK
    obtain ⟨xs, hq, rfl⟩ := hg
    obtain ⟨its, rv, p, hz⟩ := I.list hq
    obtain ⟨⟨old, h1⟩, h2⟩ := st
    have p' : s.heap.IsList a its.toArray := p.isList
    obtain ⟨f0, f1, f2, f3, f4, f5⟩ := hf it (by simp)
    have nai : a ≠ it := by
      rintro rfl
      obtain ⟨o, h3, h4, _⟩ := h2
      obtain ⟨o', h5, h6, _⟩ := p'
      rw [h3] at h5; cases h5; rw [h4] at h6; injection h6 with z; exact absurd z (by decide)
    have hl : xs.length = its.toArray.size := by rw [List.size_toArray]; exact rv.length
    exact wpAny_pyNext_enum_endD (Draws.list (prog := X.prog) (w := X.w) (show X.A.in1.handled = none from I.ok.hd hc) it a nai its.toArray) h1 (by rw [← hl]; exact ⟨h2, p'⟩) fun h' eb => ⟨rfl, I.turned (t' := s.toks) (fun b o hb q => eb b o hb q) f0 f1 f3 f4 f5⟩
  self := fun _ _ _ _ _ st h => let ⟨⟨_, h1⟩, _⟩ := st; wpAny_pyIter_enum h1 h
section
variable {X : Cx}
def iEnumL (K : PySem.W.Frag) (ta : TA) : TI := fun σ H R => ta σ H fun vs H1 => ∃ a, vs = [.ref a] ∧ (∃ xs, SqL K H1 a xs) ∧ R (Itel K a) H1
theorem pi_enumL {l : Expr} {ta : TA} {es : List Expr} {k : Nat} {tp p pos : Pos} (hg : Gl X "enumerate") (hm : X.mg "enumerate" = none) (ha : PA X [l] ta) (hs : starEach [l] X.env = [(false, eval l X.env)] := by rfl) :
    PI X (.Tuple es k tp) (.Call (.Name "enumerate" p) [l] [] pos) (iEnumL X.K ta) := by
  intro pins s σ H R I h
  refine Call_ (ld_blt I hg hm boot_enumerate (PyProof.Rows.callWith_type1 (thn (ha pos pins s σ H _ I h) fun us s1 ⟨vs, H1, I1, r1, q1⟩ => ?_) hs rfl))
  obtain ⟨a, rfl, ⟨xs, hq⟩, q⟩ := q1
  obtain ⟨u, rfl, ru⟩ := r1.one
  obtain rfl : u = Value.ref a := ru
  obtain ⟨its, rv, pt, hz⟩ := I1.list hq
  obtain ⟨⟨c, dct, dt, sl⟩, n, ho, hc, hdd, hd⟩ := pt
  replace hc : c = .type "list" := hc
  replace hd : dt = .seq its.toArray n := hd
  subst hc hd
  have hz1 : (s1.heap.push { cls := .type "list_iterator", data := .fields #[.ref a, .int 0 0] }).objs.size = s1.heap.objs.size + 1 := Heap.size_push ..
  refine callType_new F.called_enumerate (by decide) (F.typeCall_enumerate_1 _) (F.newCall_enumerate_1 _) (fun obj => F.args_object_init_2 obj _) F.entry_enumerate_new (meets_enumerate_newL a its.toArray n dct sl) ⟨ho, ?_⟩
  rw [hz1]
  have he := Heap.get?_push_size (s1.heap.push { cls := .type "list_iterator", data := .fields #[.ref a, .int 0 0] }) (o := { cls := .type "enumerate", data := .fields #[.none, .bool false, .ref s1.heap.objs.size, rawInt 0, .none, .none] }) rfl
  rw [hz1] at he
  refine ⟨⟨_, he, rfl⟩, wpAny_pyIter_enum he ?_⟩
  have up : ∀ b o, s1.heap.get? b = some o → ((s1.heap.push { cls := .type "list_iterator", data := .fields #[.ref a, .int 0 0] }).push { cls := .type "enumerate", data := .fields #[.none, .bool false, .ref s1.heap.objs.size, rawInt 0, .none, .none] }).get? b = some o :=
    fun b o e => Heap.get?_push_of_some _ (Heap.get?_push_of_some _ e)
  refine ⟨s1.heap.objs.size + 1, [s1.heap.objs.size + 1, s1.heap.objs.size], _, _, H1, rfl, I1.kept (t' := s1.toks) up, turn_enumL a _ s1.heap.objs.size (Nat.succ_ne_self _), ⟨⟨_, he⟩, ⟨_, Heap.get?_push_of_some _ (Heap.get?_push_size _ rfl), rfl, rfl⟩⟩, fun b hb => ?_, q⟩
  have hb' : s1.heap.objs.size ≤ b := by
    rcases List.mem_cons.mp hb with rfl | hb
    · exact Nat.le_succ _
    · obtain rfl : b = s1.heap.objs.size := by simpa using hb
      exact Nat.le_refl _
  exact I1.fpOk hb' (I1.hok.fresh hb')
/-- over a list with its places -/
theorem for_enumL {K : PySem.W.Frag} {a : Addr} {xs : List V} {g : TG} {tb : TS} {D : Ends} {σ : St} {H : Hp} (Pv : Nat → St → Hp → Prop) (h0 : Pv 0 σ H) (hl : ∀ i σ H, i ≤ xs.length → Pv i σ H → SqL K H a xs)
    (hs : ∀ i x σ H T, xs[i]? = some x → H T = none → Pv i σ H → g (.ref T) σ (upd H T (.tup [.int i, x])) fun σ2 H2 => tb { D with nx := Pv (i + 1), ct := Pv (i + 1), bk := D.nx } σ2 H2) (hd : ∀ σ H, Pv xs.length σ H → D.nx σ H) :
    ∃ W : Nat → Nat → St → Hp → Prop, (∃ m, W 0 m σ H) ∧ ∀ i m σ H, W i m σ H →
      ((Itel K a).stop i H ∧ D.nx σ H) ∨ ((Itel K a).go i H ∧ ∃ N : St → Hp → Prop, (∀ σ' H', N σ' H' → ∃ m', m' < m ∧ W (i + 1) m' σ' H') ∧ ∀ x H', (Itel K a).yld i H x H' → g x σ H' fun σ2 H2 => tb { D with nx := N, ct := N, bk := D.nx } σ2 H2) := by
  refine ⟨fun i m σ H => m = xs.length - i ∧ i ≤ xs.length ∧ Pv i σ H, ⟨xs.length, rfl, Nat.zero_le _, h0⟩, ?_⟩
  rintro i m σ H ⟨rfl, hi, p⟩
  have q := hl i σ H hi p
  rcases Nat.lt_or_ge i xs.length with hlt | hge
  · refine .inr ⟨⟨xs, xs[i], q, by simp [hlt]⟩, Pv (i + 1), fun σ' H' p' => ⟨xs.length - (i + 1), by omega, rfl, hlt, p'⟩, fun x H' ⟨T, y, fT, e1, e2, ey⟩ => ?_⟩
    subst e1 e2
    exact hs i y σ H T (ey xs q) fT p
  · obtain rfl : i = xs.length := by omega
    exact .inl ⟨⟨xs, q, rfl⟩, hd σ H p⟩
end

/-! ### list.index, of ints -/
section
variable {X : Cx}
def rIndex : V → List V → Hp → VK → Prop := fun x vs H Q => ∃ (l : Addr) (os : List Int) (k : Int) (j : Nat), x = .ref l ∧ vs = [.int k] ∧ H l = some (.lst (os.map V.int)) ∧ os[j]? = some k ∧ (∀ m, m < j → os[m]? ≠ some k) ∧ Q (.int j) H
theorem mt_index : MtM X "list.index" rIndex := by
  intro pins s σ H x vs v us Q I rx rv h
  obtain ⟨l, os, k, j, rfl, rfl, hH, hj, hno, q⟩ := h
  cases rx
  obtain ⟨u, rfl, ru⟩ := rv.one
  obtain ⟨t, rfl⟩ := ru
  obtain ⟨z, its, n, r, hl, e⟩ := I.lstM hH
  rw [List.length_map] at hl z
  have get : ∀ m y, its[m]? = some y → ∃ (i : Int) (tk : Tok), os[m]? = some i ∧ y = Value.int i tk := fun m y hy => by
    have hm := (List.getElem?_eq_some_iff.mp hy).1
    have hx : (os.map V.int)[m]? = some (V.int os[m]) := by rw [List.getElem?_map, List.getElem?_eq_getElem (by omega)]; rfl
    obtain ⟨y', hy', ry⟩ := r.get hx
    rw [hy] at hy'
    cases hy'
    obtain ⟨tk, rfl⟩ := ry
    exact ⟨_, tk, List.getElem?_eq_getElem (by omega), rfl⟩
  have hjl : j < its.length := by have := (List.getElem?_eq_some_iff.mp hj).1; omega
  rw [sizeLine_eq] at z
  refine call_meets F.slot_list_index ⟨_, e, rfl⟩ F.entry_list_index (F.args_list_index_2 _ _)
    (MeetsSeq.list_index l its.toArray n (.int k t) (isInt k) (fun y hy => ?_) j (by simpa using hjl) (by omega) ?_ (fun m hm hlt => ?_)) ⟨e, ⟨.int j, H, I.tok _, ⟨_, rfl⟩, q⟩⟩
  · obtain ⟨m, hm, e2⟩ := List.getElem_of_mem (by simpa using hy)
    obtain ⟨i, tk, _, rfl⟩ := get m y (by rw [List.getElem?_eq_getElem hm, e2])
    exact MeetsSeq.EqGives.int i k tk t
  · obtain ⟨i, tk, h1, h2⟩ := get j its[j] (List.getElem?_eq_getElem hjl)
    rw [hj] at h1
    cases h1
    rw [List.getElem_toArray, h2]
    simp [isInt]
  · have hm' : m < its.length := by simpa using hm
    obtain ⟨i, tk, h1, h2⟩ := get m its[m] (List.getElem?_eq_getElem hm')
    rw [List.getElem_toArray, h2]
    have := hno m hlt
    have ne : i ≠ k := fun z => this (by rw [h1, z])
    simp [isInt, ne]
end
end L2
namespace L2
open PySem PySem.Spec PyProof.Rows
/-! ### comprehensions over pairs: [elt for x, y in iter if ..] -/
def CompW2 (K : PySem.W.Frag) (J : It) (σb : V → V → St) (tc : TT) (te : TE) (D : Addr) (Q : VK) (H : Hp) : Prop :=
  ∃ W : Nat → Nat → List V → Hp → Prop, (∃ m, W 0 m [] (upd H D (.lst []))) ∧ ∀ i m ys H, W i m ys H → H D = some (.lst ys) ∧
    ((J.stop i H ∧ Q (.ref D) H) ∨ (J.go i H ∧ ∀ x H', J.yld i H x H' → ∃ (ad : Addr) (v1 v2 : V), x = .ref ad ∧ SqT K H' ad [v1, v2] ∧ tc (σb v1 v2) H' fun b H2 =>
      if b = true then te (σb v1 v2) H2 fun y H3 => H3 D = some (.lst ys) ∧ ys.length < sizeLine ∧ ∃ m', m' < m ∧ W (i + 1) m' (ys ++ [y]) (upd H3 D (.lst (ys ++ [y])))
      else ∃ m', m' < m ∧ W (i + 1) m' ys H2))
def tComp2 (K : PySem.W.Frag) (wi : TI) (js : List Nat) (tc : TT) (te : TE) : TE := fun σ H Q => wi σ H fun J H1 => ∀ D, H1 D = none → CompW2 K J (fun x y => some x :: some y :: capS js σ) tc te D Q H1
section
variable {X : Cx} {pins : List (Addr × Obj)} {σ : St} {H : Hp} {s : Shared}
theorem blk_ok2 {scope : Scope} {x x2 : Str} {ys : List Str} {js : List Nat} {cl : List (Str × Addr)} {fp : List Addr} {h1 : Heap} {tk : Nat} (I : Inv X pins σ H s) (hk : scope.kind = .function) (cap : Cap X scope cl ys js)
    (hcl : ∀ y c, cl.lookup y = some c → X.env.cells.lookup y = some c) (hhas : ∀ y, ((relabel scope X.env).names.lookup y = some .cell ∨ (relabel scope X.env).names.lookup y = some .free) → ∃ c, cl.lookup y = some c)
    (hf : ∀ b ∈ fp, FpOk X pins H b) (hlt : ∀ b ∈ fp, b < s.heap.objs.size)
    (hns : ∃ m, h1.Ns s.heap.objs.size m) (keep : ∀ b o, s.heap.get? b = some o → h1.get? b = some o) :
    Inv (blk X scope (x :: x2 :: ys) cl s.heap.objs.size s H fp) [] (none :: none :: capS js σ) H { s with heap := h1, toks := tk } := by
  have fresh : H s.heap.objs.size = none := I.hok.fresh (Nat.le_refl _)
  refine ⟨⟨I.ok.mod, hk, I.ok.glob, I.ok.blt, Nat.le_refl _, fun y z c e1 e2 => I.ok.inj y z c (hcl y c e1) (hcl z c e2), fun y hy => hhas y hy, fun y c e => absurd e Bool.false_ne_true, I.ok.hd, I.ok.frames, .inl rfl,
      fun b hb => ⟨Nat.ne_of_lt (hlt b hb), fun y c e => (hf b hb).2.2.2.2.1 y c (hcl y c e)⟩, I.bs, Nat.le_trans I.ok.bsz I.sz, fun b o e hb => ?_, fun b hb z => ?_, I.stack, I.stkFree⟩,
    rfl, I.bare, Un.kept keep, ?_, fun y c e => ?_, fresh, fun y c e => I.freeC y c (hcl y c e), fun p hp => absurd (show p ∈ ([] : List (Addr × Obj)) from hp) (by simp), I.hok.kept keep, ?_⟩
  · rcases (hf b hb).2.2.2.1 with z | z
    · exact I.ok.noex b o e z
    · exact absurd (Nat.lt_of_lt_of_le (Heap.lt_size e) (Nat.le_trans I.ok.bsz z)) (Nat.lt_irrefl _)
  · rcases List.mem_cons.mp (I.stkSub b z) with q | q
    · exact (hf b hb).2.1 q
    · exact (hf b hb).2.2.1 q
  · obtain ⟨m, hm⟩ := hns
    refine ⟨m, hm, fun i y v e1 e2 _ => ?_⟩
    cases i with
    | zero =>
      have e2' : (none : Option V) = some v := by simpa using e2
      cases e2'
    | succ i =>
     cases i with
     | zero =>
      have e2' : (none : Option V) = some v := by simpa using e2
      cases e2'
     | succ i =>
      obtain ⟨j, n1, n2, n3, n4, n5⟩ := cap.get (i := i) (by simpa [blk] using e1) (by simpa using e2)
      obtain ⟨m0, hn0, hl0⟩ := I.loc
      obtain ⟨u, r, l⟩ := hl0 j y v n1 n2 (.inr (.inl n3))
      refine ⟨u, r, ?_⟩
      rcases l with ⟨l1, _⟩ | ⟨_, c, l2, o, ho, hd⟩
      · rw [n3] at l1; cases l1
      · exact .inr ⟨.inl n4, c, n5.trans l2, o, keep c o ho, hd⟩
  · obtain ⟨v, o, ho, hd⟩ := I.cell y c (hcl y c e)
    exact ⟨v, o, keep c o ho, hd⟩
  · show (none :: none :: capS js σ).length = (x :: x2 :: ys).length
    rw [List.length_cons, List.length_cons, List.length_cons, List.length_cons, cap.len, capS, List.length_map]
end

section
variable {X : Cx} {x x2 : Str} {px px2 pt pos : Pos} {elt iter : Expr} {ifs : List Expr} {scope : Scope} {ys : List Str} {js : List Nat} {tc : TT} {te : TE} {wi : TI} {kt : Nat}

/-- what the block wants to know of its scope -/
structure CScope2 (X : Cx) (scope : Scope) (x x2 : Str) (ys : List Str) (js : List Nat) (cl : List (Str × Addr)) : Prop where
  kind : scope.kind = .function
  nocell : ∀ y ∈ scope.names, y.2 ≠ .cell
  locals : ∀ y ∈ scope.names, y.2 = .local → scope.names.lookup y.1 = some .local
  own : scope.names.lookup x = some .local
  own2 : scope.names.lookup x2 = some .local
  clos : closureFor scope X.env = pure cl
  cap : Cap X scope cl ys js
  cells : ∀ y c, cl.lookup y = some c → X.env.cells.lookup y = some c
  has : ∀ y, ((relabel scope X.env).names.lookup y = some .cell ∨ (relabel scope X.env).names.lookup y = some .free) → ∃ c, cl.lookup y = some c
  nd : (x :: x2 :: ys).Nodup

theorem comp_core2 {cl : List (Str × Addr)} (S : CScope2 X scope x x2 ys js cl) (hc : X.calm = true)
    (ht : ∀ C s H fp, PIfs (blk X scope (x :: x2 :: ys) cl C s H fp) ifs tc) (he : ∀ C s H fp, PE (blk X scope (x :: x2 :: ys) cl C s H fp) elt te)
    {pins : List (Addr × Obj)} {σ : St} {s2 : Shared} {E : Value → Shared → Prop} {RR : Value → Addr → Result → Shared → Prop} {it : Addr} {fp : List Addr} {tn : Nat → Heap → Prop} {J : It} {H2 : Hp} {Q : VK}
    (I2 : Inv X pins σ H2 s2) (T : Turn X.prog X.w X.K (.Tuple [.Name x px, .Name x2 px2] kt pt) J fp it tn) (st2 : tn 0 s2.heap) (f2 : ∀ b ∈ fp, FpOk X pins H2 b)
    (q : ∀ D, H2 D = none → CompW2 X.K J (fun v v2 => some v :: some v2 :: capS js σ) tc te D Q H2)
    (hRR : ∀ D C Hf s', Inv X pins σ Hf s' → (∃ m, s'.heap.Ns C m) → FpOk X pins Hf C → Q (.ref D) Hf → RR (.ref D) C (.ok .next) s') :
    wpAny (model X.prog X.w) X.A (newList []) (fun acc s₃ => wpAny (model X.prog X.w) X.A (newFunctionEnv scope X.env.globals cl [] X.env.qual none .none (some X.env)) (fun cenv s₄ =>
      codeAny (model X.prog X.w) X.A (.compStart (.ListComp elt [⟨.Tuple [.Name x px, .Name x2 px2] kt pt, iter, ifs, 0⟩] scope pos) 0 (.ref it) acc { cenv with scope := relabel scope X.env }) (RR acc cenv.locals) s₄) E s₃) E s2 := by
  have fr2 : H2 s2.heap.objs.size = none := I2.hok.fresh (Nat.le_refl _)
  have flt : ∀ b ∈ fp, b < s2.heap.objs.size := fun b hb => let ⟨o, e, _⟩ := T.obj 0 _ st2 b hb; Heap.lt_size e
  refine wpAny_newObj_type (wpAny_newFunctionEnv S.nocell (by intro y hy; simp at hy) (fun h₁ hns₁ hsb₁ => ?_) S.kind) (by show 0 ≤ sizeLine; exact Nat.zero_le _)
  dsimp only at hns₁ hsb₁ ⊢
  have I3 : Inv X pins σ (upd H2 s2.heap.objs.size (.lst [])) { s2 with heap := s2.heap.push { cls := .type "list", dict := none, data := .seq ([] : List Value).toArray } } :=
    Inv.lnew (t' := s2.toks) I2 (its := []) .nil (Nat.zero_le _)
  obtain ⟨W, ⟨m0, w0⟩, turn⟩ := q _ fr2
  generalize hD : s2.heap.objs.size = D at *
  generalize hH3 : upd H2 D (.lst []) = H3 at *
  have hsz3 : (s2.heap.push { cls := .type "list", dict := none, data := .seq ([] : List Value).toArray }).objs.size = D + 1 := by rw [Heap.size_push, hD]
  have up3 : ∀ b o, s2.heap.get? b = some o → (s2.heap.push { cls := .type "list", dict := none, data := .seq ([] : List Value).toArray }).get? b = some o := fun b o e => Heap.get?_push_of_some _ e
  generalize hs3 : s2.heap.push { cls := .type "list", dict := none, data := .seq ([] : List Value).toArray } = h3 at *
  have fnD : ∀ b ∈ fp, b ≠ D := fun b hb => Nat.ne_of_lt (flt b hb)
  have f3 : ∀ b ∈ fp, FpOk X pins H3 b := fun b hb => ⟨by rw [← hH3, upd_ne (fnD b hb)]; exact (f2 b hb).1, (f2 b hb).2⟩
  have flt3 : ∀ b ∈ fp, b < h3.objs.size := fun b hb => by rw [hsz3]; exact Nat.lt_succ_of_lt (flt b hb)
  have keep : ∀ b o, h3.get? b = some o → h₁.get? b = some o := fun b o e => hsb₁.extBut b o (Nat.ne_of_lt (Heap.lt_size e)) (Heap.get?_push_of_some _ e)
  have I4 := blk_ok2 (x := x) (x2 := x2) (s := { s2 with heap := h3 }) (tk := s2.toks + ([] : List (Str × Value)).length) I3 S.kind S.cap S.cells S.has f3 flt3 ⟨_, hns₁⟩ keep
  generalize hC : h3.objs.size = C at *
  have st4 : tn 0 h₁ := T.keep 0 _ _ st2 fun b _ o e => keep b o (up3 b o e)
  -- a state of the block is a state of the def
  have back : ∀ {σ' : St} {Hf : Hp} {s' : Shared}, Inv (blk X scope (x :: x2 :: ys) cl C { s2 with heap := h3 } H3 fp) [] σ' Hf s' → Inv X pins σ Hf s' := fun {σ' Hf s'} J' =>
    I3.call' J'.os J'.base J'.hok J'.bare fun b hb => ⟨(f3 b hb).2.2.2.1, (f3 b hb).2.1, (f3 b hb).2.2.2.2.1, (f3 b hb).2.2.2.2.2⟩
  have fC : ∀ {Hf : Hp}, Hf C = none → FpOk X pins Hf C := fun hn => I3.fpOk (by rw [← hC]; exact Nat.le_refl _) hn
  have loop : codeAny (model X.prog X.w) X.A (.compLoop (.ListComp elt [⟨.Tuple [.Name x px, .Name x2 px2] kt pt, iter, ifs, 0⟩] scope pos) 0 (.ref it) (.ref D) (compEnvC scope cl C X.env)) (RR (.ref D) C)
      { s2 with heap := h₁, toks := s2.toks + ([] : List (Str × Value)).length } := by
    refine codeAny_loop rfl (fun n s' => ∃ i zs H', Inv (blk X scope (x :: x2 :: ys) cl C { s2 with heap := h3 } H3 fp) [] (none :: none :: capS js σ) H' s' ∧ tn i s'.heap ∧ (∀ b ∈ fp, H' b = none) ∧ W i n zs H')
      ?_ m0 ⟨0, [], H3, I4, st4, fun b hb => (f3 b hb).1, w0⟩
    rintro n s5 ⟨i, zs, H5, I5, st5, fr5, w5⟩
    show wpAny (model X.prog X.w) X.A ((compTurn (.ListComp elt [⟨.Tuple [.Name x px, .Name x2 px2] kt pt, iter, ifs, 0⟩] scope pos) 0 (.ref it) (.ref D) (compEnvC scope cl C X.env)).onRaise (fun e => do noteFrame e (compEnvC scope cl C X.env); theTreesLotGoes e)) _ _ s5
    refine wpAny_noted ?_
    rw [compTurn_list]
    have stat : ∀ {H' : Hp}, (∀ b ∈ fp, H' b = none) → ∀ b ∈ fp, FpOk (blk X scope (x :: x2 :: ys) cl C { s2 with heap := h3 } H3 fp) [] H' b := fun hn b hb =>
      ⟨hn b hb, I5.ok.exf b hb |>.1, I5.ok.exfs b hb, .inl hb, I5.ok.exf b hb |>.2, fun p hp => absurd (show p ∈ ([] : List (Addr × Obj)) from hp) (by simp)⟩
    obtain ⟨hHD, way⟩ := turn i n zs H5 w5
    rcases way with ⟨stop, fin⟩ | ⟨go, step⟩
    · refine wpAny_bind (wpAny_standAt (wpAny_bind (thn (T.done (blk X scope (x :: x2 :: ys) cl C { s2 with heap := h3 } H3 fp) rfl rfl rfl hc i [] s5 (none :: none :: capS js σ) H5 _ I5 (stat fr5) st5 stop) fun r s6 ⟨hr, I6⟩ => ?_)))
      subst hr
      exact wpAny_pure (hRR D C H5 s6 (back I6) (let ⟨m, h, _⟩ := I6.loc; ⟨m, h⟩) (fC I6.free) fin)
    · refine wpAny_bind (wpAny_standAt (wpAny_bind (thn (T.item (blk X scope (x :: x2 :: ys) cl C { s2 with heap := h3 } H3 fp) rfl rfl rfl hc i [] s5 (none :: none :: capS js σ) H5 _ I5 (stat fr5) st5 go) fun r s6 ⟨u, hr, h6⟩ => ?_)))
      subst hr
      refine wpAny_bind (thn h6 fun _ s7 ⟨v, H7, I7, r7, y7, st7, fr7⟩ => ?_)
      have I7' := I7.pinned (stat fr7) (T.obj _ _ st7)
      obtain ⟨ad, v1, v2, ev, hsq, step⟩ := step v _ y7
      refine wpAny_bind (wpAny_mono (pg_tup (X := blk X scope (x :: x2 :: ys) cl C { s2 with heap := h3 } H3 fp) hc (pgs_cons (pg_name (i := 0) S.nd rfl (.inl (lookup_relabel_local S.own)) (.inr (lookup_relabel_local S.own))) (pgs_cons (pg_name (i := 1) S.nd rfl (.inl (lookup_relabel_local S.own2)) (.inr (lookup_relabel_local S.own2))) pgs_nil)) rfl rfl _ s7 (none :: none :: capS js σ) H7 v u
        (fun σ' H' => σ' = some v1 :: some v2 :: capS js σ ∧ H' = H7) I7' r7 ⟨ad, [v1, v2], ev, hsq, rfl, v1, [v2], rfl, v2, [], rfl, rfl, rfl, rfl⟩) (fun _ s8 ⟨σ8, H8, I8, e8, e8'⟩ => ?_) fun _ _ z => False.elim z)
      subst e8 e8'
      refine wpAny_bind (wpAny_mono (ht C { s2 with heap := h3 } H3 fp _ s8 _ _ _ I8 step) (fun ok s9 ⟨H9, I9, q9⟩ => ?_) fun _ _ z => False.elim z)
      have again : ∀ {σ' : St} {H' : Hp} {s' : Shared} {zs' : List V}, Inv (blk X scope (x :: x2 :: ys) cl C { s2 with heap := h3 } H3 fp) ([] ++ pinsAt fp s7.heap) (some v1 :: some v2 :: capS js σ) H' s' → (∃ m', m' < n ∧ W (i + 1) m' zs' H') →
          ∃ m, m < n ∧ ∃ i zs H', Inv (blk X scope (x :: x2 :: ys) cl C { s2 with heap := h3 } H3 fp) [] (none :: none :: capS js σ) H' s' ∧ tn i s'.heap ∧ (∀ b ∈ fp, H' b = none) ∧ W i m zs H' := fun {σ' H' s' zs'} J' ⟨m', hm, w'⟩ => by
        refine ⟨m', hm, i + 1, zs', H', J'.unpinned.weak (by simp) (fun k v' e => ?_), T.keep _ _ _ st7 fun b hb o e => (J'.pin (b, o) (List.mem_append_right _ (List.mem_append_right _ (mem_pinsAt hb e)))).1, fun b hb => ?_, w'⟩
        · cases k with
          | zero => simp at e
          | succ k =>
            cases k with
            | zero => simp at e
            | succ k => simpa using e
        · obtain ⟨o, e, d⟩ := T.obj _ _ st7 b hb
          exact (J'.pin (b, o) (List.mem_append_right _ (List.mem_append_right _ (mem_pinsAt hb e)))).2.1
      cases ok with
      | false =>
        simp only [Bool.false_eq_true, if_false] at q9 ⊢
        exact wpAny_pure ⟨rfl, again (σ' := []) I9 q9⟩
      | true =>
        simp only [if_true] at q9 ⊢
        refine wpAny_bind (wpAny_bind (wpAny_mono (he C { s2 with heap := h3 } H3 fp _ s9 _ _ _ I9 q9) (fun a s10 ⟨y, H10, I10, r10, hD10, hz10, q10⟩ => ?_) fun _ _ z => False.elim z))
        refine wpAny_bind (wpAny_mono (mt_append (X := blk X scope (x :: x2 :: ys) cl C { s2 with heap := h3 } H3 fp) _ s10 _ H10 (.ref D) [y] (.ref D) [a] (fun _ H' => H' = upd H10 D (.lst (zs ++ [y]))) I10 rfl (.cons r10 .nil)
          ⟨D, zs, y, rfl, rfl, hD10, hz10, rfl⟩) (fun _ s11 ⟨_, H11, I11, _, e11⟩ => ?_) fun _ _ z => False.elim z)
        subst e11
        exact wpAny_pure (wpAny_pure ⟨rfl, again (σ' := []) I11 q10⟩)
  exact codeAny_compStart_list loop (T.self X.A 0 _ _ _ st4 loop)

/-- [elt for x in iter if ..] -/
theorem pe_comp2 {cl : List (Str × Addr)} (S : CScope2 X scope x x2 ys js cl) (hc : X.calm = true) (hi : PI X (.Tuple [.Name x px, .Name x2 px2] kt pt) iter wi)
    (ht : ∀ C s H fp, PIfs (blk X scope (x :: x2 :: ys) cl C s H fp) ifs tc) (he : ∀ C s H fp, PE (blk X scope (x :: x2 :: ys) cl C s H fp) elt te)
    (hs : ∀ x, foldedSetIterable iter X.env x = pure x := by intro _; rfl) : PE X (.ListComp elt [⟨.Tuple [.Name x px, .Name x2 px2] kt pt, iter, ifs, 0⟩] scope pos) (tComp2 X.K wi js tc te) := by
  intro pins s σ H Q I h
  rw [eval_ListComp]
  refine wpAny_comprehension_free (use := none) rfl hs S.clos S.kind S.locals (thn (hi pins s σ H _ I h) fun v s1 h1 => thn h1 fun itv s2 h2 => ?_)
  obtain ⟨it, fp, tn, J, H2, e, I2, T, st2, f2, q⟩ := h2
  subst e
  refine comp_core2 (RR := fun acc C => compPost (model X.prog X.w) X.A X.xe none (EP X pins σ Q) acc C) S hc ht he I2 T st2 f2 q fun D C Hf s' I' ns ⟨f0, f1, _, f3, f4, f5⟩ fin => ?_
  obtain ⟨m, ns⟩ := ns
  exact ⟨m, ns, fun h' hs' => ⟨.ref D, Hf, I'.turned (t' := s'.toks) (fun b o hb e => (hs'.2 b hb).trans e) f0 f1 f3 f4 f5, rfl, fin⟩⟩
end
/-- a comprehension by data: the items of xs bear ds; those that pass the test give what bears g -/
theorem comp_data2 {α β : Type} {K : PySem.W.Frag} {J : It} {σb : V → V → St} {tc : TT} {te : TE} {D : Addr} {Q : VK} {H : Hp} {xs : List V} {ds : List α} (test : α → Bool) (g : α → β) (Rb : Hp → V → β → Prop)
    (hlen : xs.length = ds.length) (hz : xs.length < sizeLine) (hD : H D = none)
    (mono : ∀ H1 H2 v b, Same H1 H2 → Rb H1 v b → Rb H2 v b) (monoD : ∀ H1 ys zs v b, Same H H1 → H1 D = some (.lst ys) → Rb H1 v b → Rb (upd H1 D (.lst zs)) v b)
    (hgo : ∀ i H', i < xs.length → Same H H' → J.go i H') (hy : ∀ (i : Nat) H' x H'', i < xs.length → Same H H' → J.yld i H' x H'' → H'' = H' ∧ xs[i]? = some x) (hst : ∀ H', Same H H' → J.stop xs.length H')
    (step : ∀ (i : Nat) x d, xs[i]? = some x → ds[i]? = some d → ∀ H', Same H H' → (∃ ys, H' D = some (.lst ys)) → ∀ R : Option V → Hp → Prop, (test d = true → ∀ y H'', Same H' H'' → Rb H'' y (g d) → R (some y) H'') → (test d = false → ∀ H'', Same H' H'' → R none H'') →
      ∃ (ad : Addr) (v1 v2 : V), x = .ref ad ∧ SqT K H' ad [v1, v2] ∧ tc (σb v1 v2) H' fun b H2 => if b = true then te (σb v1 v2) H2 fun y H3 => R (some y) H3 else R none H2)
    (hQ : ∀ H' ys, H' D = some (.lst ys) → Paired (Rb H') ys ((ds.filter test).map g) → Same H H' → Q (.ref D) H') : CompW2 K J σb tc te D Q H := by
  refine ⟨fun i m ys H' => m = xs.length - i ∧ i ≤ xs.length ∧ H' D = some (.lst ys) ∧ Paired (Rb H') ys (((ds.take i).filter test).map g) ∧ Same H H', ⟨xs.length, rfl, Nat.zero_le _, upd_same, .nil, fun b o e => ?_⟩, ?_⟩
  · rw [upd_ne (ne_of_none e hD)]; exact e
  · rintro i m ys H' ⟨rfl, hi, hd, hp, hs⟩
    refine ⟨hd, ?_⟩
    rcases Nat.lt_or_ge i xs.length with hlt | hge
    · refine .inr ⟨hgo i H' hlt hs, fun x H'' hyl => ?_⟩
      obtain ⟨rfl, hx⟩ := hy i H' x H'' hlt hs hyl
      obtain ⟨d, hdd⟩ : ∃ d, ds[i]? = some d := ⟨ds[i]'(by omega), List.getElem?_eq_getElem (by omega)⟩
      have htk : ds.take (i + 1) = ds.take i ++ [d] := by rw [List.take_add_one, hdd]; rfl
      have hl2 : ys.length < sizeLine := by
        rw [PySem.Paired.length hp, List.length_map]
        have := List.length_filter_le test (ds.take i)
        rw [List.length_take] at this
        omega
      refine step i x d hx hdd _ hs ⟨ys, hd⟩ (fun o H3 => match o with
        | some y => H3 D = some (.lst ys) ∧ ys.length < sizeLine ∧ ∃ m', m' < xs.length - i ∧ (m' = xs.length - (i + 1) ∧ i + 1 ≤ xs.length ∧ (upd H3 D (.lst (ys ++ [y]))) D = some (.lst (ys ++ [y])) ∧ Paired (Rb (upd H3 D (.lst (ys ++ [y])))) (ys ++ [y]) (((ds.take (i + 1)).filter test).map g) ∧ Same H (upd H3 D (.lst (ys ++ [y]))))
        | none => ∃ m', m' < xs.length - i ∧ (m' = xs.length - (i + 1) ∧ i + 1 ≤ xs.length ∧ H3 D = some (.lst ys) ∧ Paired (Rb H3) ys (((ds.take (i + 1)).filter test).map g) ∧ Same H H3)) (fun ht y H3 s3 hb => ?_) (fun ht H3 s3 => ?_)
      · have s4 : Same H H3 := hs.trans s3
        have hd3 := s3 _ _ hd
        refine ⟨hd3, hl2, _, ?_, rfl, hlt, upd_same, ?_, fun b o q => ?_⟩
        · omega
        · rw [htk, List.filter_append, List.map_append, List.filter_cons_of_pos ht]
          refine PySem.Paired.snoc (L2.Paired.mapP hp fun v b r => monoD _ _ _ _ _ s4 hd3 (mono _ _ _ _ s3 r)) (monoD _ _ _ _ _ s4 hd3 hb)
        · rw [upd_ne (ne_of_none q hD)]; exact s4 b o q
      · refine ⟨_, ?_, rfl, hlt, s3 _ _ hd, ?_, hs.trans s3⟩
        · omega
        · rw [htk, List.filter_append, List.filter_cons_of_neg (by rw [ht]; simp), List.filter_nil, List.append_nil]
          exact L2.Paired.mapP hp fun v b r => mono _ _ _ _ s3 r
    · obtain rfl : i = xs.length := by omega
      refine .inl ⟨hst H' hs, hQ H' ys hd ?_ hs⟩
      rw [hlen, List.take_length] at hp
      exact hp
end L2
namespace L2
open PySem PySem.Spec PyProof.Rows
section
variable {prog : Program} {w : World} {A : Around} {E : Value → Shared → Prop} {s : Shared}
theorem upd_fields {h : Heap} {it : Addr} {c : Value} {vs : Array Value} (e : h.get? it = some { cls := c, dict := none, data := .fields vs, slots := #[] }) (k : Nat) (x : Value) :
    (h.update it (Obj.mapFields fun a => a.setIfInBounds k x)).get? it = some { cls := c, dict := none, data := .fields (vs.setIfInBounds k x), slots := #[] } := Heap.get?_update_self _ e rfl
theorem items_turn {it d : Addr} {i ep : Nat} {od : Obj} {es : Array DictEntry} {ok ov : Value} {Q : Option Value → Shared → Prop} (hI : IsItemIter s.heap it d i es.size ep ok ov) (gO : s.heap.get? d = some od) (gD : od.data = .dict es ep) (hlt : i < es.size)
    (hQ : ∀ h', IsItemIterOut h' it d (i + 1) es.size ep es[i].key es[i].val s.heap.objs.size → h'.get? s.heap.objs.size = some { cls := .type "tuple", data := .seq #[es[i].key, es[i].val] } →
      h'.objs.size = s.heap.objs.size + 1 → (∀ b o, b ≠ it → s.heap.get? b = some o → h'.get? b = some o) → Q (some (.ref s.heap.objs.size)) { s with heap := h' }) :
    wpAny (model prog w) A (pyNext (.ref it)) Q E s := by
  have ty : s.TypeIs (.ref it) "dict_itemiterator" := ⟨_, hI, rfl⟩
  unfold pyNext
  refine wpAny_bind (wpAny_attempt (wpAny_callSpecial?_slot (name := Str.ofString "__next__") ty F.slot_dict_itemiterator_next (wpAny_call_entry F.slot_dict_itemiterator_next ty F.entry_dict_itemiterator_next ?_ (F.args_dict_itemiterator_next_1 _))))
  obtain ⟨hp, g, dr, tk, os⟩ := s
  wp_walk using wpAny_fieldsOf hI rfl, wpAny_dictEntries gO gD, wpAny_dictEpoch gO gD, wpAny_typeNameOfWhole_itemiter ty, wpAny_typeNameOf_itemiter ty
  have e0 : (if (i : Int) < 0 then none else es[((i : Nat) : Int).toNat]?) = some es[i] := by
    rw [if_neg (by omega), Int.toNat_natCast, Array.getElem?_eq_getElem hlt]
  rw [e0]
  have hil : it < hp.objs.size := Heap.lt_size hI
  wp_walk using wpAny_typeNameOfWhole_itemiter ty, wpAny_isOneOf_itemiter ty
  refine ⟨_, rfl, wpAny_pure ?_⟩
  rw [Heap.size_update]
  have a1 := upd_fields hI ((if Builtin.Dict_items.ownsTuple "dict_itemiterator" = true then 2 else 0) + 1) (rawInt ((i : Int) + 1))
  refine hQ _ ?_ ?_ ?_ ?_
  · exact upd_fields (upd_fields (upd_fields (upd_fields (Heap.get?_push_of_some _ (upd_fields hI _ _)) 6 _) 7 _) 0 _) 1 _
  · rw [Heap.get?_update_ne _ _ _ _ (Nat.ne_of_gt hil), Heap.get?_update_ne _ _ _ _ (Nat.ne_of_gt hil), Heap.get?_update_ne _ _ _ _ (Nat.ne_of_gt hil), Heap.get?_update_ne _ _ _ _ (Nat.ne_of_gt hil)]
    have := Heap.get?_push_size (hp.update it (Obj.mapFields fun x => x.setIfInBounds ((if Builtin.Dict_items.ownsTuple "dict_itemiterator" = true then 2 else 0) + 1) (rawInt ((i : Int) + 1)))) (o := { cls := Value.type "tuple", data := Data.seq #[es[i].key, es[i].val] }) rfl
    rw [Heap.size_update] at this
    exact this
  · rw [Heap.size_update, Heap.size_update, Heap.size_update, Heap.size_update, Heap.size_push, Heap.size_update]
  · intro b o hb e
    rw [Heap.get?_update_ne _ _ _ _ hb, Heap.get?_update_ne _ _ _ _ hb, Heap.get?_update_ne _ _ _ _ hb, Heap.get?_update_ne _ _ _ _ hb]
    exact Heap.get?_push_of_some _ (by rw [Heap.get?_update_ne _ _ _ _ hb]; exact e)
end
end L2
namespace L2
open PySem PySem.Spec PyProof.Rows
section
variable {prog : Program} {w : World} {A : Around} {E : Value → Shared → Prop} {s : Shared}
theorem items_view {d : Addr} {od : Obj} (gO : s.heap.get? d = some od) (gE : od.ExactDict) (hd : (d == sysModules) = false) {Q : Value → Shared → Prop}
    (hQ : Q (.ref s.heap.objs.size) { s with heap := s.heap.push { cls := .type "dict_items", data := .fields #[.ref d] } }) : wpAny (model prog w) A (call (.builtin "dict.items") [.ref d]) Q E s := by
  have ty : s.TypeIs (.ref d) "dict" := ⟨od, gO, gE.1⟩
  refine wpAny_call_entry F.slot_dict_items ty F.entry_dict_items ?_ (F.args_dict_items_1 _)
  obtain ⟨hp, g, dr, tk, os⟩ := s
  wp_walk using wpAny_notOrdered_dict ty
  exact ⟨_, rfl, hQ⟩
theorem items_iter {v d : Addr} {od : Obj} {es : Array DictEntry} {ep : Nat} (hv : s.heap.IsItemsView v d) (gO : s.heap.get? d = some od) (gD : od.data = .dict es ep) {Q : Value → Shared → Prop}
    (hQ : Q (.ref s.heap.objs.size) { s with heap := s.heap.push { cls := .type "dict_itemiterator", data := .fields #[.none, .bool false, .ref d, .int 0 0, .int es.size 0, .int ep 0, .none, .none] } }) : wpAny (model prog w) A (pyIter (.ref v)) Q E s := by
  obtain ⟨ov, hov, hcv, hdv⟩ := id hv
  refine wpAny_pyIter_slot hv.typeIs F.slot_dict_items_iter (wpAny_call_entry F.slot_dict_items_iter hv.typeIs F.entry_dict_items_iter ?_ (F.args_dict_items_iter_1 _))
  obtain ⟨hp, g, dr, tk, os⟩ := s
  wp_walk using wpAny_field hov hdv (x := .ref d) rfl, wpAny_dictEntries gO gD, wpAny_dictEpoch gO gD
  exact ⟨_, rfl, "dict_itemiterator", _, ⟨_, Heap.get?_push_size _ rfl, rfl⟩, F.slot_dict_itemiterator_next.lookup, hQ⟩
theorem items_stop {it d : Addr} {i ep : Nat} {od : Obj} {es : Array DictEntry} {ok ov : Value} {Q : Option Value → Shared → Prop} (hh : A.handled = none) (hI : IsItemIter s.heap it d i es.size ep ok ov) (gO : s.heap.get? d = some od) (gD : od.data = .dict es ep) (hge : es.size ≤ i)
    (hQ : ∀ h', Heap.ExtBut it s.heap h' → Q none { s with heap := h' }) : wpAny (model prog w) A (pyNext (.ref it)) Q E s := by
  have ty : s.TypeIs (.ref it) "dict_itemiterator" := ⟨_, hI, rfl⟩
  have hh1 : A.in1.handled = none := hh
  unfold pyNext
  refine wpAny_bind (wpAny_attempt (wpAny_callSpecial?_slot (name := Str.ofString "__next__") ty F.slot_dict_itemiterator_next (wpAny_call_entry F.slot_dict_itemiterator_next ty F.entry_dict_itemiterator_next ?_ (F.args_dict_itemiterator_next_1 _))))
  obtain ⟨hp, g, dr, tk, os⟩ := s
  wp_walk using wpAny_fieldsOf hI rfl, wpAny_dictEntries gO gD, wpAny_dictEpoch gO gD, wpAny_typeNameOfWhole_itemiter ty, wpAny_typeNameOf_itemiter ty
  have e0 : (if (i : Int) < 0 then none else es[((i : Nat) : Int).toNat]?) = none := by
    rw [if_neg (by omega), Int.toNat_natCast, Array.getElem?_eq_none hge]
  rw [e0]
  wp_walk using wpAny_typeNameOfWhole_itemiter ty
  simp only [raiseNew]
  refine wpAny_bind (wpAny_handled ?_)
  rw [hh1]
  refine wpAny_bind (wpAny_pure (wpAny_throw ?_))
  refine wpAny_bind (wpAny_isInstance (T := "StopIteration") (b := true) ⟨_, Heap.get?_push_size _ rfl, rfl⟩ isSubtype_stop ?_)
  refine wpAny_pure (hQ _ ?_)
  exact ((Heap.SameBut.update ..).extBut.push _).push _
end
end L2
namespace L2
open PySem PySem.Spec PyProof.Rows
/-! ### for k, v in d.items(): the dict stands still -/
def Iti (d : Addr) (od : Obj) (kvs : List (List Key × V)) : It :=
  ⟨fun i H => H d = some (.frz od (.dT kvs)) ∧ i < kvs.length, fun i H x H' => ∃ T b k v, H T = none ∧ kvs[i]? = some (k, v) ∧ H b = some (.tup (k.map kV)) ∧ x = .ref T ∧ H' = upd H T (.tup [.ref b, v]), fun i H => H d = some (.frz od (.dT kvs)) ∧ kvs.length ≤ i⟩
theorem frz_dict {P : Program} {w : World} {H : Hp} {h : Heap} {d : Addr} {od : Obj} {kvs : List (List Key × V)} (ok : HOk P w H h) (e : H d = some (.frz od (.dT kvs))) : h.get? d = some od ∧ ∃ (xs : List (List Key × Addr × Value)) (es : Array DictEntry) (ep : Nat),
    Paired (fun (p : List Key × V) (q : List Key × Addr × Value) => p.1 = q.1 ∧ H q.2.1 = some (.tup (p.1.map kV)) ∧ RelV p.2 q.2.2) kvs xs ∧ od.data = .dict es ep ∧ es.toList = xs.map (entryOfKey (tupleKind (mixKind P w))) := by
  obtain ⟨h1, _, _, xs, r, o, es, ep, h2, _, h3, h4, _⟩ := (show ObjOk P w H h d (.frz od (.dT kvs)) from ok d _ e)
  rw [h1] at h2
  cases h2
  exact ⟨h1, xs, es, ep, r, h3, h4⟩
theorem turn_items {P : Program} {w : World} {K : PySem.W.Frag} {els : List Expr} {kk : Nat} {pos : Pos} {d it : Addr} {od : Obj} {kvs : List (List Key × V)} {es : Array DictEntry} {ep : Nat} (gD : od.data = .dict es ep) (hsz : es.size = kvs.length) (hne : d ≠ it) :
    Turn P w K (.Tuple els kk pos) (Iti d od kvs) [it] it (fun i h => ∃ ok ov, IsItemIter h it d i es.size ep ok ov) where
  mem := by simp
  obj := fun i h st b hb => by
    obtain ⟨ok, ov, h1⟩ := st
    obtain rfl : b = it := by simpa using hb
    exact ⟨_, h1, fun v z => by cases (show Data.fields _ = Data.cell v from z)⟩
  keep := fun i h h' st kp => by
    obtain ⟨ok, ov, h1⟩ := st
    exact ⟨ok, ov, kp it (by simp) _ h1⟩
  item := by
    intro X hP hw hK hc i pins s σ H E I hf st hg
    subst hP hw hK
    obtain ⟨hd, hi⟩ := hg
    obtain ⟨gO, xs, es', ep', r, g3, g4⟩ := frz_dict I.hok hd
    rw [gD] at g3
    cases g3
    obtain ⟨ok, ov, h1⟩ := st
    have hie : i < es.size := by omega
    obtain ⟨f0, f1, f2, f3, f4, f5⟩ := hf it (by simp)
    obtain ⟨⟨k, v⟩, hkv⟩ : ∃ p, kvs[i]? = some p := ⟨kvs[i], List.getElem?_eq_getElem hi⟩
    obtain ⟨q, hq, eq1, hb, rv⟩ := paired_get r hkv
    have ent : es[i] = entryOfKey (tupleKind (mixKind X.prog X.w)) q := by
      have := congrArg (·[i]?) g4
      simp only [Array.getElem?_toList, List.getElem?_map, hq, Option.map_some] at this
      rw [Array.getElem?_eq_getElem hie] at this
      exact Option.some.inj this
    refine items_turn h1 gO gD hie fun h' ho hT hz hk => ?_
    refine ⟨_, rfl, wpAny_letOwnedTupleGo_items (s := { s with heap := h' }) ho fun h'' he hs => ?_⟩
    have kept : ∀ b ob, b ≠ it → s.heap.get? b = some ob → h''.get? b = some ob := fun b ob n1 q => (hs.2 b n1).trans (hk b ob n1 q)
    have fr : H s.heap.objs.size = none := I.fresh
    have nT : ∀ b ob, s.heap.get? b = some ob → b ≠ s.heap.objs.size := fun b ob q => Nat.ne_of_lt (Heap.lt_size q)
    have ok' : HOk X.prog X.w H h'' := fun b v q => (I.hok b v q).stay (fun c z hc' r => by
      have hct : ∃ z, H c = some z := by
        rcases hc' with rfl | hc'
        · exact ⟨_, q⟩
        · exact ⟨_, hc'⟩
      obtain ⟨z', hz'⟩ := hct
      exact kept c z (by rintro rfl; rw [f0] at hz'; cases hz') r) (fun _ r => r) fun _ _ r => r
    have hT'' : h''.get? s.heap.objs.size = some { cls := .type "tuple", data := .seq #[.ref q.2.1, q.2.2] } := by
      rw [ent] at hT
      exact (hs.2 _ (Ne.symm (nT _ _ h1))).trans hT
    have okT : HOk X.prog X.w (upd H s.heap.objs.size (.tup [.ref q.2.1, v])) h'' := fun b u z => by
      by_cases hbb : b = s.heap.objs.size
      · subst hbb
        rw [upd_same] at z
        cases z
        exact ⟨by show 2 ≤ sizeLine; decide, [.ref q.2.1, q.2.2], .cons rfl (.cons rv .nil), _, hT'', rfl, _, rfl⟩
      · rw [upd_ne hbb] at z
        exact (ok' b u z).stay (fun _ _ _ r => r) (fun c r => by rw [upd_ne (ne_of_none r fr)]; exact r) fun c ys r => by rw [upd_ne (ne_of_none r fr)]; exact r
    have I1 : Inv X pins σ (upd H s.heap.objs.size (.tup [.ref q.2.1, v])) { s with heap := h'', gens := s.gens, drawn := s.drawn, toks := s.toks } := by
      refine I.step (ch := [it]) (fun b hb => ?_) (fun b ob _ _ hb q _ => kept b ob (fun z => hb (by simp [z])) q) (fun b ob _ _ hb q _ => ⟨ob.slots, kept b ob (fun z => hb (by simp [z])) q⟩)
        (fun b ob _ q n => by rw [upd_ne (nT b ob q)]; exact n) (fun b ob hb q => ⟨ob, kept b ob (fun z => hb (by simp [z])) q⟩)
        (fun b ys q => by rw [upd_ne (ne_of_none q fr)]; exact q) (fun b ob v q => by rw [upd_ne (ne_of_none q fr)]; exact q) (fun b ps q => ⟨#[], by rw [upd_ne (ne_of_none q fr), q]; simp⟩)
        (fun m hm => hm.at' fun ob q => kept _ ob (Ne.symm f1) q) okT I.bare
      obtain rfl : b = it := by simpa using hb
      exact ⟨f3, f1, f4, f5⟩
    refine ⟨.ref s.heap.objs.size, _, I1, rfl, ⟨_, q.2.1, k, v, fr, hkv, hb, rfl, rfl⟩, ⟨_, _, he⟩, fun b hb => ?_⟩
    obtain rfl : b = it := by simpa using hb
    rw [upd_ne (nT _ _ h1)]; exact f0
  done := by
    intro X hP hw hK hc i pins s σ H E I hf st hg
    subst hP hw hK
    obtain ⟨hd, hi⟩ := hg
    obtain ⟨gO, _⟩ := frz_dict I.hok hd
    obtain ⟨ok, ov, h1⟩ := st
    obtain ⟨f0, f1, f2, f3, f4, f5⟩ := hf it (by simp)
    exact items_stop (I.ok.hd hc) h1 gO gD (by omega) fun h' eb => ⟨rfl, I.turned (t' := s.toks) (fun b o hb q => eb b o hb q) f0 f1 f3 f4 f5⟩
  self := fun _ _ _ _ _ st h => let ⟨_, _, h1⟩ := st; PySem.W.kcp_self h1 h
section
variable {X : Cx}
def iItems (to : TE) : TI := fun σ H R => to σ H fun x H1 => ∃ d kvs, x = .ref d ∧ H1 d = some (.dT kvs) ∧ ∀ od, R (Iti d od kvs) (upd H1 d (.frz od (.dT kvs)))
theorem pi_items {o : Expr} {to : TE} {els : List Expr} {kk : Nat} {tp apos cpos : Pos} (ho : PE X o to) (hbase : attributeBase o "items" X.env (eval o X.env) = eval o X.env := by rfl) (hline : (apos.endLine == cpos.line) = true := by rfl) :
    PI X (.Tuple els kk tp) (.Call (.Attribute o "items" apos) [] [] cpos) (iItems to) := by
  intro pins s σ H R I h
  refine wpAny_Call_method0_late hbase hline (thn (ho pins s σ H _ I h) fun v s1 ⟨x, H1, I1, r1, d, kvs, ex, hd, q⟩ => ?_)
  subst ex
  obtain rfl : v = Value.ref d := r1
  obtain ⟨hz, hs, xs, r, o', es, ep, gO, gE, gD, g4, g5⟩ := (show ObjOk X.prog X.w H1 s1.heap d (.dT kvs) from I1.hok d _ hd)
  have hsz : es.size = kvs.length := by
    have := congrArg List.length g4
    rw [List.length_map, ← Paired.length r] at this
    simpa using this
  refine ⟨"dict", "dict.items", PySem.F.plainAttrs_dict, PySem.F.slot_dict_items, PySem.F.type_dict_items, ⟨o', gO, gE.1⟩, fun a e => by cases e; exact ⟨o', gO, gE.2.1⟩, Calls.callWith_builtin rfl (PySem.evalArgs_none (items_view gO gE hs ?_))⟩
  have up1 : ∀ b ob, s1.heap.get? b = some ob → (s1.heap.push { cls := .type "dict_items", data := .fields #[.ref d] }).get? b = some ob := fun b ob e => Heap.get?_push_of_some _ e
  refine items_iter ⟨_, Heap.get?_push_size _ rfl, rfl, rfl⟩ (up1 _ _ gO) gD ?_
  have hz1 : (s1.heap.push { cls := .type "dict_items", data := .fields #[.ref d] }).objs.size = s1.heap.objs.size + 1 := Heap.size_push ..
  rw [hz1]
  have I2 : Inv X pins σ H1 { s1 with heap := (s1.heap.push { cls := .type "dict_items", data := .fields #[.ref d] }).push { cls := .type "dict_itemiterator", data := .fields #[.none, .bool false, .ref d, .int 0 0, .int es.size 0, .int ep 0, .none, .none] } } :=
    I1.kept (t' := s1.toks) fun b ob e => Heap.get?_push_of_some _ (up1 b ob e)
  have gO2 : ((s1.heap.push { cls := .type "dict_items", data := .fields #[.ref d] }).push { cls := .type "dict_itemiterator", data := .fields #[.none, .bool false, .ref d, .int 0 0, .int es.size 0, .int ep 0, .none, .none] }).get? d = some o' := Heap.get?_push_of_some _ (up1 _ _ gO)
  have hne : d ≠ s1.heap.objs.size + 1 := Nat.ne_of_lt (Nat.lt_succ_of_lt (Heap.lt_size gO))
  have okd := (show ObjOk X.prog X.w H1 _ d (.dT kvs) from I2.hok d _ hd)
  have newd : ObjOk X.prog X.w (upd H1 d (.frz o' (.dT kvs))) ((s1.heap.push { cls := .type "dict_items", data := .fields #[.ref d] }).push { cls := .type "dict_itemiterator", data := .fields #[.none, .bool false, .ref d, .int 0 0, .int es.size 0, .int ep 0, .none, .none] }) d (.frz o' (.dT kvs)) := by
    obtain ⟨z1, z2, z3, z4, z5⟩ := okd
    refine ⟨gO2, z1, z2, z3, L2.Paired.mapP z4 fun p q ⟨w1, w2, w3⟩ => ⟨w1, ?_, w3⟩, z5⟩
    rw [upd_ne (ne_of w2 hd (fun z => nomatch z))]
    exact w2
  have I3 := d_write (t' := s1.toks) I2 (a := d) (ob := .frz o' (.dT kvs)) (by rw [hd]; exact True.intro) (Heap.SameBut.refl _ _) ⟨o', gO2⟩ newd
  have hit := Heap.get?_push_size (s1.heap.push { cls := .type "dict_items", data := .fields #[.ref d] }) (o := { cls := .type "dict_itemiterator", data := .fields #[.none, .bool false, .ref d, .int 0 0, .int es.size 0, .int ep 0, .none, .none] }) rfl
  rw [hz1] at hit
  refine ⟨s1.heap.objs.size + 1, [s1.heap.objs.size + 1], _, _, upd H1 d (.frz o' (.dT kvs)), rfl, I3, turn_items gD hsz hne, ⟨_, _, hit⟩, fun b hb => ?_, q o'⟩
  obtain rfl : b = s1.heap.objs.size + 1 := by simpa using hb
  have fp := I1.fpOk (Nat.le_succ s1.heap.objs.size) (I1.hok.fresh (Nat.le_succ _))
  exact ⟨by rw [upd_ne (Ne.symm hne)]; exact fp.1, fp.2⟩
/-- over the items of a dict -/
theorem for_items {d : Addr} {od : Obj} {kvs : List (List Key × V)} {g : TG} {tb : TS} {D : Ends} {σ : St} {H : Hp} (Pv : Nat → St → Hp → Prop) (h0 : Pv 0 σ H) (hl : ∀ i σ H, i ≤ kvs.length → Pv i σ H → H d = some (.frz od (.dT kvs)))
    (hs : ∀ i k v σ H T b, kvs[i]? = some (k, v) → H T = none → H b = some (.tup (k.map kV)) → Pv i σ H → g (.ref T) σ (upd H T (.tup [.ref b, v])) fun σ2 H2 => tb { D with nx := Pv (i + 1), ct := Pv (i + 1), bk := D.nx } σ2 H2) (hd : ∀ σ H, Pv kvs.length σ H → D.nx σ H) :
    ∃ W : Nat → Nat → St → Hp → Prop, (∃ m, W 0 m σ H) ∧ ∀ i m σ H, W i m σ H →
      ((Iti d od kvs).stop i H ∧ D.nx σ H) ∨ ((Iti d od kvs).go i H ∧ ∃ N : St → Hp → Prop, (∀ σ' H', N σ' H' → ∃ m', m' < m ∧ W (i + 1) m' σ' H') ∧ ∀ x H', (Iti d od kvs).yld i H x H' → g x σ H' fun σ2 H2 => tb { D with nx := N, ct := N, bk := D.nx } σ2 H2) := by
  refine ⟨fun i m σ H => m = kvs.length - i ∧ i ≤ kvs.length ∧ Pv i σ H, ⟨kvs.length, rfl, Nat.zero_le _, h0⟩, ?_⟩
  rintro i m σ H ⟨rfl, hi, p⟩
  have q := hl i σ H hi p
  rcases Nat.lt_or_ge i kvs.length with hlt | hge
  · refine .inr ⟨⟨q, hlt⟩, Pv (i + 1), fun σ' H' p' => ⟨kvs.length - (i + 1), by omega, rfl, hlt, p'⟩, fun x H' ⟨T, b, k, v, fT, e0, eb, e1, e2⟩ => ?_⟩
    subst e1 e2
    exact hs i k v σ H T b e0 fT eb p
  · obtain rfl : i = kvs.length := by omega
    exact .inl ⟨⟨q, Nat.le_refl _⟩, hd σ H p⟩
end
end L2
namespace L2
open PySem PySem.Spec PyProof.Rows
section
variable {X : Cx}
theorem one_store {M : Model} {A : Around} {E : Value → Shared → Prop} {s : Shared} {d : Addr} {k v : Value} {Q : Shared → Prop} (h : wpAny M A (dictSet d k v) (fun _ s' => Q s') E s) : wpAny M A (storeAll d [(k, v)]) (fun _ s' => Q s') E s := by
  unfold storeAll
  rw [List.forIn_cons]
  refine wpAny_bind (wpAny_bind (wpAny_mono h (fun _ s' q => wpAny_pure ?_) fun _ _ z => z))
  show wpAny M A (forIn [] _ _) _ E s'
  rw [List.forIn_nil]
  exact wpAny_pure q
/-- {k: v}, k a tuple; the new dict stands empty while they are made -/
def tDisp1 (tk tv : TE) : TE := fun σ H Q => ∀ p, H p = none → tk σ (upd H p (.dT [])) fun x H1 => tv σ H1 fun y H2 => H2 p = some (.dT []) ∧ ∃ b ks, x = .ref b ∧ H2 b = some (.tup (ks.map kV)) ∧ Q (.ref p) (upd H2 p (.dT [(ks, y)]))
theorem pe_disp1 {k v : Expr} {tk tv : TE} {pos : Pos} (hu : X.A.units + 1 < cLine) (hk : PE X k tk) (hv : PE X v tv) : PE X (.Dict [some k] [v] pos) (tDisp1 tk tv) := by
  intro pins s σ H Q I q
  have hn := I.hok.fresh (Nat.le_refl s.heap.objs.size)
  have I1 := I.laid (a := s.heap.objs.size) (o := .dT []) (h' := s.heap.push { cls := .type "dict", data := .dict #[] }) (t' := s.toks) (fun _ _ q => Heap.get?_push_of_some _ q) (Nat.le_refl _) (dt_empty s.heap I.big)
  have hpp : PPs X pos [some k] [v] [(tk, tv)] := pps_cons hk hv pps_nil
  refine wpAny_Dict_any rfl rfl (by simp) (by show 1 ≤ 15; decide) (thn (hpp pins _ σ _ (fun ps H2 => match ps with
    | [(x, y)] => H2 s.heap.objs.size = some (.dT []) ∧ ∃ b ks, x = .ref b ∧ H2 b = some (.tup (ks.map kV)) ∧ Q (.ref s.heap.objs.size) (upd H2 s.heap.objs.size (.dT [(ks, y)]))
    | _ => False) I1 (q _ hn)) fun ws s2 ⟨ps, H2, I2, rel, q2⟩ => ?_)
  cases rel with
  | nil => exact q2.elim
  | @cons p q ps' ws' r0 rr =>
    cases rr with
    | cons _ _ => exact q2.elim
    | nil =>
      obtain ⟨x, y⟩ := p
      obtain ⟨u1, u2⟩ := q
      obtain ⟨r1, r2⟩ := r0
      obtain ⟨e, b, ks, ex, eb, q3⟩ := q2
      dsimp only at ex eb r1 r2 q3
      subst ex
      have r1' : u1 = Value.ref b := r1
      subst r1'
      obtain ⟨z, hd, xs, r0, dd⟩ := dt_of I2.hok e
      cases r0
      have key := key_of I2.hok eb
      have step : wpAny (model X.prog X.w) X.A (dictSet s.heap.objs.size (.ref b) u2) (fun _ s₂ => EP X pins σ Q (.ref s.heap.objs.size) s₂) X.xe s2 := by
        refine wpAny_dictSet_heap (knd := tupleKind (mixKind X.prog X.w)) (hsz := Nat.zero_le _) (Nat.lt_of_succ_lt hu) key dd fun h' dd' hs => ?_
        obtain ⟨o1, es, ep, hq, h2, h3, h4, _, h5⟩ := dd'
        refine ⟨.ref s.heap.objs.size, _, d_write (ob := .dT [(ks, y)]) I2 (by rw [e]; exact True.intro) hs ⟨o1, hq⟩ ⟨by show 1 ≤ sizeLine; decide, hd, _, .cons ⟨rfl, ?_, r2⟩ .nil, o1, es, ep, hq, h2, h3, h4, h5⟩, rfl, q3⟩
        rw [upd_ne (ne_of eb e (fun z => nomatch z))]
        exact eb
      exact one_store step
end
end L2
namespace Pl
theorem snoc_ind {α : Type} {P : List α → Prop} (h0 : P []) (h1 : ∀ l x, P l → P (l ++ [x])) (l : List α) : P l := by
  have : P l.reverse.reverse := by
    generalize l.reverse = r
    induction r with
    | nil => simpa using h0
    | cons a r ih => simpa using h1 _ a ih
  simpa using this
/-- a step of a walk -/
inductive Stp where
  | lone | opn | num (k : Nat)
  deriving DecidableEq
/-- how far, the open ones, the pairs by their ends -/
structure Ws where
  p : Nat
  o : List Nat
  q : List (Nat × Nat)
def stepW (s : Ws) : Stp → Ws
  | .lone => ⟨s.p + 1, s.o, s.q⟩
  | .opn => ⟨s.p + 1, s.o ++ [s.p], s.q⟩
  | .num k => ⟨s.p + 1, s.o.filter (fun x => x != s.o.getD k 0), s.q ++ [(s.o.getD k 0, s.p)]⟩
def runW (ws : List Stp) : Ws := ws.foldl stepW ⟨0, [], []⟩
theorem runW_snoc (ws : List Stp) (x : Stp) : runW (ws ++ [x]) = stepW (runW ws) x := by simp [runW, List.foldl_append]
theorem runW_p (ws : List Stp) : (runW ws).p = ws.length := by
  refine snoc_ind (P := fun ws => (runW ws).p = ws.length) rfl (fun l x ih => ?_) ws
  rw [runW_snoc]
  cases x <;> simp [stepW, ih]
def hgt (ws : List Stp) : Nat := (runW ws).o.length
def Val (ws : List Stp) : Prop := ∀ i k, ws[i]? = some (.num k) → k < hgt (ws.take i)
theorem Val.nil : Val [] := fun i k h => by simp at h
theorem Val.snoc {ws : List Stp} {x : Stp} (h : Val ws) (hx : ∀ k, x = .num k → k < hgt ws) : Val (ws ++ [x]) := by
  intro i k e
  by_cases hi : i < ws.length
  · rw [List.getElem?_append_left hi] at e
    rw [List.take_append_of_le_length (Nat.le_of_lt hi)]
    exact h i k e
  · have hl := (List.getElem?_eq_some_iff.mp e).1
    rw [List.length_append, List.length_singleton] at hl
    have hi2 : i = ws.length := by omega
    subst hi2
    rw [List.getElem?_append_right (Nat.le_refl _), Nat.sub_self] at e
    have e' : x = .num k := by simpa using e
    rw [List.take_left']
    · exact hx k e'
    · rfl
theorem Val.of_snoc {ws : List Stp} {x : Stp} (h : Val (ws ++ [x])) : Val ws ∧ ∀ k, x = .num k → k < hgt ws := by
  constructor
  · intro i k e
    have hi := (List.getElem?_eq_some_iff.mp e).1
    have := h i k (by rw [List.getElem?_append_left hi]; exact e)
    rwa [List.take_append_of_le_length (Nat.le_of_lt hi)] at this
  · intro k e
    have := h ws.length k (by simp [e])
    rwa [List.take_left' rfl] at this
def pts (s : Ws) : List Nat := s.q.flatMap (fun x => [x.1, x.2]) ++ s.o
structure WInv (s : Ws) : Prop where
  up : s.o.Pairwise (· < ·)
  nd : (pts s).Nodup
  lt : ∀ x ∈ pts s, x < s.p
  pr : ∀ x ∈ s.q, x.1 < x.2
theorem filter_ne {o : List Nat} (nd : o.Nodup) {k : Nat} (hk : k < o.length) : o.filter (fun x => x != o.getD k 0) = o.take k ++ o.drop (k + 1) := by
  have e : o = o.take k ++ o[k] :: o.drop (k + 1) := by simp
  have eg : o.getD k 0 = o[k] := by simp [hk]
  rw [eg]
  have nd' : (o.take k ++ o[k] :: o.drop (k + 1)).Nodup := by rw [← e]; exact nd
  rw [List.nodup_append] at nd'
  obtain ⟨_, n2, n3⟩ := nd'
  rw [List.nodup_cons] at n2
  conv => lhs; rw [show List.filter (fun x => x != o[k]) o = List.filter (fun x => x != o[k]) (o.take k ++ o[k] :: o.drop (k + 1)) from by rw [← e]]
  rw [List.filter_append, List.filter_cons_of_neg (by simp), List.filter_eq_self.mpr, List.filter_eq_self.mpr]
  · intro a ha
    have : a ≠ o[k] := fun h => n2.1 (h ▸ ha)
    simpa using this
  · intro a ha
    have : a ≠ o[k] := n3 a ha _ List.mem_cons_self
    simpa using this
theorem WInv.ndo {s : Ws} (h : WInv s) : s.o.Nodup := (List.nodup_append.mp h.nd).2.1
theorem perm_num {s : Ws} (h : s.o.Nodup) {k : Nat} (hk : k < s.o.length) :
    (pts (stepW s (.num k))).Perm (s.p :: pts s) := by
  have eg : s.o.getD k 0 = s.o[k] := by simp [hk]
  have e : s.o = s.o.take k ++ s.o[k] :: s.o.drop (k + 1) := by simp
  show (List.flatMap (fun x : Nat × Nat => [x.1, x.2]) (s.q ++ [(s.o.getD k 0, s.p)]) ++ s.o.filter (fun x => x != s.o.getD k 0)).Perm _
  rw [filter_ne h hk, eg, List.flatMap_append]
  show ((List.flatMap (fun x : Nat × Nat => [x.1, x.2]) s.q ++ [s.o[k], s.p]) ++ (s.o.take k ++ s.o.drop (k + 1))).Perm (s.p :: (List.flatMap (fun x : Nat × Nat => [x.1, x.2]) s.q ++ s.o))
  generalize List.flatMap (fun x : Nat × Nat => [x.1, x.2]) s.q = F
  have h2 : (s.o.take k ++ s.o[k] :: s.o.drop (k + 1)).Perm (s.o[k] :: (s.o.take k ++ s.o.drop (k + 1))) := List.perm_middle
  rw [← e] at h2
  have h3 : (s.p :: (F ++ s.o)).Perm (s.p :: (F ++ s.o[k] :: (s.o.take k ++ s.o.drop (k + 1)))) := (List.Perm.append_left F h2).cons _
  refine List.Perm.trans ?_ h3.symm
  generalize s.o.take k ++ s.o.drop (k + 1) = R
  generalize s.o[k] = z
  generalize s.p = p
  have h4 : ((F ++ [z, p]) ++ R).Perm (F ++ (p :: z :: R)) := by
    rw [List.append_assoc]
    exact List.Perm.append_left F (List.Perm.swap p z R)
  exact h4.trans List.perm_middle
theorem perm_opn {s : Ws} : (pts (stepW s .opn)).Perm (s.p :: pts s) := by
  show (List.flatMap (fun x : Nat × Nat => [x.1, x.2]) s.q ++ (s.o ++ [s.p])).Perm (s.p :: (List.flatMap (fun x : Nat × Nat => [x.1, x.2]) s.q ++ s.o))
  rw [← List.append_assoc]
  exact List.perm_append_singleton _ _
theorem WInv.step {s : Ws} (h : WInv s) {x : Stp} (hx : ∀ k, x = .num k → k < s.o.length) : WInv (stepW s x) := by
  have np : s.p ∉ pts s := fun z => Nat.lt_irrefl _ (h.lt _ z)
  cases x with
  | lone => exact ⟨h.up, h.nd, fun x hx => Nat.lt_succ_of_lt (h.lt x hx), h.pr⟩
  | opn =>
    refine ⟨?_, ?_, ?_, h.pr⟩
    · show (s.o ++ [s.p]).Pairwise (· < ·)
      rw [List.pairwise_append]
      refine ⟨h.up, List.pairwise_singleton _ _, fun a ha b hb => ?_⟩
      rw [List.mem_singleton.mp hb]
      exact h.lt a (List.mem_append_right _ ha)
    · exact (perm_opn.nodup_iff).mpr (List.nodup_cons.mpr ⟨np, h.nd⟩)
    · intro x hx
      rcases List.mem_cons.mp (perm_opn.mem_iff.mp hx) with e | e
      · subst e; exact Nat.lt_succ_self _
      · exact Nat.lt_succ_of_lt (h.lt x e)
  | num k =>
    have hk := hx k rfl
    have P := perm_num h.ndo hk
    refine ⟨h.up.filter _, (P.nodup_iff).mpr (List.nodup_cons.mpr ⟨np, h.nd⟩), fun x hx => ?_, fun x hx => ?_⟩
    · rcases List.mem_cons.mp (P.mem_iff.mp hx) with e | e
      · subst e; exact Nat.lt_succ_self _
      · exact Nat.lt_succ_of_lt (h.lt x e)
    · rcases List.mem_append.mp hx with e | e
      · exact h.pr x e
      · rw [List.mem_singleton.mp e]
        refine h.lt _ (List.mem_append_right _ ?_)
        have eg : s.o.getD k 0 = s.o[k] := by simp [hk]
        show s.o.getD k 0 ∈ s.o
        rw [eg]
        exact List.getElem_mem hk
theorem WInv.start : WInv ⟨0, [], []⟩ := ⟨List.Pairwise.nil, by show ([] : List Nat).Nodup; exact List.nodup_nil, fun x hx => by simp [pts] at hx, fun x hx => by simp at hx⟩
theorem winv {ws : List Stp} : Val ws → WInv (runW ws) := by
  refine snoc_ind (P := fun ws => Val ws → WInv (runW ws)) (fun _ => WInv.start) (fun l x ih h => ?_) ws
  obtain ⟨h1, h2⟩ := h.of_snoc
  rw [runW_snoc]
  exact (ih h1).step h2
theorem hgt_lone (ws : List Stp) : hgt (ws ++ [.lone]) = hgt ws := by unfold hgt; rw [runW_snoc]; rfl
theorem hgt_opn (ws : List Stp) : hgt (ws ++ [.opn]) = hgt ws + 1 := by unfold hgt; rw [runW_snoc]; simp [stepW]
theorem hgt_num {ws : List Stp} (h : Val ws) {k : Nat} (hk : k < hgt ws) : hgt (ws ++ [.num k]) + 1 = hgt ws := by
  unfold hgt at *
  rw [runW_snoc]
  show ((runW ws).o.filter _).length + 1 = _
  rw [filter_ne (winv h).ndo hk, List.length_append, List.length_take, List.length_drop]
  omega
theorem hgt_le (ws : List Stp) : hgt ws ≤ ws.length := by
  refine snoc_ind (P := fun ws => hgt ws ≤ ws.length) (Nat.le_refl _) (fun l x ih => ?_) ws
  unfold hgt at *
  rw [runW_snoc, List.length_append]
  cases x with
  | lone => exact Nat.le_succ_of_le ih
  | opn => simp only [stepW, List.length_append, List.length_cons, List.length_nil]; omega
  | num k => exact Nat.le_succ_of_le (Nat.le_trans (List.length_filter_le _ _) ih)
theorem q_le (ws : List Stp) : (runW ws).q.length ≤ ws.length := by
  refine snoc_ind (P := fun ws => (runW ws).q.length ≤ ws.length) (Nat.le_refl _) (fun l x ih => ?_) ws
  rw [runW_snoc, List.length_append]
  cases x with
  | lone => exact Nat.le_succ_of_le ih
  | opn => exact Nat.le_succ_of_le ih
  | num k => simp only [stepW, List.length_append, List.length_cons, List.length_nil]; omega
/-- a whole walk -/
def Walk (ws : List Stp) : Prop := Val ws ∧ hgt ws = 0
theorem Val.take {ws : List Stp} (h : Val ws) (i : Nat) : Val (ws.take i) := fun j k e => by
  have hj : j < i := by
    have := (List.getElem?_eq_some_iff.mp e).1
    rw [List.length_take] at this
    omega
  rw [List.getElem?_take, if_pos hj] at e
  have := h j k e
  rwa [List.take_take, Nat.min_eq_left (Nat.le_of_lt hj)]
/-- a pairing's pairs: each rising, all points apart and below n -/
structure Prs (n : Nat) (ps : List (Nat × Nat)) : Prop where
  pr : ∀ x ∈ ps, x.1 < x.2 ∧ x.2 < n
  nd : (ps.flatMap (fun x => [x.1, x.2])).Nodup
theorem Walk.prs {ws : List Stp} (h : Walk ws) : Prs ws.length (runW ws).q := by
  have W := winv h.1
  have e : (runW ws).o = [] := List.length_eq_zero_iff.mp h.2
  refine ⟨fun x hx => ⟨W.pr x hx, ?_⟩, ?_⟩
  · rw [← runW_p ws]
    refine W.lt _ (List.mem_append_left _ (List.mem_flatMap.mpr ⟨x, hx, by simp⟩))
  · have := W.nd
    unfold pts at this
    rwa [e, List.append_nil] at this
theorem Prs.perm {n : Nat} {ps qs : List (Nat × Nat)} (h : Prs n ps) (p : qs.Perm ps) : Prs n qs :=
  ⟨fun x hx => h.pr x (p.mem_iff.mp hx), (p.flatMap_right _).nodup_iff.mpr h.nd⟩
theorem Prs.fst {n : Nat} {ps : List (Nat × Nat)} (h : Prs n ps) : ps.Pairwise (fun a b => a.1 ≠ b.1 ∧ a.1 ≠ b.2 ∧ a.2 ≠ b.1 ∧ a.2 ≠ b.2) := by
  have : ∀ ps : List (Nat × Nat), (ps.flatMap (fun x => [x.1, x.2])).Nodup → ps.Pairwise (fun a b => a.1 ≠ b.1 ∧ a.1 ≠ b.2 ∧ a.2 ≠ b.1 ∧ a.2 ≠ b.2) := by
    intro ps
    induction ps with
    | nil => intro _; exact List.Pairwise.nil
    | cons a r ih =>
      intro h
      rw [List.flatMap_cons, List.nodup_append] at h
      obtain ⟨_, h2, h3⟩ := h
      refine List.Pairwise.cons (fun b hb => ?_) (ih h2)
      have m1 : b.1 ∈ r.flatMap (fun x => [x.1, x.2]) := List.mem_flatMap.mpr ⟨b, hb, by simp⟩
      have m2 : b.2 ∈ r.flatMap (fun x => [x.1, x.2]) := List.mem_flatMap.mpr ⟨b, hb, by simp⟩
      exact ⟨h3 _ (by simp) _ m1, h3 _ (by simp) _ m2, h3 _ (by simp) _ m1, h3 _ (by simp) _ m2⟩
  exact this ps h.nd
/-- the order of tuples of two numbers -/
def lexb (a b : Nat × Nat) : Bool := decide (a.1 < b.1) || (decide (a.1 = b.1) && decide (a.2 < b.2))
theorem sorted_fst {n : Nat} {ps : List (Nat × Nat)} (h : Prs n ps) (s : ps.Pairwise (fun a b => lexb b a = false)) : ps.Pairwise (fun a b => a.1 < b.1) := by
  refine (h.fst.and s).imp ?_
  intro a b ⟨⟨h1, _⟩, h2⟩
  have h2' : ¬ b.1 < a.1 := fun z => by simp [lexb, z] at h2
  omega
/-- two sorted ones with the same pairs are one -/
theorem lexb_antisymm {a b : Nat × Nat} (h1 : lexb a b = false) (h2 : lexb b a = false) : a = b := by
  obtain ⟨a1, a2⟩ := a
  obtain ⟨b1, b2⟩ := b
  simp only [lexb, Bool.or_eq_false_iff, Bool.and_eq_false_iff, decide_eq_false_iff_not] at h1 h2
  have e1 : a1 = b1 := by omega
  subst e1
  have e2 : a2 = b2 := by
    rcases h1.2 with h | h
    · exact absurd rfl h
    · rcases h2.2 with g | g
      · exact absurd rfl g
      · omega
  subst e2
  rfl
theorem sorted_unique {ps qs : List (Nat × Nat)} (p : ps.Perm qs) (h1 : ps.Pairwise (fun a b => lexb b a = false)) (h2 : qs.Pairwise (fun a b => lexb b a = false)) : ps = qs :=
  p.eq_of_pairwise (fun _ _ _ _ x y => lexb_antisymm y x) h1 h2
/-! ### twos -/
def twos {α : Type} : List α → List (α × α)
  | [] => []
  | a :: r => r.map (fun b => (a, b)) ++ twos r
theorem mem_twos {α : Type} {R : α → α → Prop} : ∀ {l : List α}, l.Pairwise R → ∀ t ∈ twos l, R t.1 t.2
  | [], _, t, h => by simp [twos] at h
  | a :: r, .cons h1 h2, t, h => by
    rcases List.mem_append.mp h with h | h
    · obtain ⟨b, hb, rfl⟩ := List.mem_map.mp h
      exact h1 b hb
    · exact mem_twos h2 t h
/-- counted by all and all -/
def cnt {α : Type} (p : α → α → Bool) (l : List α) (m : List α) : Nat := (l.map fun a => (m.filter (p a)).length).sum
theorem cnt_twos {α : Type} (p : α → α → Bool) (h0 : ∀ a, p a a = false) : ∀ (l : List α), l.Pairwise (fun a b => p b a = false) → cnt p l l = ((twos l).filter fun t => p t.1 t.2).length
  | [], _ => rfl
  | a :: r, .cons h1 h2 => by
    have ih := cnt_twos p h0 r h2
    have e1 : ∀ b ∈ r, ((a :: r).filter (p b)).length = (r.filter (p b)).length := fun b hb => by
      rw [List.filter_cons_of_neg]
      rw [h1 b hb]; simp
    have e2 : ((a :: r).filter (p a)).length = (r.filter (p a)).length := by
      rw [List.filter_cons_of_neg]
      rw [h0 a]; simp
    have e3 : (r.map fun b => ((a :: r).filter (p b)).length) = r.map fun b => (r.filter (p b)).length := List.map_congr_left e1
    show ((a :: r).map fun b => ((a :: r).filter (p b)).length).sum = _
    rw [List.map_cons, List.sum_cons, e2, e3]
    show (r.filter (p a)).length + cnt p r r = ((r.map (fun b => (a, b)) ++ twos r).filter fun t => p t.1 t.2).length
    rw [ih, List.filter_append, List.length_append, List.filter_map, List.length_map]
    rfl
end Pl
namespace Pl
def crossB (a b : Nat × Nat) : Bool := decide (a.1 < b.1) && (decide (b.1 < a.2) && decide (a.2 < b.2))
def nestB (a b : Nat × Nat) : Bool := decide (a.1 < b.1) && decide (b.2 < a.2)
def crossP (a b : Nat × Nat) : Bool := decide (b.1 < a.2) && decide (a.2 < b.2)
def nestP (a b : Nat × Nat) : Bool := decide (b.2 < a.2)
theorem cross_count {ps : List (Nat × Nat)} (h : ps.Pairwise (fun a b => a.1 < b.1)) : cnt crossB ps ps = ((twos ps).filter fun t => crossP t.1 t.2).length := by
  rw [cnt_twos crossB (fun a => by simp [crossB]) ps (h.imp fun {a b} hab => by simp [crossB]; omega)]
  congr 1
  refine List.filter_congr fun t ht => ?_
  have := mem_twos h t ht
  simp [crossB, crossP, this]
theorem nest_count {ps : List (Nat × Nat)} (h : ps.Pairwise (fun a b => a.1 < b.1)) : cnt nestB ps ps = ((twos ps).filter fun t => nestP t.1 t.2).length := by
  rw [cnt_twos nestB (fun a => by simp [nestB]) ps (h.imp fun {a b} hab => by simp [nestB]; omega)]
  congr 1
  refine List.filter_congr fun t ht => ?_
  have := mem_twos h t ht
  simp [nestB, nestP, this]
theorem drop_twos {α : Type} {ps : List α} {i : Nat} {a : α} (h : ps[i]? = some a) : twos (ps.drop i) = (ps.drop (i + 1)).map (fun b => (a, b)) ++ twos (ps.drop (i + 1)) := by
  obtain ⟨hi, e⟩ := List.getElem?_eq_some_iff.mp h
  rw [List.drop_eq_getElem_cons hi, e]
  rfl
theorem cnt_succ {α : Type} (p : α → α → Bool) {l m : List α} {i : Nat} {a : α} (h : l[i]? = some a) : cnt p (l.take (i + 1)) m = cnt p (l.take i) m + (m.filter (p a)).length := by
  unfold cnt
  rw [List.take_add_one, h]
  simp
theorem filter_succ {α : Type} (p : α → Bool) {l : List α} {i : Nat} {a : α} (h : l[i]? = some a) : ((l.take (i + 1)).filter p).length = ((l.take i).filter p).length + (if p a then 1 else 0) := by
  rw [List.take_add_one, h, List.filter_append, List.length_append]
  cases hp : p a <;> simp [hp]
end Pl
namespace Pl
/-! ### the open ones at a point are the pairs around it -/
def around (i : Nat) (y : Nat × Nat) : Bool := decide (y.1 < i) && decide (i ≤ y.2)
theorem open_at {ws : List Stp} : Val ws → ∀ i, i ≤ ws.length → ((runW (ws.take i)).o).Perm ((((runW ws).q).filter (around i)).map (·.1) ++ ((runW ws).o).filter (fun s => decide (s < i))) := by
  induction ws using snoc_ind with
  | h0 => intro _ i hi; simp at hi; subst hi; simp [runW]
  | h1 l x ih =>
    intro hv i hi
    obtain ⟨h1, h2⟩ := hv.of_snoc
    have W := winv h1
    have hp := runW_p l
    rw [List.length_append, List.length_singleton] at hi
    by_cases c : i ≤ l.length
    · rw [List.take_append_of_le_length c, runW_snoc]
      refine (ih h1 i c).trans ?_
      cases x with
      | lone => exact List.Perm.refl _
      | opn =>
        show List.Perm _ (((runW l).q.filter (around i)).map (·.1) ++ ((runW l).o ++ [(runW l).p]).filter (fun s => decide (s < i)))
        rw [List.filter_append]
        have : [(runW l).p].filter (fun s => decide (s < i)) = [] := by rw [hp]; simp; omega
        rw [this, List.append_nil]
      | num k =>
        have hk := h2 k rfl
        show List.Perm _ (((runW l).q ++ [((runW l).o.getD k 0, (runW l).p)]).filter (around i) |>.map (·.1) |>.append (((runW l).o.filter (fun x => x != (runW l).o.getD k 0)).filter (fun s => decide (s < i))))
        show List.Perm _ ((((runW l).q ++ [((runW l).o.getD k 0, (runW l).p)]).filter (around i)).map (·.1) ++ ((runW l).o.filter (fun x => x != (runW l).o.getD k 0)).filter (fun s => decide (s < i)))
        rw [List.filter_append, List.map_append, List.append_assoc]
        refine List.Perm.append_left _ ?_
        have hk' : k < (runW l).o.length := hk
        rw [filter_ne W.ndo hk']
        have es : (runW l).o.getD k 0 = (runW l).o[k] := by simp [hk']
        have e : (runW l).o = (runW l).o.take k ++ (runW l).o[k] :: (runW l).o.drop (k + 1) := by rw [← List.drop_eq_getElem_cons hk', List.take_append_drop]
        conv => lhs; rw [e]
        rw [List.filter_append, List.filter_append, List.filter_cons]
        by_cases d : (runW l).o[k] < i
        · have : ([((runW l).o.getD k 0, (runW l).p)] : List (Nat × Nat)).filter (around i) = [((runW l).o.getD k 0, (runW l).p)] := by
            rw [hp, es]; simp [around, d, c]
          rw [this, if_pos (decide_eq_true d), List.map_cons, List.map_nil, es]
          exact List.perm_middle
        · have : ([((runW l).o.getD k 0, (runW l).p)] : List (Nat × Nat)).filter (around i) = [] := by
            rw [hp, es]; simp [around, d]
          rw [this, if_neg (by simpa using d), List.map_nil, List.nil_append]
    · have e : i = (l ++ [x]).length := by rw [List.length_append, List.length_singleton]; omega
      rw [e, List.take_length]
      have W' := winv hv
      have hp' := runW_p (l ++ [x])
      have f1 : ((runW (l ++ [x])).q).filter (around (l ++ [x]).length) = [] := by
        rw [List.filter_eq_nil_iff]
        intro y hy z
        have := W'.lt y.2 (List.mem_append_left _ (List.mem_flatMap.mpr ⟨y, hy, by simp⟩))
        rw [hp'] at this
        simp only [around, Bool.and_eq_true, decide_eq_true_eq] at z
        omega
      have f2 : ((runW (l ++ [x])).o).filter (fun s => decide (s < (l ++ [x]).length)) = (runW (l ++ [x])).o := by
        rw [List.filter_eq_self]
        intro s hs
        have := W'.lt s (List.mem_append_right _ hs)
        rw [hp'] at this
        exact decide_eq_true this
      rw [f1, f2]
      exact List.Perm.refl _
/-! ### which of a rising list lie beyond, and ahead of, its k-th -/
theorem rise_gt : ∀ {o : List Nat}, o.Pairwise (· < ·) → ∀ {k : Nat} (hk : k < o.length), (o.filter fun s => decide (o[k] < s)).length = o.length - 1 - k
  | [], _, _, hk => by simp at hk
  | a :: r, h, k, hk => by
    rw [List.pairwise_cons] at h
    cases k with
    | zero =>
      have e : (a :: r).filter (fun s => decide ((a :: r)[0] < s)) = r := by
        rw [List.getElem_cons_zero, List.filter_cons, if_neg (by simp)]
        exact List.filter_eq_self.mpr fun s hs => decide_eq_true (h.1 s hs)
      rw [e]; simp
    | succ k =>
      have hk' : k < r.length := by simpa using hk
      have := rise_gt h.2 hk'
      rw [List.getElem_cons_succ, List.filter_cons, if_neg (by have := h.1 r[k] (List.getElem_mem hk'); simp; omega), this]
      simp; omega
theorem rise_lt : ∀ {o : List Nat}, o.Pairwise (· < ·) → ∀ {k : Nat} (hk : k < o.length), (o.filter fun s => decide (s < o[k])).length = k
  | [], _, _, hk => by simp at hk
  | a :: r, h, k, hk => by
    rw [List.pairwise_cons] at h
    cases k with
    | zero =>
      have e : (a :: r).filter (fun s => decide (s < (a :: r)[0])) = [] := by
        rw [List.getElem_cons_zero, List.filter_eq_nil_iff]
        intro s hs
        rcases List.mem_cons.mp hs with rfl | hs
        · simp
        · have := h.1 s hs; simp; omega
      rw [e]; rfl
    | succ k =>
      have hk' : k < r.length := by simpa using hk
      have := rise_lt h.2 hk'
      rw [List.getElem_cons_succ, List.filter_cons, if_pos (by have := h.1 r[k] (List.getElem_mem hk'); simp; omega), List.length_cons, this]
end Pl
namespace Pl
theorem pw_or {α : Type} {R : α → α → Prop} : ∀ {l : List α}, l.Pairwise R → ∀ {x y : α}, x ∈ l → y ∈ l → x = y ∨ R x y ∨ R y x
  | [], _, _, _, h, _ => by cases h
  | a :: r, h, x, y, hx, hy => by
    rw [List.pairwise_cons] at h
    rcases List.mem_cons.mp hx with e1 | h1 <;> rcases List.mem_cons.mp hy with e2 | h2
    · exact .inl (e1.trans e2.symm)
    · rw [e1]; exact .inr (.inl (h.1 y h2))
    · rw [e2]; exact .inr (.inr (h.1 x h1))
    · exact pw_or h.2 h1 h2
/-- the pair that closes at a point -/
def shut (ws : List Stp) (i k : Nat) : Nat × Nat := ((runW (ws.take i)).o.getD k 0, i)
theorem shut_mem {ws : List Stp} : Val ws → ∀ {i k : Nat}, ws[i]? = some (.num k) → shut ws i k ∈ (runW ws).q := by
  induction ws using snoc_ind with
  | h0 => intro _ i k h; simp at h
  | h1 l x ih =>
    intro hv i k h
    obtain ⟨h1, h2⟩ := hv.of_snoc
    rw [runW_snoc]
    by_cases c : i < l.length
    · rw [List.getElem?_append_left c] at h
      have m := ih h1 h
      have e : shut (l ++ [x]) i k = shut l i k := by unfold shut; rw [List.take_append_of_le_length (Nat.le_of_lt c)]
      rw [e]
      cases x with
      | lone => exact m
      | opn => exact m
      | num j => exact List.mem_append_left _ m
    · have hi := (List.getElem?_eq_some_iff.mp h).1
      rw [List.length_append, List.length_singleton] at hi
      obtain rfl : i = l.length := by omega
      rw [List.getElem?_append_right (Nat.le_refl _), Nat.sub_self] at h
      cases h
      have e : shut (l ++ [.num k]) l.length k = ((runW l).o.getD k 0, (runW l).p) := by unfold shut; rw [List.take_left' rfl, runW_p]
      rw [e]
      exact List.mem_append_right _ (List.mem_singleton.mpr rfl)
/-- a sum over the pairs is a sum over the ends -/
def overEnds (ws : List Stp) (f : Nat → Nat → Nat) : Nat := ((List.range ws.length).map fun i => match ws[i]? with | some (.num k) => f i k | _ => 0).sum
theorem overEnds_congr {ws : List Stp} {f g : Nat → Nat → Nat} (h : ∀ i k, ws[i]? = some (.num k) → f i k = g i k) : overEnds ws f = overEnds ws g := by
  unfold overEnds
  congr 1
  apply List.map_congr_left
  intro i _
  cases e : ws[i]? with
  | none => rfl
  | some x =>
    cases x with
    | lone => rfl
    | opn => rfl
    | num k => exact h i k e
theorem overEnds_snoc (l : List Stp) (x : Stp) (f : Nat → Nat → Nat) : overEnds (l ++ [x]) f = overEnds l f + (match x with | .num k => f l.length k | _ => 0) := by
  unfold overEnds
  rw [List.length_append, List.length_singleton, List.range_succ, List.map_append, List.sum_append]
  congr 1
  · congr 1
    apply List.map_congr_left
    intro i hi
    rw [List.getElem?_append_left (List.mem_range.mp hi)]
  · rw [List.map_cons, List.map_nil, List.getElem?_append_right (Nat.le_refl _), Nat.sub_self]
    cases x <;> simp
theorem sum_pairs {ws : List Stp} (hv : Val ws) (f : Nat × Nat → Nat) : ((runW ws).q.map f).sum = overEnds ws fun i k => f (shut ws i k) := by
  revert hv
  induction ws using snoc_ind with
  | h0 => intro _; rfl
  | h1 l x ih =>
    intro hv
    obtain ⟨h1, h2⟩ := hv.of_snoc
    have e : overEnds l (fun i k => f (shut (l ++ [x]) i k)) = overEnds l fun i k => f (shut l i k) := overEnds_congr fun i k h => by
      have hi := (List.getElem?_eq_some_iff.mp h).1
      unfold shut
      rw [List.take_append_of_le_length (Nat.le_of_lt hi)]
    rw [overEnds_snoc, e, ← ih h1, runW_snoc]
    cases x with
    | lone => rfl
    | opn => rfl
    | num k =>
      show (((runW l).q ++ [((runW l).o.getD k 0, (runW l).p)]).map f).sum = _
      rw [List.map_append, List.sum_append]
      have : shut (l ++ [.num k]) l.length k = ((runW l).o.getD k 0, (runW l).p) := by unfold shut; rw [List.take_left' rfl, runW_p]
      show _ = _ + f (shut (l ++ [.num k]) l.length k)
      rw [this]
      simp
theorem cnt_swap {α : Type} (p : α → α → Bool) : ∀ (l m : List α), cnt p l m = (m.map fun b => (l.filter fun a => p a b).length).sum
  | [], m => by
    unfold cnt
    rw [List.map_nil, List.sum_nil]
    induction m with
    | nil => rfl
    | cons b m ih => rw [List.map_cons, List.sum_cons, ← ih]; rfl
  | a :: l, m => by
    have ih := cnt_swap p l m
    unfold cnt at ih ⊢
    rw [List.map_cons, List.sum_cons, ih]
    clear ih
    induction m with
    | nil => rfl
    | cons b m ih =>
      simp only [List.map_cons, List.sum_cons, List.filter_cons]
      have : (m.filter (p a)).length + (m.map fun b => (l.filter fun a => p a b).length).sum = (m.map fun b => ((a :: l).filter fun a => p a b).length).sum := ih
      simp only [List.filter_cons] at this
      cases p a b <;> simp <;> omega
theorem at_shut {ws : List Stp} (h : Walk ws) {i k : Nat} (e : ws[i]? = some (.num k)) :
    ((runW ws).q.filter (crossB (shut ws i k))).length = hgt (ws.take i) - 1 - k ∧ ((runW ws).q.filter (fun y => nestB y (shut ws i k))).length = k := by
  have hk : k < (runW (ws.take i)).o.length := h.1 i k e
  have hi : i < ws.length := (List.getElem?_eq_some_iff.mp e).1
  have W := winv (h.1.take i)
  have P := h.prs
  have hm := shut_mem h.1 e
  have h0 : (runW ws).o = [] := List.length_eq_zero_iff.mp h.2
  have perm := open_at h.1 i (Nat.le_of_lt hi)
  rw [h0, List.filter_nil, List.append_nil] at perm
  have es : (shut ws i k).1 = (runW (ws.take i)).o[k] := by unfold shut; simp [hk]
  have e2 : (shut ws i k).2 = i := rfl
  have hl := P.pr _ hm
  rw [e2] at hl
  have apart : ∀ y ∈ (runW ws).q, y = shut ws i k ∨ y.2 ≠ i := fun y hy => by
    rcases pw_or P.fst hy hm with z | z | z
    · exact .inl z
    · exact .inr z.2.2.2
    · exact .inr (Ne.symm z.2.2.2)
  constructor
  · have f1 : (runW ws).q.filter (crossB (shut ws i k)) = ((runW ws).q.filter (around i)).filter fun y => decide ((shut ws i k).1 < y.1) := by
      rw [List.filter_filter]
      apply List.filter_congr
      intro y hy
      rw [Bool.eq_iff_iff]
      simp only [crossB, around, Bool.and_eq_true, decide_eq_true_eq, e2]
      rcases apart y hy with z | z
      · subst z; constructor <;> intro z <;> omega
      · constructor <;> intro z' <;> omega
    rw [f1]
    have f2 := (perm.filter fun s => decide ((shut ws i k).1 < s)).length_eq
    rw [List.filter_map, List.length_map] at f2
    show (List.filter ((fun s => decide ((shut ws i k).1 < s)) ∘ fun (x : Nat × Nat) => x.1) _).length = _
    rw [← f2, es]
    exact rise_gt W.up hk
  · have f1 : (runW ws).q.filter (fun y => nestB y (shut ws i k)) = ((runW ws).q.filter (around i)).filter fun y => decide (y.1 < (shut ws i k).1) := by
      rw [List.filter_filter]
      apply List.filter_congr
      intro y hy
      rw [Bool.eq_iff_iff]
      simp only [nestB, around, Bool.and_eq_true, decide_eq_true_eq, e2]
      rcases apart y hy with z | z
      · subst z; constructor <;> intro z <;> omega
      · constructor <;> intro z' <;> omega
    rw [f1]
    have f2 := (perm.filter fun s => decide (s < (shut ws i k).1)).length_eq
    rw [List.filter_map, List.length_map] at f2
    show (List.filter ((fun s => decide (s < (shut ws i k).1)) ∘ fun (x : Nat × Nat) => x.1) _).length = _
    rw [← f2, es]
    exact rise_lt W.up hk
/-- crossings and nestings along the walk -/
theorem cross_walk {ws : List Stp} (h : Walk ws) : cnt crossB (runW ws).q (runW ws).q = overEnds ws fun i k => hgt (ws.take i) - 1 - k := by
  unfold cnt
  rw [sum_pairs h.1]
  exact overEnds_congr fun i k e => (at_shut h e).1
theorem nest_walk {ws : List Stp} (h : Walk ws) : cnt nestB (runW ws).q (runW ws).q = overEnds ws fun _ k => k := by
  rw [cnt_swap, sum_pairs h.1]
  exact overEnds_congr fun i k e => (at_shut h e).2
end Pl
namespace Pl
/-! ### a walk turned: at an end with h open, k becomes h - 1 - k -/
def turnS (ws : List Stp) (i : Nat) : Stp → Stp
  | .num k => .num (hgt (ws.take i) - 1 - k)
  | x => x
def turnW (ws : List Stp) : List Stp := ws.zipIdx.map fun p => turnS ws p.2 p.1
theorem turnW_get (ws : List Stp) (i : Nat) : (turnW ws)[i]? = ws[i]?.map (turnS ws i) := by
  unfold turnW
  rw [List.getElem?_map, List.getElem?_zipIdx]
  cases ws[i]? with
  | none => rfl
  | some x => simp
theorem turnW_len (ws : List Stp) : (turnW ws).length = ws.length := by unfold turnW; rw [List.length_map, List.length_zipIdx]
theorem turnW_snoc (l : List Stp) (x : Stp) : turnW (l ++ [x]) = turnW l ++ [turnS l l.length x] := by
  apply List.ext_getElem?
  intro i
  rw [turnW_get]
  rcases Nat.lt_trichotomy i l.length with c | c | c
  · rw [List.getElem?_append_left c, List.getElem?_append_left (by rw [turnW_len]; exact c), turnW_get]
    cases l[i]? with
    | none => rfl
    | some y =>
      cases y with
      | lone => rfl
      | opn => rfl
      | num k => simp only [Option.map_some, turnS]; rw [List.take_append_of_le_length (Nat.le_of_lt c)]
  · subst c
    rw [List.getElem?_append_right (Nat.le_refl _), Nat.sub_self, List.getElem?_append_right (by rw [turnW_len]; exact Nat.le_refl _), turnW_len, Nat.sub_self]
    cases x with
    | lone => rfl
    | opn => rfl
    | num k =>
      show some (turnS (l ++ [Stp.num k]) l.length (Stp.num k)) = some (turnS l l.length (Stp.num k))
      simp only [turnS]
      rw [List.take_left' rfl, List.take_length]
  · rw [List.getElem?_eq_none (by simp; omega), List.getElem?_eq_none (by rw [List.length_append, turnW_len]; simp; omega)]
    rfl
theorem turnW_ok {ws : List Stp} : Val ws → Val (turnW ws) ∧ hgt (turnW ws) = hgt ws := by
  induction ws using snoc_ind with
  | h0 => intro _; exact ⟨Val.nil, rfl⟩
  | h1 l x ih =>
    intro hv
    obtain ⟨h1, h2⟩ := hv.of_snoc
    obtain ⟨v, e⟩ := ih h1
    rw [turnW_snoc]
    cases x with
    | lone => exact ⟨v.snoc (fun k z => by cases z), by show hgt (turnW l ++ [.lone]) = _; rw [hgt_lone, hgt_lone, e]⟩
    | opn => exact ⟨v.snoc (fun k z => by cases z), by show hgt (turnW l ++ [.opn]) = _; rw [hgt_opn, hgt_opn, e]⟩
    | num k =>
      have hk := h2 k rfl
      have et : turnS l l.length (.num k) = .num (hgt l - 1 - k) := by simp only [turnS]; rw [List.take_length]
      rw [et]
      have hk' : hgt l - 1 - k < hgt (turnW l) := by rw [e]; omega
      refine ⟨v.snoc (fun j z => by cases z; exact hk'), ?_⟩
      have a := hgt_num v hk'
      have b := hgt_num h1 hk
      omega
theorem turnW_take {ws : List Stp} (i : Nat) (hi : i ≤ ws.length) : (turnW ws).take i = turnW (ws.take i) := by
  apply List.ext_getElem?
  intro j
  by_cases c : j < i
  · rw [List.getElem?_take_of_lt c, turnW_get, turnW_get, List.getElem?_take_of_lt c]
    cases ws[j]? with
    | none => rfl
    | some y =>
      cases y with
      | lone => rfl
      | opn => rfl
      | num k => simp only [Option.map_some, turnS]; rw [List.take_take, Nat.min_eq_left (Nat.le_of_lt c)]
  · rw [List.getElem?_eq_none (by rw [List.length_take]; omega), List.getElem?_eq_none (by rw [turnW_len, List.length_take]; omega)]
theorem turnW_walk {ws : List Stp} (h : Walk ws) : Walk (turnW ws) := ⟨(turnW_ok h.1).1, (turnW_ok h.1).2.trans h.2⟩
theorem turnW_twice {ws : List Stp} (h : Val ws) : turnW (turnW ws) = ws := by
  apply List.ext_getElem?
  intro i
  rw [turnW_get, turnW_get]
  cases e : ws[i]? with
  | none => rfl
  | some x =>
    cases x with
    | lone => rfl
    | opn => rfl
    | num k =>
      have hi := (List.getElem?_eq_some_iff.mp e).1
      have hk := h i k e
      simp only [Option.map_some, turnS]
      rw [turnW_take i (Nat.le_of_lt hi), (turnW_ok (h.take i)).2]
      congr 2
      omega
/-- crossings and nestings are exchanged -/
theorem turn_cross {ws : List Stp} (h : Walk ws) : cnt crossB (runW (turnW ws)).q (runW (turnW ws)).q = cnt nestB (runW ws).q (runW ws).q ∧ cnt nestB (runW (turnW ws)).q (runW (turnW ws)).q = cnt crossB (runW ws).q (runW ws).q := by
  rw [cross_walk (turnW_walk h), nest_walk (turnW_walk h), cross_walk h, nest_walk h]
  have key : ∀ f : Nat → Nat → Nat, overEnds (turnW ws) f = overEnds ws fun i k => f i (hgt (ws.take i) - 1 - k) := fun f => by
    unfold overEnds
    rw [turnW_len]
    congr 1
    apply List.map_congr_left
    intro i _
    rw [turnW_get]
    cases ws[i]? with
    | none => rfl
    | some x => cases x <;> rfl
  refine ⟨?_, ?_⟩
  · rw [key]
    refine overEnds_congr fun i k e => ?_
    have hi := (List.getElem?_eq_some_iff.mp e).1
    have hk := h.1 i k e
    rw [turnW_take i (Nat.le_of_lt hi), (turnW_ok (h.1.take i)).2]
    omega
  · rw [key]
end Pl
namespace Pl
/-! ### beginnings and ends -/
theorem starts_at {ws : List Stp} : Val ws → ∀ i, i ∈ (runW ws).q.map (·.1) ++ (runW ws).o ↔ ws[i]? = some .opn := by
  induction ws using snoc_ind with
  | h0 => intro _ i; simp [runW]
  | h1 l x ih =>
    intro hv i
    obtain ⟨h1, h2⟩ := hv.of_snoc
    have ih := ih h1 i
    have W := winv h1
    have hp := runW_p l
    have hlt : i ∈ (runW l).q.map (·.1) ++ (runW l).o → i < l.length := fun z => by
      rw [ih] at z; exact (List.getElem?_eq_some_iff.mp z).1
    have get : (l ++ [x])[i]? = some .opn ↔ (l[i]? = some .opn ∨ (i = l.length ∧ x = .opn)) := by
      rcases Nat.lt_trichotomy i l.length with c | c | c
      · rw [List.getElem?_append_left c]
        constructor
        · intro z; exact .inl z
        · rintro (z | ⟨z, _⟩)
          · exact z
          · omega
      · subst c
        rw [List.getElem?_append_right (Nat.le_refl _), Nat.sub_self]
        constructor
        · intro z; exact .inr ⟨rfl, by simpa using z⟩
        · rintro (z | ⟨_, z⟩)
          · rw [List.getElem?_eq_none (Nat.le_refl _)] at z; cases z
          · rw [z]; rfl
      · constructor
        · intro z; rw [List.getElem?_eq_none (by simp; omega)] at z; cases z
        · rintro (z | ⟨z, _⟩)
          · rw [List.getElem?_eq_none (by omega)] at z; cases z
          · omega
    rw [runW_snoc, get, ← ih]
    cases x with
    | lone =>
      constructor
      · intro z; exact .inl z
      · rintro (z | ⟨_, z⟩)
        · exact z
        · cases z
    | opn =>
      show i ∈ (runW l).q.map (·.1) ++ ((runW l).o ++ [(runW l).p]) ↔ _
      rw [← List.append_assoc, List.mem_append, List.mem_singleton, hp]
      constructor
      · rintro (z | z)
        · exact .inl z
        · exact .inr ⟨z, rfl⟩
      · rintro (z | ⟨z, _⟩)
        · exact .inl z
        · exact .inr z
    | num k =>
      have hk : k < (runW l).o.length := h2 k rfl
      show i ∈ ((runW l).q ++ [((runW l).o.getD k 0, (runW l).p)]).map (·.1) ++ (runW l).o.filter (fun x => x != (runW l).o.getD k 0) ↔ _
      rw [filter_ne W.ndo hk]
      have es : (runW l).o.getD k 0 = (runW l).o[k] := by simp [hk]
      have e : (runW l).o = (runW l).o.take k ++ (runW l).o[k] :: (runW l).o.drop (k + 1) := by rw [← List.drop_eq_getElem_cons hk, List.take_append_drop]
      have m : i ∈ (runW l).o ↔ (i = (runW l).o[k] ∨ i ∈ (runW l).o.take k ++ (runW l).o.drop (k + 1)) := by
        conv => lhs; rw [e]
        simp only [List.mem_append, List.mem_cons]
        constructor
        · rintro (z | z | z)
          · exact .inr (.inl z)
          · exact .inl z
          · exact .inr (.inr z)
        · rintro (z | z | z)
          · exact .inr (.inl z)
          · exact .inl z
          · exact .inr (.inr z)
      rw [List.map_append, List.map_cons, List.map_nil, es]
      constructor
      · intro z
        refine .inl ?_
        rw [List.mem_append, List.mem_append] at z
        rw [List.mem_append, m]
        rcases z with (z | z) | z
        · exact .inl z
        · exact .inr (.inl (List.mem_singleton.mp z))
        · exact .inr (.inr z)
      · rintro (z | ⟨_, z⟩)
        · rw [List.mem_append, m] at z
          rw [List.mem_append, List.mem_append]
          rcases z with z | z | z
          · exact .inl (.inl z)
          · exact .inl (.inr (List.mem_singleton.mpr z))
          · exact .inr z
        · cases z
theorem ends_at {ws : List Stp} : Val ws → ∀ y ∈ (runW ws).q, ∃ k, ws[y.2]? = some (.num k) ∧ y = shut ws y.2 k := by
  induction ws using snoc_ind with
  | h0 => intro _ y hy; simp [runW] at hy
  | h1 l x ih =>
    intro hv y hy
    obtain ⟨h1, h2⟩ := hv.of_snoc
    have old : y ∈ (runW l).q → ∃ k, (l ++ [x])[y.2]? = some (.num k) ∧ y = shut (l ++ [x]) y.2 k := fun m => by
      obtain ⟨k, e1, e2⟩ := ih h1 y m
      have hi := (List.getElem?_eq_some_iff.mp e1).1
      refine ⟨k, by rw [List.getElem?_append_left hi]; exact e1, ?_⟩
      unfold shut at e2 ⊢
      rw [List.take_append_of_le_length (Nat.le_of_lt hi)]
      exact e2
    rw [runW_snoc] at hy
    cases x with
    | lone => exact old hy
    | opn => exact old hy
    | num k =>
      rcases List.mem_append.mp hy with m | m
      · exact old m
      · have e := List.mem_singleton.mp m
        subst e
        refine ⟨k, ?_, ?_⟩
        · show (l ++ [Stp.num k])[(runW l).p]? = _
          rw [runW_p, List.getElem?_append_right (Nat.le_refl _), Nat.sub_self]; rfl
        · unfold shut
          show ((runW l).o.getD k 0, (runW l).p) = ((runW ((l ++ [Stp.num k]).take (runW l).p)).o.getD k 0, (runW l).p)
          rw [runW_p, List.take_left' rfl]
/-- a walk, read off its pairs -/
theorem walk_read {ws : List Stp} (h : Walk ws) {i : Nat} (hi : i < ws.length) :
    (ws[i]? = some .opn ∧ ∃ y ∈ (runW ws).q, y.1 = i) ∨ (∃ y ∈ (runW ws).q, y.2 = i ∧ ws[i]? = some (.num ((runW ws).q.filter fun z => nestB z y).length)) ∨ (ws[i]? = some .lone ∧ ∀ y ∈ (runW ws).q, y.1 ≠ i ∧ y.2 ≠ i) := by
  have h0 : (runW ws).o = [] := List.length_eq_zero_iff.mp h.2
  have st := starts_at h.1 i
  rw [h0, List.append_nil] at st
  cases e : ws[i]? with
  | none => rw [List.getElem?_eq_none_iff] at e; omega
  | some x =>
    cases x with
    | opn =>
      obtain ⟨y, hy, e2⟩ := List.mem_map.mp (st.mpr e)
      exact .inl ⟨rfl, y, hy, e2⟩
    | num k => exact .inr (.inl ⟨shut ws i k, shut_mem h.1 e, rfl, by rw [(at_shut h e).2]⟩)
    | lone =>
      refine .inr (.inr ⟨rfl, fun y hy => ⟨fun z => ?_, fun z => ?_⟩⟩)
      · have := st.mp (List.mem_map.mpr ⟨y, hy, z⟩)
        rw [e] at this; cases this
      · obtain ⟨k, e1, _⟩ := ends_at h.1 y hy
        rw [z, e] at e1; cases e1
end Pl
namespace Pl
/-! ### how many walks go on from a height, with so many points left -/
def ivl : Nat → Nat
  | 0 => 1
  | 1 => 1
  | n + 2 => ivl (n + 1) + (n + 1) * ivl n
def dsc : Nat → Nat → Nat
  | _, 0 => 1
  | 0, _ + 1 => 0
  | n + 1, h + 1 => (n + 1) * dsc n h
def wys : Nat → Nat → Nat
  | 0, h => if h = 0 then 1 else 0
  | n + 1, h => h * wys n (h - 1) + wys n h + wys n (h + 1)
theorem ivl_rec (n : Nat) : ivl (n + 1) = ivl n + n * ivl (n - 1) := by
  cases n with
  | zero => rfl
  | succ n => rfl
theorem dsc_zero : ∀ {n h : Nat}, n < h → dsc n h = 0
  | _, 0, c => by omega
  | 0, _ + 1, _ => rfl
  | n + 1, h + 1, c => by
    unfold dsc
    rw [dsc_zero (by omega : n < h), Nat.mul_zero]
theorem dsc_succ : ∀ (n h : Nat), dsc n (h + 1) = dsc n h * (n - h)
  | 0, h => by rw [Nat.zero_sub, Nat.mul_zero]; rfl
  | n + 1, 0 => by simp [dsc]
  | n + 1, h + 1 => by
    show (n + 1) * dsc n (h + 1) = (n + 1) * dsc n h * (n + 1 - (h + 1))
    rw [dsc_succ n h, Nat.mul_assoc, Nat.add_sub_add_right]
theorem dsc_step (n h : Nat) : dsc (n + 1) (h + 1) = (h + 1) * dsc n h + dsc n (h + 1) := by
  rw [dsc_succ n h]
  show (n + 1) * dsc n h = _
  by_cases c : h ≤ n
  · rw [Nat.mul_comm (dsc n h), ← Nat.add_mul]
    congr 1
    omega
  · rw [dsc_zero (by omega)]
    simp
theorem wys_eq : ∀ n h : Nat, wys n h = dsc n h * ivl (n - h)
  | 0, 0 => rfl
  | 0, h + 1 => by simp [wys, dsc]
  | n + 1, 0 => by
    show 0 * wys n (0 - 1) + wys n 0 + wys n (0 + 1) = 1 * ivl (n + 1)
    rw [Nat.zero_mul, Nat.zero_add, wys_eq n 0, wys_eq n (0 + 1), dsc_succ n 0, ivl_rec]
    have e : dsc n 0 = 1 := by cases n <;> rfl
    rw [e]
    simp
  | n + 1, h + 1 => by
    show (h + 1) * wys n (h + 1 - 1) + wys n (h + 1) + wys n (h + 1 + 1) = _
    rw [Nat.add_sub_cancel, wys_eq n h, wys_eq n (h + 1), wys_eq n (h + 1 + 1), dsc_step, dsc_succ n (h + 1), Nat.add_sub_add_right]
    have key : dsc n (h + 1) * ivl (n - (h + 1)) + dsc n (h + 1) * (n - (h + 1)) * ivl (n - (h + 1 + 1)) = dsc n (h + 1) * ivl (n - h) := by
      by_cases c : h + 1 ≤ n
      · have e : n - h = n - (h + 1) + 1 := by omega
        rw [e, ivl_rec, Nat.mul_add, Nat.sub_sub n (h + 1) 1, Nat.mul_assoc]
      · rw [dsc_zero (by omega : n < h + 1)]
        simp
    rw [Nat.add_assoc, key, Nat.add_mul ((h + 1) * dsc n h), Nat.mul_assoc (h + 1)]
theorem wys_all (n : Nat) : wys n 0 = ivl n := by
  rw [wys_eq]
  have e : dsc n 0 = 1 := by cases n <;> rfl
  rw [e, Nat.one_mul, Nat.sub_zero]
end Pl
namespace Pl
/-! ### walks by number: lone ahead of open, open ahead of numbers -/
def rankF : Nat → List Stp → Nat
  | _, [] => 0
  | h, .lone :: r => rankF h r
  | h, .opn :: r => wys r.length h + rankF (h + 1) r
  | h, .num k :: r => wys r.length h + wys r.length (h + 1) + k * wys r.length (h - 1) + rankF (h - 1) r
def Wk : Nat → List Stp → Prop
  | h, [] => h = 0
  | h, .lone :: r => Wk h r
  | h, .opn :: r => Wk (h + 1) r
  | h, .num k :: r => k < h ∧ Wk (h - 1) r
def unrank : Nat → Nat → Nat → List Stp
  | 0, _, _ => []
  | n + 1, h, m => if m < wys n h then .lone :: unrank n h m else if m - wys n h < wys n (h + 1) then .opn :: unrank n (h + 1) (m - wys n h)
    else .num ((m - wys n h - wys n (h + 1)) / wys n (h - 1)) :: unrank n (h - 1) ((m - wys n h - wys n (h + 1)) % wys n (h - 1))
theorem wys_step (n h : Nat) : wys (n + 1) h = h * wys n (h - 1) + wys n h + wys n (h + 1) := rfl
theorem rank_lt : ∀ {ws : List Stp} {h : Nat}, Wk h ws → rankF h ws < wys ws.length h
  | [], h, e => by
    have e : h = 0 := e
    subst e
    exact Nat.one_pos
  | .lone :: r, h, e => by
    have := rank_lt (ws := r) (h := h) e
    rw [List.length_cons, wys_step]
    show rankF h r < _
    omega
  | .opn :: r, h, e => by
    have := rank_lt (ws := r) (h := h + 1) e
    rw [List.length_cons, wys_step]
    show wys r.length h + rankF (h + 1) r < _
    omega
  | .num k :: r, h, e => by
    have := rank_lt (ws := r) (h := h - 1) e.2
    rw [List.length_cons, wys_step]
    show wys r.length h + wys r.length (h + 1) + k * wys r.length (h - 1) + rankF (h - 1) r < _
    have h2 : (k + 1) * wys r.length (h - 1) ≤ h * wys r.length (h - 1) := Nat.mul_le_mul_right _ e.1
    rw [Nat.add_mul, Nat.one_mul] at h2
    omega
theorem unrank_step (n h m : Nat) : unrank (n + 1) h m = if m < wys n h then .lone :: unrank n h m else if m - wys n h < wys n (h + 1) then .opn :: unrank n (h + 1) (m - wys n h)
    else .num ((m - wys n h - wys n (h + 1)) / wys n (h - 1)) :: unrank n (h - 1) ((m - wys n h - wys n (h + 1)) % wys n (h - 1)) := rfl
theorem rank_lone (h : Nat) (r : List Stp) : rankF h (.lone :: r) = rankF h r := rfl
theorem rank_opn (h : Nat) (r : List Stp) : rankF h (.opn :: r) = wys r.length h + rankF (h + 1) r := rfl
theorem rank_num (h k : Nat) (r : List Stp) : rankF h (.num k :: r) = wys r.length h + wys r.length (h + 1) + k * wys r.length (h - 1) + rankF (h - 1) r := rfl
theorem unrank_rank : ∀ {ws : List Stp} {h : Nat}, Wk h ws → unrank ws.length h (rankF h ws) = ws
  | [], _, _ => rfl
  | .lone :: r, h, e => by
    have a := rank_lt (ws := r) (h := h) e
    have b := unrank_rank (ws := r) (h := h) e
    rw [List.length_cons, unrank_step, rank_lone, if_pos a, b]
  | .opn :: r, h, e => by
    have a := rank_lt (ws := r) (h := h + 1) e
    have b := unrank_rank (ws := r) (h := h + 1) e
    rw [List.length_cons, unrank_step, rank_opn, if_neg (by omega), Nat.add_sub_cancel_left, if_pos a, b]
  | .num k :: r, h, e => by
    have a := rank_lt (ws := r) (h := h - 1) e.2
    have b := unrank_rank (ws := r) (h := h - 1) e.2
    rw [List.length_cons, unrank_step, rank_num]
    have e1 : wys r.length h + wys r.length (h + 1) + k * wys r.length (h - 1) + rankF (h - 1) r - wys r.length h = wys r.length (h + 1) + (k * wys r.length (h - 1) + rankF (h - 1) r) := by omega
    rw [if_neg (by omega), e1, if_neg (by omega), Nat.add_sub_cancel_left]
    have pos : 0 < wys r.length (h - 1) := by omega
    rw [Nat.mul_comm k, Nat.mul_add_div pos, Nat.mul_add_mod, Nat.div_eq_of_lt a, Nat.mod_eq_of_lt a, Nat.add_zero, b]
theorem rank_unrank : ∀ {n h m : Nat}, m < wys n h → Wk h (unrank n h m) ∧ (unrank n h m).length = n ∧ rankF h (unrank n h m) = m
  | 0, h, m, e => by
    unfold wys at e
    by_cases c : h = 0
    · rw [if_pos c] at e
      exact ⟨c, rfl, by show 0 = m; omega⟩
    · rw [if_neg c] at e; omega
  | n + 1, h, m, e => by
    rw [wys_step] at e
    show Wk h (if m < wys n h then _ else _) ∧ (if m < wys n h then _ else _ : List Stp).length = n + 1 ∧ rankF h (if m < wys n h then _ else _) = m
    by_cases c1 : m < wys n h
    · rw [if_pos c1]
      obtain ⟨a, b, d⟩ := rank_unrank c1
      exact ⟨a, by rw [List.length_cons, b], d⟩
    · rw [if_neg c1]
      by_cases c2 : m - wys n h < wys n (h + 1)
      · rw [if_pos c2]
        obtain ⟨a, b, d⟩ := rank_unrank c2
        refine ⟨a, by rw [List.length_cons, b], ?_⟩
        show wys (unrank n (h + 1) (m - wys n h)).length h + rankF (h + 1) (unrank n (h + 1) (m - wys n h)) = m
        rw [b, d]; omega
      · rw [if_neg c2]
        have e2 : m - wys n h - wys n (h + 1) < h * wys n (h - 1) := by omega
        have pos : 0 < wys n (h - 1) := by
          rcases Nat.eq_zero_or_pos (wys n (h - 1)) with z | z
          · rw [z, Nat.mul_zero] at e2; omega
          · exact z
        have lt := Nat.mod_lt (m - wys n h - wys n (h + 1)) pos
        obtain ⟨a, b, d⟩ := rank_unrank lt
        refine ⟨⟨(Nat.div_lt_iff_lt_mul pos).mpr e2, a⟩, by rw [List.length_cons, b], ?_⟩
        show wys (unrank n (h - 1) _).length h + wys (unrank n (h - 1) _).length (h + 1) + _ * wys (unrank n (h - 1) _).length (h - 1) + rankF (h - 1) (unrank n (h - 1) _) = m
        rw [b, d]
        have := Nat.div_add_mod (m - wys n h - wys n (h + 1)) (wys n (h - 1))
        rw [Nat.mul_comm] at this
        omega
theorem wk_of : ∀ {r p : List Stp}, Val p → ((Val (p ++ r) ∧ hgt (p ++ r) = 0) ↔ Wk (hgt p) r)
  | [], p, hp => by
    rw [List.append_nil]
    exact ⟨fun z => z.2, fun z => ⟨hp, z⟩⟩
  | x :: r, p, hp => by
    have e : p ++ x :: r = (p ++ [x]) ++ r := by simp
    rw [e]
    have pre : Val ((p ++ [x]) ++ r) → Val (p ++ [x]) := fun z => by
      have := z.take (p ++ [x]).length
      rwa [List.take_left' rfl] at this
    cases x with
    | lone =>
      have v : Val (p ++ [.lone]) := hp.snoc (fun k z => by cases z)
      rw [wk_of v, hgt_lone]
      exact Iff.rfl
    | opn =>
      have v : Val (p ++ [.opn]) := hp.snoc (fun k z => by cases z)
      rw [wk_of v, hgt_opn]
      exact Iff.rfl
    | num k =>
      constructor
      · intro z
        have v := pre z.1
        have hk := (v.of_snoc).2 k rfl
        have w := (wk_of v).mp z
        have hh := hgt_num hp hk
        rw [show hgt (p ++ [.num k]) = hgt p - 1 by omega] at w
        exact ⟨hk, w⟩
      · rintro ⟨hk, w⟩
        have v : Val (p ++ [.num k]) := hp.snoc (fun j z => by cases z; exact hk)
        have hh := hgt_num hp hk
        rw [show hgt p - 1 = hgt (p ++ [.num k]) by omega] at w
        exact (wk_of v).mpr w
theorem walk_wk {ws : List Stp} : Walk ws ↔ Wk 0 ws := by
  have := wk_of (r := ws) (p := []) Val.nil
  rw [List.nil_append] at this
  exact this
end Pl
namespace Pl
/-! ### all walks from a height, in order -/
def goes : Nat → Nat → List (List Stp)
  | 0, h => if h = 0 then [[]] else []
  | n + 1, h => (goes n h).map (.lone :: ·) ++ ((goes n (h + 1)).map (.opn :: ·) ++ (List.range h).flatMap fun k => (goes n (h - 1)).map (.num k :: ·))
theorem goes_none : ∀ {n h : Nat}, n < h → goes n h = []
  | 0, h, c => by
    show (if h = 0 then _ else _) = _
    rw [if_neg (by omega)]
  | n + 1, h, c => by
    show (goes n h).map _ ++ ((goes n (h + 1)).map _ ++ _) = _
    rw [goes_none (by omega : n < h), goes_none (by omega : n < h + 1), goes_none (by omega : n < h - 1)]
    simp
theorem range_mul (h c : Nat) : List.range (h * c) = (List.range h).flatMap fun k => (List.range c).map fun m => k * c + m := by
  induction h with
  | zero => simp
  | succ h ih =>
    rw [List.range_succ, List.flatMap_append, ← ih, Nat.succ_mul, List.range_add]
    simp
theorem goes_unrank : ∀ n h : Nat, goes n h = (List.range (wys n h)).map (unrank n h)
  | 0, h => by
    show (if h = 0 then _ else _) = (List.range (if h = 0 then 1 else 0)).map _
    by_cases c : h = 0
    · rw [if_pos c, if_pos c]; rfl
    · rw [if_neg c, if_neg c]; rfl
  | n + 1, h => by
    show (goes n h).map _ ++ ((goes n (h + 1)).map _ ++ _) = _
    have e : wys (n + 1) h = wys n h + (wys n (h + 1) + h * wys n (h - 1)) := by rw [wys_step]; omega
    rw [e, List.range_add, List.range_add, List.map_append, List.map_map, List.map_append, List.map_map, goes_unrank n h, goes_unrank n (h + 1), goes_unrank n (h - 1)]
    refine congr (congrArg _ ?_) (congr (congrArg _ ?_) ?_)
    · rw [List.map_map]
      refine List.map_congr_left fun m hm => ?_
      have := List.mem_range.mp hm
      rw [unrank_step, if_pos this]; rfl
    · rw [List.map_map]
      refine List.map_congr_left fun m hm => ?_
      have := List.mem_range.mp hm
      show _ = unrank (n + 1) h (wys n h + m)
      rw [unrank_step, if_neg (by omega), Nat.add_sub_cancel_left, if_pos this]; rfl
    · rw [range_mul, List.map_flatMap]
      have hf : ∀ {α β : Type} (l : List α) (f g : α → List β), (∀ a ∈ l, f a = g a) → l.flatMap f = l.flatMap g := fun l f g hh => by
        rw [List.flatMap_def, List.flatMap_def, List.map_congr_left hh]
      refine hf _ _ _ fun k hk => ?_
      rw [List.map_map, List.map_map]
      refine List.map_congr_left fun m hm => ?_
      have hm := List.mem_range.mp hm
      show Stp.num k :: unrank n (h - 1) m = unrank (n + 1) h (wys n h + (wys n (h + 1) + (k * wys n (h - 1) + m)))
      rw [unrank_step, if_neg (by omega), Nat.add_sub_cancel_left, if_neg (by omega), Nat.add_sub_cancel_left]
      have pos : 0 < wys n (h - 1) := by omega
      rw [Nat.mul_comm k, Nat.mul_add_div pos, Nat.mul_add_mod, Nat.div_eq_of_lt hm, Nat.mod_eq_of_lt hm, Nat.add_zero]
theorem goes_len (n h : Nat) : (goes n h).length = wys n h := by rw [goes_unrank, List.length_map, List.length_range]
theorem goes_ne : ∀ {n h : Nat}, h ≤ n → goes n h ≠ []
  | 0, h, c => by
    show (if h = 0 then _ else _) ≠ _
    rw [if_pos (by omega)]; simp
  | n + 1, h, c => by
    show (goes n h).map _ ++ ((goes n (h + 1)).map _ ++ (List.range h).flatMap fun k => (goes n (h - 1)).map (.num k :: ·)) ≠ []
    by_cases c1 : h ≤ n
    · have := goes_ne c1
      intro z
      rw [List.append_eq_nil_iff] at z
      exact this (List.map_eq_nil_iff.mp z.1)
    · have hh : h = n + 1 := by omega
      have := goes_ne (n := n) (h := h - 1) (by omega)
      intro z
      rw [List.append_eq_nil_iff, List.append_eq_nil_iff] at z
      have z2 := z.2.2
      rw [List.flatMap_eq_nil_iff] at z2
      exact this (List.map_eq_nil_iff.mp (z2 0 (List.mem_range.mpr (by omega))))
theorem goes_walk {n : Nat} {ws : List Stp} (h : ws ∈ goes n 0) : Walk ws ∧ ws.length = n := by
  rw [goes_unrank] at h
  obtain ⟨m, hm, rfl⟩ := List.mem_map.mp h
  obtain ⟨a, b, _⟩ := rank_unrank (List.mem_range.mp hm)
  exact ⟨walk_wk.mpr a, b⟩
/-- rows of walks begun, with their heights, and what they go on to -/
def rowsTo (left : Nat) (rows : List (List Stp × Nat)) : List (List Stp) := rows.flatMap fun r => (goes left r.2).map (r.1 ++ ·)
/-- one row made longer -/
def longer (left : Nat) (r : List Stp × Nat) : List (List Stp × Nat) :=
  (if r.2 ≤ left then [(r.1 ++ [.lone], r.2)] else []) ++ ((if r.2 < left then [(r.1 ++ [.opn], r.2 + 1)] else []) ++ (List.range r.2).map fun k => (r.1 ++ [.num k], r.2 - 1))
theorem longer_to (left : Nat) (r : List Stp × Nat) : rowsTo left (longer left r) = (goes (left + 1) r.2).map (r.1 ++ ·) := by
  obtain ⟨w, h⟩ := r
  unfold rowsTo longer
  show _ = ((goes left h).map (.lone :: ·) ++ ((goes left (h + 1)).map (.opn :: ·) ++ (List.range h).flatMap fun k => (goes left (h - 1)).map (.num k :: ·))).map (w ++ ·)
  rw [List.flatMap_append, List.flatMap_append, List.map_append, List.map_append]
  refine congr (congrArg _ ?_) (congr (congrArg _ ?_) ?_)
  · by_cases c : h ≤ left
    · rw [if_pos c]
      simp [List.map_map, Function.comp_def]
    · rw [if_neg c, goes_none (by omega)]; rfl
  · by_cases c : h < left
    · rw [if_pos c]
      simp [List.map_map, Function.comp_def]
    · rw [if_neg c, goes_none (by omega)]; rfl
  · rw [List.flatMap_map, List.map_flatMap]
    simp [List.map_map, Function.comp_def]
def LongAll (left : Nat) (rows : List (List Stp × Nat)) : List (List Stp × Nat) := rows.flatMap (longer left)
theorem long_to (left : Nat) (rows : List (List Stp × Nat)) : rowsTo left (LongAll left rows) = rowsTo (left + 1) rows := by
  unfold LongAll rowsTo
  rw [List.flatMap_assoc]
  have hf : ∀ {α β : Type} (l : List α) (f g : α → List β), (∀ a ∈ l, f a = g a) → l.flatMap f = l.flatMap g := fun l f g hh => by
    rw [List.flatMap_def, List.flatMap_def, List.map_congr_left hh]
  exact hf _ _ _ fun r _ => longer_to left r
theorem long_le (left : Nat) {rows : List (List Stp × Nat)} (h : ∀ r ∈ rows, r.2 ≤ left + 1) : ∀ r ∈ LongAll left rows, r.2 ≤ left := by
  intro r hr
  obtain ⟨q, hq, hr⟩ := List.mem_flatMap.mp hr
  have := h q hq
  unfold longer at hr
  rcases List.mem_append.mp hr with z | z
  · split at z
    · rw [List.mem_singleton.mp z]; assumption
    · cases z
  rcases List.mem_append.mp z with z | z
  · split at z
    · rw [List.mem_singleton.mp z]; show q.2 + 1 ≤ left; omega
    · cases z
  · obtain ⟨k, hk, rfl⟩ := List.mem_map.mp z
    have := List.mem_range.mp hk
    show q.2 - 1 ≤ left
    omega
theorem rows_few (left : Nat) : ∀ {rows : List (List Stp × Nat)}, (∀ r ∈ rows, r.2 ≤ left) → rows.length ≤ (rowsTo left rows).length
  | [], _ => Nat.zero_le _
  | r :: rows, h => by
    have ih := rows_few left (rows := rows) fun q hq => h q (List.mem_cons_of_mem _ hq)
    have h1 := List.length_pos_iff.mpr (goes_ne (h r List.mem_cons_self))
    unfold rowsTo at ih ⊢
    rw [List.flatMap_cons, List.length_append, List.length_map, List.length_cons]
    omega
theorem rows_done {rows : List (List Stp × Nat)} (h : ∀ r ∈ rows, r.2 ≤ 0) : rowsTo 0 rows = rows.map (·.1) := by
  induction rows with
  | nil => rfl
  | cons r rows ih =>
    have h1 := h r List.mem_cons_self
    have e : goes 0 r.2 = [[]] := by show (if r.2 = 0 then _ else _) = _; rw [if_pos (by omega)]
    have ih := ih fun q hq => h q (List.mem_cons_of_mem _ hq)
    unfold rowsTo at ih ⊢
    rw [List.flatMap_cons, ih, e]
    simp
theorem ivl_small : ∀ n, n ≤ 7 → ivl n ≤ 232 := by decide
end Pl
namespace Pl
theorem wys_le : ∀ n h : Nat, wys n h ≤ (n + h + 2) ^ n
  | 0, h => by
    unfold wys
    split <;> simp
  | n + 1, h => by
    rw [wys_step]
    have h1 := wys_le n (h - 1)
    have h2 := wys_le n h
    have h3 := wys_le n (h + 1)
    have m1 : (n + (h - 1) + 2) ^ n ≤ (n + 1 + h + 2) ^ n := Nat.pow_le_pow_left (by omega) n
    have m2 : (n + h + 2) ^ n ≤ (n + 1 + h + 2) ^ n := Nat.pow_le_pow_left (by omega) n
    have m3 : (n + (h + 1) + 2) ^ n ≤ (n + 1 + h + 2) ^ n := Nat.pow_le_pow_left (by omega) n
    have a : h * wys n (h - 1) ≤ h * (n + 1 + h + 2) ^ n := Nat.mul_le_mul_left _ (Nat.le_trans h1 m1)
    have e : (n + 1 + h + 2) ^ (n + 1) = (n + 1 + h + 2) * (n + 1 + h + 2) ^ n := by rw [Nat.pow_succ, Nat.mul_comm]
    rw [e]
    have b : (h + 2) * (n + 1 + h + 2) ^ n ≤ (n + 1 + h + 2) * (n + 1 + h + 2) ^ n := Nat.mul_le_mul_right _ (by omega)
    rw [Nat.add_mul] at b
    omega
theorem wys_log {n h : Nat} (hn : n ≤ 60) (hh : h ≤ 70) : (wys n h).log2 < 9000 := by
  have h1 := wys_le n h
  have h2 : (n + h + 2) ^ n ≤ 132 ^ n := Nat.pow_le_pow_left (by omega) n
  have h3 : 132 ^ n ≤ 132 ^ 60 := Nat.pow_le_pow_right (by omega) hn
  have h4 : (132 : Nat) ^ 60 < 2 ^ 1000 := by decide +kernel
  have h5 : wys n h < 2 ^ 1000 := by omega
  by_cases z : wys n h = 0
  · rw [z]; decide
  · have := (Nat.log2_lt z).mpr h5
    omega
/-- walks with a lesser step -/
def ahead (left h : Nat) : Stp → Nat
  | .lone => 0
  | .opn => wys left h
  | .num k => wys left h + wys left (h + 1) + k * wys left (h - 1)
def behind (h : Nat) : Stp → Nat
  | .lone => h
  | .opn => h + 1
  | .num _ => h - 1
theorem rank_cons (h : Nat) (x : Stp) (r : List Stp) : rankF h (x :: r) = ahead r.length h x + rankF (behind h x) r := by
  cases x with
  | lone => show rankF h r = 0 + rankF h r; omega
  | opn => rfl
  | num k => rfl
def stepU (n h m : Nat) : Stp := if m < wys n h then .lone else if m < wys n h + wys n (h + 1) then .opn else .num ((m - (wys n h + wys n (h + 1))) / wys n (h - 1))
theorem unrank_cons {n h m : Nat} (hm : m < wys (n + 1) h) : unrank (n + 1) h m = stepU n h m :: unrank n (behind h (stepU n h m)) (m - ahead n h (stepU n h m)) ∧ ahead n h (stepU n h m) ≤ m ∧ m - ahead n h (stepU n h m) < wys n (behind h (stepU n h m)) ∧ ∀ k, stepU n h m = .num k → k < h := by
  rw [unrank_step]
  rw [wys_step] at hm
  unfold stepU
  by_cases c1 : m < wys n h
  · rw [if_pos c1, if_pos c1]
    exact ⟨rfl, Nat.zero_le _, by show m - 0 < wys n h; omega, fun k z => by cases z⟩
  · rw [if_neg c1, if_neg c1]
    by_cases c2 : m < wys n h + wys n (h + 1)
    · rw [if_pos (by omega), if_pos c2]
      exact ⟨rfl, by show wys n h ≤ m; omega, by show m - wys n h < wys n (h + 1); omega, fun k z => by cases z⟩
    · rw [if_neg (by omega), if_neg c2]
      have e2 : m - (wys n h + wys n (h + 1)) < h * wys n (h - 1) := by omega
      have pos : 0 < wys n (h - 1) := by
        rcases Nat.eq_zero_or_pos (wys n (h - 1)) with z | z
        · rw [z, Nat.mul_zero] at e2; omega
        · exact z
      have dm := Nat.div_add_mod (m - (wys n h + wys n (h + 1))) (wys n (h - 1))
      rw [Nat.mul_comm] at dm
      have lt := Nat.mod_lt (m - (wys n h + wys n (h + 1))) pos
      have es : m - wys n h - wys n (h + 1) = m - (wys n h + wys n (h + 1)) := by omega
      rw [es]
      have ea : m - (wys n h + wys n (h + 1) + (m - (wys n h + wys n (h + 1))) / wys n (h - 1) * wys n (h - 1)) = (m - (wys n h + wys n (h + 1))) % wys n (h - 1) := by omega
      refine ⟨?_, ?_, ?_, fun k z => ?_⟩
      · show _ = Stp.num _ :: unrank n (h - 1) (m - (wys n h + wys n (h + 1) + (m - (wys n h + wys n (h + 1))) / wys n (h - 1) * wys n (h - 1)))
        rw [ea]
      · show wys n h + wys n (h + 1) + (m - (wys n h + wys n (h + 1))) / wys n (h - 1) * wys n (h - 1) ≤ m
        omega
      · show m - (wys n h + wys n (h + 1) + (m - (wys n h + wys n (h + 1))) / wys n (h - 1) * wys n (h - 1)) < wys n (h - 1)
        rw [ea]; exact lt
      · injection z with z
        rw [← z]
        exact (Nat.div_lt_iff_lt_mul pos).mpr e2
end Pl
namespace Pl
/-! ### walks gone along at once -/
abbrev St4 := Nat × Nat × Nat × Nat
def opens (ws : List Stp) : Nat := (runW ws).q.length + hgt ws
def crW (ws : List Stp) : Nat := overEnds ws fun i k => hgt (ws.take i) - 1 - k
def neW (ws : List Stp) : Nat := overEnds ws fun _ k => k
def statW (ws : List Stp) : St4 := (hgt ws, opens ws, crW ws, neW ws)
def nxt (s : St4) : List St4 := s :: (s.1 + 1, s.2.1 + 1, s.2.2.1, s.2.2.2) :: (List.range s.1).map fun k => (s.1 - 1, s.2.1, s.2.2.1 + (s.1 - 1 - k), s.2.2.2 + k)
theorem crW_snoc (ws : List Stp) (x : Stp) : crW (ws ++ [x]) = crW ws + (match x with | .num k => hgt ws - 1 - k | _ => 0) := by
  have e : crW (ws ++ [x]) = overEnds (ws ++ [x]) fun i k => if i < ws.length then hgt (ws.take i) - 1 - k else hgt ws - 1 - k := by
    refine overEnds_congr fun i k hi => ?_
    have hlt := (List.getElem?_eq_some_iff.mp hi).1
    rw [List.length_append, List.length_singleton] at hlt
    by_cases c : i < ws.length
    · rw [if_pos c, List.take_append_of_le_length (Nat.le_of_lt c)]
    · rw [if_neg c]
      have : i = ws.length := by omega
      rw [this, List.take_left' rfl]
  have e2 : crW ws = overEnds ws fun i k => if i < ws.length then hgt (ws.take i) - 1 - k else hgt ws - 1 - k := by
    refine overEnds_congr fun i k hi => ?_
    rw [if_pos (List.getElem?_eq_some_iff.mp hi).1]
  rw [e, overEnds_snoc, ← e2]
  cases x with
  | lone => rfl
  | opn => rfl
  | num k => simp
theorem neW_snoc (ws : List Stp) (x : Stp) : neW (ws ++ [x]) = neW ws + (match x with | .num k => k | _ => 0) := overEnds_snoc ws x _
theorem stat_lone (ws : List Stp) : statW (ws ++ [.lone]) = statW ws := by
  unfold statW
  rw [crW_snoc, neW_snoc, hgt_lone]
  have : opens (ws ++ [.lone]) = opens ws := by unfold opens; rw [hgt_lone, runW_snoc]; rfl
  rw [this]; rfl
theorem stat_opn (ws : List Stp) : statW (ws ++ [.opn]) = (hgt ws + 1, opens ws + 1, crW ws, neW ws) := by
  unfold statW
  rw [crW_snoc, neW_snoc, hgt_opn]
  have : opens (ws ++ [.opn]) = opens ws + 1 := by unfold opens; rw [hgt_opn, runW_snoc]; rfl
  rw [this]; rfl
theorem stat_num {ws : List Stp} (h : Val ws) {k : Nat} (hk : k < hgt ws) : statW (ws ++ [.num k]) = (hgt ws - 1, opens ws, crW ws + (hgt ws - 1 - k), neW ws + k) := by
  have hn := hgt_num h hk
  unfold statW
  rw [crW_snoc, neW_snoc]
  have : opens (ws ++ [.num k]) = opens ws := by
    unfold opens
    rw [runW_snoc]
    show ((runW ws).q ++ [_]).length + _ = _
    rw [List.length_append, List.length_singleton]
    omega
  rw [this]
  have e : hgt (ws ++ [.num k]) = hgt ws - 1 := by omega
  rw [e]
/-- rows that are walks begun, with their heights -/
def RowsOk (rows : List (List Stp × Nat)) : Prop := ∀ r ∈ rows, Val r.1 ∧ r.2 = hgt r.1
theorem longer_ok {left : Nat} {r : List Stp × Nat} (h : Val r.1 ∧ r.2 = hgt r.1) : RowsOk (longer left r) := by
  intro q hq
  obtain ⟨w, hh⟩ := r
  obtain ⟨hv, e⟩ := h
  have e : hh = hgt w := e
  have hv : Val w := hv
  unfold longer at hq
  rcases List.mem_append.mp hq with z | z
  · split at z
    · rw [List.mem_singleton.mp z]; exact ⟨hv.snoc (by intro k e; cases e), by show hh = _; rw [hgt_lone, e]⟩
    · cases z
  rcases List.mem_append.mp z with z | z
  · split at z
    · rw [List.mem_singleton.mp z]; exact ⟨hv.snoc (by intro k e; cases e), by show hh + 1 = _; rw [hgt_opn, e]⟩
    · cases z
  · obtain ⟨k, hk, rfl⟩ := List.mem_map.mp z
    have hk := List.mem_range.mp hk
    have hk' : k < hgt w := by rw [← e]; exact hk
    have hn := hgt_num hv hk'
    exact ⟨hv.snoc (by intro j e; cases e; exact hk'), by show hh - 1 = hgt (w ++ [.num k]); omega⟩
theorem filter2 {α : Type} (p : α → Bool) (a b : α) (l : List α) : (a :: b :: l).filter p = (if p a = true then [a] else []) ++ ((if p b = true then [b] else []) ++ l.filter p) := by
  simp only [List.filter_cons]
  split <;> split <;> rfl
theorem nxt_stat {left : Nat} {r : List Stp × Nat} (h : Val r.1 ∧ r.2 = hgt r.1) (hl : r.2 ≤ left + 1) : (longer left r).map (fun q => statW q.1) = (nxt (statW r.1)).filter fun s => decide (s.1 ≤ left) := by
  obtain ⟨w, hh⟩ := r
  obtain ⟨hv, e⟩ := h
  have e : hh = hgt w := e
  have hv : Val w := hv
  have hl : hh ≤ left + 1 := hl
  subst e
  have e3 : ((List.range (hgt w)).map fun k => (hgt w - 1, opens w, crW w + (hgt w - 1 - k), neW w + k)).filter (fun s : St4 => decide (s.1 ≤ left)) = (List.range (hgt w)).map ((fun q : List Stp × Nat => statW q.1) ∘ fun k => (w ++ [.num k], hgt w - 1)) := by
    rw [List.filter_eq_self.mpr]
    · refine List.map_congr_left fun k hk => ?_
      exact (stat_num hv (List.mem_range.mp hk)).symm
    · intro s hs
      obtain ⟨k, hk, rfl⟩ := List.mem_map.mp hs
      have := List.mem_range.mp hk
      exact decide_eq_true (by show hgt w - 1 ≤ left; omega)
  have e5 : (nxt (statW w)).filter (fun s => decide (s.1 ≤ left)) = (if decide (hgt w ≤ left) = true then [statW w] else []) ++ ((if decide (hgt w + 1 ≤ left) = true then [((hgt w + 1, opens w + 1, crW w, neW w) : St4)] else []) ++ (List.range (hgt w)).map ((fun q : List Stp × Nat => statW q.1) ∘ fun k => (w ++ [.num k], hgt w - 1))) := by
    rw [← e3]
    exact filter2 _ _ _ _
  show ((if hgt w ≤ left then [(w ++ [Stp.lone], hgt w)] else []) ++ ((if hgt w < left then [(w ++ [Stp.opn], hgt w + 1)] else []) ++ (List.range (hgt w)).map fun k => (w ++ [Stp.num k], hgt w - 1))).map (fun q => statW q.1) = (nxt (statW w)).filter fun s => decide (s.1 ≤ left)
  rw [e5, List.map_append, List.map_append, List.map_map]
  refine congr (congrArg _ ?_) (congr (congrArg _ ?_) rfl)
  · by_cases c1 : hgt w ≤ left
    · rw [if_pos c1, if_pos (decide_eq_true c1)]
      simp only [List.map_cons, List.map_nil, stat_lone]
    · rw [if_neg c1, if_neg (show ¬ decide (hgt w ≤ left) = true by simpa using c1)]
      rfl
  · by_cases c2 : hgt w < left
    · rw [if_pos c2, if_pos (show decide (hgt w + 1 ≤ left) = true from decide_eq_true c2)]
      simp only [List.map_cons, List.map_nil, stat_opn]
    · rw [if_neg c2, if_neg (show ¬ decide (hgt w + 1 ≤ left) = true by simp; omega)]
      rfl
theorem longAll_ok {left : Nat} {rows : List (List Stp × Nat)} (h : RowsOk rows) : RowsOk (LongAll left rows) := fun q hq => by
  obtain ⟨r, hr, hq⟩ := List.mem_flatMap.mp hq
  exact longer_ok (h r hr) q hq
theorem longAll_stat {left : Nat} : ∀ {rows : List (List Stp × Nat)}, RowsOk rows → (∀ r ∈ rows, r.2 ≤ left + 1) → (LongAll left rows).map (fun q => statW q.1) = (rows.map fun q => statW q.1).flatMap fun s => (nxt s).filter fun t => decide (t.1 ≤ left)
  | [], _, _ => rfl
  | r :: rows, h1, h2 => by
    have ih := longAll_stat (rows := rows) (fun q hq => h1 q (List.mem_cons_of_mem _ hq)) fun q hq => h2 q (List.mem_cons_of_mem _ hq)
    unfold LongAll at ih ⊢
    rw [List.flatMap_cons, List.map_append, ih, List.map_cons, List.flatMap_cons, nxt_stat (h1 r List.mem_cons_self) (h2 r List.mem_cons_self)]
/-! ### a table that counts -/
theorem sum_split {α : Type} [DecidableEq α] [BEq α] [LawfulBEq α] (φ : α → Nat) (k : α) : ∀ L : List α, (L.map φ).sum = L.count k * φ k + ((L.filter fun x => decide (x ≠ k)).map φ).sum
  | [] => by simp
  | x :: L => by
    have ih := sum_split φ k L
    rw [List.map_cons, List.sum_cons, ih]
    by_cases e : x = k
    · subst e
      rw [List.count_cons_self, List.filter_cons_of_neg (by simp), Nat.add_mul, Nat.one_mul]
      omega
    · rw [List.count_cons_of_ne e, List.filter_cons_of_pos (by simpa using e), List.map_cons, List.sum_cons]
      omega
/-- what a table of counts sums up -/
theorem sum_table {α : Type} [DecidableEq α] [BEq α] [LawfulBEq α] (φ : α → Nat) : ∀ (kvs : List (α × Nat)) (L : List α), (kvs.map (·.1)).Nodup → (∀ p ∈ kvs, L.count p.1 = p.2) → (∀ x ∈ L, x ∈ kvs.map (·.1)) → (L.map φ).sum = (kvs.map fun p => p.2 * φ p.1).sum
  | [], L, _, _, h3 => by
    cases L with
    | nil => rfl
    | cons x L => exact absurd (h3 x List.mem_cons_self) (by simp)
  | p :: kvs, L, h1, h2, h3 => by
    rw [List.map_cons, List.nodup_cons] at h1
    rw [sum_split φ p.1 L, h2 p List.mem_cons_self, List.map_cons, List.sum_cons]
    congr 1
    refine sum_table φ kvs _ h1.2 (fun q hq => ?_) (fun x hx => ?_)
    · have hne : q.1 ≠ p.1 := fun e => h1.1 (by rw [← e]; exact List.mem_map.mpr ⟨q, hq, rfl⟩)
      rw [← h2 q (List.mem_cons_of_mem _ hq)]
      exact List.count_filter (by simpa using hne)
    · obtain ⟨hx1, hx2⟩ := List.mem_filter.mp hx
      have hx2 : x ≠ p.1 := by simpa using hx2
      have hm := h3 x hx1
      rw [List.map_cons] at hm
      rcases List.mem_cons.mp hm with e | e
      · exact absurd e hx2
      · exact e
theorem count_flatMap {α β : Type} [BEq β] (f : α → List β) (b : β) : ∀ L : List α, (L.flatMap f).count b = (L.map fun a => (f a).count b).sum
  | [] => rfl
  | x :: L => by rw [List.flatMap_cons, List.count_append, count_flatMap f b L, List.map_cons, List.sum_cons]
end Pl
namespace Pl
open PySem L2
/-! ### tables of counts in a dict -/
def kq (s : St4) : List Key := [.inl (s.1 : Int), .inl (s.2.1 : Int), .inl (s.2.2.1 : Int), .inl (s.2.2.2 : Int)]
theorem kq_inj {s t : St4} (h : kq s = kq t) : s = t := by
  obtain ⟨a, b, c, d⟩ := s
  obtain ⟨a', b', c', d'⟩ := t
  simp only [kq, List.cons.injEq, Sum.inl.injEq, and_true] at h
  obtain ⟨h1, h2, h3, h4⟩ := h
  have e1 : a = a' := by omega
  have e2 : b = b' := by omega
  have e3 : c = c' := by omega
  have e4 : d = d' := by omega
  rw [e1, e2, e3, e4]
def encT (tb : List (St4 × Nat)) : List (List Key × V) := tb.map fun p => (kq p.1, .int (p.2 : Nat))
structure Tab (tb : List (St4 × Nat)) (L : List St4) : Prop where
  nd : (tb.map (·.1)).Nodup
  val : ∀ p ∈ tb, L.count p.1 = p.2
  all : ∀ x ∈ L, x ∈ tb.map (·.1)
  pos : ∀ p ∈ tb, 0 < p.2
theorem Tab.congr {tb : List (St4 × Nat)} {L M : List St4} (h : Tab tb L) (e : ∀ s, M.count s = L.count s) : Tab tb M :=
  ⟨h.nd, fun p hp => by rw [e]; exact h.val p hp, fun x hx => h.all x (by
    have := List.count_pos_iff.mpr hx
    rw [e] at this
    exact List.count_pos_iff.mp this), h.pos⟩
theorem Tab.nil : Tab [] [] := ⟨by simp, by simp, by simp, by simp⟩
theorem len_sum (L : List St4) : (L.map fun _ => 1).sum = L.length := by induction L with
  | nil => rfl
  | cons x L ih => rw [List.map_cons, List.sum_cons, ih, List.length_cons]; omega
theorem pos_len : ∀ tb : List (St4 × Nat), (∀ p ∈ tb, 0 < p.2) → tb.length ≤ (tb.map fun p => p.2 * 1).sum
  | [], _ => Nat.zero_le _
  | p :: tb, h => by
    have := pos_len tb fun q hq => h q (List.mem_cons_of_mem _ hq)
    have := h p List.mem_cons_self
    rw [List.map_cons, List.sum_cons, List.length_cons]
    omega
theorem Tab.len {tb : List (St4 × Nat)} {L : List St4} (h : Tab tb L) : tb.length ≤ L.length := by
  have e := sum_table (fun _ => 1) tb L h.nd h.val h.all
  rw [len_sum] at e
  rw [e]
  exact pos_len tb h.pos
theorem valV_enc {tb : List (St4 × Nat)} {s : St4} {c : Nat} : (tb.map (·.1)).Nodup → (s, c) ∈ tb → valV (encT tb) (kq s) = some (.int (c : Nat)) := by
  induction tb with
  | nil => intro _ h; cases h
  | cons p tb ih =>
    intro hn h
    rw [List.map_cons, List.nodup_cons] at hn
    by_cases e : kq p.1 = kq s
    · have es := kq_inj e
      rcases List.mem_cons.mp h with z | z
      · rw [← z]; exact valV_pos (p := (kq s, V.int (c : Nat))) rfl
      · exact absurd (List.mem_map.mpr ⟨_, z, es.symm⟩) hn.1
    · rcases List.mem_cons.mp h with z | z
      · exact absurd (by rw [← z]) e
      · show valV ((kq p.1, V.int (p.2 : Nat)) :: encT tb) (kq s) = _
        rw [valV_neg e]
        exact ih hn.2 z
theorem valV_none {tb : List (St4 × Nat)} {k : List Key} (h : ∀ p ∈ tb, kq p.1 ≠ k) : valV (encT tb) k = none := by
  induction tb with
  | nil => rfl
  | cons p tb ih =>
    show valV ((kq p.1, V.int (p.2 : Nat)) :: encT tb) k = _
    rw [valV_neg (h p List.mem_cons_self)]
    exact ih fun q hq => h q (List.mem_cons_of_mem _ hq)
theorem Tab.get {tb : List (St4 × Nat)} {L : List St4} (h : Tab tb L) (s : St4) : (valV (encT tb) (kq s)).getD (.int 0) = .int (L.count s : Nat) := by
  by_cases m : s ∈ tb.map (·.1)
  · obtain ⟨p, hp, e⟩ := List.mem_map.mp m
    obtain ⟨s', c⟩ := p
    have e : s' = s := e
    subst e
    rw [valV_enc h.nd hp, h.val _ hp]
    rfl
  · rw [valV_none fun p hp e => m (List.mem_map.mpr ⟨p, hp, kq_inj e⟩)]
    have : L.count s = 0 := List.count_eq_zero.mpr fun z => m (h.all s z)
    rw [this]
    rfl
/-- more of one state -/
def tput (tb : List (St4 × Nat)) (f : St4) (c : Nat) : List (St4 × Nat) := if f ∈ tb.map (·.1) then tb.map fun p => if p.1 = f then (p.1, c) else p else tb ++ [(f, c)]
theorem put_enc (tb : List (St4 × Nat)) (f : St4) (c : Nat) : putK (encT tb) (kq f) (.int (c : Nat)) = encT (tput tb f c) := by
  unfold putK tput
  have ea : ((encT tb).any fun kv => decide (kv.1 = kq f)) = decide (f ∈ tb.map (·.1)) := by
    rw [Bool.eq_iff_iff, List.any_eq_true, decide_eq_true_eq]
    constructor
    · rintro ⟨x, hx, e⟩
      obtain ⟨p, hp, rfl⟩ := List.mem_map.mp hx
      exact List.mem_map.mpr ⟨p, hp, kq_inj (of_decide_eq_true e)⟩
    · intro h
      obtain ⟨p, hp, e⟩ := List.mem_map.mp h
      exact ⟨_, List.mem_map.mpr ⟨p, hp, rfl⟩, decide_eq_true (by show kq p.1 = kq f; rw [e])⟩
  rw [ea]
  by_cases m : f ∈ tb.map (·.1)
  · rw [if_pos (decide_eq_true m), if_pos m]
    unfold encT
    rw [List.map_map, List.map_map]
    refine List.map_congr_left fun p _ => ?_
    show (if kq p.1 = kq f then (kq p.1, V.int (c : Nat)) else (kq p.1, V.int (p.2 : Nat))) = (fun p : St4 × Nat => (kq p.1, V.int (p.2 : Nat))) (if p.1 = f then (p.1, c) else p)
    by_cases e : p.1 = f
    · rw [if_pos (by rw [e]), if_pos e]
    · rw [if_neg (fun z => e (kq_inj z)), if_neg e]
  · rw [if_neg (by simpa using m), if_neg m]
    unfold encT
    rw [List.map_append]
    rfl
theorem keys_tput (tb : List (St4 × Nat)) (f : St4) (c : Nat) : (tput tb f c).map (·.1) = if f ∈ tb.map (·.1) then tb.map (·.1) else tb.map (·.1) ++ [f] := by
  unfold tput
  split
  · rw [List.map_map]
    refine List.map_congr_left fun p _ => ?_
    show (if p.1 = f then (p.1, c) else p).1 = p.1
    split <;> rfl
  · rw [List.map_append]; rfl
theorem Tab.put {tb : List (St4 × Nat)} {L : List St4} (h : Tab tb L) {c : Nat} (hc : 0 < c) (f : St4) : Tab (tput tb f (L.count f + c)) (L ++ List.replicate c f) := by
  have cnt : ∀ s, (L ++ List.replicate c f).count s = L.count s + if s = f then c else 0 := fun s => by
    rw [List.count_append, List.count_replicate]
    by_cases e : s = f
    · subst e; simp
    · have e' : ¬ f = s := fun z => e z.symm
      simp [e, e']
  refine ⟨?_, ?_, ?_, ?_⟩
  · rw [keys_tput]
    by_cases m : f ∈ tb.map (·.1)
    · rw [if_pos m]; exact h.nd
    · rw [if_neg m, List.nodup_append]
      exact ⟨h.nd, by simp, fun a ha b hb e => m (by rw [← List.mem_singleton.mp hb, ← e]; exact ha)⟩
  · intro p hp
    rw [cnt]
    unfold tput at hp
    by_cases m : f ∈ tb.map (·.1)
    · rw [if_pos m] at hp
      obtain ⟨q, hq, rfl⟩ := List.mem_map.mp hp
      by_cases e : q.1 = f
      · rw [if_pos e]
        show L.count q.1 + (if q.1 = f then c else 0) = L.count f + c
        rw [if_pos e, e]
      · rw [if_neg e, if_neg e]
        exact h.val q hq
    · rw [if_neg m] at hp
      rcases List.mem_append.mp hp with hp | hp
      · have e : p.1 ≠ f := fun z => m (by rw [← z]; exact List.mem_map.mpr ⟨p, hp, rfl⟩)
        rw [if_neg e]
        exact h.val p hp
      · rw [List.mem_singleton.mp hp]
        show L.count f + (if f = f then c else 0) = L.count f + c
        rw [if_pos rfl]
  · intro x hx
    rw [keys_tput]
    rcases List.mem_append.mp hx with hx | hx
    · have := h.all x hx
      split
      · exact this
      · exact List.mem_append_left _ this
    · have e := (List.mem_replicate.mp hx).2
      subst e
      split
      · assumption
      · simp
  · intro p hp
    unfold tput at hp
    split at hp
    · obtain ⟨q, hq, rfl⟩ := List.mem_map.mp hp
      split
      · show 0 < L.count f + c; omega
      · exact h.pos q hq
    · rcases List.mem_append.mp hp with hp | hp
      · exact h.pos p hp
      · rw [List.mem_singleton.mp hp]; show 0 < L.count f + c; omega
def fltN (left : Nat) (s : St4) : List St4 := (nxt s).filter fun t => decide (t.1 ≤ left)
/-- what is made of a table, item by item -/
def addAll (left : Nat) (tb : List (St4 × Nat)) : List St4 := tb.flatMap fun p => (fltN left p.1).flatMap (List.replicate p.2)
theorem count_rep (l : List St4) (c : Nat) (g : St4) : (l.flatMap (List.replicate c)).count g = c * l.count g := by
  induction l with
  | nil => simp
  | cons x l ih =>
    rw [List.flatMap_cons, List.count_append, ih, List.count_replicate, List.count_cons]
    by_cases e : x = g
    · subst e; simp [Nat.mul_add]; omega
    · simp [e]
theorem addAll_count {tb : List (St4 × Nat)} {L : List St4} (h : Tab tb L) (left : Nat) (g : St4) : (L.flatMap (fltN left)).count g = (addAll left tb).count g := by
  rw [count_flatMap, sum_table _ tb L h.nd h.val h.all]
  unfold addAll
  rw [count_flatMap]
  congr 1
  refine List.map_congr_left fun p _ => ?_
  rw [count_rep]
theorem len_rep' (l : List St4) (c : Nat) : (l.flatMap (List.replicate c)).length = c * l.length := by
  induction l with
  | nil => simp
  | cons x l ih => rw [List.flatMap_cons, List.length_append, ih, List.length_replicate, List.length_cons, Nat.mul_add]; omega
theorem sum_len {α β : Type} (f : α → List β) : ∀ L : List α, (L.flatMap f).length = (L.map fun a => (f a).length).sum
  | [] => rfl
  | x :: L => by rw [List.flatMap_cons, List.length_append, sum_len f L, List.map_cons, List.sum_cons]
theorem addAll_len {tb : List (St4 × Nat)} {L : List St4} (h : Tab tb L) (left : Nat) : (addAll left tb).length = (L.flatMap (fltN left)).length := by
  rw [sum_len, sum_table (fun s => (fltN left s).length) tb L h.nd h.val h.all]
  unfold addAll
  rw [sum_len]
  congr 1
  refine List.map_congr_left fun p _ => ?_
  rw [len_rep']
end Pl
namespace Pl
/-! ### numbers of walks by pairs, crossings and nestings, from a height -/
theorem Val.pre {a : List Stp} : ∀ b : List Stp, Val (a ++ b) → Val a :=
  snoc_ind (P := fun b => Val (a ++ b) → Val a) (fun h => by rwa [List.append_nil] at h) (fun l x ih h => ih (Val.of_snoc (ws := a ++ l) (x := x) (by rwa [List.append_assoc])).1)
def opS : List Stp → Nat
  | [] => 0
  | .lone :: r => opS r
  | .opn :: r => opS r + 1
  | .num _ :: r => opS r
def crS : Nat → List Stp → Nat
  | _, [] => 0
  | h, .lone :: r => crS h r
  | h, .opn :: r => crS (h + 1) r
  | h, .num k :: r => (h - 1 - k) + crS (h - 1) r
def neS : List Stp → Nat
  | [] => 0
  | .lone :: r => neS r
  | .opn :: r => neS r
  | .num k :: r => k + neS r
theorem stat_app : ∀ {r p : List Stp}, Val (p ++ r) → opens (p ++ r) = opens p + opS r ∧ crW (p ++ r) = crW p + crS (hgt p) r ∧ neW (p ++ r) = neW p + neS r
  | [], p, _ => by
    rw [List.append_nil]
    exact ⟨rfl, by rw [crS]; rfl, rfl⟩
  | x :: r, p, hv => by
    have e : p ++ x :: r = (p ++ [x]) ++ r := by rw [List.append_assoc]; rfl
    rw [e] at hv ⊢
    obtain ⟨i1, i2, i3⟩ := stat_app hv
    have hv2 := Val.pre r hv
    rw [i1, i2, i3]
    cases x with
    | lone =>
      have := stat_lone p
      simp only [statW, Prod.mk.injEq] at this
      obtain ⟨q1, q2, q3, q4⟩ := this
      rw [q1, q2, q3, q4]
      exact ⟨rfl, rfl, rfl⟩
    | opn =>
      have := stat_opn p
      simp only [statW, Prod.mk.injEq] at this
      obtain ⟨q1, q2, q3, q4⟩ := this
      rw [q1, q2, q3, q4]
      refine ⟨?_, rfl, rfl⟩
      show _ = opens p + (opS r + 1)
      omega
    | num k =>
      have := stat_num (Val.of_snoc hv2).1 ((Val.of_snoc hv2).2 k rfl)
      simp only [statW, Prod.mk.injEq] at this
      obtain ⟨q1, q2, q3, q4⟩ := this
      rw [q1, q2, q3, q4]
      refine ⟨rfl, ?_, ?_⟩
      · show _ = crW p + ((hgt p - 1 - k) + crS (hgt p - 1) r)
        omega
      · show _ = neW p + (k + neS r)
        omega
theorem stat_walk {ws : List Stp} (h : Walk ws) : opens ws = opS ws ∧ crW ws = crS 0 ws ∧ neW ws = neS ws := by
  obtain ⟨a, b, c⟩ := stat_app (r := ws) (p := []) h.1
  have z1 : opens ([] : List Stp) = 0 := rfl
  have z2 : crW ([] : List Stp) = 0 := rfl
  have z3 : neW ([] : List Stp) = 0 := rfl
  have z4 : hgt ([] : List Stp) = 0 := rfl
  rw [z1, Nat.zero_add] at a
  rw [z2, z4, Nat.zero_add] at b
  rw [z3, Nat.zero_add] at c
  exact ⟨a, b, c⟩
def cwI (n h : Nat) (p c e : Int) : Nat := ((goes n h).filter fun ws => decide ((opS ws : Int) = p ∧ (crS h ws : Int) = c ∧ (neS ws : Int) = e)).length
theorem cwI_zero (h : Nat) (p c e : Int) : cwI 0 h p c e = if h = 0 ∧ p = 0 ∧ c = 0 ∧ e = 0 then 1 else 0 := by
  unfold cwI
  show (List.filter _ (if h = 0 then [[]] else [])).length = _
  by_cases z : h = 0
  · rw [if_pos z]
    by_cases q : p = 0 ∧ c = 0 ∧ e = 0
    · obtain ⟨rfl, rfl, rfl⟩ := q
      subst z
      rfl
    · rw [if_neg (fun y => q y.2), List.filter_cons_of_neg]
      · rfl
      · rw [decide_eq_true_eq]
        rintro ⟨a, b, c⟩
        exact q ⟨a.symm, b.symm, c.symm⟩
  · rw [if_neg z, if_neg (fun y => z y.1)]
    rfl
theorem cwI_succ (n h : Nat) (p c e : Int) : cwI (n + 1) h p c e = cwI n h p c e + (cwI n (h + 1) (p - 1) c e + ((List.range h).map fun k => cwI n (h - 1) p (c - ((h - 1 - k : Nat) : Int)) (e - (k : Int))).sum) := by
  unfold cwI
  show (List.filter _ ((goes n h).map (.lone :: ·) ++ ((goes n (h + 1)).map (.opn :: ·) ++ (List.range h).flatMap fun k => (goes n (h - 1)).map (.num k :: ·)))).length = _
  rw [List.filter_append, List.filter_append, List.length_append, List.length_append, List.filter_map, List.filter_map, List.length_map, List.length_map]
  refine congr (congrArg _ ?_) (congr (congrArg _ ?_) ?_)
  · rfl
  · refine congrArg List.length (List.filter_congr fun ws _ => ?_)
    show decide (((opS ws + 1 : Nat) : Int) = p ∧ (crS (h + 1) ws : Int) = c ∧ (neS ws : Int) = e) = _
    rw [Bool.eq_iff_iff, decide_eq_true_eq, decide_eq_true_eq]
    omega
  · rw [List.filter_flatMap, List.length_flatMap]
    refine congrArg List.sum (List.map_congr_left fun k _ => ?_)
    rw [List.filter_map, List.length_map]
    refine congrArg List.length (List.filter_congr fun ws _ => ?_)
    show decide ((opS ws : Int) = p ∧ (((h - 1 - k) + crS (h - 1) ws : Nat) : Int) = c ∧ ((k + neS ws : Nat) : Int) = e) = _
    rw [Bool.eq_iff_iff, decide_eq_true_eq, decide_eq_true_eq]
    omega
theorem cwI_neg {p : Int} (n h : Nat) (c e : Int) (hp : p < 0) : cwI n h p c e = 0 := by
  unfold cwI
  rw [List.filter_eq_nil_iff.mpr]
  · rfl
  · intro ws _ z
    have := of_decide_eq_true z
    omega
theorem sum_turn (h : Nat) (f : Nat → Nat) : ((List.range h).map fun k => f (h - 1 - k)).sum = ((List.range h).map f).sum := by
  have : ((List.range h).map fun k => f (h - 1 - k)) = ((List.range h).map f).reverse := by
    refine List.ext_getElem (by simp) fun i h1 h2 => ?_
    simp
  rw [this]
  exact (List.reverse_perm _).sum_nat
theorem cwI_turn : ∀ (n h : Nat) (p c e : Int), cwI n h p c e = cwI n h p e c
  | 0, h, p, c, e => by
    rw [cwI_zero, cwI_zero]
    have : (h = 0 ∧ p = 0 ∧ c = 0 ∧ e = 0) = (h = 0 ∧ p = 0 ∧ e = 0 ∧ c = 0) := propext ⟨fun ⟨a, b, c, d⟩ => ⟨a, b, d, c⟩, fun ⟨a, b, c, d⟩ => ⟨a, b, d, c⟩⟩
    simp only [this]
  | n + 1, h, p, c, e => by
    rw [cwI_succ, cwI_succ, cwI_turn n h p c e, cwI_turn n (h + 1) (p - 1) c e]
    congr 2
    rw [← sum_turn h (fun k => cwI n (h - 1) p (e - ((h - 1 - k : Nat) : Int)) (c - (k : Int)))]
    refine congrArg List.sum (List.map_congr_left fun k hk => ?_)
    have hk := List.mem_range.mp hk
    rw [cwI_turn]
    have : h - 1 - (h - 1 - k) = k := by omega
    rw [this]
/-! ### without lone points -/
def nl : Nat → Nat → Int → Int → Int → Nat
  | 0, h, p, c, e => if h = 0 ∧ p = 0 ∧ c = 0 ∧ e = 0 then 1 else 0
  | m + 1, h, p, c, e => nl m (h + 1) (p - 1) c e + ((List.range h).map fun k => nl m (h - 1) p (c - ((h - 1 - k : Nat) : Int)) (e - (k : Int))).sum
theorem nl_succ (m h : Nat) (p c e : Int) : nl (m + 1) h p c e = nl m (h + 1) (p - 1) c e + ((List.range h).map fun k => nl m (h - 1) p (c - ((h - 1 - k : Nat) : Int)) (e - (k : Int))).sum := rfl
theorem sum_zero {α : Type} (l : List α) (f : α → Nat) (h : ∀ a ∈ l, f a = 0) : (l.map f).sum = 0 := by
  induction l with
  | nil => rfl
  | cons a l ih => rw [List.map_cons, List.sum_cons, h a List.mem_cons_self, ih fun b hb => h b (List.mem_cons_of_mem _ hb)]
theorem nl_neg : ∀ (m h : Nat) (p c e : Int), p < 0 ∨ c < 0 ∨ e < 0 → nl m h p c e = 0
  | 0, h, p, c, e, z => by
    show (if _ then _ else _) = _
    rw [if_neg (by omega)]
  | m + 1, h, p, c, e, z => by
    rw [nl_succ, nl_neg m (h + 1) (p - 1) c e (by omega), sum_zero _ _ fun k _ => nl_neg m (h - 1) p _ _ (by omega)]
def chs : Nat → Nat → Nat
  | _, 0 => 1
  | 0, _ + 1 => 0
  | n + 1, k + 1 => chs n k + chs n (k + 1)
theorem sum_mul (a : Nat) {α : Type} (l : List α) (f : α → Nat) : (l.map fun x => a * f x).sum = a * (l.map f).sum := by
  induction l with
  | nil => rfl
  | cons b l ih => rw [List.map_cons, List.map_cons, List.sum_cons, List.sum_cons, ih, Nat.mul_add]
theorem cwI_nl : ∀ (n h p : Nat) (c e : Int), cwI n h p c e = chs n (h + 2 * p) * nl (h + 2 * p) h p c e
  | 0, h, p, c, e => by
    rw [cwI_zero]
    by_cases z : h + 2 * p = 0
    · have h0 : h = 0 := by omega
      have p0 : p = 0 := by omega
      subst h0 p0
      show _ = 1 * (if _ then _ else _)
      rw [Nat.one_mul]
    · obtain ⟨m, hm⟩ : ∃ m, h + 2 * p = m + 1 := ⟨h + 2 * p - 1, by omega⟩
      rw [hm, if_neg (by omega)]
      show _ = 0 * _
      rw [Nat.zero_mul]
  | n + 1, h, p, c, e => by
    rw [cwI_succ, cwI_nl n h p c e]
    by_cases z : h + 2 * p = 0
    · have h0 : h = 0 := by omega
      have p0 : p = 0 := by omega
      subst h0 p0
      rw [cwI_neg n _ c e (by omega)]
      show chs n 0 * _ + (0 + 0) = chs (n + 1) 0 * _
      have c1 : chs n 0 = 1 := by cases n <;> rfl
      rw [c1]
      rfl
    · obtain ⟨m, hm⟩ : ∃ m, h + 2 * p = m + 1 := ⟨h + 2 * p - 1, by omega⟩
      rw [hm, nl_succ]
      have e1 : cwI n (h + 1) ((p : Int) - 1) c e = chs n m * nl m (h + 1) ((p : Int) - 1) c e := by
        cases p with
        | zero => rw [cwI_neg n _ c e (by omega), nl_neg m _ _ c e (by omega), Nat.mul_zero]
        | succ q =>
          have eq : (((q + 1 : Nat) : Int)) - 1 = (q : Nat) := by omega
          rw [eq, cwI_nl n (h + 1) q c e]
          have : h + 1 + 2 * q = m := by omega
          rw [this]
      have e2 : ((List.range h).map fun k => cwI n (h - 1) p (c - ((h - 1 - k : Nat) : Int)) (e - (k : Int))).sum = chs n m * ((List.range h).map fun k => nl m (h - 1) p (c - ((h - 1 - k : Nat) : Int)) (e - (k : Int))).sum := by
        rw [← sum_mul]
        refine congrArg List.sum (List.map_congr_left fun k hk => ?_)
        have hk := List.mem_range.mp hk
        rw [cwI_nl n (h - 1) p]
        have : h - 1 + 2 * p = m := by omega
        rw [this]
      rw [e1, e2, ← Nat.mul_add]
      show _ = (chs n m + chs n (m + 1)) * _
      rw [Nat.add_mul, Nat.add_comm]
/-- the same, reckoned -/
def nlP : Nat → Nat → Nat → Nat → Nat → Nat
  | 0, h, p, c, e => if h = 0 ∧ p = 0 ∧ c = 0 ∧ e = 0 then 1 else 0
  | m + 1, h, p, c, e => (match p with | 0 => 0 | q + 1 => nlP m (h + 1) q c e) + ((List.range h).map fun k => if h - 1 - k ≤ c ∧ k ≤ e then nlP m (h - 1) p (c - (h - 1 - k)) (e - k) else 0).sum
theorem nlP_nl : ∀ (m h p c e : Nat), nl m h p c e = nlP m h p c e
  | 0, h, p, c, e => by
    show (if _ then _ else _) = (if _ then _ else _)
    have : (h = 0 ∧ (p : Int) = 0 ∧ (c : Int) = 0 ∧ (e : Int) = 0) = (h = 0 ∧ p = 0 ∧ c = 0 ∧ e = 0) := propext (by omega)
    simp only [this]
  | m + 1, h, p, c, e => by
    rw [nl_succ]
    show _ = (match p with | 0 => 0 | q + 1 => nlP m (h + 1) q c e) + _
    refine congr (congrArg _ ?_) ?_
    · cases p with
      | zero => exact nl_neg m _ _ _ _ (by omega)
      | succ q =>
        have eq : (((q + 1 : Nat) : Int)) - 1 = (q : Nat) := by omega
        rw [eq, nlP_nl m]
    · refine congrArg List.sum (List.map_congr_left fun k _ => ?_)
      by_cases z : h - 1 - k ≤ c ∧ k ≤ e
      · rw [if_pos z, ← nlP_nl m]
        have a : (c : Int) - ((h - 1 - k : Nat) : Int) = ((c - (h - 1 - k) : Nat) : Int) := by omega
        have b : (e : Int) - (k : Int) = ((e - k : Nat) : Int) := by omega
        rw [a, b]
      · rw [if_neg z]
        exact nl_neg m _ _ _ _ (by omega)
/-! ### what is asked -/
def most (p : Nat) : Nat := p * (p - 1) / 2
theorem nl_00 : ∀ p, p ≤ 7 → nlP (2 * p) 0 p 0 0 = 1 := by decide +kernel
theorem nl_10 : ∀ p, p ≤ 7 → nlP (2 * p) 0 p 1 0 = p - 1 := by decide +kernel
theorem nl_01 : ∀ p, p ≤ 7 → nlP (2 * p) 0 p 0 1 = p - 1 := by decide +kernel
theorem nl_m0 : ∀ p, p ≤ 7 → nlP (2 * p) 0 p (most p) 0 = 1 := by decide +kernel
theorem nl_n0 : ∀ p, p ≤ 7 → nlP (2 * p) 0 p (most p + 1) 0 = 0 := by decide +kernel
theorem nl_0m : ∀ p, p ≤ 7 → nlP (2 * p) 0 p 0 (most p) = 1 := by decide +kernel
def hN (n p c e : Nat) : Nat := chs n (2 * p) * nlP (2 * p) 0 p c e
def topOf (few : Nat) : Nat := if 4 < few then 4 else 2
theorem all_few : ∀ few, few ≤ 6 → ((List.range (few / 2 + 1)).map fun k => ((List.range (topOf few)).map fun a => ((List.range (topOf few)).map fun b => hN few k a b).sum).sum).sum = ivl few := by decide +kernel
theorem plain_few : ∀ few, few ≤ 6 → ∀ k, k ≤ 3 → k ≤ few / 2 → ((List.range (topOf few)).map fun b => hN few k 0 b).sum = chs few (2 * k) * chs (2 * k) k / (k + 1) := by decide +kernel
theorem chs_next : ∀ n, n ≤ 14 → ∀ k, k ≤ 14 → chs n k * (n - k) / (k + 1) = chs n (k + 1) := by decide +kernel
theorem chs_le : ∀ n, n ≤ 14 → ∀ k, k ≤ 14 → chs n k ≤ 4000 := by decide +kernel
theorem chs_all : ∀ n, n ≤ 14 → chs n n = 1 := by decide +kernel
end Pl
namespace My
open PySem L2
def top (i : Nat) : Stmt := PySem.Challenge.pw_pairlings_k09_whole_exchanged_and_togeth.main.body.getD i (.Pass ⟨0, 0, 0, 0⟩)
abbrev sCell : Stmt := top 10
abbrev sWhole : Stmt := top 11
abbrev sLaw : Stmt := top 15
abbrev sHowMany : Stmt := top 5
abbrev sHowManyWith : Stmt := top 6
abbrev sCountsBehind : Stmt := top 7
abbrev sStatesBehind : Stmt := top 8
abbrev sLChoose : Stmt := top 12
abbrev sLPlain : Stmt := top 13
abbrev sLGreat : Stmt := top 14
end My
namespace My
open PySem L2 Pl

/-- a def of the text: its function, its name at the top, how it binds -/
structure Glb (K : PySem.W.Frag) (mg : Str → Option Value) (nm : Str) (ps : List Str) (st : Stmt) (f : Addr) (fd : FuncData) : Prop where
  fn : Fun K nm nm st f fd
  mgf : mg nm = some (.ref f)
  bd : Binds K fd ps []

/-! ### data -/
def encS : Stp → V
  | .lone => .str "lone"
  | .opn => .str "open"
  | .num k => .int k
def PrT (H : Hp) (v : V) (p : Nat × Nat) : Prop := ∃ a, v = .ref a ∧ H a = some (.tup [.int p.1, .int p.2])
theorem PrT.same {H H' : Hp} {v : V} {p : Nat × Nat} (s : Same H H') : PrT H v p → PrT H' v p := fun ⟨a, e, h⟩ => ⟨a, e, s _ _ h⟩
theorem prs_same {H H' : Hp} {qs : List V} {ps : List (Nat × Nat)} (s : Same H H') (h : Paired (PrT H) qs ps) : Paired (PrT H') qs ps := L2.Paired.mapP h fun _ _ r => r.same s
/-- a pairing -/
def IsP (H : Hp) (v : V) (n : Nat) (ps : List (Nat × Nat)) : Prop := ∃ t tp qs, v = .ref t ∧ H t = some (.tup [.int n, .ref tp]) ∧ H tp = some (.tup qs) ∧ Paired (PrT H) qs ps
theorem IsP.same {H H' : Hp} {v : V} {n : Nat} {ps : List (Nat × Nat)} (s : Same H H') : IsP H v n ps → IsP H' v n ps := fun ⟨t, tp, qs, e, h1, h2, h3⟩ => ⟨t, tp, qs, e, s _ _ h1, s _ _ h2, prs_same s h3⟩
theorem same_upd {H : Hp} {a : Addr} {o : HO} (h : H a = none) : Same H (upd H a o) := fun b u e => by rw [upd_ne (ne_of_none e h)]; exact e
theorem same_upd2 {H H' : Hp} {a : Addr} {o : HO} (s : Same H H') (h : H a = none) : Same H (upd H' a o) := fun b u e => by rw [upd_ne (ne_of_none e h)]; exact s b u e
theorem prt_upd {H : Hp} {a : Addr} {xs : List V} {o : HO} {qs : List V} {ps : List (Nat × Nat)} (h : H a = some (.lst xs)) (p : Paired (PrT H) qs ps) : Paired (PrT (upd H a o)) qs ps := L2.Paired.mapP p fun v q ⟨b, e, hb⟩ => ⟨b, e, by
  rw [upd_ne (ne_of hb h (by intro z; cases z))]; exact hb⟩
theorem at_nat {α : Type} {xs : List α} {j : Nat} {v : α} (h : xs[j]? = some v) : atI xs (j : Int) = some v := atI_nat h

/-- an append that may be left out -/
theorem app_if {K : PySem.W.Frag} {b : Bool} {x : V} {j : Nat} {σ : St} {H0 : Hp} {ls : Addr} {xs : List V} {D : Ends} (hσ : σ[j]? = some (some (.ref ls))) (hz : xs.length < sizeLine) (h : D.nx σ (upd H0 ls (.lst (xs ++ if b = true then [x] else [])))) :
    if b = true then tDrop (tBM K "list" rAppend (tVar j) (tCons (tC x) tNil)) D σ (upd H0 ls (.lst xs)) else tNext D σ (upd H0 ls (.lst xs)) := by
  cases b with
  | true => exact iteT ⟨_, hσ, .inl ⟨rfl, _, SqL.of upd_same⟩, ls, _, _, rfl, rfl, upd_same, hz, by rw [upd_upd]; exact h⟩
  | false =>
    rw [if_neg Bool.false_ne_true, List.append_nil] at h
    exact iteF h

section
variable {P : Program} {w : World} {K : PySem.W.Frag} {mg : Str → Option Value} {base : Heap}

/-! ### _law_cell_at -/
def spCell (K : PySem.W.Frag) : Sp := fun vs H Q _ => ∃ (a : Addr) (ns : List Int) (k : Nat), vs = [.ref a, .int k] ∧ SqL K H a (ns.map V.int) ∧ ∀ n : Int, Q (.int n) H
theorem scCell : FnScope ["script", "k"] ["script", "k"] (defScope sCell) := ⟨rfl, rfl, rfl, by decide +kernel, rfl, by decide +kernel, by decide +kernel⟩
theorem ok_cell {f : Addr} {fd : FuncData} (G : Glb K mg "_law_cell_at" ["script", "k"] sCell f fd) (n_len : mg "len" = none) : FnOk P w K mg base CX0 1 f fd ["script", "k"] (spCell K) := by
  refine G.fn.ok scCell (fun vs H Q E h => ?_) (fun cdv A outer s H vs Q E hr h => ?_)
  · obtain ⟨a, ns, k, rfl, _⟩ := h; rfl
  · obtain ⟨a, ns, k, rfl, hS, q⟩ := h
    refine ⟨_, pss_cons (ps_if (pt_cmpR op_lt (pv 1) (pe_callB call_len_seq (by rfl) n_len PySem.boot_len (pa_cons (pv 0) pa_nil)) (nomark _)) (pss_one (ps_ret (pe_ix ix_list (pv 0) (pv 1) (fun _ _ => rfl)))) pss_nil) (pss_one (ps_ret pe_int)), ?_⟩
    refine ⟨_, rfl, _, rfl, a, _, rfl, .inl hS, _, _, rfl, rfl, _, rfl, ?_⟩
    refine ite2 (fun c => ?_) (fun _ => q 0)
    have hk : k < ns.length := by simpa using c
    exact ⟨_, rfl, _, rfl, a, _, k, .int ns[k], rfl, rfl, hS, at_nat (by simp [hk]), q _⟩

end
theorem enc_ne (k : Nat) (x : Str) : ¬ (V.int k = V.str x) := fun z => by cases z
end My
namespace My
open PySem L2 Pl
section
variable {P : Program} {w : World} {K : PySem.W.Frag} {mg : Str → Option Value} {base : Heap}
/-! ### how_many -/
def spHowMany : Sp := fun vs H Q _ => ∃ n : Int, vs = [.int n] ∧ -100 ≤ n ∧ n ≤ 100 ∧ Q (.int (ivl n.toNat : Nat)) H
theorem scHowMany : FnScope ["points", "with_one_less", "count", "others", "with_one_more"] ["points"] (defScope sHowMany) := ⟨rfl, rfl, rfl, by decide +kernel, rfl, by decide +kernel, by decide +kernel⟩
theorem ok_howMany {f : Addr} {fd : FuncData} (G : Glb K mg "how_many" ["points"] sHowMany f fd) (n_range : mg "range" = none) : FnOk P w K mg base CX0 1 f fd ["points"] spHowMany := by
  refine G.fn.ok scHowMany (fun vs H Q E h => ?_) (fun cdv A outer s H vs Q E hr h => ?_)
  · obtain ⟨n, rfl, _⟩ := h; rfl
  · obtain ⟨n, rfl, h1, h2, k⟩ := h
    have nd := scHowMany.nd
    refine ⟨_, (pss_cons (ps_set (i := 1) nd rfl (Or.inl rfl) pe_int)
      (pss_cons (ps_set (i := 2) nd rfl (Or.inl rfl) pe_int)
      (pss_cons (ps_for PassesOwn.never rfl (pi_range1 rfl n_range (pa_cons (pv 0) pa_nil)) (pg_name (i := 3) nd rfl (Or.inl rfl)) (pss_cons (ps_set (i := 4) nd rfl (Or.inl rfl) (pe_op op_add (pv 2) (pe_op op_mul (pv 3) (pv 1))))
      (pss_cons (ps_set (i := 1) nd rfl (Or.inl rfl) (pv 2))
      (pss_one (ps_set (i := 2) nd rfl (Or.inl rfl) (pv 4))))))
      (pss_one (ps_ret (pv 2)))))), ?_⟩
    refine ⟨_, rfl, n, rfl, by omega, by omega, for_range (lo := 0) (n := n.toNat) (fun i σ H2 => ∃ (c : Nat) (w3 w4 : Option V), σ = [some (.int n), some (.int (c : Nat)), some (.int (ivl i : Nat)), w3, w4] ∧ (0 < i → c = ivl (i - 1)) ∧ H2 = H) ?_ ?_ ?_⟩
    · exact ⟨0, none, none, rfl, fun z => by omega, rfl⟩
    · rintro i σ H2 hi ⟨c, w3, w4, rfl, hc, rfl⟩
      refine ⟨_, rfl, _, rfl, _, rfl, _, _, rfl, rfl, .inl ⟨by omega, by omega⟩, _, _, rfl, rfl, ?_⟩
      refine ⟨_, rfl, _, rfl, ?_⟩
      have e : ((ivl i : Nat) : Int) + (0 + (i : Int)) * (c : Nat) = (ivl (i + 1) : Nat) := by
        rw [ivl_rec, Int.zero_add]
        by_cases z : 0 < i
        · rw [hc z, Int.natCast_add, Int.natCast_mul]
        · have : i = 0 := by omega
          subst this
          simp
      exact ⟨ivl i, some (.int (0 + (i : Int))), some (.int (ivl (i + 1) : Nat)), by rw [← e]; rfl, fun _ => rfl, rfl⟩
    · rintro σ H2 ⟨c, w3, w4, rfl, hc, rfl⟩
      exact ⟨_, rfl, k⟩
end
end My
namespace My
open PySem L2 Pl
def TkT (H : Hp) (v : V) (s : St4) : Prop := ∃ b, v = .ref b ∧ H b = some (.tup ((kq s).map kV))
theorem TkT.same {H H' : Hp} {v : V} {s : St4} (z : Same H H') : TkT H v s → TkT H' v s := fun ⟨b, e, h⟩ => ⟨b, e, z _ _ h⟩
theorem TkT.upd {H : Hp} {D : Addr} {o p : HO} {v : V} {s : St4} (hD : H D = some p) (hp : ∀ xs, p ≠ .tup xs) : TkT H v s → TkT (upd H D o) v s := fun ⟨b, e, h⟩ => ⟨b, e, by
  rw [upd_ne (fun z => by rw [z, hD] at h; injection h with h; exact hp _ h)]; exact h⟩
theorem kq_tup (s : St4) : (kq s).map kV = [.int (s.1 : Nat), .int (s.2.1 : Nat), .int (s.2.2.1 : Nat), .int (s.2.2.2 : Nat)] := rfl
section
variable {P : Program} {w : World} {K : PySem.W.Frag} {mg : Str → Option Value} {base : Heap}
/-! ### states_behind -/
def spStates : Sp := fun vs H Q _ => ∃ (b : Addr) (s : St4), vs = [.ref b] ∧ H b = some (.tup ((kq s).map kV)) ∧ s.1 ≤ 60 ∧ ∀ l zs H', H l = none → H' l = some (.lst zs) → Paired (TkT H') zs (nxt s) → Same H H' → Q (.ref l) H'
theorem scStates : FnScope ["state", "height", "pairs", "found", "nested", "crossed"] ["state"] (defScope sStatesBehind) := ⟨rfl, rfl, rfl, by decide +kernel, rfl, by decide +kernel, by decide +kernel⟩
theorem ok_states {f : Addr} {fd : FuncData} (G : Glb K mg "states_behind" ["state"] sStatesBehind f fd) (n_range : mg "range" = none) : FnOk P w K mg base CX0 1 f fd ["state"] spStates := by
  refine G.fn.ok scStates (fun vs H Q E h => ?_) (fun cdv A outer s0 H vs Q E hr h => ?_)
  · obtain ⟨b, s, rfl, _⟩ := h; rfl
  · obtain ⟨b, s, rfl, hb, h60, k⟩ := h
    have nd := scStates.nd
    rw [kq_tup] at hb
    refine ⟨_, (pss_cons (ps_set (i := 1) nd rfl (Or.inl rfl) (pe_ix ix_tup (pv 0) pe_int (fun _ _ => rfl)))
      (pss_cons (ps_set (i := 2) nd rfl (Or.inl rfl) (pe_ix ix_tup (pv 0) pe_int (fun _ _ => rfl)))
      (pss_cons (ps_set (i := 3) nd rfl (Or.inl rfl) (pe_lst (pa_cons (pv 0) (pa_cons (pe_tup (pa_cons (pe_op op_add (pv 1) pe_int) (pa_cons (pe_op op_add (pv 2) pe_int) (pa_cons (pe_ix ix_tup (pv 0) pe_int (fun _ _ => rfl)) (pa_cons (pe_ix ix_tup (pv 0) pe_int (fun _ _ => rfl)) pa_nil))))) pa_nil))))
      (pss_cons (ps_for PassesOwn.never rfl (pi_range1 rfl n_range (pa_cons (pv 1) pa_nil)) (pg_name (i := 4) nd rfl (Or.inl rfl)) (pss_cons (ps_set (i := 5) nd rfl (Or.inl rfl) (pe_op op_sub (pe_op op_sub (pv 1) pe_int) (pv 4)))
      (pss_one (ps_expr (pe_bm PySem.F.plainAttrs_list PySem.F.slot_list_append PySem.F.type_list_append mt_append (pv 3) (pa_cons (pe_tup (pa_cons (pe_op op_sub (pv 1) pe_int) (pa_cons (pv 2) (pa_cons (pe_op op_add (pe_ix ix_tup (pv 0) pe_int (fun _ _ => rfl)) (pv 5)) (pa_cons (pe_op op_add (pe_ix ix_tup (pv 0) pe_int (fun _ _ => rfl)) (pv 4)) pa_nil))))) pa_nil))))))
      (pss_one (ps_ret (pv 3))))))), ?_⟩
    refine ⟨_, rfl, b, _, 0, _, rfl, rfl, SqT.of hb, rfl, _, rfl, b, _, 1, _, rfl, rfl, SqT.of hb, rfl, ?_⟩
    refine ⟨_, rfl, _, rfl, _, _, rfl, rfl, _, rfl, _, _, rfl, rfl, _, rfl, b, _, 2, _, rfl, rfl, SqT.of hb, rfl, _, rfl, b, _, 3, _, rfl, rfl, SqT.of hb, rfl, by show 4 ≤ sizeLine; decide, fun t ht => ⟨by show 2 ≤ sizeLine; decide, fun l hl => ?_⟩⟩
    have n1 : l ≠ t := by
      rintro rfl
      rw [upd_same] at hl
      cases hl
    have fl : H l = none := by rw [upd_ne n1] at hl; exact hl
    have s1 := (same_upd (o := .tup [.int ((s.1 : Int) + 1), .int ((s.2.1 : Int) + 1), .int (s.2.2.1 : Nat), .int (s.2.2.2 : Nat)]) ht)
    have s2 := s1.trans (same_upd (o := .lst [.ref b, .ref t]) hl)
    refine ⟨_, rfl, (s.1 : Int), rfl, by omega, by omega, ?_⟩
    rw [show ((s.1 : Nat) : Int).toNat = s.1 by simp]
    refine for_range (lo := 0) (fun i σ H2 => ∃ (zs : List V) (w4 w5 : Option V), σ = [some (.ref b), some (.int (s.1 : Nat)), some (.int (s.2.1 : Nat)), some (.ref l), w4, w5] ∧ H2 l = some (.lst zs) ∧ Paired (TkT H2) zs (s :: (s.1 + 1, s.2.1 + 1, s.2.2.1, s.2.2.2) :: (List.range i).map fun k => (s.1 - 1, s.2.1, s.2.2.1 + (s.1 - 1 - k), s.2.2.2 + k)) ∧ Same H H2) ?_ ?_ ?_
    · refine ⟨_, none, none, rfl, upd_same, .cons ⟨b, rfl, s2 _ _ hb⟩ (.cons ⟨t, rfl, ?_⟩ .nil), s2⟩
      rw [upd_ne n1.symm, upd_same, kq_tup]
      rfl
    · rintro i σ H2 hi ⟨zs, w4, w5, rfl, g1, g2, g3⟩
      have hb2 := g3 _ _ hb
      have hzl := PySem.Paired.length g2
      rw [List.length_cons, List.length_cons, List.length_map, List.length_range] at hzl
      refine ⟨_, rfl, _, _, rfl, rfl, _, rfl, _, _, rfl, rfl, ?_⟩
      refine ⟨_, rfl, .inl ⟨rfl, _, SqL.of g1⟩, _, rfl, _, _, rfl, rfl, _, rfl, _, rfl, b, _, 2, _, rfl, rfl, SqT.of hb2, rfl, _, rfl, _, _, rfl, rfl, _, rfl, b, _, 3, _, rfl, rfl, SqT.of hb2, rfl, _, rfl, _, _, rfl, rfl, by show 4 ≤ sizeLine; decide, fun t ht => ?_⟩
      have g1' := (same_upd (o := .tup [.int ((s.1 : Int) - 1), .int (s.2.1 : Nat), .int ((s.2.2.1 : Int) + ((s.1 : Int) - 1 - (0 + (i : Int)))), .int ((s.2.2.2 : Int) + (0 + (i : Int)))]) ht) _ _ g1
      refine ⟨l, zs, _, rfl, rfl, g1', small1000 (by omega), ?_⟩
      refine ⟨zs ++ [.ref t], _, _, rfl, upd_same, ?_, same_upd2 (g3.trans (same_upd ht)) fl⟩
      rw [List.range_succ, List.map_append, ← List.cons_append, ← List.cons_append]
      refine Paired.snoc (L2.Paired.mapP g2 fun v q h => (h.same (same_upd ht)).upd g1' (fun xs z => nomatch z)) ⟨t, rfl, ?_⟩
      rw [upd_ne (ne_of_none g1 ht).symm, upd_same, kq_tup]
      have z1 : ((s.1 - 1 : Nat) : Int) = (s.1 : Int) - 1 := by omega
      have z2 : ((s.2.2.1 + (s.1 - 1 - i) : Nat) : Int) = (s.2.2.1 : Int) + ((s.1 : Int) - 1 - (0 + (i : Int))) := by omega
      have z3 : ((s.2.2.2 + i : Nat) : Int) = (s.2.2.2 : Int) + (0 + (i : Int)) := by omega
      show _ = some (HO.tup [V.int ((s.1 - 1 : Nat) : Int), V.int (s.2.1 : Nat), V.int ((s.2.2.1 + (s.1 - 1 - i) : Nat) : Int), V.int ((s.2.2.2 + i : Nat) : Int)])
      rw [z1, z2, z3]
    · rintro σ H2 ⟨zs, w4, w5, rfl, g1, g2, g3⟩
      exact ⟨_, rfl, k l zs H2 fl g1 g2 g3⟩
/-! ### counts_behind -/
def spCounts : Sp := fun vs H Q _ => ∃ (d : Addr) (left : Nat) (tb : List (St4 × Nat)) (L : List St4), vs = [.ref d, .int left] ∧ H d = some (.dT (encT tb)) ∧ Tab tb L ∧ (∀ s ∈ L, s.1 ≤ 60) ∧ (L.flatMap (fltN left)).length ≤ 16000000 ∧
  ∀ d' tb' H', H d' = none → H' d' = some (.dT (encT tb')) → Tab tb' (L.flatMap (fltN left)) → (∀ b o, b ≠ d → H b = some o → H' b = some o) → Q (.ref d') H'
theorem scCounts : FnScope ["counts", "left", "behind", "state", "count", "further"] ["counts", "left"] (defScope sCountsBehind) := ⟨rfl, rfl, rfl, by decide +kernel, rfl, by decide +kernel, by decide +kernel⟩
theorem addAll_snoc (left : Nat) (tb : List (St4 × Nat)) (p : St4 × Nat) : addAll left (tb ++ [p]) = addAll left tb ++ (fltN left p.1).flatMap (List.replicate p.2) := by unfold addAll; rw [List.flatMap_append]; simp
theorem addAll_take (left : Nat) (tb : List (St4 × Nat)) (j : Nat) : (addAll left (tb.take j)).length ≤ (addAll left tb).length := by
  conv => rhs; rw [← List.take_append_drop j tb]
  unfold addAll
  rw [List.flatMap_append, List.length_append]
  omega
theorem ok_counts {f fSb : Addr} {fd fdSb : FuncData} (G : Glb K mg "counts_behind" ["counts", "left"] sCountsBehind f fd) (GSb : Glb K mg "states_behind" ["state"] sStatesBehind fSb fdSb) (n_range : mg "range" = none) : FnOk P w K mg base CX0 2 f fd ["counts", "left"] spCounts := by
  have FSb : FnOk P w K mg base CX0 1 fSb fdSb ["state"] spStates := ok_states GSb n_range
  refine G.fn.ok scCounts (fun vs H Q E h => ?_) (fun cdv A outer s0 H vs Q E hr h => ?_)
  · obtain ⟨d, left, tb, L, rfl, _⟩ := h; rfl
  · obtain ⟨d, left, tb, L, rfl, hd, hT, hL60, hLen, k⟩ := h
    have nd := scCounts.nd
    have hu1 := hu_of hr
    have hal := addAll_len hT left
    refine ⟨_, (pss_cons (ps_set (i := 2) nd rfl (Or.inl rfl) pe_dnewT)
      (pss_cons (ps_for PassesOwn.never rfl (pi_items (pv 0)) (pg_tup rfl (pgs_cons (pg_name (i := 3) nd rfl (Or.inl rfl)) (pgs_cons (pg_name (i := 4) nd rfl (Or.inl rfl)) pgs_nil))) (pss_one (ps_for PassesOwn.never rfl (pi_list (pe_call FSb hr rfl GSb.mgf GSb.fn.kp GSb.bd .nil pass0 (pa_cons (pv 3) pa_nil))) (pg_name (i := 5) nd rfl (Or.inl rfl)) (pss_one (ps_if (pt_cmpR op_le (pe_ix ix_tup (pv 5) pe_int (fun _ _ => rfl)) (pv 1) (nomark _)) (pss_one (ps_dput hu1 (pv 2) (pv 5) (pe_op op_add (pe_dget2 hu1 (pv 2) (pv 5) pe_int ⟨rfl, rfl, rfl, rfl⟩) (pv 4)) rfl)) pss_nil)))))
      (pss_one (ps_ret (pv 2))))), ?_⟩
    refine fun dn hdn => ?_
    have ndn : d ≠ dn := ne_of_none hd hdn
    refine ⟨_, rfl, d, encT tb, rfl, (same_upd hdn) _ _ hd, fun od => ?_⟩
    have hlenT : (encT tb).length = tb.length := by unfold encT; rw [List.length_map]
    refine for_items (kvs := encT tb) (fun j σ H2 => ∃ (tn : List (St4 × Nat)) (w3 w4 w5 : Option V), σ = [some (.ref d), some (.int (left : Nat)), some (.ref dn), w3, w4, w5] ∧ H2 d = some (.frz od (.dT (encT tb))) ∧ H2 dn = some (.dT (encT tn)) ∧ Tab tn (addAll left (tb.take j)) ∧ (∀ b o, b ≠ d → H b = some o → H2 b = some o)) ?_ ?_ ?_ ?_
    · refine ⟨[], none, none, none, rfl, upd_same, by rw [upd_ne ndn.symm, upd_same]; rfl, Tab.nil, fun b o nb e => by rw [upd_ne nb]; exact (same_upd hdn) _ _ e⟩
    · rintro j σ H2 _ ⟨tn, w3, w4, w5, rfl, g1, g2, g3, g4⟩
      exact g1
    · rintro j key v σ H2 T b hkv hT0 hb ⟨tn, w3, w4, w5, rfl, g1, g2, g3, g4⟩
      obtain ⟨p, hp⟩ : ∃ p, tb[j]? = some p := by
        cases e : tb[j]? with
        | none => unfold encT at hkv; rw [List.getElem?_map, e] at hkv; cases hkv
        | some p => exact ⟨p, rfl⟩
      obtain ⟨s, c⟩ := p
      have ekv : (kq s, V.int (c : Nat)) = (key, v) := by unfold encT at hkv; rw [List.getElem?_map, hp] at hkv; simpa using hkv
      injection ekv with ek ev
      subst ek ev
      have hpm : (s, c) ∈ tb := List.mem_of_getElem? hp
      have hc : 0 < c := hT.pos _ hpm
      have hsL : s ∈ L := by
        have := hT.val _ hpm
        exact List.count_pos_iff.mp (by rw [this]; exact hc)
      have sT : Same H2 (upd H2 T (.tup [.ref b, .int (c : Nat)])) := same_upd hT0
      refine ⟨T, [.ref b, .int (c : Nat)], rfl, SqT.of upd_same, rfl, _, _, rfl, _, _, rfl, rfl, ?_⟩
      refine ⟨_, rfl, b, s, rfl, sT _ _ hb, hL60 s hsL, fun l zs H3 hl hl3 hz s3 => ?_⟩
      have s23 := sT.trans s3
      have nl : l ≠ dn := fun z => by
        rw [z] at hl
        rw [sT _ _ g2] at hl
        cases hl
      have hzl := PySem.Paired.length hz
      refine ⟨l, rfl, ⟨zs, SqL.of hl3⟩, for_list (xs := zs) (fun t σ H4 => ∃ (tn : List (St4 × Nat)) (w5 : Option V), σ = [some (.ref d), some (.int (left : Nat)), some (.ref dn), some (.ref b), some (.int (c : Nat)), w5] ∧ H4 d = some (.frz od (.dT (encT tb))) ∧ H4 dn = some (.dT (encT tn)) ∧ Tab tn (addAll left (tb.take j) ++ (((nxt s).take t).filter fun q => decide (q.1 ≤ left)).flatMap (List.replicate c)) ∧ H4 l = some (.lst zs) ∧ Paired (TkT H4) zs (nxt s) ∧ (∀ b o, b ≠ d → H b = some o → H4 b = some o)) ?_ ?_ ?_ ?_⟩
      · exact ⟨tn, _, rfl, s23 _ _ g1, s23 _ _ g2, by simpa using g3, hl3, hz, fun b o nb e => s23 _ _ (g4 b o nb e)⟩
      · rintro t σ H4 _ ⟨tn, w5, rfl, q1, q2, q3, q4, q5, q6⟩
        exact SqL.of q4
      · rintro t x σ H4 hx ⟨tn, w5, rfl, q1, q2, q3, q4, q5, q6⟩
        obtain ⟨g, hg, a, rfl, ha⟩ := paired_get q5 hx
        have htk : ((nxt s).take (t + 1)).filter (fun q => decide (q.1 ≤ left)) = ((nxt s).take t).filter (fun q => decide (q.1 ≤ left)) ++ (if decide (g.1 ≤ left) = true then [g] else []) := by
          rw [List.take_add_one, hg, Option.toList_some, List.filter_append]
          congr 1
          rw [List.filter_cons]
          split <;> rfl
        refine ⟨_, rfl, a, _, 0, _, rfl, rfl, SqT.of ha, rfl, _, rfl, _, _, rfl, rfl, _, rfl, ite2 (fun cl => ?_) (fun cl => ?_)⟩
        · have cl' : g.1 ≤ left := by have := of_decide_eq_true cl; omega
          rw [if_pos (decide_eq_true cl')] at htk
          refine ⟨_, rfl, dn, rfl, .inr ⟨_, .inl q2⟩, _, rfl, _, DGet.t q2 ha, ?_⟩
          rw [q3.get g]
          refine ⟨_, rfl, _, _, rfl, rfl, _, rfl, _, rfl, dn, _, rfl, DPut.t q2 ha ?_, ?_⟩
          · rw [sizeLine_eq]
            unfold encT
            rw [List.length_map]
            have h1 := q3.len
            have h2 : (addAll left (tb.take j) ++ (((nxt s).take t).filter fun q => decide (q.1 ≤ left)).flatMap (List.replicate c)).length ≤ (addAll left (tb.take (j + 1))).length := by
              rw [List.take_add_one, hp, Option.toList_some, addAll_snoc, List.length_append, List.length_append, len_rep', len_rep']
              have h3 : (((nxt s).take t).filter fun q => decide (q.1 ≤ left)).length ≤ (fltN left s).length := by
                unfold fltN
                conv => rhs; rw [← List.take_append_drop t (nxt s)]
                rw [List.filter_append, List.length_append]
                omega
              have h4 := Nat.mul_le_mul_left c h3
              show _ ≤ (addAll left (tb.take j)).length + c * (fltN left s).length
              omega
            have h5 := addAll_take left tb (j + 1)
            omega
          · have e : V.int (((addAll left (tb.take j) ++ (((nxt s).take t).filter fun q => decide (q.1 ≤ left)).flatMap (List.replicate c)).count g : Nat) + (c : Nat) : Int) = V.int ((((addAll left (tb.take j) ++ (((nxt s).take t).filter fun q => decide (q.1 ≤ left)).flatMap (List.replicate c)).count g + c : Nat)) : Int) := by congr 1
            show ∃ _ _, _ ∧ _
            refine ⟨_, _, rfl, by rw [upd_ne ndn]; exact q1, by rw [upd_same]; exact congrArg (fun z => some (HO.dT z)) (put_enc tn g _), ?_, by rw [upd_ne nl]; exact q4, L2.Paired.mapP q5 fun v q h => h.upd q2 (fun xs z => nomatch z), fun b o nb e => ?_⟩
            · rw [htk, List.flatMap_append, ← List.append_assoc]
              have := q3.put hc g
              simpa using this
            · by_cases eb : b = dn
              · subst eb; rw [hdn] at e; cases e
              · rw [upd_ne eb]; exact q6 b o nb e
        · have cl' : ¬ g.1 ≤ left := fun z => cl (decide_eq_true (by omega))
          rw [if_neg (by simpa using cl'), List.append_nil] at htk
          exact ⟨tn, _, rfl, q1, q2, by rw [htk]; exact q3, q4, q5, q6⟩
      · rintro σ H4 ⟨tn, w5, rfl, q1, q2, q3, q4, q5, q6⟩
        rw [hzl, List.take_length] at q3
        refine ⟨tn, _, _, _, rfl, q1, q2, ?_, q6⟩
        rw [List.take_add_one, hp, Option.toList_some, addAll_snoc]
        exact q3
    · rintro σ H2 ⟨tn, w3, w4, w5, rfl, g1, g2, g3, g4⟩
      rw [hlenT, List.take_length] at g3
      exact ⟨_, rfl, k dn tn H2 hdn g2 (g3.congr fun g => addAll_count hT left g) g4⟩
/-! ### how_many_with -/
def hmw (n : Nat) (p c e : Int) : Nat := ((goes n 0).filter fun ws => decide ((opens ws : Int) = p ∧ (crW ws : Int) = c ∧ (neW ws : Int) = e)).length
def spWith (C : Addr) : Sp := fun vs H Q E => ∃ (n : Nat) (p c e : Int), vs = [.int n, .int p, .int c, .int e] ∧ n ≤ 60 ∧ (14 < n → ∀ H', Same H H' → E (.ref C) none H') ∧ (n ≤ 14 → ∀ H', Same H H' → Q (.int (hmw n p c e : Nat)) H')
theorem scWith : FnScope ["points", "pairs", "crossings", "nestings", "counts", "left"] ["points", "pairs", "crossings", "nestings"] (defScope sHowManyWith) := ⟨rfl, rfl, rfl, by decide +kernel, rfl, by decide +kernel, by decide +kernel⟩
theorem ivl14 : ∀ n, n ≤ 14 → ivl n ≤ 16000000 := by decide +kernel
/-- the rows after i points, of n -/
def rowsN (n : Nat) : Nat → List (List Stp × Nat)
  | 0 => [([], 0)]
  | i + 1 => LongAll (n - (i + 1)) (rowsN n i)
theorem rowsN_ok (n : Nat) : ∀ i, i ≤ n → RowsOk (rowsN n i) ∧ (∀ r ∈ rowsN n i, r.2 ≤ n - i) ∧ rowsTo (n - i) (rowsN n i) = goes n 0
  | 0, _ => by
    refine ⟨fun r hr => ?_, fun r hr => ?_, ?_⟩
    · rw [List.mem_singleton.mp hr]; exact ⟨Val.nil, rfl⟩
    · rw [List.mem_singleton.mp hr]; exact Nat.zero_le _
    · show rowsTo n [([], 0)] = _
      unfold rowsTo; simp
  | i + 1, hi => by
    obtain ⟨h1, h2, h3⟩ := rowsN_ok n i (by omega)
    have e : n - i = (n - (i + 1)) + 1 := by omega
    rw [e] at h2 h3
    refine ⟨longAll_ok h1, long_le _ h2, ?_⟩
    show rowsTo (n - (i + 1)) (LongAll (n - (i + 1)) (rowsN n i)) = _
    rw [long_to]; exact h3
def stN (n i : Nat) : List St4 := (rowsN n i).map fun r => statW r.1
theorem stN_succ {n i : Nat} (hi : i + 1 ≤ n) : stN n (i + 1) = (stN n i).flatMap (fltN (n - (i + 1))) := by
  obtain ⟨h1, h2, _⟩ := rowsN_ok n i (by omega)
  have e : n - i = (n - (i + 1)) + 1 := by omega
  rw [e] at h2
  exact longAll_stat h1 h2
theorem stN_len {n i : Nat} (hi : i ≤ n) (h14 : n ≤ 14) : (stN n i).length ≤ 16000000 := by
  obtain ⟨_, h2, h3⟩ := rowsN_ok n i hi
  unfold stN
  rw [List.length_map]
  have := rows_few (n - i) h2
  rw [h3, goes_len, wys_all] at this
  have := ivl14 n h14
  omega
theorem stN_last (n : Nat) : stN n n = (goes n 0).map statW := by
  obtain ⟨_, h2, h3⟩ := rowsN_ok n n (Nat.le_refl _)
  rw [Nat.sub_self] at h2 h3
  rw [rows_done h2] at h3
  unfold stN
  rw [← h3, List.map_map]
  rfl
theorem hmw_count (n : Nat) (p c e : Nat) : hmw n p c e = (stN n n).count (0, p, c, e) := by
  rw [stN_last]
  unfold hmw
  rw [List.count_eq_countP, List.countP_map, List.countP_eq_length_filter]
  congr 1
  refine List.filter_congr fun ws hws => ?_
  obtain ⟨hW, _⟩ := goes_walk hws
  have h0 := hW.2
  rw [Bool.eq_iff_iff]
  simp only [Function.comp, decide_eq_true_eq, beq_iff_eq, statW, Prod.mk.injEq, h0, true_and]
  omega
theorem ok_with {f fCb C : Addr} {fd fdCb : FuncData} {tkW : Tok} (G : Glb K mg "how_many_with" ["points", "pairs", "crossings", "nestings"] sHowManyWith f fd) (GCb : Glb K mg "counts_behind" ["counts", "left"] sCountsBehind fCb fdCb) (FCb : FnOk P w K mg base CX0 2 fCb fdCb ["counts", "left"] spCounts) (hTM : mg "TooMany" = some (.ref C)) (hqTM : PySem.W.excIn K C bmV "ValueError.__new__" = true) (hMW : mg "MOST_POINTS_WITH" = some (.int 14 tkW)) (n_range : mg "range" = none) : FnOk P w K mg base (CX1 P w) 3 f fd ["points", "pairs", "crossings", "nestings"] (spWith C) := by
  refine G.fn.ok1 scWith (fun vs H Q E h => ?_) (fun cdv A outer s0 H vs Q E hr h => ?_)
  · obtain ⟨n, p, c, e, rfl, _⟩ := h; rfl
  · obtain ⟨n, p, c, e, rfl, h60, kE, kQ⟩ := h
    have nd := scWith.nd
    have hu1 := hu_of hr
    refine ⟨_, (pss_cons (ps_if (pt_cmpR op_gt (pv 0) (pe_glob (v := .int 14) (by rfl) hMW ⟨_, rfl⟩) (nomark _)) (pss_one (ps_raise (by rfl) hTM hqTM (pa_cons pe_str pa_nil))) pss_nil)
      (pss_cons (ps_set (i := 4) nd rfl (Or.inl rfl) (pe_disp1 hu1 (pe_tup (pa_cons pe_int (pa_cons pe_int (pa_cons pe_int (pa_cons pe_int pa_nil))))) pe_int))
      (pss_cons (ps_for PassesOwn.leaving rfl (pi_down rfl n_range (pa_cons (pe_op op_sub (pv 0) pe_int) (pa_cons (pe_un un_neg pe_int) (pa_cons (pe_un un_neg pe_int) pa_nil)))) (pg_name (i := 5) nd rfl (Or.inl rfl)) (pss_one (ps_set (i := 4) nd rfl (Or.inl rfl) (pe_call FCb hr rfl GCb.mgf GCb.fn.kp GCb.bd .nil pass0 (pa_cons (pv 4) (pa_cons (pv 5) pa_nil))))))
      (pss_one (ps_ret (pe_dget2 hu1 (pv 4) (pe_tup (pa_cons pe_int (pa_cons (pv 1) (pa_cons (pv 2) (pa_cons (pv 3) pa_nil))))) pe_int ⟨rfl, rfl, rfl, rfl⟩)))))), ?_⟩
    refine ⟨_, rfl, _, _, rfl, rfl, _, rfl, ite2 (fun c1 => ?_) (fun c1 => ?_)⟩
    · exact ⟨by show 1 ≤ sizeLine; decide, kE (by have := of_decide_eq_true c1; omega) H (Same.refl _)⟩
    have h14 : n ≤ 14 := by
      have c1' : ¬ (14 : Int) < (n : Nat) := fun z => c1 (decide_eq_true z)
      omega
    refine fun d hd => ?_
    refine ⟨by show 4 ≤ sizeLine; decide, fun t ht => ?_⟩
    have ntd : d ≠ t := by
      rintro rfl
      rw [upd_same] at ht
      cases ht
    have sd : Same H (upd H d (.dT [])) := same_upd hd
    have st : Same H (upd (upd H d (.dT [])) t (.tup [.int 0, .int 0, .int 0, .int 0])) := sd.trans (same_upd ht)
    refine ⟨by rw [upd_ne ntd, upd_same], t, kq (0, 0, 0, 0), rfl, by rw [upd_same]; rfl, ?_⟩
    have nlen : ((n : Int) - 1 - -1).toNat = n := by omega
    refine ⟨_, rfl, _, _, rfl, rfl, _, rfl, _, rfl, (n : Int) - 1, -1, rfl, ⟨by omega, by omega, by omega, by omega⟩, ?_⟩
    rw [nlen]
    refine for_step (fun i σ H2 => ∃ (dd : Addr) (tb : List (St4 × Nat)) (w5 : Option V), σ = [some (.int (n : Nat)), some (.int p), some (.int c), some (.int e), some (.ref dd), w5] ∧ H2 dd = some (.dT (encT tb)) ∧ Tab tb (stN n i) ∧ H dd = none ∧ Same H H2) ?_ ?_ ?_
    · refine ⟨d, [((0, 0, 0, 0), 1)], none, rfl, by rw [upd_same]; rfl, ⟨by simp, fun q hq => ?_, fun x hx => ?_, fun q hq => ?_⟩, hd, same_upd2 st hd⟩
      · rw [List.mem_singleton.mp hq]; rfl
      · have e1 : x = statW [] := by simpa [stN, rowsN] using hx
        have e0 : statW [] = (0, 0, 0, 0) := rfl
        rw [e1, e0]; simp
      · rw [List.mem_singleton.mp hq]; exact Nat.one_pos
    · rintro i σ H2 hi ⟨dd, tb, w5, rfl, g1, g2, g3, g4⟩
      have hv : (n : Int) - 1 + (i : Int) * -1 = ((n - (i + 1) : Nat) : Int) := by omega
      have es := stN_succ (show i + 1 ≤ n by omega)
      refine ⟨_, rfl, _, rfl, dd, n - (i + 1), tb, stN n i, by rw [← hv]; rfl, g1, g2, fun s hs => ?_, by rw [← es]; exact stN_len (by omega) h14, fun d' tb' H3 hd' hd3 hT' hk => ?_⟩
      · obtain ⟨r, hr2, rfl⟩ := List.mem_map.mp hs
        obtain ⟨h1, h2, _⟩ := rowsN_ok n i (by omega)
        have := h2 r hr2
        have := (h1 r hr2).2
        show hgt r.1 ≤ 60
        omega
      · refine ⟨d', tb', _, rfl, hd3, by rw [es]; exact hT', g4.free hd', fun b o eb => hk b o (fun z => ?_) (g4 _ _ eb)⟩
        subst z
        rw [g3] at eb
        cases eb
    · rintro σ H2 ⟨dd, tb, w5, rfl, g1, g2, g3, g4⟩
      refine ⟨_, rfl, dd, rfl, .inr ⟨_, .inl g1⟩, _, rfl, _, rfl, _, rfl, by show 4 ≤ sizeLine; decide, fun t2 ht2 => ?_⟩
      have sT := same_upd (o := .tup [.int 0, .int p, .int c, .int e]) ht2
      have hk2 : (upd H2 t2 (.tup [.int 0, .int p, .int c, .int e])) t2 = some (.tup (([.inl 0, .inl p, .inl c, .inl e] : List Key).map kV)) := by rw [upd_same]; rfl
      refine ⟨_, DGet.t (sT _ _ g1) hk2, ?_⟩
      have val : (valV (encT tb) ([.inl 0, .inl p, .inl c, .inl e] : List Key)).getD (.int 0) = .int (hmw n p c e : Nat) := by
        by_cases pos : 0 ≤ p ∧ 0 ≤ c ∧ 0 ≤ e
        · obtain ⟨p', rfl⟩ : ∃ p' : Nat, p = p' := ⟨p.toNat, by omega⟩
          obtain ⟨c', rfl⟩ : ∃ c' : Nat, c = c' := ⟨c.toNat, by omega⟩
          obtain ⟨e', rfl⟩ : ∃ e' : Nat, e = e' := ⟨e.toNat, by omega⟩
          rw [hmw_count]
          exact g2.get (0, p', c', e')
        · rw [valV_none fun q _ z => ?_]
          · have : hmw n p c e = 0 := by
              unfold hmw
              rw [List.length_eq_zero_iff, List.filter_eq_nil_iff]
              intro ws _ z
              have := of_decide_eq_true z
              omega
            rw [this]; rfl
          · simp only [kq, List.cons.injEq, Sum.inl.injEq, and_true] at z
            omega
      rw [val]
      exact kQ h14 _ (g4.trans sT)
end
end My
namespace My
open PySem L2 Pl
theorem pass10 {P : Program} {w : World} {X : Cx} : Passes (CX1 P w) X E0 := fun _ _ _ _ _ _ _ h => by
  obtain ⟨_, _, _, _, _, _, _, _, _, q⟩ := h
  exact q.elim
end My
namespace My
open PySem L2 Pl
theorem hmw_cw (n : Nat) (p c e : Int) : hmw n p c e = cwI n 0 p c e := by
  unfold hmw cwI
  refine congrArg List.length (List.filter_congr fun ws hws => ?_)
  obtain ⟨hW, _⟩ := goes_walk hws
  obtain ⟨a, b, d⟩ := stat_walk hW
  rw [a, b, d]
theorem hmw_turn (n : Nat) (p c e : Int) : hmw n p c e = hmw n p e c := by rw [hmw_cw, hmw_cw, cwI_turn]
theorem hmw_hN (n p c e : Nat) : hmw n p c e = hN n p c e := by
  rw [hmw_cw, cwI_nl]
  unfold hN
  rw [Nat.zero_add, nlP_nl]
theorem say {a b : Int} {Q : VK} {H : Hp} (h : a = b) (k : Q (.bl true) H) : Q (.bl (decide (V.int a = V.int b))) H := by
  rw [decide_eq_true (congrArg _ h)]; exact k
theorem if_viaN {b : Bool} {A : Prop} {T : List (Option V) → Hp → Prop} {σ0 : List (Option V)} {H : Hp} (σ : Nat → List (Option V)) (n0 : Nat) (P : Nat → Prop) (yes : (∀ n, P n → T (σ n) H) → A) (no : P n0) (rest : ∀ n, P n → T (σ n) H) (e : σ n0 = σ0) : if b = true then A else T σ0 H := by
  cases b with
  | true => exact iteT (yes rest)
  | false => subst e; exact iteF (rest _ no)
def sB (n k a j : Nat) : Nat := ((List.range j).map fun b : Nat => hmw n k a b).sum
def sA (n k top j : Nat) : Nat := ((List.range j).map fun a => sB n k a top).sum
def sK (n top j : Nat) : Nat := ((List.range j).map fun k => sA n k top top).sum
theorem sB_succ (n k a j : Nat) : sB n k a (j + 1) = sB n k a j + hmw n k a j := by unfold sB; rw [List.range_succ, List.map_append, List.sum_append]; simp
theorem sA_succ (n k top j : Nat) : sA n k top (j + 1) = sA n k top j + sB n k j top := by unfold sA; rw [List.range_succ, List.map_append, List.sum_append]; simp
theorem sK_succ (n top j : Nat) : sK n top (j + 1) = sK n top j + sA n j top top := by unfold sK; rw [List.range_succ, List.map_append, List.sum_append]; simp
theorem sB_hN (n k a j : Nat) : sB n k a j = ((List.range j).map fun b => hN n k a b).sum := by
  unfold sB
  exact congrArg List.sum (List.map_congr_left fun b _ => hmw_hN n k a b)
theorem sK_all {few : Nat} (h : few ≤ 6) : sK few (topOf few) (few / 2 + 1) = ivl few := by
  rw [← all_few few h]
  unfold sK sA
  refine congrArg List.sum (List.map_congr_left fun k _ => ?_)
  refine congrArg List.sum (List.map_congr_left fun a _ => ?_)
  exact sB_hN few k a _
theorem most_int : ∀ p : Nat, p ≤ 7 → (p : Int) * ((p : Int) - 1) / 2 = (most p : Nat) := by decide +kernel
theorem most_le : ∀ p : Nat, p ≤ 7 → most p ≤ 21 := by decide +kernel
section
variable {P : Program} {w : World} {K : PySem.W.Frag} {mg : Str → Option Value} {base : Heap}
/-! ### _law_choose -/
def spLChoose : Sp := fun vs H Q _ => ∃ m s : Nat, vs = [.int m, .int s] ∧ m ≤ 14 ∧ s ≤ m ∧ Q (.int (chs m s : Nat)) H
theorem scLChoose : FnScope ["many", "some", "found", "k"] ["many", "some"] (defScope sLChoose) := ⟨rfl, rfl, rfl, by decide +kernel, rfl, by decide +kernel, by decide +kernel⟩
theorem ok_lchoose {f : Addr} {fd : FuncData} (G : Glb K mg "_law_choose" ["many", "some"] sLChoose f fd) (n_range : mg "range" = none) : FnOk P w K mg base CX0 1 f fd ["many", "some"] spLChoose := by
  refine G.fn.ok scLChoose (fun vs H Q E h => ?_) (fun cdv A outer s H vs Q E hr h => ?_)
  · obtain ⟨m, s, rfl, _⟩ := h; rfl
  · obtain ⟨m, s, rfl, hm, hs, k⟩ := h
    have nd := scLChoose.nd
    refine ⟨_, (pss_cons (ps_set (i := 2) nd rfl (Or.inl rfl) pe_int)
      (pss_cons (ps_for PassesOwn.never rfl (pi_range1 rfl n_range (pa_cons (pv 1) pa_nil)) (pg_name (i := 3) nd rfl (Or.inl rfl)) (pss_one (ps_set (i := 2) nd rfl (Or.inl rfl) (pe_op op_fdiv (pe_op op_mul (pv 2) (pe_op op_sub (pv 0) (pv 3))) (pe_op op_add (pv 3) pe_int)))))
      (pss_one (ps_ret (pv 2))))), ?_⟩
    refine ⟨_, rfl, (s : Int), rfl, by omega, by omega, ?_⟩
    rw [show ((s : Nat) : Int).toNat = s by simp]
    refine for_range (lo := 0) (fun i σ H2 => ∃ (w3 : Option V), σ = [some (.int (m : Nat)), some (.int (s : Nat)), some (.int (chs m i : Nat)), w3] ∧ H2 = H) ?_ ?_ ?_
    · refine ⟨none, ?_, rfl⟩
      have : chs m 0 = 1 := by cases m <;> rfl
      rw [this]; rfl
    · rintro i σ H2 hi ⟨w3, rfl, rfl⟩
      have hc := chs_le m hm i (by omega)
      refine ⟨_, rfl, _, rfl, _, rfl, _, _, rfl, rfl, _, _, rfl, rfl, .inl ⟨by omega, by omega⟩, _, rfl, _, _, rfl, rfl, _, _, rfl, rfl, ⟨by omega, by omega⟩, ?_⟩
      have e : ((chs m i : Nat) : Int) * ((m : Int) - (0 + (i : Int))) / (0 + (i : Int) + 1) = (chs m (i + 1) : Nat) := by
        have e1 : (m : Int) - (0 + (i : Int)) = ((m - i : Nat) : Int) := by omega
        have e2 : 0 + (i : Int) + 1 = ((i + 1 : Nat) : Int) := by omega
        rw [e1, e2, ← chs_next m hm i (by omega)]
        norm_cast
      refine ⟨some (.int (0 + (i : Int))), ?_, rfl⟩
      rw [← e]
      rfl
    · rintro σ H2 ⟨w3, rfl, rfl⟩
      exact ⟨_, rfl, k⟩
/-! ### _law_plain -/
def spLPlain : Sp := fun vs H Q _ => ∃ n p t : Nat, vs = [.int n, .int p, .int t] ∧ n ≤ 14 ∧ t ≤ 60 ∧ ∀ H', Same H H' → Q (.int (sB n p 0 t : Nat)) H'
theorem scLPlain : FnScope ["points", "pairs", "top", "found", "nests"] ["points", "pairs", "top"] (defScope sLPlain) := ⟨rfl, rfl, rfl, by decide +kernel, rfl, by decide +kernel, by decide +kernel⟩
theorem ok_lplain {f fWi C : Addr} {fd fdWi : FuncData} (G : Glb K mg "_law_plain" ["points", "pairs", "top"] sLPlain f fd) (GWi : Glb K mg "how_many_with" ["points", "pairs", "crossings", "nestings"] sHowManyWith fWi fdWi) (FWi : FnOk P w K mg base (CX1 P w) 3 fWi fdWi ["points", "pairs", "crossings", "nestings"] (spWith C)) (n_range : mg "range" = none) : FnOk P w K mg base CX0 4 f fd ["points", "pairs", "top"] spLPlain := by
  refine G.fn.ok scLPlain (fun vs H Q E h => ?_) (fun cdv A outer s H vs Q E hr h => ?_)
  · obtain ⟨n, p, t, rfl, _⟩ := h; rfl
  · obtain ⟨n, p, t, rfl, hn, ht, k⟩ := h
    have nd := scLPlain.nd
    refine ⟨_, (pss_cons (ps_set (i := 3) nd rfl (Or.inl rfl) pe_int)
      (pss_cons (ps_for PassesOwn.never rfl (pi_range1 rfl n_range (pa_cons (pv 2) pa_nil)) (pg_name (i := 4) nd rfl (Or.inl rfl)) (pss_one (ps_set (i := 3) nd rfl (Or.inl rfl) (pe_op op_add (pv 3) (pe_call FWi hr rfl GWi.mgf GWi.fn.kp GWi.bd .nil pass10 (pa_cons (pv 0) (pa_cons (pv 1) (pa_cons pe_int (pa_cons (pv 4) pa_nil)))))))))
      (pss_one (ps_ret (pv 3))))), ?_⟩
    refine ⟨_, rfl, (t : Int), rfl, by omega, by omega, ?_⟩
    rw [show ((t : Nat) : Int).toNat = t by simp]
    refine for_range (lo := 0) (fun i σ H2 => ∃ (w4 : Option V), σ = [some (.int (n : Nat)), some (.int (p : Nat)), some (.int (t : Nat)), some (.int (sB n p 0 i : Nat)), w4] ∧ Same H H2) ?_ ?_ ?_
    · exact ⟨none, rfl, Same.refl _⟩
    · rintro i σ H2 hi ⟨w4, rfl, s2⟩
      refine ⟨_, rfl, _, rfl, _, rfl, _, rfl, n, p, 0, _, rfl, by omega, fun q => absurd q (by omega), fun _ H8 s8 => ?_⟩
      refine ⟨_, _, rfl, rfl, ?_⟩
      have e : ((sB n p 0 i : Nat) : Int) + (hmw n p 0 (0 + (i : Int)) : Nat) = (sB n p 0 (i + 1) : Nat) := by
        rw [sB_succ, Int.zero_add, Int.natCast_add]; rfl
      refine ⟨some (.int (0 + (i : Int))), ?_, s2.trans s8⟩
      rw [← e]
      rfl
    · rintro σ H2 ⟨w4, rfl, s2⟩
      exact ⟨_, rfl, k _ s2⟩
/-! ### _law_great -/
def spLGreat : Sp := fun vs H Q _ => ∃ (n : Nat) (c : Int), vs = [.int n, .int c] ∧ n ≤ 14 ∧ ∀ H', Q (.bl true) H'
theorem scLGreat : FnScope ["points", "cell", "pairs", "due", "most", "way", "crosses", "nests", "whole"] ["points", "cell"] (defScope sLGreat) := ⟨rfl, rfl, rfl, by decide +kernel, rfl, by decide +kernel, by decide +kernel⟩
theorem ok_lgreat {f fWi fCh C : Addr} {fd fdWi fdCh : FuncData} (G : Glb K mg "_law_great" ["points", "cell"] sLGreat f fd) (GWi : Glb K mg "how_many_with" ["points", "pairs", "crossings", "nestings"] sHowManyWith fWi fdWi) (FWi : FnOk P w K mg base (CX1 P w) 3 fWi fdWi ["points", "pairs", "crossings", "nestings"] (spWith C)) (GCh : Glb K mg "_law_choose" ["many", "some"] sLChoose fCh fdCh) (FCh : FnOk P w K mg base CX0 3 fCh fdCh ["many", "some"] spLChoose) (n_max : mg "max" = none) : FnOk P w K mg base CX0 4 f fd ["points", "cell"] spLGreat := by
  refine G.fn.ok scLGreat (fun vs H Q E h => ?_) (fun cdv A outer s H vs Q E hr h => ?_)
  · obtain ⟨n, c, rfl, _⟩ := h; rfl
  · obtain ⟨n, c, rfl, hn, k⟩ := h
    have nd := scLGreat.nd
    refine ⟨_, (pss_cons (ps_set (i := 2) nd rfl (Or.inl rfl) (pe_op op_mod (pe_op op_fdiv (pv 1) pe_int) (pe_op op_add (pe_op op_fdiv (pv 0) pe_int) pe_int)))
      (pss_cons (ps_set (i := 3) nd rfl (Or.inl rfl) (pe_call FCh hr rfl GCh.mgf GCh.fn.kp GCh.bd .nil pass0 (pa_cons (pv 0) (pa_cons (pe_op op_mul pe_int (pv 2)) pa_nil))))
      (pss_cons (ps_set (i := 4) nd rfl (Or.inl rfl) (pe_op op_fdiv (pe_op op_mul (pv 2) (pe_op op_sub (pv 2) pe_int)) pe_int))
      (pss_cons (ps_set (i := 5) nd rfl (Or.inl rfl) (pe_op op_mod (pv 1) pe_int))
      (pss_cons (ps_if (pt_cmpR op_eq (pv 5) pe_int (nomark _)) (pss_one (ps_ret (pe_cmpR op_eq (pe_call FWi hr rfl GWi.mgf GWi.fn.kp GWi.bd .nil pass10 (pa_cons (pv 0) (pa_cons (pv 2) (pa_cons pe_int (pa_cons pe_int pa_nil))))) (pv 3) (nomark _)))) pss_nil)
      (pss_cons (ps_if (pt_cmpR op_eq (pv 5) pe_int (nomark _)) (pss_one (ps_ret (pe_cmpR op_eq (pe_call FWi hr rfl GWi.mgf GWi.fn.kp GWi.bd .nil pass10 (pa_cons (pv 0) (pa_cons (pv 2) (pa_cons pe_int (pa_cons pe_int pa_nil))))) (pe_op op_mul (pe_callB (call_max2 rfl) (by rfl) n_max PyProof.Rows.boot_max (pa_cons pe_int (pa_cons (pe_op op_sub (pv 2) pe_int) pa_nil))) (pv 3)) (nomark _)))) pss_nil)
      (pss_cons (ps_if (pt_cmpR op_eq (pv 5) pe_int (nomark _)) (pss_one (ps_ret (pe_cmpR op_eq (pe_call FWi hr rfl GWi.mgf GWi.fn.kp GWi.bd .nil pass10 (pa_cons (pv 0) (pa_cons (pv 2) (pa_cons pe_int (pa_cons pe_int pa_nil))))) (pe_op op_mul (pe_callB (call_max2 rfl) (by rfl) n_max PyProof.Rows.boot_max (pa_cons pe_int (pa_cons (pe_op op_sub (pv 2) pe_int) pa_nil))) (pv 3)) (nomark _)))) pss_nil)
      (pss_cons (ps_if (pt_cmpR op_eq (pv 5) pe_int (nomark _)) (pss_one (ps_ret (pe_and (pe_cmpR op_eq (pe_call FWi hr rfl GWi.mgf GWi.fn.kp GWi.bd .nil pass10 (pa_cons (pv 0) (pa_cons (pv 2) (pa_cons (pv 4) (pa_cons pe_int pa_nil))))) (pv 3) (nomark _)) (pe_one (pe_cmpR op_eq (pe_call FWi hr rfl GWi.mgf GWi.fn.kp GWi.bd .nil pass10 (pa_cons (pv 0) (pa_cons (pv 2) (pa_cons (pe_op op_add (pv 4) pe_int) (pa_cons pe_int pa_nil))))) pe_int (nomark _)))))) pss_nil)
      (pss_cons (ps_if (pt_cmpR op_eq (pv 5) pe_int (nomark _)) (pss_one (ps_ret (pe_cmpR op_eq (pe_call FWi hr rfl GWi.mgf GWi.fn.kp GWi.bd .nil pass10 (pa_cons (pv 0) (pa_cons (pv 2) (pa_cons pe_int (pa_cons (pv 4) pa_nil))))) (pv 3) (nomark _)))) pss_nil)
      (pss_cons (ps_set (i := 6) nd rfl (Or.inl rfl) (pe_op op_mod (pe_op op_fdiv (pv 1) pe_int) (pe_op op_add (pv 4) pe_int)))
      (pss_cons (ps_set (i := 7) nd rfl (Or.inl rfl) (pe_op op_mod (pe_op op_fdiv (pv 1) pe_int) (pe_op op_sub (pe_op op_add (pv 4) pe_int) (pv 6))))
      (pss_cons (ps_set (i := 8) nd rfl (Or.inl rfl) (pe_call FWi hr rfl GWi.mgf GWi.fn.kp GWi.bd .nil pass10 (pa_cons (pv 0) (pa_cons (pv 2) (pa_cons (pv 6) (pa_cons (pv 7) pa_nil))))))
      (pss_one (ps_ret (pe_cmpR op_eq (pv 8) (pe_op op_mul (pv 3) (pe_call FWi hr rfl GWi.mgf GWi.fn.kp GWi.bd .nil pass10 (pa_cons (pe_op op_mul pe_int (pv 2)) (pa_cons (pv 2) (pa_cons (pv 6) (pa_cons (pv 7) pa_nil)))))) (nomark _)))))))))))))))), ?_⟩
    refine ⟨_, rfl, _, _, rfl, rfl, ⟨by decide, by decide⟩, _, rfl, _, _, rfl, rfl, ⟨by decide, by decide⟩, _, _, rfl, rfl, _, _, rfl, rfl, by show (0 : Int) < (n : Int) / 2 + 1; omega, ?_⟩
    obtain ⟨p, hp, hp2⟩ : ∃ p : Nat, c / 6 % ((n : Int) / 2 + 1) = (p : Int) ∧ 2 * p ≤ n := by
      have a := Int.emod_nonneg (c / 6) (show (n : Int) / 2 + 1 ≠ 0 by omega)
      have b := Int.emod_lt_of_pos (c / 6) (show (0 : Int) < (n : Int) / 2 + 1 by omega)
      generalize c / 6 % ((n : Int) / 2 + 1) = r at a b
      exact ⟨r.toNat, by omega, by omega⟩
    show gName 2 (V.int (c / 6 % ((n : Int) / 2 + 1))) _ _ _
    rw [hp]
    have hp7 : p ≤ 7 := by omega
    have hdue := chs_le n hn (2 * p) (by omega)
    refine ⟨_, rfl, _, rfl, _, _, rfl, rfl, .inl ⟨by decide, by decide⟩, n, 2 * p, rfl, hn, hp2, ?_⟩
    refine ⟨_, rfl, _, rfl, _, _, rfl, rfl, _, _, rfl, rfl, .inl ⟨by omega, by omega⟩, _, _, rfl, rfl, ⟨by decide, by decide⟩, ?_⟩
    show gName 4 (V.int ((p : Int) * ((p : Int) - 1) / 2)) _ _ _
    rw [most_int p hp7]
    have hmo := most_le p hp7
    refine ⟨_, rfl, _, _, rfl, rfl, by show (0 : Int) < 6; decide, ?_⟩
    have emax : (if (p : Int) - 1 > 0 then (p : Int) - 1 else 0) = ((p - 1 : Nat) : Int) := by
      by_cases z : (p : Int) - 1 > 0
      · rw [if_pos z]; omega
      · rw [if_neg z]; omega
    -- way 0
    refine ⟨_, rfl, rfl, _, rfl, ite2 (fun _ => ?_) (fun _ => ?_)⟩
    · refine ⟨_, rfl, _, rfl, n, p, 0, 0, rfl, by omega, fun q => absurd q (by omega), fun _ H8 s8 => ?_⟩
      refine ⟨_, rfl, rfl, say (Q := Q) ?_ (k _)⟩
      rw [show hmw n p 0 0 = hN n p 0 0 from hmw_hN n p 0 0, hN, nl_00 p hp7, Nat.mul_one]
    -- way 1
    refine ⟨_, rfl, rfl, _, rfl, ite2 (fun _ => ?_) (fun _ => ?_)⟩
    · refine ⟨_, rfl, _, rfl, n, p, 1, 0, rfl, by omega, fun q => absurd q (by omega), fun _ H8 s8 => ?_⟩
      refine ⟨_, rfl, _, _, rfl, rfl, 0, (p : Int) - 1, rfl, _, rfl, _, _, rfl, rfl, .inr ⟨by omega, by omega⟩, rfl, say (Q := Q) ?_ (k _)⟩
      rw [emax, show hmw n p 1 0 = hN n p 1 0 from hmw_hN n p 1 0, hN, nl_10 p hp7, Nat.mul_comm]
      exact Int.natCast_mul _ _
    -- way 2
    refine ⟨_, rfl, rfl, _, rfl, ite2 (fun _ => ?_) (fun _ => ?_)⟩
    · refine ⟨_, rfl, _, rfl, n, p, 0, 1, rfl, by omega, fun q => absurd q (by omega), fun _ H8 s8 => ?_⟩
      refine ⟨_, rfl, _, _, rfl, rfl, 0, (p : Int) - 1, rfl, _, rfl, _, _, rfl, rfl, .inr ⟨by omega, by omega⟩, rfl, say (Q := Q) ?_ (k _)⟩
      rw [emax, show hmw n p 0 1 = hN n p 0 1 from hmw_hN n p 0 1, hN, nl_01 p hp7, Nat.mul_comm]
      exact Int.natCast_mul _ _
    -- way 3
    refine ⟨_, rfl, rfl, _, rfl, ite2 (fun _ => ?_) (fun _ => ?_)⟩
    · refine ⟨_, rfl, _, rfl, _, rfl, n, p, (most p : Nat), 0, rfl, by omega, fun q => absurd q (by omega), fun _ H8 s8 => ?_⟩
      refine ⟨_, rfl, rfl, _, rfl, ?_⟩
      rw [show hmw n p (most p : Nat) 0 = hN n p (most p) 0 from hmw_hN n p (most p) 0, hN, nl_m0 p hp7, Nat.mul_one, decide_eq_true rfl]
      refine iteT ⟨_, rfl, _, rfl, _, rfl, _, _, rfl, rfl, n, p, (most p : Int) + 1, 0, rfl, by omega, fun q => absurd q (by omega), fun _ H9 s9 => ⟨rfl, say (Q := Q) ?_ (k _)⟩⟩
      rw [show hmw n p ((most p : Int) + 1) 0 = hN n p (most p + 1) 0 from hmw_hN n p (most p + 1) 0, hN, nl_n0 p hp7, Nat.mul_zero]
      rfl
    -- way 4
    refine ⟨_, rfl, rfl, _, rfl, ite2 (fun _ => ?_) (fun _ => ?_)⟩
    · refine ⟨_, rfl, _, rfl, _, rfl, n, p, 0, (most p : Nat), rfl, by omega, fun q => absurd q (by omega), fun _ H8 s8 => ?_⟩
      refine ⟨_, rfl, rfl, say (Q := Q) ?_ (k _)⟩
      rw [show hmw n p 0 (most p : Nat) = hN n p 0 (most p) from hmw_hN n p 0 (most p), hN, nl_0m p hp7, Nat.mul_one]
    -- any numbers
    refine ⟨_, rfl, _, _, rfl, rfl, ⟨by decide, by decide⟩, _, rfl, _, _, rfl, rfl, _, _, rfl, rfl, by show (0 : Int) < (most p : Int) + 1; omega, ?_⟩
    obtain ⟨x, hx, hx2⟩ : ∃ x : Nat, c / 48 % ((most p : Int) + 1) = (x : Int) ∧ x ≤ most p := by
      have a := Int.emod_nonneg (c / 48) (show (most p : Int) + 1 ≠ 0 by omega)
      have b := Int.emod_lt_of_pos (c / 48) (show (0 : Int) < (most p : Int) + 1 by omega)
      generalize c / 48 % ((most p : Int) + 1) = r at a b
      exact ⟨r.toNat, by omega, by omega⟩
    show gName 6 (V.int (c / 48 % ((most p : Int) + 1))) _ _ _
    rw [hx]
    refine ⟨_, rfl, _, _, rfl, rfl, ⟨by decide, by decide⟩, _, rfl, _, _, rfl, rfl, _, rfl, _, _, rfl, rfl, _, _, rfl, rfl, by show (0 : Int) < (most p : Int) + 1 - x; omega, ?_⟩
    obtain ⟨y, hy⟩ : ∃ y : Nat, c / 1056 % ((most p : Int) + 1 - x) = (y : Int) := by
      have a := Int.emod_nonneg (c / 1056) (show (most p : Int) + 1 - x ≠ 0 by omega)
      generalize c / 1056 % ((most p : Int) + 1 - x) = r at a
      exact ⟨r.toNat, by omega⟩
    show gName 7 (V.int (c / 1056 % ((most p : Int) + 1 - x))) _ _ _
    rw [hy]
    refine ⟨_, rfl, _, rfl, _, rfl, _, rfl, n, p, x, y, rfl, by omega, fun q => absurd q (by omega), fun _ H8 s8 => ?_⟩
    refine ⟨_, rfl, _, rfl, _, rfl, _, _, rfl, rfl, .inl ⟨by decide, by decide⟩, _, rfl, _, rfl, _, rfl, 2 * p, p, x, y, rfl, by omega, fun q => absurd q (by omega), fun _ H9 s9 => ?_⟩
    refine ⟨_, _, rfl, rfl, .inl ⟨by omega, by omega⟩, rfl, say (Q := Q) ?_ (k _)⟩
    rw [hmw_hN n p x y, hmw_hN (2 * p) p x y, hN, hN, chs_all (2 * p) (by omega), Nat.one_mul]
    exact Int.natCast_mul _ _
/-! ### the law -/
def spLaw (K : PySem.W.Frag) : Sp := fun vs H Q _ => ∃ (a : Addr) (ns : List Int), vs = [.ref a] ∧ SqL K H a (ns.map V.int) ∧ ns.length ≤ 63 ∧ ∀ H', Q (.bl true) H'
theorem scLaw : FnScope ["script", "cell", "points", "pairs", "crosses", "nests", "few", "total", "top", "k", "a", "b", "some", "due"] ["script"] (defScope sLaw) := ⟨rfl, rfl, rfl, by decide +kernel, rfl, by decide +kernel, by decide +kernel⟩
theorem ok_law {f fCe fWi fHm fCh fPl fGr C : Addr} {fd fdCe fdWi fdHm fdCh fdPl fdGr : FuncData} (G : Glb K mg "law" ["script"] sLaw f fd) (GCe : Glb K mg "_law_cell_at" ["script", "k"] sCell fCe fdCe) (GWi : Glb K mg "how_many_with" ["points", "pairs", "crossings", "nestings"] sHowManyWith fWi fdWi) (GHm : Glb K mg "how_many" ["points"] sHowMany fHm fdHm) (GCh : Glb K mg "_law_choose" ["many", "some"] sLChoose fCh fdCh) (GPl : Glb K mg "_law_plain" ["points", "pairs", "top"] sLPlain fPl fdPl) (GGr : Glb K mg "_law_great" ["points", "cell"] sLGreat fGr fdGr)
    (FCe : FnOk P w K mg base CX0 4 fCe fdCe ["script", "k"] (spCell K)) (FWi : FnOk P w K mg base (CX1 P w) 4 fWi fdWi ["points", "pairs", "crossings", "nestings"] (spWith C)) (FHm : FnOk P w K mg base CX0 4 fHm fdHm ["points"] spHowMany) (FCh : FnOk P w K mg base CX0 4 fCh fdCh ["many", "some"] spLChoose) (FPl : FnOk P w K mg base CX0 4 fPl fdPl ["points", "pairs", "top"] spLPlain) (FGr : FnOk P w K mg base CX0 4 fGr fdGr ["points", "cell"] spLGreat) (n_range : mg "range" = none) (n_int : mg "int" = none) : FnOk P w K mg base CX0 5 f fd ["script"] (spLaw K) := by
  refine G.fn.ok scLaw (fun vs H Q E h => ?_) (fun cdv A outer s H vs Q E hr h => ?_)
  · obtain ⟨a, ns, rfl, _⟩ := h; rfl
  · obtain ⟨a, ns, rfl, hS, hlen, k⟩ := h
    have nd := scLaw.nd
    refine ⟨_, (pss_cons (ps_set (i := 1) nd rfl (Or.inl rfl) (pe_call FCe hr rfl GCe.mgf GCe.fn.kp GCe.bd .nil pass0 (pa_cons (pv 0) (pa_cons pe_int pa_nil))))
      (pss_cons (ps_set (i := 2) nd rfl (Or.inl rfl) (pe_op op_mod (pv 1) pe_int))
      (pss_cons (ps_if (pt_cmpR op_eq (pe_op op_mod (pe_op op_fdiv (pv 1) pe_int) pe_int) pe_int (nomark _)) (pss_one (ps_ret (pe_call FGr hr rfl GGr.mgf GGr.fn.kp GGr.bd .nil pass0 (pa_cons (pe_op op_add pe_int (pe_op op_mod (pe_op op_fdiv (pv 1) pe_int) pe_int)) (pa_cons (pe_op op_fdiv (pv 1) pe_int) pa_nil))))) pss_nil)
      (pss_cons (ps_set (i := 3) nd rfl (Or.inl rfl) (pe_op op_mod (pe_call FCe hr rfl GCe.mgf GCe.fn.kp GCe.bd .nil pass0 (pa_cons (pv 0) (pa_cons pe_int pa_nil))) pe_int))
      (pss_cons (ps_set (i := 4) nd rfl (Or.inl rfl) (pe_op op_mod (pe_call FCe hr rfl GCe.mgf GCe.fn.kp GCe.bd .nil pass0 (pa_cons (pv 0) (pa_cons pe_int pa_nil))) pe_int))
      (pss_cons (ps_set (i := 5) nd rfl (Or.inl rfl) (pe_op op_mod (pe_call FCe hr rfl GCe.mgf GCe.fn.kp GCe.bd .nil pass0 (pa_cons (pv 0) (pa_cons pe_int pa_nil))) pe_int))
      (pss_cons (ps_if (pt_cmpR op_ne (pe_call FWi hr rfl GWi.mgf GWi.fn.kp GWi.bd .nil pass10 (pa_cons (pv 2) (pa_cons (pv 3) (pa_cons (pv 4) (pa_cons (pv 5) pa_nil))))) (pe_call FWi hr rfl GWi.mgf GWi.fn.kp GWi.bd .nil pass10 (pa_cons (pv 2) (pa_cons (pv 3) (pa_cons (pv 5) (pa_cons (pv 4) pa_nil))))) (nomark _)) (pss_one (ps_ret pe_bl)) pss_nil)
      (pss_cons (ps_set (i := 6) nd rfl (Or.inl rfl) (pe_op op_mod (pv 1) pe_int))
      (pss_cons (ps_if (pt_cmpR op_eq (pe_op op_mod (pe_op op_fdiv (pv 1) pe_int) pe_int) pe_int (nomark _)) (pss_one (ps_set (i := 6) nd rfl (Or.inl rfl) (pe_op op_add pe_int (pe_op op_mod (pv 1) pe_int)))) pss_nil)
      (pss_cons (ps_set (i := 7) nd rfl (Or.inl rfl) pe_int)
      (pss_cons (ps_set (i := 8) nd rfl (Or.inl rfl) (pe_op op_add pe_int (pe_op op_mul pe_int (pe_callTy call_int1 (by rfl) n_int PyProof.Rows.boot_int (pa_cons (pe_cmpR op_gt (pv 6) pe_int (nomark _)) pa_nil)))))
      (pss_cons (ps_for PassesOwn.never rfl (pi_range1 rfl n_range (pa_cons (pe_op op_add (pe_op op_fdiv (pv 6) pe_int) pe_int) pa_nil)) (pg_name (i := 9) nd rfl (Or.inl rfl)) (pss_one (ps_for PassesOwn.never rfl (pi_range1 rfl n_range (pa_cons (pv 8) pa_nil)) (pg_name (i := 10) nd rfl (Or.inl rfl)) (pss_one (ps_for PassesOwn.never rfl (pi_range1 rfl n_range (pa_cons (pv 8) pa_nil)) (pg_name (i := 11) nd rfl (Or.inl rfl)) (pss_one (ps_set (i := 7) nd rfl (Or.inl rfl) (pe_op op_add (pv 7) (pe_call FWi hr rfl GWi.mgf GWi.fn.kp GWi.bd .nil pass10 (pa_cons (pv 6) (pa_cons (pv 9) (pa_cons (pv 10) (pa_cons (pv 11) pa_nil)))))))))))))
      (pss_cons (ps_if (pt_cmpR op_ne (pv 7) (pe_call FHm hr rfl GHm.mgf GHm.fn.kp GHm.bd .nil pass0 (pa_cons (pv 6) pa_nil)) (nomark _)) (pss_one (ps_ret pe_bl)) pss_nil)
      (pss_cons (ps_set (i := 12) nd rfl (Or.inl rfl) (pe_op op_mod (pe_call FCe hr rfl GCe.mgf GCe.fn.kp GCe.bd .nil pass0 (pa_cons (pv 0) (pa_cons pe_int pa_nil))) (pe_op op_add (pe_op op_fdiv (pv 6) pe_int) pe_int)))
      (pss_cons (ps_set (i := 13) nd rfl (Or.inl rfl) (pe_op op_fdiv (pe_op op_mul (pe_call FCh hr rfl GCh.mgf GCh.fn.kp GCh.bd .nil pass0 (pa_cons (pv 6) (pa_cons (pe_op op_mul pe_int (pv 12)) pa_nil))) (pe_call FCh hr rfl GCh.mgf GCh.fn.kp GCh.bd .nil pass0 (pa_cons (pe_op op_mul pe_int (pv 12)) (pa_cons (pv 12) pa_nil)))) (pe_op op_add (pv 12) pe_int)))
      (pss_one (ps_ret (pe_cmpR op_eq (pe_call FPl hr rfl GPl.mgf GPl.fn.kp GPl.bd .nil pass0 (pa_cons (pv 6) (pa_cons (pv 12) (pa_cons (pv 8) pa_nil)))) (pv 13) (nomark _))))))))))))))))))), ?_⟩
    refine ⟨_, rfl, a, ns, 0, rfl, hS, fun c => ?_⟩
    refine ⟨_, rfl, _, _, rfl, rfl, by show (0 : Int) < 9; decide, ?_⟩
    obtain ⟨n, hn, h8⟩ : ∃ n : Nat, c % 9 = (n : Int) ∧ n ≤ 8 := ⟨(c % 9).toNat, by omega, by omega⟩
    show gName 2 (V.int (c % 9)) _ _ _
    rw [hn]
    refine ⟨_, rfl, _, _, rfl, rfl, ⟨by decide, by decide⟩, _, _, rfl, rfl, by show (0 : Int) < 16; decide, rfl, _, rfl, ite2 (fun _ => ?_) (fun _ => ?_)⟩
    · refine ⟨_, rfl, _, _, rfl, rfl, ⟨by decide, by decide⟩, _, _, rfl, rfl, by show (0 : Int) < 6; decide, _, _, rfl, rfl, _, rfl, _, _, rfl, rfl, ⟨by decide, by decide⟩, (9 + c / 144 % 6).toNat, c / 864, ?_, by omega, k⟩
      have e : ((9 + c / 144 % 6).toNat : Int) = 9 + c / 144 % 6 := by omega
      rw [e]
      rfl
    refine ⟨_, rfl, a, ns, 1, rfl, hS, fun c1 => ⟨_, _, rfl, rfl, by show (0 : Int) < 8; decide, ?_⟩⟩
    refine ⟨_, rfl, a, ns, 2, rfl, hS, fun c2 => ⟨_, _, rfl, rfl, by show (0 : Int) < 8; decide, ?_⟩⟩
    refine ⟨_, rfl, a, ns, 3, rfl, hS, fun c3 => ⟨_, _, rfl, rfl, by show (0 : Int) < 8; decide, ?_⟩⟩
    refine ⟨_, rfl, _, rfl, _, rfl, _, rfl, n, c1 % 8, c2 % 8, c3 % 8, rfl, by omega, fun q => absurd q (by omega), fun _ H1 s1 => ?_⟩
    refine ⟨_, rfl, _, rfl, _, rfl, _, rfl, n, c1 % 8, c3 % 8, c2 % 8, rfl, by omega, fun q => absurd q (by omega), fun _ H2 s2 => ?_⟩
    refine ⟨rfl, _, rfl, ?_⟩
    rw [hmw_turn n (c1 % 8) (c2 % 8) (c3 % 8), decide_eq_true rfl]
    refine iteF ?_
    -- few
    refine ⟨_, rfl, _, _, rfl, rfl, by show (0 : Int) < 5; decide, ?_⟩
    obtain ⟨f0, hf0, h4⟩ : ∃ f0 : Nat, c % 5 = (f0 : Int) ∧ f0 ≤ 4 := ⟨(c % 5).toNat, by omega, by omega⟩
    show gName 6 (V.int (c % 5)) _ _ _
    rw [hf0]
    refine ⟨_, rfl, _, _, rfl, rfl, ⟨by decide, by decide⟩, _, _, rfl, rfl, by show (0 : Int) < 8; decide, rfl, _, rfl, ?_⟩
    show (if decide _ = true then _ else _)
    refine if_viaN (fun l => [some (.ref a), some (.int c), some (.int (n : Nat)), some (.int (c1 % 8)), some (.int (c2 % 8)), some (.int (c3 % 8)), some (.int (l : Nat)), none, none, none, none, none, none, none]) f0 (fun l => l ≤ 6) (fun go => ?_) (by omega) ?_ rfl
    · refine ⟨_, rfl, _, _, rfl, rfl, by show (0 : Int) < 2; decide, _, _, rfl, rfl, ?_⟩
      have e : 5 + c % 2 = ((5 + c % 2).toNat : Int) := by omega
      show gName 6 (V.int (5 + c % 2)) _ _ _
      rw [e]
      exact go _ (by omega)
    intro few h6
    -- top
    refine ⟨_, rfl, _, _, rfl, rfl, .inr ⟨_, rfl, _, _, rfl, rfl, .inl ⟨by decide, by decide⟩, _, _, rfl, rfl, ?_⟩⟩
    obtain ⟨t, ht, ht4⟩ : ∃ t : Nat, topOf few = t ∧ t ≤ 4 := ⟨_, rfl, by unfold topOf; split <;> decide⟩
    have e : 2 + 2 * (if decide ((few : Int) > 4) = true then (1 : Int) else 0) = (t : Nat) := by
      rw [← ht]
      unfold topOf
      by_cases z : 4 < few
      · rw [if_pos z, decide_eq_true (by omega : (few : Int) > 4), if_pos rfl]; rfl
      · rw [if_neg z, decide_eq_false (by omega : ¬ (few : Int) > 4), if_neg (by decide)]; rfl
    show gName 8 (V.int (2 + 2 * (if decide ((few : Int) > 4) = true then (1 : Int) else 0))) _ _ _
    rw [e]
    refine ⟨_, rfl, _, _, rfl, rfl, ⟨by decide, by decide⟩, _, _, rfl, rfl, (few : Int) / 2 + 1, rfl, by omega, by omega, ?_⟩
    rw [show ((few : Int) / 2 + 1).toNat = few / 2 + 1 by omega]
    refine for_range (lo := 0) (fun i σ H3 => ∃ (w9 w10 w11 : Option V), σ = [some (.ref a), some (.int c), some (.int (n : Nat)), some (.int (c1 % 8)), some (.int (c2 % 8)), some (.int (c3 % 8)), some (.int (few : Nat)), some (.int (sK few t i : Nat)), some (.int (t : Nat)), w9, w10, w11, none, none] ∧ Same H2 H3) ?_ ?_ ?_
    · exact ⟨none, none, none, rfl, Same.refl _⟩
    · rintro i σ H3 hi ⟨w9, w10, w11, rfl, s3⟩
      refine ⟨_, rfl, (t : Int), rfl, by omega, by omega, ?_⟩
      rw [show ((t : Nat) : Int).toNat = t by simp]
      refine for_range (lo := 0) (fun j σ H4 => ∃ (w10 w11 : Option V), σ = [some (.ref a), some (.int c), some (.int (n : Nat)), some (.int (c1 % 8)), some (.int (c2 % 8)), some (.int (c3 % 8)), some (.int (few : Nat)), some (.int ((sK few t i + sA few i t j : Nat) : Int)), some (.int (t : Nat)), some (.int (0 + (i : Int))), w10, w11, none, none] ∧ Same H2 H4) ?_ ?_ ?_
      · exact ⟨w10, w11, rfl, s3⟩
      · rintro j σ H4 hj ⟨w10, w11, rfl, s4⟩
        refine ⟨_, rfl, (t : Int), rfl, by omega, by omega, ?_⟩
        rw [show ((t : Nat) : Int).toNat = t by simp]
        refine for_range (lo := 0) (fun l σ H5 => ∃ (w11 : Option V), σ = [some (.ref a), some (.int c), some (.int (n : Nat)), some (.int (c1 % 8)), some (.int (c2 % 8)), some (.int (c3 % 8)), some (.int (few : Nat)), some (.int ((sK few t i + sA few i t j + sB few i j l : Nat) : Int)), some (.int (t : Nat)), some (.int (0 + (i : Int))), some (.int (0 + (j : Int))), w11, none, none] ∧ Same H2 H5) ?_ ?_ ?_
        · exact ⟨w11, rfl, s4⟩
        · rintro l σ H5 hl ⟨w11, rfl, s5⟩
          refine ⟨_, rfl, _, rfl, _, rfl, _, rfl, _, rfl, few, _, _, _, rfl, by omega, fun q => absurd q (by omega), fun _ H6 s6 => ?_⟩
          refine ⟨_, _, rfl, rfl, ?_⟩
          have e : ((sK few t i + sA few i t j + sB few i j l : Nat) : Int) + (hmw few (0 + (i : Int)) (0 + (j : Int)) (0 + (l : Int)) : Nat) = ((sK few t i + sA few i t j + sB few i j (l + 1) : Nat) : Int) := by
            rw [sB_succ, Int.zero_add, Int.zero_add, Int.zero_add]
            omega
          refine ⟨some (.int (0 + (l : Int))), ?_, s5.trans s6⟩
          rw [← e]
          rfl
        · rintro σ H5 ⟨w11, rfl, s5⟩
          refine ⟨some (.int (0 + (j : Int))), w11, ?_, s5⟩
          rw [sA_succ, ← Nat.add_assoc]
      · rintro σ H4 ⟨w10, w11, rfl, s4⟩
        refine ⟨some (.int (0 + (i : Int))), w10, w11, ?_, s4⟩
        rw [sK_succ]
    · rintro σ H3 ⟨w9, w10, w11, rfl, s3⟩
      rw [← ht, sK_all h6, ht]
      refine ⟨_, rfl, _, rfl, (few : Int), rfl, by omega, by omega, ?_⟩
      refine ⟨rfl, _, rfl, ?_⟩
      rw [show ((few : Nat) : Int).toNat = few by simp, decide_eq_true rfl]
      refine iteF ?_
      have hS3 := ((s1.trans s2).trans s3).seq hS
      refine ⟨_, rfl, a, ns, 4, rfl, hS3, fun c4 => ?_⟩
      refine ⟨_, rfl, _, _, rfl, rfl, ⟨by decide, by decide⟩, _, _, rfl, rfl, _, _, rfl, rfl, by show (0 : Int) < (few : Int) / 2 + 1; omega, ?_⟩
      obtain ⟨p, hp, hp2⟩ : ∃ p : Nat, c4 % ((few : Int) / 2 + 1) = (p : Int) ∧ p ≤ few / 2 := by
        have a := Int.emod_nonneg c4 (show (few : Int) / 2 + 1 ≠ 0 by omega)
        have b := Int.emod_lt_of_pos c4 (show (0 : Int) < (few : Int) / 2 + 1 by omega)
        generalize c4 % ((few : Int) / 2 + 1) = r at a b
        exact ⟨r.toNat, by omega, by omega⟩
      show gName 12 (V.int (c4 % ((few : Int) / 2 + 1))) _ _ _
      rw [hp]
      have hc1 := chs_le few (by omega) (2 * p) (by omega)
      refine ⟨_, rfl, _, rfl, _, _, rfl, rfl, .inl ⟨by decide, by decide⟩, few, 2 * p, rfl, by omega, by omega, ?_⟩
      refine ⟨_, rfl, _, _, rfl, rfl, .inl ⟨by decide, by decide⟩, _, rfl, 2 * p, p, rfl, by omega, by omega, ?_⟩
      refine ⟨_, _, rfl, rfl, .inl ⟨by omega, by omega⟩, _, rfl, _, _, rfl, rfl, _, _, rfl, rfl, ⟨by omega, by omega⟩, ?_⟩
      refine ⟨_, rfl, _, rfl, _, rfl, few, p, t, rfl, by omega, by omega, fun H7 s7 => ?_⟩
      refine ⟨_, rfl, rfl, say (Q := Q) ?_ (k _)⟩
      rw [sB_hN, ← ht, plain_few few h6 p (by omega) hp2]
      norm_cast
end
end My
namespace My
open PySem L2 Pl
theorem cls_of {K : PySem.W.Frag} {C : Addr} {b : Value} (h : PySem.W.mroIn K C b = some true) : (PySem.W.clsIn K C).isSome = true := by
  obtain ⟨cd, e, _⟩ := Option.bind_eq_some_iff.mp h
  rw [e]
  rfl
theorem all_mk {l : PySem.W.OpenLaw} {w : World} {K : PySem.W.Frag} {h : Heap} {mg : Str → Option Value} {fa : Addr} (X : K.In h) (G : h.Ns mainGlobals mg) (hfa : mg "law" = some (.ref fa))
    {f0 : Addr} {od0 an0 : Option Addr} {sl0 : Array (Option Value)} {oc0 kV0 dc0 pm0 cd0 ct0 : Value}
    (a0 : PySem.W.nsIn K mainGlobals "how_many" = some (some (.ref f0))) (l0 : K.lookup f0 = some ⟨oc0, od0, .func (PySem.W.fnOf "how_many" "how_many" (defArgs sHowMany) (defBody sHowMany) (defScope sHowMany) .none kV0 dc0 pm0 an0 cd0 ct0), sl0⟩) (c0 : PySem.W.codeIn K cd0 "how_many" = true) (k0 : PySem.W.keepIn K (.ref f0) = true)
    {f1 : Addr} {od1 an1 : Option Addr} {sl1 : Array (Option Value)} {oc1 kV1 dc1 pm1 cd1 ct1 : Value}
    (a1 : PySem.W.nsIn K mainGlobals "how_many_with" = some (some (.ref f1))) (l1 : K.lookup f1 = some ⟨oc1, od1, .func (PySem.W.fnOf "how_many_with" "how_many_with" (defArgs sHowManyWith) (defBody sHowManyWith) (defScope sHowManyWith) .none kV1 dc1 pm1 an1 cd1 ct1), sl1⟩) (c1 : PySem.W.codeIn K cd1 "how_many_with" = true) (k1 : PySem.W.keepIn K (.ref f1) = true)
    {f2 : Addr} {od2 an2 : Option Addr} {sl2 : Array (Option Value)} {oc2 kV2 dc2 pm2 cd2 ct2 : Value}
    (a2 : PySem.W.nsIn K mainGlobals "counts_behind" = some (some (.ref f2))) (l2 : K.lookup f2 = some ⟨oc2, od2, .func (PySem.W.fnOf "counts_behind" "counts_behind" (defArgs sCountsBehind) (defBody sCountsBehind) (defScope sCountsBehind) .none kV2 dc2 pm2 an2 cd2 ct2), sl2⟩) (c2 : PySem.W.codeIn K cd2 "counts_behind" = true) (k2 : PySem.W.keepIn K (.ref f2) = true)
    {f3 : Addr} {od3 an3 : Option Addr} {sl3 : Array (Option Value)} {oc3 kV3 dc3 pm3 cd3 ct3 : Value}
    (a3 : PySem.W.nsIn K mainGlobals "states_behind" = some (some (.ref f3))) (l3 : K.lookup f3 = some ⟨oc3, od3, .func (PySem.W.fnOf "states_behind" "states_behind" (defArgs sStatesBehind) (defBody sStatesBehind) (defScope sStatesBehind) .none kV3 dc3 pm3 an3 cd3 ct3), sl3⟩) (c3 : PySem.W.codeIn K cd3 "states_behind" = true) (k3 : PySem.W.keepIn K (.ref f3) = true)
    {f4 : Addr} {od4 an4 : Option Addr} {sl4 : Array (Option Value)} {oc4 kV4 dc4 pm4 cd4 ct4 : Value}
    (a4 : PySem.W.nsIn K mainGlobals "_law_cell_at" = some (some (.ref f4))) (l4 : K.lookup f4 = some ⟨oc4, od4, .func (PySem.W.fnOf "_law_cell_at" "_law_cell_at" (defArgs sCell) (defBody sCell) (defScope sCell) .none kV4 dc4 pm4 an4 cd4 ct4), sl4⟩) (c4 : PySem.W.codeIn K cd4 "_law_cell_at" = true) (k4 : PySem.W.keepIn K (.ref f4) = true)
    {f5 : Addr} {od5 an5 : Option Addr} {sl5 : Array (Option Value)} {oc5 kV5 dc5 pm5 cd5 ct5 : Value}
    (a5 : PySem.W.nsIn K mainGlobals "_law_choose" = some (some (.ref f5))) (l5 : K.lookup f5 = some ⟨oc5, od5, .func (PySem.W.fnOf "_law_choose" "_law_choose" (defArgs sLChoose) (defBody sLChoose) (defScope sLChoose) .none kV5 dc5 pm5 an5 cd5 ct5), sl5⟩) (c5 : PySem.W.codeIn K cd5 "_law_choose" = true) (k5 : PySem.W.keepIn K (.ref f5) = true)
    {f6 : Addr} {od6 an6 : Option Addr} {sl6 : Array (Option Value)} {oc6 kV6 dc6 pm6 cd6 ct6 : Value}
    (a6 : PySem.W.nsIn K mainGlobals "_law_plain" = some (some (.ref f6))) (l6 : K.lookup f6 = some ⟨oc6, od6, .func (PySem.W.fnOf "_law_plain" "_law_plain" (defArgs sLPlain) (defBody sLPlain) (defScope sLPlain) .none kV6 dc6 pm6 an6 cd6 ct6), sl6⟩) (c6 : PySem.W.codeIn K cd6 "_law_plain" = true) (k6 : PySem.W.keepIn K (.ref f6) = true)
    {f7 : Addr} {od7 an7 : Option Addr} {sl7 : Array (Option Value)} {oc7 kV7 dc7 pm7 cd7 ct7 : Value}
    (a7 : PySem.W.nsIn K mainGlobals "_law_great" = some (some (.ref f7))) (l7 : K.lookup f7 = some ⟨oc7, od7, .func (PySem.W.fnOf "_law_great" "_law_great" (defArgs sLGreat) (defBody sLGreat) (defScope sLGreat) .none kV7 dc7 pm7 an7 cd7 ct7), sl7⟩) (c7 : PySem.W.codeIn K cd7 "_law_great" = true) (k7 : PySem.W.keepIn K (.ref f7) = true)
    {f8 : Addr} {od8 an8 : Option Addr} {sl8 : Array (Option Value)} {oc8 kV8 dc8 pm8 cd8 ct8 : Value}
    (a8 : PySem.W.nsIn K mainGlobals "law" = some (some (.ref f8))) (l8 : K.lookup f8 = some ⟨oc8, od8, .func (PySem.W.fnOf "law" "law" (defArgs sLaw) (defBody sLaw) (defScope sLaw) .none kV8 dc8 pm8 an8 cd8 ct8), sl8⟩) (c8 : PySem.W.codeIn K cd8 "law" = true) (k8 : PySem.W.keepIn K (.ref f8) = true)
    (z0 : PySem.W.nsIn K mainGlobals "len" = some none)
    (z1 : PySem.W.nsIn K mainGlobals "range" = some none)
    (z2 : PySem.W.nsIn K mainGlobals "max" = some none)
    (z3 : PySem.W.nsIn K mainGlobals "int" = some none)
    {tk0 : Tok} {CTooMany : Addr}
    (xc0 : PySem.W.nsIn K mainGlobals "MOST_POINTS_WITH" = some (some (.int 14 tk0)))
    (xTooMany : PySem.W.nsIn K mainGlobals "TooMany" = some (some (.ref CTooMany)))
    (qTooMany : PySem.W.excIn K CTooMany bmV "ValueError.__new__" = true) :
    ∃ fd : FuncData, (∀ (s : Shared) (v : Value), BindsTo s fd ⟨[v], []⟩ [("script", v)]) ∧ ∀ base : Heap, K.In base → base.Ns mainGlobals mg → FnOk l.prog w K mg base CX0 5 fa fd ["script"] (spLaw K) := by
  have e := hfa.symm.trans (PySem.W.mg_of X G a8)
  cases e
  have FHowMany := fun_mk (st := sHowMany) l0 c0 k0
  have gHowMany : Glb K mg "how_many" ["points"] sHowMany _ _ := ⟨FHowMany, PySem.W.mg_of X G a0, FHowMany.binds (ps := ["points"]) fun _ _ _ _ _ _ us hl => match us, hl with | [_], _ => rfl⟩
  have FHowManyWith := fun_mk (st := sHowManyWith) l1 c1 k1
  have gHowManyWith : Glb K mg "how_many_with" ["points", "pairs", "crossings", "nestings"] sHowManyWith _ _ := ⟨FHowManyWith, PySem.W.mg_of X G a1, FHowManyWith.binds (ps := ["points", "pairs", "crossings", "nestings"]) fun _ _ _ _ _ _ us hl => match us, hl with | [_, _, _, _], _ => rfl⟩
  have FCountsBehind := fun_mk (st := sCountsBehind) l2 c2 k2
  have gCountsBehind : Glb K mg "counts_behind" ["counts", "left"] sCountsBehind _ _ := ⟨FCountsBehind, PySem.W.mg_of X G a2, FCountsBehind.binds (ps := ["counts", "left"]) fun _ _ _ _ _ _ us hl => match us, hl with | [_, _], _ => rfl⟩
  have FStatesBehind := fun_mk (st := sStatesBehind) l3 c3 k3
  have gStatesBehind : Glb K mg "states_behind" ["state"] sStatesBehind _ _ := ⟨FStatesBehind, PySem.W.mg_of X G a3, FStatesBehind.binds (ps := ["state"]) fun _ _ _ _ _ _ us hl => match us, hl with | [_], _ => rfl⟩
  have FCell := fun_mk (st := sCell) l4 c4 k4
  have gCell : Glb K mg "_law_cell_at" ["script", "k"] sCell _ _ := ⟨FCell, PySem.W.mg_of X G a4, FCell.binds (ps := ["script", "k"]) fun _ _ _ _ _ _ us hl => match us, hl with | [_, _], _ => rfl⟩
  have FLChoose := fun_mk (st := sLChoose) l5 c5 k5
  have gLChoose : Glb K mg "_law_choose" ["many", "some"] sLChoose _ _ := ⟨FLChoose, PySem.W.mg_of X G a5, FLChoose.binds (ps := ["many", "some"]) fun _ _ _ _ _ _ us hl => match us, hl with | [_, _], _ => rfl⟩
  have FLPlain := fun_mk (st := sLPlain) l6 c6 k6
  have gLPlain : Glb K mg "_law_plain" ["points", "pairs", "top"] sLPlain _ _ := ⟨FLPlain, PySem.W.mg_of X G a6, FLPlain.binds (ps := ["points", "pairs", "top"]) fun _ _ _ _ _ _ us hl => match us, hl with | [_, _, _], _ => rfl⟩
  have FLGreat := fun_mk (st := sLGreat) l7 c7 k7
  have gLGreat : Glb K mg "_law_great" ["points", "cell"] sLGreat _ _ := ⟨FLGreat, PySem.W.mg_of X G a7, FLGreat.binds (ps := ["points", "cell"]) fun _ _ _ _ _ _ us hl => match us, hl with | [_, _], _ => rfl⟩
  have FLaw := fun_mk (st := sLaw) l8 c8 k8
  have gLaw : Glb K mg "law" ["script"] sLaw _ _ := ⟨FLaw, PySem.W.mg_of X G a8, FLaw.binds (ps := ["script"]) fun _ _ _ _ _ _ us hl => match us, hl with | [_], _ => rfl⟩
  have n_len : mg "len" = none := PySem.W.mg_none_of X G z0
  have n_range : mg "range" = none := PySem.W.mg_none_of X G z1
  have n_max : mg "max" = none := PySem.W.mg_none_of X G z2
  have n_int : mg "int" = none := PySem.W.mg_none_of X G z3
  have h_MOST_POINTS_WITH := PySem.W.mg_of X G xc0
  have m_TooMany := PySem.W.mg_of X G xTooMany
  refine ⟨_, ?_, fun base _ _ => ok_law gLaw gCell gHowManyWith gHowMany gLChoose gLPlain gLGreat ((ok_cell gCell n_len).mono (by decide)) ((ok_with gHowManyWith gCountsBehind (ok_counts gCountsBehind gStatesBehind n_range) m_TooMany qTooMany h_MOST_POINTS_WITH n_range).mono (by decide)) ((ok_howMany gHowMany n_range).mono (by decide)) ((ok_lchoose gLChoose n_range).mono (by decide)) (ok_lplain gLPlain gHowManyWith (ok_with gHowManyWith gCountsBehind (ok_counts gCountsBehind gStatesBehind n_range) m_TooMany qTooMany h_MOST_POINTS_WITH n_range) n_range) (ok_lgreat gLGreat gHowManyWith (ok_with gHowManyWith gCountsBehind (ok_counts gCountsBehind gStatesBehind n_range) m_TooMany qTooMany h_MOST_POINTS_WITH n_range) gLChoose ((ok_lchoose gLChoose n_range).mono (by decide)) n_max) n_range n_int⟩
  exact fun s v => .of_eq rfl
theorem walk {l : PySem.W.OpenLaw} {q : Program} {loose : List Str} {XP : (Str → Option Value) → Heap → Prop} {YP : World → Heap → Prop} {d : DefRec} {K : Params → PySem.W.Frag} (hn : l.most = some 63) (hdf : d.params.defaults = [])
    (hY : ∀ (w : World) (h : Heap), YP w h → (K w.params).In h)
    (F : ∀ (w : World) (mg : Str → Option Value) (fa : Addr) (h : Heap), (K w.params).In h → h.Ns mainGlobals mg → mg d.name = some (.ref fa) →
      ∃ fd : FuncData, (∀ (s : Shared) (u : Value), BindsTo s fd ⟨[u], []⟩ [("script", u)]) ∧ ∀ base : Heap, (K w.params).In base → base.Ns mainGlobals mg → FnOk l.prog w (K w.params) mg base CX0 5 fa fd ["script"] (spLaw (K w.params))) :
    PySem.W.WalkO q loose XP YP l.row.toRowW d [] (fun f vs => PySem.call f vs) :=
  L2.walk_of (n := 63) (k := 5) (x := "script") (CX := fun _ => CX0) (sp := fun w => spLaw (K w.params)) hn (by decide) hdf ⟨rfl, by decide, by decide⟩ hY F (fun _ _ a ns hl _ hS => ⟨a, ns, rfl, hS, hl, fun _ => rfl⟩) fun _ _ _ _ _ z => z
end My
open PySem PySem.W PyProof.Rows
set_option maxRecDepth 100000 in
set_option maxHeartbeats 0 in
theorem PySem.Challenge.cw_pairlings_k09_whole_exchanged_and_togeth_holds : PySem.Challenge.rw_pairlings_k09_whole_exchanged_and_togeth.Holds := by
  w_on; o_law; k_head; (case hw => w_witness2)
  k_fill
  refine My.walk (l := PySem.Challenge.rw_pairlings_k09_whole_exchanged_and_togeth) rfl rfl (fun w h Y => PySem.W.kIn_of Y) ?F
  case F =>
    intro w mg fa h KX G hmg
    refine' My.all_mk KX G hmg ?a0 ?l0 ?c0 ?k0 ?a1 ?l1 ?c1 ?k1 ?a2 ?l2 ?c2 ?k2 ?a3 ?l3 ?c3 ?k3 ?a4 ?l4 ?c4 ?k4 ?a5 ?l5 ?c5 ?k5 ?a6 ?l6 ?c6 ?k6 ?a7 ?l7 ?c7 ?k7 ?a8 ?l8 ?c8 ?k8 ?z0 ?z1 ?z2 ?z3 ?xc0 ?xTooMany ?qTooMany
    (case a0 => k_is)
    (case l0 => k_is)
    (case c0 => k_is)
    (case k0 => k_is)
    (case a1 => k_is)
    (case l1 => k_is)
    (case c1 => k_is)
    (case k1 => k_is)
    (case a2 => k_is)
    (case l2 => k_is)
    (case c2 => k_is)
    (case k2 => k_is)
    (case a3 => k_is)
    (case l3 => k_is)
    (case c3 => k_is)
    (case k3 => k_is)
    (case a4 => k_is)
    (case l4 => k_is)
    (case c4 => k_is)
    (case k4 => k_is)
    (case a5 => k_is)
    (case l5 => k_is)
    (case c5 => k_is)
    (case k5 => k_is)
    (case a6 => k_is)
    (case l6 => k_is)
    (case c6 => k_is)
    (case k6 => k_is)
    (case a7 => k_is)
    (case l7 => k_is)
    (case c7 => k_is)
    (case k7 => k_is)
    (case a8 => k_is)
    (case l8 => k_is)
    (case c8 => k_is)
    (case k8 => k_is)
    (case z0 => k_is)
    (case z1 => k_is)
    (case z2 => k_is)
    (case z3 => k_is)
    (case xc0 => k_is)
    (case xTooMany => k_is)
    (case qTooMany => k_exc)
#print axioms PySem.Challenge.cw_pairlings_k09_whole_exchanged_and_togeth_holds
