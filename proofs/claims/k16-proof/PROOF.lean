import PyProof.Rows.All
import Wide.All
import OpenK.AllK
import Wide.FinOn
import Lean
import PyProof.EqAt
import PyProof.EqKinds
import PyProof.TupleCall
import PySem.Challenge.RW_shuntyard_k16_plans_read
set_option Elab.async false
set_option linter.all false
set_option maxRecDepth 100000
/-! THE HAND LAYER, for ints, bools, texts, own classes, LISTS and tuples (index, slices, in, append, pop ..), calls, loops. Paste it whole ahead of your own text; what your proof does not reach may be deleted. -/
namespace L2
open PySem PySem.Spec PyProof.Rows

/-- a key: an int or a str -/
abbrev Key := Sum Int Str
def keyIs : Key → Value → Bool
  | .inl k, v => Value.isInt k v
  | .inr x, v => Value.isStrOf x v
def keyH (w : World) : Key → Int
  | .inl k => hashInt k
  | .inr x => hashStr w x
theorem keyIs_shape : ∀ {k : Key} {v : Value}, keyIs k v = true → (∃ i t, k = Sum.inl i ∧ v = Value.int i t) ∨ (∃ x t, k = Sum.inr x ∧ v = Value.str x t)
  | .inl i, v, h => by
    obtain ⟨t, e⟩ := Value.isInt_shape (k := i) (v := v) h
    exact .inl ⟨i, t, rfl, e⟩
  | .inr x, v, h => by
    obtain ⟨t, e⟩ := Value.isStrOf_shape (x := x) (v := v) h
    exact .inr ⟨x, t, rfl, e⟩
theorem keyIs_int (i : Int) (t : Tok) : keyIs (.inl i) (.int i t) = true := by simp [keyIs, Value.isInt]
theorem keyIs_str (x : Str) (t : Tok) : keyIs (.inr x) (.str x t) = true := by simp [keyIs, Value.isStrOf]
theorem key_ll (a b : Int) : decide ((Sum.inl a : Key) = Sum.inl b) = (a == b) := by
  by_cases e : a = b
  · subst e; simp
  · have h : ¬ (Sum.inl a : Key) = Sum.inl b := fun q => e (Sum.inl.inj q)
    rw [decide_eq_false h]
    exact (beq_eq_false_iff_ne.mpr e).symm
theorem key_rr (a b : Str) : decide ((Sum.inr a : Key) = Sum.inr b) = decide (a = b) := by
  by_cases e : a = b
  · subst e; simp
  · have h : ¬ (Sum.inr a : Key) = Sum.inr b := fun q => e (Sum.inr.inj q)
    rw [decide_eq_false h, decide_eq_false e]
theorem key_lr (a : Int) (b : Str) : decide ((Sum.inl a : Key) = Sum.inr b) = false := decide_eq_false (fun q => nomatch q)
theorem key_rl (a : Str) (b : Int) : decide ((Sum.inr a : Key) = Sum.inl b) = false := decide_eq_false (fun q => nomatch q)

def mixKind (prog : Program) (w : World) : PySem.KeyKind prog w Key where
  is := keyIs
  hash := keyH w
  inj := fun v a b ha hb => by
    rcases keyIs_shape ha with ⟨i, t, rfl, rfl⟩ | ⟨x, t, rfl, rfl⟩
    · rcases keyIs_shape hb with ⟨j, u, rfl, e⟩ | ⟨y, u, rfl, e⟩
      · injection e with e1 _; rw [e1]
      · exact nomatch e
    · rcases keyIs_shape hb with ⟨j, u, rfl, e⟩ | ⟨y, u, rfl, e⟩
      · exact nomatch e
      · injection e with e1 _; rw [e1]
  byValue := fun k v h => by
    rcases keyIs_shape h with ⟨i, t, rfl, rfl⟩ | ⟨x, t, rfl, rfl⟩ <;> rfl
  pyHash := fun hv h => by
    rcases keyIs_shape hv with ⟨i, t, rfl, rfl⟩ | ⟨x, t, rfl, rfl⟩
    · exact wpAny_pyHash_int h
    · exact wpAny_pyHash_str h
  eqBool := fun hu hv h => by
    rcases keyIs_shape hu with ⟨i, t, rfl, rfl⟩ | ⟨x, t, rfl, rfl⟩
    · rcases keyIs_shape hv with ⟨j, u, rfl, rfl⟩ | ⟨y, u, rfl, rfl⟩
      · rw [key_ll] at h; exact wpAny_eqBool_int h
      · rw [key_lr] at h; exact SeqAt.EqAt.int_str i t y u _ _ _ _ h
    · rcases keyIs_shape hv with ⟨j, u, rfl, rfl⟩ | ⟨y, u, rfl, rfl⟩
      · rw [key_rl] at h; exact SeqAt.EqAt.str_int x t j u _ _ _ _ h
      · rw [key_rr] at h; exact wpAny_eqBool_str h
  «strs» := fun k x t v h => by
    rcases keyIs_shape h with ⟨i, u, rfl, e⟩ | ⟨y, u, rfl, e⟩
    · exact nomatch e
    · injection e with e1 _
      subst e1
      cases v <;> rfl

theorem mixKind_is (prog : Program) (w : World) (k : Key) (v : Value) : (mixKind prog w).is k v = keyIs k v := rfl
theorem mixKind_int (prog : Program) (w : World) (i : Int) (t : Tok) : (mixKind prog w).is (.inl i) (.int i t) = true := keyIs_int i t
theorem mixKind_str (prog : Program) (w : World) (x : Str) (t : Tok) : (mixKind prog w).is (.inr x) (.str x t) = true := keyIs_str x t
end L2

namespace L2
open PySem PySem.Spec PyProof.Rows

/-- a value, without the heap -/
inductive V where
  | non | bl (b : Bool) | int (i : Int) | str (x : Str) | byt (b : Array UInt8) | flt (b : UInt64) | ref (a : Addr) | ty (n : String)
  deriving DecidableEq

def RelV : V → Value → Prop
  | .non, u => u = Value.none
  | .bl b, u => u = Value.bool b
  | .int i, u => ∃ t, u = Value.int i t
  | .str x, u => ∃ t, u = Value.str x t
  | .byt b, u => ∃ t, u = Value.bytes b t
  | .flt b, u => ∃ t, u = Value.float b t
  | .ref a, u => u = Value.ref a
  | .ty n, u => u = Value.type n

abbrev Vals : List V → List Value → Prop := Paired RelV
theorem Vals.length {xs : List V} {us : List Value} (r : Vals xs us) : xs.length = us.length := Paired.length r
theorem Vals.get : ∀ {xs : List V} {us : List Value} {i : Nat} {x : V}, Vals xs us → xs[i]? = some x → ∃ u, us[i]? = some u ∧ RelV x u
  | _, _, _, _, .nil, e => by simp at e
  | _, _, 0, _, .cons r _, e => by simp at e; subst e; exact ⟨_, rfl, r⟩
  | _, _, i + 1, x, .cons _ t, e => by
    obtain ⟨u, h1, h2⟩ := Vals.get (i := i) (x := x) t (by simpa using e)
    exact ⟨u, by simpa using h1, h2⟩
theorem Vals.set {x : V} {u : Value} (r : RelV x u) : ∀ {xs : List V} {us : List Value} (i : Nat), Vals xs us → Vals (xs.set i x) (us.set i u)
  | _, _, _, .nil => .nil
  | _, _, 0, .cons _ t => .cons r t
  | _, _, i + 1, .cons q t => .cons q (Vals.set r i t)
theorem Vals.append : ∀ {xs ys : List V} {us ws : List Value}, Vals xs us → Vals ys ws → Vals (xs ++ ys) (us ++ ws)
  | _, _, _, _, .nil, s => s
  | _, _, _, _, .cons r t, s => .cons r (Vals.append t s)
theorem Vals.take : ∀ {xs : List V} {us : List Value} (n : Nat), Vals xs us → Vals (xs.take n) (us.take n)
  | _, _, 0, _ => .nil
  | _, _, _ + 1, .nil => .nil
  | _, _, n + 1, .cons r t => .cons r (Vals.take n t)
theorem Vals.drop : ∀ {xs : List V} {us : List Value} (n : Nat), Vals xs us → Vals (xs.drop n) (us.drop n)
  | _, _, 0, r => r
  | _, _, _ + 1, .nil => .nil
  | _, _, n + 1, .cons _ t => Vals.drop n t
theorem Vals.none_of : ∀ {xs : List V} {us : List Value} {i : Nat}, Vals xs us → xs[i]? = none → us[i]? = none := fun {xs us i} r e => by
  have h1 := r.length
  have h2 : xs.length ≤ i := List.getElem?_eq_none_iff.mp e
  exact List.getElem?_eq_none_iff.mpr (by omega)

def RelO : Option V → Option Value → Prop
  | some v, some u => RelV v u
  | none, none => True
  | _, _ => False
def KV {κ : Type} : List (κ × V) → List (κ × Value) → Prop := Paired fun (p : κ × V) (q : κ × Value) => p.1 = q.1 ∧ RelV p.2 q.2

/-- a key of a dict (00_mix): an int or a text -/
def kV : Key → V
  | .inl i => .int i
  | .inr x => .str x

/-- what stands at a tracked address -/
inductive HO where
  /-- a list -/
  | lst (xs : List V)
  /-- a tuple (never changes) -/
  | tup (xs : List V)
  /-- a dict whose keys are ints and texts; one whose keys are tuples of ints and texts (the empty one is both) -/
  | dK (kvs : List (Key × V)) | dT (kvs : List (List Key × V))
  /-- a set of ints: its members, its size -/
  | set (S : Int → Bool) (n : Nat)
  /-- an instance of the class at C, its dict at dx, its attributes -/
  | ins (C dx : Addr) (fs : List (Str × V))
  /-- the dict of the instance at x -/
  | own (x : Addr)
  /-- the dict of an exception -/
  | xd (fs : List (Str × V))
  /-- a bound method, f of x -/
  | met (f x : Addr)
  /-- a range object lo, lo + 1, .. below hi -/
  | rng (lo hi : Int)
  /-- a thing that is known to the object (the script; a dict while a loop walks it): read, never written while it is so -/
  | frz (o : Obj) (u : HO)
  /-- a code object's table -/
  | tbl (ps : Array Value)
  /-- any other thing, by what is true of its one object (a def of one's own: SetO a S n := HO.ext fun h => ..) -/
  | ext (φ : Heap → Prop)

abbrev Hp := Addr → Option HO
def upd (H : Hp) (a : Addr) (o : HO) : Hp := fun b => if b = a then some o else H b
theorem upd_same {H : Hp} {a : Addr} {o : HO} : upd H a o a = some o := by unfold upd; rw [if_pos rfl]
theorem upd_ne {H : Hp} {a b : Addr} {o : HO} (h : b ≠ a) : upd H a o b = H b := by unfold upd; rw [if_neg h]
theorem upd_upd {H : Hp} {a : Addr} {o u : HO} : upd (upd H a o) a u = upd H a u := by
  funext b; unfold upd; split <;> rfl
/-- two objects of different content stand apart -/
theorem ne_of {H : Hp} {a b : Addr} {o u : HO} (h : H a = some o) (h' : H b = some u) (d : o ≠ u) : a ≠ b := by
  intro e; subst e; rw [h] at h'; exact d (Option.some.inj h')
theorem ne_of_none {H : Hp} {a b : Addr} {o : HO} (h : H a = some o) (h' : H b = none) : a ≠ b := by
  intro e; subst e; rw [h] at h'; cases h'

section
variable (P : Program) (w : World)
def ObjOk (H : Hp) (h : Heap) (a : Addr) : HO → Prop
  | .lst xs => xs.length ≤ sizeLine ∧ ∃ (its : List Value) (n : Nat), Vals xs its ∧ h.get? a = some { cls := .type "list", data := .seq its.toArray n }
  | .tup xs => xs.length ≤ sizeLine ∧ ∃ its : List Value, Vals xs its ∧ IsTup h a its.toArray
  | .dK kvs => kvs.length ≤ sizeLine ∧ (a == sysModules) = false ∧ ∃ vs, KV kvs vs ∧ h.DictOf (mixKind P w) a vs
  | .dT kvs => kvs.length ≤ sizeLine ∧ (a == sysModules) = false ∧ ∃ xs : List (List Key × Addr × Value),
      Paired (fun (p : List Key × V) (q : List Key × Addr × Value) => p.1 = q.1 ∧ H q.2.1 = some (.tup (p.1.map kV)) ∧ RelV p.2 q.2.2) kvs xs ∧
      ∃ o es ep, h.get? a = some o ∧ o.ExactDict ∧ o.data = .dict es ep ∧ es.toList = xs.map (entryOfKey (tupleKind (mixKind P w))) ∧ (xs.map (·.1)).Nodup
  | .set S n => h.SetOf (intKind P w) a S n
  | .ins C dx fs => H dx = some (.own a) ∧ fs.length ≤ 1000 ∧ dx ≠ a ∧ h.get? a = some (PySem.W.instObj C dx) ∧
      ∃ mA, h.Ns1 dx mA ∧ (∀ f, RelO (fs.lookup f) (mA f)) ∧ PySem.Within mA (fs.map (·.1))
  | .own _ => ∃ o, h.get? a = some o
  | .xd fs => ∃ mA, h.Ns1 a mA ∧ ∀ f, RelO (fs.lookup f) (mA f)
  | .rng lo hi => ∃ t u v, h.get? a = some { cls := .type "range", data := .fields #[.int lo t, .int hi u, .int 1 v] }
  | .frz o u => h.get? a = some o ∧ ObjOk H h a u
  | .tbl ps => h.get? a = some { cls := .none, data := .fields ps }
  | .met f x => h.get? a = some (PySem.W.methodObj (.ref f) (.ref x))
  | .ext φ => φ h ∧ (∃ o, h.get? a = some o) ∧ ∀ h1 h2 : Heap, φ h1 → (∀ o, h1.get? a = some o → h2.get? a = some o) → φ h2
/-- the abstract heap is held -/
def HOk (H : Hp) (h : Heap) : Prop := ∀ a o, H a = some o → ObjOk P w H h a o
end

section
variable {P : Program} {w : World} {H H' : Hp} {h h' : Heap} {a : Addr} {o : HO}
theorem ObjOk.lt (x : ObjOk P w H h a o) : a < h.objs.size := by
  cases o with
  | lst xs => obtain ⟨_, _, _, _, e⟩ := x; exact Heap.lt_size e
  | tup xs => obtain ⟨_, _, _, p⟩ := x; exact p.lt
  | dK kvs => obtain ⟨_, _, _, _, o, _, _, e, _⟩ := x; exact Heap.lt_size e
  | dT kvs => obtain ⟨_, _, _, _, o, _, _, e, _⟩ := x; exact Heap.lt_size e
  | set S n => obtain ⟨o, _, _, _, e, _⟩ := x; exact Heap.lt_size e
  | ins C dx fs => obtain ⟨_, _, _, e, _⟩ := x; exact Heap.lt_size e
  | own y => obtain ⟨_, e⟩ := x; exact Heap.lt_size e
  | xd fs => obtain ⟨_, ⟨_, _, _, e, _⟩, _⟩ := x; exact Heap.lt_size e
  | rng lo hi => obtain ⟨_, _, _, e⟩ := x; exact Heap.lt_size e
  | frz ob u => obtain ⟨e, _⟩ := x; exact Heap.lt_size e
  | tbl ps => exact Heap.lt_size (show h.get? a = some _ from x)
  | met f y => exact Heap.lt_size (show h.get? a = some _ from x)
  | ext φ => obtain ⟨_, ⟨_, e⟩, _⟩ := x; exact Heap.lt_size e
theorem Paired.mapP {α β : Type} {F G : α → β → Prop} : ∀ {l₁ : List α} {l₂ : List β}, Paired F l₁ l₂ → (∀ a b, F a b → G a b) → Paired G l₁ l₂
  | _, _, .nil, _ => .nil
  | _, _, .cons r t, f => .cons (f _ _ r) (Paired.mapP t f)
theorem Paired.imp' {α β : Type} {F G : α → β → Prop} (f : ∀ a b, F a b → G a b) {l₁ : List α} {l₂ : List β} (r : Paired F l₁ l₂) : Paired G l₁ l₂ := Paired.mapP r f
/-- what an object's description leans on: its own object, its own dict, the tuples -/
theorem ObjOk.stay (x : ObjOk P w H h a o) (k : ∀ b u, (b = a ∨ H b = some (.own a)) → h.get? b = some u → h'.get? b = some u)
    (ho : ∀ b, H b = some (.own a) → H' b = some (.own a)) (ht : ∀ b xs, H b = some (.tup xs) → H' b = some (.tup xs)) : ObjOk P w H' h' a o := by
  induction o with
  | lst xs => obtain ⟨z, its, n, r, e⟩ := x; exact ⟨z, its, n, r, k _ _ (.inl rfl) e⟩
  | tup xs => obtain ⟨z, its, r, ob, e, c⟩ := x; exact ⟨z, its, r, ob, k _ _ (.inl rfl) e, c⟩
  | dK kvs => obtain ⟨z, y, vs, r, ob, es, ep, e, c⟩ := x; exact ⟨z, y, vs, r, ob, es, ep, k _ _ (.inl rfl) e, c⟩
  | dT kvs =>
    obtain ⟨z, y, xs, r, ob, es, ep, e, c⟩ := x
    exact ⟨z, y, xs, Paired.mapP r fun p q z => ⟨z.1, ht _ _ z.2.1, z.2.2⟩, ob, es, ep, k _ _ (.inl rfl) e, c⟩
  | set S n => obtain ⟨ob, es, ep, t, e, c⟩ := x; exact ⟨ob, es, ep, t, k _ _ (.inl rfl) e, c⟩
  | ins C dx fs =>
    obtain ⟨d, z, ne, e, mA, ⟨od, es, ep, e2, c⟩, r⟩ := x
    exact ⟨ho _ d, z, ne, k _ _ (.inl rfl) e, mA, ⟨od, es, ep, k _ _ (.inr d) e2, c⟩, r⟩
  | own y => obtain ⟨ob, e⟩ := x; exact ⟨ob, k _ _ (.inl rfl) e⟩
  | xd fs => obtain ⟨mA, ⟨od, es, ep, e, c⟩, r⟩ := x; exact ⟨mA, ⟨od, es, ep, k _ _ (.inl rfl) e, c⟩, r⟩
  | rng lo hi => obtain ⟨t, u, v, e⟩ := x; exact ⟨t, u, v, k _ _ (.inl rfl) e⟩
  | frz ob u ih => obtain ⟨e, q⟩ := x; exact ⟨k _ _ (.inl rfl) e, ih q⟩
  | tbl ps =>
    have e : h.get? a = some { cls := .none, data := .fields ps } := x
    show h'.get? a = some { cls := .none, data := .fields ps }
    exact k a _ (.inl rfl) e
  | met f y =>
    have e : h.get? a = some (PySem.W.methodObj (.ref f) (.ref y)) := x
    show h'.get? a = some (PySem.W.methodObj (.ref f) (.ref y))
    exact k a _ (.inl rfl) e
  | ext φ => obtain ⟨p, ⟨o, e⟩, st⟩ := x; exact ⟨st _ _ p fun o q => k _ _ (.inl rfl) q, ⟨o, k _ _ (.inl rfl) e⟩, st⟩
theorem HOk.lt (x : HOk P w H h) (e : H a = some o) : a < h.objs.size := (x a o e).lt
theorem HOk.fresh (x : HOk P w H h) (e : h.objs.size ≤ a) : H a = none := by
  cases q : H a with
  | none => rfl
  | some u => exact absurd (Nat.lt_of_lt_of_le (x.lt q) e) (Nat.lt_irrefl _)
/-- every object of the heap is kept -/
theorem HOk.kept (x : HOk P w H h) (k : ∀ b u, h.get? b = some u → h'.get? b = some u) : HOk P w H h' := fun a o e =>
  (x a o e).stay (fun b u _ q => k b u q) (fun _ q => q) fun _ _ q => q
/-- a new object is laid and tracked -/
theorem HOk.laid (x : HOk P w H h) (k : ∀ b u, h.get? b = some u → h'.get? b = some u) (hp : h.objs.size ≤ a) (new : ObjOk P w (upd H a o) h' a o) : HOk P w (upd H a o) h' := fun b u e => by
  have hn := x.fresh hp
  by_cases hb : b = a
  · subst hb; rw [upd_same] at e; cases e; exact new
  · rw [upd_ne hb] at e
    exact (x b u e).stay (fun c v _ q => k c v q) (fun c q => by rw [upd_ne (ne_of_none q hn)]; exact q) fun c xs q => by rw [upd_ne (ne_of_none q hn)]; exact q
end

/-- what may be read as u: it is u, or a known u -/
def Rd (H : Hp) (a : Addr) (u : HO) : Prop := H a = some u ∨ ∃ o, H a = some (.frz o u)
theorem Rd.of {H : Hp} {a : Addr} {u : HO} (h : H a = some u) : Rd H a u := .inl h
theorem Rd.ok {P : Program} {w : World} {H : Hp} {h : Heap} {a : Addr} {u : HO} (r : Rd H a u) (x : HOk P w H h) : ObjOk P w H h a u := by
  rcases r with r | ⟨o, r⟩
  · exact x a u r
  · obtain ⟨_, q⟩ := x a _ r
    exact q
/-- what may be written -/
def Mut : Option HO → Prop
  | some (.lst _) => True
  | some (.dK _) => True
  | some (.dT _) => True
  | some (.set _ _) => True
  | some (.ins _ _ _) => True
  | some (.ext _) => True
  | _ => False
section
variable {P : Program} {w : World} {H : Hp} {h h' : Heap} {x e : Addr} {o' : HO}
/-- the object at e is changed: x itself, or the dict of the instance x -/
theorem HOk.write (ok : HOk P w H h) (mu : Mut (H x)) (he : e = x ∨ H e = some (.own x)) (k : ∀ b u, b ≠ e → h.get? b = some u → h'.get? b = some u) (heo : ∃ u, h'.get? e = some u)
    (new : ObjOk P w (upd H x o') h' x o') : HOk P w (upd H x o') h' := fun b u q => by
  have nown : ∀ c y, H c = some (.own y) → c ≠ x := fun c y r z => by subst z; rw [r] at mu; exact mu
  have ntup : ∀ c xs, H c = some (.tup xs) → c ≠ x := fun c xs r z => by subst z; rw [r] at mu; exact mu
  by_cases hb : b = x
  · subst hb; rw [upd_same] at q; cases q; exact new
  · rw [upd_ne hb] at q
    by_cases hbe : b = e
    · have q' : H b = some (.own x) := by
        rcases he with z | z
        · exact absurd (hbe.trans z) hb
        · rw [hbe]; exact z
      rw [q] at q'; cases q'
      obtain ⟨v, hv⟩ := heo
      exact ⟨v, by rw [hbe]; exact hv⟩
    · refine (ok b u q).stay (fun c v hc r => k c v ?_ r) (fun c r => by rw [upd_ne (nown c b r)]; exact r) fun c xs r => by rw [upd_ne (ntup c xs r)]; exact r
      rcases hc with rfl | hc
      · exact hbe
      · rintro rfl
        rcases he with z | z
        · exact nown c b hc z
        · rw [hc] at z; cases z; exact hb rfl
end

/-! ### kept unless tracked; of the frames at fs (the callers') the slots may change (an exception that passes writes there); of the records at ex (iterators) nothing is said -/
structure Un (fs ex : List Addr) (H H' : Hp) (h h' : Heap) : Prop where
  keep : ∀ b o, h.get? b = some o → H b = none → b ∉ fs → b ∉ ex → h'.get? b = some o
  slot : ∀ b o, h.get? b = some o → H b = none → b ∈ fs → b ∉ ex → ∃ sl, h'.get? b = some { o with slots := sl }
  free : ∀ b o, h.get? b = some o → H b = none → b ∉ ex → H' b = none
  there : ∀ b o, h.get? b = some o → b ∉ ex → ∃ o', h'.get? b = some o'
  tups : ∀ b xs, H b = some (.tup xs) → H' b = some (.tup xs)
  frzs : ∀ b o u, H b = some (.frz o u) → H' b = some (.frz o u)
  tbls : ∀ b ps, H b = some (.tbl ps) → ∃ more, H' b = some (.tbl (ps ++ more))
section
variable {fs fs' ex ex' : List Addr} {H H1 H2 : Hp} {h h1 h2 h' : Heap} {a x e : Addr} {o : HO}
theorem Un.any (u : Un fs ex H H1 h h1) {b : Addr} {ob : Obj} (q : h.get? b = some ob) (n : H b = none) (hx : b ∉ ex) : ∃ sl, h1.get? b = some { ob with slots := sl } := by
  by_cases hb : b ∈ fs
  · exact u.slot b ob q n hb hx
  · exact ⟨ob.slots, u.keep b ob q n hb hx⟩
theorem Un.trans (a : Un fs ex H H1 h h1) (b : Un fs ex H1 H2 h1 h2) : Un fs ex H H2 h h2 where
  keep := fun c ob q n hc hx => b.keep c ob (a.keep c ob q n hc hx) (a.free c ob q n hx) hc hx
  slot := fun c ob q n hc hx => by
    obtain ⟨sl, e1⟩ := a.slot c ob q n hc hx
    obtain ⟨sl', e2⟩ := b.slot c _ e1 (a.free c ob q n hx) hc hx
    exact ⟨sl', e2⟩
  free := fun c ob q n hx => by
    obtain ⟨o', e1⟩ := a.there c ob q hx
    exact b.free c o' e1 (a.free c ob q n hx) hx
  there := fun c ob q hx => by
    obtain ⟨o', e1⟩ := a.there c ob q hx
    exact b.there c o' e1 hx
  tups := fun c xs q => b.tups c xs (a.tups c xs q)
  frzs := fun c ob xs q => b.frzs c ob xs (a.frzs c ob xs q)
  tbls := fun c ps q => by
    obtain ⟨m1, e1⟩ := a.tbls c ps q
    obtain ⟨m2, e2⟩ := b.tbls c _ e1
    exact ⟨m1 ++ m2, by rw [e2, Array.append_assoc]⟩
theorem Un.kept (k : ∀ b u, h.get? b = some u → h'.get? b = some u) : Un fs ex H H h h' :=
  ⟨fun b ob q _ _ _ => k b ob q, fun b ob q _ _ _ => ⟨ob.slots, k b ob q⟩, fun _ _ _ n _ => n, fun b ob q _ => ⟨ob, k b ob q⟩, fun _ _ q => q, fun _ _ _ q => q, fun _ ps q => ⟨#[], by rw [q]; simp⟩⟩
theorem Un.refl : Un fs ex H H h h := Un.kept fun _ _ q => q
theorem Un.laid (k : ∀ b u, h.get? b = some u → h'.get? b = some u) (hp : h.objs.size ≤ a) (hn : H a = none) : Un fs ex H (upd H a o) h h' where
  keep := fun b u q _ _ _ => k b u q
  slot := fun b u q _ _ _ => ⟨u.slots, k b u q⟩
  free := fun b u q n _ => by rw [upd_ne (Nat.ne_of_lt (Nat.lt_of_lt_of_le (Heap.lt_size q) hp))]; exact n
  there := fun b u q _ => ⟨u, k b u q⟩
  tups := fun b xs q => by rw [upd_ne (ne_of_none q hn)]; exact q
  frzs := fun b u xs q => by rw [upd_ne (ne_of_none q hn)]; exact q
  tbls := fun b ps q => ⟨#[], by rw [upd_ne (ne_of_none q hn), q]; simp⟩
theorem Un.write (mu : Mut (H x)) (he : e = x ∨ H e = some (.own x)) (k : ∀ b u, b ≠ e → h.get? b = some u → h'.get? b = some u) (heo : ∃ u, h'.get? e = some u) : Un fs ex H (upd H x o) h h' := by
  have hx : ∀ b, H b = none → b ≠ x := fun b n z => by subst z; rw [n] at mu; exact mu
  have hb : ∀ b, H b = none → b ≠ e := fun b n z => by
    subst z
    rcases he with r | r
    · exact hx b n r
    · rw [n] at r; cases r
  have hm : ∀ b u, H b = some u → ¬ Mut (some u) → b ≠ x := fun b u q nm z => by subst z; rw [q] at mu; exact nm mu
  refine ⟨fun b u q n _ _ => k b u (hb b n) q, fun b u q n _ _ => ⟨u.slots, k b u (hb b n) q⟩, fun b u q n _ => by rw [upd_ne (hx b n)]; exact n, fun b u q _ => ?_,
    fun b xs q => by rw [upd_ne (hm b _ q fun z => z)]; exact q, fun b u xs q => by rw [upd_ne (hm b _ q fun z => z)]; exact q, fun b ps q => ⟨#[], by rw [upd_ne (hm b _ q fun z => z), q]; simp⟩⟩
  by_cases hbe : b = e
  · subst hbe; exact heo
  · exact ⟨u, k b u hbe q⟩
theorem Un.mono (u : Un fs ex H H1 h h1) (hs : ∀ b ∈ fs, b ∈ fs') (hx : ∀ b ∈ ex, b ∈ ex') : Un fs' ex' H H1 h h1 :=
  ⟨fun b ob q n hb he => u.keep b ob q n (fun z => hb (hs b z)) fun z => he (hx b z), fun _ _ q n _ he => u.any q n fun z => he (hx _ z), fun b ob q n he => u.free b ob q n fun z => he (hx b z), fun b ob q he => u.there b ob q fun z => he (hx b z), u.tups, u.frzs, u.tbls⟩
end

/-! ### the heap without what is tracked -/
def trk (h : Heap) (H : Hp) : List Addr := (List.range h.objs.size).filter fun a => (H a).isSome
def hidT (h : Heap) (H : Hp) : Heap := PySem.W.hideAll h (trk h H)
theorem hidT_size (h : Heap) (H : Hp) : (hidT h H).objs.size = h.objs.size := PySem.W.hideAll_size _ _
theorem hidT_get {h : Heap} {H : Hp} {b : Addr} {o : Obj} (e : h.get? b = some o) (n : H b = none) : (hidT h H).get? b = some o :=
  PySem.W.hideAll_get _ e fun hm => by
    have q : (H b).isSome = true := (List.mem_filter.mp hm).2
    rw [n] at q; simp at q
theorem of_hidT {h : Heap} {H : Hp} {b : Addr} {o : Obj} (e : (hidT h H).get? b = some o) : h.get? b = some o ∧ H b = none := by
  have e' : h.get? b = some o := PySem.W.of_hideAll (trk h H) e
  refine ⟨e', ?_⟩
  cases q : H b with
  | none => rfl
  | some x =>
    have hm : b ∈ trk h H := List.mem_filter.mpr ⟨List.mem_range.mpr (Heap.lt_size e'), by simp [q]⟩
    have z : (hidT h H).get? b = none := PySem.W.hideAll_none (trk h H) hm
    rw [z] at e; cases e

/-! ### OpenK's ledger, filled with every new object but one -/
def allNews (g h : Heap) (L : Addr) : List (Addr × Obj) := (List.range h.objs.size).filterMap fun a => if a = L ∨ (g.get? a).isSome = true then none else (h.get? a).map fun o => (a, o)
theorem mem_allNews {g h : Heap} {L a : Addr} {o : Obj} (h1 : a ≠ L) (h2 : g.get? a = none) (h3 : h.get? a = some o) : (a, o) ∈ allNews g h L :=
  List.mem_filterMap.mpr ⟨a, List.mem_range.mpr (Heap.lt_size h3), by simp [h1, h2, h3]⟩
theorem of_mem_allNews {g h : Heap} {L : Addr} {p : Addr × Obj} (hp : p ∈ allNews g h L) : p.1 ≠ L ∧ g.get? p.1 = none ∧ h.get? p.1 = some p.2 := by
  obtain ⟨b, _, e⟩ := List.mem_filterMap.mp hp
  split at e
  · cases e
  · rename_i hn
    cases q : h.get? b with
    | none => rw [q] at e; simp at e
    | some u =>
      rw [q] at e
      simp only [Option.map_some, Option.some.injEq] at e
      subst e
      refine ⟨fun z => hn (.inl z), ?_, q⟩
      show g.get? b = none
      cases r : g.get? b with
      | none => rfl
      | some v => exact (hn (.inr (by simp [r]))).elim
def rest (g h : Heap) (L d : Addr) : List (Addr × Obj) := (allNews g h L).filter fun p => decide (p.1 ≠ d)
theorem rest_ne {g h : Heap} {L d : Addr} : ∀ p ∈ rest g h L d, p.1 ≠ d := fun p hp => of_decide_eq_true (List.mem_filter.mp hp).2
theorem mem_rest {g h : Heap} {L d a : Addr} {o : Obj} (h1 : a ≠ L) (h2 : g.get? a = none) (h3 : h.get? a = some o) (h4 : a ≠ d) : (a, o) ∈ rest g h L d :=
  List.mem_filter.mpr ⟨mem_allNews h1 h2 h3, decide_eq_true h4⟩
theorem news_all {g h : Heap} {L : Addr} : News g L h (allNews g h L) := fun p hp => let ⟨a, b, c⟩ := of_mem_allNews hp; ⟨c, a, b⟩
theorem news_at {g h : Heap} {L d : Addr} {o : Obj} (h1 : d ≠ L) (h2 : g.get? d = none) (h3 : h.get? d = some o) : News g L h ((d, o) :: rest g h L d) := fun p hp => by
  rcases List.mem_cons.mp hp with rfl | hp
  · exact ⟨h3, h1, h2⟩
  · exact news_all p (List.mem_filter.mp hp).1
/-- behind a rule that changed d alone: all else but the frame is kept -/
theorem kept_of_news {g h h' : Heap} {L d : Addr} {m : Str → Option Value} (k : ∀ b o, g.get? b = some o → h.get? b = some o) (F : Fr g L h' m) (N : News g L h' (rest g h L d)) :
    ∀ b o, b ≠ L → b ≠ d → h.get? b = some o → h'.get? b = some o := fun b o h1 h2 e => by
  cases q : g.get? b with
  | some u =>
    have := k b u q
    rw [e] at this; cases this
    exact F.keep b _ q
  | none => exact (N (b, o) (mem_rest h1 q e h2)).1
end L2

namespace L2
open PySem PySem.Spec PyProof.Rows

/-- the module's facts, over the base: the heap at the law's entry without what is tracked there -/
structure Mod (K : PySem.W.Frag) (mg : Str → Option Value) (base : Heap) : Prop where
  kin : K.In base
  glob : base.Ns mainGlobals mg
  blt : ∃ mb, base.Ns builtinsNs mb ∧ ∀ x : Str, x ≠ "__name__" → mb x = bootBuiltins x
  nolimit : base.NoLimit

/-- the context: a def's body (or a comprehension's block) running. base: fixed through the whole law; s₀, H₀: the entry; outer: the frames whose slots others may change (a def's callers); stack: all frames that run;
   ex: iterators that were made ahead of the entry and are walked here (a comprehension's); fn: the names whose cells were made at the entry (a def: all; a comprehension's block: its own); calm: not within an except suite; pn: pins that every state bears; xe: what is wanted of an exception that leaves the code -/
structure Cx where
  prog : Program
  w : World
  K : PySem.W.Frag
  mg : Str → Option Value
  base : Heap
  A : Around
  N : List Str
  s₀ : Shared
  H₀ : Hp
  env : Env
  outer : List Env
  stack : List Env
  ex : List Addr
  fn : Str → Bool
  calm : Bool
  pn : List (Addr × Obj)
  xe : Value → Shared → Prop
/-- the callers' frames -/
def frs (l : List Env) : List Addr := l.filterMap (·.frame)
abbrev Cx.fs (X : Cx) : List Addr := frs X.outer

def Vis (sc : Scope) (x : Str) : Prop := sc.names.lookup x = some .local ∨ sc.names.lookup x = some .cell ∨ sc.names.lookup x = some .free
def Loc (sc : Scope) (x : Str) : Prop := sc.names.lookup x = some .local ∨ sc.names.lookup x = some .cell
def Look (env : Env) (h : Heap) (m : Str → Option Value) (x : Str) (u : Value) : Prop :=
  (env.kindOf x = some .local ∧ m x = some u) ∨ ((env.kindOf x = some .cell ∨ env.kindOf x = some .free) ∧ ∃ c, env.cells.lookup x = some c ∧ h.IsCell c (some u))

structure Cx.Ok (X : Cx) : Prop where
  mod : Mod X.K X.mg X.base
  kind : X.env.scope.kind = .function
  glob : X.env.globals = mainGlobals
  blt : X.env.builtins = builtinsNs
  above : X.s₀.heap.objs.size ≤ X.env.locals
  inj : ∀ x y c, X.env.cells.lookup x = some c → X.env.cells.lookup y = some c → x = y
  has : ∀ x, (X.env.kindOf x = some .cell ∨ X.env.kindOf x = some .free) → ∃ c, X.env.cells.lookup x = some c
  cab : ∀ x c, X.fn x = true → X.env.cells.lookup x = some c → X.s₀.heap.objs.size ≤ c
  hd : X.calm = true → X.A.handled = none
  frames : X.A.frames = some X.stack
  stk : X.stack = X.outer ∨ (X.stack = X.env :: X.outer ∧ X.env.frame = some X.env.locals)
  exf : ∀ b ∈ X.ex, b ≠ X.env.locals ∧ ∀ x c, X.env.cells.lookup x = some c → c ≠ b
  bs : ∀ b o, X.base.get? b = some o → X.s₀.heap.get? b = some o ∧ X.H₀ b = none
  bsz : X.base.objs.size ≤ X.s₀.heap.objs.size
  noex : ∀ b o, X.base.get? b = some o → b ∉ X.ex
  exfs : ∀ b ∈ X.ex, b ∉ X.fs
  funs : X.s₀.heap.FunFrames X.base X.outer
  frf : ∀ b ∈ X.fs, X.H₀ b = none

structure Inv (X : Cx) (pins : List (Addr × Obj)) (σ : List (Option V)) (H : Hp) (s : Shared) : Prop where
  ok : X.Ok
  os : s.os = X.s₀.os
  bare : AllBare s.gens
  base : Un X.fs X.ex X.H₀ H X.s₀.heap s.heap
  loc : ∃ m, s.heap.Ns X.env.locals m ∧ ∀ (i : Nat) (x : Str) (v : V), X.N[i]? = some x → σ[i]? = some (some v) → Vis X.env.scope x → ∃ u, RelV v u ∧ Look X.env s.heap m x u
  cell : ∀ x c, X.env.cells.lookup x = some c → ∃ v, s.heap.IsCell c v
  free : H X.env.locals = none
  freeC : ∀ x c, X.env.cells.lookup x = some c → H c = none
  pin : ∀ p ∈ X.pn ++ pins, s.heap.get? p.1 = some p.2 ∧ H p.1 = none ∧ p.1 ≠ X.env.locals ∧ p.1 ∉ X.fs ∧ ∀ v, p.2.data ≠ .cell v
  hok : HOk X.prog X.w H s.heap
  len : σ.length = X.N.length

section
variable {X : Cx} {pins : List (Addr × Obj)} {σ : List (Option V)} {H H' : Hp} {s : Shared} {h' : Heap}

theorem Cx.Ok.nofr (ok : X.Ok) {b : Addr} {o : Obj} (e : X.base.get? b = some o) : b ∉ X.fs := fun hb => by
  have := (ok.funs.mem hb).1
  rw [e] at this; cases this
theorem Inv.bs (I : Inv X pins σ H s) : ∀ b o, X.base.get? b = some o → s.heap.get? b = some o ∧ H b = none := fun b o e =>
  ⟨I.base.keep b o (I.ok.bs b o e).1 (I.ok.bs b o e).2 (I.ok.nofr e) (I.ok.noex b o e), I.base.free b o (I.ok.bs b o e).1 (I.ok.bs b o e).2 (I.ok.noex b o e)⟩
theorem Inv.bk (I : Inv X pins σ H s) : ∀ b o, X.base.get? b = some o → s.heap.get? b = some o := fun b o e => (I.bs b o e).1
theorem Inv.mod (I : Inv X pins σ H s) : Mod X.K X.mg X.base := I.ok.mod
theorem Inv.kIn (I : Inv X pins σ H s) : X.K.In s.heap := I.ok.mod.kin.keeps I.bk
theorem Inv.nolimit (I : Inv X pins σ H s) : s.heap.NoLimit := I.ok.mod.nolimit.keeps I.bk
/-- the frame over the base: for OpenK's rules (K.In X.base is I.mod.kin) -/
theorem Inv.fr (I : Inv X pins σ H s) : ∃ m, Fr X.base X.env.locals s.heap m :=
  let ⟨m, hn, _⟩ := I.loc
  ⟨m, hn, I.bk, Nat.le_trans I.ok.bsz I.ok.above⟩
theorem Inv.lt (I : Inv X pins σ H s) : X.env.locals < s.heap.objs.size := let ⟨_, hn, _⟩ := I.loc; hn.lt
theorem Inv.sz (I : Inv X pins σ H s) : X.s₀.heap.objs.size ≤ s.heap.objs.size := Nat.le_trans I.ok.above (Nat.le_of_lt I.lt)
theorem Inv.nofs (I : Inv X pins σ H s) {a : Addr} (h : s.heap.objs.size ≤ a) : a ∉ X.fs := fun hb => by
  obtain ⟨_, o, ho, _⟩ := I.ok.funs.mem hb
  exact absurd (Nat.lt_of_lt_of_le (Heap.lt_size ho) (Nat.le_trans I.sz h)) (Nat.lt_irrefl _)
theorem Inv.cne (I : Inv X pins σ H s) : ∀ x c, X.env.cells.lookup x = some c → c ≠ X.env.locals := fun x c e z => by
  obtain ⟨v, o, ho, hd⟩ := I.cell x c e
  obtain ⟨m, ⟨o', es, ep, ho', hd', _⟩, _⟩ := I.loc
  rw [z, ho'] at ho; cases ho; rw [hd'] at hd; cases hd
theorem Inv.funs (I : Inv X pins σ H s) : s.heap.FunFrames X.base X.outer := by
  have all : ∀ (l : List Env), (∀ b ∈ frs l, b ∈ X.fs) → X.s₀.heap.FunFrames X.base l → s.heap.FunFrames X.base l := by
    intro l
    induction l with
    | nil => intro _ _; trivial
    | cons env r ih =>
      intro hs hl
      obtain ⟨hk, ⟨L, o, hf, hn, ho, hd⟩, hr⟩ := hl
      have hL : L ∈ X.fs := hs L (by unfold frs; rw [List.filterMap_cons, hf]; exact List.mem_cons_self)
      obtain ⟨sl, e⟩ := I.base.slot L o ho (I.ok.frf L hL) hL fun z => I.ok.exfs L z hL
      exact ⟨hk, ⟨L, _, hf, hn, e, hd⟩, ih (fun b hb => hs b (by unfold frs; rw [List.filterMap_cons, hf]; exact List.mem_cons_of_mem _ hb)) hr⟩
  exact all X.outer (fun _ hb => hb) I.ok.funs

/-- the frames that run, for a call -/
theorem Inv.stack (I : Inv X pins σ H s) : s.heap.FunFrames X.base X.stack := by
  rcases I.ok.stk with e | ⟨e, hf⟩
  · rw [e]; exact I.funs
  · rw [e]
    obtain ⟨m, hn, _⟩ := I.loc
    refine .cons (by rw [I.ok.kind]; decide) hf hn ?_ I.funs
    exact Heap.get?_none_of_le (Nat.le_trans I.ok.bsz I.ok.above)
theorem Inv.stkSub (I : Inv X pins σ H s) : ∀ b ∈ frs X.stack, b ∈ X.env.locals :: X.fs := fun b hb => by
  rcases I.ok.stk with e | ⟨e, hf⟩
  · rw [e] at hb; exact List.mem_cons_of_mem _ hb
  · rw [e] at hb
    unfold frs at hb
    rw [List.filterMap_cons, hf] at hb
    exact hb
theorem Inv.stkFree (I : Inv X pins σ H s) : ∀ b ∈ frs X.stack, H b = none := fun b hb => by
  rcases List.mem_cons.mp (I.stkSub b hb) with e | hb
  · rw [e]; exact I.free
  · obtain ⟨_, o, ho, _⟩ := I.ok.funs.mem hb
    exact I.base.free b o ho (I.ok.frf b hb) fun z => I.ok.exfs b z hb

/-- THE STEP: the untracked objects but the frame and the records at ch are kept (the callers' frames up to slots), the frame's map is kept, the new abstract heap is held -/
theorem Inv.step {g' : Array GenState} {t' : Nat} {d' : Drawn} {ch : List Addr} (I : Inv X pins σ H s)
    (hch : ∀ b ∈ ch, (b ∈ X.ex ∨ X.s₀.heap.objs.size ≤ b) ∧ b ≠ X.env.locals ∧ (∀ x c, X.env.cells.lookup x = some c → c ≠ b) ∧ ∀ p ∈ X.pn ++ pins, p.1 ≠ b)
    (keep : ∀ b o, b ≠ X.env.locals → b ∉ X.fs → b ∉ ch → s.heap.get? b = some o → H b = none → h'.get? b = some o)
    (slot : ∀ b o, b ≠ X.env.locals → b ∈ X.fs → b ∉ ch → s.heap.get? b = some o → H b = none → ∃ sl, h'.get? b = some { o with slots := sl }) (free : ∀ b o, b ∉ ch → s.heap.get? b = some o → H b = none → H' b = none)
    (there : ∀ b o, b ∉ ch → s.heap.get? b = some o → ∃ o', h'.get? b = some o')
    (tups : ∀ b xs, H b = some (.tup xs) → H' b = some (.tup xs)) (frzs : ∀ b o u, H b = some (.frz o u) → H' b = some (.frz o u)) (tbls : ∀ b ps, H b = some (.tbl ps) → ∃ more, H' b = some (.tbl (ps ++ more)))
    (ns : ∀ m, s.heap.Ns X.env.locals m → h'.Ns X.env.locals m) (hok : HOk X.prog X.w H' h') (hg : AllBare g') :
    Inv X pins σ H' { s with heap := h', gens := g', drawn := d', toks := t' } := by
  have neL : ∀ b o, X.s₀.heap.get? b = some o → b ≠ X.env.locals := fun b o e => Nat.ne_of_lt (Nat.lt_of_lt_of_le (Heap.lt_size e) I.ok.above)
  have neC : ∀ b o, X.s₀.heap.get? b = some o → b ∉ X.ex → b ∉ ch := fun b o e hx hb => by
    rcases (hch b hb).1 with z | z
    · exact hx z
    · exact absurd (Nat.lt_of_lt_of_le (Heap.lt_size e) z) (Nat.lt_irrefl _)
  have cellK : ∀ x c, X.env.cells.lookup x = some c → ∀ v, s.heap.IsCell c v → h'.IsCell c v := fun x c e v ⟨o, ho, hd⟩ => by
    have nch : c ∉ ch := fun z => (hch c z).2.2.1 x c e rfl
    by_cases hc : c ∈ X.fs
    · obtain ⟨sl, q⟩ := slot c o (I.cne x c e) hc nch ho (I.freeC x c e)
      exact ⟨_, q, hd⟩
    · exact ⟨o, keep c o (I.cne x c e) hc nch ho (I.freeC x c e), hd⟩
  refine ⟨I.ok, I.os, hg, ⟨fun b o e n hb hx => ?_, fun b o e n hb hx => ?_, fun b o e n hx => ?_, fun b o e hx => ?_, fun b xs e => tups b xs (I.base.tups b xs e), fun b o xs e => frzs b o xs (I.base.frzs b o xs e), fun b ps e => ?_⟩, ?_, fun x c e => ?_, ?_, fun x c e => ?_, fun p hp => ?_, hok, I.len⟩
  · exact keep b o (neL b o e) hb (neC b o e hx) (I.base.keep b o e n hb hx) (I.base.free b o e n hx)
  · obtain ⟨sl, e1⟩ := I.base.slot b o e n hb hx
    obtain ⟨sl', e2⟩ := slot b _ (neL b o e) hb (neC b o e hx) e1 (I.base.free b o e n hx)
    exact ⟨sl', e2⟩
  · obtain ⟨o', e1⟩ := I.base.there b o e hx
    exact free b o' (neC b o e hx) e1 (I.base.free b o e n hx)
  · obtain ⟨o', e1⟩ := I.base.there b o e hx
    exact there b o' (neC b o e hx) e1
  · obtain ⟨m1, e1⟩ := I.base.tbls b ps e
    obtain ⟨m2, e2⟩ := tbls b _ e1
    exact ⟨m1 ++ m2, by rw [e2, Array.append_assoc]⟩
  · obtain ⟨m, hn, hl⟩ := I.loc
    refine ⟨m, ns m hn, fun i x v e1 e2 e3 => ?_⟩
    obtain ⟨u, r, l⟩ := hl i x v e1 e2 e3
    refine ⟨u, r, ?_⟩
    rcases l with l | ⟨k, c, e, z⟩
    · exact .inl l
    · exact .inr ⟨k, c, e, cellK x c e _ z⟩
  · obtain ⟨v, z⟩ := I.cell x c e
    exact ⟨v, cellK x c e v z⟩
  · obtain ⟨m, ⟨o, _, _, ho, _⟩, _⟩ := I.loc
    exact free _ o (fun z => (hch _ z).2.1 rfl) ho I.free
  · obtain ⟨v, o, ho, hd⟩ := I.cell x c e
    exact free c o (fun z => (hch c z).2.2.1 x c e rfl) ho (I.freeC x c e)
  · obtain ⟨e, n, ne, nf, d⟩ := I.pin p hp
    have nch : p.1 ∉ ch := fun z => (hch p.1 z).2.2.2 p hp rfl
    exact ⟨keep p.1 p.2 ne nf nch e n, free p.1 p.2 nch e n, ne, nf, d⟩
/-- .. where the frame's own object is kept too -/
theorem Inv.un {t' : Nat} (I : Inv X pins σ H s) (u : Un X.fs [] H H' s.heap h') (hok : HOk X.prog X.w H' h') : Inv X pins σ H' { s with heap := h', toks := t' } := by
  obtain ⟨m, ⟨o, es, ep, ho, r⟩, _⟩ := id I.loc
  obtain ⟨sl, hL⟩ := u.any ho I.free (by simp)
  exact I.step (g' := s.gens) (d' := s.drawn) (ch := []) (fun _ z => nomatch z) (fun b o _ hb _ e n => u.keep b o e n hb (by simp)) (fun b o _ hb _ e n => u.slot b o e n hb (by simp)) (fun b o _ e n => u.free b o e n (by simp)) (fun b o _ e => u.there b o e (by simp)) u.tups u.frzs u.tbls (fun m' hm => by
    obtain ⟨o', es', ep', ho', r'⟩ := hm
    rw [ho] at ho'; cases ho'
    exact ⟨_, es', ep', hL, r'⟩) hok I.bare
/-- behind a call (or a comprehension's block): the slots of this frame may have changed too, the records at ch may have turned -/
theorem Inv.call {g' : Array GenState} {t' : Nat} {d' : Drawn} {ch : List Addr} (I : Inv X pins σ H s) (u : Un (frs X.stack) ch H H' s.heap h') (hok : HOk X.prog X.w H' h') (hg : AllBare g')
    (hch : ∀ b ∈ ch, (b ∈ X.ex ∨ X.s₀.heap.objs.size ≤ b) ∧ b ≠ X.env.locals ∧ (∀ x c, X.env.cells.lookup x = some c → c ≠ b) ∧ ∀ p ∈ X.pn ++ pins, p.1 ≠ b) :
    Inv X pins σ H' { s with heap := h', gens := g', drawn := d', toks := t' } := by
  obtain ⟨m, ⟨o, es, ep, ho, r⟩, _⟩ := id I.loc
  obtain ⟨sl, hL⟩ := u.any ho I.free fun z => (hch _ z).2.1 rfl
  exact I.step (ch := ch) hch (fun b o hL hb hc e n => u.keep b o e n (fun z => (List.mem_cons.mp (I.stkSub b z)).elim hL hb) hc) (fun b o _ _ hc e n => u.any e n hc) (fun b o hc e n => u.free b o e n hc) (fun b o hc e => u.there b o e hc) u.tups u.frzs u.tbls (fun m' hm => by
    obtain ⟨o', es', ep', ho', r'⟩ := hm
    rw [ho] at ho'; cases ho'
    exact ⟨_, es', ep', hL, r'⟩) hok hg
/-- an untracked record of ours (an iterator) has turned -/
theorem Inv.turned {t' : Nat} {it : Addr} (I : Inv X pins σ H s) (k : ∀ b o, b ≠ it → s.heap.get? b = some o → h'.get? b = some o) (hn : H it = none) (hL : it ≠ X.env.locals)
    (h1 : it ∈ X.ex ∨ X.s₀.heap.objs.size ≤ it) (h2 : ∀ x c, X.env.cells.lookup x = some c → c ≠ it) (h3 : ∀ p ∈ X.pn ++ pins, p.1 ≠ it) : Inv X pins σ H { s with heap := h', toks := t' } := by
  have nit : ∀ b u, H b = some u → b ≠ it := fun b u e z => by rw [z, hn] at e; cases e
  refine I.step (g' := s.gens) (d' := s.drawn) (ch := [it]) (fun b hb => ?_) (fun b o _ _ hc e _ => k b o (fun z => hc (by simp [z])) e) (fun b o _ _ hc e _ => ⟨o.slots, k b o (fun z => hc (by simp [z])) e⟩) (fun _ _ _ _ n => n)
    (fun b o hc e => ⟨o, k b o (fun z => hc (by simp [z])) e⟩) (fun _ _ e => e) (fun _ _ _ e => e) (fun b ps e => ⟨#[], by rw [e]; simp⟩) (fun m hm => ?_) (fun b u e => ?_) I.bare
  · have e : b = it := by simpa using hb
    subst e
    exact ⟨h1, hL, h2, h3⟩
  · obtain ⟨o, es, ep, ho, r⟩ := hm
    exact ⟨o, es, ep, k _ o (Ne.symm hL) ho, r⟩
  · refine (I.hok b u e).stay (fun c v hc q => k c v ?_ q) (fun _ q => q) fun _ _ q => q
    rcases hc with z | z
    · rw [z]; exact nit b u e
    · exact nit c _ z
theorem Inv.tok (I : Inv X pins σ H s) (t : Nat) : Inv X pins σ H { s with toks := t } := I.un (h' := s.heap) (t' := t) Un.refl I.hok
/-- all objects kept -/
theorem Inv.kept {t' : Nat} (I : Inv X pins σ H s) (k : ∀ b u, s.heap.get? b = some u → h'.get? b = some u) : Inv X pins σ H { s with heap := h', toks := t' } := I.un (Un.kept k) (I.hok.kept k)
/-- a new object laid and tracked -/
theorem Inv.laid {a : Addr} {o : HO} {t' : Nat} (I : Inv X pins σ H s) (k : ∀ b u, s.heap.get? b = some u → h'.get? b = some u) (hp : s.heap.objs.size ≤ a) (new : ObjOk X.prog X.w (upd H a o) h' a o) :
    Inv X pins σ (upd H a o) { s with heap := h', toks := t' } := I.un (Un.laid k hp (I.hok.fresh hp)) (I.hok.laid k hp new)
/-- an object written -/
theorem Inv.write {x e : Addr} {o : HO} {t' : Nat} (I : Inv X pins σ H s) (mu : Mut (H x)) (he : e = x ∨ H e = some (.own x)) (k : ∀ b u, b ≠ e → s.heap.get? b = some u → h'.get? b = some u) (heo : ∃ u, h'.get? e = some u)
    (new : ObjOk X.prog X.w (upd H x o) h' x o) : Inv X pins σ (upd H x o) { s with heap := h', toks := t' } := I.un (Un.write mu he k heo) (I.hok.write mu he k heo new)
/-- forgetting slots, pins -/
theorem Inv.weak {σ' : List (Option V)} (I : Inv X pins σ H s) (hl : σ'.length = σ.length) (w : ∀ (i : Nat) v, σ'[i]? = some (some v) → σ[i]? = some (some v)) : Inv X pins σ' H s :=
  ⟨I.ok, I.os, I.bare, I.base, let ⟨m, hn, hl'⟩ := I.loc; ⟨m, hn, fun i x v e1 e2 e3 => hl' i x v e1 (w i v e2) e3⟩, I.cell, I.free, I.freeC, I.pin, I.hok, hl.trans I.len⟩
theorem Inv.pins_of {pins' : List (Addr × Obj)} (I : Inv X pins σ H s) (h : ∀ p ∈ pins', s.heap.get? p.1 = some p.2 ∧ H p.1 = none ∧ p.1 ≠ X.env.locals ∧ p.1 ∉ X.fs ∧ ∀ v, p.2.data ≠ .cell v) : Inv X pins' σ H s :=
  ⟨I.ok, I.os, I.bare, I.base, I.loc, I.cell, I.free, I.freeC, fun p hp => (List.mem_append.mp hp).elim (fun z => I.pin p (List.mem_append_left _ z)) (h p), I.hok, I.len⟩

theorem nodup_ix {N : List Str} (hN : N.Nodup) {i j : Nat} {x : Str} (a : N[i]? = some x) (b : N[j]? = some x) : i = j := by
  obtain ⟨h1, e1⟩ := List.getElem?_eq_some_iff.mp a
  obtain ⟨h2, e2⟩ := List.getElem?_eq_some_iff.mp b
  exact (List.getElem_inj hN).mp (e1.trans e2.symm)

/-- a name is stored; what changed -/
theorem store_ok2 {M : Model} {A : Around} {E : Value → Shared → Prop} {i : Nat} {x : Str} {v : V} {u : Value} {Q : Unit → Shared → Prop} (I : Inv X pins σ H s) (hN : X.N.Nodup) (hi : X.N[i]? = some x) (hx : Loc X.env.scope x) (r : RelV v u)
    (h : ∀ s', Inv X pins (σ.set i (some v)) H s' → (∃ a, Heap.SameBut a s.heap s'.heap ∧ (a = X.env.locals ∨ X.env.cells.lookup x = some a)) → Q () s') (hf : X.fn x = true ∨ X.env.scope.names.lookup x = some .local := by first | exact .inl rfl | exact .inr rfl | assumption) : wpAny M A (storeName X.env x u) Q E s := by
  obtain ⟨m, hn, hl⟩ := id I.loc
  have hcls : (X.env.scope.kind == .class || (X.env.scope.kind == .module && X.env.locals != X.env.globals)) = false := by rw [I.ok.kind]; rfl
  have hiσ : i < σ.length := by rw [I.len]; exact (List.getElem?_eq_some_iff.mp hi).1
  have cne := I.cne
  have tracked : ∀ {a : Addr} {h' : Heap}, (∃ o, s.heap.get? a = some o ∧ H a = none) → Heap.SameBut a s.heap h' → HOk X.prog X.w H h' := fun {a h'} ha hs b ob e => by
    obtain ⟨_, _, hfree⟩ := ha
    refine (I.hok b ob e).stay (fun c w' hc q => (hs.2 c ?_).trans q) (fun _ q => q) fun _ _ q => q
    rintro rfl
    rcases hc with rfl | hc
    · rw [hfree] at e; cases e
    · rw [hfree] at hc; cases hc
  rcases hx with hk | hk
  · refine wpAny_storeName_local hk hn (fun h' hn' hs => ?_) hcls
    obtain ⟨oL, _, _, hoL, _⟩ := id hn
    refine h _ ⟨I.ok, I.os, I.bare, ⟨fun b o e n hb hx => ?_, fun b o e n hb hx => ?_, I.base.free, fun b o e hx => ?_, I.base.tups, I.base.frzs, I.base.tbls⟩, ⟨_, hn', fun j y v' e1 e2 e3 => ?_⟩, fun y c e => ?_, I.free, I.freeC, fun p hp => ?_, tracked ⟨oL, hoL, I.free⟩ hs, by simpa using I.len⟩ ⟨_, hs, .inl rfl⟩
    · exact (hs.2 b (Nat.ne_of_lt (Nat.lt_of_lt_of_le (Heap.lt_size e) I.ok.above))).trans (I.base.keep b o e n hb hx)
    · obtain ⟨sl, e1⟩ := I.base.slot b o e n hb hx
      exact ⟨sl, (hs.2 b (Nat.ne_of_lt (Nat.lt_of_lt_of_le (Heap.lt_size e) I.ok.above))).trans e1⟩
    · obtain ⟨o', e1⟩ := I.base.there b o e hx
      exact ⟨o', (hs.2 b (Nat.ne_of_lt (Nat.lt_of_lt_of_le (Heap.lt_size e) I.ok.above))).trans e1⟩
    · by_cases hj : j = i
      · subst hj
        rw [hi] at e1; cases e1
        rw [List.getElem?_set_self hiσ] at e2
        cases e2
        exact ⟨u, r, .inl ⟨hk, by simp⟩⟩
      · rw [List.getElem?_set_ne (Ne.symm hj)] at e2
        obtain ⟨u', r', q⟩ := hl j y v' e1 e2 e3
        refine ⟨u', r', ?_⟩
        rcases q with ⟨k, e⟩ | ⟨k, c, e, z⟩
        · refine .inl ⟨k, ?_⟩
          have : y ≠ x := fun e => hj (nodup_ix hN e1 (e ▸ hi))
          simp [this, e]
        · exact .inr ⟨k, c, e, z.sameBut hs (cne y c e)⟩
    · obtain ⟨w', z⟩ := I.cell y c e
      exact ⟨w', z.sameBut hs (cne y c e)⟩
    · obtain ⟨e, n, ne, nf, d⟩ := I.pin p hp
      exact ⟨(hs.2 p.1 ne).trans e, n, ne, nf, d⟩
  · have hfn : X.fn x = true := by
      rcases hf with z | z
      · exact z
      · rw [z] at hk; cases hk
    obtain ⟨c, hc⟩ := I.ok.has x (.inl hk)
    obtain ⟨w', z⟩ := I.cell x c hc
    refine wpAny_storeName_cell I.ok.kind hk hc z (fun h' hc' hs => ?_)
    obtain ⟨oc, hoc, hocd⟩ := id z
    refine h { s with heap := h' } ⟨I.ok, I.os, I.bare, ⟨fun b o e n hb hx => ?_, fun b o e n hb hx => ?_, I.base.free, fun b o e hx => ?_, I.base.tups, I.base.frzs, I.base.tbls⟩, ⟨m, hn.sameBut hs (Ne.symm (cne x c hc)), fun j y v' e1 e2 e3 => ?_⟩, fun y c' e => ?_, I.free, I.freeC, fun p hp => ?_, tracked ⟨oc, hoc, I.freeC x c hc⟩ hs, by simpa using I.len⟩ ⟨c, hs, .inr hc⟩
    · exact (hs.2 b (Nat.ne_of_lt (Nat.lt_of_lt_of_le (Heap.lt_size e) (I.ok.cab x c hfn hc)))).trans (I.base.keep b o e n hb hx)
    · obtain ⟨sl, e1⟩ := I.base.slot b o e n hb hx
      exact ⟨sl, (hs.2 b (Nat.ne_of_lt (Nat.lt_of_lt_of_le (Heap.lt_size e) (I.ok.cab x c hfn hc)))).trans e1⟩
    · obtain ⟨o', e1⟩ := I.base.there b o e hx
      exact ⟨o', (hs.2 b (Nat.ne_of_lt (Nat.lt_of_lt_of_le (Heap.lt_size e) (I.ok.cab x c hfn hc)))).trans e1⟩
    · by_cases hj : j = i
      · subst hj
        rw [hi] at e1; cases e1
        rw [List.getElem?_set_self hiσ] at e2
        cases e2
        exact ⟨u, r, .inr ⟨.inl hk, c, hc, hc'⟩⟩
      · rw [List.getElem?_set_ne (Ne.symm hj)] at e2
        obtain ⟨u', r', q⟩ := hl j y v' e1 e2 e3
        refine ⟨u', r', ?_⟩
        rcases q with q | ⟨k, c', e, z'⟩
        · exact .inl q
        · refine .inr ⟨k, c', e, z'.sameBut hs ?_⟩
          rintro rfl
          exact hj (nodup_ix hN e1 (I.ok.inj _ _ _ e hc ▸ hi))
    · by_cases hcc : c' = c
      · subst hcc; exact ⟨_, hc'⟩
      · obtain ⟨w2, z2⟩ := I.cell y c' e
        exact ⟨w2, z2.sameBut hs hcc⟩
    · obtain ⟨e, n, ne, nf, d⟩ := I.pin p hp
      refine ⟨(hs.2 p.1 ?_).trans e, n, ne, nf, d⟩
      intro q
      rw [q, hoc] at e
      have q' : oc = p.2 := Option.some.inj e
      exact d w' (by rw [← q']; exact hocd)
theorem store_ok {M : Model} {A : Around} {E : Value → Shared → Prop} {i : Nat} {x : Str} {v : V} {u : Value} {Q : Unit → Shared → Prop} (I : Inv X pins σ H s) (hN : X.N.Nodup) (hi : X.N[i]? = some x) (hx : Loc X.env.scope x) (r : RelV v u)
    (h : ∀ s', Inv X pins (σ.set i (some v)) H s' → Q () s') (hf : X.fn x = true ∨ X.env.scope.names.lookup x = some .local := by first | exact .inl rfl | exact .inr rfl | assumption) : wpAny M A (storeName X.env x u) Q E s :=
  store_ok2 I hN hi hx r (fun s' I' _ => h s' I') hf
/-- behind a call or a block, the state as it is -/
theorem Inv.call' {s' : Shared} {ch : List Addr} (I : Inv X pins σ H s) (ho : s'.os = s.os) (u : Un (frs X.stack) ch H H' s.heap s'.heap) (hok : HOk X.prog X.w H' s'.heap) (hg : AllBare s'.gens)
    (hch : ∀ b ∈ ch, (b ∈ X.ex ∨ X.s₀.heap.objs.size ≤ b) ∧ b ≠ X.env.locals ∧ (∀ x c, X.env.cells.lookup x = some c → c ≠ b) ∧ ∀ p ∈ X.pn ++ pins, p.1 ≠ b) : Inv X pins σ H' s' := by
  obtain ⟨h', g', d', t', o'⟩ := s'
  have e : o' = s.os := ho
  subst e
  exact I.call (g' := g') (t' := t') (d' := d') u hok hg hch
end

/-! ### the judgements -/
/-- an exception: its class, its own dict's address (where it has one), the abstract heap behind it -/
abbrev XK := Value → Option Addr → Hp → Prop
abbrev St := List (Option V)
abbrev VK := V → Hp → Prop
/-- an expression's reading; a test's; an argument list's -/
abbrev TE := St → Hp → VK → Prop
abbrev TT := St → Hp → (Bool → Hp → Prop) → Prop
abbrev TA := St → Hp → (List V → Hp → Prop) → Prop
/-- what is wanted behind a statement -/
structure Ends where
  nx : St → Hp → Prop
  rt : VK
  bk : St → Hp → Prop := fun _ _ => False
  ct : St → Hp → Prop := fun _ _ => False
abbrev TS := Ends → St → Hp → Prop

def EP (X : Cx) (pins : List (Addr × Obj)) (σ : St) (Q : VK) (u : Value) (s' : Shared) : Prop := ∃ v H', Inv X pins σ H' s' ∧ RelV v u ∧ Q v H'
def TP (X : Cx) (pins : List (Addr × Obj)) (σ : St) (Q : Bool → Hp → Prop) (b : Bool) (s' : Shared) : Prop := ∃ H', Inv X pins σ H' s' ∧ Q b H'
def AP (X : Cx) (pins : List (Addr × Obj)) (σ : St) (Q : List V → Hp → Prop) (us : List Value) (s' : Shared) : Prop := ∃ vs H', Inv X pins σ H' s' ∧ Vals vs us ∧ Q vs H'
def SP (X : Cx) (pins : List (Addr × Obj)) (D : Ends) (f : Flow) (s' : Shared) : Prop :=
  match f with
  | .next => ∃ σ' H', Inv X pins σ' H' s' ∧ D.nx σ' H'
  | .brk => ∃ σ' H', Inv X pins σ' H' s' ∧ D.bk σ' H'
  | .cont => ∃ σ' H', Inv X pins σ' H' s' ∧ D.ct σ' H'
  | .ret u => ∃ v σ' H', Inv X pins σ' H' s' ∧ RelV v u ∧ D.rt v H'

def PE (X : Cx) (e : Expr) (t : TE) : Prop :=
  ∀ (pins : List (Addr × Obj)) (s : Shared) (σ : St) (H : Hp) (Q : VK), Inv X pins σ H s → t σ H Q → wpAny (model X.prog X.w) X.A (eval e X.env) (EP X pins σ Q) X.xe s
def PT (X : Cx) (e : Expr) (t : TT) : Prop :=
  ∀ (pins : List (Addr × Obj)) (s : Shared) (σ : St) (H : Hp) (Q : Bool → Hp → Prop), Inv X pins σ H s → t σ H Q → wpAny (model X.prog X.w) X.A (isTrue e X.env (eval e X.env)) (TP X pins σ Q) X.xe s
/-- a test whatever its 'whole' is (and, or) -/
def PW (X : Cx) (e : Expr) (t : TT) : Prop :=
  ∀ (whole : Sem Value) (pins : List (Addr × Obj)) (s : Shared) (σ : St) (H : Hp) (Q : Bool → Hp → Prop), Inv X pins σ H s → t σ H Q → wpAny (model X.prog X.w) X.A (isTrue e X.env whole) (TP X pins σ Q) X.xe s
theorem PW.pt {X : Cx} {e : Expr} {t : TT} (h : PW X e t) : PT X e t := h _
/-- an argument list (no star), from the left -/
def PA (X : Cx) (es : List Expr) (t : TA) : Prop :=
  ∀ (pos : Pos) (pins : List (Addr × Obj)) (s : Shared) (σ : St) (H : Hp) (Q : List V → Hp → Prop), Inv X pins σ H s → t σ H Q → wpAny (model X.prog X.w) X.A (spliced (backTo pos (starEach es X.env))) (AP X pins σ Q) X.xe s
def PS (X : Cx) (st : Stmt) (t : TS) : Prop :=
  ∀ (pins : List (Addr × Obj)) (s : Shared) (σ : St) (H : Hp) (D : Ends), Inv X pins σ H s → t D σ H → wpAny (model X.prog X.w) X.A (exec st X.env) (SP X pins D) X.xe s
def PSs (X : Cx) (st : List Stmt) (t : TS) : Prop :=
  ∀ (pins : List (Addr × Obj)) (s : Shared) (σ : St) (H : Hp) (D : Ends), Inv X pins σ H s → t D σ H → wpAny (model X.prog X.w) X.A (execs st X.env) (SP X pins D) X.xe s
/-- weaken the end -/
theorem thn {α : Type} {t : Sem α} {Q Q' : α → Shared → Prop} {M : Model} {A : Around} {E : Value → Shared → Prop} {s : Shared} (h : wpAny M A t Q E s) (hQ : ∀ a s, Q a s → Q' a s) : wpAny M A t Q' E s := wpAny_mono h hQ fun _ _ x => x
end L2

namespace L2
open PySem PySem.Spec PyProof.Rows
section
variable {X : Cx}

/-- two expressions in a row -/
theorem bin {a b : Expr} {ta tb : TE} (ha : PE X a ta) (hb : PE X b tb) {pins : List (Addr × Obj)} {s : Shared} {σ : St} {H : Hp} {R : V → V → Hp → Prop} (I : Inv X pins σ H s) (h : ta σ H fun x H1 => tb σ H1 fun y H2 => R x y H2)
    {α : Type} {Q : α → Shared → Prop} {f : Value → Value → Sem α}
    (hf : ∀ v u s2 x y H2, Inv X pins σ H2 s2 → RelV x v → RelV y u → R x y H2 → wpAny (model X.prog X.w) X.A (f v u) Q X.xe s2) :
    wpAny (model X.prog X.w) X.A (eval a X.env) (fun v s₁ => wpAny (model X.prog X.w) X.A (eval b X.env) (fun u s₂ => wpAny (model X.prog X.w) X.A (f v u) Q X.xe s₂) X.xe s₁) X.xe s := by
  refine thn (ha pins s σ H _ I h) fun v s1 ⟨x, H1, I1, r1, q1⟩ => ?_
  refine thn (hb pins s1 σ H1 _ I1 q1) fun u s2 ⟨y, H2, I2, r2, q2⟩ => ?_
  exact hf v u s2 x y H2 I2 r1 r2 q2

/-! ### names and constants -/
def tVar (i : Nat) : TE := fun σ H Q => ∃ v, σ[i]? = some (some v) ∧ Q v H
def tC (v : V) : TE := fun _ H Q => Q v H
theorem pe_var {i : Nat} {x : Str} {pos : Pos} (hN : X.N[i]? = some x) (hv : Vis X.env.scope x) (hd : (x == ("__debug__" : Str)) = false := by decide) (hcd : (x == ("__classdict__" : Str)) = false := by decide) : PE X (.Name x pos) (tVar i) := by
  intro pins s σ H Q I h
  obtain ⟨v, e, h⟩ := h
  obtain ⟨m, hn, hl⟩ := I.loc
  obtain ⟨u, r, l⟩ := hl i x v hN e hv
  have fin : EP X pins σ Q u s := ⟨v, H, I, r, h⟩
  rcases l with ⟨hk, hm⟩ | ⟨hk, c, hc, hcell⟩
  · exact wpAny_Name (wpAny_loadName_local I.ok.kind hk hn hm fin) hd
  · rcases hk with hk | hk
    · exact wpAny_Name (wpAny_loadName_cell I.ok.kind hk hc hcell fin) hd
    · exact wpAny_Name (wpAny_loadName_free I.ok.kind hk hc hcell fin hcd) hd
theorem pe_int {i j pos} : PE X (.Constant (.int i) j pos) (tC (.int i)) := fun _ _ _ H _ I h => wpAny_Constant_int ⟨.int i, H, I.tok _, ⟨_, rfl⟩, h⟩
theorem pe_bl {b j pos} : PE X (.Constant (.bool b) j pos) (tC (.bl b)) := fun _ _ _ H _ I h => Constant_bool ⟨.bl b, H, I, rfl, h⟩
theorem pe_non {j pos} : PE X (.Constant .none j pos) (tC .non) := fun _ _ _ H _ I h => Constant_none ⟨.non, H, I, rfl, h⟩
theorem pe_str {x j pos} : PE X (.Constant (.str x) j pos) (tC (.str x)) := fun _ _ _ H _ I h => Calls.Constant_str ⟨.str x, H, I.tok _, ⟨_, rfl⟩, h⟩

/-- a global name of the def -/
def Gl (X : Cx) (x : Str) : Prop := X.env.kindOf x = some .globalImplicit
theorem ld_glob {E : Value → Shared → Prop} {pins : List (Addr × Obj)} {s : Shared} {σ : St} {H : Hp} {x : Str} {u : Value} {pos : Pos} {Q : Value → Shared → Prop} (I : Inv X pins σ H s) (hg : Gl X x) (hm : X.mg x = some u) (h : Q u s)
    (hd : (x == ("__debug__" : Str)) = false := by decide) : wpAny (model X.prog X.w) X.A (eval (.Name x pos) X.env) Q E s :=
  Calls.Name_function_global I.ok.kind hg (Calls.loadGlobal_global (by rw [I.ok.glob]; exact I.mod.glob.keeps I.bk) hm h) hd
theorem ld_blt {E : Value → Shared → Prop} {pins : List (Addr × Obj)} {s : Shared} {σ : St} {H : Hp} {x : Str} {u : Value} {pos : Pos} {Q : Value → Shared → Prop} (I : Inv X pins σ H s) (hg : Gl X x) (hm : X.mg x = none) (hv : bootBuiltins x = some u) (h : Q u s)
    (hn : x ≠ "__name__" := by decide) (hd : (x == ("__debug__" : Str)) = false := by decide) : wpAny (model X.prog X.w) X.A (eval (.Name x pos) X.env) Q E s := by
  obtain ⟨mb, h1, h2⟩ := I.mod.blt
  exact Calls.Name_function_global I.ok.kind hg (Calls.loadGlobal_builtin (by rw [I.ok.glob]; exact I.mod.glob.keeps I.bk) hm (by rw [I.ok.blt]; exact h1.keeps I.bk) ((h2 x hn).trans hv) h) hd
/-- a module's constant, a class, a function, as a value -/
theorem pe_glob {x : Str} {v : V} {u : Value} {pos : Pos} (hg : Gl X x) (hm : X.mg x = some u) (r : RelV v u) (hd : (x == ("__debug__" : Str)) = false := by decide) : PE X (.Name x pos) (tC v) :=
  fun _ _ _ H _ I h => ld_glob I hg hm ⟨v, H, I, r, h⟩ hd
theorem pe_bltn {x : Str} {v : V} {u : Value} {pos : Pos} (hg : Gl X x) (hm : X.mg x = none) (hv : bootBuiltins x = some u) (r : RelV v u) (hn : x ≠ "__name__" := by decide) (hd : (x == ("__debug__" : Str)) = false := by decide) : PE X (.Name x pos) (tC v) :=
  fun _ _ _ H _ I h => ld_blt I hg hm hv ⟨v, H, I, r, h⟩ hn hd

/-! ### arithmetic -/
/-- two ints -/
def t2I (ta tb : TE) (k : Int → Int → Hp → Prop) : St → Hp → Prop := fun σ H => ta σ H fun x H1 => tb σ H1 fun y H2 => ∃ i j, x = .int i ∧ y = .int j ∧ k i j H2
def tAdd (ta tb : TE) : TE := fun σ H Q => t2I ta tb (fun i j H2 => Q (.int (i + j)) H2) σ H
def tSub (ta tb : TE) : TE := fun σ H Q => t2I ta tb (fun i j H2 => Q (.int (i - j)) H2) σ H
/-- the left factor below 2^64 -/
def tMul (ta tb : TE) : TE := fun σ H Q => t2I ta tb (fun i j H2 => (-(2 ^ 64) < i ∧ i < 2 ^ 64) ∧ Q (.int (i * j)) H2) σ H
variable {a b : Expr} {ta tb : TE} {pos : Pos}
theorem pe_add (ha : PE X a ta) (hb : PE X b tb) : PE X (.BinOp a .Add b pos) (tAdd ta tb) := by
  intro pins s σ H Q I h
  refine wpAny_BinOp (bin ha hb I h fun v u s2 x y H2 I2 rx ry q => ?_)
  obtain ⟨i, j, rfl, rfl, q⟩ := q
  obtain ⟨t, rfl⟩ := rx
  obtain ⟨t', rfl⟩ := ry
  exact add_int ⟨.int _, H2, I2.tok _, ⟨_, rfl⟩, q⟩
theorem pe_sub (ha : PE X a ta) (hb : PE X b tb) : PE X (.BinOp a .Sub b pos) (tSub ta tb) := by
  intro pins s σ H Q I h
  refine wpAny_BinOp (bin ha hb I h fun v u s2 x y H2 I2 rx ry q => ?_)
  obtain ⟨i, j, rfl, rfl, q⟩ := q
  obtain ⟨t, rfl⟩ := rx
  obtain ⟨t', rfl⟩ := ry
  exact sub_int ⟨.int _, H2, I2.tok _, ⟨_, rfl⟩, q⟩
theorem pe_mul (ha : PE X a ta) (hb : PE X b tb) : PE X (.BinOp a .Mult b pos) (tMul ta tb) := by
  intro pins s σ H Q I h
  refine wpAny_BinOp (bin ha hb I h fun v u s2 x y H2 I2 rx ry q => ?_)
  obtain ⟨i, j, rfl, rfl, ⟨q1, q2⟩, q⟩ := q
  obtain ⟨t, rfl⟩ := rx
  obtain ⟨t', rfl⟩ := ry
  exact mul_int ⟨.int _, H2, I2.tok _, ⟨_, rfl⟩, q⟩ (.of_left (intBits_le_64 q1 q2))

/-! ### comparisons -/
def PC (X : Cx) (op : CmpOp) (a b : Expr) (t : TE) : Prop :=
  ∀ (pins : List (Addr × Obj)) (s : Shared) (σ : St) (H : Hp) (Q : VK), Inv X pins σ H s → t σ H Q →
    wpAny (model X.prog X.w) X.A (eval a X.env) (fun v s₁ => wpAny (model X.prog X.w) X.A (eval b X.env) (fun u s₂ => wpAny (model X.prog X.w) X.A (compareOp op v u) (EP X pins σ Q) X.xe s₂) X.xe s₁) X.xe s
theorem nobehind (b : Expr) {op : CmpOp} (h : op ≠ .In) (h2 : op ≠ .NotIn) : behindInMarks op b = false := by
  have e1 : (op == CmpOp.In) = false := by cases op <;> first | rfl | exact absurd rfl h
  have e2 : (op == CmpOp.NotIn) = false := by cases op <;> first | rfl | exact absurd rfl h2
  cases b <;> simp [behindInMarks, e1, e2]
def tCmp (p : Int → Int → Bool) (ta tb : TE) : TE := fun σ H Q => t2I ta tb (fun i j H2 => Q (.bl (p i j)) H2) σ H
abbrev tLt : TE → TE → TE := tCmp fun i j => decide (i < j)
abbrev tLe : TE → TE → TE := tCmp fun i j => decide (i ≤ j)
abbrev tGt : TE → TE → TE := tCmp fun i j => decide (j < i)
abbrev tGe : TE → TE → TE := tCmp fun i j => decide (j ≤ i)
abbrev tEqI : TE → TE → TE := tCmp fun i j => decide (i = j)
abbrev tNeI : TE → TE → TE := tCmp fun i j => !decide (i = j)
/-- a comparison of two ints, by its rule -/
theorem pc_int {op : CmpOp} {p : Int → Int → Bool} (ha : PE X a ta) (hb : PE X b tb)
    (rule : ∀ (i j : Int) (t u : Tok) (Q : Value → Shared → Prop) (s : Shared), Q (.bool (p i j)) s → wpAny (model X.prog X.w) X.A (compareOp op (.int i t) (.int j u)) Q X.xe s) : PC X op a b (tCmp p ta tb) := by
  intro pins s σ H Q I h
  refine bin ha hb I h fun v u s2 x y H2 I2 rx ry q => ?_
  obtain ⟨i, j, rfl, rfl, q⟩ := q
  obtain ⟨t, rfl⟩ := rx
  obtain ⟨t', rfl⟩ := ry
  exact rule i j t t' _ s2 ⟨.bl _, H2, I2, rfl, q⟩
theorem pc_lt (ha : PE X a ta) (hb : PE X b tb) : PC X .Lt a b (tLt ta tb) := pc_int ha hb fun _ _ _ _ _ _ h => lt_int h
theorem pc_le (ha : PE X a ta) (hb : PE X b tb) : PC X .LtE a b (tLe ta tb) := pc_int ha hb fun _ _ _ _ _ _ h => le_int h
theorem pc_gt (ha : PE X a ta) (hb : PE X b tb) : PC X .Gt a b (tGt ta tb) := pc_int ha hb fun _ _ _ _ _ _ h => gt_int h
theorem pc_ge (ha : PE X a ta) (hb : PE X b tb) : PC X .GtE a b (tGe ta tb) := pc_int ha hb fun _ _ _ _ _ _ h => ge_int h
theorem pc_eqI (ha : PE X a ta) (hb : PE X b tb) : PC X .Eq a b (tEqI ta tb) := pc_int ha hb fun _ _ _ _ _ _ h => eq_int (by rw [Bool.beq_eq_decide_eq]; exact h)
theorem pc_neI (ha : PE X a ta) (hb : PE X b tb) : PC X .NotEq a b (tNeI ta tb) := pc_int ha hb fun _ _ _ _ _ _ h => ne_int (by rw [bne, Bool.beq_eq_decide_eq]; exact h)
/-- is None -/
def tIsN (ta : TE) : TE := fun σ H Q => ta σ H fun x H1 => Q (.bl (decide (x = .non))) H1
def tNotN (ta : TE) : TE := fun σ H Q => ta σ H fun x H1 => Q (.bl (!decide (x = .non))) H1
theorem RelV.none_iff {x : V} {v : Value} (r : RelV x v) : (v == Value.none) = decide (x = .non) := by
  cases x with
  | non => cases r; rfl
  | bl _ => cases r; rfl
  | int _ => obtain ⟨t, rfl⟩ := r; rfl
  | str _ => obtain ⟨t, rfl⟩ := r; rfl
  | byt _ => obtain ⟨t, rfl⟩ := r; rfl
  | flt _ => obtain ⟨t, rfl⟩ := r; rfl
  | ref _ => cases r; rfl
  | ty _ => cases r; rfl
theorem pc_isN {j pos'} (ha : PE X a ta) : PC X .Is a (.Constant .none j pos') (tIsN ta) := by
  intro pins s σ H Q I h
  refine thn (ha pins s σ H _ I h) fun v s1 ⟨x, H1, I1, r1, q1⟩ => ?_
  exact Constant_none (is_none_gen ⟨.bl _, H1, I1, by rw [r1.none_iff]; rfl, q1⟩)
theorem pc_notN {j pos'} (ha : PE X a ta) : PC X .IsNot a (.Constant .none j pos') (tNotN ta) := by
  intro pins s σ H Q I h
  refine thn (ha pins s σ H _ I h) fun v s1 ⟨x, H1, I1, r1, q1⟩ => ?_
  exact Constant_none (isnot_none_gen ⟨.bl _, H1, I1, by rw [r1.none_iff]; rfl, q1⟩)
/-- a comparison as a value, as a test -/
def tB (t : TE) : TT := fun σ H Q => t σ H fun x H1 => ∃ c, x = .bl c ∧ Q c H1
theorem pe_cmp {op : CmpOp} {t : TE} (h : PC X op a b t) (h1 : behindInMarks op b = false := by first | exact nobehind _ (by decide) (by decide) | rfl) : PE X (.Compare a [op] [b] pos) t := fun pins s σ H Q I hw => wpAny_Compare1 (h pins s σ H Q I hw) h1
theorem pt_cmp {op : CmpOp} {t : TE} (h : PC X op a b t) (h1 : behindInMarks op b = false := by first | exact nobehind _ (by decide) (by decide) | rfl) : PT X (.Compare a [op] [b] pos) (tB t) := by
  intro pins s σ H Q I hw
  refine wpAny_isTrue_Compare1 (thn (h pins s σ H _ I hw) fun v s1 h1 => thn h1 fun u s2 h2 => thn h2 fun c s3 ⟨x, H1, I1, r1, q1⟩ => ?_) h1
  obtain ⟨d, rfl, q⟩ := q1
  cases r1
  exact wpAny_truthy_bool ⟨H1, I1, q⟩
/-- an expression whose value is a bool, as a test -/
theorem pt_val {e : Expr} {t : TE} (h : PE X e t) (he : ∀ whole, isTrue e X.env whole = (do let v ← whole; standAt e.pos; holding [v] (truthy v)) := by intro _; rfl) : PT X e (tB t) := by
  intro pins s σ H Q I hw
  refine isTrue_plain (thn (h pins s σ H _ I hw) fun v s1 ⟨x, H1, I1, r1, q1⟩ => ?_) (he _)
  obtain ⟨d, rfl, q⟩ := q1
  cases r1
  exact wpAny_truthy_bool ⟨H1, I1, q⟩

/-! ### and, or, not -/
variable {tA tB' : TT} {rest : List Expr}
def tAnd (t u : TT) : TT := fun σ H Q => t σ H fun c H1 => if c = true then u σ H1 Q else Q false H1
def tOr (t u : TT) : TT := fun σ H Q => t σ H fun c H1 => if c = true then Q true H1 else u σ H1 Q
def tNot (t : TT) : TT := fun σ H Q => t σ H fun c H1 => Q (!c) H1
theorem pw_and1 (ha : PT X a tA) : PW X (.BoolOp .And [a] pos) tA := by
  intro wh pins s σ H Q I h
  refine isTrue_and (thn (ha pins s σ H Q I h) fun c s1 e => ?_)
  cases c with
  | true => exact isTrue_and_nil e
  | false => exact e
theorem pw_or1 (ha : PT X a tA) : PW X (.BoolOp .Or [a] pos) tA := by
  intro wh pins s σ H Q I h
  refine isTrue_or (thn (ha pins s σ H Q I h) fun c s1 e => ?_)
  cases c with
  | false => exact isTrue_or_nil e
  | true => exact e
theorem pw_and (ha : PT X a tA) (hb : PW X (.BoolOp .And (b :: rest) pos) tB') : PW X (.BoolOp .And (a :: b :: rest) pos) (tAnd tA tB') := by
  intro wh pins s σ H Q I h
  refine isTrue_and (thn (ha pins s σ H _ I h) fun c s1 ⟨H1, I1, q1⟩ => ?_)
  cases c with
  | true => exact hb wh pins s1 σ H1 Q I1 q1
  | false => exact ⟨H1, I1, q1⟩
theorem pw_or (ha : PT X a tA) (hb : PW X (.BoolOp .Or (b :: rest) pos) tB') : PW X (.BoolOp .Or (a :: b :: rest) pos) (tOr tA tB') := by
  intro wh pins s σ H Q I h
  refine isTrue_or (thn (ha pins s σ H _ I h) fun c s1 ⟨H1, I1, q1⟩ => ?_)
  cases c with
  | true => exact ⟨H1, I1, q1⟩
  | false => exact hb wh pins s1 σ H1 Q I1 q1
theorem pt_not (ha : PT X a tA) : PT X (.UnaryOp .Not a pos) (tNot tA) := by
  intro pins s σ H Q I h
  exact isTrue_not (ha pins s σ H (fun c H1 => Q (!c) H1) I h)
/-- .. as values (bools) -/
def tAndV (ta tb : TE) : TE := fun σ H Q => ta σ H fun x H1 => ∃ c, x = .bl c ∧ if c = true then tb σ H1 Q else Q (.bl false) H1
def tOrV (ta tb : TE) : TE := fun σ H Q => ta σ H fun x H1 => ∃ c, x = .bl c ∧ if c = true then Q (.bl true) H1 else tb σ H1 Q
def tNotV (ta : TE) : TE := fun σ H Q => ta σ H fun x H1 => ∃ c, x = .bl c ∧ Q (.bl (!c)) H1
theorem pe_one {op} {t : TE} (h : PE X a t) : PE X (.BoolOp op [a] pos) t := fun pins s σ H Q I hw => BoolOp_one (h pins s σ H Q I hw)
theorem pe_and (ha : PE X a ta) (hb : PE X (.BoolOp .And (b :: rest) pos) tb) : PE X (.BoolOp .And (a :: b :: rest) pos) (tAndV ta tb) := by
  intro pins s σ H Q I h
  refine BoolOp_and (thn (ha pins s σ H _ I h) fun v s1 ⟨x, H1, I1, r1, q1⟩ => ?_)
  obtain ⟨c, rfl, q1⟩ := q1
  cases r1
  refine wpAny_truthy_bool ?_
  cases c with
  | true => exact hb pins s1 σ H1 Q I1 q1
  | false => exact ⟨.bl false, H1, I1, rfl, q1⟩
theorem pe_or (ha : PE X a ta) (hb : PE X (.BoolOp .Or (b :: rest) pos) tb) : PE X (.BoolOp .Or (a :: b :: rest) pos) (tOrV ta tb) := by
  intro pins s σ H Q I h
  refine BoolOp_or (thn (ha pins s σ H _ I h) fun v s1 ⟨x, H1, I1, r1, q1⟩ => ?_)
  obtain ⟨c, rfl, q1⟩ := q1
  cases r1
  refine wpAny_truthy_bool ?_
  cases c with
  | false => exact hb pins s1 σ H1 Q I1 q1
  | true => exact ⟨.bl true, H1, I1, rfl, q1⟩
theorem pe_not (ha : PE X a ta) : PE X (.UnaryOp .Not a pos) (tNotV ta) := by
  intro pins s σ H Q I h
  refine UnaryOp_ (thn (ha pins s σ H _ I h) fun v s1 ⟨x, H1, I1, r1, q1⟩ => ?_)
  obtain ⟨c, rfl, q1⟩ := q1
  cases r1
  exact not_of (wpAny_truthy_bool ⟨.bl (!c), H1, I1, rfl, q1⟩)
/-- a if t else b -/
def tIf (t : TT) (ta tb : TE) : TE := fun σ H Q => t σ H fun c H1 => if c = true then ta σ H1 Q else tb σ H1 Q
theorem pe_ifExp {c : Expr} (hc : PT X c tA) (ha : PE X a ta) (hb : PE X b tb) : PE X (.IfExp c a b pos) (tIf tA ta tb) := by
  intro pins s σ H Q I h
  refine wpAny_IfExp (thn (hc pins s σ H _ I h) fun d s1 ⟨H1, I1, q1⟩ => ?_)
  cases d with
  | true => exact ha pins s1 σ H1 Q I1 q1
  | false => exact hb pins s1 σ H1 Q I1 q1
end
end L2

namespace L2
open PySem PySem.Spec PyProof.Rows

/-! ### a list, a tuple that is read: tracked, frozen, or an object of the module -/
def SqL (K : PySem.W.Frag) (H : Hp) (a : Addr) (xs : List V) : Prop :=
  Rd H a (.lst xs) ∨
    ∃ (o : Obj) (its : Array Value) (n : Nat), K.lookup a = some o ∧ o.cls = .type "list" ∧ o.dict = none ∧ o.data = .seq its n ∧ its.size ≤ sizeLine ∧ Vals xs its.toList
def SqT (K : PySem.W.Frag) (H : Hp) (a : Addr) (xs : List V) : Prop :=
  Rd H a (.tup xs) ∨
    ∃ (o : Obj) (its : Array Value) (n : Nat), K.lookup a = some o ∧ o.cls = .type "tuple" ∧ o.data = .seq its n ∧ its.size ≤ sizeLine ∧ Vals xs its.toList
def absV : Value → Option V
  | .none => some .non
  | .bool b => some (.bl b)
  | .int i _ => some (.int i)
  | .str x _ => some (.str x)
  | .bytes b _ => some (.byt b)
  | .float b _ => some (.flt b)
  | .ref a => some (.ref a)
  | .type n => some (.ty n)
  | _ => none
theorem RelV.abs {x : V} {u : Value} (r : RelV x u) : absV u = some x := by
  cases x with
  | non => cases r; rfl
  | bl _ => cases r; rfl
  | int _ => obtain ⟨t, rfl⟩ := r; rfl
  | str _ => obtain ⟨t, rfl⟩ := r; rfl
  | byt _ => obtain ⟨t, rfl⟩ := r; rfl
  | flt _ => obtain ⟨t, rfl⟩ := r; rfl
  | ref _ => cases r; rfl
  | ty _ => cases r; rfl
theorem RelV.inj {x y : V} {u : Value} (r : RelV x u) (q : RelV y u) : x = y := Option.some.inj (r.abs.symm.trans q.abs)
theorem Vals.inj : ∀ {xs ys : List V} {us : List Value}, Vals xs us → Vals ys us → xs = ys
  | _, _, _, .nil, .nil => rfl
  | _, _, _, .cons r t, .cons r' t' => by rw [r.inj r', Vals.inj t t']
section
variable {X : Cx} {pins : List (Addr × Obj)} {σ : St} {H : Hp} {s : Shared} {a : Addr} {xs ys : List V}
theorem SqL.of {K : PySem.W.Frag} (h : H a = some (.lst xs)) : SqL K H a xs := .inl (.inl h)
theorem SqT.of {K : PySem.W.Frag} (h : H a = some (.tup xs)) : SqT K H a xs := .inl (.inl h)
theorem Inv.list (I : Inv X pins σ H s) (h : SqL X.K H a xs) : ∃ its : List Value, Vals xs its ∧ PlainL s.heap a its.toArray ∧ xs.length ≤ sizeLine := by
  rcases h with h | ⟨o, its, n, hk, hc, hd, hs, hz, r⟩
  · obtain ⟨z, its, n, r, e⟩ := h.ok I.hok
    exact ⟨its, r, ⟨_, n, e, rfl, rfl, rfl⟩, z⟩
  · refine ⟨its.toList, r, ⟨o, n, I.kIn a o hk, hc, hd, by simpa using hs⟩, ?_⟩
    have e := r.length
    simp only [Array.length_toList] at e
    omega
theorem Inv.tuple (I : Inv X pins σ H s) (h : SqT X.K H a xs) : ∃ its : List Value, Vals xs its ∧ IsTup s.heap a its.toArray ∧ xs.length ≤ sizeLine := by
  rcases h with h | ⟨o, its, n, hk, hc, hs, hz, r⟩
  · obtain ⟨z, its, r, p⟩ := h.ok I.hok
    exact ⟨its, r, p, z⟩
  · refine ⟨its.toList, r, ⟨o, I.kIn a o hk, hc, n, by simpa using hs⟩, ?_⟩
    have e := r.length
    simp only [Array.length_toList] at e
    omega
theorem Inv.list_inj (I : Inv X pins σ H s) (h : SqL X.K H a xs) (h' : SqL X.K H a ys) : xs = ys := by
  obtain ⟨its, r, ⟨o, n, e, _, _, d⟩, _⟩ := I.list h
  obtain ⟨its', r', ⟨o', n', e', _, _, d'⟩, _⟩ := I.list h'
  rw [e] at e'; cases e'
  rw [d] at d'
  injection d' with d1 _
  have : its = its' := by simpa using congrArg Array.toList d1
  subst this
  exact r.inj r'
theorem Inv.tuple_inj (I : Inv X pins σ H s) (h : SqT X.K H a xs) (h' : SqT X.K H a ys) : xs = ys := by
  obtain ⟨its, r, ⟨o, e, _, n, d⟩, _⟩ := I.tuple h
  obtain ⟨its', r', ⟨o', e', _, n', d'⟩, _⟩ := I.tuple h'
  rw [e] at e'; cases e'
  rw [d] at d'
  injection d' with d1 _
  have : its = its' := by simpa using congrArg Array.toList d1
  subst this
  exact r.inj r'
end

/-! ### another wish about exceptions -/
abbrev Cx.wish (X : Cx) (E : Value → Shared → Prop) : Cx := { X with xe := E }
/-- no exception leaves -/
abbrev Cx.nox (X : Cx) : Cx := X.wish fun _ _ => False
theorem Cx.Ok.wish {X : Cx} (ok : X.Ok) (E : Value → Shared → Prop) : (X.wish E).Ok :=
  ⟨ok.mod, ok.kind, ok.glob, ok.blt, ok.above, ok.inj, ok.has, ok.cab, ok.hd, ok.frames, ok.stk, ok.exf, ok.bs, ok.bsz, ok.noex, ok.exfs, ok.funs, ok.frf⟩
theorem Cx.Ok.unwish {X : Cx} {E : Value → Shared → Prop} (ok : (X.wish E).Ok) : X.Ok :=
  ⟨ok.mod, ok.kind, ok.glob, ok.blt, ok.above, ok.inj, ok.has, ok.cab, ok.hd, ok.frames, ok.stk, ok.exf, ok.bs, ok.bsz, ok.noex, ok.exfs, ok.funs, ok.frf⟩
section
variable {X : Cx} {pins : List (Addr × Obj)} {σ : St} {H : Hp} {s : Shared} {E : Value → Shared → Prop}
theorem Inv.wish (I : Inv X pins σ H s) (E : Value → Shared → Prop) : Inv (X.wish E) pins σ H s := ⟨I.ok.wish E, I.os, I.bare, I.base, I.loc, I.cell, I.free, I.freeC, I.pin, I.hok, I.len⟩
theorem Inv.unwish (I : Inv (X.wish E) pins σ H s) : Inv X pins σ H s := ⟨I.ok.unwish, I.os, I.bare, I.base, I.loc, I.cell, I.free, I.freeC, I.pin, I.hok, I.len⟩
theorem SP.unwish {D : Ends} {f : Flow} {s' : Shared} (h : SP (X.wish E) pins D f s') : SP X pins D f s' := by
  cases f with
  | next => obtain ⟨σ', H', I, q⟩ := h; exact ⟨σ', H', I.unwish, q⟩
  | brk => obtain ⟨σ', H', I, q⟩ := h; exact ⟨σ', H', I.unwish, q⟩
  | cont => obtain ⟨σ', H', I, q⟩ := h; exact ⟨σ', H', I.unwish, q⟩
  | ret u => obtain ⟨v, σ', H', I, r, q⟩ := h; exact ⟨v, σ', H', I.unwish, r, q⟩
theorem PE.nox {e : Expr} {t : TE} (h : PE X.nox e t) : PE X e t := fun pins s σ H Q I hw =>
  wpAny_mono (h pins s σ H Q (I.wish _) hw) (fun _ _ ⟨v, H', I', r, q⟩ => ⟨v, H', I'.unwish, r, q⟩) fun _ _ z => False.elim z
theorem PT.nox {e : Expr} {t : TT} (h : PT X.nox e t) : PT X e t := fun pins s σ H Q I hw =>
  wpAny_mono (h pins s σ H Q (I.wish _) hw) (fun _ _ ⟨H', I', q⟩ => ⟨H', I'.unwish, q⟩) fun _ _ z => False.elim z
theorem PSs.nox {st : List Stmt} {t : TS} (h : PSs X.nox st t) : PSs X st t := fun pins s σ H D I hw =>
  wpAny_mono (h pins s σ H D (I.wish _) hw) (fun _ _ q => q.unwish) fun _ _ z => False.elim z
end

/-! ### blocks and small statements -/
section
variable {X : Cx} {st : Stmt} {rest : List Stmt} {t u : TS} {e : Expr} {te : TE} {pos : Pos}
def tNext : TS := fun D σ H => D.nx σ H
def tSeq (t u : TS) : TS := fun D σ H => t { D with nx := u D } σ H
theorem pss_nil : PSs X [] tNext := fun _ _ σ H _ I h => wpAny_execs_nil ⟨σ, H, I, h⟩
theorem pss_cons (h1 : PS X st t) (h2 : PSs X rest u) : PSs X (st :: rest) (tSeq t u) := by
  intro pins s σ H D I h
  refine wpAny_execs_cons (thn (h1 pins s σ H { D with nx := u D } I h) fun f s1 q => ?_)
  cases f with
  | next =>
    obtain ⟨σ', H', I', q⟩ := q
    exact h2 pins s1 σ' H' D I' q
  | ret v => exact q
  | brk => exact q
  | cont => exact q
theorem pss_one (h1 : PS X st t) : PSs X [st] t := by
  intro pins s σ H D I h
  refine wpAny_execs_cons (thn (h1 pins s σ H D I h) fun f s1 q => ?_)
  cases f with
  | next => exact wpAny_execs_nil q
  | ret v => exact q
  | brk => exact q
  | cont => exact q
def tBreak : TS := fun D σ H => D.bk σ H
def tCont : TS := fun D σ H => D.ct σ H
theorem ps_pass : PS X (.Pass pos) tNext := fun _ _ σ H _ I h => wpAny_Pass ⟨σ, H, I, h⟩
theorem ps_break : PS X (.Break pos) tBreak := fun _ _ σ H _ I h => wpAny_Break ⟨σ, H, I, h⟩
theorem ps_continue : PS X (.Continue pos) tCont := fun _ _ σ H _ I h => wpAny_Continue ⟨σ, H, I, h⟩
/-- in a def's body nothing is shown -/
theorem Inv.quiet {pins : List (Addr × Obj)} {σ : St} {H : Hp} {s : Shared} (I : Inv X pins σ H s) : interactive X.env = false := by simp [interactive, I.ok.kind]
/-- a docstring -/
theorem ps_doc {x j pos pos'} : PS X (.Expr (.Constant (.str x) j pos) pos') tNext := fun _ s σ H _ I h => wpAny_Expr (Calls.Constant_str (show SP X _ _ .next { s with toks := s.toks + 1 } from ⟨σ, H, I.tok _, h⟩)) I.quiet
/-- an expression whose value is dropped -/
def tDrop (te : TE) : TS := fun D σ H => te σ H fun _ H1 => D.nx σ H1
theorem ps_expr (he : PE X e te) (hs : swapsWith e none pos.line X.env = pure false := by rfl) : PS X (.Expr e pos) (tDrop te) := by
  intro pins s σ H D I h
  exact wpAny_Expr_any (thn (he pins s σ H _ I h) fun v s1 ⟨x, H1, I1, r1, q1⟩ => ⟨σ, H1, I1, q1⟩) I.quiet hs
def tRet (te : TE) : TS := fun D σ H => te σ H D.rt
theorem ps_ret (he : PE X e te) : PS X (.Return (some e) pos) (tRet te) := by
  intro pins s σ H D I h
  exact wpAny_Return_some (thn (he pins s σ H _ I h) fun v s1 ⟨x, H1, I1, r1, q1⟩ => ⟨x, σ, H1, I1, r1, q1⟩)
def tRetN : TS := fun D _ H => D.rt .non H
theorem ps_retN : PS X (.Return none pos) tRetN := fun _ _ σ H _ I h => wpAny_Return_none ⟨.non, σ, H, I, rfl, h⟩
def tIfS (c : TT) (t u : TS) : TS := fun D σ H => c σ H fun b H1 => if b = true then t D σ H1 else u D σ H1
theorem ps_if {c : Expr} {a b : List Stmt} {tc : TT} (hc : PT X c tc) (ha : PSs X a t) (hb : PSs X b u) : PS X (.If c a b pos) (tIfS tc t u) := by
  intro pins s σ H D I h
  refine wpAny_If (thn (hc pins s σ H _ I h) fun d s1 ⟨H1, I1, q1⟩ => ?_)
  cases d with
  | true => exact ha pins s1 σ H1 D I1 q1
  | false => exact hb pins s1 σ H1 D I1 q1
/-- code that the proof never comes to -/
def tNever : TS := fun _ _ _ => False
theorem ps_never : PS X st tNever := fun _ _ _ _ _ _ h => h.elim
theorem pss_never {sts : List Stmt} : PSs X sts tNever := fun _ _ _ _ _ _ h => h.elim
end

/-! ### targets -/
abbrev TG := V → St → Hp → (St → Hp → Prop) → Prop
abbrev TGs := List V → St → Hp → (St → Hp → Prop) → Prop
def PG (X : Cx) (target : Expr) (t : TG) : Prop :=
  ∀ (pins : List (Addr × Obj)) (s : Shared) (σ : St) (H : Hp) (v : V) (u : Value) (Q : St → Hp → Prop), Inv X pins σ H s → RelV v u → t v σ H Q →
    wpAny (model X.prog X.w) X.A (assign target X.env u) (fun _ s' => ∃ σ' H', Inv X pins σ' H' s' ∧ Q σ' H') X.xe s
/-- several targets, one after another -/
def PGs (X : Cx) (ts : List Expr) (t : TGs) : Prop :=
  ∀ (pins : List (Addr × Obj)) (s : Shared) (σ : St) (H : Hp) (vs : List V) (us : List Value) (Q : St → Hp → Prop), Inv X pins σ H s → Vals vs us → t vs σ H Q →
    wpAny (model X.prog X.w) X.A (assignInOrder ((assignEach ts X.env).map (·.2)) us) (fun _ s' => ∃ σ' H', Inv X pins σ' H' s' ∧ Q σ' H') X.xe s
/-- o[i] = v, by values -/
abbrev TSet := V → V → V → Hp → (Hp → Prop) → Prop
def PSet (X : Cx) (t : TSet) : Prop :=
  ∀ (pins : List (Addr × Obj)) (s : Shared) (σ : St) (H : Hp) (o i v : V) (ov iv u : Value) (Q : Hp → Prop), Inv X pins σ H s → RelV o ov → RelV i iv → RelV v u → t o i v H Q →
    wpAny (model X.prog X.w) X.A (setItem ov iv u) (fun _ s' => ∃ H', Inv X pins σ H' s' ∧ Q H') X.xe s
/-- a op= b, by values -/
abbrev TIp := V → V → Hp → VK → Prop
def PIp (X : Cx) (op : Operator) (t : TIp) : Prop :=
  ∀ (pins : List (Addr × Obj)) (s : Shared) (σ : St) (H : Hp) (x y : V) (v u : Value) (Q : VK), Inv X pins σ H s → RelV x v → RelV y u → t x y H Q →
    wpAny (model X.prog X.w) X.A (inplaceOp op v u) (EP X pins σ Q) X.xe s
section
variable {X : Cx} {pos : Pos}
def gName (i : Nat) : TG := fun v σ H Q => Q (σ.set i (some v)) H
theorem pg_name {i : Nat} {x : Str} (hN : X.N.Nodup) (hi : X.N[i]? = some x) (hx : Loc X.env.scope x) (hf : X.fn x = true ∨ X.env.scope.names.lookup x = some .local := by first | exact .inl rfl | exact .inr rfl | assumption) : PG X (.Name x pos) (gName i) := by
  intro pins s σ H v u Q I r h
  exact wpAny_assign_Name (store_ok I hN hi hx r (fun s' I' => ⟨_, H, I', h⟩) hf)
def gNil : TGs := fun vs σ H Q => vs = [] ∧ Q σ H
def gCons (t : TG) (u : TGs) : TGs := fun vs σ H Q => ∃ v r, vs = v :: r ∧ t v σ H fun σ' H' => u r σ' H' Q
theorem pgs_nil : PGs X [] gNil := by
  intro pins s σ H vs us Q I r h
  obtain ⟨e, h⟩ := h
  subst e
  cases r
  exact assignInOrder_nil ⟨σ, H, I, h⟩
theorem pgs_cons {e : Expr} {es : List Expr} {t : TG} {u : TGs} (h1 : PG X e t) (h2 : PGs X es u)
    (hs : (assignEach (e :: es) X.env).map (·.2) = assign e X.env :: (assignEach es X.env).map (·.2) := by rfl) : PGs X (e :: es) (gCons t u) := by
  intro pins s σ H vs us Q I r h
  obtain ⟨v, vr, e1, h⟩ := h
  subst e1
  cases r with
  | cons r rr =>
    rw [hs]
    refine assignInOrder_cons (thn (h1 pins s σ H _ _ _ I r h) fun _ s1 ⟨σ1, H1, I1, q1⟩ => ?_)
    exact h2 pins s1 σ1 H1 _ _ Q I1 rr q1
/-- (a, b, ..) = a tuple of that length -/
def gTup (K : PySem.W.Frag) (n : Nat) (t : TGs) : TG := fun v σ H Q => ∃ a xs, v = .ref a ∧ SqT K H a xs ∧ xs.length = n ∧ t xs σ H Q
theorem pg_tup {es : List Expr} {k : Nat} {t : TGs} {n : Nat} (hc : X.calm = true) (h : PGs X es t)
    (hn : (assignEach es X.env).length = n := by rfl) (hst : (assignEach es X.env).findIdx? (·.1) = none := by rfl) : PG X (.Tuple es k pos) (gTup X.K n t) := by
  intro pins s σ H v u Q I r hw
  obtain ⟨a, xs, e1, hq, hl, hw⟩ := hw
  subst e1
  cases r
  obtain ⟨its, rv, ht, hz⟩ := I.tuple hq
  refine assign_Tuple_tuple (I.ok.hd hc) ht (by simp [hn, ← hl, rv.length]) hst fun h' hx => ?_
  have I1 : Inv X pins σ H { s with heap := h' } := I.kept (t' := s.toks) fun b o e => hx b o (Nat.ne_of_lt (Heap.lt_size e)) e
  exact h pins _ σ H xs _ Q I1 (by simpa using rv) hw
/-- o[i] = .. -/
def gSub (to ti : TE) (t : TSet) : TG := fun v σ H Q => to σ H fun o H1 => ti σ H1 fun i H2 => t o i v H2 fun H3 => Q σ H3
theorem pg_sub {o i : Expr} {to ti : TE} {t : TSet} (ho : PE X o to) (hi : PE X i ti) (hs : PSet X t)
    (ha : ∀ v, assign (.Subscript o i pos) X.env v = (do
      let ov ← holding [v] (eval o X.env)
      let iv ← holding [v, ov] (eval i X.env)
      standAt pos
      holding [v, ov, iv] (setItem ov iv v)
      release [v, ov, iv] []) := by intro _; rfl) : PG X (.Subscript o i pos) (gSub to ti t) := by
  intro pins s σ H v u Q I r h
  rw [ha]
  refine wpAny_bind (wpAny_holding (thn (ho pins s σ H _ I h) fun ov s1 ⟨x, H1, I1, r1, q1⟩ => ?_))
  refine wpAny_bind (wpAny_holding (thn (hi pins s1 σ H1 _ I1 q1) fun iv s2 ⟨y, H2, I2, r2, q2⟩ => ?_))
  refine wpAny_bind (wpAny_standAt (wpAny_bind (wpAny_holding (thn (hs pins s2 σ H2 x y v ov iv u _ I2 r1 r2 r q2) fun _ s3 ⟨H3, I3, q3⟩ => ?_))))
  exact wpAny_release ⟨σ, H3, I3, q3⟩
/-- target = value -/
def tAsg (te : TE) (g : TG) : TS := fun D σ H => te σ H fun x H1 => g x σ H1 D.nx
theorem ps_asg {tg e : Expr} {te : TE} {g : TG} (he : PE X e te) (hg : PG X tg g) (hs : swapsWithSole [tg] e pos.line X.env = pure false := by rfl) (hw : swappedStores [tg] e X.env = pure none := by rfl)
    (h1 : (assignEach [tg] X.env).map (·.2) = [assign tg X.env] := by rfl) : PS X (.Assign [tg] e pos) (tAsg te g) := by
  intro pins s σ H D I h
  refine wpAny_Assign_stores (thn (he pins s σ H _ I h) fun v s1 ⟨x, H1, I1, r1, q1⟩ => ?_) hs hw
  rw [h1]
  exact thn (hg pins s1 σ H1 x v _ I1 r1 q1) fun _ s2 q => q
/-- name = value -/
theorem ps_set {i : Nat} {x : Str} {e : Expr} {te : TE} {pos' : Pos} (hN : X.N.Nodup) (hi : X.N[i]? = some x) (hx : Loc X.env.scope x) (he : PE X e te) (hs : swapsWith e (some (.Name x pos')) pos.line X.env = pure false := by rfl) (hf : X.fn x = true ∨ X.env.scope.names.lookup x = some .local := by first | exact .inl rfl | exact .inr rfl | assumption) :
    PS X (.Assign [.Name x pos'] e pos) (tAsg te (gName i)) := by
  intro pins s σ H D I h
  refine wpAny_Assign_Name (thn (he pins s σ H _ I h) fun v s1 ⟨y, H1, I1, r1, q1⟩ => ?_) hs
  exact store_ok I1 hN hi hx r1 (fun s2 I2 => ⟨_, H1, I2, q1⟩) hf
/-- a, b = x, y with plain local names: stored from the right; the pair itself is not tracked (the opening rows as in PyProof/Rows/TupAssign.lean:23) -/
def tPar (i j : Nat) (ta : TA) : TS := fun D σ H => ta σ H fun vs H1 => ∃ v w, vs = [v, w] ∧ D.nx ((σ.set i (some v)).set j (some w)) H1
theorem ps_par {i j : Nat} {x y : Str} {a b : Expr} {ta : TA} {px py pt : Pos} {kt k2 pt2} (hc : X.calm = true) (hN : X.N.Nodup) (hi : X.N[i]? = some x) (hj : X.N[j]? = some y) (hij : i ≠ j)
    (hx : X.env.scope.names.lookup x = some .local) (hy : X.env.scope.names.lookup y = some .local) (ha : PA X [a, b] ta)
    (hw : swappedStores [.Tuple [.Name x px, .Name y py] kt pt] (.Tuple [a, b] k2 pt2) X.env = pure (some [x, y]))
    (hs : swapsWithSole [.Tuple [.Name x px, .Name y py] kt pt] (.Tuple [a, b] k2 pt2) pos.line X.env = pure false := by rfl) :
    PS X (.Assign [.Tuple [.Name x px, .Name y py] kt pt] (.Tuple [a, b] k2 pt2) pos) (tPar i j ta) := by
  intro pins s σ H D I h
  rw [exec_Assign_arm]
  refine wpAny_bind (wpAny_standAt ?_)
  rw [hs]
  refine wpAny_bind (wpAny_pure ?_)
  rw [if_neg (by decide)]
  refine wpAny_bind (Tuple_ (thn (ha _ pins s σ H _ I h) fun us s1 ⟨vs, H1, I1, r1, q1⟩ => ?_))
  obtain ⟨v, w, e1, q1⟩ := q1
  subst e1
  obtain ⟨u1, u2, rfl, rv, rw'⟩ : ∃ u1 u2, us = [u1, u2] ∧ RelV v u1 ∧ RelV w u2 := by
    cases r1 with
    | cons p q =>
      cases q with
      | cons p' q' =>
        cases q'
        exact ⟨_, _, rfl, p, p'⟩
  refine wpAny_newObj_type ?_ (by show 2 ≤ sizeLine; decide)
  have I2 : Inv X pins σ H1 { s1 with heap := s1.heap.push { cls := .type "tuple", data := .seq [u1, u2].toArray } } := I1.kept (t' := s1.toks) fun b o e => Heap.get?_push_of_some _ e
  rw [hw]
  refine wpAny_bind (wpAny_pure ?_)
  show wpAny (model X.prog X.w) X.A (do rule "assign.swapped-stores"; let items ← unpackItems (.ref s1.heap.objs.size) 2 none; assignInOrder [fun v => bindName X.env y v, fun v => bindName X.env x v] items.reverse; pure Flow.next) _ _ _
  refine wpAny_bind (wpAny_rule (wpAny_bind (unpackItems_tuple (items := #[u1, u2]) (I.ok.hd hc) (IsTup.new s1.heap _) fun h' hx' => ?_)))
  have I3 := I2.kept (h' := h') (t' := s1.toks) fun b o e => hx' b o (Nat.ne_of_lt (Heap.lt_size e)) e
  show wpAny _ _ (assignInOrder [fun v => bindName X.env y v, fun v => bindName X.env x v] [u2, u1] >>= fun _ => pure Flow.next) _ _ _
  refine wpAny_bind (assignInOrder_cons (wpAny_bindName (store_ok I3 hN hj (.inl hy) rw' (fun s2 I4 => ?_) (.inr hy))))
  refine assignInOrder_cons (wpAny_bindName (store_ok I4 hN hi (.inl hx) rv (fun s3 I5 => assignInOrder_nil (wpAny_pure ?_)) (.inr hx)))
  rw [List.set_comm _ _ (Ne.symm hij)] at I5
  exact ⟨_, H1, I5, q1⟩
/-- name op= e -/
def tAug (i : Nat) (te : TE) (ti : TIp) : TS := fun D σ H => ∃ x, σ[i]? = some (some x) ∧ te σ H fun y H1 => ti x y H1 fun z H2 => D.nx (σ.set i (some z)) H2
theorem ps_aug {i : Nat} {x : Str} {e : Expr} {te : TE} {op : Operator} {ti : TIp} {pos' : Pos} (hN : X.N.Nodup) (hi : X.N[i]? = some x) (hx : Loc X.env.scope x) (he : PE X e te) (ho : PIp X op ti) (hf : X.fn x = true ∨ X.env.scope.names.lookup x = some .local := by first | exact .inl rfl | exact .inr rfl | assumption) :
    PS X (.AugAssign (.Name x pos') op e pos) (tAug i te ti) := by
  intro pins s σ H D I h
  obtain ⟨v, e1, h⟩ := h
  obtain ⟨m, hn, hl⟩ := I.loc
  have vis : Vis X.env.scope x := by rcases hx with k | k; exact .inl k; exact .inr (.inl k)
  obtain ⟨u, r, l⟩ := hl i x v hi e1 vis
  refine wpAny_AugAssign_Name ?_
  have go : wpAny (model X.prog X.w) X.A (eval e X.env) (fun w s₂ => wpAny (model X.prog X.w) X.A (inplaceOp op u w) (fun r s₃ => wpAny (model X.prog X.w) X.A (storeName X.env x r) (fun _ => SP X pins D .next) X.xe s₃) X.xe s₂) X.xe s := by
    refine thn (he pins s σ H _ I h) fun w s1 ⟨y, H1, I1, r1, q1⟩ => ?_
    refine thn (ho pins s1 σ H1 v y u w _ I1 r r1 q1) fun z s2 ⟨zv, H2, I2, r2, q2⟩ => ?_
    exact store_ok I2 hN hi hx r2 (fun s3 I3 => ⟨_, H2, I3, q2⟩) hf
  rcases l with ⟨hk, hm⟩ | ⟨hk, c, hc, hcell⟩
  · exact wpAny_loadName_local I.ok.kind hk hn hm go
  · rcases hk with hk | hk
    · exact wpAny_loadName_cell I.ok.kind hk hc hcell go
    · rcases hx with k | k
      · have : X.env.scope.names.lookup x = some .free := hk
        rw [k] at this; cases this
      · have : X.env.scope.names.lookup x = some .free := hk
        rw [k] at this; cases this
/-- o[i] op= e -/
def tAugS (to ti te : TE) (tget : V → V → Hp → VK → Prop) (tip : TIp) (tset : TSet) : TS := fun D σ H => to σ H fun o H1 => ti σ H1 fun i H2 => tget o i H2 fun x H3 => te σ H3 fun y H4 => tip x y H4 fun z H5 => tset o i z H5 fun H6 => D.nx σ H6
/-- o[i], by values -/
def PGet (X : Cx) (t : V → V → Hp → VK → Prop) : Prop :=
  ∀ (pins : List (Addr × Obj)) (s : Shared) (σ : St) (H : Hp) (o i : V) (ov iv : Value) (Q : VK), Inv X pins σ H s → RelV o ov → RelV i iv → t o i H Q →
    wpAny (model X.prog X.w) X.A (getItem ov iv) (EP X pins σ Q) X.xe s
theorem ps_augS {o i e : Expr} {to ti te : TE} {tget : V → V → Hp → VK → Prop} {tip : TIp} {tset : TSet} {op : Operator} {tpos : Pos} (ho : PE X o to) (hi : PE X i ti) (hg : PGet X tget) (he : PE X e te) (hp : PIp X op tip) (hs : PSet X tset)
    (ha : ∀ ov iv new, augStore i ov iv new = (do holding [new, ov, iv] (setItem ov iv new); release [new, ov, iv] []; pure .next) := by intros; rfl) : PS X (.AugAssign (.Subscript o i tpos) op e pos) (tAugS to ti te tget tip tset) := by
  intro pins s σ H D I h
  refine wpAny_AugAssign_SubscriptAny (thn (ho pins s σ H _ I h) fun ov s1 ⟨x1, H1, I1, r1, q1⟩ => ?_) ha
  refine thn (hi pins s1 σ H1 _ I1 q1) fun iv s2 ⟨x2, H2, I2, r2, q2⟩ => ?_
  refine thn (hg pins s2 σ H2 x1 x2 ov iv _ I2 r1 r2 q2) fun old s3 ⟨x3, H3, I3, r3, q3⟩ => ?_
  refine thn (he pins s3 σ H3 _ I3 q3) fun v s4 ⟨x4, H4, I4, r4, q4⟩ => ?_
  refine thn (hp pins s4 σ H4 x3 x4 old v _ I4 r3 r4 q4) fun new s5 ⟨x5, H5, I5, r5, q5⟩ => ?_
  exact thn (hs pins s5 σ H5 x1 x2 x5 ov iv new _ I5 r1 r2 r5 q5) fun _ s6 ⟨H6, I6, q6⟩ => ⟨σ, H6, I6, q6⟩
/-- ints -/
def ipI (f : Int → Int → Int) : TIp := fun x y H Q => ∃ i j, x = .int i ∧ y = .int j ∧ Q (.int (f i j)) H
theorem ip_add : PIp X .Add (ipI fun i j => i + j) := by
  intro pins s σ H x y v u Q I r1 r2 h
  obtain ⟨i, j, e1, e2, q⟩ := h
  subst e1; subst e2
  obtain ⟨t, rfl⟩ := r1
  obtain ⟨t', rfl⟩ := r2
  exact iadd_int ⟨.int _, H, I.tok _, ⟨_, rfl⟩, q⟩
theorem ip_sub : PIp X .Sub (ipI fun i j => i - j) := by
  intro pins s σ H x y v u Q I r1 r2 h
  obtain ⟨i, j, e1, e2, q⟩ := h
  subst e1; subst e2
  obtain ⟨t, rfl⟩ := r1
  obtain ⟨t', rfl⟩ := r2
  exact isub_int ⟨.int _, H, I.tok _, ⟨_, rfl⟩, q⟩
end

/-! ### while -/
section
variable {X : Cx} {pos : Pos}
/-- the invariant W with its measure -/
def tWhile (c : TT) (tb : TS) : TS := fun D σ H => ∃ W : Nat → St → Hp → Prop, (∃ m, W m σ H) ∧ ∀ m σ H, W m σ H →
  c σ H fun b H1 => if b = true then ∃ N : St → Hp → Prop, (∀ σ' H', N σ' H' → ∃ m', m' < m ∧ W m' σ' H') ∧ tb { D with nx := N, ct := N, bk := D.nx } σ H1 else D.nx σ H1
theorem ps_while {c : Expr} {body : List Stmt} {tc : TT} {tb : TS} (hp : PassesOwn (model X.prog X.w) X.A X.env X.xe) (hc : PT X c tc) (hb : PSs X body tb) : PS X (.While c body [] pos) (tWhile tc tb) := by
  intro pins s σ H D I h
  obtain ⟨W, ⟨m0, w0⟩, turn⟩ := h
  refine wpAny_While (codeAny_whileLoop (fun n s' => ∃ σ' H', Inv X pins σ' H' s' ∧ W n σ' H') ?_ m0 ⟨σ, H, I, w0⟩)
  rintro n s1 ⟨σ1, H1, I1, w1⟩
  refine wpAny_passesOwn hp (thn (hc pins s1 σ1 H1 _ I1 (turn n σ1 H1 w1)) fun b s2 ⟨H2, I2, q2⟩ => ?_)
  cases b with
  | true =>
    obtain ⟨N, hN, q2⟩ := q2
    rw [if_pos rfl]
    refine wpAny_passesOwn hp (thn (hb pins s2 σ1 H2 _ I2 q2) fun f s3 q3 => ?_)
    cases f with
    | next =>
      obtain ⟨σ3, H3, I3, n3⟩ := q3
      obtain ⟨m', hm, w3⟩ := hN σ3 H3 n3
      exact ⟨m', hm, σ3, H3, I3, w3⟩
    | cont =>
      obtain ⟨σ3, H3, I3, n3⟩ := q3
      obtain ⟨m', hm, w3⟩ := hN σ3 H3 n3
      exact ⟨m', hm, σ3, H3, I3, w3⟩
    | brk => exact q3
    | ret v => exact q3
  | false =>
    rw [if_neg Bool.false_ne_true]
    exact wpAny_execs_nil ⟨σ1, H2, I2, q2⟩
end

/-! ### what a loop or a comprehension walks -/
/-- at turn i: it yields x (the heap may grow), or it stops -/
structure It where
  go : Nat → Hp → Prop
  yld : Nat → Hp → V → Hp → Prop
  stop : Nat → Hp → Prop
/-- the iterator's own objects may turn: they are not the frame's, not pinned, younger than the entry (or a comprehension's own) -/
def FpOk (X : Cx) (pins : List (Addr × Obj)) (H : Hp) (b : Addr) : Prop :=
  H b = none ∧ b ≠ X.env.locals ∧ b ∉ X.fs ∧ (b ∈ X.ex ∨ X.s₀.heap.objs.size ≤ b) ∧ (∀ x c, X.env.cells.lookup x = some c → c ≠ b) ∧ ∀ p ∈ X.pn ++ pins, p.1 ≠ b
theorem Inv.fpOk {X : Cx} {pins : List (Addr × Obj)} {σ : St} {H H' : Hp} {s : Shared} {b : Addr} (I : Inv X pins σ H s) (hb : s.heap.objs.size ≤ b) (hn : H' b = none) : FpOk X pins H' b := by
  refine ⟨hn, Nat.ne_of_gt (Nat.lt_of_lt_of_le I.lt hb), I.nofs hb, .inr (Nat.le_trans I.sz hb), fun x c e z => ?_, fun p hp z => ?_⟩
  · obtain ⟨v, q⟩ := I.cell x c e
    exact absurd (Nat.lt_of_lt_of_le q.lt (by rw [z]; exact hb)) (Nat.lt_irrefl _)
  · exact absurd (Nat.lt_of_lt_of_le (Heap.lt_size (I.pin p hp).1) (by rw [z]; exact hb)) (Nat.lt_irrefl _)
structure Turn (P : Program) (w : World) (K : PySem.W.Frag) (tg : Expr) (J : It) (fp : List Addr) (it : Addr) (tn : Nat → Heap → Prop) : Prop where
  mem : it ∈ fp
  obj : ∀ i h, tn i h → ∀ b ∈ fp, ∃ o, h.get? b = some o ∧ ∀ v, o.data ≠ .cell v
  keep : ∀ i h h', tn i h → (∀ b ∈ fp, ∀ o, h.get? b = some o → h'.get? b = some o) → tn i h'
  item : ∀ (X : Cx), X.prog = P → X.w = w → X.K = K → X.calm = true → ∀ (i : Nat) (pins : List (Addr × Obj)) (s : Shared) (σ : St) (H : Hp) (E : Value → Shared → Prop), Inv X pins σ H s → (∀ b ∈ fp, FpOk X pins H b) → tn i s.heap → J.go i H →
    wpAny (model P w) X.A (pyNext (.ref it)) (fun r s1 => ∃ u, r = some u ∧
      wpAny (model P w) X.A (letOwnedTupleGo tg (.ref it) u) (fun _ s2 => ∃ x H', Inv X pins σ H' s2 ∧ RelV x u ∧ J.yld i H x H' ∧ tn (i + 1) s2.heap ∧ ∀ b ∈ fp, H' b = none) E s1) E s
  done : ∀ (X : Cx), X.prog = P → X.w = w → X.K = K → X.calm = true → ∀ (i : Nat) (pins : List (Addr × Obj)) (s : Shared) (σ : St) (H : Hp) (E : Value → Shared → Prop), Inv X pins σ H s → (∀ b ∈ fp, FpOk X pins H b) → tn i s.heap → J.stop i H →
    wpAny (model P w) X.A (pyNext (.ref it)) (fun r s1 => r = none ∧ Inv X pins σ H s1) E s
  self : ∀ (A : Around) (i : Nat) (s : Shared) (Q : Value → Shared → Prop) (E : Value → Shared → Prop), tn i s.heap → Q (.ref it) s → wpAny (model P w) A (pyIter (.ref it)) Q E s
abbrev TI := St → Hp → (It → Hp → Prop) → Prop
/-- an iterator has come -/
def PIE (X : Cx) (pins : List (Addr × Obj)) (σ : St) (tg : Expr) (R : It → Hp → Prop) (itv : Value) (s2 : Shared) : Prop :=
  ∃ (it : Addr) (fp : List Addr) (tn : Nat → Heap → Prop) (J : It) (H' : Hp), itv = .ref it ∧ Inv X pins σ H' s2 ∧ Turn X.prog X.w X.K tg J fp it tn ∧ tn 0 s2.heap ∧ (∀ b ∈ fp, FpOk X pins H' b) ∧ R J H'
def PI (X : Cx) (tg iter : Expr) (wi : TI) : Prop :=
  ∀ (pins : List (Addr × Obj)) (s : Shared) (σ : St) (H : Hp) (R : It → Hp → Prop), Inv X pins σ H s → wi σ H R →
    wpAny (model X.prog X.w) X.A (eval iter X.env) (fun v s1 => wpAny (model X.prog X.w) X.A (pyIter v) (PIE X pins σ tg R) X.xe s1) X.xe s

/-- the step ahead of the store is nothing for an iterator that keeps no tuple -/
theorem go_of {M : Model} {A : Around} {E : Value → Shared → Prop} {s : Shared} {tg : Expr} {it : Addr} {u : Value} {o : Obj} {n : String} {vs : Array Value} {Q : Unit → Shared → Prop} (ho : s.heap.get? it = some o) (hc : o.cls = .type n) (hd : o.data = .fields vs)
    (hn : ["enumerate", "zip", "dict_itemiterator", "dict_reverseitemiterator", "odict_iterator", "itertools.zip_longest", "itertools.pairwise"].contains n = false) (hQ : Q () s) : wpAny M A (letOwnedTupleGo tg (.ref it) u) Q E s := by
  unfold letOwnedTupleGo
  cases tg <;> first
    | exact wpAny_pure hQ
    | (cases u <;> first
        | exact wpAny_pure hQ
        | (refine wpAny_bind (wpAny_load ho ?_)
           rw [hc, hd]
           show wpAny M A (if (["enumerate", "zip", "dict_itemiterator", "dict_reverseitemiterator", "odict_iterator", "itertools.zip_longest", "itertools.pairwise"].contains n && vs[0]? == some (rawInt _)) = true then _ else _) Q E s
           rw [if_neg (by intro h; rw [hn, Bool.false_and] at h; cases h)]
           exact wpAny_pure hQ))

/-- the list at a, as it stands at each turn (a loop may append to it) -/
def Itl (K : PySem.W.Frag) (a : Addr) : It :=
  ⟨fun i H => ∃ xs x, SqL K H a xs ∧ xs[i]? = some x, fun i H x H' => H' = H ∧ ∀ xs, SqL K H a xs → xs[i]? = some x, fun i H => ∃ xs, SqL K H a xs ∧ xs.length ≤ i⟩
def Itt (K : PySem.W.Frag) (a : Addr) : It :=
  ⟨fun i H => ∃ xs x, SqT K H a xs ∧ xs[i]? = some x, fun i H x H' => H' = H ∧ ∀ xs, SqT K H a xs → xs[i]? = some x, fun i H => ∃ xs, SqT K H a xs ∧ xs.length ≤ i⟩
/-- lo, lo + 1, .. (n of them) -/
def Itr (lo : Int) (n : Nat) : It := ⟨fun i _ => i < n, fun i H x H' => H' = H ∧ x = .int (lo + i), fun i _ => n ≤ i⟩
theorem turn_list {P : Program} {w : World} {K : PySem.W.Frag} {tg : Expr} (a it : Addr) : Turn P w K tg (Itl K a) [it] it (fun i h => h.IsListIter it a i) where
  mem := by simp
  obj := fun i h st b hb => by
    have e : b = it := by simpa using hb
    subst e
    obtain ⟨o, e, c, d⟩ := st
    exact ⟨o, e, fun v z => by rw [d] at z; cases z⟩
  keep := fun i h h' st k => st.at fun o e => k it (by simp) o e
  item := by
    intro X hP hw hK hc i pins s σ H E I hf st hg
    subst hP hw hK
    obtain ⟨xs, x, hq, hx⟩ := hg
    obtain ⟨its, rv, p, hz⟩ := I.list hq
    obtain ⟨u, hu, ru⟩ := rv.get hx
    obtain ⟨f0, f1, f2, f3, f4, f5⟩ := hf it (by simp)
    refine wpAny_pyNext_list_item st p.isList (x := u) (by simpa using hu) fun h' st' sb => ?_
    have I1 : Inv X pins σ H { s with heap := h' } := I.turned (t' := s.toks) (fun b o hb e => (sb.2 b hb).trans e) f0 f1 f3 f4 f5
    obtain ⟨o, e, c, d⟩ := id st'
    exact ⟨u, rfl, go_of (s := { s with heap := h' }) e c d (by decide) ⟨x, H, I1, ru, ⟨rfl, fun ys hy => by rw [I.list_inj hy hq]; exact hx⟩, st', fun b hb => (hf b hb).1⟩⟩
  done := by
    intro X hP hw hK hc i pins s σ H E I hf st hg
    subst hP hw hK
    obtain ⟨xs, hq, hx⟩ := hg
    obtain ⟨its, rv, p, hz⟩ := I.list hq
    obtain ⟨f0, f1, f2, f3, f4, f5⟩ := hf it (by simp)
    have hl := rv.length
    exact wpAny_pyNext_list_end (I.ok.hd hc) st p.isList (by simp; omega) fun h' eb => ⟨rfl, I.turned (t' := s.toks) (fun b o hb e => eb b o hb e) f0 f1 f3 f4 f5⟩
  self := fun _ _ _ _ _ st h => wpAny_pyIter_listiter st h
theorem turn_tuple {P : Program} {w : World} {K : PySem.W.Frag} {tg : Expr} (a it : Addr) : Turn P w K tg (Itt K a) [it] it (fun i h => h.IsTupleIter it a i) where
  mem := by simp
  obj := fun i h st b hb => by
    have e : b = it := by simpa using hb
    subst e
    obtain ⟨o, e, c, d⟩ := st
    exact ⟨o, e, fun v z => by rw [d] at z; cases z⟩
  keep := fun i h h' st k => st.at fun o e => k it (by simp) o e
  item := by
    intro X hP hw hK hc i pins s σ H E I hf st hg
    subst hP hw hK
    obtain ⟨xs, x, hq, hx⟩ := hg
    obtain ⟨its, rv, p, hz⟩ := I.tuple hq
    obtain ⟨u, hu, ru⟩ := rv.get hx
    obtain ⟨f0, f1, f2, f3, f4, f5⟩ := hf it (by simp)
    refine wpAny_pyNext_tuple_item st (show s.heap.IsTuple a its.toArray from p) (x := u) (by simpa using hu) fun h' st' sb => ?_
    have I1 : Inv X pins σ H { s with heap := h' } := I.turned (t' := s.toks) (fun b o hb e => (sb.2 b hb).trans e) f0 f1 f3 f4 f5
    obtain ⟨o, e, c, d⟩ := id st'
    exact ⟨u, rfl, go_of (s := { s with heap := h' }) e c d (by decide) ⟨x, H, I1, ru, ⟨rfl, fun ys hy => by rw [I.tuple_inj hy hq]; exact hx⟩, st', fun b hb => (hf b hb).1⟩⟩
  done := by
    intro X hP hw hK hc i pins s σ H E I hf st hg
    subst hP hw hK
    obtain ⟨xs, hq, hx⟩ := hg
    obtain ⟨its, rv, p, hz⟩ := I.tuple hq
    obtain ⟨f0, f1, f2, f3, f4, f5⟩ := hf it (by simp)
    have hl := rv.length
    exact wpAny_pyNext_tuple_end (I.ok.hd hc) st (show s.heap.IsTuple a its.toArray from p) (by simp; omega) fun h' eb => ⟨rfl, I.turned (t' := s.toks) (fun b o hb e => eb b o hb e) f0 f1 f3 f4 f5⟩
  self := fun _ _ _ _ _ st h => wpAny_pyIter_tupleiter st h
theorem turn_range {P : Program} {w : World} {K : PySem.W.Frag} {tg : Expr} (it : Addr) (lo : Int) (n : Nat) : Turn P w K tg (Itr lo n) [it] it (fun i h => IsRangeIter h it (lo + (i : Nat) * 1) ((n : Int) - (i : Nat)) 1) where
  mem := by simp
  obj := fun i h st b hb => by
    have e : b = it := by simpa using hb
    subst e
    exact ⟨_, st, fun v z => by
      have z' : Data.fields _ = Data.cell v := z
      cases z'⟩
  keep := fun i h h' st k => k it (by simp) _ st
  item := by
    intro X hP hw hK hc i pins s σ H E I hf st hg
    subst hP hw hK
    obtain ⟨f0, f1, f2, f3, f4, f5⟩ := hf it (by simp)
    have W := Walks.range (prog := X.prog) (w := X.w) (I.ok.hd hc) it lo 1 n
    refine W.item i s _ _ hg st fun v h' tk hv st' kk => ?_
    obtain ⟨t, rfl⟩ := hv
    have I1 : Inv X pins σ H { s with heap := h', toks := tk } := I.turned (fun b o hb e => kk b o (by simpa using hb) e) f0 f1 f3 f4 f5
    refine ⟨_, rfl, go_of (s := { s with heap := h', toks := tk }) (n := "range_iterator") st' rfl rfl (by decide) ⟨.int (lo + i), H, I1, ⟨t, ?_⟩, ⟨rfl, rfl⟩, st', fun b hb => (hf b hb).1⟩⟩
    rw [Int.mul_one]
  done := by
    intro X hP hw hK hc i pins s σ H E I hf st hg
    subst hP hw hK
    obtain ⟨f0, f1, f2, f3, f4, f5⟩ := hf it (by simp)
    exact wpAny_pyNext_range_end (I.ok.hd hc) st (by have : n ≤ i := hg; omega) fun h' eb => ⟨rfl, I.turned (t' := s.toks) (fun b o hb e => eb b o hb e) f0 f1 f3 f4 f5⟩
  self := fun _ _ _ _ _ st h => wpAny_pyIter_rangeiter st h
end L2

namespace L2
open PySem PySem.Spec PyProof.Rows
section
variable {X : Cx} {tg : Expr}
def iList (K : PySem.W.Frag) (tl : TE) : TI := fun σ H R => tl σ H fun x H1 => ∃ a, x = .ref a ∧ (∃ xs, SqL K H1 a xs) ∧ R (Itl K a) H1
def iTup (K : PySem.W.Frag) (tl : TE) : TI := fun σ H R => tl σ H fun x H1 => ∃ a, x = .ref a ∧ (∃ xs, SqT K H1 a xs) ∧ R (Itt K a) H1
theorem pi_list {l : Expr} {tl : TE} (hl : PE X l tl) : PI X tg l (iList X.K tl) := by
  intro pins s σ H R I h
  refine thn (hl pins s σ H _ I h) fun v s1 ⟨x, H1, I1, r1, q1⟩ => ?_
  obtain ⟨a, e, ⟨xs, hq⟩, q⟩ := q1
  subst e
  cases r1
  obtain ⟨its, rv, p, hz⟩ := I1.list hq
  refine wpAny_pyIter_list p.isList ?_
  refine ⟨s1.heap.objs.size, [s1.heap.objs.size], _, _, H1, rfl, I1.kept (t' := s1.toks) fun b o e => Heap.get?_push_of_some _ e, turn_list a _, ⟨_, Heap.get?_push_size _ rfl, rfl, rfl⟩, fun b hb => ?_, q⟩
  have e : b = s1.heap.objs.size := by simpa using hb
  subst e
  exact I1.fpOk (Nat.le_refl _) (I1.hok.fresh (Nat.le_refl _))
theorem pi_tup {l : Expr} {tl : TE} (hl : PE X l tl) : PI X tg l (iTup X.K tl) := by
  intro pins s σ H R I h
  refine thn (hl pins s σ H _ I h) fun v s1 ⟨x, H1, I1, r1, q1⟩ => ?_
  obtain ⟨a, e, ⟨xs, hq⟩, q⟩ := q1
  subst e
  cases r1
  obtain ⟨its, rv, p, hz⟩ := I1.tuple hq
  refine wpAny_pyIter_tuple (show s1.heap.IsTuple a its.toArray from p) ?_
  refine ⟨s1.heap.objs.size, [s1.heap.objs.size], _, _, H1, rfl, I1.kept (t' := s1.toks) fun b o e => Heap.get?_push_of_some _ e, turn_tuple a _, ⟨_, Heap.get?_push_size _ rfl, rfl, rfl⟩, fun b hb => ?_, q⟩
  have e : b = s1.heap.objs.size := by simpa using hb
  subst e
  exact I1.fpOk (Nat.le_refl _) (I1.hok.fresh (Nat.le_refl _))
/-- a range object just made, walked -/
theorem range_it {pins : List (Addr × Obj)} {σ : St} {H : Hp} {s : Shared} {R : It → Hp → Prop} {E : Value → Shared → Prop} {lo hi : Int} {t u v : Tok} {tk : Nat} (I : Inv X pins σ H s) (h1 : -(2 ^ 62) ≤ lo) (h2 : lo < 2 ^ 62) (h3 : -(2 ^ 62) ≤ hi) (h4 : hi < 2 ^ 62)
    (q : R (Itr lo (hi - lo).toNat) H) : wpAny (model X.prog X.w) X.A (pyIter (.ref s.heap.objs.size)) (PIE X pins σ tg R) E { s with heap := s.heap.push { cls := .type "range", data := .fields #[.int lo t, .int hi u, .int 1 v] }, toks := tk } := by
  refine wpAny_pyIter_range (IsRange.new ..) (small_one h1 h2 h3 h4) ?_
  have I1 : Inv X pins σ H { s with heap := s.heap.push { cls := .type "range", data := .fields #[.int lo t, .int hi u, .int 1 v] }, toks := tk } := I.kept fun b o e => Heap.get?_push_of_some _ e
  refine ⟨(s.heap.push { cls := .type "range", data := .fields #[.int lo t, .int hi u, .int 1 v] }).objs.size, [(s.heap.push { cls := .type "range", data := .fields #[.int lo t, .int hi u, .int 1 v] }).objs.size], _, _, H, rfl,
    I1.kept (t' := tk) fun b o e => Heap.get?_push_of_some _ e, turn_range _ lo (hi - lo).toNat, ?_, fun b hb => ?_, q⟩
  · have e1 : lo + ((0 : Nat) : Int) * 1 = lo := by simp
    have e2 : (((hi - lo).toNat : Nat) : Int) - ((0 : Nat) : Int) = Builtin.Range.rangeSize lo hi 1 := by rw [rangeSize_one]; split <;> omega
    show IsRangeIter _ _ (lo + ((0 : Nat) : Int) * 1) ((((hi - lo).toNat : Nat) : Int) - ((0 : Nat) : Int)) 1
    rw [e1, e2]
    exact Heap.get?_push_size _ rfl
  · have e : b = (s.heap.push { cls := .type "range", data := .fields #[.int lo t, .int hi u, .int 1 v] }).objs.size := by simpa using hb
    subst e
    exact I1.fpOk (Nat.le_refl _) (I1.hok.fresh (Nat.le_refl _))
def iRng1 (ta : TA) : TI := fun σ H R => ta σ H fun vs H1 => ∃ j : Int, vs = [.int j] ∧ -(2 ^ 62) ≤ j ∧ j < 2 ^ 62 ∧ R (Itr 0 j.toNat) H1
def iRng2 (ta : TA) : TI := fun σ H R => ta σ H fun vs H1 => ∃ i j : Int, vs = [.int i, .int j] ∧ (-(2 ^ 62) ≤ i ∧ i < 2 ^ 62 ∧ -(2 ^ 62) ≤ j ∧ j < 2 ^ 62) ∧ R (Itr i (j - i).toNat) H1
theorem pi_range1 {a : Expr} {ta : TA} {p pos : Pos} (hg : Gl X "range") (hm : X.mg "range" = none) (ha : PA X [a] ta) (hs : starEach [a] X.env = [(false, eval a X.env)] := by rfl) : PI X tg (.Call (.Name "range" p) [a] [] pos) (iRng1 ta) := by
  intro pins s σ H R I h
  refine Call_ (ld_blt I hg hm boot_range (PyProof.Rows.callWith_type1 (thn (ha pos pins s σ H _ I h) fun us s1 ⟨vs, H1, I1, r1, q1⟩ => ?_) hs rfl))
  obtain ⟨j, e, q1, q2, q⟩ := q1
  subst e
  cases r1 with
  | cons r rr =>
    cases rr
    obtain ⟨t, rfl⟩ := r
    exact call_range_1 (range_it I1 (by omega) (by omega) q1 q2 (by simpa using q))
theorem pi_range2 {a b : Expr} {ta : TA} {p pos : Pos} (hg : Gl X "range") (hm : X.mg "range" = none) (ha : PA X [a, b] ta) (hs : starEach [a, b] X.env = [(false, eval a X.env), (false, eval b X.env)] := by rfl) (hs2 : starEach [b] X.env = [(false, eval b X.env)] := by rfl) :
    PI X tg (.Call (.Name "range" p) [a, b] [] pos) (iRng2 ta) := by
  intro pins s σ H R I h
  refine Call_ (ld_blt I hg hm boot_range (PyProof.Rows.callWith_type1 (thn (ha pos pins s σ H _ I h) fun us s1 ⟨vs, H1, I1, r1, q1⟩ => ?_) (by rw [hs, hs2]) (by rw [hs2]; rfl)))
  obtain ⟨i, j, e, ⟨q1, q2, q3, q4⟩, q⟩ := q1
  subst e
  cases r1 with
  | cons r rr =>
    cases rr with
    | cons r' rr =>
      cases rr
      obtain ⟨t, rfl⟩ := r
      obtain ⟨t', rfl⟩ := r'
      exact call_range_2 (range_it I1 q1 q2 q3 q4 q)

/-! ### for -/
/-- W: the invariant by the turn and a measure; N: what the body is to reach -/
def tFor (wi : TI) (g : TG) (tb : TS) : TS := fun D σ H => wi σ H fun J H1 => ∃ W : Nat → Nat → St → Hp → Prop, (∃ m, W 0 m σ H1) ∧ ∀ i m σ H, W i m σ H →
  (J.stop i H ∧ D.nx σ H) ∨ (J.go i H ∧ ∃ N : St → Hp → Prop, (∀ σ' H', N σ' H' → ∃ m', m' < m ∧ W (i + 1) m' σ' H') ∧ ∀ x H', J.yld i H x H' → g x σ H' fun σ2 H2 => tb { D with nx := N, ct := N, bk := D.nx } σ2 H2)
/-- the records at fp as they stand -/
def pinsAt (fp : List Addr) (h : Heap) : List (Addr × Obj) := fp.filterMap fun b => (h.get? b).map fun o => (b, o)
theorem mem_pinsAt {fp : List Addr} {h : Heap} {b : Addr} {o : Obj} (hb : b ∈ fp) (e : h.get? b = some o) : (b, o) ∈ pinsAt fp h := List.mem_filterMap.mpr ⟨b, hb, by rw [e]; rfl⟩
theorem of_pinsAt {fp : List Addr} {h : Heap} {p : Addr × Obj} (hp : p ∈ pinsAt fp h) : p.1 ∈ fp ∧ h.get? p.1 = some p.2 := by
  obtain ⟨b, hb, e⟩ := List.mem_filterMap.mp hp
  cases q : h.get? b with
  | none => rw [q] at e; cases e
  | some o =>
    rw [q] at e
    have e' : (b, o) = p := Option.some.inj e
    subst e'
    exact ⟨hb, q⟩
theorem Inv.pinned {pins : List (Addr × Obj)} {σ : St} {H : Hp} {s : Shared} {fp : List Addr} (I : Inv X pins σ H s) (hf : ∀ b ∈ fp, FpOk X pins H b) (ho : ∀ b ∈ fp, ∃ o, s.heap.get? b = some o ∧ ∀ v, o.data ≠ .cell v) : Inv X (pins ++ pinsAt fp s.heap) σ H s :=
  I.pins_of fun p hp => (List.mem_append.mp hp).elim (fun z => I.pin p (List.mem_append_right _ z)) fun z => by
    obtain ⟨hb, e⟩ := of_pinsAt z
    obtain ⟨f0, f1, f2, _⟩ := hf p.1 hb
    obtain ⟨o, e', d⟩ := ho p.1 hb
    rw [e] at e'; cases e'
    exact ⟨e, f0, f1, f2, d⟩
theorem Inv.unpinned {pins pl : List (Addr × Obj)} {σ : St} {H : Hp} {s : Shared} (I : Inv X (pins ++ pl) σ H s) : Inv X pins σ H s := I.pins_of fun p hp => I.pin p (List.mem_append_right _ (List.mem_append_left _ hp))
theorem ps_for {iter : Expr} {body : List Stmt} {wi : TI} {g : TG} {tb : TS} {pos : Pos} (hp : PassesOwn (model X.prog X.w) X.A X.env X.xe) (hc : X.calm = true) (hi : PI X tg iter wi) (hg : PG X tg g) (hb : PSs X body tb)
    (hs : ∀ x, foldedSetIterable iter X.env x = pure x := by intro _; rfl) : PS X (.For tg iter body [] pos) (tFor wi g tb) := by
  intro pins s σ H D I h
  refine wpAny_For (thn (hi pins s σ H _ I h) fun v s1 h1 => thn h1 fun itv s2 h2 => ?_) hs
  obtain ⟨it, fp, tn, J, H2, e, I2, T, st2, f2, W, ⟨m0, w0⟩, turn⟩ := h2
  subst e
  -- what stays true of the iterator's objects through the loop
  have stat : ∀ {H' : Hp}, (∀ b ∈ fp, H' b = none) → ∀ b ∈ fp, FpOk X pins H' b := fun hn b hb => ⟨hn b hb, (f2 b hb).2⟩
  refine codeAny_forLoop_any (fun n s' => ∃ i σ' H', Inv X pins σ' H' s' ∧ tn i s'.heap ∧ (∀ b ∈ fp, H' b = none) ∧ W i n σ' H') ?_ m0 ⟨0, σ, H2, I2, st2, fun b hb => (f2 b hb).1, w0⟩
  rintro n s3 ⟨i, σ3, H3, I3, st3, fr3, w3⟩
  rcases turn i n σ3 H3 w3 with ⟨stop, qn⟩ | ⟨go, N, hN, step⟩
  · refine wpAny_passesOwn hp (thn (T.done X rfl rfl rfl hc i pins s3 σ3 H3 X.xe I3 (stat fr3) st3 stop) fun r s4 ⟨hr, I4⟩ => ?_)
    subst hr
    exact wpAny_execs_nil ⟨σ3, H3, I4, qn⟩
  · refine wpAny_passesOwn hp (thn (T.item X rfl rfl rfl hc i pins s3 σ3 H3 X.xe I3 (stat fr3) st3 go) fun r s4 ⟨u, hr, h4⟩ => ?_)
    subst hr
    refine wpAny_passesOwn hp (thn h4 fun _ s5 ⟨x, H5, I5, r5, y5, st5, fr5⟩ => ?_)
    have I5' := I5.pinned (stat fr5) (T.obj _ _ st5)
    refine wpAny_passesOwn hp (thn (hg _ s5 σ3 H5 x u _ I5' r5 (step x H5 y5)) fun _ s6 ⟨σ6, H6, I6, q6⟩ => ?_)
    refine wpAny_passesOwn hp (thn (hb _ s6 σ6 H6 _ I6 q6) fun f s7 q7 => ?_)
    have again : ∀ {σ7 : St} {H7 : Hp}, Inv X (pins ++ pinsAt fp s5.heap) σ7 H7 s7 → N σ7 H7 → ∃ m, m < n ∧ ∃ i σ' H', Inv X pins σ' H' s7 ∧ tn i s7.heap ∧ (∀ b ∈ fp, H' b = none) ∧ W i m σ' H' := fun {σ7 H7} I7 n7 => by
      obtain ⟨m', hm, w7⟩ := hN σ7 H7 n7
      refine ⟨m', hm, i + 1, σ7, H7, I7.unpinned, T.keep _ _ _ st5 fun b hb o e => (I7.pin (b, o) (List.mem_append_right _ (List.mem_append_right _ (mem_pinsAt hb e)))).1, fun b hb => ?_, w7⟩
      obtain ⟨o, e, d⟩ := T.obj _ _ st5 b hb
      exact (I7.pin (b, o) (List.mem_append_right _ (List.mem_append_right _ (mem_pinsAt hb e)))).2.1
    cases f with
    | next => obtain ⟨σ7, H7, I7, n7⟩ := q7; exact again I7 n7
    | cont => obtain ⟨σ7, H7, I7, n7⟩ := q7; exact again I7 n7
    | brk => obtain ⟨σ7, H7, I7, q7⟩ := q7; exact ⟨σ7, H7, I7.unpinned, q7⟩
    | ret v => obtain ⟨x7, σ7, H7, I7, r7, q7⟩ := q7; exact ⟨x7, σ7, H7, I7.unpinned, r7, q7⟩
end

/-! ### the forms one uses -/
/-- over a list that the body leaves as it is -/
theorem for_list {K : PySem.W.Frag} {a : Addr} {xs : List V} {g : TG} {tb : TS} {D : Ends} {σ : St} {H : Hp} (Pv : Nat → St → Hp → Prop) (h0 : Pv 0 σ H) (hl : ∀ i σ H, i ≤ xs.length → Pv i σ H → SqL K H a xs)
    (hs : ∀ i x σ H, xs[i]? = some x → Pv i σ H → g x σ H fun σ2 H2 => tb { D with nx := Pv (i + 1), ct := Pv (i + 1), bk := D.nx } σ2 H2) (hd : ∀ σ H, Pv xs.length σ H → D.nx σ H) :
    ∃ W : Nat → Nat → St → Hp → Prop, (∃ m, W 0 m σ H) ∧ ∀ i m σ H, W i m σ H →
      ((Itl K a).stop i H ∧ D.nx σ H) ∨ ((Itl K a).go i H ∧ ∃ N : St → Hp → Prop, (∀ σ' H', N σ' H' → ∃ m', m' < m ∧ W (i + 1) m' σ' H') ∧ ∀ x H', (Itl K a).yld i H x H' → g x σ H' fun σ2 H2 => tb { D with nx := N, ct := N, bk := D.nx } σ2 H2) := by
  refine ⟨fun i m σ H => m = xs.length - i ∧ i ≤ xs.length ∧ Pv i σ H, ⟨xs.length, by simp, Nat.zero_le _, h0⟩, ?_⟩
  rintro i m σ H ⟨rfl, hi, p⟩
  have q := hl i σ H hi p
  by_cases hlt : i < xs.length
  · refine .inr ⟨⟨xs, xs[i], q, by simp [hlt]⟩, Pv (i + 1), fun σ' H' p' => ⟨xs.length - (i + 1), by omega, rfl, hlt, p'⟩, fun x H' y => ?_⟩
    obtain ⟨e, y⟩ := y
    subst e
    exact hs i x σ _ (y xs q) p
  · have e : i = xs.length := by omega
    subst e
    exact .inl ⟨⟨xs, q, Nat.le_refl _⟩, hd σ H p⟩
theorem for_tup {K : PySem.W.Frag} {a : Addr} {xs : List V} {g : TG} {tb : TS} {D : Ends} {σ : St} {H : Hp} (Pv : Nat → St → Hp → Prop) (h0 : Pv 0 σ H) (hl : ∀ i σ H, i ≤ xs.length → Pv i σ H → SqT K H a xs)
    (hs : ∀ i x σ H, xs[i]? = some x → Pv i σ H → g x σ H fun σ2 H2 => tb { D with nx := Pv (i + 1), ct := Pv (i + 1), bk := D.nx } σ2 H2) (hd : ∀ σ H, Pv xs.length σ H → D.nx σ H) :
    ∃ W : Nat → Nat → St → Hp → Prop, (∃ m, W 0 m σ H) ∧ ∀ i m σ H, W i m σ H →
      ((Itt K a).stop i H ∧ D.nx σ H) ∨ ((Itt K a).go i H ∧ ∃ N : St → Hp → Prop, (∀ σ' H', N σ' H' → ∃ m', m' < m ∧ W (i + 1) m' σ' H') ∧ ∀ x H', (Itt K a).yld i H x H' → g x σ H' fun σ2 H2 => tb { D with nx := N, ct := N, bk := D.nx } σ2 H2) := by
  refine ⟨fun i m σ H => m = xs.length - i ∧ i ≤ xs.length ∧ Pv i σ H, ⟨xs.length, by simp, Nat.zero_le _, h0⟩, ?_⟩
  rintro i m σ H ⟨rfl, hi, p⟩
  have q := hl i σ H hi p
  by_cases hlt : i < xs.length
  · refine .inr ⟨⟨xs, xs[i], q, by simp [hlt]⟩, Pv (i + 1), fun σ' H' p' => ⟨xs.length - (i + 1), by omega, rfl, hlt, p'⟩, fun x H' y => ?_⟩
    obtain ⟨e, y⟩ := y
    subst e
    exact hs i x σ _ (y xs q) p
  · have e : i = xs.length := by omega
    subst e
    exact .inl ⟨⟨xs, q, Nat.le_refl _⟩, hd σ H p⟩
theorem for_range {lo : Int} {n : Nat} {g : TG} {tb : TS} {D : Ends} {σ : St} {H : Hp} (Pv : Nat → St → Hp → Prop) (h0 : Pv 0 σ H)
    (hs : ∀ i σ H, i < n → Pv i σ H → g (.int (lo + i)) σ H fun σ2 H2 => tb { D with nx := Pv (i + 1), ct := Pv (i + 1), bk := D.nx } σ2 H2) (hd : ∀ σ H, Pv n σ H → D.nx σ H) :
    ∃ W : Nat → Nat → St → Hp → Prop, (∃ m, W 0 m σ H) ∧ ∀ i m σ H, W i m σ H →
      ((Itr lo n).stop i H ∧ D.nx σ H) ∨ ((Itr lo n).go i H ∧ ∃ N : St → Hp → Prop, (∀ σ' H', N σ' H' → ∃ m', m' < m ∧ W (i + 1) m' σ' H') ∧ ∀ x H', (Itr lo n).yld i H x H' → g x σ H' fun σ2 H2 => tb { D with nx := N, ct := N, bk := D.nx } σ2 H2) := by
  refine ⟨fun i m σ H => m = n - i ∧ i ≤ n ∧ Pv i σ H, ⟨n, by simp, Nat.zero_le _, h0⟩, ?_⟩
  rintro i m σ H ⟨rfl, hi, p⟩
  by_cases hlt : i < n
  · refine .inr ⟨hlt, Pv (i + 1), fun σ' H' p' => ⟨n - (i + 1), by omega, rfl, hlt, p'⟩, fun x H' y => ?_⟩
    obtain ⟨e, y⟩ := y
    subst e y
    exact hs i σ _ hlt p
  · have e : i = n := by omega
    subst e
    exact .inl ⟨Nat.le_refl _, hd σ H p⟩
/-- while, by a word and a measure of the state -/
theorem while_by {c : TT} {tb : TS} {D : Ends} {σ : St} {H : Hp} (Pv : St → Hp → Prop) (μ : St → Hp → Nat) (h0 : Pv σ H)
    (hs : ∀ σ H, Pv σ H → c σ H fun b H1 => if b = true then tb { D with nx := fun σ' H' => Pv σ' H' ∧ μ σ' H' < μ σ H, ct := fun σ' H' => Pv σ' H' ∧ μ σ' H' < μ σ H, bk := D.nx } σ H1 else D.nx σ H1)
    (mono : ∀ σ H Q Q', (∀ b H1, Q b H1 → Q' b H1) → c σ H Q → c σ H Q') : tWhile c tb D σ H := by
  refine ⟨fun m σ H => m = μ σ H ∧ Pv σ H, ⟨_, rfl, h0⟩, ?_⟩
  rintro m σ H ⟨rfl, p⟩
  refine mono σ H _ _ (fun b H1 q => ?_) (hs σ H p)
  cases b with
  | true => exact ⟨_, fun σ' H' ⟨p', l⟩ => ⟨_, l, rfl, p'⟩, q⟩
  | false => exact q
end L2

namespace L2
open PySem PySem.Spec PyProof.Rows

abbrev R2 := V → V → Hp → VK → Prop
/-- a two-place operation on values: f is binaryOp op, inplaceOp op or compareOp op -/
def OpR (X : Cx) (f : Value → Value → Sem Value) (r : R2) : Prop :=
  ∀ (pins : List (Addr × Obj)) (s : Shared) (σ : St) (H : Hp) (x y : V) (v u : Value) (Q : VK), Inv X pins σ H s → RelV x v → RelV y u → r x y H Q →
    wpAny (model X.prog X.w) X.A (f v u) (EP X pins σ Q) X.xe s
/-- a one-place operation -/
def UnR (X : Cx) (f : Value → Sem Value) (r : V → Hp → VK → Prop) : Prop :=
  ∀ (pins : List (Addr × Obj)) (s : Shared) (σ : St) (H : Hp) (x : V) (v : Value) (Q : VK), Inv X pins σ H s → RelV x v → r x H Q →
    wpAny (model X.prog X.w) X.A (f v) (EP X pins σ Q) X.xe s
/-- a call of a value that is known (a builtin, a type) with values -/
def CallR (X : Cx) (f : Value) (r : List V → Hp → VK → Prop) : Prop :=
  ∀ (pins : List (Addr × Obj)) (s : Shared) (σ : St) (H : Hp) (xs : List V) (us : List Value) (Q : VK), Inv X pins σ H s → Vals xs us → r xs H Q →
    wpAny (model X.prog X.w) X.A (call f us) (EP X pins σ Q) X.xe s
/-- a value's truth -/
def TruR (X : Cx) (r : V → Hp → (Bool → Hp → Prop) → Prop) : Prop :=
  ∀ (pins : List (Addr × Obj)) (s : Shared) (σ : St) (H : Hp) (x : V) (v : Value) (Q : Bool → Hp → Prop), Inv X pins σ H s → RelV x v → r x H Q →
    wpAny (model X.prog X.w) X.A (truthy v) (TP X pins σ Q) X.xe s

def tOp (r : R2) (ta tb : TE) : TE := fun σ H Q => ta σ H fun x H1 => tb σ H1 fun y H2 => r x y H2 Q
def tUn (r : V → Hp → VK → Prop) (ta : TE) : TE := fun σ H Q => ta σ H fun x H1 => r x H1 Q
/-- ints in, under C, and a value out -/
def rI (C : Int → Int → Prop) (g : Int → Int → V) : R2 := fun x y H Q => ∃ i j, x = .int i ∧ y = .int j ∧ C i j ∧ Q (g i j) H
def rI0 (g : Int → Int → V) : R2 := fun x y H Q => ∃ i j, x = .int i ∧ y = .int j ∧ Q (g i j) H
def rU (g : Int → V) : V → Hp → VK → Prop := fun x H Q => ∃ i, x = .int i ∧ Q (g i) H

section
variable {X : Cx} {a b c : Expr} {ta tb tc : TE} {pos : Pos}

theorem binT (ha : PE X a ta) (hb : PE X b tb) {pins : List (Addr × Obj)} {s : Shared} {σ : St} {H : Hp} {R : V → V → Hp → Prop} (I : Inv X pins σ H s)
    (h : ta σ H fun x H1 => tb σ H1 fun y H2 => R x y H2) {Q : Value → Shared → Prop} {f : Value → Value → Sem Value}
    (hf : ∀ v u s2 x y H2, Inv X pins σ H2 s2 → RelV x v → RelV y u → R x y H2 → wpAny (model X.prog X.w) X.A (f v u) Q X.xe s2) :
    wpAny (model X.prog X.w) X.A (eval a X.env) (fun v s₁ => wpAny (model X.prog X.w) X.A (eval b X.env) (fun u s₂ => wpAny (model X.prog X.w) X.A (f v u) Q X.xe s₂) X.xe s₁) X.xe s := by
  refine thn (ha pins s σ H _ I h) fun v s1 ⟨x, H1, I1, r1, q1⟩ => ?_
  refine thn (hb pins s1 σ H1 _ I1 q1) fun u s2 ⟨y, H2, I2, r2, q2⟩ => ?_
  exact hf v u s2 x y H2 I2 r1 r2 q2

theorem pe_op {op : Operator} {r : R2} (ho : OpR X (binaryOp op) r) (ha : PE X a ta) (hb : PE X b tb) : PE X (.BinOp a op b pos) (tOp r ta tb) := by
  intro pins s σ H Q I h
  exact wpAny_BinOp (binT ha hb I h fun v u s2 x y H2 I2 rx ry q => ho pins s2 σ H2 x y v u Q I2 rx ry q)
theorem pe_un {op : UnaryOp} {r : V → Hp → VK → Prop} (ho : UnR X (unaryOp op) r) (ha : PE X a ta) : PE X (.UnaryOp op a pos) (tUn r ta) := by
  intro pins s σ H Q I h
  exact UnaryOp_ (thn (ha pins s σ H _ I h) fun v s1 ⟨x, H1, I1, r1, q1⟩ => ho pins s1 σ H1 x v Q I1 r1 q1)
/-- a op= e at a name: the name's slot i -/
theorem augR {op : Operator} {r : R2} (ho : OpR X (inplaceOp op) r) {pins : List (Addr × Obj)} {s : Shared} {σ : St} {H : Hp} {x y : V} {v u : Value} {Q : VK} (I : Inv X pins σ H s)
    (rx : RelV x v) (ry : RelV y u) (q : r x y H Q) : wpAny (model X.prog X.w) X.A (inplaceOp op v u) (EP X pins σ Q) X.xe s := ho pins s σ H x y v u Q I rx ry q

/-! ### ints -/
theorem opI {f : Value → Value → Sem Value} {C : Int → Int → Prop} {g : Int → Int → Int}
    (rule : ∀ (i j : Int) (t u : Tok) (s : Shared) (Q : Value → Shared → Prop) (E : Value → Shared → Prop), C i j → Q (.int (g i j) s.toks) { s with toks := s.toks + 1 } → wpAny (model X.prog X.w) X.A (f (.int i t) (.int j u)) Q E s) :
    OpR X f (rI C fun i j => .int (g i j)) := by
  intro pins s σ H x y v u Q I rx ry h
  obtain ⟨i, j, rfl, rfl, hc, q⟩ := h
  obtain ⟨t, rfl⟩ := rx
  obtain ⟨t', rfl⟩ := ry
  exact rule i j t t' s _ _ hc ⟨.int (g i j), H, I.tok _, ⟨_, rfl⟩, q⟩
theorem opI0 {f : Value → Value → Sem Value} {g : Int → Int → Int}
    (rule : ∀ (i j : Int) (t u : Tok) (s : Shared) (Q : Value → Shared → Prop) (E : Value → Shared → Prop), Q (.int (g i j) s.toks) { s with toks := s.toks + 1 } → wpAny (model X.prog X.w) X.A (f (.int i t) (.int j u)) Q E s) :
    OpR X f (rI0 fun i j => .int (g i j)) := by
  intro pins s σ H x y v u Q I rx ry h
  obtain ⟨i, j, rfl, rfl, q⟩ := h
  obtain ⟨t, rfl⟩ := rx
  obtain ⟨t', rfl⟩ := ry
  exact rule i j t t' s _ _ ⟨.int (g i j), H, I.tok _, ⟨_, rfl⟩, q⟩
theorem opB0 {f : Value → Value → Sem Value} {g : Int → Int → Bool}
    (rule : ∀ (i j : Int) (t u : Tok) (s : Shared) (Q : Value → Shared → Prop) (E : Value → Shared → Prop), Q (.bool (g i j)) s → wpAny (model X.prog X.w) X.A (f (.int i t) (.int j u)) Q E s) :
    OpR X f (rI0 fun i j => .bl (g i j)) := by
  intro pins s σ H x y v u Q I rx ry h
  obtain ⟨i, j, rfl, rfl, q⟩ := h
  obtain ⟨t, rfl⟩ := rx
  obtain ⟨t', rfl⟩ := ry
  exact rule i j t t' s _ _ ⟨.bl (g i j), H, I, rfl, q⟩

def CDiv (i j : Int) : Prop := 0 < j ∧ j < 1073741824
def CDivN (i j : Int) : Prop := j ≠ 0 ∧ j.natAbs < 1073741824
def CPow (i j : Int) : Prop := 0 ≤ j ∧ j ≤ 1000000 ∧ i.natAbs < 2 ^ 64
def CMul (i j : Int) : Prop := (-(2 ^ 64) < i ∧ i < 2 ^ 64) ∨ (-(2 ^ 64) < j ∧ j < 2 ^ 64)
theorem CMul.ok {i j : Int} (h : CMul i j) : IntMulOk i j := by
  rcases h with ⟨h1, h2⟩ | ⟨h1, h2⟩
  · exact .of_left (intBits_le_64 h1 h2)
  · exact .of_right (intBits_le_64 h1 h2)
theorem two_pow_nn (k : Nat) : (0 : Int) ≤ 2 ^ k := by
  rw [two_pow_cast]
  exact Int.natCast_nonneg _

theorem op_add : OpR X (binaryOp .Add) (rI0 fun i j => .int (i + j)) := opI0 fun _ _ _ _ _ _ _ q => add_int q
theorem op_sub : OpR X (binaryOp .Sub) (rI0 fun i j => .int (i - j)) := opI0 fun _ _ _ _ _ _ _ q => sub_int q
theorem op_mul : OpR X (binaryOp .Mult) (rI CMul fun i j => .int (i * j)) := opI fun _ _ _ _ _ _ _ hc q => mul_int q hc.ok
/-- // by a positive divisor -/
theorem op_fdiv : OpR X (binaryOp .FloorDiv) (rI CDiv fun i j => .int (i / j)) := opI fun i j _ _ _ _ _ hc q => by
  have h1 : (0 : Int) < j := hc.1
  have h2 : j < 1073741824 := hc.2
  exact floordiv_int (by omega) (by rw [Int.fdiv_eq_ediv_of_nonneg i (by omega)]; exact q) (.inl (PyProof.noPylong_small (by omega)))
theorem op_fdivN : OpR X (binaryOp .FloorDiv) (rI CDivN fun i j => .int (i.fdiv j)) := opI fun _ _ _ _ _ _ _ hc q => floordiv_int hc.1 q (.inl (PyProof.noPylong_small hc.2))
/-- % by a positive divisor of any size -/
theorem op_mod : OpR X (binaryOp .Mod) (rI (fun _ j => 0 < j) fun i j => .int (i % j)) := opI fun i j _ _ _ _ _ hc q => by
  have h1 : (0 : Int) < j := hc
  exact mod_int' (by omega) (by rw [Int.fmod_eq_emod_of_nonneg i (by omega)]; exact q)
theorem op_modN : OpR X (binaryOp .Mod) (rI (fun _ j => j ≠ 0) fun i j => .int (i.fmod j)) := opI fun _ _ _ _ _ _ _ hc q => mod_int' hc q
theorem op_pow : OpR X (binaryOp .Pow) (rI CPow fun i j => .int (i ^ j.toNat)) := opI fun _ _ _ _ _ _ _ hc q => pow_int_small hc.1 hc.2.1 hc.2.2 q
theorem op_shl : OpR X (binaryOp .LShift) (rI CPow fun i j => .int (i * 2 ^ j.toNat)) := opI fun _ _ _ _ _ _ _ hc q => lshift_int_small hc.1 hc.2.1 hc.2.2 q
theorem op_shr : OpR X (binaryOp .RShift) (rI (fun _ j => 0 ≤ j) fun i j => .int (i / 2 ^ j.toNat)) := opI fun i j _ _ _ _ _ hc q =>
  rshift_int hc (by rw [Int.fdiv_eq_ediv_of_nonneg i (two_pow_nn _)]; exact q)
theorem op_and : OpR X (binaryOp .BitAnd) (rI0 fun i j => .int (Builtin.bitAnd i j)) := opI0 fun _ _ _ _ _ _ _ q => and_int q
theorem op_or : OpR X (binaryOp .BitOr) (rI0 fun i j => .int (Builtin.bitOr i j)) := opI0 fun _ _ _ _ _ _ _ q => or_int q
theorem op_xor : OpR X (binaryOp .BitXor) (rI0 fun i j => .int (Builtin.bitXor i j)) := opI0 fun _ _ _ _ _ _ _ q => xor_int q

theorem iop_add : OpR X (inplaceOp .Add) (rI0 fun i j => .int (i + j)) := opI0 fun _ _ _ _ _ _ _ q => iadd_int q
theorem iop_sub : OpR X (inplaceOp .Sub) (rI0 fun i j => .int (i - j)) := opI0 fun _ _ _ _ _ _ _ q => isub_int q
theorem iop_mul : OpR X (inplaceOp .Mult) (rI CMul fun i j => .int (i * j)) := opI fun _ _ _ _ _ _ _ hc q => imul_int q hc.ok
theorem iop_fdiv : OpR X (inplaceOp .FloorDiv) (rI CDiv fun i j => .int (i / j)) := opI fun i j _ _ _ _ _ hc q => by
  have h1 : (0 : Int) < j := hc.1
  have h2 : j < 1073741824 := hc.2
  exact ifloordiv_int (by omega) (by rw [Int.fdiv_eq_ediv_of_nonneg i (by omega)]; exact q) (.inl (PyProof.noPylong_small (by omega)))
theorem iop_mod : OpR X (inplaceOp .Mod) (rI (fun _ j => 0 < j) fun i j => .int (i % j)) := opI fun i j _ _ _ _ _ hc q => by
  have h1 : (0 : Int) < j := hc
  exact imod_int (by omega) (by rw [Int.fmod_eq_emod_of_nonneg i (by omega)]; exact q)
theorem iop_shl : OpR X (inplaceOp .LShift) (rI CPow fun i j => .int (i * 2 ^ j.toNat)) := opI fun _ _ _ _ _ _ _ hc q => ilshift_int_small hc.1 hc.2.1 hc.2.2 q
theorem iop_shr : OpR X (inplaceOp .RShift) (rI (fun _ j => 0 ≤ j) fun i j => .int (i / 2 ^ j.toNat)) := opI fun i j _ _ _ _ _ hc q =>
  irshift_int hc (by rw [Int.fdiv_eq_ediv_of_nonneg i (two_pow_nn _)]; exact q)
theorem iop_and : OpR X (inplaceOp .BitAnd) (rI0 fun i j => .int (Builtin.bitAnd i j)) := opI0 fun _ _ _ _ _ _ _ q => iand_int q
theorem iop_or : OpR X (inplaceOp .BitOr) (rI0 fun i j => .int (Builtin.bitOr i j)) := opI0 fun _ _ _ _ _ _ _ q => ior_int q
theorem iop_xor : OpR X (inplaceOp .BitXor) (rI0 fun i j => .int (Builtin.bitXor i j)) := opI0 fun _ _ _ _ _ _ _ q => ixor_int q

theorem unI {f : Value → Sem Value} {g : Int → Int}
    (rule : ∀ (i : Int) (t : Tok) (s : Shared) (Q : Value → Shared → Prop) (E : Value → Shared → Prop), Q (.int (g i) s.toks) { s with toks := s.toks + 1 } → wpAny (model X.prog X.w) X.A (f (.int i t)) Q E s) :
    UnR X f (rU fun i => .int (g i)) := by
  intro pins s σ H x v Q I rx h
  obtain ⟨i, rfl, q⟩ := h
  obtain ⟨t, rfl⟩ := rx
  exact rule i t s _ _ ⟨.int (g i), H, I.tok _, ⟨_, rfl⟩, q⟩
theorem un_neg : UnR X (unaryOp .USub) (rU fun i => .int (-i)) := unI fun _ _ _ _ _ q => neg_int q
theorem un_inv : UnR X (unaryOp .Invert) (rU fun i => .int (Builtin.bitNot i)) := unI fun _ _ _ _ _ q => invert_int q

/-! ### bools among ints: n += (a < b) -/
theorem op_add_ib : OpR X (binaryOp .Add) (fun x y H Q => ∃ i k, x = .int i ∧ y = .bl k ∧ Q (.int (i + b2i k)) H) := by
  intro pins s σ H x y v u Q I rx ry h
  obtain ⟨i, k, rfl, rfl, q⟩ := h
  obtain ⟨t, rfl⟩ := rx
  cases ry
  exact add_int_bool ⟨.int (i + b2i k), H, I.tok _, ⟨_, rfl⟩, q⟩
end

/-! ### comparisons -/
/-- the scalars that == tells apart as data does -/
def scal : V → V → Bool
  | .non, .non => true | .non, .int _ => true | .int _, .non => true | .non, .bl _ => true | .bl _, .non => true | .non, .str _ => true | .str _, .non => true
  | .int _, .int _ => true | .bl _, .bl _ => true | .str _, .str _ => true | .byt _, .byt _ => true
  | .int _, .str _ => true | .str _, .int _ => true | .bl _, .str _ => true | .str _, .bl _ => true
  | _, _ => false
def rEq : R2 := fun x y H Q => scal x y = true ∧ Q (.bl (decide (x = y))) H
def rNe : R2 := fun x y H Q => scal x y = true ∧ Q (.bl (!decide (x = y))) H

theorem dec_int {i j : Int} : decide (V.int i = V.int j) = (i == j) := by
  rw [Bool.eq_iff_iff]
  simp
theorem dec_bl {i j : Bool} : decide (V.bl i = V.bl j) = (i == j) := by
  rw [Bool.eq_iff_iff]
  simp
theorem dec_str {i j : Str} : decide (V.str i = V.str j) = (i == j) := by
  rw [Bool.eq_iff_iff]
  simp
theorem dec_byt {i j : Array UInt8} : decide (V.byt i = V.byt j) = (i.toList == j.toList) := by
  rw [Bool.eq_iff_iff]
  cases i
  cases j
  simp

section
variable {X : Cx} {a b c : Expr} {ta tb tc : TE} {pos : Pos}
theorem fin_bl {pins : List (Addr × Obj)} {σ : St} {H : Hp} {s : Shared} {Q : VK} {k k' : Bool} (I : Inv X pins σ H s) (q : Q (.bl k) H) (e : k = k') : EP X pins σ Q (.bool k') s := by
  subst e
  exact ⟨.bl k, H, I, rfl, q⟩
theorem op_eq : OpR X (compareOp .Eq) rEq := by
  intro pins s σ H x y v u Q I rx ry h
  obtain ⟨hs, q⟩ := h
  cases x with
  | non =>
    cases rx
    cases y with
    | non => cases ry; exact PySem.EqNone.eq_none_none (fin_bl I q (by simp))
    | bl j => cases ry; exact PySem.EqNone.eq_none_bool (fin_bl I q (by simp))
    | int j => obtain ⟨t', rfl⟩ := ry; exact PySem.EqNone.eq_none_int (fin_bl I q (by simp))
    | str j => obtain ⟨t', rfl⟩ := ry; exact PySem.EqNone.eq_none_str (fin_bl I q (by simp))
    | _ => exact absurd (show false = true from hs) Bool.false_ne_true
  | bl i =>
    cases rx
    cases y with
    | non => cases ry; exact PySem.EqNone.eq_bool_none (fin_bl I q (by simp))
    | bl j => cases ry; exact eq_bool (fin_bl I q dec_bl)
    | str j => obtain ⟨t', rfl⟩ := ry; exact PySem.EqMixed.eq_bool_str (fin_bl I q (by simp))
    | _ => exact absurd (show false = true from hs) Bool.false_ne_true
  | int i =>
    obtain ⟨t, rfl⟩ := rx
    cases y with
    | non => cases ry; exact PySem.EqNone.eq_int_none (fin_bl I q (by simp))
    | int j => obtain ⟨t', rfl⟩ := ry; exact eq_int (fin_bl I q dec_int)
    | str j => obtain ⟨t', rfl⟩ := ry; exact PySem.EqMixed.eq_int_str (fin_bl I q (by simp))
    | _ => exact absurd (show false = true from hs) Bool.false_ne_true
  | str i =>
    obtain ⟨t, rfl⟩ := rx
    cases y with
    | non => cases ry; exact PySem.EqNone.eq_str_none (fin_bl I q (by simp))
    | bl j => cases ry; exact PySem.EqMixed.eq_str_bool (fin_bl I q (by simp))
    | int j => obtain ⟨t', rfl⟩ := ry; exact PySem.EqMixed.eq_str_int (fin_bl I q (by simp))
    | str j => obtain ⟨t', rfl⟩ := ry; exact eq_str (fin_bl I q dec_str)
    | _ => exact absurd (show false = true from hs) Bool.false_ne_true
  | byt i =>
    obtain ⟨t, rfl⟩ := rx
    cases y with
    | byt j => obtain ⟨t', rfl⟩ := ry; exact PySem.W.eq_bytes (fin_bl I q dec_byt)
    | _ => exact absurd (show false = true from hs) Bool.false_ne_true
  | _ => cases y <;> exact absurd (show false = true from hs) Bool.false_ne_true
theorem op_ne : OpR X (compareOp .NotEq) rNe := by
  intro pins s σ H x y v u Q I rx ry h
  obtain ⟨hs, q⟩ := h
  cases x with
  | non =>
    cases rx
    cases y with
    | non => cases ry; exact PySem.EqNone.ne_none_none (fin_bl I q (by simp))
    | bl j => cases ry; exact PySem.EqNone.ne_none_bool (fin_bl I q (by simp))
    | int j => obtain ⟨t', rfl⟩ := ry; exact PySem.EqNone.ne_none_int (fin_bl I q (by simp))
    | str j => obtain ⟨t', rfl⟩ := ry; exact PySem.EqNone.ne_none_str (fin_bl I q (by simp))
    | _ => exact absurd (show false = true from hs) Bool.false_ne_true
  | bl i =>
    cases rx
    cases y with
    | non => cases ry; exact PySem.EqNone.ne_bool_none (fin_bl I q (by simp))
    | bl j => cases ry; exact ne_bool (fin_bl I q (congrArg not dec_bl))
    | str j => obtain ⟨t', rfl⟩ := ry; exact PySem.EqMixed.ne_bool_str (fin_bl I q (by simp))
    | _ => exact absurd (show false = true from hs) Bool.false_ne_true
  | int i =>
    obtain ⟨t, rfl⟩ := rx
    cases y with
    | non => cases ry; exact PySem.EqNone.ne_int_none (fin_bl I q (by simp))
    | int j => obtain ⟨t', rfl⟩ := ry; exact ne_int (fin_bl I q (congrArg not dec_int))
    | str j => obtain ⟨t', rfl⟩ := ry; exact PySem.EqMixed.ne_int_str (fin_bl I q (by simp))
    | _ => exact absurd (show false = true from hs) Bool.false_ne_true
  | str i =>
    obtain ⟨t, rfl⟩ := rx
    cases y with
    | non => cases ry; exact PySem.EqNone.ne_str_none (fin_bl I q (by simp))
    | bl j => cases ry; exact PySem.EqMixed.ne_str_bool (fin_bl I q (by simp))
    | int j => obtain ⟨t', rfl⟩ := ry; exact PySem.EqMixed.ne_str_int (fin_bl I q (by simp))
    | str j => obtain ⟨t', rfl⟩ := ry; exact ne_str (fin_bl I q (congrArg not dec_str))
    | _ => exact absurd (show false = true from hs) Bool.false_ne_true
  | byt i =>
    obtain ⟨t, rfl⟩ := rx
    cases y with
    | byt j => obtain ⟨t', rfl⟩ := ry; exact PySem.W.ne_bytes (fin_bl I q (congrArg not dec_byt))
    | _ => exact absurd (show false = true from hs) Bool.false_ne_true
  | _ => cases y <;> exact absurd (show false = true from hs) Bool.false_ne_true

theorem op_lt : OpR X (compareOp .Lt) (rI0 fun i j => .bl (decide (i < j))) := opB0 fun _ _ _ _ _ _ _ q => lt_int q
theorem op_le : OpR X (compareOp .LtE) (rI0 fun i j => .bl (decide (i ≤ j))) := opB0 fun _ _ _ _ _ _ _ q => le_int q
theorem op_gt : OpR X (compareOp .Gt) (rI0 fun i j => .bl (decide (j < i))) := opB0 fun _ _ _ _ _ _ _ q => gt_int q
theorem op_ge : OpR X (compareOp .GtE) (rI0 fun i j => .bl (decide (j ≤ i))) := opB0 fun _ _ _ _ _ _ _ q => ge_int q
theorem op_lt_str : OpR X (compareOp .Lt) (fun x y H Q => ∃ i j, x = .str i ∧ y = .str j ∧ Q (.bl (decide (i.cps.toList < j.cps.toList))) H) := by
  intro pins s σ H x y v u Q I rx ry h
  obtain ⟨i, j, rfl, rfl, q⟩ := h
  obtain ⟨t, rfl⟩ := rx
  obtain ⟨t', rfl⟩ := ry
  exact lt_str (fin_bl I q rfl)
/-- the one string within the other -/
theorem op_in_str : OpR X (compareOp .In) (fun x y H Q => ∃ i j, x = .str i ∧ y = .str j ∧ Q (.bl (!(Builtin.Str.occurrences j i 0 j.length 1).isEmpty)) H) := by
  intro pins s σ H x y v u Q I rx ry h
  obtain ⟨i, j, rfl, rfl, q⟩ := h
  obtain ⟨t, rfl⟩ := rx
  obtain ⟨t', rfl⟩ := ry
  exact in_str (fin_bl I q rfl)

/-- is None, is not None: the right side a value none -/
theorem op_isN : OpR X (compareOp .Is) (fun x y H Q => y = .non ∧ Q (.bl (decide (x = .non))) H) := by
  intro pins s σ H x y v u Q I rx ry h
  obtain ⟨rfl, q⟩ := h
  cases ry
  refine is_none_gen (fin_bl I q ?_)
  cases x <;> first
    | (cases rx; rfl)
    | (obtain ⟨t, rfl⟩ := rx; rfl)
theorem op_notN : OpR X (compareOp .IsNot) (fun x y H Q => y = .non ∧ Q (.bl (!decide (x = .non))) H) := by
  intro pins s σ H x y v u Q I rx ry h
  obtain ⟨rfl, q⟩ := h
  cases ry
  refine isnot_none_gen (fin_bl I q ?_)
  cases x <;> first
    | (cases rx; rfl)
    | (obtain ⟨t, rfl⟩ := rx; rfl)

theorem op_notin_str : OpR X (compareOp .NotIn) (fun x y H Q => ∃ i j, x = .str i ∧ y = .str j ∧ Q (.bl (!(!(Builtin.Str.occurrences j i 0 j.length 1).isEmpty))) H) := by
  intro pins s σ H x y v u Q I rx ry h
  obtain ⟨i, j, rfl, rfl, q⟩ := h
  obtain ⟨t, rfl⟩ := rx
  obtain ⟨t', rfl⟩ := ry
  exact notIn_str (fin_bl I q rfl)
/-- is, is not of two objects that are tracked lists or instances -/
def isObj : HO → Bool
  | .lst _ => true
  | .ins _ _ _ => true
  | _ => false
theorem obj_there {pins : List (Addr × Obj)} {s : Shared} {σ : St} {H : Hp} {a : Addr} {o : HO} (I : Inv X pins σ H s) (h : H a = some o) (p : isObj o = true) : ∃ ob, s.heap.get? a = some ob ∧ ob.cls ≠ .type "tuple" := by
  cases o with
  | lst xs =>
    obtain ⟨_, its, n, _, e⟩ : xs.length ≤ sizeLine ∧ ∃ (its : List Value) (n : Nat), Vals xs its ∧ s.heap.get? a = some { cls := .type "list", data := .seq its.toArray n } := I.hok a _ h
    exact ⟨_, e, (by show Value.type "list" ≠ .type "tuple"; decide +kernel)⟩
  | ins C dx fs =>
    have x := I.hok a _ h
    obtain ⟨_, _, _, e, _⟩ := x
    exact ⟨_, e, (by show Value.ref C ≠ .type "tuple"; exact fun z => by cases z)⟩
  | _ => exact absurd (show false = true from p) Bool.false_ne_true
theorem op_is_ref : OpR X (compareOp .Is) (fun x y H Q => ∃ a b oa ob, x = .ref a ∧ y = .ref b ∧ H a = some oa ∧ isObj oa = true ∧ H b = some ob ∧ isObj ob = true ∧ Q (.bl (decide (a = b))) H) := by
  intro pins s σ H x y v u Q I rx ry h
  obtain ⟨a, b, oa, ob, rfl, rfl, ha, pa, hb, pb, q⟩ := h
  cases rx
  cases ry
  obtain ⟨o1, e1, n1⟩ := obj_there I ha pa
  obtain ⟨o2, e2, _⟩ := obj_there I hb pb
  by_cases z : a = b
  · subst z
    exact wpAny_is_ref_self (fin_bl I q (by simp))
  · exact wpAny_is_ref_other z e1 e2 n1 (fin_bl I q (by simp [z]))
theorem op_isnot_ref : OpR X (compareOp .IsNot) (fun x y H Q => ∃ a b oa ob, x = .ref a ∧ y = .ref b ∧ H a = some oa ∧ isObj oa = true ∧ H b = some ob ∧ isObj ob = true ∧ Q (.bl (!decide (a = b))) H) := by
  intro pins s σ H x y v u Q I rx ry h
  obtain ⟨a, b, oa, ob, rfl, rfl, ha, pa, hb, pb, q⟩ := h
  cases rx
  cases ry
  obtain ⟨o1, e1, n1⟩ := obj_there I ha pa
  obtain ⟨o2, e2, _⟩ := obj_there I hb pb
  by_cases z : a = b
  · subst z
    exact wpAny_isNot_ref_self (fin_bl I q (by simp))
  · exact wpAny_isNot_ref_other z e1 e2 n1 (fin_bl I q (by simp [z]))

/-- two rules for one operation: by cases -/
theorem OpR.or {f : Value → Value → Sem Value} {r r' : R2} (h : OpR X f r) (h' : OpR X f r') : OpR X f (fun x y H Q => r x y H Q ∨ r' x y H Q) := by
  intro pins s σ H x y v u Q I rx ry q
  rcases q with q | q
  · exact h pins s σ H x y v u Q I rx ry q
  · exact h' pins s σ H x y v u Q I rx ry q

theorem nomark (b : Expr) {op : CmpOp} (h : op ≠ .In := by decide) (h2 : op ≠ .NotIn := by decide) : behindInMarks op b = false := by
  have e1 : (op == CmpOp.In) = false := by cases op <;> first | rfl | exact absurd rfl h
  have e2 : (op == CmpOp.NotIn) = false := by cases op <;> first | rfl | exact absurd rfl h2
  cases b <;> simp [behindInMarks, e1, e2]
/-- a comparison as a value; hm: nomark b, or (for in, not in) by with_unfolding_all rfl -/
theorem pe_cmpR {op : CmpOp} {r : R2} (ho : OpR X (compareOp op) r) (ha : PE X a ta) (hb : PE X b tb) (hm : behindInMarks op b = false) : PE X (.Compare a [op] [b] pos) (tOp r ta tb) := by
  intro pins s σ H Q I h
  exact wpAny_Compare1 (binT ha hb I h fun v u s2 x y H2 I2 rx ry q => ho pins s2 σ H2 x y v u Q I2 rx ry q) hm
/-- a reading of a value as a test -/
def tTest (t : TE) : TT := fun σ H Q => t σ H fun x H' => ∃ k, x = .bl k ∧ Q k H'
theorem pt_cmpR {op : CmpOp} {r : R2} (ho : OpR X (compareOp op) r) (ha : PE X a ta) (hb : PE X b tb) (hm : behindInMarks op b = false) : PT X (.Compare a [op] [b] pos) (tTest (tOp r ta tb)) := by
  intro pins s σ H Q I h
  refine wpAny_isTrue_Compare1 (thn (ha pins s σ H _ I h) fun v s1 ⟨x, H1, I1, r1, q1⟩ => thn (hb pins s1 σ H1 _ I1 q1) fun u s2 ⟨y, H2, I2, r2, q2⟩ =>
    thn (ho pins s2 σ H2 x y v u _ I2 r1 r2 q2) fun c s3 ⟨z, H3, I3, r3, k, e, q3⟩ => ?_) hm
  subst e
  cases r3
  exact wpAny_truthy_bool ⟨H3, I3, q3⟩
/-- a op1 b op2 c -/
def tChain (r r' : R2) (ta tb tc : TE) : TE := fun σ H Q => ta σ H fun x H1 => tb σ H1 fun y H2 => r x y H2 fun z H3 => ∃ k, z = .bl k ∧
  (if k = true then tc σ H3 fun w' H4 => r' y w' H4 Q else Q (.bl false) H3)
theorem pe_chain {op op' : CmpOp} {r r' : R2} (ho : OpR X (compareOp op) r) (ho' : OpR X (compareOp op') r') (ha : PE X a ta) (hb : PE X b tb) (hc : PE X c tc)
    (hm : lastMarks [op, op'] [b, c] = false := by with_unfolding_all rfl) : PE X (.Compare a [op, op'] [b, c] pos) (tChain r r' ta tb tc) := by
  intro pins s σ H Q I h
  refine Compare_chain (thn (ha pins s σ H _ I h) fun v s1 ⟨x, H1, I1, r1, q1⟩ => chain_link (thn (hb pins s1 σ H1 _ I1 q1) fun u s2 ⟨y, H2, I2, r2, q2⟩ =>
    thn (ho pins s2 σ H2 x y v u _ I2 r1 r2 q2) fun d s3 ⟨z, H3, I3, r3, k, e, q3⟩ => ?_)) hm
  subst e
  cases r3
  refine wpAny_truthy_bool ?_
  cases k with
  | false => exact ite_ff ⟨.bl false, H3, I3, rfl, q3⟩
  | true => exact ite_tt (chain_last (thn (hc pins s3 σ H3 _ I3 q3) fun w' s4 ⟨z', H4, I4, r4, q4⟩ => ho' pins s4 σ H4 y z' u w' Q I4 r2 r4 q4))
theorem pt_chain {op op' : CmpOp} {r r' : R2} (ho : OpR X (compareOp op) r) (ho' : OpR X (compareOp op') r') (ha : PE X a ta) (hb : PE X b tb) (hc : PE X c tc)
    (hm : lastMarks [op, op'] [b, c] = false := by with_unfolding_all rfl) : PT X (.Compare a [op, op'] [b, c] pos) (tTest (tChain r r' ta tb tc)) := by
  intro pins s σ H Q I h
  refine isTrue_chain (thn (ha pins s σ H _ I h) fun v s1 ⟨x, H1, I1, r1, q1⟩ => test_link (thn (hb pins s1 σ H1 _ I1 q1) fun u s2 ⟨y, H2, I2, r2, q2⟩ =>
    thn (ho pins s2 σ H2 x y v u _ I2 r1 r2 q2) fun d s3 ⟨z, H3, I3, r3, k, e, q3⟩ => ?_)) hm
  subst e
  cases r3
  refine wpAny_truthy_bool ?_
  cases k with
  | false =>
    obtain ⟨k', e', q'⟩ := q3
    cases e'
    exact ite_ff ⟨H3, I3, q'⟩
  | true =>
    refine ite_tt (test_last (thn (hc pins s3 σ H3 _ I3 q3) fun w' s4 ⟨z', H4, I4, r4, q4⟩ => thn (ho' pins s4 σ H4 y z' u w' _ I4 r2 r4 q4) fun d' s5 ⟨z2, H5, I5, r5, k2, e2, q5⟩ => ?_))
    subst e2
    cases r5
    exact wpAny_truthy_bool ⟨H5, I5, q5⟩

/-! ### truth -/
/-- a value's truth by the abstract heap -/
def TruV (K : PySem.W.Frag) (x : V) (H : Hp) (k : Bool) : Prop :=
  match x with
  | .non => k = false
  | .bl b => k = b
  | .int i => k = (i != 0)
  | .str y => y.length ≤ sizeLine ∧ k = ((y.length : Int) != 0)
  | .byt y => y.size ≤ sizeLine ∧ k = ((y.size : Int) != 0)
  | .ref p => (∃ xs, SqL K H p xs ∧ k = !xs.isEmpty) ∨ (∃ xs, SqT K H p xs ∧ k = !xs.isEmpty) ∨ ∃ kvs, H p = some (.dK kvs) ∧ k = !kvs.isEmpty
  | _ => False
theorem isEmpty_kv {κ : Type} {kvs : List (κ × V)} {vs : List (κ × Value)} (r : KV kvs vs) : (!vs.isEmpty) = !kvs.isEmpty := by
  cases r <;> rfl
theorem isEmpty_of {xs : List V} {its : List Value} (r : Vals xs its) : (!its.toArray.isEmpty) = !xs.isEmpty := by
  cases r <;> simp
theorem line63 : (sizeLine : Nat) < 2 ^ 63 := by rw [sizeLine_eq]; decide
theorem tru_ok : TruR X (fun x H Q => ∃ k, TruV X.K x H k ∧ Q k H) := by
  intro pins s σ H x v Q I rx h
  obtain ⟨k, e, q⟩ := h
  have hl := line63
  have hs : sizeLine = 16777216 := sizeLine_eq
  cases x with
  | non =>
    cases rx
    have e' : k = false := e
    subst e'
    exact truthy_none ⟨H, I, q⟩
  | bl b =>
    cases rx
    have e' : k = b := e
    subst e'
    exact wpAny_truthy_bool ⟨H, I, q⟩
  | int i =>
    obtain ⟨t, rfl⟩ := rx
    have e' : k = (i != 0) := e
    subst e'
    exact PySem.P.truthy_int ⟨H, I, q⟩
  | str y =>
    obtain ⟨t, rfl⟩ := rx
    obtain ⟨hy, e'⟩ : y.length ≤ sizeLine ∧ k = ((y.length : Int) != 0) := e
    subst e'
    exact PySem.P.truthy_str (by omega) ⟨H, I.tok _, q⟩
  | byt y =>
    obtain ⟨t, rfl⟩ := rx
    obtain ⟨hy, e'⟩ : y.size ≤ sizeLine ∧ k = ((y.size : Int) != 0) := e
    subst e'
    exact PySem.W.truthy_bytes (by omega) ⟨H, I.tok _, q⟩
  | ref p =>
    cases rx
    have e' : (∃ xs, SqL X.K H p xs ∧ k = !xs.isEmpty) ∨ (∃ xs, SqT X.K H p xs ∧ k = !xs.isEmpty) ∨ ∃ kvs, H p = some (.dK kvs) ∧ k = !kvs.isEmpty := e
    rcases e' with ⟨xs, hx, e'⟩ | ⟨xs, hx, e'⟩ | ⟨kvs, hx, e'⟩
    · subst e'
      obtain ⟨its, r, pl, hz⟩ := I.list hx
      have hlen := r.length
      exact wpAny_truthy_list pl.isList (by simp only [List.size_toArray]; omega) ⟨H, I.tok _, by rw [isEmpty_of r]; exact q⟩
    · subst e'
      obtain ⟨its, r, pl, hz⟩ := I.tuple hx
      have hlen := r.length
      exact truthy_tuple pl (by simp only [List.size_toArray]; omega) ⟨H, I.tok _, by rw [isEmpty_of r]; exact q⟩
    · subst e'
      obtain ⟨hz, hS, vs, r, m⟩ : kvs.length ≤ sizeLine ∧ (p == sysModules) = false ∧ ∃ vs, KV kvs vs ∧ s.heap.DictOf (mixKind X.prog X.w) p vs := I.hok p _ hx
      have hlen : kvs.length = vs.length := Paired.length r
      exact wpAny_truthy_dict hS m (by omega) ⟨H, I.tok _, by rw [isEmpty_kv r]; exact q⟩
  | _ => exact (show False from e).elim
/-- any expression whose test is its value's truth (a name, a call, a subscript, a field ..: he by fun _ => rfl) -/
theorem pt_truth (ha : PE X a ta) (he : ∀ whole, isTrue a X.env whole = (do let v ← whole; standAt a.pos; holding [v] (truthy v))) :
    PT X a (fun σ H Q => ta σ H fun x H' => ∃ k, TruV X.K x H' k ∧ Q k H') := by
  intro pins s σ H Q I h
  exact isTrue_plain (thn (ha pins s σ H _ I h) fun v s1 ⟨x, H1, I1, r1, q1⟩ => tru_ok pins s1 σ H1 x v Q I1 r1 q1) (he _)

/-! ### strs and bytes -/
theorem pe_byt {x : List UInt8} {k : Nat} : PE X (.Constant (.bytes x) k pos) (fun _ H Q => Q (.byt x.toArray) H) := fun _ _ _ H _ I h => PySem.W.Constant_bytes ⟨.byt x.toArray, H, I.tok _, ⟨_, rfl⟩, h⟩
theorem op_add_str : OpR X (binaryOp .Add) (fun x y H Q => ∃ i j, x = .str i ∧ y = .str j ∧ i.length + j.length ≤ sizeLine ∧ Q (.str (i ++ j)) H) := by
  intro pins s σ H x y v u Q I rx ry h
  obtain ⟨i, j, rfl, rfl, hz, q⟩ := h
  obtain ⟨t, rfl⟩ := rx
  obtain ⟨t', rfl⟩ := ry
  exact add_str (fun t' tk => ⟨.str (i ++ j), H, I.tok _, ⟨_, rfl⟩, q⟩) hz
theorem iop_add_str : OpR X (inplaceOp .Add) (fun x y H Q => ∃ i j, x = .str i ∧ y = .str j ∧ i.length + j.length ≤ sizeLine ∧ Q (.str (i ++ j)) H) := by
  intro pins s σ H x y v u Q I rx ry h
  obtain ⟨i, j, rfl, rfl, hz, q⟩ := h
  obtain ⟨t, rfl⟩ := rx
  obtain ⟨t', rfl⟩ := ry
  exact iadd_str (fun t' tk => ⟨.str (i ++ j), H, I.tok _, ⟨_, rfl⟩, q⟩) hz
theorem op_add_byt : OpR X (binaryOp .Add) (fun x y H Q => ∃ i j, x = .byt i ∧ y = .byt j ∧ i.size + j.size ≤ 16777216 ∧ Q (.byt (i ++ j)) H) := by
  intro pins s σ H x y v u Q I rx ry h
  obtain ⟨i, j, rfl, rfl, hz, q⟩ := h
  obtain ⟨t, rfl⟩ := rx
  obtain ⟨t', rfl⟩ := ry
  exact PySem.W.KBy.add_bytes hz (fun t' tk => ⟨.byt (i ++ j), H, I.tok _, ⟨_, rfl⟩, q⟩)

def PlainIxT (b : Expr) : Prop := ∀ o i, subscripted b false o i = operate [o, i] (getItem o i)
/-- s[i], 0 ≤ i < len -/
theorem pe_item_str (ha : PE X a ta) (hb : PE X b tb) (hs : PlainIxT b) :
    PE X (.Subscript a b pos) (tOp (fun x y H Q => ∃ z i c, x = .str z ∧ y = .int i ∧ 0 ≤ i ∧ i < 2 ^ 63 ∧ i < z.length ∧ z.cps[i.toNat]? = some c ∧ Q (.str ⟨#[c]⟩) H) ta tb) := by
  intro pins s σ H Q I h
  refine Subscript_ (binT ha hb I h fun v u s2 x y H2 I2 rx ry q => ?_)
  obtain ⟨z, i, c, rfl, rfl, h0, h63, h1, hc, q⟩ := q
  obtain ⟨t, rfl⟩ := rx
  obtain ⟨t', rfl⟩ := ry
  have e : seqIndex? i z.length = some i.toNat := PySem.StrLaws.seqIndex_nonneg h0 h1
  exact tail_any (typeIs_str s2 z t) slot_str_getitem.lookup (getItem_str (c := c) (by
    have e1 : decide (i < -(2 ^ 63 : Int)) = false := decide_eq_false (by omega)
    have e2 : decide (i ≥ 2 ^ 63) = false := decide_eq_false (by omega)
    rw [e1, e2] <;> rfl) (by rw [e]; exact hc) ⟨.str ⟨#[c]⟩, H2, I2.tok _, ⟨_, rfl⟩, q⟩) (hs _ _)
/-- b[i], 0 ≤ i < len -/
theorem pe_item_byt (ha : PE X a ta) (hb : PE X b tb) (hs : PlainIxT b) :
    PE X (.Subscript a b pos) (tOp (fun x y H Q => ∃ (z : List UInt8) (i : Int), x = .byt z.toArray ∧ y = .int i ∧ z.length ≤ sizeLine ∧ 0 ≤ i ∧ i < z.length ∧ Q (.int ((z.getD i.toNat 0).toNat : Nat)) H) ta tb) := by
  intro pins s σ H Q I h
  refine Subscript_ (binT ha hb I h fun v u s2 x y H2 I2 rx ry q => ?_)
  obtain ⟨z, i, rfl, rfl, hz, h0, h1, q⟩ := q
  obtain ⟨t, rfl⟩ := rx
  obtain ⟨t', rfl⟩ := ry
  have hl : sizeLine = 16777216 := sizeLine_eq
  exact tail_any (PySem.W.typeIs_bytes s2 z.toArray t) PySem.W.FB.slot_bytes_getitem.lookup (PySem.W.getItem_bytes (by omega) h0 h1 ⟨.int ((z.getD i.toNat 0).toNat : Nat), H2, I2.tok _, ⟨_, rfl⟩, q⟩) (hs _ _)

/-! ### scalar builtins, by CallR -/
theorem vals1 {x : V} {us : List Value} (r : Vals [x] us) : ∃ u, us = [u] ∧ RelV x u := by
  cases r with
  | cons r1 r2 => cases r2; exact ⟨_, rfl, r1⟩
theorem vals2 {x y : V} {us : List Value} (r : Vals [x, y] us) : ∃ u w', us = [u, w'] ∧ RelV x u ∧ RelV y w' := by
  cases r with
  | cons r1 r2 =>
    cases r2 with
    | cons r3 r4 => cases r4; exact ⟨_, _, rfl, r1, r3⟩
theorem call_abs : CallR X (.builtin "abs") (fun xs H Q => ∃ i, xs = [.int i] ∧ Q (.int (if i < 0 then -i else i)) H) := by
  intro pins s σ H xs us Q I r h
  obtain ⟨i, rfl, q⟩ := h
  obtain ⟨u, rfl, t, rfl⟩ := vals1 r
  exact call_abs_int fun u tk => ⟨.int (if i < 0 then -i else i), H, I.tok _, ⟨_, rfl⟩, q⟩
theorem call_max2 (hc : X.calm = true) : CallR X (.builtin "max") (fun xs H Q => ∃ i j, xs = [.int i, .int j] ∧ Q (.int (if j > i then j else i)) H) := by
  intro pins s σ H xs us Q I r h
  obtain ⟨i, j, rfl, q⟩ := h
  obtain ⟨u, w', rfl, ⟨t, rfl⟩, ⟨t', rfl⟩⟩ := vals2 r
  refine max_two_ints (I.ok.hd hc) fun h' tk k => ⟨_, H, I.kept k, ?_, q⟩
  by_cases hj : j > i
  · rw [if_pos hj, if_pos hj]; exact ⟨_, rfl⟩
  · rw [if_neg hj, if_neg hj]; exact ⟨_, rfl⟩
theorem call_min2 (hc : X.calm = true) : CallR X (.builtin "min") (fun xs H Q => ∃ i j, xs = [.int i, .int j] ∧ Q (.int (if j < i then j else i)) H) := by
  intro pins s σ H xs us Q I r h
  obtain ⟨i, j, rfl, q⟩ := h
  obtain ⟨u, w', rfl, ⟨t, rfl⟩, ⟨t', rfl⟩⟩ := vals2 r
  refine min_two_ints (I.ok.hd hc) fun h' tk k => ⟨_, H, I.kept k, ?_, q⟩
  by_cases hj : j < i
  · rw [if_pos hj, if_pos hj]; exact ⟨_, rfl⟩
  · rw [if_neg hj, if_neg hj]; exact ⟨_, rfl⟩
theorem call_int1 : CallR X (.type "int") (fun xs H Q => (∃ i, xs = [.int i] ∧ Q (.int i) H) ∨ ∃ k, xs = [.bl k] ∧ Q (.int (if k then 1 else 0)) H) := by
  intro pins s σ H xs us Q I r h
  rcases h with ⟨i, rfl, q⟩ | ⟨k, rfl, q⟩
  · obtain ⟨u, rfl, t, rfl⟩ := vals1 r
    exact call_int_int ⟨.int i, H, I, ⟨_, rfl⟩, q⟩
  · obtain ⟨u, rfl, r1⟩ := vals1 r
    cases r1
    exact call_int_bool ⟨.int (if k then 1 else 0), H, I.tok _, ⟨_, rfl⟩, q⟩
theorem call_bool1 : CallR X (.type "bool") (fun xs H Q => (∃ i, xs = [.int i] ∧ Q (.bl (i != 0)) H) ∨ ∃ k, xs = [.bl k] ∧ Q (.bl k) H) := by
  intro pins s σ H xs us Q I r h
  rcases h with ⟨i, rfl, q⟩ | ⟨k, rfl, q⟩
  · obtain ⟨u, rfl, t, rfl⟩ := vals1 r
    exact call_bool_int ⟨.bl (i != 0), H, I, rfl, q⟩
  · obtain ⟨u, rfl, r1⟩ := vals1 r
    cases r1
    exact call_bool_bool ⟨.bl k, H, I, rfl, q⟩
theorem call_str_int : CallR X (.type "str") (fun xs H Q => ∃ i, xs = [.int i] ∧ i.natAbs.log2 < 1920 ∧ Q (.str (toString i)) H) := by
  intro pins s σ H xs us Q I r h
  obtain ⟨i, rfl, hz, q⟩ := h
  obtain ⟨u, rfl, t, rfl⟩ := vals1 r
  exact PySem.P.str_of_int hz ⟨.str _, H, I.tok _, ⟨_, rfl⟩, q⟩
theorem call_ord : CallR X (.builtin "ord") (fun xs H Q => ∃ x, xs = [.str x] ∧ x.length = 1 ∧ Q (.int (x.cps.getD 0 0 : Nat)) H) := by
  intro pins s σ H xs us Q I r h
  obtain ⟨x, rfl, hz, q⟩ := h
  obtain ⟨u, rfl, t, rfl⟩ := vals1 r
  exact ord_of_one hz ⟨.int _, H, I.tok _, ⟨_, rfl⟩, q⟩
theorem call_chr : CallR X (.builtin "chr") (fun xs H Q => ∃ i, xs = [.int i] ∧ 0 ≤ i ∧ i ≤ 1114111 ∧ Q (.str ⟨#[i.toNat]⟩) H) := by
  intro pins s σ H xs us Q I r h
  obtain ⟨i, rfl, h0, h1, q⟩ := h
  obtain ⟨u, rfl, t, rfl⟩ := vals1 r
  exact chr_of_range h0 h1 ⟨.str _, H, I.tok _, ⟨_, rfl⟩, q⟩
/-- len of a str, a bytes, a list, a tuple -/
def LenV (K : PySem.W.Frag) (x : V) (H : Hp) (n : Nat) : Prop :=
  match x with
  | .str y => y.length ≤ sizeLine ∧ n = y.length
  | .byt y => y.size ≤ sizeLine ∧ n = y.size
  | .ref p => (∃ xs, SqL K H p xs ∧ n = xs.length) ∨ ∃ xs, SqT K H p xs ∧ n = xs.length
  | _ => False
theorem call_len : CallR X (.builtin "len") (fun xs H Q => ∃ x n, xs = [x] ∧ LenV X.K x H n ∧ Q (.int n) H) := by
  intro pins s σ H xs us Q I r h
  obtain ⟨x, n, rfl, e, q⟩ := h
  obtain ⟨u, rfl, rx⟩ := vals1 r
  have hl := line63
  have hs : sizeLine = 16777216 := sizeLine_eq
  cases x with
  | str y =>
    obtain ⟨t, rfl⟩ := rx
    obtain ⟨hy, e'⟩ : y.length ≤ sizeLine ∧ n = y.length := e
    subst e'
    exact len_str (by omega) ⟨.int _, H, I.tok _, ⟨_, rfl⟩, q⟩
  | byt y =>
    obtain ⟨t, rfl⟩ := rx
    obtain ⟨hy, e'⟩ : y.size ≤ sizeLine ∧ n = y.size := e
    subst e'
    exact PySem.W.len_bytes (by omega) ⟨.int _, H, I.tok _, ⟨_, rfl⟩, q⟩
  | ref p =>
    cases rx
    have e' : (∃ xs, SqL X.K H p xs ∧ n = xs.length) ∨ ∃ xs, SqT X.K H p xs ∧ n = xs.length := e
    rcases e' with ⟨xs, hx, e'⟩ | ⟨xs, hx, e'⟩
    · subst e'
      obtain ⟨its, r', pl, hz⟩ := I.list hx
      have hlen := r'.length
      exact Calls.call_len_list pl.isList (by simp only [List.size_toArray]; omega) ⟨.int xs.length, H, I.tok _, ⟨_, by simp only [List.size_toArray]; rw [hlen]⟩, q⟩
    · subst e'
      obtain ⟨its, r', pl, hz⟩ := I.tuple hx
      have hlen := r'.length
      exact len_tuple pl (by simp only [List.size_toArray]; omega) ⟨.int xs.length, H, I.tok _, ⟨_, by simp only [List.size_toArray]; rw [hlen]⟩, q⟩
  | _ => exact (show False from e).elim
/-- divmod: a new tuple -/
theorem call_divmod : CallR X (.builtin "divmod") (fun xs H Q => ∃ i j, xs = [.int i, .int j] ∧ CDiv i j ∧ ∀ p, H p = none → Q (.ref p) (upd H p (.tup [.int (i / j), .int (i % j)]))) := by
  intro pins s σ H xs us Q I r h
  obtain ⟨i, j, rfl, ⟨h1, h2⟩, q⟩ := h
  obtain ⟨u, w', rfl, ⟨t, rfl⟩, ⟨t', rfl⟩⟩ := vals2 r
  refine divmod_int (by omega) ?_ (.inl (PyProof.noPylong_small (by omega)))
  rw [Int.fdiv_eq_ediv_of_nonneg i (by omega), Int.fmod_eq_emod_of_nonneg i (by omega)]
  have hn : H s.heap.objs.size = none := I.hok.fresh (Nat.le_refl _)
  refine ⟨.ref s.heap.objs.size, _, ?_, rfl, q _ hn⟩
  refine I.laid (fun b o e => Heap.get?_push_of_some _ e) (Nat.le_refl _) ⟨by simp only [List.length_cons, List.length_nil]; rw [sizeLine_eq]; decide, [.int (i / j) s.toks, .int (i % j) (s.toks + 1)], .cons ⟨_, rfl⟩ (.cons ⟨_, rfl⟩ .nil), ?_⟩
  exact ⟨_, Heap.get?_push_size s.heap rfl, rfl, 0, rfl⟩
end
end L2

namespace L2
open PySem PySem.Spec PyProof.Rows

/-! ### an instance, its attributes a map -/
structure ObjM (h : Heap) (x dx C : Addr) (mA : Str → Option Value) : Prop where
  obj : h.get? x = some (PySem.W.instObj C dx)
  ns : h.Ns1 dx mA
  ne : dx ≠ x

theorem lookIn_ns {h : Heap} {dx : Addr} {mA : Str → Option Value} (n : h.Ns1 dx mA) : ∃ od, h.get? dx = some od ∧ ∀ name, PySem.W.lookIn name od = some (mA name) := by
  obtain ⟨o, es, ep, ho, hd, hk, _, hm⟩ := n
  refine ⟨o, ho, fun name => ?_⟩
  have e := hm name
  unfold nsFind findBy at e
  rw [← Array.find?_toList] at e
  unfold PySem.W.lookIn
  rw [hd]
  dsimp only
  split
  · rename_i y q
    rw [q] at e
    exact congrArg some e
  · rename_i q
    rw [q] at e
    have a : es.toList.any (·.refKey) = false := by
      rw [List.any_eq_false]
      intro y hy
      obtain ⟨z, t, hkey⟩ := hk y (Array.mem_toList_iff.mp hy)
      simp [DictEntry.refKey, hkey]
    have a' : ¬ es.toList.any (·.refKey) = true := by rw [a]; exact Bool.false_ne_true
    rw [if_neg a']
    exact congrArg some e

theorem ObjM.look {h : Heap} {x dx C : Addr} {mA : Str → Option Value} (I : ObjM h x dx C mA) : ∃ od, PySem.W.InstAt h x (PySem.W.instObj C dx) C (some od) ∧ ∀ name, PySem.W.lookIn name od = some (mA name) :=
  let ⟨od, ho, hl⟩ := lookIn_ns I.ns
  ⟨od, ⟨I.obj, rfl, rfl, ho⟩, hl⟩

section
variable {prog : Program} {w : World} {A : Around} {E : Value → Shared → Prop} {s : Shared} {K : PySem.W.Frag} {x dx C f : Addr} {mA : Str → Option Value} {name : Str} {v : Value}

theorem get_map {expr : Bool} {Q : Value → Shared → Prop} (X : K.In s.heap) (I : ObjM s.heap x dx C mA) (hg : PySem.W.plainGet K C name = true) (hh : PySem.W.hasDictIn K C = true)
    (ha : PySem.W.findIn K (.ref C) name = some none) (hv : mA name = some v) (hv' : PySem.W.handedIn v = true) (h : Q v { s with toks := s.toks + 1 }) :
    wpAny (model prog w) A (getAttr (.ref x) name expr) Q E s := by
  obtain ⟨od, J, hl⟩ := I.look
  exact PySem.W.get_value X J (PySem.W.plainGet_of hg).1 (PySem.W.findObj_own hh ha rfl (by rw [hl, hv])) hv' h

theorem get_const {expr : Bool} {a : Value} {Q : Value → Shared → Prop} (X : K.In s.heap) (I : ObjM s.heap x dx C mA) (hg : PySem.W.plainGet K C name = true) (hh : PySem.W.hasDictIn K C = true)
    (ha : PySem.W.findIn K (.ref C) name = some (some a)) (hn : PySem.W.specialIn K a "__get__" = some none) (hc : PySem.W.copiedNames.contains name = false) (hv : mA name = none) (hv' : PySem.W.handedIn a = true)
    (h : Q a { s with toks := s.toks + 1 }) : wpAny (model prog w) A (getAttr (.ref x) name expr) Q E s := by
  obtain ⟨od, J, hl⟩ := I.look
  exact PySem.W.get_value X J (PySem.W.plainGet_of hg).1 (PySem.W.findObj_cls hh ha hn hv' hc (by rw [hl, hv])) hv' h

theorem get_meth {pl : Sem Bool} {Q : Value × List Value → Shared → Prop} (X : K.In s.heap) (I : ObjM s.heap x dx C mA) (hg : PySem.W.plainGet K C name = true)
    (hf : PySem.W.findIn K (.ref C) name = some (some (.ref f))) (ht : PySem.W.isFn K (.ref f) = true) (hv : mA name = none) (h : Q (.ref f, [.ref x]) s) :
    wpAny (model prog w) A (getMethod (.ref x) name pl) Q E s := by
  obtain ⟨od, J, hl⟩ := I.look
  exact PySem.W.method_fn X J (PySem.W.plainGet_of hg).1 (PySem.W.plainGet_of hg).2 hf (beq_iff_eq.mp ht) (by show (PySem.W.lookIn name od).map (·.isSome) = some false; rw [hl, hv]; rfl) h

theorem set_map {ns : List Str} {Q : Unit → Shared → Prop} (X : K.In s.heap) (I : ObjM s.heap x dx C mA)
    (hs : PySem.W.findIn K (.ref C) "__setattr__" = some (some (.builtin "object.__setattr__"))) (hp : PySem.W.plainOver K C = true) (ht : PySem.W.takerIn K C name = some none) (hh : PySem.W.hasDictIn K C = true)
    (hw : PySem.Within mA ns) (hsz : ns.length ≤ sizeLine)
    (h : ∀ h', ObjM h' x dx C (fun y => if y = name then some v else mA y) → Heap.SameBut dx s.heap h' → Q () { s with heap := h', toks := s.toks + 2 }) :
    wpAny (model prog w) A (setAttr (.ref x) name v) Q E s := by
  obtain ⟨od, J, hl⟩ := I.look
  refine PySem.W.set_plain X J hs (PySem.W.osa_open (s := { s with toks := s.toks + 1 }) (r := none) X J hp ht fun b => ?_)
  obtain ⟨cd, hc, hd'⟩ := PySem.W.any_some hh
  have hx : s.heap.get? x = some ⟨.ref C, some dx, .plain, #[]⟩ := I.obj
  refine wpAny_bind (wpAny_pure (wpAny_bind (wpAny_bind (wpAny_loadPart hx (wpAny_bind (PySem.W.Looks.here (s := { s with toks := s.toks + 1 }) (PySem.W.looks_clsIn X hc) ?_))))))
  rw [hd']
  refine wpAny_pure (a := some dx) (wpAny_bind (wpAny_pure (wpAny_bind ?_)))
  refine wpAny_nsSet1 (s := { s with toks := s.toks + 1 }) I.ns fun h' hn2 hs2 => ?_
  obtain ⟨oD, esD, epD, hoD, hdD, hcD⟩ := hn2.count (PySem.Within.cons name v hw)
  refine wpAny_bind (wpAny_lookBehind hoD (by rw [hdD]; exact pastItsLine_dict (Nat.le_trans hcD (by rw [List.length_cons]; omega))) ?_)
  exact wpAny_pure (h _ ⟨(hs2.2 _ (Ne.symm I.ne)).trans I.obj, hn2, I.ne⟩ hs2)

/-- C(..): the dict at the heap's end, the instance behind it; then its __init__ -/
theorem make_map {R : Result → Shared → Prop} {vs : List Value} {kw : List (Str × Value)} (X : K.In s.heap) (hm : PySem.W.makesIn K C = true)
    (hi : PySem.W.findIn K (.ref C) "__init__" = some (some (.ref f))) (hf : PySem.W.typeIn K (.ref f) = some (.type "function"))
    (h : codeAny (model prog w) (A.under (.builtin "type.__call__" ⟨.ref C :: vs, kw⟩)) (.call (.ref f) ⟨.ref (s.heap.objs.size + 1) :: vs, kw⟩) (PySem.W.InitBack (s.heap.objs.size + 1) R)
      { s with heap := (s.heap.push PySem.W.emptyDict).push (PySem.W.instObj C s.heap.objs.size) }) :
    codeAny (model prog w) A (.call (.ref C) ⟨vs, kw⟩) R s := by
  obtain ⟨hh, g, d, t, os⟩ := s
  exact PySem.W.make_core (PySem.W.makes_of X hm) (PySem.W.looks_findIn X hi) (fun self => PySem.W.bind_fn X self hf) (.inl rfl) h
/-- C() where there is no __init__ but object's -/
theorem make_map0 {R : Result → Shared → Prop} (X : K.In s.heap) (hm : PySem.W.makesIn K C = true)
    (hi : PySem.W.findIn K (.ref C) "__init__" = some (some (.builtin "object.__init__")))
    (hb : ∀ self, PySem.W.Looks (model prog w) s.heap (bindSpecial (.builtin "object.__init__") self) (.builtin "object.__init__", [self]))
    (h : codeAny (model prog w) (A.under (.builtin "type.__call__" ⟨[.ref C], []⟩)) (.call (.builtin "object.__init__") ⟨[.ref (s.heap.objs.size + 1)], []⟩) (PySem.W.InitBack (s.heap.objs.size + 1) R)
      { s with heap := (s.heap.push PySem.W.emptyDict).push (PySem.W.instObj C s.heap.objs.size) }) :
    codeAny (model prog w) A (.call (.ref C) ⟨[], []⟩) R s := by
  obtain ⟨hh, g, d, t, os⟩ := s
  exact PySem.W.make_core (PySem.W.makes_of X hm) (PySem.W.looks_findIn X hi) hb (.inr ⟨rfl, rfl⟩) h
end

/-! ### the attributes as a list of pairs -/
def putF (f : Str) (v : V) : List (Str × V) → List (Str × V)
  | [] => [(f, v)]
  | (g, x) :: r => if g = f then (g, v) :: r else (g, x) :: putF f v r
theorem lookup_putF (f g : Str) (v : V) : ∀ fs : List (Str × V), (putF f v fs).lookup g = if g = f then some v else fs.lookup g
  | [] => by
    show List.lookup g [(f, v)] = _
    by_cases h : g = f
    · have hb : (g == f) = true := beq_iff_eq.mpr h
      simp only [List.lookup, hb, if_pos h]
    · have hb : (g == f) = false := beq_eq_false_iff_ne.mpr h
      simp only [List.lookup, hb, if_neg h]
  | (k, x) :: r => by
    have ih := lookup_putF f g v r
    rw [show putF f v ((k, x) :: r) = (if k = f then (k, v) :: r else (k, x) :: putF f v r) from rfl]
    by_cases hk : k = f
    · rw [if_pos hk]
      by_cases h : g = k
      · have hb : (g == k) = true := beq_iff_eq.mpr h
        simp only [List.lookup, hb, if_pos (h.trans hk)]
      · have hb : (g == k) = false := beq_eq_false_iff_ne.mpr h
        simp only [List.lookup, hb, if_neg (fun e : g = f => h (e.trans hk.symm))]
    · rw [if_neg hk]
      by_cases h : g = k
      · have hb : (g == k) = true := beq_iff_eq.mpr h
        simp only [List.lookup, hb, if_neg (fun e : g = f => hk (h.symm.trans e))]
      · have hb : (g == k) = false := beq_eq_false_iff_ne.mpr h
        simp only [List.lookup, hb]
        exact ih
theorem keys_putF (f : Str) (v : V) : ∀ fs : List (Str × V), f ∈ (putF f v fs).map (·.1) ∧ ∀ g, g ∈ fs.map (·.1) → g ∈ (putF f v fs).map (·.1)
  | [] => ⟨by simp [putF], fun g h => by simp at h⟩
  | (k, x) :: r => by
    obtain ⟨i1, i2⟩ := keys_putF f v r
    rw [show putF f v ((k, x) :: r) = (if k = f then (k, v) :: r else (k, x) :: putF f v r) from rfl]
    by_cases hk : k = f
    · rw [if_pos hk]
      subst hk
      exact ⟨by simp, fun g h => by simpa using h⟩
    · rw [if_neg hk]
      refine ⟨?_, fun g h => ?_⟩
      · rw [List.map_cons]
        exact List.mem_cons_of_mem _ i1
      · rw [List.map_cons] at h ⊢
        rcases List.mem_cons.mp h with e | e
        · exact List.mem_cons.mpr (.inl e)
        · exact List.mem_cons_of_mem _ (i2 g e)
theorem length_putF (f : Str) (v : V) : ∀ fs : List (Str × V), (putF f v fs).length ≤ fs.length + 1
  | [] => by simp [putF]
  | (k, x) :: r => by
    have ih := length_putF f v r
    rw [show putF f v ((k, x) :: r) = (if k = f then (k, v) :: r else (k, x) :: putF f v r) from rfl]
    by_cases hk : k = f
    · rw [if_pos hk, List.length_cons, List.length_cons]; omega
    · rw [if_neg hk, List.length_cons, List.length_cons]; omega

theorem RelO.some_of {v : V} {o : Option Value} (r : RelO (some v) o) : ∃ u, o = some u ∧ RelV v u := by
  cases o with
  | none => exact (show False from r).elim
  | some u => exact ⟨u, rfl, r⟩
theorem RelO.none_of {o : Option Value} (r : RelO none o) : o = none := by
  cases o with
  | none => rfl
  | some u => exact (show False from r).elim
theorem handed_of {v : V} {u : Value} (r : RelV v u) : PySem.W.handedIn u = true := by
  cases v with
  | non => cases (show u = Value.none from r); rfl
  | bl b => cases (show u = Value.bool b from r); rfl
  | int i => obtain ⟨t, e⟩ := (show ∃ t, u = Value.int i t from r); cases e; rfl
  | str x => obtain ⟨t, e⟩ := (show ∃ t, u = Value.str x t from r); cases e; rfl
  | byt b => obtain ⟨t, e⟩ := (show ∃ t, u = Value.bytes b t from r); cases e; rfl
  | flt b => obtain ⟨t, e⟩ := (show ∃ t, u = Value.float b t from r); cases e; rfl
  | ref a => cases (show u = Value.ref a from r); rfl
  | ty n => cases (show u = Value.type n from r); rfl

section
variable {P : Program} {w : World} {H H' : Hp} {h h' : Heap} {a C dx : Addr} {fs fs' : List (Str × V)}
theorem ins_get (hok : HOk P w H h) (e : H a = some (.ins C dx fs)) : ∃ mA, ObjM h a dx C mA ∧ (∀ f, RelO (fs.lookup f) (mA f)) ∧ PySem.Within mA (fs.map (·.1)) ∧ fs.length ≤ 1000 ∧ H dx = some (.own a) := by
  obtain ⟨d, z, ne, ob, mA, n, r, q⟩ := (show ObjOk P w H h a (.ins C dx fs) from hok a _ e)
  exact ⟨mA, ⟨ob, n, ne⟩, r, q, z, d⟩
end

/-! ### what of the text a class must have -/
structure Cls (K : PySem.W.Frag) (C : Addr) : Prop where
  pg : PySem.W.plainGet K C Str.empty = true
  hd : PySem.W.hasDictIn K C = true
  po : PySem.W.plainOver K C = true
  sa : PySem.W.findIn K (.ref C) "__setattr__" = some (some (.builtin "object.__setattr__"))
theorem Cls.get {K : PySem.W.Frag} {C : Addr} (c : Cls K C) (f : Str) : PySem.W.plainGet K C f = true := c.pg
/-- no class of it has the name -/
def NoAttr (K : PySem.W.Frag) (C : Addr) (f : Str) : Prop := PySem.W.findIn K (.ref C) f = some none
theorem NoAttr.taker {K : PySem.W.Frag} {C : Addr} {f : Str} (n : NoAttr K C f) : PySem.W.takerIn K C f = some none := by
  unfold PySem.W.takerIn
  rw [show PySem.W.findIn K (.ref C) f = some none from n]
  rfl
/-- a constant of the class -/
structure Con (K : PySem.W.Frag) (C : Addr) (f : Str) (v : V) (u : Value) : Prop where
  at_ : PySem.W.findIn K (.ref C) f = some (some u)
  rel : RelV v u
  get : PySem.W.specialIn K u "__get__" = some none
  cp : PySem.W.copiedNames.contains f = false
/-- a method: a plain def of the class or of one above it -/
structure Meth (K : PySem.W.Frag) (C : Addr) (m : Str) (f : Addr) : Prop where
  at_ : PySem.W.findIn K (.ref C) m = some (some (.ref f))
  fn : PySem.W.isFn K (.ref f) = true
  kp : PySem.W.keepIn K (.ref f) = true

section
variable {X : Cx} {pins : List (Addr × Obj)} {σ : St} {H : Hp} {s : Shared} {a C dx : Addr} {fs : List (Str × V)} {f : Str} {v : V} {A : Around} {E : Value → Shared → Prop}

theorem getattr_ok {b : Bool} {Q : Value → Shared → Prop} (I : Inv X pins σ H s) (e : H a = some (.ins C dx fs)) (c : Cls X.K C) (n : NoAttr X.K C f) (l : fs.lookup f = some v)
    (h : ∀ u s', Inv X pins σ H s' → RelV v u → Q u s') : wpAny (model X.prog X.w) A (getAttr (.ref a) f b) Q E s := by
  obtain ⟨mA, O, r, _, _, _⟩ := ins_get I.hok e
  obtain ⟨u, hu, ru⟩ := RelO.some_of (v := v) (o := mA f) (by rw [← l]; exact r f)
  exact get_map I.kIn O (c.get f) c.hd n hu (handed_of ru) (h u _ (I.tok _) ru)

theorem getcon_ok {b : Bool} {u : Value} {Q : Value → Shared → Prop} (I : Inv X pins σ H s) (e : H a = some (.ins C dx fs)) (c : Cls X.K C) (k : Con X.K C f v u) (l : fs.lookup f = none)
    (h : ∀ s', Inv X pins σ H s' → Q u s') : wpAny (model X.prog X.w) A (getAttr (.ref a) f b) Q E s := by
  obtain ⟨mA, O, r, _, _, _⟩ := ins_get I.hok e
  have hn : mA f = none := RelO.none_of (by rw [← l]; exact r f)
  exact get_const I.kIn O (c.get f) c.hd k.at_ k.get k.cp hn (handed_of k.rel) (h _ (I.tok _))

theorem getmeth_ok {m : Str} {g : Addr} {pl : Sem Bool} {Q : Value × List Value → Shared → Prop} (I : Inv X pins σ H s) (e : H a = some (.ins C dx fs)) (c : Cls X.K C) (k : Meth X.K C m g) (l : fs.lookup m = none)
    (h : Q (.ref g, [.ref a]) s) : wpAny (model X.prog X.w) A (getMethod (.ref a) m pl) Q E s := by
  obtain ⟨mA, O, r, _, _, _⟩ := ins_get I.hok e
  have hn : mA m = none := RelO.none_of (by rw [← l]; exact r m)
  exact get_meth I.kIn O (c.get m) k.at_ k.fn hn h

theorem setattr_ok {y : V} {u : Value} {Q : Unit → Shared → Prop} (I : Inv X pins σ H s) (e : H a = some (.ins C dx fs)) (c : Cls X.K C) (n : NoAttr X.K C f) (hl : fs.length < 1000) (ry : RelV y u)
    (h : ∀ s', Inv X pins σ (upd H a (.ins C dx (putF f y fs))) s' → Q () s') : wpAny (model X.prog X.w) A (setAttr (.ref a) f u) Q E s := by
  obtain ⟨mA, O, r, wi, _, ho⟩ := ins_get I.hok e
  have hz : (fs.map (·.1)).length ≤ sizeLine := by rw [List.length_map, sizeLine_eq]; omega
  refine set_map I.kIn O c.sa c.po n.taker c.hd wi hz fun h' O' sb => h _ ?_
  have hd : ∃ o, h'.get? dx = some o := let ⟨o, _, _, e', _⟩ := O'.ns; ⟨o, e'⟩
  refine I.write (x := a) (e := dx) (by rw [e]; exact True.intro) (.inr ho) (fun b q hb z => (sb.2 b hb).trans z) hd ?_
  refine ⟨by rw [upd_ne O.ne]; exact ho, ?_, O.ne, O'.obj, _, O'.ns, fun g => ?_, fun g hg => ?_⟩
  · have := length_putF f y fs; omega
  · show RelO ((putF f y fs).lookup g) (if g = f then some u else mA g)
    rw [lookup_putF]
    by_cases q : g = f
    · rw [if_pos q, if_pos q]; exact ry
    · rw [if_neg q, if_neg q]; exact r g
  · by_cases q : g = f
    · rw [q]; exact (keys_putF f y fs).1
    · refine (keys_putF f y fs).2 g (wi g fun z => hg ?_)
      show (if g = f then some u else mA g) = none
      rw [if_neg q]; exact z

/-- a new instance, tracked, without attributes -/
theorem Inv.made (I : Inv X pins σ H s) : Inv X pins σ (upd (upd H s.heap.objs.size (.own (s.heap.objs.size + 1))) (s.heap.objs.size + 1) (.ins C s.heap.objs.size []))
    { s with heap := (s.heap.push PySem.W.emptyDict).push (PySem.W.instObj C s.heap.objs.size) } := by
  have e1 : (s.heap.push PySem.W.emptyDict).get? s.heap.objs.size = some PySem.W.emptyDict := Heap.get?_push_size s.heap rfl
  have e2 : ((s.heap.push PySem.W.emptyDict).push (PySem.W.instObj C s.heap.objs.size)).get? (s.heap.objs.size + 1) = some (PySem.W.instObj C s.heap.objs.size) := by
    have := Heap.get?_push_size (s.heap.push PySem.W.emptyDict) (o := PySem.W.instObj C s.heap.objs.size) rfl
    rwa [Heap.size_push] at this
  have e3 : (s.heap.push PySem.W.emptyDict).Ns s.heap.objs.size (fun _ => none) := ⟨PySem.W.emptyDict, #[], _, e1, rfl, (fun e he => absurd he (by simp)), fun _ => rfl⟩
  have I1 := I.laid (a := s.heap.objs.size) (o := .own (s.heap.objs.size + 1)) (h' := s.heap.push PySem.W.emptyDict) (t' := s.toks) (fun b u q => Heap.get?_push_of_some _ q) (Nat.le_refl _) ⟨_, e1⟩
  refine I1.laid (a := s.heap.objs.size + 1) (o := .ins C s.heap.objs.size []) (t' := s.toks) (fun b u q => Heap.get?_push_of_some _ q) (Nat.le_of_eq (Heap.size_push _ _)) ?_
  have ne : s.heap.objs.size ≠ s.heap.objs.size + 1 := Nat.ne_of_lt (Nat.lt_succ_self _)
  refine ⟨by rw [upd_ne ne, upd_same], Nat.zero_le _, ne, e2, fun _ => none, (Heap.Ns1.of_empty e3).at fun o q => Heap.get?_push_of_some _ q, fun _ => True.intro, fun y hy => absurd rfl hy⟩

/-- e.f where nothing but the object is asked: through attributeBase (super) and the last hold -/
theorem attr_of {prog : Program} {w : World} {env : Env} {e : Expr} {f : Str} {pos : Pos} {s : Shared} {Q : Value → Shared → Prop} (hb : attributeBase e f env (eval e env) = eval e env)
    (h : wpAny (model prog w) A (eval e env) (fun o s₁ => wpAny (model prog w) A (getAttr o f true) Q E s₁) E s) : wpAny (model prog w) A (eval (.Attribute e f pos) env) Q E s :=
  Attribute_any_ h (by rw [arm_eval_Attribute, hb])
end

/-! ### readings and rules -/
/-- e.f, an attribute of the instance -/
def tFld (K : PySem.W.Frag) (ta : TE) (f : Str) : TE := fun σ H Q => ta σ H fun x H1 => ∃ a C dx fs v, x = .ref a ∧ H1 a = some (.ins C dx fs) ∧ Cls K C ∧ NoAttr K C f ∧ fs.lookup f = some v ∧ Q v H1
/-- e.f, a constant of the class -/
def tCon (K : PySem.W.Frag) (ta : TE) (f : Str) : TE := fun σ H Q => ta σ H fun x H1 => ∃ a C dx fs v u, x = .ref a ∧ H1 a = some (.ins C dx fs) ∧ Cls K C ∧ Con K C f v u ∧ fs.lookup f = none ∧ Q v H1
/-- e.f = value -/
def sFld (K : PySem.W.Frag) (ta tv : TE) (f : Str) : TS := fun D σ H => tv σ H fun y H1 => ta σ H1 fun x H2 => ∃ a C dx fs, x = .ref a ∧ H2 a = some (.ins C dx fs) ∧ Cls K C ∧ NoAttr K C f ∧ fs.length < 1000 ∧
  D.nx σ (upd H2 a (.ins C dx (putF f y fs)))
/-- an augmented operator on two values -/
def InOp (X : Cx) (op : Operator) (rd : V → V → Hp → VK → Prop) : Prop :=
  ∀ (pins : List (Addr × Obj)) (s : Shared) (σ : St) (H : Hp) (x y : V) (u v : Value) (Q : VK), Inv X pins σ H s → RelV x u → RelV y v → rd x y H Q → wpAny (model X.prog X.w) X.A (inplaceOp op u v) (EP X pins σ Q) X.xe s
/-- e.f op= value -/
def sFldAug (K : PySem.W.Frag) (ta tv : TE) (rd : V → V → Hp → VK → Prop) (f : Str) : TS := fun D σ H => ta σ H fun x H1 => ∃ a C dx fs v, x = .ref a ∧ H1 a = some (.ins C dx fs) ∧ Cls K C ∧ NoAttr K C f ∧ fs.lookup f = some v ∧
  tv σ H1 fun y H2 => rd v y H2 fun z H3 => ∃ dx' fs', H3 a = some (.ins C dx' fs') ∧ fs'.length < 1000 ∧ D.nx σ (upd H3 a (.ins C dx' (putF f z fs')))

section
variable {X : Cx} {o e value : Expr} {f : Str} {pos pos' tpos : Pos} {ta tv : TE}
theorem pe_fld (he : PE X e ta) (hb : attributeBase e f X.env (eval e X.env) = eval e X.env) : PE X (.Attribute e f pos) (tFld X.K ta f) := by
  intro pins s σ H Q I h
  refine attr_of hb (thn (he pins s σ H _ I h) fun u s1 ⟨x, H1, I1, rx, a, C, dx, fs, v, ex, ea, c, n, l, q⟩ => ?_)
  subst ex
  obtain rfl : u = Value.ref a := rx
  exact getattr_ok I1 ea c n l fun u' s2 I2 ru => ⟨v, H1, I2, ru, q⟩
theorem pe_con (he : PE X e ta) (hb : attributeBase e f X.env (eval e X.env) = eval e X.env) : PE X (.Attribute e f pos) (tCon X.K ta f) := by
  intro pins s σ H Q I h
  refine attr_of hb (thn (he pins s σ H _ I h) fun u s1 ⟨x, H1, I1, rx, a, C, dx, fs, v, u0, ex, ea, c, k, l, q⟩ => ?_)
  subst ex
  obtain rfl : u = Value.ref a := rx
  exact getcon_ok I1 ea c k l fun s2 I2 => ⟨v, H1, I2, k.rel, q⟩
theorem ps_fld (ha : PE X o ta) (hv : PE X value tv) (hs : swapsWith value (some (.Attribute o f pos')) pos.line X.env = pure false) : PS X (.Assign [.Attribute o f pos'] value pos) (sFld X.K ta tv f) := by
  intro pins s σ H D I h
  refine plainObj_wpAny_Assign_Attribute (thn (hv pins s σ H _ I h) fun u s1 ⟨y, H1, I1, ry, q⟩ => thn (ha pins s1 σ H1 _ I1 q) fun ov s2 ⟨x, H2, I2, rx, a, C, dx, fs, ex, ea, c, n, l, q2⟩ => ?_) hs
  subst ex
  obtain rfl : ov = Value.ref a := rx
  exact setattr_ok I2 ea c n l ry fun s3 I3 => ⟨σ, _, I3, q2⟩
theorem ps_fldaug {op : Operator} {rd : V → V → Hp → VK → Prop} (ha : PE X o ta) (hv : PE X value tv) (hop : InOp X op rd) : PS X (.AugAssign (.Attribute o f tpos) op value pos) (sFldAug X.K ta tv rd f) := by
  intro pins s σ H D I h
  refine wpAny_AugAssign_AttributeAny (thn (ha pins s σ H _ I h) fun ov s1 ⟨x, H1, I1, rx, a, C, dx, fs, v, ex, ea, c, n, l, q⟩ => ?_)
  subst ex
  obtain rfl : ov = Value.ref a := rx
  refine getattr_ok I1 ea c n l fun u s2 I2 ru => thn (hv pins s2 σ H1 _ I2 q) fun w3 s3 ⟨y, H2, I3, ry, q3⟩ => thn (hop pins s3 σ H2 v y u w3 _ I3 ru ry q3) fun w4 s4 ⟨z, H3, I4, rz, dx', fs', ea', l', q4⟩ => ?_
  exact setattr_ok I4 ea' c n l' rz fun s5 I5 => ⟨σ, _, I5, q4⟩
def rAdd : V → V → Hp → VK → Prop := fun x y H Q => ∃ i j, x = .int i ∧ y = .int j ∧ Q (.int (i + j)) H
def rSub : V → V → Hp → VK → Prop := fun x y H Q => ∃ i j, x = .int i ∧ y = .int j ∧ Q (.int (i - j)) H
theorem in_add : InOp X .Add rAdd := by
  rintro pins s σ H x y u v Q I rx ry ⟨i, j, rfl, rfl, q⟩
  obtain ⟨t, rfl⟩ := (show ∃ t, u = Value.int i t from rx)
  obtain ⟨t', rfl⟩ := (show ∃ t', v = Value.int j t' from ry)
  exact PyProof.Rows.iadd_int ⟨.int (i + j), H, I.tok _, ⟨_, rfl⟩, q⟩
theorem in_sub : InOp X .Sub rSub := by
  rintro pins s σ H x y u v Q I rx ry ⟨i, j, rfl, rfl, q⟩
  obtain ⟨t, rfl⟩ := (show ∃ t, u = Value.int i t from rx)
  obtain ⟨t', rfl⟩ := (show ∃ t', v = Value.int j t' from ry)
  exact PyProof.Rows.isub_int ⟨.int (i - j), H, I.tok _, ⟨_, rfl⟩, q⟩

/-- what is between an instance and its method: the tree of a method call -/
theorem methcall_of {pl : Sem Bool} {m : Str} {apos : Pos} {args : List Expr} {pins : List (Addr × Obj)} {s : Shared} {σ : St} {H : Hp} {Q : Value → Shared → Prop} {te : TE} (he : PE X e te) (I : Inv X pins σ H s)
    (h : te σ H fun x H1 => ∃ a C dx fs g, x = .ref a ∧ H1 a = some (.ins C dx fs) ∧ Cls X.K C ∧ Meth X.K C m g ∧ fs.lookup m = none ∧
      ∀ s1, Inv X pins σ H1 s1 → wpAny (model X.prog X.w) X.A (callWith pos (.ref g) [.ref a] (backTo pos (starEach args X.env)) (backToKw pos (keywordEach [] X.env))) Q X.xe s1)
    (ht : eval (.Call (.Attribute e m apos) args [] pos) X.env = (do
      let ov ← eval e X.env
      standAt apos.atName
      let (f, first) ← holding [ov] (getMethod ov m pl)
      callWith pos f first (backTo pos (starEach args X.env)) (backToKw pos (keywordEach [] X.env)))) :
    wpAny (model X.prog X.w) X.A (eval (.Call (.Attribute e m apos) args [] pos) X.env) Q X.xe s := by
  refine PySem.W.methodCall_KW (pl := pl) (thn (he pins s σ H _ I h) fun u s1 ⟨x, H1, I1, rx, a, C, dx, fs, g, ex, ea, c, k, l, q⟩ => ?_) ht
  subst ex
  obtain rfl : u = Value.ref a := rx
  exact getmeth_ok I1 ea c k l (q s1 I1)
end

/-! ### isinstance -/
section
variable {X : Cx} {pins : List (Addr × Obj)} {σ : St} {H : Hp} {s : Shared} {A : Around} {E : Value → Shared → Prop} {Q : Value → Shared → Prop} {c : Value} {b : Bool}
/-- the type of a value, as the fragment's deciders take it; for an instance its class -/
inductive TyOf (K : PySem.W.Frag) (H : Hp) : V → Value → Prop where
  | non : TyOf K H .non (.type "NoneType")
  | bl (x : Bool) : TyOf K H (.bl x) (.type "bool")
  | int (i : Int) : TyOf K H (.int i) (.type "int")
  | str (x : Str) : TyOf K H (.str x) (.type "str")
  | flt (x : UInt64) : TyOf K H (.flt x) (.type "float")
  | lst {a : Addr} {xs : List V} (e : H a = some (.lst xs)) : TyOf K H (.ref a) (.type "list")
  | frz {a : Addr} {o : Obj} {xs : List V} (e : H a = some (.frz o (.lst xs))) : TyOf K H (.ref a) (.type "list")
  | tup {a : Addr} {xs : List V} (e : H a = some (.tup xs)) : TyOf K H (.ref a) (.type "tuple")
  | dK {a : Addr} {kvs : List (Key × V)} (e : H a = some (.dK kvs)) : TyOf K H (.ref a) (.type "dict")
  | dT {a : Addr} {kvs : List (List Key × V)} (e : H a = some (.dT kvs)) : TyOf K H (.ref a) (.type "dict")
  | ins {a C dx : Addr} {fs : List (Str × V)} (e : H a = some (.ins C dx fs)) (cl : Cls K C) (ha : PySem.W.findIn K (.ref C) "__class__" = some (some (.builtin "object.__class__")))
      (hn : PySem.W.specialIn K (.builtin "object.__class__") "__get__" = some (some (.builtin "getset_descriptor.__get__"))) (htk : PySem.W.takesIn K (.builtin "object.__class__") = some true)
      (hm : PySem.W.mroIn K C (.type "object") = some true) : TyOf K H (.ref a) (.ref C)
/-- isinstance(x, c) for one class c, a built-in or an own one: kitOne's answer -/
theorem isinst_ok {x : V} {u t : Value} (I : Inv X pins σ H s) (rx : RelV x u) (ty : TyOf X.K H x t) (e : PySem.W.kitOne X.K t c = some b) (h : ∀ tk, Q (.bool b) { s with toks := tk }) :
    wpAny (model X.prog X.w) A (call (.builtin "isinstance") [u, c]) Q E s := by
  cases ty with
  | non => cases (show u = Value.none from rx); exact PySem.W.kia_one PySem.W.kitx_none I.kIn True.intro e (fun z => nomatch z) h
  | bl y => cases (show u = Value.bool y from rx); exact PySem.W.kia_one PySem.W.kitx_bool I.kIn True.intro e (fun z => nomatch z) h
  | int i => obtain ⟨t, q⟩ := (show ∃ t, u = Value.int i t from rx); cases q; exact PySem.W.kia_one PySem.W.kitx_int I.kIn True.intro e (fun z => nomatch z) h
  | str y => obtain ⟨t, q⟩ := (show ∃ t, u = Value.str y t from rx); cases q; exact PySem.W.kia_one PySem.W.kitx_str I.kIn True.intro e (fun z => nomatch z) h
  | flt y => obtain ⟨t, q⟩ := (show ∃ t, u = Value.float y t from rx); cases q; exact PySem.W.kia_one PySem.W.kitx_float I.kIn True.intro e (fun z => nomatch z) h
  | @lst a xs ea =>
    cases (show u = Value.ref a from rx)
    obtain ⟨_, _, n, _, h1⟩ := (show ObjOk X.prog X.w H s.heap a (.lst xs) from I.hok a _ ea)
    exact PySem.W.kia_one PySem.W.kitx_list I.kIn ⟨_, h1, rfl⟩ e (fun z => nomatch z) h
  | @frz a ob xs ea =>
    cases (show u = Value.ref a from rx)
    obtain ⟨_, _, _, n, _, h1⟩ := (show ObjOk X.prog X.w H s.heap a (.frz ob (.lst xs)) from I.hok a _ ea)
    exact PySem.W.kia_one PySem.W.kitx_list I.kIn ⟨_, h1, rfl⟩ e (fun z => nomatch z) h
  | @tup a xs ea =>
    cases (show u = Value.ref a from rx)
    obtain ⟨_, _, _, p⟩ := (show ObjOk X.prog X.w H s.heap a (.tup xs) from I.hok a _ ea)
    obtain ⟨o, h1, h2, _⟩ := p
    exact PySem.W.kia_one PySem.W.kitx_tuple I.kIn ⟨o, h1, h2⟩ e (fun z => nomatch z) h
  | @dK a kvs ea =>
    cases (show u = Value.ref a from rx)
    obtain ⟨_, _, vs, _, p⟩ := (show ObjOk X.prog X.w H s.heap a (.dK kvs) from I.hok a _ ea)
    obtain ⟨o, es, ep, h1, h2, _⟩ := p
    exact PySem.W.kia_one PySem.W.kitx_dict I.kIn ⟨o, h1, h2.1⟩ e (fun z => nomatch z) h
  | @dT a kvs ea =>
    cases (show u = Value.ref a from rx)
    obtain ⟨_, _, xs, _, o, es, ep, h1, h2, _⟩ := (show ObjOk X.prog X.w H s.heap a (.dT kvs) from I.hok a _ ea)
    exact PySem.W.kia_one PySem.W.kitx_dict I.kIn ⟨o, h1, h2.1⟩ e (fun z => nomatch z) h
  | @ins a C dx fs ea cl ha hn htk hm =>
    cases (show u = Value.ref a from rx)
    obtain ⟨mA, O, _⟩ := ins_get I.hok ea
    obtain ⟨od, J, _⟩ := O.look
    exact PySem.W.kia_one (PySem.W.kitx_own (cl.get _) cl.hd ha hn htk hm) I.kIn J e (fun z => nomatch z) h
end
end L2

namespace L2
open PySem PySem.Spec PyProof.Rows

/-! ### room -/
structure Room (k : Nat) (A : Around) : Prop where
  hd : A.handled = none
  dp : A.depth + 3 * k + 5 < recursionLimit
  un : A.units + 16 * k + 200 < cLine
theorem Room.mono {j k : Nat} {A : Around} (r : Room k A) (h : j ≤ k) : Room j A := ⟨r.hd, by have := r.dp; omega, by have := r.un; omega⟩
theorem Room.deeper {k : Nat} {A : Around} (r : Room (k + 1) A) (env : Env) : Room k (A.deeper env) :=
  ⟨r.hd, by have := r.dp; show A.depth + 1 + 3 * k + 5 < _; omega, by have := r.un; show A.units + 3 + 16 * k + 200 < _; omega⟩
theorem Room.in1 {k : Nat} {A : Around} (r : Room (k + 1) A) : Room k A.in1 :=
  ⟨r.hd, by have := r.dp; show A.depth + 3 * k + 5 < _; omega, by have := r.un; show A.units + 1 + 16 * k + 200 < _; omega⟩
theorem make_depth {A : Around} {C : Addr} {us : List Value} {kw : List (Str × Value)} : (A.under (.builtin "type.__call__" ⟨.ref C :: us, kw⟩)).depth = A.depth + 1 := by
  first | rfl | simp [Around.under, Code.weight, Code.isCreation, Code.isGuard, Code.isCaller, Code.frames, Code.isFrame, guardIds]
theorem make_units {A : Around} {C : Addr} {us : List Value} {kw : List (Str × Value)} : (A.under (.builtin "type.__call__" ⟨.ref C :: us, kw⟩)).units = A.units + 1 := by
  first | rfl | simp [Around.under, Code.cUnits, Code.frames, Code.isFrame]
theorem Room.make {k : Nat} {A : Around} (r : Room (k + 1) A) (C : Addr) (us : List Value) (kw : List (Str × Value)) : Room k (A.under (.builtin "type.__call__" ⟨.ref C :: us, kw⟩)) :=
  ⟨r.hd, by have := r.dp; rw [make_depth]; omega, by have := r.un; rw [make_units]; omega⟩
theorem Room.depth {k : Nat} {A : Around} (r : Room k A) : A.depth < recursionLimit := by have := r.dp; omega
theorem Room.units {k : Nat} {A : Around} (r : Room k A) : A.units + 64 < cLine := by have := r.un; omega
theorem Room.units0 {k : Nat} {A : Around} (r : Room k A) : A.units < cLine := by have := r.un; omega

/-! ### argument lists and displays -/
def tNil : TA := fun _ H Q => Q [] H
def tCons (ta : TE) (tr : TA) : TA := fun σ H Q => ta σ H fun x H1 => tr σ H1 fun xs H2 => Q (x :: xs) H2
section
variable {X : Cx} {e : Expr} {es : List Expr} {te : TE} {t : TA} {pos : Pos}
theorem pa_nil : PA X [] tNil := fun _ _ _ _ H Q I h => Calls.spliced_nil ⟨[], H, I, .nil, h⟩
theorem pa_cons (ha : PE X e te) (hr : PA X es t) (hs : starEach (e :: es) X.env = (false, eval e X.env) :: starEach es X.env := by rfl) : PA X (e :: es) (tCons te t) := by
  intro pos pins s σ H Q I h
  rw [hs]
  show wpAny _ _ (spliced ((false, eval e X.env) :: backTo pos (starEach es X.env))) _ _ s
  refine Calls.spliced_cons (thn (ha pins s σ H _ I h) fun u s1 ⟨x, H1, I1, r1, q1⟩ => ?_)
  exact thn (hr pos pins s1 σ H1 _ I1 q1) fun us s2 ⟨xs, H2, I2, r2, q2⟩ => ⟨x :: xs, H2, I2, .cons r1 r2, q2⟩

/-- a tuple, a list of written items -/
def tTup (t : TA) : TE := fun σ H Q => t σ H fun xs H1 => xs.length ≤ sizeLine ∧ ∀ p, H1 p = none → Q (.ref p) (upd H1 p (.tup xs))
def tLst (t : TA) : TE := fun σ H Q => t σ H fun xs H1 => xs.length ≤ sizeLine ∧ ∀ p, H1 p = none → Q (.ref p) (upd H1 p (.lst xs))
theorem pe_tup {x1} (h : PA X es t) : PE X (.Tuple es x1 pos) (tTup t) := by
  intro pins s σ H Q I hq
  refine wpAny_Tuple_spliced (thn (h pos pins s σ H _ I hq) fun us s1 ⟨xs, H1, I1, r, z, q⟩ => ⟨by rw [← r.length]; exact z, ?_⟩)
  have hf : H1 s1.heap.objs.size = none := I1.hok.fresh (Nat.le_refl _)
  refine ⟨.ref s1.heap.objs.size, upd H1 s1.heap.objs.size (.tup xs), I1.laid (t' := s1.toks) (fun b u e => Heap.get?_push_of_some _ e) (Nat.le_refl _) ?_, rfl, q _ hf⟩
  exact ⟨z, us, r, ⟨_, Heap.get?_push_size _ rfl, rfl, _, rfl⟩⟩
theorem pe_lst (h : PA X es t) : PE X (.List es pos) (tLst t) := by
  intro pins s σ H Q I hq
  refine wpAny_List_spliced (thn (h pos pins s σ H _ I hq) fun us s1 ⟨xs, H1, I1, r, z, q⟩ => ⟨by rw [← r.length]; exact z, ?_⟩)
  have hf : H1 s1.heap.objs.size = none := I1.hok.fresh (Nat.le_refl _)
  refine ⟨.ref s1.heap.objs.size, upd H1 s1.heap.objs.size (.lst xs), I1.laid (t' := s1.toks) (fun b u e => Heap.get?_push_of_some _ e) (Nat.le_refl _) ?_, rfl, q _ hf⟩
  exact ⟨z, us, 0, r, Heap.get?_push_size _ rfl⟩
end

/-! ### what a def promises -/
/-- a def's promise: the bound arguments in the parameters' order, the heap, the wanted end, the wanted exception -/
abbrev Sp := List V → Hp → VK → XK → Prop
/-- how an exception lies behind a call (file 08 gives it): the callers' frames, abstract heap and state ahead of the call, the wish, the exception, the state -/
abbrev CXT := List Env → Hp → Shared → XK → Value → Shared → Prop

/-- the state at a call -/
structure Env0 (P : Program) (w : World) (K : PySem.W.Frag) (mg : Str → Option Value) (base : Heap) (A : Around) (outer : List Env) (s : Shared) (H : Hp) : Prop where
  frames : A.frames = some outer
  mod : Mod K mg base
  bs : ∀ b o, base.get? b = some o → s.heap.get? b = some o ∧ H b = none
  bsz : base.objs.size ≤ s.heap.objs.size
  funs : s.heap.FunFrames base outer
  frf : ∀ b ∈ frs outer, H b = none
  hok : HOk P w H s.heap
  bare : AllBare s.gens
/-- a call's end -/
def CE (outer : List Env) (P : Program) (w : World) (H : Hp) (s : Shared) (Q : VK) (u : Value) (s' : Shared) : Prop :=
  ∃ v H', s'.os = s.os ∧ AllBare s'.gens ∧ Un (frs outer) [] H H' s.heap s'.heap ∧ HOk P w H' s'.heap ∧ RelV v u ∧ Q v H'
def CR (CX : CXT) (outer : List Env) (P : Program) (w : World) (H : Hp) (s : Shared) (Q : VK) (E : XK) (r : Result) (s' : Shared) : Prop :=
  match r with
  | .ok (.ret u) => CE outer P w H s Q u s'
  | .ok _ => False
  | .error e => CX outer H s E e s'
structure FnOk (P : Program) (w : World) (K : PySem.W.Frag) (mg : Str → Option Value) (base : Heap) (CX : CXT) (k : Nat) (f : Addr) (fd : FuncData) (ps : List Str) (sp : Sp) : Prop where
  len : ∀ vs H Q E, sp vs H Q E → vs.length = ps.length
  run : ∀ (A : Around) (outer : List Env) (s : Shared) (H : Hp) (args : Args) (us : List Value) (vs : List V) (Q : VK) (E : XK), Room k A → Env0 P w K mg base A outer s H → BindsTo s fd args (ps.zip us) → Vals vs us → sp vs H Q E →
    codeAny (model P w) A (.call (.ref f) args) (CR CX outer P w H s Q E) s
theorem FnOk.mono {P : Program} {w : World} {K : PySem.W.Frag} {mg : Str → Option Value} {base : Heap} {CX : CXT} {j k : Nat} {f : Addr} {fd : FuncData} {ps : List Str} {sp : Sp} (F : FnOk P w K mg base CX j f fd ps sp) (h : j ≤ k) :
    FnOk P w K mg base CX k f fd ps sp := ⟨F.len, fun A outer s H args us vs Q E hr => F.run A outer s H args us vs Q E (hr.mono h)⟩
/-- a weaker promise -/
theorem FnOk.imp {P : Program} {w : World} {K : PySem.W.Frag} {mg : Str → Option Value} {base : Heap} {CX : CXT} {k : Nat} {f : Addr} {fd : FuncData} {ps : List Str} {sp sp' : Sp} (F : FnOk P w K mg base CX k f fd ps sp)
    (h : ∀ vs H Q E, sp' vs H Q E → sp vs H Q E) : FnOk P w K mg base CX k f fd ps sp' :=
  ⟨fun vs H Q E q => F.len vs H Q E (h _ _ _ _ q), fun A outer s H args us vs Q E hr he hb hv hs => F.run A outer s H args us vs Q E hr he hb hv (h _ _ _ _ hs)⟩

theorem Env0.make {P : Program} {w : World} {K : PySem.W.Frag} {mg : Str → Option Value} {base : Heap} {A : Around} {outer : List Env} {s : Shared} {H : Hp} (e : Env0 P w K mg base A outer s H) (C : Addr) (us : List Value) (kw : List (Str × Value)) :
    Env0 P w K mg base (A.under (.builtin "type.__call__" ⟨.ref C :: us, kw⟩)) outer s H := ⟨by first | exact e.frames | (simpa [Around.under, Code.envs, Code.isFrame, pushEnvs] using e.frames), e.mod, e.bs, e.bsz, e.funs, e.frf, e.hok, e.bare⟩
theorem Env0.in1 {P : Program} {w : World} {K : PySem.W.Frag} {mg : Str → Option Value} {base : Heap} {A : Around} {outer : List Env} {s : Shared} {H : Hp} (e : Env0 P w K mg base A outer s H) :
    Env0 P w K mg base A.in1 outer s H := ⟨e.frames, e.mod, e.bs, e.bsz, e.funs, e.frf, e.hok, e.bare⟩

section
variable {X : Cx} {pins : List (Addr × Obj)} {σ : St} {H : Hp} {s s' : Shared}
/-- from a body: what a callee wants -/
theorem Inv.env0 (I : Inv X pins σ H s) : Env0 X.prog X.w X.K X.mg X.base X.A X.stack s H :=
  ⟨I.ok.frames, I.ok.mod, I.bs, Nat.le_trans I.ok.bsz I.sz, I.stack, I.stkFree, I.hok, I.bare⟩
/-- behind a call -/
theorem Inv.after {Q : VK} {u : Value} (I : Inv X pins σ H s) (h : CE X.stack X.prog X.w H s Q u s') : EP X pins σ Q u s' := by
  obtain ⟨v, H', os, bare, un, hok, r, q⟩ := h
  obtain ⟨hh, g, d, t, os'⟩ := s'
  obtain rfl : os' = s.os := os
  exact ⟨v, H', I.call (h' := hh) (g' := g) (d' := d) (t' := t) (ch := []) un hok bare (fun b z => absurd z (by simp)), r, q⟩
end

/-! ### calls -/
/-- f(..): the written arguments, then the defaults dvs; E: what is wanted of an exception -/
def tCall (sp : Sp) (dvs : List V) (E : XK) (t : TA) : TE := fun σ H Q => t σ H fun vs H1 => sp (vs ++ dvs) H1 Q E
/-- o.m(..) of an instance of the class at C -/
def tMeth (C : Addr) (m : Str) (sp : Sp) (dvs : List V) (E : XK) (ta : TE) (t : TA) : TE := fun σ H Q => ta σ H fun x H1 => ∃ a dx fs, x = .ref a ∧ H1 a = some (.ins C dx fs) ∧ fs.lookup m = none ∧
  t σ H1 fun vs H2 => sp (x :: (vs ++ dvs)) H2 Q E
/-- C(..): a new instance and its dict, then __init__ -/
def tMake (C : Addr) (sp : Sp) (dvs : List V) (E : XK) (t : TA) : TE := fun σ H Q => t σ H fun vs H1 => ∀ x dx, H1 x = none → H1 dx = none → dx ≠ x →
  sp (.ref x :: (vs ++ dvs)) (upd (upd H1 dx (.own x)) x (.ins C dx [])) (fun v H2 => v = .non ∧ Q (.ref x) H2) E

/-- how the parameters are bound: us the positional arguments, kw the keywords' values by name, ds the defaults that fill up -/
def Binds (K : PySem.W.Frag) (fd : FuncData) (ps : List Str) (ds : List Value) : Prop :=
  ∀ (s : Shared) (us : List Value), K.In s.heap → (us ++ ds).length = ps.length → BindsTo s fd ⟨us, []⟩ (ps.zip (us ++ ds))
/-- every parameter is given -/
theorem Binds.all {K : PySem.W.Frag} {fd : FuncData} {ps : List Str} (h : ∀ us : List Value, us.length = ps.length → bindArgs fd ⟨us, []⟩ = pure (ps.zip us)) : Binds K fd ps [] := fun s us _ hl => by
  rw [List.append_nil] at hl ⊢
  exact .of_eq (h us hl)

/-- an exception of a callee reaches what this body wants of exceptions -/
def Passes (CX : CXT) (X : Cx) (E : XK) : Prop := ∀ (pins : List (Addr × Obj)) (σ : St) (H : Hp) (s : Shared) (e : Value) (s' : Shared), Inv X pins σ H s → CX X.stack H s E e s' → X.xe e s'

section
variable {X : Cx} {CX : CXT} {k : Nat} {f C : Addr} {fd : FuncData} {ps : List Str} {sp : Sp} {dvs : List V} {ds : List Value} {E : XK} {x m : Str} {p pos apos : Pos} {e o : Expr} {es : List Expr} {ta : TE} {t : TA}

/-- the callee runs -/
theorem run_fn {pins : List (Addr × Obj)} {σ : St} {H : Hp} {s : Shared} {Q : VK} {us : List Value} {vs : List V} (F : FnOk X.prog X.w X.K X.mg X.base CX k f fd ps sp) (hr : Room k X.A) (hb : Binds X.K fd ps ds) (hd : Vals dvs ds) (hx : Passes CX X E)
    (I : Inv X pins σ H s) (r : Vals vs us) (h : sp (vs ++ dvs) H Q E) : wpAny (model X.prog X.w) X.A (call (.ref f) us) (EP X pins σ Q) X.xe s := by
  have r2 : Vals (vs ++ dvs) (us ++ ds) := r.append hd
  have hl : (us ++ ds).length = ps.length := by rw [← r2.length]; exact F.len _ _ _ _ h
  refine wpAny_call (codeAny_mono (F.run X.A X.stack s H ⟨us, []⟩ (us ++ ds) (vs ++ dvs) Q E hr I.env0 (hb s us I.kIn hl) r2 h) fun r s' hq => ?_)
  cases r with
  | error e => exact hx pins σ H s e s' I hq
  | ok fl =>
    cases fl with
    | ret u => exact I.after hq
    | next => exact False.elim hq
    | brk => exact False.elim hq
    | cont => exact False.elim hq

theorem pe_call (F : FnOk X.prog X.w X.K X.mg X.base CX k f fd ps sp) (hr : Room k X.A) (hg : Gl X x) (hm : X.mg x = some (.ref f)) (hk : PySem.W.keepIn X.K (.ref f) = true) (hb : Binds X.K fd ps ds) (hd : Vals dvs ds) (hx : Passes CX X E)
    (ha : PA X (e :: es) t) (hdb : (x == ("__debug__" : Str)) = false := by decide) (he : starEach (e :: es) X.env = (false, eval e X.env) :: starEach es X.env := by rfl) (hpl : (backTo pos (starEach es X.env)).any (·.1) = false := by rfl) :
    PE X (.Call (.Name x p) (e :: es) [] pos) (tCall sp dvs E t) := by
  intro pins s σ H Q I h
  refine wpAny_Call_Name_kw (ld_glob I hg hm ?_ hdb)
  refine PySem.W.callWith_K (h₀ := X.base) I.ok.mod.kin hk (thn (ha pos pins s σ H _ I h) fun us s1 ⟨vs, H1, I1, r, q⟩ => ⟨I1.kIn, ?_⟩) he hpl
  exact run_fn F hr hb hd hx I1 r q
theorem pe_call0 (F : FnOk X.prog X.w X.K X.mg X.base CX k f fd ps sp) (hr : Room k X.A) (hg : Gl X x) (hm : X.mg x = some (.ref f)) (hk : PySem.W.keepIn X.K (.ref f) = true) (hb : Binds X.K fd ps ds) (hd : Vals dvs ds) (hx : Passes CX X E)
    (hdb : (x == ("__debug__" : Str)) = false := by decide) : PE X (.Call (.Name x p) [] [] pos) (tCall sp dvs E tNil) := by
  intro pins s σ H Q I h
  refine wpAny_Call_Name_kw (ld_glob I hg hm ?_ hdb)
  exact PySem.W.callWith_K0 I.kIn hk (run_fn (us := []) F hr hb hd hx I .nil h)

/-- o.m(e, ..) -/
theorem pe_meth {pl : Sem Bool} (he : PE X o ta) (c : Cls X.K C) (hm : Meth X.K C m f) (F : FnOk X.prog X.w X.K X.mg X.base CX k f fd ps sp) (hr : Room k X.A) (hb : Binds X.K fd ps ds) (hd : Vals dvs ds) (hx : Passes CX X E) (ha : PA X (e :: es) t)
    (hst : starEach (e :: es) X.env = (false, eval e X.env) :: starEach es X.env := by rfl) (hpl : (backTo pos (starEach es X.env)).any (·.1) = false := by rfl)
    (ht : eval (.Call (.Attribute o m apos) (e :: es) [] pos) X.env = (do
      let ov ← eval o X.env
      standAt apos.atName
      let (f, first) ← holding [ov] (getMethod ov m pl)
      callWith pos f first (backTo pos (starEach (e :: es) X.env)) (backToKw pos (keywordEach [] X.env))) := by rfl) :
    PE X (.Call (.Attribute o m apos) (e :: es) [] pos) (tMeth C m sp dvs E ta t) := by
  intro pins s σ H Q I h
  refine PySem.W.methodCall_KW (pl := pl) (thn (he pins s σ H _ I h) fun u s1 ⟨x, H1, I1, rx, a, dx, fs, ex, ea, l, q⟩ => ?_) ht
  subst ex
  obtain rfl : u = Value.ref a := rx
  refine getmeth_ok I1 ea c hm l ?_
  refine PySem.W.callWith_K (first := [.ref a]) (h₀ := X.base) I.ok.mod.kin hm.kp (thn (ha pos pins s1 σ H1 _ I1 q) fun us s2 ⟨vs, H2, I2, r, q2⟩ => ⟨I2.kIn, ?_⟩) hst hpl
  exact run_fn (us := .ref a :: us) (vs := .ref a :: vs) F hr hb hd hx I2 (.cons rfl r) q2
/-- o.m() -/
theorem pe_meth0 {pl : Sem Bool} (he : PE X o ta) (c : Cls X.K C) (hm : Meth X.K C m f) (F : FnOk X.prog X.w X.K X.mg X.base CX k f fd ps sp) (hr : Room k X.A) (hb : Binds X.K fd ps ds) (hd : Vals dvs ds) (hx : Passes CX X E)
    (ht : eval (.Call (.Attribute o m apos) [] [] pos) X.env = (do
      let ov ← eval o X.env
      standAt apos.atName
      let (f, first) ← holding [ov] (getMethod ov m pl)
      callWith pos f first (backTo pos (starEach [] X.env)) (backToKw pos (keywordEach [] X.env))) := by rfl) :
    PE X (.Call (.Attribute o m apos) [] [] pos) (tMeth C m sp dvs E ta tNil) := by
  intro pins s σ H Q I h
  refine PySem.W.methodCall_KW (pl := pl) (thn (he pins s σ H _ I h) fun u s1 ⟨x, H1, I1, rx, a, dx, fs, ex, ea, l, q⟩ => ?_) ht
  subst ex
  obtain rfl : u = Value.ref a := rx
  refine getmeth_ok I1 ea c hm l ?_
  exact PySem.W.callWith_K0 (first := [.ref a]) I1.kIn hm.kp (run_fn (us := [.ref a]) (vs := [.ref a]) F hr hb hd hx I1 (.cons rfl .nil) q)

/-- what a class must have to be made -/
structure Mk (K : PySem.W.Frag) (C f : Addr) : Prop where
  makes : PySem.W.makesIn K C = true
  init : PySem.W.findIn K (.ref C) "__init__" = some (some (.ref f))
  fn : PySem.W.isFn K (.ref f) = true
  kp : PySem.W.keepIn K (.ref C) = true

theorem run_make {pins : List (Addr × Obj)} {σ : St} {H : Hp} {s : Shared} {Q : VK} {us : List Value} {vs : List V} (M : Mk X.K C f) (F : FnOk X.prog X.w X.K X.mg X.base CX k f fd ps sp) (hr : Room (k + 1) X.A) (hb : Binds X.K fd ps ds) (hd : Vals dvs ds)
    (hx : Passes CX X E) (I : Inv X pins σ H s) (r : Vals vs us)
    (h : ∀ x dx, H x = none → H dx = none → dx ≠ x → sp (.ref x :: (vs ++ dvs)) (upd (upd H dx (.own x)) x (.ins C dx [])) (fun v H2 => v = .non ∧ Q (.ref x) H2) E) :
    wpAny (model X.prog X.w) X.A (call (.ref C) us) (EP X pins σ Q) X.xe s := by
  have hq := h (s.heap.objs.size + 1) s.heap.objs.size (I.hok.fresh (Nat.le_succ _)) (I.hok.fresh (Nat.le_refl _)) (Nat.ne_of_lt (Nat.lt_succ_self _))
  have I2 := Inv.made (C := C) I
  have r2 : Vals (V.ref (s.heap.objs.size + 1) :: (vs ++ dvs)) (Value.ref (s.heap.objs.size + 1) :: (us ++ ds)) := .cons rfl (r.append hd)
  have hl : (Value.ref (s.heap.objs.size + 1) :: us ++ ds).length = ps.length := by
    have e := r2.length
    rw [F.len _ _ _ _ hq] at e
    exact e.symm
  refine wpAny_call (make_map (f := f) I.kIn M.makes M.init (beq_iff_eq.mp M.fn) (codeAny_mono (F.run _ X.stack _ _ ⟨Value.ref (s.heap.objs.size + 1) :: us, []⟩ (Value.ref (s.heap.objs.size + 1) :: (us ++ ds)) _ _ E (hr.make C us [])
    (I2.env0.make C us []) (hb _ (Value.ref (s.heap.objs.size + 1) :: us) I2.kIn hl) r2 hq) fun r s' hq' => ?_))
  cases r with
  | error e => exact hx pins σ _ _ e s' I2 hq'
  | ok fl =>
    cases fl with
    | ret u =>
      obtain ⟨v, H', I3, rv, ev, q3⟩ := I2.after hq'
      subst ev
      exact ⟨rv, ⟨V.ref (s.heap.objs.size + 1), H', I3, rfl, q3⟩⟩
    | next => exact False.elim hq'
    | brk => exact False.elim hq'
    | cont => exact False.elim hq'
theorem pe_make (M : Mk X.K C f) (F : FnOk X.prog X.w X.K X.mg X.base CX k f fd ps sp) (hr : Room (k + 1) X.A) (hg : Gl X x) (hm : X.mg x = some (.ref C)) (hb : Binds X.K fd ps ds) (hd : Vals dvs ds) (hx : Passes CX X E)
    (ha : PA X (e :: es) t) (hdb : (x == ("__debug__" : Str)) = false := by decide) (he : starEach (e :: es) X.env = (false, eval e X.env) :: starEach es X.env := by rfl) (hpl : (backTo pos (starEach es X.env)).any (·.1) = false := by rfl) :
    PE X (.Call (.Name x p) (e :: es) [] pos) (tMake C sp dvs E t) := by
  intro pins s σ H Q I h
  refine wpAny_Call_Name_kw (ld_glob I hg hm ?_ hdb)
  refine PySem.W.callWith_K (h₀ := X.base) I.ok.mod.kin M.kp (thn (ha pos pins s σ H _ I h) fun us s1 ⟨vs, H1, I1, r, q⟩ => ⟨I1.kIn, ?_⟩) he hpl
  exact run_make M F hr hb hd hx I1 r q
theorem pe_make0 (M : Mk X.K C f) (F : FnOk X.prog X.w X.K X.mg X.base CX k f fd ps sp) (hr : Room (k + 1) X.A) (hg : Gl X x) (hm : X.mg x = some (.ref C)) (hb : Binds X.K fd ps ds) (hd : Vals dvs ds) (hx : Passes CX X E)
    (hdb : (x == ("__debug__" : Str)) = false := by decide) : PE X (.Call (.Name x p) [] [] pos) (tMake C sp dvs E tNil) := by
  intro pins s σ H Q I h
  refine wpAny_Call_Name_kw (ld_glob I hg hm ?_ hdb)
  exact PySem.W.callWith_K0 I.kIn M.kp (run_make (us := []) M F hr hb hd hx I .nil h)
end

/-! ### keywords -/
/-- the values of the keywords, from the left -/
def PK (X : Cx) (kws : List Keyword) (t : TA) : Prop :=
  ∀ (pos : Pos) (pins : List (Addr × Obj)) (s : Shared) (σ : St) (H : Hp) (Q : List V → Hp → Prop), Inv X pins σ H s → t σ H Q → wpAny (model X.prog X.w) X.A (evalAll ((backToKw pos (keywordEach kws X.env)).map (·.2))) (AP X pins σ Q) X.xe s
section
variable {X : Cx} {CX : CXT} {k : Nat} {f C : Addr} {fd : FuncData} {ps ks : List Str} {sp : Sp} {E : XK} {x m : Str} {p pos apos kpos : Pos} {e o : Expr} {es : List Expr} {kws : List Keyword} {te ta : TE} {t tk : TA} {nm : Option Str}
theorem pk_nil : PK X [] tNil := fun _ _ _ _ H Q I h => wpAny_evalAll_nil ⟨[], H, I, .nil, h⟩
theorem pk_cons (ha : PE X e te) (hr : PK X kws t) : PK X (⟨nm, e, kpos⟩ :: kws) (tCons te t) := by
  intro pos pins s σ H Q I h
  show wpAny _ _ (evalAll ((do let v ← eval e X.env; standAt pos; pure v) :: (backToKw pos (keywordEach kws X.env)).map (·.2))) _ _ s
  refine wpAny_evalAll_cons (wpAny_bind (thn (ha pins s σ H _ I h) fun u s1 ⟨x, H1, I1, r1, q1⟩ => wpAny_bind (wpAny_standAt (wpAny_pure ?_))))
  exact thn (hr pos pins s1 σ H1 _ I1 q1) fun us s2 ⟨xs, H2, I2, r2, q2⟩ => ⟨x :: xs, H2, I2, .cons r1 r2, q2⟩

/-- how a call with keywords binds: g puts the positional values us and the keywords' values ws (names ks) in the parameters' order, defaults among them -/
structure KBinds (K : PySem.W.Frag) (fd : FuncData) (ps ks : List Str) (g : List Value → List Value → List Value) (gV : List V → List V → List V) : Prop where
  to : ∀ (s : Shared) (us ws : List Value), K.In s.heap → (g us ws).length = ps.length → BindsTo s fd ⟨us, ks.zip ws⟩ (ps.zip (g us ws))
  rel : ∀ {vs : List V} {us : List Value} {zs : List V} {ws : List Value}, Vals vs us → Vals zs ws → Vals (gV vs zs) (g us ws)
def tCallK (sp : Sp) (gV : List V → List V → List V) (E : XK) (t tk : TA) : TE := fun σ H Q => t σ H fun vs H1 => tk σ H1 fun zs H2 => sp (gV vs zs) H2 Q E
variable {g : List Value → List Value → List Value} {gV : List V → List V → List V}
theorem run_fnk {pins : List (Addr × Obj)} {σ : St} {H : Hp} {s : Shared} {Q : VK} {us ws : List Value} {vs zs : List V} (F : FnOk X.prog X.w X.K X.mg X.base CX k f fd ps sp) (hr : Room k X.A) (hb : KBinds X.K fd ps ks g gV) (hx : Passes CX X E)
    (I : Inv X pins σ H s) (r : Vals vs us) (rz : Vals zs ws) (h : sp (gV vs zs) H Q E) : wpAny (model X.prog X.w) X.A (call (.ref f) us (ks.zip ws)) (EP X pins σ Q) X.xe s := by
  have r2 := hb.rel r rz
  have hl : (g us ws).length = ps.length := by rw [← r2.length]; exact F.len _ _ _ _ h
  refine wpAny_call (codeAny_mono (F.run X.A X.stack s H ⟨us, ks.zip ws⟩ (g us ws) (gV vs zs) Q E hr I.env0 (hb.to s us ws I.kIn hl) r2 h) fun r s' hq => ?_)
  cases r with
  | error e => exact hx pins σ H s e s' I hq
  | ok fl =>
    cases fl with
    | ret u => exact I.after hq
    | next => exact False.elim hq
    | brk => exact False.elim hq
    | cont => exact False.elim hq
/-- f(e, .., k = v, ..) -/
theorem pe_callK (F : FnOk X.prog X.w X.K X.mg X.base CX k f fd ps sp) (hr : Room k X.A) (hg : Gl X x) (hm : X.mg x = some (.ref f)) (hk : PySem.W.keepIn X.K (.ref f) = true) (hb : KBinds X.K fd ps ks g gV) (hx : Passes CX X E)
    (ha : PA X (e :: es) t) (hkw : PK X kws tk) (hall : (backToKw pos (keywordEach kws X.env)).all (·.1.isSome) = true := by rfl) (hks : (backToKw pos (keywordEach kws X.env)).filterMap (·.1) = ks := by rfl)
    (hdb : (x == ("__debug__" : Str)) = false := by decide) (he : starEach (e :: es) X.env = (false, eval e X.env) :: starEach es X.env := by rfl)
    (hpl : ((backTo pos (starEach (e :: es) X.env)).any (·.1) || (backToKw pos (keywordEach kws X.env)).any (·.1.isNone)) = false := by rfl) :
    PE X (.Call (.Name x p) (e :: es) kws pos) (tCallK sp gV E t tk) := by
  intro pins s σ H Q I h
  refine wpAny_Call_Name_kw (ld_glob I hg hm ?_ hdb)
  refine PySem.W.callWith_KW (h₀ := X.base) I.ok.mod.kin hk hall (thn (ha pos pins s σ H _ I h) fun us s1 ⟨vs, H1, I1, r, q⟩ => ?_) hpl he
  refine thn (hkw pos pins s1 σ H1 _ I1 q) fun ws s2 ⟨zs, H2, I2, rz, q2⟩ => ⟨I2.kIn, ?_⟩
  rw [hks]
  exact run_fnk F hr hb hx I2 r rz q2
end

/-! ### a def's body keeps its promise -/
/-- names: the parameters first -/
structure FnScope (N P : List Str) (sc : Scope) : Prop where
  kind : sc.kind = .function
  co : sc.isCoroutine = false
  gen : sc.isGenerator = false
  nd : N.Nodup
  pre : N.take P.length = P
  par : ∀ x ∈ P, sc.names.lookup x = some .local ∨ sc.names.lookup x = some .cell
  nofree : ∀ y ∈ sc.names, y.2 ≠ .free

theorem bindL_out {kindOf : Str → Option NameKind} {x : Str} : ∀ {binds : List (Str × Value)} {m : Str → Option Value}, (∀ v, (x, v) ∉ binds) → bindL kindOf binds m x = m x
  | [], _, _ => rfl
  | (n, v) :: r, m, h => by
    unfold bindL
    rw [bindL_out fun w hw => h w (List.mem_cons_of_mem _ hw)]
    split
    · have : x ≠ n := by rintro rfl; exact h v List.mem_cons_self
      simp [this]
    · rfl
theorem bindC_out {kindOf : Str → Option NameKind} {x : Str} : ∀ {binds : List (Str × Value)} {m : Str → Option Value}, (∀ v, (x, v) ∉ binds) → bindC kindOf binds m x = m x
  | [], _, _ => rfl
  | (n, v) :: r, m, h => by
    unfold bindC
    rw [bindC_out fun w hw => h w (List.mem_cons_of_mem _ hw)]
    split
    · rfl
    · have : x ≠ n := by rintro rfl; exact h v List.mem_cons_self
      simp [this]
theorem bindL_get {kindOf : Str → Option NameKind} {x : Str} {v : Value} : ∀ {P : List Str} {vs : List Value} {i : Nat} {m : Str → Option Value}, P.Nodup → P[i]? = some x → vs[i]? = some v → kindOf x = some .local →
    bindL kindOf (P.zip vs) m x = some v
  | [], _, _, _, _, h, _, _ => by simp at h
  | _ :: _, [], _, _, _, _, h, _ => by simp at h
  | p :: P, w :: vs, 0, m, nd, h1, h2, hk => by
    simp at h1 h2; subst h1; subst h2
    show bindL kindOf ((p, w) :: P.zip vs) m p = _
    unfold bindL
    rw [bindL_out fun v hv => (List.nodup_cons.mp nd).1 (List.of_mem_zip hv).1, if_pos hk]
    simp
  | p :: P, w :: vs, i + 1, m, nd, h1, h2, hk => by
    show bindL kindOf ((p, w) :: P.zip vs) m x = _
    unfold bindL
    exact bindL_get (i := i) (List.nodup_cons.mp nd).2 (by simpa using h1) (by simpa using h2) hk
theorem bindC_get {kindOf : Str → Option NameKind} {x : Str} {v : Value} : ∀ {P : List Str} {vs : List Value} {i : Nat} {m : Str → Option Value}, P.Nodup → P[i]? = some x → vs[i]? = some v → kindOf x ≠ some .local →
    bindC kindOf (P.zip vs) m x = some v
  | [], _, _, _, _, h, _, _ => by simp at h
  | _ :: _, [], _, _, _, _, h, _ => by simp at h
  | p :: P, w :: vs, 0, m, nd, h1, h2, hk => by
    simp at h1 h2; subst h1; subst h2
    show bindC kindOf ((p, w) :: P.zip vs) m p = _
    unfold bindC
    rw [bindC_out fun v hv => (List.nodup_cons.mp nd).1 (List.of_mem_zip hv).1, if_neg hk]
    simp
  | p :: P, w :: vs, i + 1, m, nd, h1, h2, hk => by
    show bindC kindOf ((p, w) :: P.zip vs) m x = _
    unfold bindC
    exact bindC_get (i := i) (List.nodup_cons.mp nd).2 (by simpa using h1) (by simpa using h2) hk

/-- the names' values at the entry -/
def start (N : List Str) (vs : List V) : St := vs.map some ++ List.replicate (N.length - vs.length) none

/-- the context of a def's body, at its entry; an exception leaves the frame, then lies as CX says -/
def cxOf (CX : CXT) (P : Program) (w : World) (K : PySem.W.Frag) (mg : Str → Option Value) (base : Heap) (N : List Str) (qual : Str) (scope : Scope) (f : Addr) (cd : Value) (A : Around) (outer : List Env) (s : Shared) (H : Hp) (E : XK) : Cx where
  prog := P
  w := w
  K := K
  mg := mg
  base := base
  A := A.deeper (envOfC qual scope s.heap.objs.size f cd)
  N := N
  s₀ := s
  H₀ := H
  env := envOfC qual scope s.heap.objs.size f cd
  outer := outer
  stack := envOfC qual scope s.heap.objs.size f cd :: outer
  ex := []
  calm := true
  fn := fun _ => true
  pn := []
  xe := fun e s' => wpAny (model P w) (A.deeper (envOfC qual scope s.heap.objs.size f cd)) (leaving (envOfC qual scope s.heap.objs.size f cd) e) (fun _ s'' => CX outer H s E e s'') (fun e' s'' => CX outer H s E e' s'') s'

theorem cell_has {sc : Scope} {n : Nat} {x : Str} (h : sc.names.lookup x = some .cell) : ∃ c, (cellsFrom n sc.names []).lookup x = some c := by
  have q := PySem.W.cellsFrom_some sc.names n [] (.inl h)
  exact Option.isSome_iff_exists.mp q

theorem inv_start {CX : CXT} {P : Program} {w : World} {K : PySem.W.Frag} {mg : Str → Option Value} {base : Heap} {N ps : List Str} {qual : Str} {scope : Scope} {f : Addr} {cd : Value} {A : Around} {outer : List Env} {s s1 : Shared} {H : Hp} {E : XK} {us : List Value} {vs : List V}
    (S : FnScope N ps scope) (hd : A.handled = none) (e0 : Env0 P w K mg base A outer s H) (hl : vs.length = ps.length) (r : Vals vs us)
    (x : InCallC s s.heap.objs.size (bindL (envOfC qual scope s.heap.objs.size f cd).kindOf (ps.zip us) fun _ => none) (cellsFrom (s.heap.objs.size + 1) scope.names []) (bindC (envOfC qual scope s.heap.objs.size f cd).kindOf (ps.zip us) fun _ => none) s1) :
    Inv (cxOf CX P w K mg base N qual scope f cd A outer s H E) [] (start N vs) H s1 := by
  have hpl : ps.length ≤ N.length := by have := congrArg List.length S.pre; rw [List.length_take] at this; omega
  obtain ⟨h1, tk, rfl, hk⟩ := x.done
  have noA : ∀ b : Addr, b ∉ (cxOf CX P w K mg base N qual scope f cd A outer s H E).ex := fun b z => absurd (show b ∈ ([] : List Addr) from z) (by simp)
  refine ⟨⟨e0.mod, S.kind, rfl, rfl, Nat.le_refl _, fun y z c h1 h2 => ?_, fun y hy => ?_, fun y c _ h => ?_, fun _ => hd, Around.frames_deeper e0.frames, .inr ⟨rfl, rfl⟩, fun b z => absurd z (noA b), e0.bs, e0.bsz, fun b _ _ => noA b, fun b z => absurd z (noA b), e0.funs, e0.frf⟩,
    rfl, e0.bare, Un.kept hk, ⟨_, x.toInCall.ns, fun i y v h1 h2 h3 => ?_⟩, fun y c h => ⟨_, x.cell y c h⟩, e0.hok.fresh (Nat.le_refl _), fun y c h => ?_, fun p hp => absurd (show p ∈ ([] : List (Addr × Obj)) from hp) (by simp), e0.hok.kept hk, ?_⟩
  · exact name_of_addr x.apart (PySem.mem_of_lookup h1) (PySem.mem_of_lookup h2)
  · have hy : scope.names.lookup y = some .cell ∨ scope.names.lookup y = some .free := hy
    rcases hy with hy | hy
    · exact cell_has hy
    · exact absurd rfl (S.nofree _ (PySem.mem_of_lookup hy))
  · exact Nat.le_of_lt (x.above y c (PySem.mem_of_lookup h))
  · have hi : i < vs.length := by
      unfold start at h2
      by_cases hi : i < vs.length
      · exact hi
      · rw [List.getElem?_append_right (by simpa using hi)] at h2
        rw [List.getElem?_replicate] at h2
        split at h2 <;> cases h2
    have ha : vs[i]? = some v := by
      unfold start at h2
      rw [List.getElem?_append_left (by simpa using hi), List.getElem?_map] at h2
      cases e : vs[i]? with
      | none => rw [e] at h2; cases h2
      | some a => rw [e] at h2; cases h2; rfl
    obtain ⟨u, hu, rv⟩ := r.get ha
    have hp : ps[i]? = some y := by
      rw [← S.pre, List.getElem?_take_of_lt (by omega)]; exact h1
    have ndP : ps.Nodup := by rw [← S.pre]; exact S.nd.sublist (List.take_sublist _ _)
    refine ⟨u, rv, ?_⟩
    rcases S.par y (List.mem_of_getElem? hp) with k | k
    · exact .inl ⟨k, bindL_get ndP hp hu k⟩
    · obtain ⟨c, e⟩ := cell_has (n := s.heap.objs.size + 1) k
      refine .inr ⟨.inl k, c, e, ?_⟩
      have q := x.cell y c e
      rw [bindC_get ndP hp hu (by show scope.names.lookup y ≠ _; rw [k]; decide)] at q
      exact q
  · exact e0.hok.fresh (Nat.le_of_lt (x.above y c (PySem.mem_of_lookup h)))
  · unfold start
    show _ = N.length
    rw [List.length_append, List.length_map, List.length_replicate]
    omega

/-- THE RULE: a def (or a method) of the text, by its body. The body's reading t is chosen for each entry; it is run at the parameters' values -/
theorem fn_of {CX : CXT} {P : Program} {w : World} {K : PySem.W.Frag} {mg : Str → Option Value} {base : Heap} {k : Nat} {f : Addr} {name qual : Str} {params : Arguments} {body : List Stmt} {scope : Scope} {dV kV doc pm cdv ct oc : Value} {an od : Option Addr}
    {osl : Array (Option Value)} {N ps : List Str} {sp : Sp} (lk : K.lookup f = some ⟨oc, od, .func (PySem.W.fnOf name qual params body scope dV kV doc pm an cdv ct), osl⟩) (hcd : PySem.W.codeIn K cdv qual = true) (S : FnScope N ps scope)
    (len : ∀ vs H Q E, sp vs H Q E → vs.length = ps.length)
    (hbody : ∀ (A : Around) (outer : List Env) (s : Shared) (H : Hp) (vs : List V) (Q : VK) (E : XK), Room k (A.deeper (envOfC qual scope s.heap.objs.size f cdv)) → sp vs H Q E →
      ∃ t, PSs (cxOf CX P w K mg base N qual scope f cdv A outer s H E) body t ∧ t { nx := fun _ H' => Q .non H', rt := Q } (start N vs) H) :
    FnOk P w K mg base CX (k + 1) f (PySem.W.fnOf name qual params body scope dV kV doc pm an cdv ct) ps sp := by
  refine ⟨len, fun A outer s H args us vs Q E hr e0 hb r hsp => ?_⟩
  have hl := len _ _ _ _ hsp
  have KX : K.In s.heap := e0.mod.kin.keeps fun b o e => (e0.bs b o e).1
  have lim : s.heap.NoLimit := e0.mod.nolimit.keeps fun b o e => (e0.bs b o e).1
  have hkind : ∀ y ∈ ps.zip us, scope.names.lookup y.1 = some .local ∨ (scope.names.lookup y.1 = some .cell ∧ ((cellsFrom (s.heap.objs.size + 1) scope.names []).lookup y.1).isSome = true) := fun ⟨n, v⟩ hy => by
    rcases S.par n (List.of_mem_zip hy).1 with q | q
    · exact .inl q
    · exact .inr ⟨q, PySem.W.cellsFrom_some _ _ _ (.inl q)⟩
  refine codeAny_call_function hr.depth (KX _ _ lk) rfl S.co S.gen rfl (PySem.W.codeRec_of KX hcd) (hb _ _ _ _ ?_)
  refine wpAny_newFunctionEnv_cells S.kind hkind fun env he s1 x => ?_
  subst he
  refine ⟨lim.keeps x.toInCall.keep, codeAny_func ?_⟩
  obtain ⟨t, ht, hq⟩ := hbody A outer s H vs Q E (hr.deeper _) hsp
  have I : Inv (cxOf CX P w K mg base N qual scope f cdv A outer s H E) [] (start N vs) H s1 := inv_start S hr.hd e0 hl r x
  refine wpAny_mono (ht [] s1 (start N vs) H _ I hq) (fun fl s' hs => ?_) fun e s' hs => hs
  have fin : ∀ {σ' : St} {H' : Hp} {v : V} {u : Value}, Inv (cxOf CX P w K mg base N qual scope f cdv A outer s H E) [] σ' H' s' → RelV v u → Q v H' → CE outer P w H s Q u s' :=
    fun {σ' H' v u} J rv q => ⟨v, H', J.os, J.bare, J.base, J.hok, rv, q⟩
  cases fl with
  | ret u =>
    obtain ⟨v, σ', H', J, rv, q⟩ := hs
    exact fin J rv q
  | next =>
    obtain ⟨σ', H', J, q⟩ := hs
    exact fin (v := V.non) (u := Value.none) J rfl q
  | brk =>
    obtain ⟨_, _, _, q⟩ := hs
    exact False.elim q
  | cont =>
    obtain ⟨_, _, _, q⟩ := hs
    exact False.elim q
end L2

namespace L2
open PySem PySem.Spec PyProof.Rows
section
variable {X : Cx} {x : Str} {p pos : Pos} {e : Expr} {es : List Expr} {t : TA} {id T : String} {r : List V → Hp → VK → Prop}

def tCB (r : List V → Hp → VK → Prop) (t : TA) : TE := fun σ H Q => t σ H fun vs H1 => r vs H1 Q
/-- f(e, ..), f a built-in function -/
theorem pe_callB (hc : CallR X (.builtin id) r) (hg : Gl X x) (hm : X.mg x = none) (hv : bootBuiltins x = some (.builtin id)) (ha : PA X (e :: es) t) (hn : x ≠ "__name__" := by decide) (hdb : (x == ("__debug__" : Str)) = false := by decide)
    (he : starEach (e :: es) X.env = (false, eval e X.env) :: starEach es X.env := by rfl) (hpl : (backTo pos (starEach es X.env)).any (·.1) = false := by rfl) : PE X (.Call (.Name x p) (e :: es) [] pos) (tCB r t) := by
  intro pins s σ H Q I h
  refine wpAny_Call_Name_kw (ld_blt I hg hm hv ?_ hn hdb)
  exact PyProof.Rows.callWith_builtin1 (thn (ha pos pins s σ H _ I h) fun us s1 ⟨vs, H1, I1, r1, q1⟩ => hc pins s1 σ H1 vs us Q I1 r1 q1) he hpl
/-- T(e, ..), T a built-in type -/
theorem pe_callTy (hc : CallR X (.type T) r) (hg : Gl X x) (hm : X.mg x = none) (hv : bootBuiltins x = some (.type T)) (ha : PA X (e :: es) t) (hn : x ≠ "__name__" := by decide) (hdb : (x == ("__debug__" : Str)) = false := by decide)
    (he : starEach (e :: es) X.env = (false, eval e X.env) :: starEach es X.env := by rfl) (hpl : (backTo pos (starEach es X.env)).any (·.1) = false := by rfl) : PE X (.Call (.Name x p) (e :: es) [] pos) (tCB r t) := by
  intro pins s σ H Q I h
  refine wpAny_Call_Name_kw (ld_blt I hg hm hv ?_ hn hdb)
  exact PyProof.Rows.callWith_type1 (thn (ha pos pins s σ H _ I h) fun us s1 ⟨vs, H1, I1, r1, q1⟩ => hc pins s1 σ H1 vs us Q I1 r1 q1) he hpl
/-- T() -/
theorem pe_callTy0 (hc : CallR X (.type T) r) (hg : Gl X x) (hm : X.mg x = none) (hv : bootBuiltins x = some (.type T)) (hn : x ≠ "__name__" := by decide) (hdb : (x == ("__debug__" : Str)) = false := by decide) :
    PE X (.Call (.Name x p) [] [] pos) (tCB r tNil) := by
  intro pins s σ H Q I h
  refine wpAny_Call_Name_kw (ld_blt I hg hm hv ?_ hn hdb)
  exact PyProof.Rows.callWith_type0 (hc pins s σ H [] [] Q I .nil h)
end
end L2

namespace HT
open PySem PyProof.Rows

/-- t < u of tuples of ints -/
def lexLt : List Int → List Int → Bool
  | [], [] => false
  | [], _ :: _ => true
  | _ :: _, [] => false
  | x :: xs, y :: ys => if x = y then lexLt xs ys else decide (x < y)
theorem lexLt_cons (x y : Int) (xs ys : List Int) : lexLt (x :: xs) (y :: ys) = if x = y then lexLt xs ys else decide (x < y) := rfl
theorem lexLt_nil_nil : lexLt [] [] = false := rfl
theorem lexLt_nil_cons (y : Int) (ys : List Int) : lexLt [] (y :: ys) = true := rfl
theorem lexLt_cons_nil (x : Int) (xs : List Int) : lexLt (x :: xs) [] = false := rfl

theorem eqAt_int (A : Around) (s : Shared) (a : Int) (t : Tok) (c : Int) (u : Tok) : ∃ e, SeqAt.EqAt A s (.int a t) (.int c u) e ∧ (e = true ↔ a = c) :=
  ⟨(a == c), SeqAt.EqAt.int_int a t c u, by simp⟩
theorem rcLt_int (A : Around) (s : Shared) (a : Int) (t : Tok) (c : Int) (u : Tok) (prog : Program) (w : World) (E : Value → Shared → Prop) (Q : Value → Shared → Prop) (h : Q (.bool (decide (a < c))) s) :
    wpAny (model prog w) A (richCompare .Lt (.int a t) (.int c u)) Q E s :=
  (PyProof.Rows.lt_int h : wpAny (model prog w) A (compareOp .Lt (.int a t) (.int c u)) Q E s)

section
open PySem.SeqAt
open PySem.AutoSeq1 (wpAny_loadPart')
open PySem.MeetsSeq PySem.MeetsSeq2 PySem.MeetsSeq3

theorem tuple_lt_ints (l b : Addr) (items items2 : Array Value) (n n2 : Nat) (dd dd2 : Option Addr) (sl sl2 : Array (Option Value)) (ns ms : List Int) (hi : IntsAre items.toList ns) (hj : IntsAre items2.toList ms) :
    Meets (Builtin.«tuple.__lt__» ⟨[.ref l, .ref b], []⟩)
      (fun _ R s => s.heap.get? l = some { cls := .type "tuple", dict := dd, data := .seq items n, slots := sl } ∧ s.heap.get? b = some { cls := .type "tuple", dict := dd2, data := .seq items2 n2, slots := sl2 } ∧
        R (.ok (.ret (.bool (lexLt ns ms)))) s) :=
  .of_wp fun prog w A R s h => by
    obtain ⟨hp, g, d, tk, os⟩ := s; obtain ⟨hl, hb, h⟩ := h
    have f2 := AutoSeq1.sub_tuple_tuple
    have z1 : items.size = ns.length := by rw [← hi.length]; simp
    have z2 : items2.size = ms.length := by rw [← hj.length]; simp
    wp_walk using wpAny_loadPart' hl, wpAny_loadPart' hb, wpAny_forIn_list _ (fun rest b s' => b.1 = none ∧ s' = ⟨hp, g, d, tk, os⟩ ∧ ∃ (vs ws : List Value) (ns' ms' : List Int), rest = vs.zip ws ∧
      IntsAre vs ns' ∧ IntsAre ws ms' ∧ ns'.length + items2.size = ms'.length + items.size ∧ R (.ok (.ret (.bool (lexLt ns' ms')))) ⟨hp, g, d, tk, os⟩) _
    case turn =>
      rintro ⟨y, x⟩ rest b s' ⟨hb', rfl, vs, ws, ns', ms', hz, hvi, hwi, hlen, hR⟩
      cases hvi with
      | nil => rw [List.zip_nil_left] at hz; cases hz
      | cons a t hvi' =>
        cases hwi with
        | nil => rw [List.zip_nil_right] at hz; cases hz
        | cons c u hwi' =>
          rw [List.zip_cons_cons] at hz
          injection hz with hyx hrest
          injection hyx with hy hx
          subst hy hx
          rw [lexLt_cons] at hR
          simp only [List.length_cons] at hlen
          obtain ⟨e, he, hiff⟩ := eqAt_int A.in1 ⟨hp, g, d, tk, os⟩ a t c u
          refine wpAny_bind (he prog w _ _ ?_)
          cases e with
          | true =>
            rw [if_pos (hiff.mp rfl)] at hR
            wp_walk
            exact ⟨rfl, rfl, _, _, _, _, hrest, hvi', hwi', by omega, hR⟩
          | false =>
            rw [if_neg (fun q => absurd (hiff.mpr q) Bool.false_ne_true)] at hR
            have hri := rcLt_int A.in1 ⟨hp, g, d, tk, os⟩ a t c u prog w
            wp_walk using hri
            exact ⟨_, rfl, by simpa using hR⟩
    case fin =>
      rintro ⟨b1, b2⟩ s' ⟨hb', rfl, vs, ws, ns', ms', hz, hvi, hwi, hlen, hR⟩
      simp only at hb'
      subst hb'
      have hv : lexLt ns' ms' = decide (items.size < items2.size) := by
        cases hvi with
        | nil =>
          cases hwi with
          | nil =>
            simp only [List.length_nil] at hlen
            rw [lexLt_nil_nil]
            exact (decide_eq_false (by omega)).symm
          | cons c u hw =>
            simp only [List.length_nil, List.length_cons] at hlen
            rw [lexLt_nil_cons]
            exact (decide_eq_true (by omega)).symm
        | cons a t hv =>
          cases hwi with
          | nil =>
            simp only [List.length_nil, List.length_cons] at hlen
            rw [lexLt_cons_nil]
            exact (decide_eq_false (by omega)).symm
          | cons c u hw =>
            rw [List.zip_cons_cons] at hz
            cases hz
      rw [hv] at hR
      wp_walk
      exact ⟨_, rfl, by simpa [Builtin.Tuple.tupleCompareSizes] using hR⟩
    case h =>
      exact ⟨rfl, rfl, items.toList, items2.toList, ns, ms, rfl, hi, hj, by omega, h⟩
end

section
variable {prog : Program} {w : World} {A : Around} {E : Value → Shared → Prop} {s : Shared}

theorem lt_tupInts {l b : Addr} {items items2 : Array Value} {ns ms : List Int} {Q : Value → Shared → Prop} (hl : IsTup s.heap l items) (hb : IsTup s.heap b items2) (hi : IntsAre items.toList ns) (hj : IntsAre items2.toList ms)
    (hu : A.units < cLine) (h : Q (.bool (lexLt ns ms)) s) : wpAny (model prog w) A (compareOp .Lt (.ref l) (.ref b)) Q E s := by
  obtain ⟨⟨cls, dd, data, sl⟩, ho, hc, n, hd⟩ := id hl
  obtain ⟨⟨cls2, dd2, data2, sl2⟩, ho2, hc2, n2, hd2⟩ := id hb
  simp only at hc hd hc2 hd2
  subst hc hd hc2 hd2
  exact richCompare_meets_room (op := .Lt) ⟨_, ho, rfl⟩ ⟨_, ho2, rfl⟩ PySem.F.slot_tuple_lt PySem.F.entry_tuple_lt (PySem.F.args_tuple_lt_2 _ _) (tuple_lt_ints l b items items2 n n2 dd dd2 sl sl2 ns ms hi hj)
    ⟨ho, ho2, show Value.bool (lexLt ns ms) ≠ Value.notImplemented ∧ Q (.bool (lexLt ns ms)) s from ⟨(fun x => nomatch x), h⟩⟩ hu

/-- t + u, t not empty -/
theorem cat_tup {t b : Addr} {vs ws : List Value} {Q : Value → Shared → Prop} (ht : IsTup s.heap t vs.toArray) (hb : IsTup s.heap b ws.toArray) (hv : vs ≠ [])
    (h1 : ws = [] → Q (.ref t) s) (h2 : ws ≠ [] → Q (.ref s.heap.objs.size) { s with heap := s.heap.push { cls := .type "tuple", data := .seq (vs ++ ws).toArray } })
    (hsz : vs.length + ws.length ≤ sizeLine) : wpAny (model prog w) A (binaryOp .Add (.ref t) (.ref b)) Q E s := by
  obtain ⟨⟨cls, dd, data, sl⟩, ho, hc, n, hd⟩ := id ht
  obtain ⟨⟨cls2, dd2, data2, sl2⟩, ho2, hc2, n2, hd2⟩ := id hb
  simp only at hc hd hc2 hd2
  subst hc hd hc2 hd2
  have e : vs.toArray ++ ws.toArray = (vs ++ ws).toArray := by simp
  by_cases hw : ws = []
  · exact concat_meets ⟨_, ho, rfl⟩ ⟨_, ho2, rfl⟩ noFill_tuple_add seq_tuple_add PySem.F.slot_tuple_add PySem.F.entry_tuple_add (PySem.F.args_tuple_add_2 _ _)
      (tuple_addW1 t b vs.toArray ws.toArray n n2 dd dd2 sl sl2 (by simpa using hv) (by simp [hw])) ⟨ho, ho2, h1 hw⟩
  · refine concat_meets ⟨_, ho, rfl⟩ ⟨_, ho2, rfl⟩ noFill_tuple_add seq_tuple_add PySem.F.slot_tuple_add PySem.F.entry_tuple_add (PySem.F.args_tuple_add_2 _ _)
      (tuple_addW2 t b vs.toArray ws.toArray n n2 dd dd2 sl sl2 (by simpa using hv) (by simpa using hw) (by rw [List.size_toArray, List.size_toArray]; exact hsz)) ⟨ho, ho2, ?_⟩
    rw [e]
    exact h2 hw

/-! ### t[a:b], not the whole -/
/-- a slice's bound as a place among n (d where it is left out) -/
def sIx (n d : Nat) : Option Int → Nat
  | none => d
  | some v => if v < 0 then (v + (n : Int)).toNat else min v.toNat n
theorem sIx_none (n d : Nat) : sIx n d none = d := rfl
theorem sIx_nat (n d k : Nat) : sIx n d (some (k : Int)) = min k n := by
  show (if (k : Int) < 0 then ((k : Int) + (n : Int)).toNat else min (k : Int).toNat n) = min k n
  rw [if_neg (by omega), Int.toNat_natCast]
theorem sIx_le (n d : Nat) (hd : d ≤ n) (o : Option Int) : sIx n d o ≤ n := by
  cases o with
  | none => exact hd
  | some v =>
    show (if v < 0 then (v + (n : Int)).toNat else min v.toNat n) ≤ n
    by_cases hv : v < 0
    · rw [if_pos hv]; omega
    · rw [if_neg hv]; exact Nat.min_le_right _ _
theorem clip_eq (v : Int) (n d : Nat) : (if v < 0 then max (v + (n : Int)) 0 else min v (n : Int)) = ((sIx n d (some v) : Nat) : Int) := by
  show (if v < 0 then max (v + (n : Int)) 0 else min v (n : Int)) = (((if v < 0 then (v + (n : Int)).toNat else min v.toNat n) : Nat) : Int)
  by_cases hv : v < 0
  · simp only [if_pos hv]; omega
  · simp only [if_neg hv]; omega
theorem adjust_gen (lo hi : Option Int) (n : Nat) : Builtin.Slice.sliceAdjust lo hi 1 (n : Int) = (((sIx n 0 lo : Nat) : Int), ((sIx n n hi : Nat) : Int)) := by
  have h1 : ¬ ((1 : Int) < 0) := by omega
  unfold Builtin.Slice.sliceAdjust
  simp only [h1, if_false]
  refine Prod.ext ?_ ?_
  · cases lo with
    | none => rfl
    | some v => exact clip_eq v n 0
  · cases hi with
    | none => rfl
    | some v => exact clip_eq v n n
theorem places_gen (i j : Nat) : Builtin.Slice.slicePlaces (i : Int) (j : Int) 1 = j - i := by
  unfold Builtin.Slice.slicePlaces
  have h1 : (1 : Int) > 0 := by omega
  simp only [h1, if_true, Int.ediv_one]
  split <;> omega
theorem slicePart_ {v : Value} {o : Option Int} {Q : Option Int → Shared → Prop} (p : IsPart v o) (h : Q o s) : wpAny (model prog w) A (Builtin.Slice.slicePartIndex v) Q E s := by
  cases p with
  | none => exact slicePart_none h
  | int i t => exact slicePart_int h
theorem sliceApplied_gen {sl : Addr} {vl vu : Value} {lo hi : Option Int} {n : Nat} {Q : Int × Int × Nat → Shared → Prop} (hs : s.heap.IsSliceOf sl vl vu .none) (pl : IsPart vl lo) (pu : IsPart vu hi)
    (h : Q (((sIx n 0 lo : Nat) : Int), 1, sIx n n hi - sIx n 0 lo) s) : wpAny (model prog w) A (Builtin.Slice.sliceApplied (.ref sl) (pure (n : Int))) Q E s := by
  obtain ⟨os, hos, hcs, hds⟩ := id hs
  unfold Builtin.Slice.sliceApplied Builtin.Slice.sliceFields
  refine wpAny_bind (wpAny_bind (wpAny_field hos hds (x := vl) rfl (wpAny_bind (wpAny_field hos hds (x := vu) rfl (wpAny_bind (wpAny_field hos hds (x := .none) rfl (wpAny_pure ?_)))))))
  refine wpAny_bind (slicePart_none ?_)
  show wpAny _ _ (if ((1 : Int) == 0) = true then _ else _) _ _ s
  rw [if_neg (by decide)]
  refine wpAny_bind (slicePart_ pl (wpAny_bind (slicePart_ pu (wpAny_bind (wpAny_pure ?_)))))
  show wpAny _ _ (match Builtin.Slice.sliceAdjust lo hi 1 (n : Int) with | (lo, hi) => pure (lo, (1 : Int), Builtin.Slice.slicePlaces lo hi 1)) _ _ s
  rw [adjust_gen lo hi n]
  show wpAny _ _ (pure (((sIx n 0 lo : Nat) : Int), (1 : Int), Builtin.Slice.slicePlaces ((sIx n 0 lo : Nat) : Int) ((sIx n n hi : Nat) : Int) 1)) _ _ s
  rw [places_gen]
  exact wpAny_pure h
theorem pick_gen (xs : Array Value) (i k : Nat) : ((List.range k).filterMap fun (m : Nat) => xs[((i : Int) + (m : Int) * 1).toNat]?).toArray = ((xs.toList.drop i).take k).toArray := by
  have e : (fun (m : Nat) => xs[((i : Int) + (m : Int) * 1).toNat]?) = fun m => xs[i + m]? := by
    funext m
    have : ((i : Int) + (m : Int) * 1).toNat = i + m := by omega
    rw [this]
  rw [e]
  have := pick_run xs i k
  rw [List.filterMap_map] at this
  have e2 : ((fun x => xs[x]?) ∘ fun x => i + x) = fun m => xs[i + m]? := rfl
  rw [e2] at this
  rw [this]

theorem getItem_tuple_cut {t sl : Addr} {items : Array Value} {vl vu : Value} {lo hi : Option Int} {Q : Value → Shared → Prop} (ht : IsTup s.heap t items) (hs : s.heap.IsSliceOf sl vl vu .none) (pl : IsPart vl lo) (pu : IsPart vu hi)
    (hw : ¬ (sIx items.size 0 lo = 0 ∧ sIx items.size items.size hi = items.size))
    (h : Q (.ref s.heap.objs.size) { s with heap := s.heap.push { cls := .type "tuple", data := .seq ((items.toList.drop (sIx items.size 0 lo)).take (sIx items.size items.size hi - sIx items.size 0 lo)).toArray } })
    (hsz : items.size ≤ sizeLine) : wpAny (model prog w) A (getItem (.ref t) (.ref sl)) Q E s := by
  have htake : sizeOk (.seq ((items.toList.drop (sIx items.size 0 lo)).take (sIx items.size items.size hi - sIx items.size 0 lo)).toArray) := by
    show ((items.toList.drop (sIx items.size 0 lo)).take (sIx items.size items.size hi - sIx items.size 0 lo)).toArray.size ≤ sizeLine
    rw [List.size_toArray, List.length_take, List.length_drop, Array.length_toList]
    omega
  have hj : sIx items.size items.size hi ≤ items.size := sIx_le _ _ (Nat.le_refl _) hi
  obtain ⟨os, hos, hcs, hds⟩ := id hs
  have hTs : s.TypeIs (.ref sl) "slice" := ⟨os, hos, hcs⟩
  unfold getItem
  try with_reducible refine wpAny_holding ?_
  first | refine wpAny_bind (wpAny_pure ?_) | skip
  refine wpAny_bind (wpAny_sequenceKey ht.typeIs (by decide) ?_)
  refine wpAny_bind (wpAny_callSpecial?_slot (name := Str.ofString "__getitem__") ht.typeIs PyProof.Rows.slot_tuple_getitem
    (wpAny_call_entry PyProof.Rows.slot_tuple_getitem ht.typeIs entry_tuple_getitem ?_ (args_tuple_getitem _ _)))
  show wpAny _ _ (Builtin.Tuple.tupleItemsOf (.ref t) >>= _) _ _ s
  refine wpAny_bind (tupleItemsOf_ ht ?_)
  refine wpAny_bind (wpAny_typeOf hTs ?_)
  rw [if_pos (by decide)]
  refine wpAny_bind (sliceApplied_gen hs pl pu ?_)
  have hno : ¬ ((((sIx items.size 0 lo : Nat) : Int) == 0 && (1 : Int) == 1 && (sIx items.size items.size hi - sIx items.size 0 lo) == items.size) = true) := by
    intro q
    rw [Bool.and_eq_true, Bool.and_eq_true] at q
    have q1 : ((sIx items.size 0 lo : Nat) : Int) = 0 := eq_of_beq q.1.1
    have q2 : sIx items.size items.size hi - sIx items.size 0 lo = items.size := eq_of_beq q.2
    exact hw ⟨by omega, by omega⟩
  show wpAny _ _ (if (((sIx items.size 0 lo : Nat) : Int) == 0 && (1 : Int) == 1 && (sIx items.size items.size hi - sIx items.size 0 lo) == items.size) = true then _ else _) _ _ s
  rw [if_neg hno, pick_gen]
  first
    | exact wpAny_bind (m := Builtin.Tuple.tupleExact _) (wpAny_newObj_type (wpAny_pure ⟨_, rfl, wpAny_pure h⟩) htake)
    | exact wpAny_bind (m := Builtin.Tuple.tupleExact _) (wpAny_newObj_type (wpAny_bind (wpAny_pure (wpAny_pure ⟨_, rfl, wpAny_pure h⟩))) htake)
    | exact wpAny_bind (wpAny_bind (m := Builtin.Tuple.tupleExact _) (wpAny_newObj_type (wpAny_pure (wpAny_pure ⟨_, rfl, wpAny_pure h⟩)) htake))
    | exact wpAny_bind (wpAny_bind (m := Builtin.Tuple.tupleExact _) (wpAny_newObj_type (wpAny_pure ⟨_, rfl, wpAny_pure h⟩) htake))
end
end HT

namespace L2
open PySem PySem.Spec PyProof.Rows

/-! ### the parts of a slice -/
abbrev TO := St → Hp → (Option Int → Hp → Prop) → Prop
/-- a slice's part (left out, or an int) -/
def PO (X : Cx) (e : Option Expr) (t : TO) : Prop :=
  ∀ (pins : List (Addr × Obj)) (s : Shared) (σ : St) (H : Hp) (Q : Option Int → Hp → Prop), Inv X pins σ H s → t σ H Q →
    wpAny (model X.prog X.w) X.A (evalPart e X.env) (fun u s' => ∃ o H', Inv X pins σ H' s' ∧ IsPart u o ∧ Q o H') X.xe s
def tNoPart : TO := fun _ H Q => Q none H
def tPart (t : TE) : TO := fun σ H Q => t σ H fun x H1 => ∃ i, x = .int i ∧ Q (some i) H1

theorem intsAre_of {ns : List Int} : ∀ {us : List Value}, Vals (ns.map V.int) us → IntsAre us ns := by
  induction ns with
  | nil => intro us r; rw [List.map_nil] at r; cases r; exact .nil
  | cons n ns ih =>
    intro us r
    rw [List.map_cons] at r
    cases r with
    | cons r1 r2 =>
      obtain ⟨t, e⟩ := r1
      subst e
      exact .cons n t (ih r2)

section
variable {X : Cx} {e : Expr} {te : TE} {lo hi : Option Expr} {tl th : TO} {pos p2 : Pos}

theorem po_none : PO X none tNoPart := by
  intro pins s σ H Q I h
  rw [evalPart_none]
  exact wpAny_pure ⟨none, H, I, .none, h⟩
theorem po_some (h : PE X e te) : PO X (some e) (tPart te) := by
  intro pins s σ H Q I hw
  rw [evalPart_some]
  refine thn (h pins s σ H _ I hw) fun u s1 ⟨x, H1, I1, r1, q1⟩ => ?_
  obtain ⟨i, rfl, q⟩ := q1
  obtain ⟨t, rfl⟩ := r1
  exact ⟨some i, H1, I1, .int i t, q⟩

/-- what a slice of a value is, by values: the slice object stands at sl -/
def SlR (X : Cx) (r : V → Option Int → Option Int → Hp → VK → Prop) : Prop :=
  ∀ (pins : List (Addr × Obj)) (s : Shared) (σ : St) (H : Hp) (x : V) (v vl vu : Value) (lo hi : Option Int) (sl : Addr) (Q : VK), Inv X pins σ H s → RelV x v → s.heap.IsSliceOf sl vl vu .none → IsPart vl lo → IsPart vu hi → r x lo hi H Q →
    ∃ T id, typeLookup (.type T) "__getitem__" = pure (some (.builtin id)) ∧ s.TypeIs v T ∧ wpAny (model X.prog X.w) X.A (getItem v (.ref sl)) (EP X pins σ Q) X.xe s
theorem SlR.or {r r' : V → Option Int → Option Int → Hp → VK → Prop} (h : SlR X r) (h' : SlR X r') : SlR X (fun x lo hi H Q => r x lo hi H Q ∨ r' x lo hi H Q) := by
  intro pins s σ H x v vl vu lo hi sl Q I rx hs pl pu q
  rcases q with q | q
  · exact h pins s σ H x v vl vu lo hi sl Q I rx hs pl pu q
  · exact h' pins s σ H x v vl vu lo hi sl Q I rx hs pl pu q
def tSl (r : V → Option Int → Option Int → Hp → VK → Prop) (te : TE) (tl th : TO) : TE := fun σ H Q => te σ H fun x H1 => tl σ H1 fun l H2 => th σ H2 fun u H3 => r x l u H3 Q
/-- a[lo:hi], any a -/
theorem pe_slice {r : V → Option Int → Option Int → Hp → VK → Prop} (hr : SlR X r) (he : PE X e te) (hl : PO X lo tl) (hu : PO X hi th) : PE X (.Subscript e (.Slice lo hi none p2) pos) (tSl r te tl th) := by
  intro pins s σ H Q I h
  refine Subscript_ (thn (he pins s σ H _ I h) fun v s1 ⟨x, H1, I1, r1, q1⟩ => ?_)
  refine wpAny_Slice (thn (hl pins s1 σ H1 _ I1 q1) fun vl s2 ⟨l, H2, I2, pl, q2⟩ => thn (hu pins s2 σ H2 _ I2 q2) fun vu s3 ⟨u, H3, I3, pu, q3⟩ => ?_)
  rw [evalPart_none]
  refine wpAny_pure ?_
  have I4 : Inv X pins σ H3 { s3 with heap := s3.heap.push { cls := .type "slice", data := .fields #[vl, vu, .none] } } := I3.kept (t' := s3.toks) fun b ob q => Heap.get?_push_of_some _ q
  obtain ⟨T, id, hT, ht, hg⟩ := hr pins { s3 with heap := s3.heap.push { cls := .type "slice", data := .fields #[vl, vu, .none] } } σ H3 x v vl vu l u s3.heap.objs.size Q I4 r1 (Heap.IsSliceOf.new ..) pl pu q3
  show wpAny (model X.prog X.w) X.A (subscriptTail e (.Slice lo hi none p2) v (.ref s3.heap.objs.size)) (EP X pins σ Q) X.xe { s3 with heap := s3.heap.push { cls := .type "slice", data := .fields #[vl, vu, .none] } }
  exact tail_any (ops := [.ref s3.heap.objs.size, v]) ht hT hg (by with_unfolding_all rfl)

/-- the items of xs[lo:hi] -/
def cutV (xs : List V) (lo hi : Option Int) : List V := (xs.drop (HT.sIx xs.length 0 lo)).take (HT.sIx xs.length xs.length hi - HT.sIx xs.length 0 lo)
theorem cutV_length (xs : List V) (lo hi : Option Int) : (cutV xs lo hi).length ≤ xs.length := by
  unfold cutV
  rw [List.length_take, List.length_drop]
  omega
/-- t[lo:hi], not the whole of it (the whole would be t itself) -/
def rSlT (K : PySem.W.Frag) : V → Option Int → Option Int → Hp → VK → Prop := fun x lo hi H Q => ∃ a xs, x = .ref a ∧ SqT K H a xs ∧
  ¬ (HT.sIx xs.length 0 lo = 0 ∧ HT.sIx xs.length xs.length hi = xs.length) ∧ ∀ p, H p = none → Q (.ref p) (upd H p (.tup (cutV xs lo hi)))
theorem sl_tup : SlR X (rSlT X.K) := by
  intro pins s σ H x v vl vu lo hi sl Q I rx hs pl pu h
  obtain ⟨a, xs, rfl, hx, hw, q⟩ := h
  cases rx
  obtain ⟨its, r, ht, hz⟩ := I.tuple hx
  have hlen : its.toArray.size = xs.length := by rw [List.size_toArray]; exact r.length.symm
  refine ⟨"tuple", _, PyProof.Rows.slot_tuple_getitem.lookup, ht.typeIs, ?_⟩
  refine HT.getItem_tuple_cut ht hs pl pu (by rw [hlen]; exact hw) ?_ (by rw [hlen]; exact hz)
  rw [hlen]
  refine ⟨.ref s.heap.objs.size, _, I.laid (t' := s.toks) (o := .tup (cutV xs lo hi)) (fun b ob q => Heap.get?_push_of_some _ q) (Nat.le_refl _) ?_, rfl, q _ (I.hok.fresh (Nat.le_refl _))⟩
  exact ⟨Nat.le_trans (cutV_length xs lo hi) hz, _, (r.drop (HT.sIx xs.length 0 lo)).take (HT.sIx xs.length xs.length hi - HT.sIx xs.length 0 lo), IsTup.new _ _⟩

/-! ### t < u, t + u -/
def rLtT (K : PySem.W.Frag) : R2 := fun x y H Q => ∃ a b ns ms, x = .ref a ∧ y = .ref b ∧ SqT K H a (ns.map V.int) ∧ SqT K H b (ms.map V.int) ∧ Q (.bl (HT.lexLt ns ms)) H
theorem op_ltT (hu : X.A.units < cLine) : OpR X (compareOp .Lt) (rLtT X.K) := by
  intro pins s σ H x y v u Q I rx ry h
  obtain ⟨a, b, ns, ms, rfl, rfl, ha, hb, q⟩ := h
  cases rx
  cases ry
  obtain ⟨its, r1, p1, _⟩ := I.tuple ha
  obtain ⟨its2, r2, p2, _⟩ := I.tuple hb
  have i1 : IntsAre its.toArray.toList ns := intsAre_of r1
  have i2 : IntsAre its2.toArray.toList ms := intsAre_of r2
  exact HT.lt_tupInts p1 p2 i1 i2 hu ⟨.bl (HT.lexLt ns ms), H, I, rfl, q⟩
/-- t + u, t not empty: u empty gives t itself -/
def rCatT (K : PySem.W.Frag) : R2 := fun x y H Q => ∃ a b xs ys, x = .ref a ∧ y = .ref b ∧ SqT K H a xs ∧ SqT K H b ys ∧ xs ≠ [] ∧ xs.length + ys.length ≤ sizeLine ∧
  (ys = [] → Q (.ref a) H) ∧ (ys ≠ [] → ∀ p, H p = none → Q (.ref p) (upd H p (.tup (xs ++ ys))))
theorem Vals.nil_iff {xs : List V} {us : List Value} (r : Vals xs us) : us = [] ↔ xs = [] := by
  cases r with
  | nil => simp
  | cons _ _ => simp
theorem op_catT : OpR X (binaryOp .Add) (rCatT X.K) := by
  intro pins s σ H x y v u Q I rx ry h
  obtain ⟨a, b, xs, ys, rfl, rfl, ha, hb, hx, hz, q1, q2⟩ := h
  cases rx
  cases ry
  obtain ⟨its, r1, p1, _⟩ := I.tuple ha
  obtain ⟨its2, r2, p2, _⟩ := I.tuple hb
  refine HT.cat_tup p1 p2 (fun z => hx (r1.nil_iff.mp z)) (fun z => ⟨.ref a, H, I, rfl, q1 (r2.nil_iff.mp z)⟩) (fun z => ?_) (by rw [← r1.length, ← r2.length]; exact hz)
  refine ⟨.ref s.heap.objs.size, _, I.laid (t' := s.toks) (o := .tup (xs ++ ys)) (fun b ob q => Heap.get?_push_of_some _ q) (Nat.le_refl _) ?_, rfl, q2 (fun w => z (r2.nil_iff.mpr w)) _ (I.hok.fresh (Nat.le_refl _))⟩
  exact ⟨by rw [List.length_append]; exact hz, _, r1.append r2, IsTup.new _ _⟩
/-- tuple(t) -/
theorem call_tupleT : CallR X (.type "tuple") (fun xs H Q => ∃ a ys, xs = [.ref a] ∧ SqT X.K H a ys ∧ Q (.ref a) H) := by
  intro pins s σ H xs us Q I r h
  obtain ⟨a, ys, rfl, ha, q⟩ := h
  obtain ⟨u, rfl, ru⟩ := vals1 r
  cases ru
  obtain ⟨its, _, p1, _⟩ := I.tuple ha
  exact call_tuple_same (items := its.toArray) p1 ⟨.ref a, H, I, rfl, q⟩
end
end L2

namespace L2
open PySem PySem.Spec PyProof.Rows

/-! ### places -/
/-- the place that an index of any sign means -/
def ixN (n : Nat) (i : Int) : Option Nat := if 0 ≤ i then (if i < n then some i.toNat else none) else if -(n : Int) ≤ i then some (i + n).toNat else none
def atI {α : Type} (xs : List α) (i : Int) : Option α := (ixN xs.length i).bind fun j => xs[j]?
theorem ixN_seq {n : Nat} {i : Int} {j : Nat} (h : ixN n i = some j) : seqIndex? i n = some j ∧ j < n ∧ -(n : Int) ≤ i ∧ i < n := by
  unfold ixN at h
  by_cases h0 : 0 ≤ i
  · rw [if_pos h0] at h
    by_cases h1 : i < n
    · rw [if_pos h1] at h
      have e : i.toNat = j := Option.some.inj h
      exact ⟨by rw [seqIndex_of h0 h1, e], by omega, by omega, h1⟩
    · rw [if_neg h1] at h; cases h
  · rw [if_neg h0] at h
    by_cases h1 : -(n : Int) ≤ i
    · rw [if_pos h1] at h
      have e : (i + n).toNat = j := Option.some.inj h
      exact ⟨by rw [seqIndex_neg (by omega) h1, e], by omega, h1, by omega⟩
    · rw [if_neg h1] at h; cases h
theorem atI_get {α : Type} {xs : List α} {i : Int} {v : α} (h : atI xs i = some v) : ∃ j, seqIndex? i xs.length = some j ∧ xs[j]? = some v ∧ j < xs.length ∧ -(xs.length : Int) ≤ i ∧ i < xs.length := by
  unfold atI at h
  cases e : ixN xs.length i with
  | none => rw [e] at h; cases h
  | some j =>
    rw [e] at h
    obtain ⟨h1, h2, h3, h4⟩ := ixN_seq e
    exact ⟨j, h1, h, h2, h3, h4⟩
theorem atI_nat {α : Type} {xs : List α} {j : Nat} {v : α} (h : xs[j]? = some v) : atI xs (j : Int) = some v := by
  have hj : j < xs.length := (List.getElem?_eq_some_iff.mp h).1
  have e : ixN xs.length (j : Int) = some j := by
    unfold ixN
    rw [if_pos (by omega), if_pos (by omega)]; simp
  unfold atI; rw [e]; exact h
theorem atI_last {α : Type} (xs : List α) (v : α) : atI (xs ++ [v]) (-1) = some v := by
  have hl : (xs ++ [v]).length = xs.length + 1 := by simp
  have e : ixN (xs ++ [v]).length (-1) = some xs.length := by
    unfold ixN
    rw [hl, if_neg (by decide), if_pos (by omega)]
    congr 1
    omega
  unfold atI
  rw [e]
  show (xs ++ [v])[xs.length]? = some v
  simp

/-! ### what may be subscripted -/
/-- what stands as an index of a plain subscript -/
def PlainIx (b : Expr) : Prop := ∀ o i, subscripted b false o i = operate [o, i] (getItem o i)
/-- a subscript by values -/
def IxR (X : Cx) (r : R2) : Prop :=
  ∀ (value slice : Expr) (pins : List (Addr × Obj)) (s : Shared) (σ : St) (H : Hp) (x y : V) (v u : Value) (Q : VK), Inv X pins σ H s → RelV x v → RelV y u → r x y H Q →
    subscripted slice false v u = operate [v, u] (getItem v u) → wpAny (model X.prog X.w) X.A (subscriptTail value slice v u) (EP X pins σ Q) X.xe s
/-- a call of a builtin's method by values: the receiver, the arguments -/
def MtR (X : Cx) (id : String) (r : V → List V → Hp → VK → Prop) : Prop :=
  ∀ (pins : List (Addr × Obj)) (s : Shared) (σ : St) (H : Hp) (x : V) (xs : List V) (v : Value) (us : List Value) (Q : VK), Inv X pins σ H s → RelV x v → Vals xs us → r x xs H Q →
    wpAny (model X.prog X.w) X.A (call (.builtin id) (v :: us)) (EP X pins σ Q) X.xe s
section
variable {X : Cx} {a b : Expr} {ta tb : TE} {pos : Pos}
theorem IxR.or {r r' : R2} (h : IxR X r) (h' : IxR X r') : IxR X (fun x y H Q => r x y H Q ∨ r' x y H Q) := by
  intro value slice pins s σ H x y v u Q I rx ry q hs
  rcases q with q | q
  · exact h value slice pins s σ H x y v u Q I rx ry q hs
  · exact h' value slice pins s σ H x y v u Q I rx ry q hs
theorem MtR.or {id : String} {r r' : V → List V → Hp → VK → Prop} (h : MtR X id r) (h' : MtR X id r') : MtR X id (fun x xs H Q => r x xs H Q ∨ r' x xs H Q) := by
  intro pins s σ H x xs v us Q I rx rs q
  rcases q with q | q
  · exact h pins s σ H x xs v us Q I rx rs q
  · exact h' pins s σ H x xs v us Q I rx rs q
/-- a[b] -/
theorem pe_ix {r : R2} (hr : IxR X r) (ha : PE X a ta) (hb : PE X b tb) (hs : PlainIx b) : PE X (.Subscript a b pos) (tOp r ta tb) := by
  intro pins s σ H Q I h
  exact Subscript_ (binT ha hb I h fun v u s2 x y H2 I2 rx ry q => hr a b pins s2 σ H2 x y v u Q I2 rx ry q (hs _ _))

def rIxL (K : PySem.W.Frag) : R2 := fun x y H Q => ∃ p xs i v, x = .ref p ∧ y = .int i ∧ SqL K H p xs ∧ atI xs i = some v ∧ Q v H
def rIxT (K : PySem.W.Frag) : R2 := fun x y H Q => ∃ p xs i v, x = .ref p ∧ y = .int i ∧ SqT K H p xs ∧ atI xs i = some v ∧ Q v H
def rIxS : R2 := fun x y H Q => ∃ z i c, x = .str z ∧ y = .int i ∧ z.length ≤ sizeLine ∧ atI z.cps.toList i = some c ∧ Q (.str ⟨#[c]⟩) H
theorem ix_list : IxR X (rIxL X.K) := by
  intro value slice pins s σ H x y v u Q I rx ry h hs
  obtain ⟨p, xs, i, z, rfl, rfl, hq, he, q⟩ := h
  cases rx
  obtain ⟨t, rfl⟩ := ry
  obtain ⟨its, r, pl, hz⟩ := I.list hq
  obtain ⟨j, h1, h2, h3, h4, h5⟩ := atI_get he
  obtain ⟨w, ew, rw'⟩ := r.get h2
  have hl := r.length
  have hn := line63
  have fin : EP X pins σ Q w s := ⟨z, H, I, rw', q⟩
  by_cases h0 : 0 ≤ i
  · have hj : i.toNat = j := by
      rw [seqIndex_of h0 h5] at h1
      exact Option.some.inj h1
    exact item_listR pl.isList h0 (by omega) (by rw [hj]; simpa using ew) fin hs
  · have hj : (i + (its.toArray.size : Int)).toNat = j := by
      rw [seqIndex_neg (by omega) h4] at h1
      rw [List.size_toArray, ← hl]
      exact Option.some.inj h1
    exact subscriptTail_builtinR (x := w) pl.isList.typeIs slot_list_getitem.lookup
      (wpAny_getItem_list_neg (Q := fun r s' => r = w ∧ EP X pins σ Q r s') pl.isList (by omega) (by rw [List.size_toArray] <;> omega) (by omega) (by rw [hj]; simpa using ew) ⟨rfl, fin⟩) hs
theorem ix_tup : IxR X (rIxT X.K) := by
  intro value slice pins s σ H x y v u Q I rx ry h hs
  obtain ⟨p, xs, i, z, rfl, rfl, hq, he, q⟩ := h
  cases rx
  obtain ⟨t, rfl⟩ := ry
  obtain ⟨its, r, pl, hz⟩ := I.tuple hq
  obtain ⟨j, h1, h2, h3, h4, h5⟩ := atI_get he
  obtain ⟨w, ew, rw'⟩ := r.get h2
  have hl := r.length
  have hn := line63
  have fin : EP X pins σ Q w s := ⟨z, H, I, rw', q⟩
  exact subscriptTail_builtinR (x := w) pl.typeIs slot_tuple_getitem.lookup
    (getItem_tuple (j := j) (Q := fun r s' => r = w ∧ EP X pins σ Q r s') pl (by omega) (by omega) (by rw [List.size_toArray, ← hl]; exact h1) (by simpa using ew) ⟨rfl, fin⟩) hs
theorem ix_str : IxR X rIxS := by
  intro value slice pins s σ H x y v u Q I rx ry h hs
  obtain ⟨z, i, c, rfl, rfl, hz, he, q⟩ := h
  obtain ⟨t, rfl⟩ := rx
  obtain ⟨t', rfl⟩ := ry
  obtain ⟨j, h1, h2, h3, h4, h5⟩ := atI_get he
  have hl : z.cps.toList.length = z.length := by simp [Str.length]
  rw [hl] at h1 h4 h5
  have hn := line63
  exact tail_any (typeIs_str s z t) slot_str_getitem.lookup (getItem_str (c := c) (by
    have e1 : decide (i < -(2 ^ 63 : Int)) = false := decide_eq_false (by omega)
    have e2 : decide (i ≥ 2 ^ 63) = false := decide_eq_false (by omega)
    rw [e1, e2, Bool.or_false]) (by rw [h1]; simpa using h2) ⟨.str ⟨#[c]⟩, H, I.tok _, ⟨_, rfl⟩, q⟩) hs
/-- list, tuple or str -/
def rIx (K : PySem.W.Frag) : R2 := fun x y H Q => rIxL K x y H Q ∨ rIxT K x y H Q ∨ rIxS x y H Q
theorem ix_seq : IxR X (rIx X.K) := ix_list.or (ix_tup.or ix_str)

/-! ### xs[i] = v, any sign -/
/-- the list's object behind a store -/
theorem mapSeq_set (its : List Value) (n j : Nat) (u : Value) : Obj.mapSeq (·.setIfInBounds j u) { cls := .type "list", data := .seq its.toArray n } = { cls := .type "list", data := .seq (its.set j u).toArray n } := by
  simp [Obj.mapSeq]
theorem Inv.lst {pins : List (Addr × Obj)} {σ : St} {H : Hp} {s : Shared} {p : Addr} {xs : List V} (I : Inv X pins σ H s) (h : H p = some (.lst xs)) :
    ∃ (its : List Value) (n : Nat), Vals xs its ∧ s.heap.get? p = some { cls := .type "list", data := .seq its.toArray n } ∧ xs.length ≤ sizeLine := by
  obtain ⟨z, its, n, r, e⟩ := I.hok p _ h
  exact ⟨its, n, r, e, z⟩
/-- the list at p is written by an update of its object -/
theorem Inv.lstUpd {pins : List (Addr × Obj)} {σ : St} {H : Hp} {s : Shared} {p : Addr} {xs ys : List V} {its its' : List Value} {n n' : Nat} {f : Obj → Obj} (I : Inv X pins σ H s) (h : H p = some (.lst xs))
    (ho : s.heap.get? p = some { cls := .type "list", data := .seq its.toArray n }) (hf : f { cls := .type "list", data := .seq its.toArray n } = { cls := .type "list", data := .seq its'.toArray n' }) (r : Vals ys its') (hz : ys.length ≤ sizeLine) (t : Nat) :
    Inv X pins σ (upd H p (.lst ys)) { s with heap := s.heap.update p f, toks := t } := by
  have e : (s.heap.update p f).get? p = some { cls := .type "list", data := .seq its'.toArray n' } := by
    rw [Heap.get?_update_self f ho (by rw [hf] <;> rfl), hf]
  refine I.write (x := p) (e := p) (by rw [h]; trivial) (.inl rfl) (fun b u hb q => (Heap.get?_update_other _ _ (Ne.symm hb)).trans q) ⟨_, e⟩ ?_
  exact ⟨hz, its', n', r, e⟩
def rSetL : V → V → V → Hp → (Hp → Prop) → Prop := fun o i v H Q => ∃ p xs k j, o = .ref p ∧ i = .int k ∧ H p = some (.lst xs) ∧ ixN xs.length k = some j ∧ Q (upd H p (.lst (xs.set j v)))
theorem set_list : PSet X rSetL := by
  intro pins s σ H o i v ov iv u Q I ro ri rv h
  obtain ⟨p, xs, k, j, rfl, rfl, hp, hj, q⟩ := h
  cases ro
  obtain ⟨t, rfl⟩ := ri
  obtain ⟨its, n, r, ho, hz⟩ := I.lst hp
  obtain ⟨h1, h2, h3, h4⟩ := ixN_seq hj
  have hl := r.length
  have hn := line63
  have I' : Inv X pins σ (upd H p (.lst (xs.set j v))) { s with heap := s.heap.update p (Obj.mapSeq (·.setIfInBounds j u)) } :=
    I.lstUpd hp ho (mapSeq_set its n j u) (r.set rv j) (by rw [List.length_set]; exact hz) s.toks
  by_cases h0 : 0 ≤ k
  · have hk : k.toNat = j := by
      rw [seqIndex_of h0 h4] at h1
      exact Option.some.inj h1
    exact PySem.W.ki_setAt ho h0 (by omega) (by rw [List.size_toArray, ← hl]; exact h4) (by rw [hk]; exact ⟨_, I', q⟩)
  · have hk : (k + (its.toArray.size : Int)).toNat = j := by
      rw [seqIndex_neg (by omega) h3] at h1
      rw [List.size_toArray, ← hl]
      exact Option.some.inj h1
    exact PySem.W.ki_setBack ho (by omega) (by rw [List.size_toArray, ← hl]; exact h3) (by omega) (by rw [hk]; exact ⟨_, I', q⟩)

/-! ### slices -/
theorem slice_bounds (lo hi : Option Int) (n : Nat) : (sliceBounds lo hi none n).1 = ((HT.sIx n 0 lo : Nat) : Int) ∧ (sliceBounds lo hi none n).2.1 = ((HT.sIx n n hi : Nat) : Int) ∧ (sliceBounds lo hi none n).2.2 = 1 := by
  refine ⟨?_, ?_, rfl⟩
  · cases lo with
    | none => simp [sliceBounds, HT.sIx]
    | some i =>
      simp only [sliceBounds, HT.sIx, Option.getD_none, show (1 : Int) > 0 by decide, if_true]
      by_cases h : i < 0
      · simp only [h, if_true] <;> omega
      · simp only [h, if_false] <;> omega
  · cases hi with
    | none => simp [sliceBounds, HT.sIx]
    | some i =>
      simp only [sliceBounds, HT.sIx, Option.getD_none, show (1 : Int) > 0 by decide, if_true]
      by_cases h : i < 0
      · simp only [h, if_true] <;> omega
      · simp only [h, if_false] <;> omega
theorem slicePick_cut (its : List Value) (lo hi : Option Int) : slicePick its.toArray lo hi none = ((its.drop (HT.sIx its.length 0 lo)).take (HT.sIx its.length its.length hi - HT.sIx its.length 0 lo)).toArray := by
  obtain ⟨h1, h2, h3⟩ := slice_bounds lo hi its.toArray.size
  unfold slicePick
  rw [h1, h2, h3]
  simp only [sliceRange_one, pick_run, List.size_toArray] <;> rfl
/-- xs[lo:hi] of a list: a new list -/
def rSlL (K : PySem.W.Frag) : V → Option Int → Option Int → Hp → VK → Prop := fun x lo hi H Q => ∃ a xs, x = .ref a ∧ SqL K H a xs ∧ ∀ p, H p = none → Q (.ref p) (upd H p (.lst (cutV xs lo hi)))
theorem sl_list : SlR X (rSlL X.K) := by
  intro pins s σ H x v vl vu lo hi sl Q I rx hs pl pu h
  obtain ⟨a, xs, rfl, hx, q⟩ := h
  cases rx
  obtain ⟨its, r, ht, hz⟩ := I.list hx
  have hlen := r.length
  refine ⟨"list", _, slot_list_getitem.lookup, ht.isList.typeIs, ?_⟩
  refine wpAny_getItem_list_slice ht.isList hs pl pu .none (by simp) ?_ (by rw [List.size_toArray] <;> omega)
  rw [slicePick_cut, ← hlen]
  refine ⟨.ref s.heap.objs.size, _, I.laid (t' := s.toks) (o := .lst (cutV xs lo hi)) (fun b ob q => Heap.get?_push_of_some _ q) (Nat.le_refl _) ?_, rfl, q _ (I.hok.fresh (Nat.le_refl _))⟩
  exact ⟨Nat.le_trans (cutV_length xs lo hi) hz, _, 0, (r.drop (HT.sIx xs.length 0 lo)).take (HT.sIx xs.length xs.length hi - HT.sIx xs.length 0 lo), Heap.get?_push_size _ rfl⟩

/-! ### in, not in: flat items -/
def flatV : V → Bool
  | .non => true
  | .bl _ => true
  | .int _ => true
  | .str _ => true
  | _ => false
/-- == of flat values -/
def eqV : V → V → Bool
  | .non, .non => true
  | .bl a, .bl b => a == b
  | .bl a, .int b => (if a then 1 else 0) == b
  | .int a, .bl b => a == (if b then 1 else 0)
  | .int a, .int b => a == b
  | .str a, .str b => a == b
  | _, _ => false
theorem eqAt_V {A : Around} {s : Shared} {y x : V} {u v : Value} (ry : RelV y u) (rx : RelV x v) (fy : flatV y = true) (fx : flatV x = true) : SeqAt.EqAt A s u v (eqV y x) := by
  cases y with
  | non =>
    cases ry
    cases x with
    | non => cases rx; exact SeqAt.EqAt.same _
    | bl b => cases rx; exact SeqAt.EqAt.none_bool b
    | int b => obtain ⟨t, rfl⟩ := rx; exact SeqAt.EqAt.none_int b t
    | str b => obtain ⟨t, rfl⟩ := rx; exact SeqAt.EqAt.none_str b t
    | _ => exact absurd (show false = true from fx) Bool.false_ne_true
  | bl a =>
    cases ry
    cases x with
    | non => cases rx; exact SeqAt.EqAt.bool_none a
    | bl b => cases rx; exact SeqAt.EqAt.bool_bool a b
    | int b => obtain ⟨t, rfl⟩ := rx; exact SeqAt.EqAt.bool_int a b t
    | str b => obtain ⟨t, rfl⟩ := rx; exact SeqAt.EqAt.bool_str a b t
    | _ => exact absurd (show false = true from fx) Bool.false_ne_true
  | int a =>
    obtain ⟨t', rfl⟩ := ry
    cases x with
    | non => cases rx; exact SeqAt.EqAt.int_none a t'
    | bl b => cases rx; exact SeqAt.EqAt.int_bool a t' b
    | int b => obtain ⟨t, rfl⟩ := rx; exact SeqAt.EqAt.int_int a t' b t
    | str b => obtain ⟨t, rfl⟩ := rx; exact SeqAt.EqAt.int_str a t' b t
    | _ => exact absurd (show false = true from fx) Bool.false_ne_true
  | str a =>
    obtain ⟨t', rfl⟩ := ry
    cases x with
    | non => cases rx; exact SeqAt.EqAt.str_none a t'
    | bl b => cases rx; exact SeqAt.EqAt.str_bool a t' b
    | int b => obtain ⟨t, rfl⟩ := rx; exact SeqAt.EqAt.str_int a t' b t
    | str b => obtain ⟨t, rfl⟩ := rx; exact SeqAt.EqAt.str_str a t' b t
    | _ => exact absurd (show false = true from fx) Bool.false_ne_true
  | _ => exact absurd (show false = true from fy) Bool.false_ne_true
/-- the items' answers, read off the values (a value's own answer does not lean on its token) -/
def eqU (x : V) (u : Value) : Bool := match u with
  | .none => eqV .non x
  | .bool b => eqV (.bl b) x
  | .int i _ => eqV (.int i) x
  | .str z _ => eqV (.str z) x
  | _ => false
theorem eqU_of {x y : V} {u : Value} (r : RelV y u) (f : flatV y = true) : eqU x u = eqV y x := by
  cases y with
  | non => cases r; rfl
  | bl b => cases r; rfl
  | int i => obtain ⟨t, rfl⟩ := r; rfl
  | str z => obtain ⟨t, rfl⟩ := r; rfl
  | _ => exact absurd (show false = true from f) Bool.false_ne_true
theorem any_eqU {x : V} : ∀ {xs : List V} {us : List Value}, Vals xs us → xs.all flatV = true → us.any (eqU x) = xs.any fun y => eqV y x
  | _, _, .nil, _ => rfl
  | y :: xs, u :: us, .cons r t, f => by
    rw [List.all_cons, Bool.and_eq_true] at f
    rw [List.any_cons, List.any_cons, eqU_of r f.1, any_eqU t f.2]
theorem mem_eqAt {A : Around} {s : Shared} {x : V} {v : Value} (rx : RelV x v) (fx : flatV x = true) : ∀ {xs : List V} {us : List Value}, Vals xs us → xs.all flatV = true → ∀ u ∈ us, SeqAt.EqAt A s u v (eqU x u)
  | _, _, .nil, _ => fun u hu => by cases hu
  | y :: xs, u :: us, .cons r t, f => fun u' hu => by
    rw [List.all_cons, Bool.and_eq_true] at f
    rcases List.mem_cons.mp hu with rfl | hu
    · rw [eqU_of r f.1]; exact eqAt_V r rx f.1 fx
    · exact mem_eqAt rx fx t f.2 u' hu
def inV (x : V) (xs : List V) : Bool := xs.any fun y => eqV y x
/-- x in a list or tuple of flat items -/
def rIn (K : PySem.W.Frag) (neg : Bool) : R2 := fun x y H Q => ∃ p xs, y = .ref p ∧ (SqL K H p xs ∨ SqT K H p xs) ∧ flatV x = true ∧ xs.all flatV = true ∧ Q (.bl (if neg then !inV x xs else inV x xs)) H
theorem op_in_seq : OpR X (compareOp .In) (rIn X.K false) := by
  intro pins s σ H x y v u Q I rx ry h
  obtain ⟨p, xs, rfl, hq, fx, fs, q⟩ := h
  cases ry
  rcases hq with hq | hq
  · obtain ⟨its, r, pl, hz⟩ := I.list hq
    refine SeqAt.in_listAt (eqU x) pl.isList (fun w hw => mem_eqAt rx fx r fs w (by simpa using hw)) ⟨.bl _, H, I, rfl, ?_⟩
    rw [show its.toArray.any (eqU x) = its.any (eqU x) by simp, any_eqU r fs]
    exact q
  · obtain ⟨its, r, pl, hz⟩ := I.tuple hq
    refine SeqAt.in_tupleAt (eqU x) pl (fun w hw => mem_eqAt rx fx r fs w (by simpa using hw)) ⟨.bl _, H, I, rfl, ?_⟩
    rw [show its.toArray.any (eqU x) = its.any (eqU x) by simp, any_eqU r fs]
    exact q
theorem op_notIn_seq : OpR X (compareOp .NotIn) (rIn X.K true) := by
  intro pins s σ H x y v u Q I rx ry h
  obtain ⟨p, xs, rfl, hq, fx, fs, q⟩ := h
  cases ry
  rcases hq with hq | hq
  · obtain ⟨its, r, pl, hz⟩ := I.list hq
    refine SeqAt.notIn_listAt (eqU x) pl.isList (fun w hw => mem_eqAt rx fx r fs w (by simpa using hw)) ⟨.bl _, H, I, rfl, ?_⟩
    rw [show its.toArray.any (eqU x) = its.any (eqU x) by simp, any_eqU r fs]
    exact q
  · obtain ⟨its, r, pl, hz⟩ := I.tuple hq
    refine SeqAt.notIn_tupleAt (eqU x) pl (fun w hw => mem_eqAt rx fx r fs w (by simpa using hw)) ⟨.bl _, H, I, rfl, ?_⟩
    rw [show its.toArray.any (eqU x) = its.any (eqU x) by simp, any_eqU r fs]
    exact q
theorem op_notIn_str : OpR X (compareOp .NotIn) (fun x y H Q => ∃ i j, x = .str i ∧ y = .str j ∧ Q (.bl (!(!(Builtin.Str.occurrences j i 0 j.length 1).isEmpty))) H) := by
  intro pins s σ H x y v u Q I rx ry h
  obtain ⟨i, j, rfl, rfl, q⟩ := h
  obtain ⟨t, rfl⟩ := rx
  obtain ⟨t', rfl⟩ := ry
  exact notIn_str ⟨.bl _, H, I, rfl, q⟩

/-! ### len, list(x), tuple(x) of any list or tuple that is read -/
theorem call_len_seq : CallR X (.builtin "len") (fun xs H Q => ∃ p ys, xs = [.ref p] ∧ (SqL X.K H p ys ∨ SqT X.K H p ys) ∧ Q (.int ys.length) H) := by
  intro pins s σ H xs us Q I r h
  obtain ⟨p, ys, rfl, hq, q⟩ := h
  obtain ⟨u, rfl, rx⟩ := vals1 r
  cases rx
  have hn := line63
  rcases hq with hq | hq
  · obtain ⟨its, r', pl, hz⟩ := I.list hq
    have hlen := r'.length
    exact Calls.call_len_list pl.isList (by simp only [List.size_toArray] <;> omega) ⟨.int ys.length, H, I.tok _, ⟨s.toks + 1, by rw [List.size_toArray, hlen]⟩, q⟩
  · obtain ⟨its, r', pl, hz⟩ := I.tuple hq
    have hlen := r'.length
    exact len_tuple pl (by simp only [List.size_toArray] <;> omega) ⟨.int ys.length, H, I.tok _, ⟨s.toks + 1, by rw [List.size_toArray, hlen]⟩, q⟩
theorem call_len_str : CallR X (.builtin "len") (fun xs H Q => ∃ z, xs = [.str z] ∧ z.length ≤ sizeLine ∧ Q (.int z.length) H) := by
  intro pins s σ H xs us Q I r h
  obtain ⟨z, rfl, hz, q⟩ := h
  obtain ⟨u, rfl, t, rfl⟩ := vals1 r
  have hn := line63
  exact len_str (by omega) ⟨.int z.length, H, I.tok _, ⟨_, rfl⟩, q⟩
theorem CallR.or {f : Value} {r r' : List V → Hp → VK → Prop} (h : CallR X f r) (h' : CallR X f r') : CallR X f (fun xs H Q => r xs H Q ∨ r' xs H Q) := by
  intro pins s σ H xs us Q I rs q
  rcases q with q | q
  · exact h pins s σ H xs us Q I rs q
  · exact h' pins s σ H xs us Q I rs q
theorem call_list_of : CallR X (.type "list") (fun xs H Q => ∃ p ys, xs = [.ref p] ∧ (SqL X.K H p ys ∨ SqT X.K H p ys) ∧ ∀ l, H l = none → Q (.ref l) (upd H l (.lst ys))) := by
  intro pins s σ H xs us Q I r h
  obtain ⟨p, ys, rfl, hq, q⟩ := h
  obtain ⟨u, rfl, rx⟩ := vals1 r
  cases rx
  have fin : ∀ (its : List Value), Vals ys its → ys.length ≤ sizeLine → ∀ (h' : Heap) (c' : Nat), (∀ b o', s.heap.get? b = some o' → h'.get? b = some o') →
      h'.get? s.heap.objs.size = some { cls := .type "list", dict := none, data := .seq its.toArray c', slots := #[] } → EP X pins σ Q (.ref s.heap.objs.size) { s with heap := h' } := fun its r' hz h' c' kp e =>
    ⟨.ref s.heap.objs.size, _, I.laid (t' := s.toks) kp (Nat.le_refl _) (show ObjOk X.prog X.w _ h' _ (.lst ys) from ⟨hz, its, c', r', e⟩), rfl, q _ (I.hok.fresh (Nat.le_refl _))⟩
  rcases hq with hq | hq
  · obtain ⟨its, r', pl, hz⟩ := I.list hq
    have hlen := r'.length
    obtain ⟨o, ho, hc, n, hd⟩ := pl.isList
    exact call_list_seq p (.inl rfl) ho hc hd (fun h' c' kp e => fin its r' hz h' c' kp e) (by simp only [List.size_toArray] <;> omega)
  · obtain ⟨its, r', pl, hz⟩ := I.tuple hq
    have hlen := r'.length
    obtain ⟨o, ho, hc, n, hd⟩ := pl
    exact call_list_seq p (.inr rfl) ho hc hd (fun h' c' kp e => fin its r' hz h' c' kp e) (by simp only [List.size_toArray] <;> omega)
theorem call_tuple_of : CallR X (.type "tuple") (fun xs H Q => ∃ p ys, xs = [.ref p] ∧ ((SqL X.K H p ys ∧ ∀ l, H l = none → Q (.ref l) (upd H l (.tup ys))) ∨ (SqT X.K H p ys ∧ Q (.ref p) H))) := by
  intro pins s σ H xs us Q I r h
  obtain ⟨p, ys, rfl, h⟩ := h
  obtain ⟨u, rfl, rx⟩ := vals1 r
  cases rx
  rcases h with ⟨hq, q⟩ | ⟨hq, q⟩
  · obtain ⟨its, r', pl, hz⟩ := I.list hq
    have hlen := r'.length
    refine call_tuple_list pl.isList (fun h' kp => ?_) (by simp only [List.size_toArray] <;> omega)
    have I1 : Inv X pins σ H { s with heap := h' } := I.kept (t' := s.toks) kp
    have I2 : Inv X pins σ (upd H h'.objs.size (.tup ys)) { s with heap := h'.push { cls := .type "tuple", data := .seq its.toArray } } :=
      I1.laid (t' := s.toks) (fun b o e => Heap.get?_push_of_some _ e) (Nat.le_refl _) (show ObjOk X.prog X.w _ _ _ (.tup ys) from ⟨hz, its, r', IsTup.new _ _⟩)
    exact ⟨.ref h'.objs.size, _, I2, rfl, q _ (I1.hok.fresh (Nat.le_refl _))⟩
  · obtain ⟨its, r', pl, hz⟩ := I.tuple hq
    exact call_tuple_same pl ⟨.ref p, H, I, rfl, q⟩

/-! ### the call of a builtin's method: o.m(..) -/
/-- the value is of that builtin type -/
def tyV (K : PySem.W.Frag) (T : String) (x : V) (H : Hp) : Prop := match x with
  | .str _ => T = "str"
  | .int _ => T = "int"
  | .ref p => (T = "list" ∧ ∃ xs, SqL K H p xs) ∨ (T = "tuple" ∧ ∃ o, K.lookup p = some o ∧ o.cls = .type "tuple" ∧ o.dict = none) ∨
      (T = "dict" ∧ ((∃ kvs, H p = some (.dK kvs)) ∨ ∃ kvs, H p = some (.dT kvs))) ∨ (T = "set" ∧ ∃ S n, H p = some (.set S n))
  | _ => False
theorem tyV_is {pins : List (Addr × Obj)} {σ : St} {H : Hp} {s : Shared} {T : String} {x : V} {v : Value} (I : Inv X pins σ H s) (r : RelV x v) (ty : tyV X.K T x H) :
    s.TypeIs v T ∧ ∀ a, v = .ref a → ∃ ob, s.heap.get? a = some ob ∧ ob.dict = none := by
  cases x with
  | str z =>
    obtain ⟨t, rfl⟩ := r
    cases (show T = "str" from ty)
    exact ⟨typeIs_str s z t, fun _ e => nomatch e⟩
  | int i =>
    obtain ⟨t, rfl⟩ := r
    cases (show T = "int" from ty)
    exact ⟨typeIs_int s i t, fun _ e => nomatch e⟩
  | ref p =>
    cases r
    rcases ty with ⟨rfl, xs, hq⟩ | ⟨rfl, o, hk, hc, hd⟩ | ⟨rfl, hk⟩ | ⟨rfl, S, n, hk⟩
    · obtain ⟨its, _, pl, _⟩ := I.list hq
      refine ⟨pl.isList.typeIs, fun a e => ?_⟩
      cases e
      obtain ⟨o, n, e, c, hd, _⟩ := pl
      exact ⟨o, e, hd⟩
    · refine ⟨⟨o, I.kIn p o hk, hc⟩, fun a e => ?_⟩
      cases e
      exact ⟨o, I.kIn _ o hk, hd⟩
    · have z : ∃ o, s.heap.get? p = some o ∧ o.ExactDict := by
        rcases hk with ⟨kvs, hk⟩ | ⟨kvs, hk⟩
        · obtain ⟨_, _, _, _, o, _, _, e, ex, _⟩ := I.hok p _ hk
          exact ⟨o, e, ex⟩
        · obtain ⟨_, _, _, _, o, _, _, e, ex, _⟩ := I.hok p _ hk
          exact ⟨o, e, ex⟩
      obtain ⟨o, e, ex⟩ := z
      refine ⟨⟨o, e, ex.1⟩, fun a e2 => ?_⟩
      cases e2
      exact ⟨o, e, ex.2.1⟩
    · obtain ⟨o, _, _, _, e, ex, _⟩ := I.hok p _ hk
      refine ⟨⟨o, e, ex.1⟩, fun a e2 => ?_⟩
      cases e2
      exact ⟨o, e, ex.2.1⟩
  | _ => exact False.elim ty
def tBM0 (K : PySem.W.Frag) (T : String) (r : V → List V → Hp → VK → Prop) (to : TE) : TE := fun σ H Q => to σ H fun x H1 => tyV K T x H1 ∧ r x [] H1 Q
def tBM (K : PySem.W.Frag) (T : String) (r : V → List V → Hp → VK → Prop) (to : TE) (t : TA) : TE := fun σ H Q => to σ H fun x H1 => tyV K T x H1 ∧ t σ H1 fun xs H2 => r x xs H2 Q
variable {o e : Expr} {es : List Expr} {to : TE} {t : TA} {name : Str} {apos cpos : Pos} {T id : String} {r : V → List V → Hp → VK → Prop}
theorem pe_bm0 (pa : PlainAttrs T) (slot : Slot T name id) (hty : typeOf (.builtin id) = pure (.type "method_descriptor")) (hm : MtR X id r) (ho : PE X o to)
    (hbase : attributeBase o name X.env (eval o X.env) = eval o X.env := by rfl) (hline : (apos.endLine == cpos.line) = true := by rfl) : PE X (.Call (.Attribute o name apos) [] [] cpos) (tBM0 X.K T r to) := by
  intro pins s σ H Q I h
  refine wpAny_Call_method0_late hbase hline (thn (ho pins s σ H _ I h) fun v s1 ⟨x, H1, I1, r1, ty, q1⟩ => ?_)
  obtain ⟨h1, h2⟩ := tyV_is I1 r1 ty
  exact ⟨T, id, pa, slot, hty, h1, h2, Calls.callWith_builtin rfl (PySem.evalArgs_none (hm pins s1 σ H1 x [] v [] Q I1 r1 .nil q1))⟩
theorem pe_bm (pa : PlainAttrs T) (slot : Slot T name id) (hty : typeOf (.builtin id) = pure (.type "method_descriptor")) (hm : MtR X id r) (ho : PE X o to) (ha : PA X (e :: es) t)
    (hbase : attributeBase o name X.env (eval o X.env) = eval o X.env := by rfl)
    (hfew : ((backTo cpos (starEach (e :: es) X.env)).all (fun x => !x.1) && (backToKw cpos (keywordEach [] X.env)).all (fun x => x.1.isSome)
      && decide ((e :: es).length + ([] : List Keyword).length + (if ([] : List Keyword).isEmpty then 0 else 1) < 30)) = true := by rfl)
    (hline : (apos.endLine == cpos.line) = true := by rfl) (hs : starEach (e :: es) X.env = (false, eval e X.env) :: starEach es X.env := by rfl) (hplain : (backTo cpos (starEach es X.env)).any (·.1) = false := by rfl) :
    PE X (.Call (.Attribute o name apos) (e :: es) [] cpos) (tBM X.K T r to t) := by
  intro pins s σ H Q I h
  refine wpAny_Call_method_late hbase hfew hline rfl (thn (ho pins s σ H _ I h) fun v s1 ⟨x, H1, I1, r1, ty, q1⟩ => ?_)
  obtain ⟨h1, h2⟩ := tyV_is I1 r1 ty
  refine ⟨T, id, pa, slot, hty, h1, h2, ?_⟩
  have hA := ha cpos pins s1 σ H1 _ I1 q1
  rw [hs] at hA ⊢
  refine Calls.callWith_builtin (by show (false || (backTo cpos (starEach es X.env)).any (·.1)) = false; rw [hplain] <;> rfl) (Calls.evalArgs_plain ?_)
  exact thn hA fun us s2 ⟨vs, H2, I2, r2, q2⟩ => hm pins s2 σ H2 x vs v us Q I2 r1 r2 q2
/- xs.append(e), list.index on a module's tuple .. are MtR facts of 06m -/
end
end L2

namespace L2
open PySem PySem.Spec PyProof.Rows

def MtM (X : Cx) (id : String) (r : V → List V → Hp → VK → Prop) : Prop :=
  ∀ (pins : List (Addr × Obj)) (s : Shared) (σ : St) (H : Hp) (x : V) (xs : List V) (v : Value) (us : List Value) (Q : VK), Inv X pins σ H s → RelV x v → Vals xs us → r x xs H Q →
    wpAny (model X.prog X.w) X.A (call (.builtin id) (v :: us)) (EP X pins σ Q) X.xe s

/-! ### lists of values -/
theorem Vals.one : ∀ {x : V} {us : List Value}, Vals [x] us → ∃ u, us = [u] ∧ RelV x u
  | _, _, .cons r .nil => ⟨_, rfl, r⟩
theorem Vals.two : ∀ {x y : V} {us : List Value}, Vals [x, y] us → ∃ u v, us = [u, v] ∧ RelV x u ∧ RelV y v
  | _, _, _, .cons r (.cons q .nil) => ⟨_, _, rfl, r, q⟩
theorem Vals.zero : ∀ {us : List Value}, Vals [] us → us = []
  | _, .nil => rfl
theorem Vals.dropLast {xs : List V} {us : List Value} (h : Vals xs us) : Vals xs.dropLast us.dropLast := by
  induction h with
  | nil => exact .nil
  | cons r t ih =>
    cases t with
    | nil => exact .nil
    | cons q t' => exact .cons r ih
theorem Vals.eraseIdx : ∀ {xs : List V} {us : List Value} (i : Nat), Vals xs us → Vals (xs.eraseIdx i) (us.eraseIdx i)
  | _, _, _, .nil => .nil
  | _, _, 0, .cons _ t => t
  | _, _, i + 1, .cons r t => .cons r (Vals.eraseIdx i t)
theorem Vals.reverse {xs : List V} {us : List Value} (h : Vals xs us) : Vals xs.reverse us.reverse := by
  induction h with
  | nil => exact .nil
  | cons r t ih => rw [List.reverse_cons, List.reverse_cons]; exact Vals.append ih (.cons r .nil)
theorem Vals.rep {xs : List V} {us : List Value} (h : Vals xs us) : ∀ k : Nat, Vals (List.replicate k xs).flatten (List.replicate k us).flatten
  | 0 => .nil
  | k + 1 => by
    rw [List.replicate_succ, List.replicate_succ, List.flatten_cons, List.flatten_cons]
    exact Vals.append h (Vals.rep h k)
theorem erase_last {α : Type} (l : List α) : l.eraseIdx (l.length - 1) = l.dropLast := by
  induction l with
  | nil => rfl
  | cons a r ih =>
    cases r with
    | nil => rfl
    | cons b r =>
      have e : (a :: b :: r).length - 1 = ((b :: r).length - 1) + 1 := by
        have h1 : (a :: b :: r).length = r.length + 2 := rfl
        have h2 : (b :: r).length = r.length + 1 := rfl
        omega
      rw [e, List.eraseIdx_cons_succ, ih]
      all_goals rfl
theorem len_erase {α : Type} : ∀ (l : List α) (i : Nat), (l.eraseIdx i).length ≤ l.length
  | [], _ => Nat.le_refl _
  | _ :: _, 0 => Nat.le_succ _
  | _ :: r, i + 1 => Nat.succ_le_succ (len_erase r i)
theorem foldl_rep (its : List Value) : ∀ (k : Nat) (acc : List Value),
    List.foldl (fun x1 x2 => x1 ++ x2) acc.toArray (List.replicate k its.toArray) = (acc ++ (List.replicate k its).flatten).toArray
  | 0, acc => by simp
  | k + 1, acc => by
    have e : acc.toArray ++ its.toArray = (acc ++ its).toArray := by simp
    have e2 : (acc ++ its) ++ (List.replicate k its).flatten = acc ++ (List.replicate (k + 1) its).flatten := by
      rw [List.replicate_succ, List.flatten_cons, List.append_assoc]
    rw [← e2, ← foldl_rep its k (acc ++ its), ← e, List.replicate_succ, List.foldl_cons]

section
variable {X : Cx} {pins : List (Addr × Obj)} {σ : St} {H : Hp} {s : Shared} {l b : Addr} {xs ys zs : List V}

/-! ### the two steps: a tracked list is rewritten, a new list is laid -/
theorem Inv.lset {its its' : List Value} {n : Nat} {f : Array Value → Array Value} {t' : Nat} (I : Inv X pins σ H s) (hH : H l = some (.lst xs))
    (e : s.heap.get? l = some { cls := .type "list", data := .seq its.toArray n }) (hf : f its.toArray = its'.toArray) (hv : Vals ys its') (hz : ys.length ≤ sizeLine) :
    Inv X pins σ (upd H l (.lst ys)) { s with heap := s.heap.update l (Obj.mapSeq f), toks := t' } := by
  have q := PySem.IsL.update e f
  rw [hf] at q
  refine I.write (x := l) (e := l) (by rw [hH]; exact trivial) (.inl rfl) (fun b' u hb hu => (Heap.get?_update_other s.heap (Obj.mapSeq f) (Ne.symm hb)).trans hu) ⟨_, q⟩ ?_
  exact ⟨hz, its', _, hv, q⟩
theorem Inv.lnew {its : List Value} {t' : Nat} (I : Inv X pins σ H s) (hv : Vals ys its) (hz : ys.length ≤ sizeLine) :
    Inv X pins σ (upd H s.heap.objs.size (.lst ys)) { s with heap := s.heap.push { cls := .type "list", data := .seq its.toArray }, toks := t' } :=
  I.laid (fun _ _ q => Heap.get?_push_of_some _ q) (Nat.le_refl _) ⟨hz, its, 0, hv, Heap.get?_push_size _ rfl⟩
theorem Inv.fresh (I : Inv X pins σ H s) : H s.heap.objs.size = none := I.hok.fresh (Nat.le_refl _)
theorem Inv.lstM (I : Inv X pins σ H s) (hH : H l = some (.lst xs)) : xs.length ≤ sizeLine ∧ ∃ (its : List Value) (n : Nat), Vals xs its ∧ xs.length = its.length ∧ s.heap.get? l = some { cls := .type "list", data := .seq its.toArray n } := by
  obtain ⟨z, its, n, r, e⟩ := I.hok l _ hH
  exact ⟨z, its, n, r, r.length, e⟩

theorem notLongL {n : Nat} (h : n ≤ sizeLine) : Builtin.List.listTooLong n = false := by
  unfold Builtin.List.listTooLong
  exact decide_eq_false (by omega)
end

section
variable {X : Cx}

/-! ### methods -/
def rAppend : V → List V → Hp → VK → Prop := fun x vs H Q => ∃ l xs y, x = .ref l ∧ vs = [y] ∧ H l = some (.lst xs) ∧ xs.length < sizeLine ∧ Q .non (upd H l (.lst (xs ++ [y])))
theorem mt_append : MtM X "list.append" rAppend := by
  intro pins s σ H x vs v us Q I rx rv h
  obtain ⟨l, xs, y, rfl, rfl, hH, hz, q⟩ := h
  cases rx
  obtain ⟨u, rfl, ru⟩ := rv.one
  obtain ⟨z, its, n, r, hl, e⟩ := I.lstM hH
  refine call_meets F.slot_list_append ⟨_, e, rfl⟩ F.entry_list_append (F.args_list_append_2 _ _) (PySem.list_append l its.toArray n u (by rw [List.size_toArray]; omega)) ⟨e, ?_⟩
  refine ⟨.non, _, I.lset (its' := its ++ [u]) hH e (by simp) (r.append (.cons ru .nil)) ?_, rfl, q⟩
  rw [List.length_append, List.length_singleton]
  omega

def rExtend : V → List V → Hp → VK → Prop := fun x vs H Q => ∃ l b xs zs, x = .ref l ∧ vs = [.ref b] ∧ H l = some (.lst xs) ∧ H b = some (.lst zs) ∧ xs.length + zs.length ≤ sizeLine ∧ Q .non (upd H l (.lst (xs ++ zs)))
theorem mt_extend : MtM X "list.extend" rExtend := by
  intro pins s σ H x vs v us Q I rx rv h
  obtain ⟨l, b, xs, zs, rfl, rfl, hH, hB, hz, q⟩ := h
  cases rx
  obtain ⟨u, rfl, ru⟩ := rv.one
  cases ru
  obtain ⟨z, its, n, r, hl, e⟩ := I.lstM hH
  obtain ⟨z2, its2, n2, r2, hl2, e2⟩ := I.lstM hB
  have hsz : its.toArray.size + its2.toArray.size ≤ sizeLine := by rw [List.size_toArray, List.size_toArray]; omega
  have hlong : ¬ (!its.toArray.isEmpty && Builtin.List.listTooLong (its.toArray.size + its2.toArray.size)) = true := by
    rw [notLongL hsz, Bool.and_false]
    exact Bool.false_ne_true
  refine call_meets F.slot_list_extend ⟨_, e, rfl⟩ F.entry_list_extend (F.args_list_extend_2 _ _)
    (AutoSeq1.list_extend_list_list_0 l its.toArray n b its2.toArray n2 hlong (by rw [List.size_toArray]; omega) (by omega)) ⟨e, e2, ?_⟩
  refine ⟨.non, _, I.lset (its' := its ++ its2) hH e (by simp) (r.append r2) ?_, rfl, q⟩
  rw [List.length_append]
  omega

def rPop : V → List V → Hp → VK → Prop := fun x vs H Q => ∃ l xs y, x = .ref l ∧ vs = [] ∧ H l = some (.lst xs) ∧ xs[xs.length - 1]? = some y ∧ Q y (upd H l (.lst xs.dropLast))
theorem mt_pop : MtM X "list.pop" rPop := by
  intro pins s σ H x vs v us Q I rx rv h
  obtain ⟨l, xs, y, rfl, rfl, hH, hy, q⟩ := h
  cases rx
  have hus := rv.zero
  subst hus
  obtain ⟨z, its, n, r, hl, e⟩ := I.lstM hH
  obtain ⟨u, hu, ru⟩ := r.get hy
  have hy' : its.toArray[its.toArray.size - 1]? = some u := by
    show its.toArray[its.length - 1]? = some u
    rw [← Array.getElem?_toList, ← hl]
    exact hu
  refine call_meets F.slot_list_pop ⟨_, e, rfl⟩ F.entry_list_pop (F.args_list_pop_1 _) (MeetsSeq.list_pop_last l its.toArray n u hy' (by rw [List.size_toArray]; omega)) ⟨e, ?_⟩
  refine ⟨y, _, I.lset (its' := its.dropLast) hH e ?_ r.dropLast ?_, ru, q⟩
  · show its.toArray.eraseIdxIfInBounds (its.toArray.size - 1) = its.dropLast.toArray
    rw [List.size_toArray, List.eraseIdxIfInBounds_toArray, erase_last]
  · rw [List.length_dropLast]
    omega

def rPopAt : V → List V → Hp → VK → Prop := fun x vs H Q => ∃ l xs i k y, x = .ref l ∧ vs = [.int i] ∧ H l = some (.lst xs) ∧ -(2 ^ 63) ≤ i ∧ i < 2 ^ 63 ∧ seqIndex? i xs.length = some k ∧ xs[k]? = some y ∧ Q y (upd H l (.lst (xs.eraseIdx k)))
theorem mt_popAt : MtM X "list.pop" rPopAt := by
  intro pins s σ H x vs v us Q I rx rv h
  obtain ⟨l, xs, i, k, y, rfl, rfl, hH, h1, h2, hk, hy, q⟩ := h
  cases rx
  obtain ⟨u, rfl, ru⟩ := rv.one
  obtain ⟨t, rfl⟩ := ru
  obtain ⟨z, its, n, r, hl, e⟩ := I.lstM hH
  obtain ⟨w, hw, rw'⟩ := r.get hy
  refine call_meets F.slot_list_pop ⟨_, e, rfl⟩ F.entry_list_pop (F.args_list_pop_2 _ _)
    (MeetsSeq.list_pop_at l its.toArray n i t k w (fitsIndex_both h1 h2) (by rw [List.size_toArray, ← hl]; exact hk) (by rw [← Array.getElem?_toList]; exact hw) (by rw [List.size_toArray]; omega)) ⟨e, ?_⟩
  refine ⟨y, _, I.lset (its' := its.eraseIdx k) hH e ?_ (r.eraseIdx k) ?_, rw', q⟩
  · show its.toArray.eraseIdxIfInBounds k = (its.eraseIdx k).toArray
    rw [List.eraseIdxIfInBounds_toArray]
  · have := len_erase xs k
    omega

def rReverse : V → List V → Hp → VK → Prop := fun x vs H Q => ∃ l xs, x = .ref l ∧ vs = [] ∧ H l = some (.lst xs) ∧ Q .non (upd H l (.lst xs.reverse))
theorem mt_reverse : MtM X "list.reverse" rReverse := by
  intro pins s σ H x vs v us Q I rx rv h
  obtain ⟨l, xs, rfl, rfl, hH, q⟩ := h
  cases rx
  have hus := rv.zero
  subst hus
  obtain ⟨z, its, n, r, hl, e⟩ := I.lstM hH
  refine call_meets F.slot_list_reverse ⟨_, e, rfl⟩ F.entry_list_reverse (F.args_list_reverse_1 _) (AutoSeq1.list_reverse_list_0 l its.toArray n (by rw [List.size_toArray]; omega)) ⟨e, ?_⟩
  refine ⟨.non, _, I.lset (its' := its.reverse) hH e (by simp) r.reverse ?_, rfl, q⟩
  rw [List.length_reverse]
  omega

def rClear : V → List V → Hp → VK → Prop := fun x vs H Q => ∃ l xs, x = .ref l ∧ vs = [] ∧ H l = some (.lst xs) ∧ Q .non (upd H l (.lst []))
theorem mt_clear : MtM X "list.clear" rClear := by
  intro pins s σ H x vs v us Q I rx rv h
  obtain ⟨l, xs, rfl, rfl, hH, q⟩ := h
  cases rx
  have hus := rv.zero
  subst hus
  obtain ⟨z, its, n, r, hl, e⟩ := I.lstM hH
  refine call_meets F.slot_list_clear ⟨_, e, rfl⟩ F.entry_list_clear (F.args_list_clear_1 _) (AutoSeq1.list_clear_list_0 l its.toArray n (by rw [List.size_toArray]; omega)) ⟨e, ?_⟩
  exact ⟨.non, _, I.lset (its' := []) (ys := []) hH e rfl .nil (Nat.zero_le _), rfl, q⟩

/-! ### list + list, list += list, list * int -/
def rCat : R2 := fun x y H Q => ∃ l b xs zs, x = .ref l ∧ y = .ref b ∧ H l = some (.lst xs) ∧ H b = some (.lst zs) ∧ xs.length + zs.length ≤ sizeLine ∧ ∀ p, H p = none → Q (.ref p) (upd H p (.lst (xs ++ zs)))
theorem op_cat : OpR X (binaryOp .Add) rCat := by
  intro pins s σ H x y v u Q I rx ry h
  obtain ⟨l, b, xs, zs, rfl, rfl, hH, hB, hz, q⟩ := h
  cases rx
  cases ry
  obtain ⟨z, its, n, r, hl, e⟩ := I.lstM hH
  obtain ⟨z2, its2, n2, r2, hl2, e2⟩ := I.lstM hB
  refine PySem.P.add_list e e2 ?_ (by rw [List.size_toArray, List.size_toArray]; omega)
  have ea : its.toArray ++ its2.toArray = (its ++ its2).toArray := by simp
  rw [ea]
  exact ⟨.ref _, _, I.lnew (t' := s.toks) (r.append r2) (by rw [List.length_append]; omega), rfl, q _ I.fresh⟩
/-- a list times an int (a negative one is nothing) -/
def rRep : R2 := fun x y H Q => ∃ l k xs, x = .ref l ∧ y = .int k ∧ H l = some (.lst xs) ∧ -(2 ^ 63) ≤ k ∧ k < 2 ^ 63 ∧ xs.length * k.toNat ≤ sizeLine ∧
  ∀ p, H p = none → Q (.ref p) (upd H p (.lst (List.replicate k.toNat xs).flatten))
theorem len_rep {α : Type} (xs : List α) (k : Nat) : (List.replicate k xs).flatten.length = k * xs.length := by
  induction k with
  | zero => simp
  | succ k ih => rw [List.replicate_succ, List.flatten_cons, List.length_append, ih, Nat.succ_mul, Nat.add_comm]
theorem op_rep : OpR X (binaryOp .Mult) rRep := by
  intro pins s σ H x y v u Q I rx ry h
  obtain ⟨l, k, xs, rfl, rfl, hH, h1, h2, hz, q⟩ := h
  cases rx
  obtain ⟨t, rfl⟩ := ry
  obtain ⟨z, its, n, r, hl, e⟩ := I.lstM hH
  have hlen : its.toArray.size * k.toNat ≤ sizeLine := by rw [List.size_toArray, ← hl]; exact hz
  have hcap : ¬ its.toArray.size * k.toNat > (2 ^ 63 - 1) / 8 := by
    have : (sizeLine : Nat) ≤ (2 ^ 63 - 1) / 8 := by decide
    omega
  have hfit : ¬ (!Builtin.List.listFitsIndex k) = true := by
    rw [fitsIndex_both h1 h2]
    exact Bool.false_ne_true
  have hlong : ¬ Builtin.List.listTooLong (its.toArray.size * k.toNat) = true := by
    rw [notLongL hlen]
    exact Bool.false_ne_true
  have hnew : List.foldl (fun x1 x2 => x1 ++ x2) #[] (List.replicate (if its.toArray.isEmpty = true then 0 else k.toNat) its.toArray) = (List.replicate k.toNat its).flatten.toArray := by
    have f0 : ∀ m : Nat, List.foldl (fun x1 x2 => x1 ++ x2) #[] (List.replicate m its.toArray) = (List.replicate m its).flatten.toArray := fun m => by
      have := foldl_rep its m []
      rw [List.nil_append] at this
      exact this
    rw [f0]
    cases its with
    | nil => simp
    | cons a r' => rw [if_neg (by simp)]
  refine wpAny_binaryOp_repeat_ref (T := "list") (U := "int") (by decide) ⟨_, e, rfl⟩ (fun s' => typeIs_int s' k t) noFill_list_mul F.fills_int_mul F.slot_int_rmul repeat_list F.slot_int_index.lookup
    (call_meets F.slot_int_rmul (typeIs_int s k t) F.entry_int_rmul (F.args_int_rmul_2 _ _) (int___rmul___int_list k t l its.toArray n)
      ⟨e, rfl, ⟨_, e, rfl⟩, call_meets F.slot_list_mul ⟨_, e, rfl⟩ F.entry_list_mul (F.args_list_mul_2 _ _) (AutoListH.list___mul___list_int_3 l its.toArray n k t hfit hcap hlong) ⟨e, ?_⟩⟩)
  rw [hnew]
  exact ⟨.ref _, _, I.lnew (t' := s.toks) (r.rep k.toNat) (by rw [len_rep, Nat.mul_comm]; exact hz), rfl, q _ I.fresh⟩

/-! ### del xs[i] -/
theorem del_list {pins : List (Addr × Obj)} {s : Shared} {σ : St} {H : Hp} {l : Addr} {xs : List V} {i : Int} {t : Tok} {k : Nat} {Q : Unit → Shared → Prop} (I : Inv X pins σ H s) (hH : H l = some (.lst xs))
    (h1 : -(2 ^ 63) ≤ i) (h2 : i < 2 ^ 63) (hk : seqIndex? i xs.length = some k) (h : ∀ s', Inv X pins σ (upd H l (.lst (xs.eraseIdx k))) s' → Q () s') :
    wpAny (model X.prog X.w) X.A (delItem (.ref l) (.int i t)) Q X.xe s := by
  obtain ⟨z, its, n, r, hl, e⟩ := I.lstM hH
  refine PySem.P.delItem_list (k := k) e (fitsIndex_both h1 h2) (by rw [List.size_toArray, ← hl]; exact hk) (h _ ?_) (by rw [List.size_toArray]; omega)
  refine I.lset (its' := its.eraseIdx k) (t' := s.toks) hH e ?_ (r.eraseIdx k) ?_
  · show its.toArray.eraseIdxIfInBounds k = (its.eraseIdx k).toArray
    rw [List.eraseIdxIfInBounds_toArray]
  · have := len_erase xs k
    omega
end

/-! ### xs[a:b] = ys -/
section
variable {prog : Program} {w : World} {A : Around} {E : Value → Shared → Prop} {s : Shared}
theorem splice_eq (its its2 : List Value) (a c : Nat) : its.toArray.extract 0 a ++ its2.toArray ++ its.toArray.extract c its.toArray.size = (its.take a ++ its2 ++ its.drop c).toArray := by
  apply Array.toList_inj.mp
  first
    | (simp
       exact List.take_of_length_le (by simp))
    | simp [List.take_of_length_le]
    | simp
theorem bounds_run {a c n : Nat} (hac : a ≤ c) (hc : c ≤ n) : sliceBounds (some (a : Int)) (some (c : Int)) none n = ((a : Int), (c : Int), 1) := by
  simp only [sliceBounds, Option.getD_none]
  have h1 : ¬ ((a : Int) < 0) := by omega
  have h2 : ¬ ((c : Int) < 0) := by omega
  simp only [h1, h2, if_false, show (1 : Int) > 0 by decide, if_true]
  congr 1
  · omega
  · congr 1; omega
set_option maxRecDepth 100000 in
/-- list.__setitem__ with a slice of step one and another list -/
theorem setItem_slice {l b sl : Addr} {items new : Array Value} {n n2 : Nat} {vl vu : Value} {a c : Nat} {Q : Unit → Shared → Prop}
    (e : s.heap.get? l = some { cls := .type "list", data := .seq items n }) (e2 : s.heap.get? b = some { cls := .type "list", data := .seq new n2 }) (hne : l ≠ b)
    (hs : s.heap.IsSliceOf sl vl vu .none) (pl : IsPart vl (some (a : Int))) (pu : IsPart vu (some (c : Int))) (hac : a ≤ c) (hc : c ≤ items.size)
    (hsz : items.size + new.size ≤ sizeLine) (h : Q () { s with heap := s.heap.update l (Obj.mapSeq fun xs => xs.extract 0 a ++ new ++ xs.extract c xs.size) }) :
    wpAny (model prog w) A (setItem (.ref l) (.ref sl) (.ref b)) Q E s := by
  have hl : s.heap.IsList l items := PySem.IsL.isList e
  have hb : s.heap.IsList b new := PySem.IsL.isList e2
  obtain ⟨os, hos, hcs, hds⟩ := id hs
  have hTs : s.TypeIs (.ref sl) "slice" := ⟨os, hos, hcs⟩
  have hstep : ¬ ((rawPart none == rawInt 0) = true) := Bool.false_ne_true
  have hsame : Builtin.List.listSameRef (.ref l) (.ref b) = false := by
    unfold Builtin.List.listSameRef
    exact beq_eq_false_iff_ne.mpr hne
  have hmax : (max (a : Int) (c : Int)).toNat = c := by omega
  have hz' : ((fun xs : Array Value => xs.extract 0 a ++ new ++ xs.extract c xs.size) items).size ≤ sizeLine + 1 := by
    simp only [Array.size_append, Array.size_extract]
    omega
  unfold setItem
  try with_reducible refine wpAny_holding ?_
  first | refine wpAny_bind (wpAny_pure ?_) | skip
  refine wpAny_bind (wpAny_sequenceKey hl.typeIs (by decide) ?_)
  refine wpAny_bind (wpAny_callSpecial?_slot (name := Str.ofString "__setitem__") hl.typeIs slot_list_setitem
    (wpAny_call_entry slot_list_setitem hl.typeIs entry_list_setitem ?_ (args_list_setitem _ _ _)))
  show wpAny _ _ (Builtin.List.listSubscript? (.ref sl) >>= _) _ _ s
  refine wpAny_bind ?_
  unfold Builtin.List.listSubscript?
  refine wpAny_bind (wpAny_specialOf hTs slice_no_index ?_)
  simp only [Option.isNone_none, if_true]
  refine wpAny_pure ?_
  show wpAny _ _ (typeOf (.ref sl) >>= _) _ _ s
  refine wpAny_bind (wpAny_typeOf hTs ?_)
  first
    | rw [if_neg (by decide)]
    | refine PySem.W.KFB.if_not (by decide) ?_
  rw [listSliceParts_eq]
  refine wpAny_bind (wpAny_bind (wpAny_field hos hds (x := .none) rfl (wpAny_bind (wpAny_listPart .none ?_))))
  rw [if_neg hstep]
  refine wpAny_bind (wpAny_field hos hds (x := vl) rfl (wpAny_bind (wpAny_listPart pl ?_)))
  refine wpAny_bind (wpAny_field hos hds (x := vu) rfl (wpAny_bind (wpAny_listPart pu (wpAny_pure ?_))))
  first
    | simp only [hsame, Bool.false_eq_true, if_false]
    | refine PySem.W.KFB.if_not hsame ?_
    | (dsimp only
       rw [if_neg (by rw [hsame]; exact Bool.false_ne_true)])
  refine wpAny_bind (m := Builtin.List.listAllItems (.ref b) "must assign iterable to extended slice") ?_
  unfold Builtin.List.listAllItems
  refine wpAny_bind (wpAny_typeOf hb.typeIs ?_)
  first
    | refine PySem.W.KFB.if_so (by decide) ?_
    | rw [if_pos (by decide)]
    | simp only [beq_self_eq_true, Bool.true_or, if_true]
  unfold Builtin.List.listItems
  refine wpAny_bind (wpAny_seqItems e2 rfl (wpAny_pure ?_))
  refine wpAny_bind (wpAny_bind (wpAny_seqItems e rfl (wpAny_pure ?_)))
  refine wpAny_bind (wpAny_of_eq ((sliceIndices_raw (some (a : Int)) (some (c : Int)) none items.size (by simp)).trans (congrArg (pure : Int × Int × Int → Sem (Int × Int × Int)) (bounds_run hac hc))) ?_)
  show wpAny _ _ (if ((1 : Int) == 1) = true then _ else _) _ _ s
  rw [if_pos (by decide)]
  refine wpAny_bind (wpAny_rule ?_)
  first
    | simp only [notLongL hsz, Bool.false_eq_true, if_false]
    | refine PySem.W.KFB.if_not (notLongL hsz) ?_
  first | refine wpAny_bind (wpAny_pure ?_) | skip
  show wpAny _ _ (updateSeq l (fun xs => xs.extract 0 ((a : Int)).toNat ++ new ++ xs.extract (max (a : Int) (c : Int)).toNat xs.size) >>= _) _ _ s
  rw [hmax, Int.toNat_natCast]
  refine wpAny_bind (wpAny_updateSeq (hz := Nat.le_trans (Nat.le_add_right _ _) hsz) (_hz' := hz') e rfl ?_)
  refine wpAny_bind (wpAny_letGo ?_)
  first
    | exact wpAny_bind (wpAny_pure (wpAny_pure ⟨.none, rfl, wpAny_pure h⟩))
    | exact wpAny_pure ⟨.none, rfl, wpAny_pure h⟩
end

section
variable {X : Cx}
/-- xs[a:c] = ys of another list, at the value level: sl is the slice object that was just made -/
theorem set_slice {pins : List (Addr × Obj)} {s : Shared} {σ : St} {H : Hp} {l b sl : Addr} {xs ys : List V} {a c : Int} {vl vu : Value} {Q : Unit → Shared → Prop} (I : Inv X pins σ H s)
    (hH : H l = some (.lst xs)) (hB : H b = some (.lst ys)) (hne : l ≠ b) (hs : s.heap.IsSliceOf sl vl vu .none) (ra : RelV (.int a) vl) (rc : RelV (.int c) vu) (h0 : 0 ≤ a) (hac : a ≤ c) (hc : c ≤ xs.length)
    (hz : xs.length + ys.length ≤ sizeLine) (h : ∀ s', Inv X pins σ (upd H l (.lst (xs.take a.toNat ++ ys ++ xs.drop c.toNat))) s' → Q () s') :
    wpAny (model X.prog X.w) X.A (setItem (.ref l) (.ref sl) (.ref b)) Q X.xe s := by
  obtain ⟨ta, rfl⟩ := ra
  obtain ⟨tc, rfl⟩ := rc
  obtain ⟨z, its, n, r, hl, e⟩ := I.lstM hH
  obtain ⟨z2, its2, n2, r2, hl2, e2⟩ := I.lstM hB
  obtain ⟨a', rfl⟩ := Int.eq_ofNat_of_zero_le h0
  obtain ⟨c', rfl⟩ := Int.eq_ofNat_of_zero_le (Int.le_trans h0 hac)
  simp only [Int.toNat_natCast] at h
  refine setItem_slice (a := a') (c := c') e e2 hne hs (.int _ _) (.int _ _) (by omega) (by rw [List.size_toArray]; omega) (by rw [List.size_toArray, List.size_toArray]; omega) (h _ ?_)
  refine I.lset (its' := its.take a' ++ its2 ++ its.drop c') (t' := s.toks) hH e ?_ (Vals.append (Vals.append (r.take _) r2) (r.drop _)) ?_
  · exact splice_eq its its2 a' c'
  · rw [List.length_append, List.length_append, List.length_take, List.length_drop]
    omega
end
end L2

namespace Att
open PySem PySem.W PySem.Calls PyProof.Rows

/-! ### the script -/
theorem ints_of_wellAll {P : Params} {h : Heap} : ∀ (ns : List Int) (vs : List Value), WellAll P h vs (ns.map WData.int) → IntsAre vs ns := by
  intro ns
  induction ns with
  | nil =>
    intro vs w
    rw [List.map_nil] at w
    cases w
    exact .nil
  | cons n ns ih =>
    intro vs w
    rw [List.map_cons] at w
    cases w with
    | cons a b =>
      cases a
      exact .cons _ _ (ih _ b)

theorem script_of {l : OpenLaw} {n : Nat} (hn : l.most = some n) {P : Params} {h : Heap} {args : List WData} {vals : List Value}
    (hpre : l.row.toRowW.claim.pre args = true) (hwl : WellAll P h vals args) :
    ∃ a vs ns, vals = [Value.ref a] ∧ args = [WData.list (ns.map WData.int)] ∧ h.get? a = some { cls := .type "list", data := .seq vs.toArray } ∧ IntsAre vs ns ∧ ns.length ≤ n := by
  have hsh : WShape.hasAll [] args [.list .int] = true := (pre_splitW hpre).1
  have hc : l.pre.holds [] { args := args } = true := (pre_splitW hpre).2
  obtain ⟨d, r, rfl, h1, h2⟩ := hasAllW_cons hsh
  obtain rfl := hasAllW_nil h2
  obtain ⟨xs, rfl, h3⟩ := hasW_list h1
  obtain ⟨ns, rfl⟩ := items_int h3
  have hlen : ns.length ≤ n := by
    unfold OpenLaw.pre at hc
    have h4 : (WTm.not (.lt (.lit (.int (n : Int))) (.len (.arg 0)))).holds [] { args := [.list (ns.map .int)] } = true := by
      have h4 := (holds_andW hc).1
      rw [hn] at h4
      exact h4
    have h5 := condW_of h4 (w_not (w_lt w_lit (w_len_list (w_arg rfl))))
    rw [List.length_map] at h5
    refine Nat.le_of_not_lt fun q => ?_
    have q' : (n : Int) < ((ns.length : Nat) : Int) := by omega
    first
      | (rw [decide_eq_true q'] at h5; exact absurd h5 (by decide))
      | (simp at h5; omega)
  cases hwl with
  | cons w1 w2 =>
    cases w2
    cases w1 with
    | list ho hall => exact ⟨_, _, ns, rfl, rfl, ho, ints_of_wellAll ns _ hall, hlen⟩

theorem post_true (l : OpenLaw) (args : List WData) : l.row.toRowW.claim.post args (.bool true) args = true :=
  postW_of (r := l.row.toRowW) (X := (true == true))
    (show WShape.has [] (.bool true) .bool = true by first | rfl | decide | simp [WShape.has, WShape.arms, WShape.armsAll])
    (show (WTm.eq .res (.lit (.bool true))).value [] { args := args, res := some (.bool true), after := args } = some (.bool (true == true)) from w_eq_bool (w_res rfl) w_lit) rfl

/-! ### the attachment: holds_open's last premise (the goal 'hc' behind k_head) from a wpAny of the law's body -/
theorem attach {l : OpenLaw} {n : Nat} {q : Program} {loose : List Str} {XP : (Str → Option Value) → Heap → Prop} {YP : World → Heap → Prop} {d : DefRec} {x : Str}
    (hn : l.most = some n) (hdf : d.params.defaults = [])
    (hbind : ∀ pm cd doc v : Value, bindArgs (docDef d.name d.params d.body d.scope pm cd doc) ⟨[v], []⟩ = pure [(x, v)])
    (hx : d.scope.names.lookup x = some .local ∨ d.scope.names.lookup x = some .cell)
    (hk : d.scope.kind = .function) (hco : d.scope.isCoroutine = false) (hgen : d.scope.isGenerator = false)
    (body : ∀ (w : World) (s₀ s₁ s : Shared) (mg mb : Str → Option Value) (fa : Addr) (o : Obj) (pm cd doc : Value) (a : Addr) (vs : List Value) (ns : List Int),
      Ground q loose [] XP w s₀ mg mb s₁.heap → YP w s₁.heap →
      s₁.heap.get? fa = some o → o.data = .func (docDef d.name d.params d.body d.scope pm cd doc) → s₁.heap.CodeRec cd d.name → mg d.name = some (.ref fa) →
      s₁.heap.get? a = some { cls := .type "list", data := .seq vs.toArray } → IntsAre vs ns → ns.length ≤ n →
      s.gens = #[] → s.os = s₁.os →
      Fr s₁.heap s₁.heap.objs.size s.heap (bindL (envOfC d.name d.scope s₁.heap.objs.size fa cd).kindOf [(x, .ref a)] fun _ => none) →
      Cl s₁.heap.objs.size (cellsFrom (s₁.heap.objs.size + 1) d.scope.names []) s.heap (bindC (envOfC d.name d.scope s₁.heap.objs.size fa cd).kindOf [(x, .ref a)] fun _ => none) →
      wpAny (model l.prog w) (callerA.deeper (envOfC d.name d.scope s₁.heap.objs.size fa cd)) (execs d.body (envOfC d.name d.scope s₁.heap.objs.size fa cd))
        (fun f s' => f = .ret (.bool true) ∧ OldK s₁.heap s'.heap ∧ s'.os = s₁.os ∧ AllBare s'.gens) (fun _ _ => False) s) :
    WalkO q loose XP YP l.row.toRowW d [] (fun f vs => PySem.call f vs) := by
  intro w s₀ s₁ mg mb G Y fa o pm cd doc dV kV ho hd hcd hD hmg hg args vals as hpre hlay hrd hwl hlo
  obtain rfl : dV = .none := Dflts.none hD hdf
  obtain rfl : kV = .none := Dflts.noKw hD
  obtain ⟨a, vs, ns, rfl, rfl, hobj, hints, hlen⟩ := script_of hn hpre hwl
  refine enter_call ?_
  refine call_cells_ret (o := o) (by rw [depth_caller]; decide) ho (fd_plain hd) G.T.nolimit hcd (hbind pm cd doc (.ref a)) (fun y hy => ?_) (fun h₁ tk F X => ?_) hco hgen hk
  · obtain rfl : y = (x, Value.ref a) := List.mem_singleton.mp hy
    rcases hx with e | e
    · exact .inl e
    · exact .inr ⟨e, cellsFrom_some _ _ _ (.inl e)⟩
  · refine wpAny_mono (body w s₀ s₁ { s₁ with heap := h₁, toks := tk } mg mb fa o pm cd doc a vs ns G Y ho (fd_plain hd) hcd hmg hobj hints hlen hg rfl F X) (fun f s' hq => ?_) (fun _ _ hq => hq)
    obtain ⟨rfl, h2, h3, h4⟩ := hq
    exact ⟨.inl ⟨.bool true, .bool true, [], rfl, fun _ => rfl, .bool true, post_true l _, fun _ => ⟨List.Pairwise.nil, fun _ hm => (nomatch hm)⟩⟩, h2, h3, h4⟩

/-- the same from a codeAny of the CALL (for a layer whose function contracts speak of calls) -/
theorem attach_call {l : OpenLaw} {n : Nat} {q : Program} {loose : List Str} {XP : (Str → Option Value) → Heap → Prop} {YP : World → Heap → Prop} {d : DefRec}
    (hn : l.most = some n) (hdf : d.params.defaults = [])
    (call : ∀ (w : World) (s₀ s₁ : Shared) (mg mb : Str → Option Value) (fa : Addr) (o : Obj) (pm cd doc : Value) (a : Addr) (vs : List Value) (ns : List Int),
      Ground q loose [] XP w s₀ mg mb s₁.heap → YP w s₁.heap →
      s₁.heap.get? fa = some o → o.data = .func (docDef d.name d.params d.body d.scope pm cd doc) → s₁.heap.CodeRec cd d.name → mg d.name = some (.ref fa) →
      s₁.heap.get? a = some { cls := .type "list", data := .seq vs.toArray } → IntsAre vs ns → ns.length ≤ n → s₁.gens = #[] →
      codeAny (model l.prog w) callerA (.call (.ref fa) ⟨[.ref a], []⟩) (fun r s' => r = .ok (.ret (.bool true)) ∧ OldK s₁.heap s'.heap ∧ s'.os = s₁.os ∧ AllBare s'.gens) s₁) :
    WalkO q loose XP YP l.row.toRowW d [] (fun f vs => PySem.call f vs) := by
  intro w s₀ s₁ mg mb G Y fa o pm cd doc dV kV ho hd hcd hD hmg hg args vals as hpre hlay hrd hwl hlo
  obtain rfl : dV = .none := Dflts.none hD hdf
  obtain rfl : kV = .none := Dflts.noKw hD
  obtain ⟨a, vs, ns, rfl, rfl, hobj, hints, hlen⟩ := script_of hn hpre hwl
  refine enter_call (codeAny_mono (call w s₀ s₁ mg mb fa o pm cd doc a vs ns G Y ho (fd_plain hd) hcd hmg hobj hints hlen hg) fun r s' hq => ?_)
  obtain ⟨rfl, h2, h3, h4⟩ := hq
  exact ⟨.inl ⟨.bool true, .bool true, [], rfl, fun _ => rfl, .bool true, post_true l _, fun _ => ⟨List.Pairwise.nil, fun _ hm => (nomatch hm)⟩⟩, h2, h3, h4⟩

/-- the same where the top left finished generators (o_head chose holds_openN): nothing may have changed at all and no generator may be left -/
theorem attachN {l : OpenLaw} {n : Nat} {q : Program} {loose : List Str} {XP : (Str → Option Value) → Heap → Prop} {YP : World → Heap → Prop} {d : DefRec} {x : Str}
    (hn : l.most = some n) (hdf : d.params.defaults = [])
    (hbind : ∀ pm cd doc v : Value, bindArgs (docDef d.name d.params d.body d.scope pm cd doc) ⟨[v], []⟩ = pure [(x, v)])
    (hx : d.scope.names.lookup x = some .local ∨ d.scope.names.lookup x = some .cell)
    (hk : d.scope.kind = .function) (hco : d.scope.isCoroutine = false) (hgen : d.scope.isGenerator = false)
    (body : ∀ (w : World) (s₀ s₁ s : Shared) (mg mb : Str → Option Value) (fa : Addr) (o : Obj) (pm cd doc : Value) (a : Addr) (vs : List Value) (ns : List Int),
      Ground q loose [] XP w s₀ mg mb s₁.heap → YP w s₁.heap →
      s₁.heap.get? fa = some o → o.data = .func (docDef d.name d.params d.body d.scope pm cd doc) → s₁.heap.CodeRec cd d.name → mg d.name = some (.ref fa) →
      s₁.heap.get? a = some { cls := .type "list", data := .seq vs.toArray } → IntsAre vs ns → ns.length ≤ n →
      s.gens = #[] → s.os = s₁.os →
      Fr s₁.heap s₁.heap.objs.size s.heap (bindL (envOfC d.name d.scope s₁.heap.objs.size fa cd).kindOf [(x, .ref a)] fun _ => none) →
      Cl s₁.heap.objs.size (cellsFrom (s₁.heap.objs.size + 1) d.scope.names []) s.heap (bindC (envOfC d.name d.scope s₁.heap.objs.size fa cd).kindOf [(x, .ref a)] fun _ => none) →
      wpAny (model l.prog w) (callerA.deeper (envOfC d.name d.scope s₁.heap.objs.size fa cd)) (execs d.body (envOfC d.name d.scope s₁.heap.objs.size fa cd))
        (fun f s' => f = .ret (.bool true) ∧ (∀ b o, s₁.heap.get? b = some o → s'.heap.get? b = some o) ∧ s'.os = s₁.os ∧ s'.gens = #[]) (fun _ _ => False) s) :
    WalkN q loose XP YP l.row.toRowW d [] (fun f vs => PySem.call f vs) := by
  intro w s₀ s₁ mg mb G Y fa o pm cd doc dV kV ho hd hcd hD hmg hg args vals as hpre hlay hrd hwl hlo
  obtain rfl : dV = .none := Dflts.none hD hdf
  obtain rfl : kV = .none := Dflts.noKw hD
  obtain ⟨a, vs, ns, rfl, rfl, hobj, hints, hlen⟩ := script_of hn hpre hwl
  refine enter_callW ?_
  refine call_cells_ret (o := o) (by rw [depth_caller]; decide) ho (fd_plain hd) G.T.nolimit hcd (hbind pm cd doc (.ref a)) (fun y hy => ?_) (fun h₁ tk F X => ?_) hco hgen hk
  · obtain rfl : y = (x, Value.ref a) := List.mem_singleton.mp hy
    rcases hx with e | e
    · exact .inl e
    · exact .inr ⟨e, cellsFrom_some _ _ _ (.inl e)⟩
  · refine wpAny_mono (body w s₀ s₁ { s₁ with heap := h₁, toks := tk } mg mb fa o pm cd doc a vs ns G Y ho (fd_plain hd) hcd hmg hobj hints hlen hg rfl F X) (fun f s' hq => ?_) (fun _ _ hq => hq)
    obtain ⟨rfl, h2, h3, h4⟩ := hq
    exact ⟨.inl ⟨.bool true, .bool true, [], rfl, fun _ => rfl, .bool true, post_true l _, fun _ => ⟨List.Pairwise.nil, fun _ hm => (nomatch hm)⟩⟩, h2, h3, h4⟩

/-! ### rules over ANY heap (no ledger) from facts about the written part K: the library's own take a ledger (News) for what they write -/
section
variable {prog : Program} {w : World} {A : Around} {E : Value → Shared → Prop} {s : Shared} {K : Frag}

/-- a def of the module, or a method (qual 'C.m'), entered: the frame is the next address; cells behind it -/
theorem call_fn {R : Result → Shared → Prop} {name qual : Str} {params : Arguments} {body : List Stmt} {scope : Scope} {dV kV doc pm cdv ct oc : Value} {an od : Option Addr} {osl : Array (Option Value)} {f : Addr} {args : Args} {binds : List (Str × Value)}
    (X : K.In s.heap) (hlim : s.heap.NoLimit) (ho : K.lookup f = some ⟨oc, od, .func (fnOf name qual params body scope dV kV doc pm an cdv ct), osl⟩) (hcd : codeIn K cdv qual = true) (hroom : A.depth < recursionLimit)
    (hbind : BindsTo s (fnOf name qual params body scope dV kV doc pm an cdv ct) args binds)
    (hkind : (binds.all fun y => scope.names.lookup y.1 == some .local || scope.names.lookup y.1 == some .cell) = true)
    (h : ∀ s₁, InCallC s s.heap.objs.size (bindL (envOfC qual scope s.heap.objs.size f cdv).kindOf binds fun _ => none) (cellsFrom (s.heap.objs.size + 1) scope.names [])
        (bindC (envOfC qual scope s.heap.objs.size f cdv).kindOf binds fun _ => none) s₁ →
      wpAny (model prog w) (A.deeper (envOfC qual scope s.heap.objs.size f cdv)) (execs body (envOfC qual scope s.heap.objs.size f cdv))
        (fun fl s' => R (.ok (.ret (match fl with | .ret v => v | _ => .none))) s')
        (fun e s' => wpAny (model prog w) (A.deeper (envOfC qual scope s.heap.objs.size f cdv)) (leaving (envOfC qual scope s.heap.objs.size f cdv) e) (fun _ s'' => R (.error e) s'') (fun e' s'' => R (.error e') s'') s') s₁)
    (hco : scope.isCoroutine = false) (hgen : scope.isGenerator = false) (hk : scope.kind = .function) : codeAny (model prog w) A (.call (.ref f) args) R s := by
  refine codeAny_call_function hroom (X _ _ ho) rfl hco hgen rfl (codeRec_of X hcd) (hbind _ _ _ _ ?_)
  refine wpAny_newFunctionEnv_cells hk (kindsX hkind _) fun env he s₁ x => ?_
  subst he
  exact ⟨hlim.keeps x.toInCall.keep, codeAny_func (h s₁ x)⟩

/-- C(..): dict at size, instance at size + 1, then __init__ -/
theorem make_obj {R : Result → Shared → Prop} {C fI : Addr} {rest : List Value} {kw : List (Str × Value)}
    (X : K.In s.heap) (hm : makesIn K C = true) (hi : findIn K (.ref C) "__init__" = some (some (.ref fI))) (hf : isFn K (.ref fI) = true)
    (h : codeAny (model prog w) (A.under (.builtin "type.__call__" ⟨.ref C :: rest, kw⟩)) (.call (.ref fI) ⟨.ref (s.heap.objs.size + 1) :: rest, kw⟩) (InitBack (s.heap.objs.size + 1) R)
      { s with heap := (s.heap.push emptyDict).push (instObj C s.heap.objs.size) }) : codeAny (model prog w) A (.call (.ref C) ⟨rest, kw⟩) R s := by
  obtain ⟨hh, g, d, t, os⟩ := s
  exact make_core (makes_of X hm) (looks_findIn X hi) (fun self => bind_fn X self (beq_iff_eq.mp hf)) (.inl rfl) h

/-- x.name where the instance's dict holds the name and the class does not -/
theorem get_field {x C : Addr} {ox : Obj} {es : List DictEntry} {n : Nat} {name : Str} {expr : Bool} {v : Value} {Q : Value → Shared → Prop}
    (X : K.In s.heap) (I : PySem.W.InstAt s.heap x ox C (some (dictOf es n))) (hg : plainGet K C name = true) (hh : hasDictIn K C = true) (ha : findIn K (.ref C) name = some none)
    (hl : getL name es = some (some v)) (hv : handedIn v = true) (h : Q v { s with toks := s.toks + 1 }) : wpAny (model prog w) A (getAttr (.ref x) name expr) Q E s :=
  get_value X I (plainGet_of hg).1 (findObj_own hh ha rfl hl) hv h

/-- x.m(..): the method found in the class -/
theorem get_method {x C f : Addr} {ox : Obj} {es : List DictEntry} {n : Nat} {name : Str} {pl : Sem Bool} {Q : Value × List Value → Shared → Prop}
    (X : K.In s.heap) (I : PySem.W.InstAt s.heap x ox C (some (dictOf es n))) (hg : plainGet K C name = true) (hf : findIn K (.ref C) name = some (some (.ref f))) (ht : isFn K (.ref f) = true)
    (hl : getL name es = some none) (h : Q (.ref f, [.ref x]) s) : wpAny (model prog w) A (getMethod (.ref x) name pl) Q E s :=
  method_fn X I (plainGet_of hg).1 (plainGet_of hg).2 hf (beq_iff_eq.mp ht) (by show (lookIn name (dictOf es n)).map _ = _; rw [lookIn_dict, hl]; rfl) h

/-! the whole heap as the ledger: makes every rule that writes through a ledger a rule over any heap -/
def noObjs (h : Heap) : Heap := { h with objs := #[] }
theorem noObjs_get (h : Heap) (b : Addr) : (noObjs h).get? b = none := by
  cases e : (noObjs h).get? b with
  | none => rfl
  | some o => exact absurd (Heap.lt_size e) (Nat.not_lt_zero _)
def ledger (h : Heap) (L d : Addr) : List (Addr × Obj) := (List.range h.objs.size).filterMap fun a => if a = L ∨ a = d then none else (h.get? a).map fun o => (a, o)
theorem mem_ledger {h : Heap} {L d a : Addr} {o : Obj} : (a, o) ∈ ledger h L d ↔ a ≠ L ∧ a ≠ d ∧ h.get? a = some o := by
  unfold ledger
  rw [List.mem_filterMap]
  constructor
  · rintro ⟨b, _, e⟩
    split at e
    · cases e
    · rename_i hb
      obtain ⟨o', ho, e'⟩ := Option.map_eq_some_iff.mp e
      cases e'
      exact ⟨fun q => hb (.inl q), fun q => hb (.inr q), ho⟩
  · rintro ⟨n1, n2, ho⟩
    refine ⟨a, List.mem_range.mpr (Heap.lt_size ho), ?_⟩
    rw [if_neg (show ¬ (a = L ∨ a = d) from fun q => q.elim n1 n2), ho] <;> rfl
theorem news_ledger {h : Heap} {L d : Addr} {od : Obj} (hne : d ≠ L) (ho : h.get? d = some od) : News (noObjs h) L h ([] ++ (d, od) :: ledger h L d) := by
  rintro ⟨a, o⟩ hp
  rcases List.mem_cons.mp hp with e | hp
  · cases e
    exact ⟨ho, hne, noObjs_get _ _⟩
  · obtain ⟨n1, n2, e⟩ := mem_ledger.mp hp
    exact ⟨e, n1, noObjs_get _ _⟩
theorem fr_all {h : Heap} {L : Addr} {m : Str → Option Value} (n : h.Ns L m) : Fr (noObjs h) L h m :=
  ⟨n, fun b o e => (by rw [noObjs_get] at e; cases e), Nat.zero_le _⟩
/-- Upd of the head entry (for append_K, setItem_K ..) -/
theorem upd_ledger {h : Heap} {L d : Addr} {o o' : Obj} : Upd d o o' ((d, o) :: ledger h L d) ((d, o') :: ledger h L d) :=
  .head fun ⟨_, _⟩ hp => (mem_ledger.mp hp).2.1

/-- x.name = v over any heap: L is any namespace of the heap (the frame's, say): its map stays, its object is not told; all else but the dict stays -/
theorem set_field {x C dx L : Addr} {ox : Obj} {m : Str → Option Value} {es es' : List DictEntry} {n n' : Nat} {name : Str} {v : Value} {Q : Unit → Shared → Prop}
    (X : K.In s.heap) (I : PySem.W.InstAt s.heap x ox C (some (dictOf es n))) (hd : ox.dict = some dx) (hL : s.heap.Ns L m) (hne : dx ≠ L)
    (hs : findIn K (.ref C) "__setattr__" = some (some (.builtin "object.__setattr__"))) (hp : plainOver K C = true) (ht : takerIn K C name = some none) (hh : hasDictIn K C = true) (hl : (getL name es).isSome = true)
    (e : (putL name (PyData.keyHash w.params name) (.str name (s.toks + 1)) v es, putN name es n) = (es', n')) (hz : es'.length ≤ 1000)
    (h : ∀ h' : Heap, h'.Ns L m → h'.get? dx = some (dictOf es' n') → (∀ b o, b ≠ dx → b ≠ L → s.heap.get? b = some o → h'.get? b = some o) → Q () { s with heap := h', toks := s.toks + 2 }) :
    wpAny (model prog w) A (setAttr (.ref x) name v) Q E s := by
  obtain ⟨e1, e2⟩ := Prod.mk.inj e
  have hdx : s.heap.get? dx = some (dictOf es n) := by
    have := I.dict
    rw [hd] at this
    exact this
  refine set_plain X I hs (osa_dict (s := { s with toks := s.toks + 1 }) (h₀ := noObjs s.heap) (L := L) (m := m) (od := dictOf es n) (od' := dictOf es' n') (es := es') (n := n') (pre := []) (post := ledger s.heap L dx)
    (fr_all hL) (news_ledger hne hdx) X I hd hp ht hh hl (fun _ q => nomatch q) (fun ⟨_, _⟩ q => (mem_ledger.mp q).2.1) (by rw [putName_dict, e1, e2]) rfl hz fun h' F' N' => ?_)
  exact h h' F'.ns (N'.get (List.Mem.head _)) fun b o n1 n2 ho => N'.get (List.Mem.tail _ (mem_ledger.mpr ⟨n2, n1, ho⟩))
end
end Att

namespace L2
open PySem PySem.Spec PyProof.Rows

theorem vals_ints : ∀ {vs : List Value} {ns : List Int}, IntsAre vs ns → Vals (ns.map V.int) vs
  | _, _, .nil => .nil
  | _, _, .cons n t h => .cons ⟨t, rfl⟩ (vals_ints h)

/-- nothing is tracked but the script, known to the object (or it is an object of the module) -/
def Only (H : Hp) : Prop := ∀ b, H b = none ∨ ∃ o xs, H b = some (.frz o (.lst xs))

/-- THE HEAD: the law's promise, at the heap behind the top. F, the promise of the law's def, may use that base is part of the heap (so K.In base, base.Ns mainGlobals mg stand in Mod) -/
theorem law_call {P : Program} {w : World} {K : PySem.W.Frag} {mg mb : Str → Option Value} {CX : CXT} {k : Nat} {fa a : Addr} {fd : FuncData} {x : Str} {sp : Sp} {s₁ : Shared} {vs : List Value} {ns : List Int}
    (KX : K.In s₁.heap) (hns : s₁.heap.Ns mainGlobals mg) (hb : s₁.heap.Ns builtinsNs mb) (hbb : ∀ x : Str, x ≠ "__name__" → mb x = bootBuiltins x) (hlim : s₁.heap.NoLimit) (hg : s₁.gens = #[])
    (ha : s₁.heap.get? a = some { cls := .type "list", data := .seq vs.toArray }) (hi : IntsAre vs ns) (hl : ns.length ≤ sizeLine) (hr : Room k callerA)
    (F : ∀ base : Heap, K.In base → base.Ns mainGlobals mg → FnOk P w K mg base CX k fa fd [x] sp) (hbind : ∀ (s : Shared) (u : Value), BindsTo s fd ⟨[u], []⟩ [(x, u)])
    (hsp : ∀ H : Hp, Only H → SqL K H a (ns.map V.int) → sp [.ref a] H (fun v _ => v = .bl true) fun _ _ _ => False)
    (hCX : ∀ H e s', CX [] H s₁ (fun _ _ _ => False) e s' → False) :
    codeAny (model P w) callerA (.call (.ref fa) ⟨[.ref a], []⟩) (fun r s' => r = .ok (.ret (.bool true)) ∧ OldK s₁.heap s'.heap ∧ s'.os = s₁.os ∧ AllBare s'.gens) s₁ := by
  have rv := vals_ints hi
  have lenV := hi.length
  -- from an abstract heap in which nothing but the script may be tracked
  have core : ∀ H : Hp, Only H → SqL K H a (ns.map V.int) → HOk P w H s₁.heap → (∀ b, H b ≠ none → b = a) → (H a ≠ none → K.lookup a = none) →
      codeAny (model P w) callerA (.call (.ref fa) ⟨[.ref a], []⟩) (fun r s' => r = .ok (.ret (.bool true)) ∧ OldK s₁.heap s'.heap ∧ s'.os = s₁.os ∧ AllBare s'.gens) s₁ := by
    intro H hO hS hok hA hK
    have base_of : ∀ {b : Addr} {o : Obj}, s₁.heap.get? b = some o → H b = none → (hidT s₁.heap H).get? b = some o := fun e n => hidT_get e n
    have noA : ∀ {b : Addr} {o : Obj} {es : Array DictEntry} {ep : Nat}, s₁.heap.get? b = some o → o.data = .dict es ep → H b = none := fun {b o es ep} e d => by
      cases q : H b with
      | none => rfl
      | some u =>
        have e' : b = a := hA b (by rw [q]; simp)
        subst e'
        rw [ha] at e; cases e
        have d' : Data.seq vs.toArray _ = Data.dict es ep := d
        cases d'
    have nsK : ∀ {b : Addr} {m : Str → Option Value}, s₁.heap.Ns b m → (hidT s₁.heap H).Ns b m := fun {b m} ⟨o, es, ep, e, d, r⟩ => ⟨o, es, ep, base_of e (noA e d), d, r⟩
    have hKb : K.In (hidT s₁.heap H) := fun b o e => base_of (KX b o e) (by
      cases q : H b with
      | none => rfl
      | some u =>
        have e' : b = a := hA b (by rw [q]; simp)
        subst e'
        rw [hK (by rw [q]; simp)] at e; cases e)
    have hM : Mod K mg (hidT s₁.heap H) := ⟨hKb, nsK hns, ⟨mb, nsK hb, hbb⟩, let ⟨mc, h1, h2⟩ := hlim; ⟨mc, nsK h1, h2⟩⟩
    have e0 : Env0 P w K mg (hidT s₁.heap H) callerA [] s₁ H := ⟨rfl, hM, fun b o e => of_hidT e, Nat.le_of_eq (hidT_size _ _), trivial, fun b hb => absurd (show b ∈ ([] : List Addr) from hb) (by simp), hok, .of_eq hg⟩
    refine codeAny_mono ((F _ hKb (nsK hns)).run callerA [] s₁ H ⟨[.ref a], []⟩ [.ref a] [.ref a] _ _ hr e0 (hbind s₁ (.ref a)) (.cons rfl .nil) (hsp H hO hS)) fun r s' h => ?_
    cases r with
    | error e => exact (hCX H e s' h).elim
    | ok fl =>
      cases fl with
      | next => exact False.elim h
      | brk => exact False.elim h
      | cont => exact False.elim h
      | ret u =>
        obtain ⟨v, H', os, bare, un, hok', r', q⟩ := h
        have q' : v = .bl true := q
        subst q'
        obtain rfl : u = Value.bool true := r'
        refine ⟨rfl, OldK.of_keep fun b o e => ?_, os, bare⟩
        cases q : H b with
        | none => exact un.keep b o e q (by intro z; exact absurd (show b ∈ ([] : List Addr) from z) (by simp)) (by simp)
        | some u =>
          rcases hO b with z | ⟨ob, xs, z⟩
          · rw [q] at z; cases z
          · have z2 := un.frzs b ob _ z
            obtain ⟨e1, _⟩ := hok b _ z
            obtain ⟨e2, _⟩ := hok' b _ z2
            rw [e] at e1; cases e1
            exact e2
  cases hk : K.lookup a with
  | some o =>
    -- the script is one of the module's own objects
    have e := KX a o hk
    rw [ha] at e
    cases e
    refine core (fun _ => none) (fun _ => .inl rfl) (.inr ⟨_, vs.toArray, _, hk, rfl, rfl, rfl, by rw [List.size_toArray, lenV]; exact hl, by simpa using rv⟩) (fun b u z => by have z' : (none : Option HO) = some u := z; cases z') (fun b z => absurd rfl z) fun z => absurd rfl z
  | none =>
    refine core (fun b => if b = a then some (.frz { cls := .type "list", data := .seq vs.toArray } (.lst (ns.map V.int))) else none) (fun b => ?_) (.inl (.inr ⟨{ cls := .type "list", data := .seq vs.toArray }, if_pos rfl⟩)) (fun b u z => ?_) (fun b z => ?_) fun _ => hk
    · by_cases hb : b = a
      · exact .inr ⟨_, _, if_pos hb⟩
      · exact .inl (if_neg hb)
    · by_cases hb : b = a
      · have z' := (if_pos hb).symm.trans z
        cases z'
        subst hb
        exact ⟨ha, by rw [List.length_map]; exact hl, vs, _, rv, ha⟩
      · have z' := (if_neg hb).symm.trans z
        cases z'
    · by_cases hb : b = a
      · exact hb
      · exact absurd (if_neg hb) z
end L2

namespace L2
open PySem PySem.Spec PyProof.Rows

abbrev KOf {K : PySem.W.Frag} {h : Heap} (_ : K.In h) : PySem.W.Frag := K

/-- the goal that k_head leaves (case hc), from the law's promise. F gives the function object fd (K's own) once, then the promise over every base -/
theorem walk_of {l : PySem.W.OpenLaw} {n k : Nat} {q : Program} {loose : List Str} {XP : (Str → Option Value) → Heap → Prop} {YP : World → Heap → Prop} {d : DefRec} {K : Params → PySem.W.Frag} {CX : World → CXT} {sp : World → Sp} {x : Str}
    (hn : l.most = some n) (hn2 : n ≤ sizeLine) (hdf : d.params.defaults = []) (hr : Room k callerA)
    (hY : ∀ (w : World) (h : Heap), YP w h → (K w.params).In h)
    (F : ∀ (w : World) (mg : Str → Option Value) (fa : Addr) (h : Heap), (K w.params).In h → h.Ns mainGlobals mg → mg d.name = some (.ref fa) →
      ∃ fd : FuncData, (∀ (s : Shared) (u : Value), BindsTo s fd ⟨[u], []⟩ [(x, u)]) ∧
        ∀ base : Heap, (K w.params).In base → base.Ns mainGlobals mg → FnOk l.prog w (K w.params) mg base (CX w) k fa fd [x] (sp w))
    (hsp : ∀ (w : World) (H : Hp) (a : Addr) (ns : List Int), ns.length ≤ n → Only H → SqL (K w.params) H a (ns.map V.int) → sp w [.ref a] H (fun v _ => v = .bl true) fun _ _ _ => False)
    (hCX : ∀ (w : World) (H : Hp) (s : Shared) (e : Value) (s' : Shared), CX w [] H s (fun _ _ _ => False) e s' → False) :
    PySem.W.WalkO q loose XP YP l.row.toRowW d [] (fun f vs => PySem.call f vs) := by
  refine Att.attach_call hn hdf fun w s₀ s₁ mg mb fa o pm cd doc a vs ns G Y ho hd hcd hmg hobj hints hlen hg => ?_
  have KX := hY w _ Y
  obtain ⟨fd, hb, hF⟩ := F w mg fa _ KX G.T.g hmg
  exact law_call KX G.T.g G.T.b G.T.builtins G.T.nolimit hg hobj hints (Nat.le_trans hlen hn2) hr hF hb (fun H hO hS => hsp w H a ns hlen hO hS) fun H e s' => hCX w H s₁ e s'
/-- the same where the promise hangs on the written part alone: (sp := My.sp_law), no hole under a binder -/
theorem walk_ofK {l : PySem.W.OpenLaw} {n k : Nat} {q : Program} {loose : List Str} {XP : (Str → Option Value) → Heap → Prop} {YP : World → Heap → Prop} {d : DefRec} {K : Params → PySem.W.Frag} {CX : CXT} {sp : PySem.W.Frag → Sp} {x : Str}
    (hn : l.most = some n) (hn2 : n ≤ sizeLine) (hdf : d.params.defaults = []) (hr : Room k callerA)
    (hY : ∀ (w : World) (h : Heap), YP w h → (K w.params).In h)
    (F : ∀ (w : World) (mg : Str → Option Value) (fa : Addr) (h : Heap), (K w.params).In h → h.Ns mainGlobals mg → mg d.name = some (.ref fa) →
      ∃ fd : FuncData, (∀ (s : Shared) (u : Value), BindsTo s fd ⟨[u], []⟩ [(x, u)]) ∧
        ∀ base : Heap, (K w.params).In base → base.Ns mainGlobals mg → FnOk l.prog w (K w.params) mg base CX k fa fd [x] (sp (K w.params)))
    (hsp : ∀ (K : PySem.W.Frag) (H : Hp) (a : Addr) (ns : List Int), ns.length ≤ n → Only H → SqL K H a (ns.map V.int) → sp K [.ref a] H (fun v _ => v = .bl true) fun _ _ _ => False)
    (hCX : ∀ (H : Hp) (s : Shared) (e : Value) (s' : Shared), CX [] H s (fun _ _ _ => False) e s' → False) :
    PySem.W.WalkO q loose XP YP l.row.toRowW d [] (fun f vs => PySem.call f vs) :=
  walk_of (K := K) (CX := fun _ => CX) (sp := fun w => sp (K w.params)) hn hn2 hdf hr hY F (fun w H a ns h1 h2 h3 => hsp (K w.params) H a ns h1 h2 h3) fun _ H s e s' => hCX H s e s'
end L2

/-! SHORT WORDS over the layer: a def of the text, its body, what a loop and a test want. -/
namespace L2
open PySem PySem.Spec PyProof.Rows

/-! ### the text by places -/
/-- the j-th statement of a class's body -/
def inClass (s : Stmt) (j : Nat) : Stmt := match s with
  | .ClassDef _ _ _ body _ _ _ _ _ _ _ => body.getD j (.Pass ⟨0, 0, 0, 0⟩)
  | _ => .Pass ⟨0, 0, 0, 0⟩
def defArgs (s : Stmt) : Arguments := match s with
  | .FunctionDef _ a _ _ _ _ _ _ _ _ => a
  | _ => { posonlyargs := [], args := [], vararg := none, kwonlyargs := [], kw_defaults := [], kwarg := none, defaults := [] }
def defBody (s : Stmt) : List Stmt := match s with
  | .FunctionDef _ _ b _ _ _ _ _ _ _ => b
  | _ => []
def defScope (s : Stmt) : Scope := match s with
  | .FunctionDef _ _ _ _ _ _ sc _ _ _ => sc
  | _ => { kind := .function, names := [], isGenerator := false, isCoroutine := false }

/-! ### no exception leaves a def -/
abbrev CX0 : CXT := fun _ _ _ _ _ _ => False
abbrev E0 : XK := fun _ _ _ => False
theorem pass0 {X : Cx} : Passes CX0 X E0 := fun _ _ _ _ _ _ _ h => h.elim

/-! ### a def (or method) of the text as it stands behind the top -/
structure Fun (K : PySem.W.Frag) (x qual : Str) (st : Stmt) (f : Addr) (fd : FuncData) : Prop where
  ex : ∃ (oc : Value) (od : Option Addr) (kV doc pm : Value) (an : Option Addr) (cdv ct : Value) (osl : Array (Option Value)),
    fd = PySem.W.fnOf x qual (defArgs st) (defBody st) (defScope st) .none kV doc pm an cdv ct ∧ K.lookup f = some ⟨oc, od, .func fd, osl⟩ ∧ PySem.W.codeIn K cdv qual = true
  kp : PySem.W.keepIn K (.ref f) = true
section
variable {P : Program} {w : World} {K : PySem.W.Frag} {mg : Str → Option Value} {base : Heap}
/-- THE RULE for a def: its body as a term of rules, and the reading of that term -/
theorem Fun.ok {x qual : Str} {st : Stmt} {f : Addr} {fd : FuncData} {N ps : List Str} {k : Nat} {sp : Sp} (F : Fun K x qual st f fd) (S : FnScope N ps (defScope st)) (len : ∀ vs H Q E, sp vs H Q E → vs.length = ps.length)
    (hbody : ∀ (cdv : Value) (A : Around) (outer : List Env) (s : Shared) (H : Hp) (vs : List V) (Q : VK) (E : XK), Room k (A.deeper (envOfC qual (defScope st) s.heap.objs.size f cdv)) → sp vs H Q E →
      ∃ t, PSs (cxOf CX0 P w K mg base N qual (defScope st) f cdv A outer s H E).nox (defBody st) t ∧ t { nx := fun _ H' => Q .non H', rt := Q } (start N vs) H) : FnOk P w K mg base CX0 (k + 1) f fd ps sp := by
  obtain ⟨oc, od, kV, doc, pm, an, cdv, ct, osl, rfl, lk, hcd⟩ := F.ex
  refine fn_of lk hcd S len fun A outer s H vs Q E hr hsp => ?_
  obtain ⟨t, h, q⟩ := hbody cdv A outer s H vs Q E hr hsp
  exact ⟨t, h.nox, q⟩
/-- how its arguments bind (no defaults): h is «fun _ _ _ _ _ _ us hl => match us, hl with | [_, _], _ => rfl», one _ a parameter -/
theorem Fun.binds {x qual : Str} {st : Stmt} {f : Addr} {fd : FuncData} {ps : List Str} (F : Fun K x qual st f fd)
    (h : ∀ (kV doc pm : Value) (an : Option Addr) (cdv ct : Value) (us : List Value), us.length = ps.length → bindArgs (PySem.W.fnOf x qual (defArgs st) (defBody st) (defScope st) .none kV doc pm an cdv ct) ⟨us, []⟩ = pure (ps.zip us)) : Binds K fd ps [] := by
  obtain ⟨oc, od, kV, doc, pm, an, cdv, ct, osl, rfl, lk, hcd⟩ := F.ex
  exact .all (h kV doc pm an cdv ct)
theorem fun_mk {x qual : Str} {st : Stmt} {f : Addr} {oc : Value} {od an : Option Addr} {osl : Array (Option Value)} {kV doc pm cdv ct : Value} (l : K.lookup f = some ⟨oc, od, .func (PySem.W.fnOf x qual (defArgs st) (defBody st) (defScope st) .none kV doc pm an cdv ct), osl⟩)
    (c : PySem.W.codeIn K cdv qual = true) (k : PySem.W.keepIn K (.ref f) = true) : Fun K x qual st f (PySem.W.fnOf x qual (defArgs st) (defBody st) (defScope st) .none kV doc pm an cdv ct) := ⟨⟨oc, od, kV, doc, pm, an, cdv, ct, osl, rfl, l, c⟩, k⟩
end
theorem hu_of {A : Around} {k : Nat} (hr : Room k A) : A.units + 1 < cLine := Nat.lt_of_le_of_lt (Nat.add_le_add_left (by decide : 1 ≤ 64) _) hr.units
theorem small1000 {n : Nat} (h : n ≤ 1000) : n < sizeLine := Nat.lt_of_le_of_lt h (by decide)

/-! ### expressions in short: the name that stands in the i-th slot -/
section
variable {X : Cx}
theorem pv (i : Nat) {x : Str} {pos : Pos} (hN : X.N[i]? = some x := by rfl) (hv : Vis X.env.scope x := by first | exact Or.inl rfl | exact Or.inr (Or.inl rfl) | exact Or.inr (Or.inr rfl)) (hd : (x == ("__debug__" : Str)) = false := by decide)
    (hcd : (x == ("__classdict__" : Str)) = false := by decide) : PE X (.Name x pos) (tVar i) := pe_var hN hv hd hcd
end

/-! ### tests -/
theorem iteF {A B : Prop} (h : B) : if false = true then A else B := by
  rw [if_neg Bool.false_ne_true]
  exact h
theorem iteT {A B : Prop} (h : A) : if true = true then A else B := by
  rw [if_pos rfl]
  exact h
theorem ite2 {c A B : Prop} [Decidable c] (h1 : c → A) (h2 : ¬ c → B) : if c then A else B := by
  by_cases h : c
  · rw [if_pos h]
    exact h1 h
  · rw [if_neg h]
    exact h2 h
theorem iteNS {c A B : Prop} [Decidable c] (hc : c) (h : B) : if (!decide c) = true then A else B := by
  rw [decide_eq_true hc]
  exact iteF h

/-! ### heaps -/
/-- all that was tracked is as it was -/
def Same (H H' : Hp) : Prop := ∀ b o, H b = some o → H' b = some o
theorem Same.refl (H : Hp) : Same H H := fun _ _ h => h
theorem Same.trans {H H1 H2 : Hp} (a : Same H H1) (b : Same H1 H2) : Same H H2 := fun c o h => b c o (a c o h)
theorem Same.free {H H' : Hp} (e : Same H H') {l : Addr} (h : H' l = Option.none) : H l = Option.none := by
  cases q : H l with
  | none => rfl
  | some o =>
    rw [e l o q] at h
    cases h
theorem Same.seq {K : PySem.W.Frag} {H H' : Hp} {a : Addr} {xs : List V} (e : Same H H') (h : SqL K H a xs) : SqL K H' a xs := by
  rcases h with (h | ⟨o, h⟩) | h
  · exact .inl (.inl (e _ _ h))
  · exact .inl (.inr ⟨o, e _ _ h⟩)
  · exact .inr h

end L2

set_option maxHeartbeats 4000000
namespace L2
open PySem PySem.Spec PyProof.Rows
/-! ### lists of pairs as tables -/
section
variable {κ : Type} [DecidableEq κ]
def valV (kvs : List (κ × V)) (k : κ) : Option V := (kvs.find? fun kv => decide (kv.1 = k)).map (·.2)
/-- in its place, or at the end -/
def putK (kvs : List (κ × V)) (k : κ) (v : V) : List (κ × V) :=
  if (kvs.any fun kv => decide (kv.1 = k)) = true then kvs.map (fun kv => if kv.1 = k then (kv.1, v) else kv) else kvs ++ [(k, v)]
def dropK (kvs : List (κ × V)) (k : κ) : List (κ × V) := kvs.filter fun kv => decide (kv.1 ≠ k)

theorem valV_nil {k : κ} : valV ([] : List (κ × V)) k = none := rfl
theorem valV_pos {p : κ × V} {r : List (κ × V)} {k : κ} (e : p.1 = k) : valV (p :: r) k = some p.2 := by simp [valV, List.find?_cons, e]
theorem valV_neg {p : κ × V} {r : List (κ × V)} {k : κ} (e : ¬ p.1 = k) : valV (p :: r) k = valV r k := by simp [valV, List.find?_cons, e]
theorem valV_any (k : κ) : ∀ kvs : List (κ × V), (kvs.any fun kv => decide (kv.1 = k)) = (valV kvs k).isSome
  | [] => rfl
  | p :: r => by
    rw [List.any_cons]
    by_cases e : p.1 = k
    · simp only [valV_pos e, decide_eq_true e, Bool.true_or, Option.isSome_some]
    · rw [valV_neg e, decide_eq_false e, Bool.false_or]; exact valV_any k r
theorem valV_map (k j : κ) (y : V) : ∀ kvs : List (κ × V), valV (kvs.map fun kv => if kv.1 = k then (kv.1, y) else kv) j = (valV kvs j).map fun x => if j = k then y else x
  | [] => rfl
  | p :: r => by
    have ih := valV_map k j y r
    rw [List.map_cons]
    by_cases h : p.1 = k
    · rw [if_pos h]
      by_cases e : p.1 = j
      · rw [valV_pos (p := (p.1, y)) e, valV_pos e, Option.map_some, if_pos (e.symm.trans h)]
      · rw [valV_neg (p := (p.1, y)) e, valV_neg e, ih]
    · rw [if_neg h]
      by_cases e : p.1 = j
      · rw [valV_pos (p := p) e, valV_pos e, Option.map_some, if_neg (fun z => h (e.trans z))]
      · rw [valV_neg (p := p) e, valV_neg e, ih]
theorem valV_snoc (k j : κ) (y : V) : ∀ kvs : List (κ × V), valV kvs k = none → valV (kvs ++ [(k, y)]) j = if j = k then some y else valV kvs j
  | [], _ => by
    by_cases e : k = j
    · rw [if_pos e.symm]; exact valV_pos (p := (k, y)) e
    · rw [if_neg (fun z => e z.symm)]; exact valV_neg (p := (k, y)) e
  | p :: r, hn => by
    rw [List.cons_append]
    have hk : ¬ p.1 = k := fun z => by rw [valV_pos z] at hn; cases hn
    rw [valV_neg hk] at hn
    have ih := valV_snoc k j y r hn
    by_cases e : p.1 = j
    · rw [valV_pos e, valV_pos e, if_neg (fun z => hk (e.trans z))]
    · rw [valV_neg e, valV_neg e, ih]
theorem valV_put (kvs : List (κ × V)) (k j : κ) (y : V) : valV (putK kvs k y) j = if j = k then some y else valV kvs j := by
  unfold putK
  by_cases a : (kvs.any fun kv => decide (kv.1 = k)) = true
  · rw [if_pos a, valV_map]
    rw [valV_any] at a
    by_cases e : j = k
    · obtain ⟨x, hx⟩ := Option.isSome_iff_exists.mp a
      rw [if_pos e, e, hx, Option.map_some, if_pos rfl]
    · rw [if_neg e]
      cases valV kvs j with
      | none => rfl
      | some x => rw [Option.map_some, if_neg e]
  · rw [if_neg a]
    refine valV_snoc k j y kvs ?_
    rw [valV_any] at a
    cases q : valV kvs k with
    | none => rfl
    | some x => rw [q] at a; exact (a rfl).elim
theorem length_putK (kvs : List (κ × V)) (k : κ) (v : V) : (putK kvs k v).length ≤ kvs.length + 1 := by
  unfold putK
  split
  · rw [List.length_map]; omega
  · rw [List.length_append, List.length_cons, List.length_nil]; omega
theorem putK_new {kvs : List (κ × V)} {k : κ} (v : V) (h : valV kvs k = none) : putK kvs k v = kvs ++ [(k, v)] := by
  unfold putK
  rw [valV_any, h]
  exact if_neg (by decide)

theorem RelO.isSome_eq {o : Option V} {u : Option Value} (r : RelO o u) : o.isSome = u.isSome := by
  cases o with
  | none => cases u with
    | none => rfl
    | some _ => exact (show False from r).elim
  | some _ => cases u with
    | none => exact (show False from r).elim
    | some _ => rfl
theorem RelO.getD {o : Option V} {u : Option Value} {d : V} {d' : Value} (r : RelO o u) (rd : RelV d d') : RelV (o.getD d) (u.getD d') := by
  cases o with
  | none => cases u with
    | none => exact rd
    | some _ => exact (show False from r).elim
  | some _ => cases u with
    | none => exact (show False from r).elim
    | some _ => exact r

/-- raw tables of the same keys -/
theorem KV.val {kvs : List (κ × V)} {vs : List (κ × Value)} (r : KV kvs vs) (k : κ) : RelO (valV kvs k) (valueAt vs k) := by
  unfold KV at r
  induction r with
  | nil => exact True.intro
  | @cons p q ps qs h t ih =>
    obtain ⟨h1, h2⟩ := h
    by_cases e : p.1 = k
    · have e' : q.1 = k := h1.symm.trans e
      have b : valueAt (q :: qs) k = some q.2 := by simp [valueAt, List.find?_cons, e']
      rw [valV_pos e, b]; exact h2
    · have e' : ¬ q.1 = k := fun z => e (h1.trans z)
      have b : valueAt (q :: qs) k = valueAt qs k := by simp [valueAt, List.find?_cons, e']
      rw [valV_neg e, b]; exact ih
theorem KV.any {kvs : List (κ × V)} {vs : List (κ × Value)} (r : KV kvs vs) (k : κ) : (kvs.any fun kv => decide (kv.1 = k)) = vs.any fun kv => decide (kv.1 = k) := by
  unfold KV at r
  induction r with
  | nil => rfl
  | cons h t ih => rw [List.any_cons, List.any_cons, ih, h.1]
theorem KV.repl {kvs : List (κ × V)} {vs : List (κ × Value)} (r : KV kvs vs) (k : κ) {y : V} {u : Value} (ry : RelV y u) :
    KV (kvs.map fun kv => if kv.1 = k then (kv.1, y) else kv) (vs.map fun kv => if kv.1 = k then (kv.1, u) else kv) := by
  unfold KV at r ⊢
  induction r with
  | nil => exact .nil
  | @cons p q ps qs h t ih =>
    rw [List.map_cons, List.map_cons]
    refine .cons ?_ ih
    obtain ⟨h1, h2⟩ := h
    by_cases e : p.1 = k
    · rw [if_pos e, if_pos (h1.symm.trans e)]; exact ⟨h1, ry⟩
    · rw [if_neg e, if_neg (fun z => e (h1.trans z))]; exact ⟨h1, h2⟩
theorem KV.put {kvs : List (κ × V)} {vs : List (κ × Value)} (r : KV kvs vs) (k : κ) {y : V} {u : Value} (ry : RelV y u) : KV (putK kvs k y) (stored vs k u) := by
  unfold putK stored
  rw [r.any k]
  by_cases e : (vs.any fun kv => decide (kv.1 = k)) = true
  · rw [if_pos e, if_pos e]; exact r.repl k ry
  · rw [if_neg e, if_neg e]; exact Paired.snoc r ⟨rfl, ry⟩
theorem KV.drop {kvs : List (κ × V)} {vs : List (κ × Value)} (r : KV kvs vs) (k : κ) : KV (dropK kvs k) (without vs k) := by
  unfold KV at r ⊢
  unfold dropK without
  induction r with
  | nil => exact .nil
  | @cons p q ps qs h t ih =>
    obtain ⟨h1, h2⟩ := h
    rw [List.filter_cons, List.filter_cons]
    by_cases e : p.1 = k
    · have a : ¬ decide (p.1 ≠ k) = true := by simp [e]
      have b : ¬ decide (q.1 ≠ k) = true := by simp [h1.symm.trans e]
      rw [if_neg a, if_neg b]; exact ih
    · have e' : ¬ q.1 = k := fun z => e (h1.trans z)
      have a : decide (p.1 ≠ k) = true := by simp [e]
      have b : decide (q.1 ≠ k) = true := by simp [e']
      rw [if_pos a, if_pos b]; exact .cons ⟨h1, h2⟩ ih
theorem KV.keys {kvs : List (κ × V)} {vs : List (κ × Value)} (r : KV kvs vs) : kvs.map (·.1) = vs.map (·.1) := by
  unfold KV at r
  induction r with
  | nil => rfl
  | cons h t ih => rw [List.map_cons, List.map_cons, ih, h.1]
theorem KV.length {kvs : List (κ × V)} {vs : List (κ × Value)} (r : KV kvs vs) : kvs.length = vs.length := Paired.length r
theorem dropK_le (kvs : List (κ × V)) (k : κ) : (dropK kvs k).length ≤ kvs.length := List.length_filter_le _ _
end

/-! ### a tracked dict, its keys ints and texts or tuples of these -/
theorem kV_is {P : Program} {w : World} {k : Key} {u : Value} (r : RelV (kV k) u) : (mixKind P w).is k u = true := by
  cases k with
  | inl i => obtain ⟨t, e⟩ := (show ∃ t, u = Value.int i t from r); subst e; exact mixKind_int P w i t
  | inr x => obtain ⟨t, e⟩ := (show ∃ t, u = Value.str x t from r); subst e; exact mixKind_str P w x t
theorem kV_inj {a b : Key} (e : kV a = kV b) : a = b := by
  cases a with
  | inl i => cases b with
    | inl j => have e' : V.int i = V.int j := e; injection e' with e'; rw [e']
    | inr y => exact nomatch (show V.int i = V.str y from e)
  | inr x => cases b with
    | inl j => exact nomatch (show V.str x = V.int j from e)
    | inr y => have e' : V.str x = V.str y := e; injection e' with e'; rw [e']
theorem kVs_inj : ∀ {a b : List Key}, a.map kV = b.map kV → a = b
  | [], [], _ => rfl
  | [], _ :: _, e => by simp at e
  | _ :: _, [], e => by simp at e
  | x :: xs, y :: ys, e => by
    rw [List.map_cons, List.map_cons] at e
    injection e with e1 e2
    rw [kV_inj e1, kVs_inj e2]
theorem items_are {P : Program} {w : World} : ∀ {ks : List Key} {us : List Value}, Vals (ks.map kV) us → ItemsAre (mixKind P w) ks us
  | [], _, r => by rw [List.map_nil] at r; cases r; exact .nil
  | k :: ks, _, r => by
    rw [List.map_cons] at r
    cases r with
    | cons h t => exact .cons (kV_is h) (items_are t)

/-- raw entries of a dict with tuple keys -/
abbrev KT (H : Hp) : List (List Key × V) → List (List Key × Addr × Value) → Prop := Paired fun p q => p.1 = q.1 ∧ H q.2.1 = some (.tup (p.1.map kV)) ∧ RelV p.2 q.2.2
theorem KT.val {H : Hp} {kvs : List (List Key × V)} {xs : List (List Key × Addr × Value)} (r : KT H kvs xs) (k : List Key) : RelO (valV kvs k) ((atKey xs k).map (·.2)) := by
  induction r with
  | nil => exact True.intro
  | @cons p q ps qs h t ih =>
    obtain ⟨h1, _, h2⟩ := h
    by_cases e : p.1 = k
    · have e' : q.1 = k := h1.symm.trans e
      have b : atKey (q :: qs) k = some q.2 := by simp [atKey, List.find?_cons, e']
      rw [valV_pos e, b]; exact h2
    · have e' : ¬ q.1 = k := fun z => e (h1.trans z)
      have b : atKey (q :: qs) k = atKey qs k := by simp [atKey, List.find?_cons, e']
      rw [valV_neg e, b]; exact ih
theorem KT.repl {H : Hp} {kvs : List (List Key × V)} {xs : List (List Key × Addr × Value)} (r : KT H kvs xs) (k : List Key) {y : V} {u : Value} (ry : RelV y u) :
    KT H (kvs.map fun kv => if kv.1 = k then (kv.1, y) else kv) (xs.map (putAt k u)) := by
  induction r with
  | nil => exact .nil
  | @cons p q ps qs h t ih =>
    rw [List.map_cons, List.map_cons]
    refine .cons ?_ ih
    obtain ⟨h1, h2, h3⟩ := h
    unfold putAt
    by_cases e : p.1 = k
    · rw [if_pos e, if_pos (h1.symm.trans e)]; exact ⟨h1, h2, ry⟩
    · rw [if_neg e, if_neg (fun z => e (h1.trans z))]; exact ⟨h1, h2, h3⟩
theorem KT.put {H : Hp} {kvs : List (List Key × V)} {xs : List (List Key × Addr × Value)} (r : KT H kvs xs) (k : List Key) {b : Addr} {y : V} {u : Value} (hb : H b = some (.tup (k.map kV))) (ry : RelV y u) :
    KT H (putK kvs k y) (storedH xs k b u) := by
  have e : (kvs.any fun kv => decide (kv.1 = k)) = (atKey xs k).isSome := by
    rw [valV_any, (r.val k).isSome_eq, Option.isSome_map]
  unfold putK storedH
  rw [e]
  by_cases q : (atKey xs k).isSome = true
  · rw [if_pos q, if_pos q]; exact r.repl k ry
  · rw [if_neg q, if_neg q]; exact Paired.snoc r ⟨rfl, hb, ry⟩
theorem KT.keeps {H H' : Hp} {kvs : List (List Key × V)} {xs : List (List Key × Addr × Value)} (r : KT H kvs xs) (ht : ∀ b ys, H b = some (.tup ys) → H' b = some (.tup ys)) : KT H' kvs xs :=
  Paired.mapP r fun _ _ z => ⟨z.1, ht _ _ z.2.1, z.2.2⟩

section
variable {P : Program} {w : World} {H : Hp} {h : Heap} {a : Addr}
theorem rd_of {u : HO} (ok : HOk P w H h) (e : Rd H a u) : ObjOk P w H h a u := e.ok ok
theorem dk_rd {kvs : List (Key × V)} (ok : HOk P w H h) (e : Rd H a (.dK kvs)) : kvs.length ≤ sizeLine ∧ (a == sysModules) = false ∧ ∃ vs, KV kvs vs ∧ h.DictOf (mixKind P w) a vs :=
  show ObjOk P w H h a (.dK kvs) from rd_of ok e
theorem dk_of {kvs : List (Key × V)} (ok : HOk P w H h) (e : H a = some (.dK kvs)) : kvs.length ≤ sizeLine ∧ (a == sysModules) = false ∧ ∃ vs, KV kvs vs ∧ h.DictOf (mixKind P w) a vs := dk_rd ok (.inl e)
/-- a tracked tuple of ints and texts is a key -/
theorem key_of {ks : List Key} (ok : HOk P w H h) (e : H a = some (.tup (ks.map kV))) : (tupleKind (mixKind P w)).is h ks a := by
  obtain ⟨_, its, r, o, h1, h2, n, h3⟩ := (show ObjOk P w H h a (.tup (ks.map kV)) from ok a _ e)
  exact ⟨o, its.toArray, n, h1, h2, h3, by simpa using items_are r⟩
theorem dt_rd {kvs : List (List Key × V)} (ok : HOk P w H h) (e : Rd H a (.dT kvs)) : kvs.length ≤ sizeLine ∧ (a == sysModules) = false ∧
    ∃ xs, KT H kvs xs ∧ h.DictOfH (tupleKind (mixKind P w)) a xs := by
  obtain ⟨z, y, xs, r, o, es, ep, h1, h2, h3, h4, h5⟩ := (show ObjOk P w H h a (.dT kvs) from rd_of ok e)
  refine ⟨z, y, xs, r, o, es, ep, h1, h2, h3, h4, fun x hx => ?_, h5⟩
  have all : ∀ {l : List (List Key × V)} {m : List (List Key × Addr × Value)}, KT H l m → ∀ x ∈ m, (tupleKind (mixKind P w)).is h x.1 x.2.1 := by
    intro l m q
    induction q with
    | nil => intro x hx; exact nomatch hx
    | @cons p q ps qs hq t ih =>
      intro x hx
      rcases List.mem_cons.mp hx with e | hx
      · subst e
        exact key_of ok (by rw [← hq.1]; exact hq.2.1)
      · exact ih x hx
  exact all r x hx
theorem dt_of {kvs : List (List Key × V)} (ok : HOk P w H h) (e : H a = some (.dT kvs)) : kvs.length ≤ sizeLine ∧ (a == sysModules) = false ∧
    ∃ xs, KT H kvs xs ∧ h.DictOfH (tupleKind (mixKind P w)) a xs := dt_rd ok (.inl e)
end

/-- what the dict at a holds at the key y -/
def DGet (H : Hp) (a : Addr) (y : V) (r : Option V) : Prop :=
  (∃ kvs k, Rd H a (.dK kvs) ∧ y = kV k ∧ r = valV kvs k) ∨ ∃ kvs k b, Rd H a (.dT kvs) ∧ y = .ref b ∧ H b = some (.tup (k.map kV)) ∧ r = valV kvs k
/-- the heap behind a[y] = v -/
def DPut (H : Hp) (a : Addr) (y v : V) (H' : Hp) : Prop :=
  (∃ kvs k, H a = some (.dK kvs) ∧ y = kV k ∧ kvs.length < sizeLine ∧ H' = upd H a (.dK (putK kvs k v))) ∨
  ∃ kvs k b, H a = some (.dT kvs) ∧ y = .ref b ∧ H b = some (.tup (k.map kV)) ∧ kvs.length < sizeLine ∧ H' = upd H a (.dT (putK kvs k v))
theorem DGet.k {H : Hp} {a : Addr} {kvs : List (Key × V)} {k : Key} (e : H a = some (.dK kvs)) : DGet H a (kV k) (valV kvs k) := .inl ⟨kvs, k, .inl e, rfl, rfl⟩
theorem DGet.t {H : Hp} {a b : Addr} {kvs : List (List Key × V)} {k : List Key} (e : H a = some (.dT kvs)) (eb : H b = some (.tup (k.map kV))) : DGet H a (.ref b) (valV kvs k) := .inr ⟨kvs, k, b, .inl e, rfl, eb, rfl⟩
theorem DPut.k {H : Hp} {a : Addr} {kvs : List (Key × V)} {k : Key} {v : V} (e : H a = some (.dK kvs)) (hl : kvs.length < sizeLine) : DPut H a (kV k) v (upd H a (.dK (putK kvs k v))) := .inl ⟨kvs, k, e, rfl, hl, rfl⟩
theorem DPut.t {H : Hp} {a b : Addr} {kvs : List (List Key × V)} {k : List Key} {v : V} (e : H a = some (.dT kvs)) (eb : H b = some (.tup (k.map kV))) (hl : kvs.length < sizeLine) :
    DPut H a (.ref b) v (upd H a (.dT (putK kvs k v))) := .inr ⟨kvs, k, b, e, rfl, eb, hl, rfl⟩

section
variable {X : Cx} {pins : List (Addr × Obj)} {σ : St} {H : Hp} {s : Shared} {a : Addr} {y v : V} {u r : Value} {o : Option V} {A : Around} {E : Value → Shared → Prop}

theorem Inv.big (I : Inv X pins σ H s) : sysModules < s.heap.objs.size := by
  have h : mainGlobals < s.heap.objs.size := (I.mod.glob.keeps I.bk).lt
  exact Nat.lt_trans (by decide) h

/-- d[y], there -/
theorem d_getItem {Q : Value → Shared → Prop} (hu : A.units + 1 < cLine) (I : Inv X pins σ H s) (g : DGet H a y (some v)) (ry : RelV y u) (h : ∀ w' s', Inv X pins σ H s' → RelV v w' → Q w' s') :
    wpAny (model X.prog X.w) A (getItem (.ref a) u) Q E s := by
  rcases g with ⟨kvs, k, e, ey, l⟩ | ⟨kvs, k, b, e, ey, eb, l⟩
  · subst ey
    obtain ⟨z, hd, vs, rel, dd⟩ := dk_rd I.hok e
    obtain ⟨w', hw, rw'⟩ := RelO.some_of (v := v) (o := valueAt vs k) (by rw [l]; exact rel.val k)
    exact wpAny_getItem_of (kV_is ry) dd.mapOf hw (h w' _ (I.tok _) rw')
  · subst ey
    cases (show u = Value.ref b from ry)
    obtain ⟨z, hd, xs, rel, dd⟩ := dt_rd I.hok e
    obtain ⟨w', hw, rw'⟩ := RelO.some_of (v := v) (o := (atKey xs k).map (·.2)) (by rw [l]; exact rel.val k)
    obtain ⟨p, hp, hp2⟩ := Option.map_eq_some_iff.mp hw
    refine wpAny_getItem_heap (tupleKind_room_in1 hu) (key_of I.hok eb) dd hp ?_
    rw [hp2]
    exact h w' _ (I.tok _) rw'
/-- y in d -/
theorem d_in {Q : Value → Shared → Prop} (hu : A.units + 1 < cLine) (I : Inv X pins σ H s) (g : DGet H a y o) (ry : RelV y u) (h : ∀ s', Inv X pins σ H s' → Q (.bool o.isSome) s') :
    wpAny (model X.prog X.w) A (compareOp .In u (.ref a)) Q E s := by
  rcases g with ⟨kvs, k, e, ey, l⟩ | ⟨kvs, k, b, e, ey, eb, l⟩
  · subst ey
    obtain ⟨z, hd, vs, rel, dd⟩ := dk_rd I.hok e
    refine wpAny_in_of (kV_is ry) hd dd.mapOf ?_
    rw [← (rel.val k).isSome_eq, ← l]
    exact h _ (I.tok _)
  · subst ey
    cases (show u = Value.ref b from ry)
    obtain ⟨z, hd, xs, rel, dd⟩ := dt_rd I.hok e
    refine wpAny_in_heap (tupleKind_room_in1 hu) (key_of I.hok eb) hd dd ?_
    have q := (rel.val k).isSome_eq
    rw [Option.isSome_map] at q
    rw [← q, ← l]
    exact h _ (I.tok _)
theorem d_notIn {Q : Value → Shared → Prop} (hu : A.units + 1 < cLine) (I : Inv X pins σ H s) (g : DGet H a y o) (ry : RelV y u) (h : ∀ s', Inv X pins σ H s' → Q (.bool (!o.isSome)) s') :
    wpAny (model X.prog X.w) A (compareOp .NotIn u (.ref a)) Q E s := by
  rcases g with ⟨kvs, k, e, ey, l⟩ | ⟨kvs, k, b, e, ey, eb, l⟩
  · subst ey
    obtain ⟨z, hd, vs, rel, dd⟩ := dk_rd I.hok e
    refine wpAny_notIn_of (kV_is ry) hd dd.mapOf ?_
    rw [← (rel.val k).isSome_eq, ← l]
    exact h _ (I.tok _)
  · subst ey
    cases (show u = Value.ref b from ry)
    obtain ⟨z, hd, xs, rel, dd⟩ := dt_rd I.hok e
    refine wpAny_notIn_heap (tupleKind_room_in1 hu) (key_of I.hok eb) hd dd ?_
    have q := (rel.val k).isSome_eq
    rw [Option.isSome_map] at q
    rw [← q, ← l]
    exact h _ (I.tok _)
/-- a dict's object is replaced -/
theorem d_write {h' : Heap} {t' : Nat} {ob : HO} (I : Inv X pins σ H s) (mu : Mut (H a)) (hs : Heap.SameBut a s.heap h') (he : ∃ q, h'.get? a = some q) (new : ObjOk X.prog X.w (upd H a ob) h' a ob) :
    Inv X pins σ (upd H a ob) { s with heap := h', toks := t' } :=
  I.write (x := a) (e := a) mu (.inl rfl) (fun b q hb z => (hs.2 b hb).trans z) he new
theorem dk_new {P : Program} {w : World} {H' : Hp} {h' : Heap} {kvs : List (Key × V)} {vs : List (Key × Value)} (z : kvs.length ≤ sizeLine) (hd : (a == sysModules) = false) (rel : KV kvs vs) (dd : h'.DictOf (mixKind P w) a vs) :
    ObjOk P w H' h' a (.dK kvs) := ⟨z, hd, vs, rel, dd⟩
/-- d[y] = v -/
theorem d_setItem {H' : Hp} {Q : Unit → Shared → Prop} (hu : A.units + 1 < cLine) (I : Inv X pins σ H s) (g : DPut H a y v H') (ry : RelV y u) (rv : RelV v r) (h : ∀ s', Inv X pins σ H' s' → Q () s') :
    wpAny (model X.prog X.w) A (setItem (.ref a) u r) Q E s := by
  rcases g with ⟨kvs, k, e, ey, l, eH⟩ | ⟨kvs, k, b, e, ey, eb, l, eH⟩
  · subst ey eH
    obtain ⟨z, hd, vs, rel, dd⟩ := dk_of I.hok e
    have hz : vs.length ≤ sizeLine := by rw [← rel.length]; exact z
    have hl : (putK kvs k v).length ≤ sizeLine := by have := length_putK kvs k v; omega
    refine wpAny_setItem_pairs (hsz := hz) (kV_is ry) dd fun h' dd' hs => h _ ?_
    have he : ∃ q, h'.get? a = some q := let ⟨q, _, _, hq, _⟩ := dd'; ⟨q, hq⟩
    exact d_write I (by rw [e]; exact True.intro) hs he (dk_new hl hd (rel.put k rv) dd')
  · subst ey eH
    cases (show u = Value.ref b from ry)
    obtain ⟨z, hd, xs, rel, dd⟩ := dt_of I.hok e
    have hz : xs.length ≤ sizeLine := by rw [← Paired.length rel]; exact z
    have hl : (putK kvs k v).length ≤ sizeLine := by have := length_putK kvs k v; omega
    refine wpAny_setItem_heap (hsz := hz) (tupleKind_room_in1 hu) (key_of I.hok eb) dd fun h' dd' hs => h _ ?_
    obtain ⟨q, es, ep, hq, h2, h3, h4, _, h5⟩ := dd'
    refine d_write I (by rw [e]; exact True.intro) hs ⟨q, hq⟩ ⟨hl, hd, _, (rel.put k eb rv).keeps fun c ys ec => ?_, q, es, ep, hq, h2, h3, h4, h5⟩
    rw [upd_ne (ne_of ec e (fun z => nomatch z))]
    exact ec
end

section
variable {X : Cx} {pins : List (Addr × Obj)} {σ : St} {H : Hp} {s : Shared} {a : Addr} {kvs : List (Key × V)} {k : Key} {u : Value} {A : Around} {E : Value → Shared → Prop}
/-- del d[k] -/
theorem d_delItem {Q : Unit → Shared → Prop} (I : Inv X pins σ H s) (e : H a = some (.dK kvs)) (ry : RelV (kV k) u) (l : (valV kvs k).isSome = true) (h : ∀ s', Inv X pins σ (upd H a (.dK (dropK kvs k))) s' → Q () s') :
    wpAny (model X.prog X.w) A (delItem (.ref a) u) Q E s := by
  obtain ⟨z, hd, vs, rel, dd⟩ := dk_of I.hok e
  refine wpAny_delItem_slot dd.typeIs (by decide) PySem.F.slot_dict_delitem
    (call_meetsIn PySem.F.slot_dict_delitem dd.typeIs PySem.F.entry_dict_delitem (PySem.F.args_dict_delitem_2 _ _) (meets_dict_delitem_pairs (mixKind X.prog X.w) a (kV_is ry)) ⟨vs, dd, by rw [← rel.length]; exact z, by rw [← (rel.val k).isSome_eq]; exact l, fun h' dd' hs => h _ ?_⟩)
  have he : ∃ q, h'.get? a = some q := let ⟨q, _, _, hq, _⟩ := dd'; ⟨q, hq⟩
  exact d_write I (by rw [e]; exact True.intro) hs he (dk_new (Nat.le_trans (dropK_le kvs k) z) hd (rel.drop k) dd')
/-- d.pop(k[, x]), there -/
theorem d_pop {v : V} {more : List Value} {Q : Value → Shared → Prop} (I : Inv X pins σ H s) (e : H a = some (.dK kvs)) (ry : RelV (kV k) u) (l : valV kvs k = some v) (hm : more = [] ∨ ∃ x, more = [x])
    (h : ∀ w' s', Inv X pins σ (upd H a (.dK (dropK kvs k))) s' → RelV v w' → Q w' s') : wpAny (model X.prog X.w) A (call (.builtin "dict.pop") (.ref a :: u :: more)) Q E s := by
  obtain ⟨z, hd, vs, rel, dd⟩ := dk_of I.hok e
  obtain ⟨w', hw, rw'⟩ := RelO.some_of (v := v) (o := valueAt vs k) (by rw [← l]; exact rel.val k)
  have hp : (keyPart u).isSome = true := by
    cases k with
    | inl i => obtain ⟨t, q⟩ := (show ∃ t, u = Value.int i t from ry); subst q; rfl
    | inr x => obtain ⟨t, q⟩ := (show ∃ t, u = Value.str x t from ry); subst q; rfl
  have ha : argsOk "dict.pop" ⟨.ref a :: u :: more, []⟩ := by
    rcases hm with q | ⟨x, q⟩
    · subst q; exact PySem.F.args_dict_pop_2 _ _
    · subst q; exact PySem.F.args_dict_pop_3 _ _ _
  refine call_meetsIn PySem.F.slot_dict_pop dd.typeIs PySem.F.entry_dict_pop ha (meets_dict_pop_there (mixKind X.prog X.w) a (kV_is ry) more hm hp)
    ⟨vs, w', dd, by rw [← rel.length]; exact z, hw, fun h' dd' hs => h w' _ ?_ rw'⟩
  have he : ∃ q, h'.get? a = some q := let ⟨q, _, _, hq, _⟩ := dd'; ⟨q, hq⟩
  exact d_write I (by rw [e]; exact True.intro) hs he (dk_new (Nat.le_trans (dropK_le kvs k) z) hd (rel.drop k) dd')
/-- d.pop(k, x), not there -/
theorem d_popD {r : Value} {Q : Value → Shared → Prop} (I : Inv X pins σ H s) (e : H a = some (.dK kvs)) (ry : RelV (kV k) u) (l : valV kvs k = none) (h : ∀ s', Inv X pins σ H s' → Q r s') :
    wpAny (model X.prog X.w) A (call (.builtin "dict.pop") [.ref a, u, r]) Q E s := by
  obtain ⟨z, hd, vs, rel, dd⟩ := dk_of I.hok e
  have hn : valueAt vs k = none := RelO.none_of (by rw [← l]; exact rel.val k)
  have hp : (keyPart u).isSome = true := by
    cases k with
    | inl i => obtain ⟨t, q⟩ := (show ∃ t, u = Value.int i t from ry); subst q; rfl
    | inr x => obtain ⟨t, q⟩ := (show ∃ t, u = Value.str x t from ry); subst q; rfl
  exact call_meetsIn PySem.F.slot_dict_pop dd.typeIs PySem.F.entry_dict_pop (PySem.F.args_dict_pop_3 _ _ _) (meets_dict_pop_default (mixKind X.prog X.w) a (kV_is ry) hd hp r) ⟨vs, dd, hn, h _ (I.tok _)⟩
/-- d.clear() -/
theorem d_clear {Q : Value → Shared → Prop} (I : Inv X pins σ H s) (e : H a = some (.dK kvs)) (h : ∀ s', Inv X pins σ (upd H a (.dK [])) s' → Q .none s') : wpAny (model X.prog X.w) A (call (.builtin "dict.clear") [.ref a]) Q E s := by
  obtain ⟨z, hd, vs, rel, dd⟩ := dk_of I.hok e
  refine call_meetsIn PySem.F.slot_dict_clear dd.typeIs PySem.F.entry_dict_clear (PySem.F.args_dict_clear_1 _) (meets_dict_clear (mixKind X.prog X.w) a) ⟨vs, dd, by rw [← rel.length]; exact z, fun h' dd' hs => h _ ?_⟩
  have he : ∃ q, h'.get? a = some q := let ⟨q, _, _, hq, _⟩ := dd'; ⟨q, hq⟩
  exact d_write (t' := s.toks) I (by rw [e]; exact True.intro) hs he (dk_new (Nat.zero_le _) hd .nil dd')
/-- len(d) -/
theorem d_len {Q : Value → Shared → Prop} (I : Inv X pins σ H s) (e : Rd H a (.dK kvs)) (h : ∀ t s', Inv X pins σ H s' → Q (.int kvs.length t) s') : wpAny (model X.prog X.w) A (call (.builtin "len") [.ref a]) Q E s := by
  obtain ⟨z, hd, vs, rel, dd⟩ := dk_rd I.hok e
  refine call_len_dict hd dd (by rw [← rel.length]; rw [sizeLine_eq] at z; omega) ?_
  rw [← rel.length]
  exact h _ _ (I.tok _)
/-- if d -/
theorem d_truth {Q : Bool → Shared → Prop} (I : Inv X pins σ H s) (e : Rd H a (.dK kvs)) (h : ∀ s', Inv X pins σ H s' → Q (!kvs.isEmpty) s') : wpAny (model X.prog X.w) A (truthy (.ref a)) Q E s := by
  obtain ⟨z, hd, vs, rel, dd⟩ := dk_rd I.hok e
  refine wpAny_truthy_dict hd dd (by rw [← rel.length]; rw [sizeLine_eq] at z; omega) ?_
  have q : kvs.isEmpty = vs.isEmpty := by cases rel <;> rfl
  rw [← q]
  exact h _ (I.tok _)
end

/-! ### readings and rules -/
/-- the element of a subscription, not a slice -/
def NoSl (i : Expr) : Prop := ∀ ov iv, subscripted i false ov iv = operate [ov, iv] (getItem ov iv)
theorem subD_of {prog : Program} {w : World} {A : Around} {E : Value → Shared → Prop} {s : Shared} {env : Env} {value slice : Expr} {pos : Pos} {T id : String} {Q : Value → Shared → Prop}
    (hl : typeLookup (.type T) "__getitem__" = pure (some (.builtin id))) (hs : NoSl slice)
    (h : wpAny (model prog w) A (eval value env) (fun o s₁ => wpAny (model prog w) A (eval slice env) (fun i s₂ => s₂.TypeIs o T ∧ wpAny (model prog w) A (getItem o i) Q E s₂) E s₁) E s) :
    wpAny (model prog w) A (eval (.Subscript value slice pos) env) Q E s := by
  refine Subscript_ (wpAny_mono h (fun o s₁ h₁ => wpAny_mono h₁ (fun i s₂ h₂ => ?_) fun _ _ x => x) fun _ _ x => x)
  obtain ⟨hT, h₂⟩ := h₂
  unfold subscriptTail
  refine wpAny_bind ?_
  rw [getitemInPython_of_ne hT.not_modules]
  refine wpAny_bind (wpAny_specialOf hT hl ?_)
  have fin : wpAny (model prog w) A (subscripted slice false o i) (fun r s₃ => wpAny (model prog w) A (letTemporaryGo value o r >>= fun _ => pure r) Q E s₃) E s₂ := by
    rw [hs o i]
    exact wpAny_operating (wpAny_mono h₂ (fun r s₃ h₃ => wpAny_bind (wpAny_letTemporaryGo (wpAny_pure h₃))) fun _ _ x => x)
  first
    | exact wpAny_pure (wpAny_bind fin)
    | exact wpAny_bind (wpAny_pure (wpAny_bind fin))
    | exact wpAny_bind fin

theorem dict_typeIs {X : Cx} {pins : List (Addr × Obj)} {σ : St} {H : Hp} {s : Shared} {a : Addr} {y : V} {o : Option V} (I : Inv X pins σ H s) (g : DGet H a y o) : s.TypeIs (.ref a) "dict" := by
  rcases g with ⟨kvs, k, e, _, _⟩ | ⟨kvs, k, b, e, _, _, _⟩
  · obtain ⟨_, _, vs, _, dd⟩ := dk_rd I.hok e
    exact dd.typeIs
  · obtain ⟨_, _, xs, _, dd⟩ := dt_rd I.hok e
    exact dd.typeIs
theorem dict_noDict {X : Cx} {pins : List (Addr × Obj)} {σ : St} {H : Hp} {s : Shared} {a : Addr} {y : V} {o : Option V} (I : Inv X pins σ H s) (g : DGet H a y o) :
    ∀ b, Value.ref a = .ref b → ∃ ob, s.heap.get? b = some ob ∧ ob.dict = none := fun b q => by
  cases q
  rcases g with ⟨kvs, k, e, _, _⟩ | ⟨kvs, k, b, e, _, _, _⟩
  · obtain ⟨_, _, vs, _, ob, _, _, h1, h2, _⟩ := dk_rd I.hok e
    exact ⟨ob, h1, h2.2.1⟩
  · obtain ⟨_, _, xs, _, ob, _, _, h1, h2, _⟩ := dt_rd I.hok e
    exact ⟨ob, h1, h2.2.1⟩

/-- d[y] -/
def tDGet (td ty : TE) : TE := fun σ H Q => td σ H fun x H1 => ty σ H1 fun y H2 => ∃ a v, x = .ref a ∧ DGet H2 a y (some v) ∧ Q v H2
/-- y in d, y not in d -/
def tDIn (ty td : TE) : TE := fun σ H Q => ty σ H fun y H1 => td σ H1 fun x H2 => ∃ a o, x = .ref a ∧ DGet H2 a y o ∧ Q (.bl o.isSome) H2
def tDNotIn (ty td : TE) : TE := fun σ H Q => ty σ H fun y H1 => td σ H1 fun x H2 => ∃ a o, x = .ref a ∧ DGet H2 a y o ∧ Q (.bl (!o.isSome)) H2
/-- d[y] = v -/
def sDPut (td ty tv : TE) : TS := fun D σ H => tv σ H fun v H1 => td σ H1 fun x H2 => ty σ H2 fun y H3 => ∃ a H4, x = .ref a ∧ DPut H3 a y v H4 ∧ D.nx σ H4
/-- d[y] op= v -/
def sDAug (td ty tv : TE) (rd : V → V → Hp → VK → Prop) : TS := fun D σ H => td σ H fun x H1 => ty σ H1 fun y H2 => ∃ a v, x = .ref a ∧ DGet H2 a y (some v) ∧
  tv σ H2 fun y2 H3 => rd v y2 H3 fun z H4 => ∃ H5, DPut H4 a y z H5 ∧ D.nx σ H5
/-- del d[y] -/
def sDDel (td ty : TE) : TS := fun D σ H => td σ H fun x H1 => ty σ H1 fun y H2 => ∃ a kvs k, x = .ref a ∧ H2 a = some (.dK kvs) ∧ y = kV k ∧ (valV kvs k).isSome = true ∧ D.nx σ (upd H2 a (.dK (dropK kvs k)))

section
variable {X : Cx} {o i e value : Expr} {pos pos' tpos : Pos} {td ty tv : TE}
theorem pe_dget (hu : X.A.units + 1 < cLine) (ho : PE X o td) (hi : PE X i ty) (hs : NoSl i) : PE X (.Subscript o i pos) (tDGet td ty) := by
  intro pins s σ H Q I h
  refine subD_of PySem.F.slot_dict_getitem.lookup hs (thn (ho pins s σ H _ I h) fun u s1 ⟨x, H1, I1, rx, q1⟩ => thn (hi pins s1 σ H1 _ I1 q1) fun iv s2 ⟨y, H2, I2, ry, a, v, ex, g, q2⟩ => ?_)
  subst ex
  obtain rfl : u = Value.ref a := rx
  exact ⟨dict_typeIs I2 g, d_getItem hu I2 g ry fun w' s3 I3 rw' => ⟨v, H2, I3, rw', q2⟩⟩
theorem pc_din (hu : X.A.units + 1 < cLine) (hi : PE X i ty) (ho : PE X o td) : PC X .In i o (tDIn ty td) := by
  intro pins s σ H Q I h
  refine thn (hi pins s σ H _ I h) fun iv s1 ⟨y, H1, I1, ry, q1⟩ => thn (ho pins s1 σ H1 _ I1 q1) fun u s2 ⟨x, H2, I2, rx, a, ov, ex, g, q2⟩ => ?_
  subst ex
  obtain rfl : u = Value.ref a := rx
  exact d_in hu I2 g ry fun s3 I3 => ⟨.bl ov.isSome, H2, I3, rfl, q2⟩
theorem pc_dnotin (hu : X.A.units + 1 < cLine) (hi : PE X i ty) (ho : PE X o td) : PC X .NotIn i o (tDNotIn ty td) := by
  intro pins s σ H Q I h
  refine thn (hi pins s σ H _ I h) fun iv s1 ⟨y, H1, I1, ry, q1⟩ => thn (ho pins s1 σ H1 _ I1 q1) fun u s2 ⟨x, H2, I2, rx, a, ov, ex, g, q2⟩ => ?_
  subst ex
  obtain rfl : u = Value.ref a := rx
  exact d_notIn hu I2 g ry fun s3 I3 => ⟨.bl (!ov.isSome), H2, I3, rfl, q2⟩
theorem ps_dput (hu : X.A.units + 1 < cLine) (ho : PE X o td) (hi : PE X i ty) (hv : PE X value tv) (hs : swapsWith value (some (.Subscript o i pos')) pos.line X.env = pure false) :
    PS X (.Assign [.Subscript o i pos'] value pos) (sDPut td ty tv) := by
  intro pins s σ H D I h
  refine wpAny_Assign_Subscript (thn (hv pins s σ H _ I h) fun r s1 ⟨v, H1, I1, rv, q1⟩ => thn (ho pins s1 σ H1 _ I1 q1) fun u s2 ⟨x, H2, I2, rx, q2⟩ => thn (hi pins s2 σ H2 _ I2 q2) fun iv s3 ⟨y, H3, I3, ry, a, H4, ex, g, q3⟩ => ?_) hs
  subst ex
  obtain rfl : u = Value.ref a := rx
  exact d_setItem hu I3 g ry rv fun s4 I4 => ⟨σ, H4, I4, q3⟩
theorem ps_daug {op : Operator} {rd : V → V → Hp → VK → Prop} (hu : X.A.units + 1 < cLine) (ho : PE X o td) (hi : PE X i ty) (hv : PE X value tv) (hop : InOp X op rd)
    (ha : ∀ ov iv new, augStore i ov iv new = (do holding [new, ov, iv] (setItem ov iv new); release [new, ov, iv] []; pure .next)) : PS X (.AugAssign (.Subscript o i tpos) op value pos) (sDAug td ty tv rd) := by
  intro pins s σ H D I h
  refine wpAny_AugAssign_SubscriptAny (thn (ho pins s σ H _ I h) fun u s1 ⟨x, H1, I1, rx, q1⟩ => thn (hi pins s1 σ H1 _ I1 q1) fun iv s2 ⟨y, H2, I2, ry, a, v, ex, g, q2⟩ => ?_) ha
  subst ex
  obtain rfl : u = Value.ref a := rx
  refine d_getItem hu I2 g ry fun w' s3 I3 rw' => thn (hv pins s3 σ H2 _ I3 q2) fun w2 s4 ⟨y2, H3, I4, ry2, q3⟩ => thn (hop pins s4 σ H3 v y2 w' w2 _ I4 rw' ry2 q3) fun w3 s5 ⟨z, H4, I5, rz, H5, g5, q4⟩ => ?_
  exact d_setItem hu I5 g5 ry rz fun s6 I6 => ⟨σ, H5, I6, q4⟩
theorem ps_ddel (ho : PE X o td) (hi : PE X i ty) : PS X (.Delete [.Subscript o i tpos] pos) (sDDel td ty) := by
  intro pins s σ H D I h
  refine wpAny_Delete (wpAny_deleteEach_cons (wpAny_delete_Subscript (thn (ho pins s σ H _ I h) fun u s1 ⟨x, H1, I1, rx, q1⟩ => thn (hi pins s1 σ H1 _ I1 q1) fun iv s2 ⟨y, H2, I2, ry, a, kvs, k, ex, e, ey, l, q2⟩ => ?_)))
  subst ex ey
  obtain rfl : u = Value.ref a := rx
  exact d_delItem I2 e ry l fun s3 I3 => wpAny_deleteEach_nil ⟨σ, _, I3, q2⟩
end

/-! ### displays -/
theorem dk_empty {P : Program} {w : World} {H : Hp} (h : Heap) (hb : sysModules < h.objs.size) : ObjOk P w H (h.push { cls := .type "dict", data := .dict #[] }) h.objs.size (.dK []) :=
  ⟨Nat.zero_le _, beq_eq_false_iff_ne.mpr (Ne.symm (Nat.ne_of_lt hb)), [], .nil, Heap.DictOf.new h⟩
theorem dt_empty {P : Program} {w : World} {H : Hp} (h : Heap) (hb : sysModules < h.objs.size) : ObjOk P w H (h.push { cls := .type "dict", data := .dict #[] }) h.objs.size (.dT []) :=
  ⟨Nat.zero_le _, beq_eq_false_iff_ne.mpr (Ne.symm (Nat.ne_of_lt hb)), [], .nil, _, #[], 0, Heap.get?_push_size _ rfl, ⟨rfl, rfl, rfl⟩, rfl, rfl, List.nodup_nil⟩
/-- {}, to be a dict of the kind that is wanted -/
def tDNewK : TE := fun _ H Q => ∀ p, H p = none → Q (.ref p) (upd H p (.dK []))
def tDNewT : TE := fun _ H Q => ∀ p, H p = none → Q (.ref p) (upd H p (.dT []))
section
variable {X : Cx} {pos : Pos}
theorem pe_dnewK : PE X (.Dict [] [] pos) tDNewK := fun pins s σ H Q I h =>
  wpAny_Dict_empty ⟨.ref s.heap.objs.size, _, I.laid (a := s.heap.objs.size) (o := .dK []) (t' := s.toks) (fun _ _ q => Heap.get?_push_of_some _ q) (Nat.le_refl _) (dk_empty s.heap I.big), rfl, h _ (I.hok.fresh (Nat.le_refl _))⟩
theorem pe_dnewT : PE X (.Dict [] [] pos) tDNewT := fun pins s σ H Q I h =>
  wpAny_Dict_empty ⟨.ref s.heap.objs.size, _, I.laid (a := s.heap.objs.size) (o := .dT []) (t' := s.toks) (fun _ _ q => Heap.get?_push_of_some _ q) (Nat.le_refl _) (dt_empty s.heap I.big), rfl, h _ (I.hok.fresh (Nat.le_refl _))⟩
end

section
variable {X : Cx}
/-- len of a dict -/
theorem call_lenD : CallR X (.builtin "len") (fun xs H Q => ∃ a kvs, xs = [V.ref a] ∧ H a = some (.dK kvs) ∧ Q (.int kvs.length) H) := by
  intro pins s σ H xs us Q I r h
  obtain ⟨a, kvs, rfl, ha, q⟩ := h
  obtain ⟨u, rfl, ru⟩ := vals1 r
  cases ru
  exact d_len I (.inl ha) fun t s' I' => ⟨.int kvs.length, H, I', ⟨t, rfl⟩, q⟩
end
/-! ### a dict's pairs: keys that differ -/
section
variable {κ : Type} [DecidableEq κ]
theorem valV_not {kvs : List (κ × V)} {k : κ} (h : valV kvs k = none) : ¬ k ∈ kvs.map (·.1) := by
  intro m
  obtain ⟨p, hp, e⟩ := List.mem_map.mp m
  have q : (kvs.any fun kv => decide (kv.1 = k)) = true := List.any_eq_true.mpr ⟨p, hp, decide_eq_true e⟩
  rw [valV_any, h] at q
  exact absurd q (by simp)
theorem valV_in {kvs : List (κ × V)} {k : κ} {v : V} (h : valV kvs k = some v) : k ∈ kvs.map (·.1) := by
  have q : (kvs.any fun kv => decide (kv.1 = k)) = true := by
    rw [valV_any, h]
    all_goals rfl
  obtain ⟨p, hp, e⟩ := List.any_eq_true.mp q
  exact List.mem_map.mpr ⟨p, hp, of_decide_eq_true e⟩
theorem nd_snoc : ∀ {l : List κ} {k : κ}, l.Nodup → ¬ k ∈ l → (l ++ [k]).Nodup
  | [], k, _, _ => by simp
  | a :: r, k, h, hk => by
    obtain ⟨h1, h2⟩ := List.nodup_cons.mp h
    show (a :: (r ++ [k])).Nodup
    refine List.nodup_cons.mpr ⟨fun m => ?_, nd_snoc h2 fun m => hk (List.mem_cons.mpr (Or.inr m))⟩
    rcases List.mem_append.mp m with q | q
    · exact h1 q
    · exact hk (List.mem_cons.mpr (Or.inl (List.mem_singleton.mp q).symm))
theorem nd_putK {kvs : List (κ × V)} {k : κ} (v : V) (hn : (kvs.map (·.1)).Nodup) (h : valV kvs k = none) : ((putK kvs k v).map (·.1)).Nodup := by
  rw [putK_new v h, List.map_append]
  exact nd_snoc hn (valV_not h)
theorem dropK_pos {p : κ × V} {r : List (κ × V)} {k : κ} (e : p.1 = k) : dropK (p :: r) k = dropK r k := by
  unfold dropK
  rw [List.filter_cons, if_neg (by simp [e])]
theorem dropK_neg {p : κ × V} {r : List (κ × V)} {k : κ} (e : ¬ p.1 = k) : dropK (p :: r) k = p :: dropK r k := by
  unfold dropK
  rw [List.filter_cons, if_pos (by simp [e])]
theorem dropK_no : ∀ {kvs : List (κ × V)} {k : κ}, ¬ k ∈ kvs.map (·.1) → dropK kvs k = kvs
  | [], _, _ => rfl
  | p :: r, k, h => by
    have h' : ¬ k ∈ r.map (·.1) := fun m => by
      obtain ⟨q, hq, e⟩ := List.mem_map.mp m
      exact h (List.mem_map.mpr ⟨q, List.mem_cons.mpr (Or.inr hq), e⟩)
    rw [dropK_neg fun e => h (List.mem_map.mpr ⟨p, List.mem_cons.mpr (Or.inl rfl), e⟩), dropK_no h']
theorem dropK_mem {kvs : List (κ × V)} {k : κ} {p : κ × V} (h : p ∈ dropK kvs k) : p ∈ kvs := (List.mem_filter.mp h).1
theorem nd_dropK : ∀ {kvs : List (κ × V)} {k : κ}, (kvs.map (·.1)).Nodup → ((dropK kvs k).map (·.1)).Nodup
  | [], _, _ => List.nodup_nil
  | p :: r, k, h => by
    have h : (p.1 :: r.map (·.1)).Nodup := h
    obtain ⟨h1, h2⟩ := List.nodup_cons.mp h
    by_cases e : p.1 = k
    · rw [dropK_pos e]
      exact nd_dropK h2
    · rw [dropK_neg e]
      show (p.1 :: (dropK r k).map (·.1)).Nodup
      refine List.nodup_cons.mpr ⟨fun m => h1 ?_, nd_dropK h2⟩
      obtain ⟨q, hq, eq⟩ := List.mem_map.mp m
      exact List.mem_map.mpr ⟨q, dropK_mem hq, eq⟩
theorem dropK_len : ∀ {kvs : List (κ × V)} {k : κ}, (kvs.map (·.1)).Nodup → k ∈ kvs.map (·.1) → (dropK kvs k).length + 1 = kvs.length
  | [], _, _, m => by simp at m
  | p :: r, k, h, m => by
    have h : (p.1 :: r.map (·.1)).Nodup := h
    have m : k = p.1 ∨ k ∈ r.map (·.1) := List.mem_cons.mp m
    obtain ⟨h1, h2⟩ := List.nodup_cons.mp h
    by_cases e : p.1 = k
    · subst e
      rw [dropK_pos rfl, dropK_no h1]
      all_goals rfl
    · have m' : k ∈ r.map (·.1) := m.resolve_left fun z => e z.symm
      have q := dropK_len h2 m'
      rw [dropK_neg e, List.length_cons, List.length_cons]
      omega
end
end L2

/-! MY OWN: comprehensions over the hand layer -/
namespace L2
open PySem PySem.Spec PyProof.Rows

/-! ### the cells that a comprehension's block takes along -/
def clOf (cells : List (Str × Addr)) : List (Str × NameKind) → List (Str × Addr) → List (Str × Addr)
  | [], acc => acc
  | (n, k) :: r, acc => clOf cells r (if k = NameKind.free then (n, (cells.lookup n).getD 0) :: acc else acc)
theorem closureFor_cl {scope : Scope} {env : Env} (h : ∀ x ∈ scope.names, x.2 = NameKind.free → ∃ c, env.cells.lookup x.1 = some c) : closureFor scope env = pure (clOf env.cells scope.names []) := by
  have key : ∀ (l : List (Str × NameKind)) (acc : List (Str × Addr)), (∀ x ∈ l, x.2 = NameKind.free → ∃ c, env.cells.lookup x.1 = some c) →
      (forIn l acc (fun x cs => match x with
        | (name, kind) => if (kind == NameKind.free) = true then do let c ← cellOf env name; pure (ForInStep.yield ((name, c) :: cs)) else pure (ForInStep.yield cs)) : Sem (List (Str × Addr))) = pure (clOf env.cells l acc) := by
    intro l
    induction l with
    | nil => intro acc _; rfl
    | cons x r ih =>
      intro acc h
      obtain ⟨n, k⟩ := x
      rw [List.forIn_cons]
      have hr := fun y hy => h y (List.mem_cons_of_mem _ hy)
      by_cases hk : k = NameKind.free
      · subst hk
        obtain ⟨c, hc⟩ := h (n, .free) List.mem_cons_self rfl
        have hc' : env.cells.lookup n = some c := hc
        have e1 : cellOf env n = pure c := by unfold cellOf; rw [hc']
        simp only [beq_self_eq_true, if_true, e1, pure_bind, clOf, hc', Option.getD_some]
        exact ih _ hr
      · have hb : (k == NameKind.free) = false := by simpa using hk
        simp only [hb, Bool.false_eq_true, if_false, pure_bind, clOf, hk]
        exact ih _ hr
  have := key scope.names [] h
  unfold closureFor
  simp only [this, pure_bind]
theorem clOf_some {cells : List (Str × Addr)} {x : Str} {c : Addr} : ∀ (l : List (Str × NameKind)) (acc : List (Str × Addr)), (∀ y ∈ l, y.2 = NameKind.free → ∃ c, cells.lookup y.1 = some c) → (∀ x c, acc.lookup x = some c → cells.lookup x = some c) →
    (clOf cells l acc).lookup x = some c → cells.lookup x = some c
  | [], acc, _, ha, h => ha x c h
  | (n, k) :: r, acc, hl, ha, h => by
    unfold clOf at h
    refine clOf_some r _ (fun y hy => hl y (List.mem_cons_of_mem _ hy)) ?_ h
    intro y d hy
    by_cases hk : k = NameKind.free
    · rw [if_pos hk, List.lookup_cons] at hy
      obtain ⟨e, he⟩ := hl (n, k) List.mem_cons_self hk
      have he' : cells.lookup n = some e := he
      cases hyn : y == n with
      | true =>
        rw [hyn, he'] at hy
        have : y = n := by simpa using hyn
        subst this
        cases hy
        exact he'
      | false =>
        rw [hyn] at hy
        exact ha y d hy
    · rw [if_neg hk] at hy
      exact ha y d hy
theorem clOf_has {cells : List (Str × Addr)} {x : Str} : ∀ (l : List (Str × NameKind)) (acc : List (Str × Addr)), ((x, NameKind.free) ∈ l ∨ ∃ c, acc.lookup x = some c) → ∃ c, (clOf cells l acc).lookup x = some c
  | [], acc, h => by
    rcases h with h | h
    · cases h
    · exact h
  | (n, k) :: r, acc, h => by
    unfold clOf
    refine clOf_has r _ ?_
    rcases h with h | ⟨c, h⟩
    · rcases List.mem_cons.mp h with e | h
      · cases e
        right
        rw [if_pos rfl, List.lookup_cons]
        simp
      · exact .inl h
    · right
      by_cases hk : k = NameKind.free
      · rw [if_pos hk, List.lookup_cons]
        cases x == n with
        | true => exact ⟨_, rfl⟩
        | false => exact ⟨c, h⟩
      · rw [if_neg hk]
        exact ⟨c, h⟩

/-! ### the context of a comprehension's block -/
def compCx (X : Cx) (Nc : List Str) (scope : Scope) (C : Addr) (s : Shared) (H : Hp) (ex : List Addr) : Cx where
  prog := X.prog
  w := X.w
  K := X.K
  mg := X.mg
  base := X.base
  A := X.A
  N := Nc
  s₀ := s
  H₀ := H
  env := compEnvC scope (clOf X.env.cells scope.names []) C X.env
  outer := X.stack
  stack := X.stack
  ex := ex
  fn := fun _ => false
  calm := X.calm
  pn := []
  xe := fun _ _ => False
/-- the block's names at its start: cp says of each name in which slot of the outer frame it stands (none: the block's own) -/
def tau (cp : List (Option Nat)) (σ : St) : St := cp.map fun o => o.elim none fun j => (σ[j]?).getD none
def capB (N Nc : List Str) (cp : List (Option Nat)) (sc : Scope) : Bool :=
  decide (cp.length = Nc.length) && (Nc.zip cp).all fun p => p.2.elim true fun j => decide (N[j]? = some p.1) && decide (sc.names.lookup p.1 = some NameKind.free)
def scB (sc outer : Scope) : Bool :=
  decide (sc.kind = .function) && sc.names.all fun p => decide (p.2 ≠ NameKind.cell) && (decide (p.2 ≠ NameKind.local) || decide (sc.names.lookup p.1 = some NameKind.local)) &&
    (decide (p.2 ≠ NameKind.free) || decide (outer.names.lookup p.1 = some NameKind.cell) || decide (outer.names.lookup p.1 = some NameKind.free)) && (decide (p.2 ≠ NameKind.free) || decide (sc.names.lookup p.1 = some NameKind.free))
structure CompOk (X : Cx) (Nc : List Str) (cp : List (Option Nat)) (scope : Scope) : Prop where
  cap : capB X.N Nc cp scope = true
  sc : scB scope X.env.scope = true
section
variable {X : Cx} {Nc : List Str} {cp : List (Option Nat)} {scope : Scope}
theorem CompOk.len (o : CompOk X Nc cp scope) : cp.length = Nc.length := by
  have h := o.cap
  unfold capB at h
  rw [Bool.and_eq_true] at h
  exact of_decide_eq_true h.1
theorem CompOk.at (o : CompOk X Nc cp scope) {i j : Nat} {x : Str} (h1 : Nc[i]? = some x) (h2 : cp[i]? = some (some j)) : X.N[j]? = some x ∧ scope.names.lookup x = some NameKind.free := by
  have h := o.cap
  unfold capB at h
  rw [Bool.and_eq_true] at h
  have h := List.all_eq_true.mp h.2 (x, some j) (by
    rw [List.mem_iff_getElem?]
    exact ⟨i, by rw [List.getElem?_zip_eq_some]; exact ⟨h1, h2⟩⟩)
  simp only [Option.elim_some, Bool.and_eq_true] at h
  exact ⟨of_decide_eq_true h.1, of_decide_eq_true h.2⟩
theorem CompOk.kind (o : CompOk X Nc cp scope) : scope.kind = .function := by
  have h := o.sc
  unfold scB at h
  rw [Bool.and_eq_true] at h
  exact of_decide_eq_true h.1
theorem CompOk.name (o : CompOk X Nc cp scope) {p : Str × NameKind} (hp : p ∈ scope.names) : p.2 ≠ NameKind.cell ∧ (p.2 = NameKind.local → scope.names.lookup p.1 = some NameKind.local) ∧
    (p.2 = NameKind.free → X.env.kindOf p.1 = some NameKind.cell ∨ X.env.kindOf p.1 = some NameKind.free) ∧ (p.2 = NameKind.free → scope.names.lookup p.1 = some NameKind.free) := by
  have h := o.sc
  unfold scB at h
  rw [Bool.and_eq_true] at h
  have h := List.all_eq_true.mp h.2 p hp
  simp only [Bool.and_eq_true, Bool.or_eq_true, decide_eq_true_eq] at h
  obtain ⟨⟨⟨h1, h2⟩, h3⟩, h4⟩ := h
  refine ⟨h1, fun e => h2.resolve_left fun z => z e, fun e => ?_, fun e => h4.resolve_left fun z => z e⟩
  rcases h3 with (z | z) | z
  · exact absurd e z
  · exact .inl z
  · exact .inr z
theorem CompOk.cells (o : CompOk X Nc cp scope) (ok : X.Ok) : ∀ x ∈ scope.names, x.2 = NameKind.free → ∃ c, X.env.cells.lookup x.1 = some c := fun x hx e => ok.has x.1 ((o.name hx).2.2.1 e)
theorem relabel_kind {sc : Scope} {env : Env} {x : Str} {k : NameKind} : ∀ {names : List (Str × NameKind)}, (names.map fun (n, k) => if (k == NameKind.free && env.scope.kind == .function && env.kindOf n == some .cell) then (n, NameKind.cell) else (n, k)).lookup x = some k →
    names.lookup x = some k ∨ names.lookup x = some NameKind.free
  | [], h => by simp at h
  | (n, k') :: r, h => by
    have ih := @relabel_kind sc env x k r
    rw [List.map_cons] at h
    dsimp only at h
    rw [List.lookup_cons]
    cases hx : x == n with
    | true =>
      by_cases hc : (k' == NameKind.free && env.scope.kind == .function && env.kindOf n == some .cell) = true
      · rw [if_pos hc] at h
        simp only [Bool.and_eq_true] at hc
        have : k' = NameKind.free := by simpa using hc.1.1
        subst this
        exact .inr rfl
      · rw [if_neg hc, List.lookup_cons, hx] at h
        exact .inl h
    | false =>
      have h' : (r.map fun (n, k) => if (k == NameKind.free && env.scope.kind == .function && env.kindOf n == some .cell) then (n, NameKind.cell) else (n, k)).lookup x = some k := by
        by_cases hc : (k' == NameKind.free && env.scope.kind == .function && env.kindOf n == some .cell) = true
        · rw [if_pos hc, List.lookup_cons, hx] at h; exact h
        · rw [if_neg hc, List.lookup_cons, hx] at h; exact h
      exact ih h'
theorem relabel_free {env : Env} {x : Str} : ∀ {names : List (Str × NameKind)}, names.lookup x = some NameKind.free →
    (names.map fun (n, k) => if (k == NameKind.free && env.scope.kind == .function && env.kindOf n == some .cell) then (n, NameKind.cell) else (n, k)).lookup x = some NameKind.cell ∨
    (names.map fun (n, k) => if (k == NameKind.free && env.scope.kind == .function && env.kindOf n == some .cell) then (n, NameKind.cell) else (n, k)).lookup x = some NameKind.free
  | [], h => by simp at h
  | (n, k') :: r, h => by
    have ih := @relabel_free env x r
    rw [List.map_cons]
    dsimp only
    rw [List.lookup_cons] at h
    cases hx : x == n with
    | true =>
      rw [hx] at h
      cases h
      by_cases hc : (NameKind.free == NameKind.free && env.scope.kind == .function && env.kindOf n == some .cell) = true
      · rw [if_pos hc, List.lookup_cons, hx]; exact .inl rfl
      · rw [if_neg hc, List.lookup_cons, hx]; exact .inr rfl
    | false =>
      rw [hx] at h
      by_cases hc : (k' == NameKind.free && env.scope.kind == .function && env.kindOf n == some .cell) = true
      · rw [if_pos hc, List.lookup_cons, hx]; exact ih h
      · rw [if_neg hc, List.lookup_cons, hx]; exact ih h
theorem mem_of_lookup' {x : Str} {k : NameKind} : ∀ {l : List (Str × NameKind)}, l.lookup x = some k → (x, k) ∈ l := fun h => PySem.mem_of_lookup h

theorem comp_start {pins : List (Addr × Obj)} {σ : St} {H : Hp} {s : Shared} (I : Inv X pins σ H s) (o : CompOk X Nc cp scope) {fp : List Addr} (hf : ∀ b ∈ fp, FpOk X pins H b) (hob : ∀ b ∈ fp, ∃ o, s.heap.get? b = some o ∧ ∀ v, o.data ≠ .cell v)
    {h1 : Heap} {tk : Nat} {m1 : Str → Option Value} (hns : h1.Ns (s.heap.objs.size + 1) m1) (old : ∀ b o, s.heap.get? b = some o → h1.get? b = some o) (hacc : h1.get? s.heap.objs.size = some { cls := .type "list", data := .seq #[] }) :
    Inv (compCx X Nc scope (s.heap.objs.size + 1) s H fp) [] (tau cp σ) (upd H s.heap.objs.size (.lst [])) { s with heap := h1, toks := tk } := by
  have hcl := o.cells I.ok
  have sub : ∀ x c, (clOf X.env.cells scope.names []).lookup x = some c → X.env.cells.lookup x = some c := fun x c h => clOf_some scope.names [] hcl (fun x c h => by simp at h) h
  have fresh0 : H s.heap.objs.size = none := I.hok.fresh (Nat.le_refl _)
  have cellLt : ∀ x c, X.env.cells.lookup x = some c → c < s.heap.objs.size := fun x c e => by
    obtain ⟨v, q⟩ := I.cell x c e
    exact q.lt
  have fpLt : ∀ b ∈ fp, b < s.heap.objs.size := fun b hb => by
    obtain ⟨ob, e, _⟩ := hob b hb
    exact Heap.lt_size e
  refine ⟨⟨I.ok.mod, o.kind, I.ok.glob, I.ok.blt, Nat.le_succ _, fun x y c e1 e2 => I.ok.inj x y c (sub x c e1) (sub y c e2), fun x hx => ?_, fun x c h _ => ?_, I.ok.hd, I.ok.frames, .inl rfl, fun b hb => ⟨?_, fun x c e => ?_⟩, I.bs,
    Nat.le_trans I.ok.bsz I.sz, fun b ob e hb => ?_, fun b hb => ?_, I.stack, I.stkFree⟩, rfl, I.bare, ?_, ⟨m1, hns, fun i x v e1 e2 e3 => ?_⟩, fun x c e => ?_, ?_, fun x c e => ?_, fun p hp => ?_, ?_, ?_⟩
  · -- has
    have hx' : (relabel scope X.env).names.lookup x = some NameKind.cell ∨ (relabel scope X.env).names.lookup x = some NameKind.free := hx
    have hfree : scope.names.lookup x = some NameKind.free := by
      rcases hx' with h | h
      · rcases relabel_kind (sc := scope) h with h | h
        · exact absurd rfl (o.name (PySem.mem_of_lookup h)).1
        · exact h
      · rcases relabel_kind (sc := scope) h with h | h <;> exact h
    exact clOf_has scope.names [] (.inl (PySem.mem_of_lookup hfree))
  · exact absurd h (by show ¬ (false = true); decide)
  · show b ≠ s.heap.objs.size + 1
    exact Nat.ne_of_lt (Nat.lt_succ_of_lt (fpLt b hb))
  · exact (hf b hb).2.2.2.2.1 x c (sub x c e)
  · rcases (hf b hb).2.2.2.1 with z | z
    · exact I.ok.noex b ob e z
    · have h1 : b < X.base.objs.size := Heap.lt_size e
      have h2 := I.ok.bsz
      exact absurd (Nat.lt_of_lt_of_le h1 (Nat.le_trans h2 z)) (Nat.lt_irrefl _)
  · intro hb'
    have hb'' : b ∈ frs X.stack := hb'
    rcases List.mem_cons.mp (I.stkSub b hb'') with z | z
    · exact (hf b hb).2.1 z
    · exact (hf b hb).2.2.1 z
  · exact Un.laid old (Nat.le_refl _) fresh0
  · -- a captured name
    have hi : i < cp.length := by
      unfold tau at e2
      obtain ⟨h, _⟩ := List.getElem?_eq_some_iff.mp e2
      rwa [List.length_map] at h
    have e2' : (cp[i]?).map (fun o => o.elim none fun j => (σ[j]?).getD none) = some (some v) := by
      unfold tau at e2
      rwa [List.getElem?_map] at e2
    cases hc : cp[i]? with
    | none => rw [hc] at e2'; cases e2'
    | some oj =>
      rw [hc] at e2'
      cases oj with
      | none => cases e2'
      | some j =>
        have e3' : (σ[j]?).getD none = some v := Option.some.inj e2'
        have hσ : σ[j]? = some (some v) := by
          cases q : σ[j]? with
          | none => rw [q] at e3'; cases e3'
          | some z => rw [q] at e3'; rw [show z = some v from e3']
        obtain ⟨hN, hfr⟩ := o.at e1 hc
        have hk := (o.name (PySem.mem_of_lookup hfr)).2.2.1 rfl
        have hv : Vis X.env.scope x := by
          rcases hk with z | z
          · exact .inr (.inl z)
          · exact .inr (.inr z)
        obtain ⟨m, hn, hl⟩ := I.loc
        obtain ⟨u, r, lk⟩ := hl j x v hN hσ hv
        refine ⟨u, r, .inr ⟨?_, ?_⟩⟩
        · exact relabel_free hfr
        · rcases lk with ⟨z, _⟩ | ⟨_, c, hc', hcell⟩
          · rcases hk with z' | z' <;> (rw [z] at z'; cases z')
          · obtain ⟨c2, hc2⟩ := clOf_has (cells := X.env.cells) scope.names [] (.inl (PySem.mem_of_lookup hfr))
            have := sub x c2 hc2
            rw [hc'] at this
            cases this
            obtain ⟨ob, ho, hd⟩ := hcell
            exact ⟨c, hc2, ob, old _ _ ho, hd⟩
  · obtain ⟨v, ob, ho, hd⟩ := I.cell x c (sub x c e)
    exact ⟨v, ob, old _ _ ho, hd⟩
  · show upd H s.heap.objs.size (.lst []) (s.heap.objs.size + 1) = none
    rw [upd_ne (Nat.succ_ne_self _)]
    exact I.hok.fresh (Nat.le_succ _)
  · have := cellLt x c (sub x c e)
    rw [upd_ne (Nat.ne_of_lt this)]
    exact I.freeC x c (sub x c e)
  · exact absurd (show p ∈ ([] : List (Addr × Obj)) from hp) (by simp)
  · exact I.hok.laid old (Nat.le_refl _) ⟨Nat.zero_le _, [], 0, .nil, hacc⟩
  · show (tau cp σ).length = Nc.length
    unfold tau
    rw [List.length_map]
    exact o.len
end

/-! ### a comprehension's tests -/
def PTs (X : Cx) (ifs : List Expr) (t : TT) : Prop :=
  ∀ (pins : List (Addr × Obj)) (s : Shared) (σ : St) (H : Hp) (Q : Bool → Hp → Prop), Inv X pins σ H s → t σ H Q →
    wpAny (model X.prog X.w) X.A (forIn ifs true fun c r => if r = true then do let ok ← isTrue c X.env (eval c X.env); pure (ForInStep.yield ok) else pure (ForInStep.yield r)) (TP X pins σ Q) X.xe s
def tYes : TT := fun _ H Q => Q true H
theorem pts_nil {X : Cx} : PTs X [] tYes := fun _ _ _ H _ I h => wpAny_tests_nil ⟨H, I, h⟩
theorem pts_one {X : Cx} {c : Expr} {t : TT} (h : PT X c t) : PTs X [c] t := fun pins s σ H Q I q => wpAny_tests_one (h pins s σ H Q I q)

/-! ### the loop of a comprehension, with any target -/
theorem nox_any {α : Type} {M : Model} {A : Around} {t : Sem α} {Q : α → Shared → Prop} {E : Value → Shared → Prop} {s : Shared} (h : wpAny M A t Q (fun _ _ => False) s) : wpAny M A t Q E s := wpAny_mono h (fun _ _ q => q) fun _ _ f => f.elim
theorem codeAny_compLoop_go {prog : Program} {w : World} {A : Around} {R : Result → Shared → Prop} {s : Shared} {elt target iter : Expr} {ifs : List Expr} {scope : Scope} {pos : Pos} {it acc : Value} {env : Env} (I : Nat → Shared → Prop)
    (turn : ∀ n s, I n s → wpAny (model prog w) A (pyNext it) (fun r s₁ => match r with
      | none => R (.ok .next) s₁
      | some v => wpAny (model prog w) A (letOwnedTupleGo target it v) (fun _ s₁' => wpAny (model prog w) A (assign target env v) (fun _ s₂ =>
          wpAny (model prog w) A (forIn ifs true fun c r => if r = true then do let ok ← isTrue c env (eval c env); pure (ForInStep.yield ok) else pure (ForInStep.yield r)) (fun ok s₃ =>
            if ok = true then wpAny (model prog w) A (eval elt env) (fun x s₄ =>
              wpAny (model prog w) A (call (.builtin "list.append") [acc, x]) (fun _ s₅ => ∃ m, m < n ∧ I m s₅) (fun _ _ => False) s₄) (fun _ _ => False) s₃
            else ∃ m, m < n ∧ I m s₃) (fun _ _ => False) s₂) (fun _ _ => False) s₁') (fun _ _ => False) s₁) (fun _ _ => False) s)
    (n : Nat) (h : I n s) :
    codeAny (model prog w) A (.compLoop (.ListComp elt [⟨target, iter, ifs, 0⟩] scope pos) 0 it acc env) R s := by
  refine codeAny_loop rfl I (fun n s hI => ?_) n h
  show wpAny _ A ((compTurn (.ListComp elt [⟨target, iter, ifs, 0⟩] scope pos) 0 it acc env).onRaise (fun x => do noteFrame x env; theTreesLotGoes x)) _ _ s
  refine wpAny_noted (nox_any ?_)
  rw [compTurn_list]
  refine wpAny_bind (wpAny_standAt (wpAny_bind (thn (turn n s hI) fun r s₁ h₁ => ?_)))
  cases r with
  | none => exact wpAny_pure h₁
  | some v =>
    refine wpAny_bind (thn h₁ fun _ s₁' h₁' => wpAny_bind (thn h₁' fun _ s₂ h₂ => wpAny_bind (thn h₂ fun ok s₃ h₃ => ?_)))
    cases ok with
    | false => exact wpAny_pure ⟨rfl, h₃⟩
    | true => exact wpAny_bind (wpAny_bind (thn h₃ fun x s₄ h₄ => wpAny_bind (thn h₄ fun _ s₅ h₅ => wpAny_pure (wpAny_pure ⟨rfl, h₅⟩))))

/-! ### the reading -/
def tCompBody (cp : List (Option Nat)) (g : TG) (tc : TT) (te : TE) (J : It) (σ : St) (H1 : Hp) (Q : VK) : Prop :=
  ∀ acc, H1 acc = none → ∃ W : Nat → Nat → St → Hp → Prop, (∃ m, W 0 m (tau cp σ) (upd H1 acc (.lst []))) ∧ ∀ i m τ H, W i m τ H →
    (J.stop i H ∧ Q (.ref acc) H) ∨ (J.go i H ∧ ∃ N : St → Hp → Prop, (∀ τ' H', N τ' H' → ∃ m', m' < m ∧ W (i + 1) m' τ' H') ∧
      ∀ x H', J.yld i H x H' → g x τ H' fun τ2 H2 => tc τ2 H2 fun b H3 => if b = true then te τ2 H3 fun v H4 => ∃ ys, H4 acc = some (.lst ys) ∧ ys.length < sizeLine ∧ N τ2 (upd H4 acc (.lst (ys ++ [v]))) else N τ2 H3)
def tComp (cp : List (Option Nat)) (wi : TI) (g : TG) (tc : TT) (te : TE) : TE := fun σ H Q => wi σ H fun J H1 => tCompBody cp g tc te J σ H1 Q

section
variable {X : Cx} {Nc : List Str} {cp : List (Option Nat)} {scope : Scope} {tg iter elt : Expr} {ifs : List Expr} {pos : Pos} {wi : TI} {g : TG} {tc : TT} {te : TE}
theorem comp_block {pins : List (Addr × Obj)} {σ : St} {H2 : Hp} {s2 : Shared} {Q : VK} {it : Addr} {fp : List Addr} {tn : Nat → Heap → Prop} {J : It} {E : Value → Shared → Prop} {RR : Value → Addr → Result → Shared → Prop}
    (o : CompOk X Nc cp scope) (hc : X.calm = true) (hg : ∀ C s H fp, PG (compCx X Nc scope C s H fp) tg g) (ht : ∀ C s H fp, PTs (compCx X Nc scope C s H fp) ifs tc) (he : ∀ C s H fp, PE (compCx X Nc scope C s H fp) elt te)
    (I2 : Inv X pins σ H2 s2) (T : Turn X.prog X.w X.K tg J fp it tn) (st2 : tn 0 s2.heap) (f2 : ∀ b ∈ fp, FpOk X pins H2 b) (q : tCompBody cp g tc te J σ H2 Q)
    (hRR : ∀ C acc H' s', Inv X pins σ H' s' → FpOk X pins H' C → (∃ m, s'.heap.Ns C m) → Q (.ref acc) H' → RR (.ref acc) C (.ok .next) s') :
    wpAny (model X.prog X.w) X.A (newList []) (fun acc s₃ => wpAny (model X.prog X.w) X.A (newFunctionEnv scope X.env.globals (clOf X.env.cells scope.names []) [] X.env.qual none .none (some X.env)) (fun cenv s₄ =>
      codeAny (model X.prog X.w) X.A (.compStart (.ListComp elt [⟨tg, iter, ifs, 0⟩] scope pos) 0 (.ref it) acc { cenv with scope := relabel scope X.env }) (RR acc cenv.locals) s₄) E s₃) E s2 := by
  obtain ⟨W, ⟨m0, w0⟩, turn⟩ := q s2.heap.objs.size (I2.hok.fresh (Nat.le_refl _))
  refine wpAny_newObj_type (wpAny_newFunctionEnv (fun y hy => (o.name hy).1) (by intro y hy; simp at hy) (fun h₁ hns₁ hsb₁ => ?_) o.kind)
  dsimp only at hns₁ hsb₁ ⊢
  generalize hH2 : s2.heap.push { cls := .type "list", dict := none, data := .seq ([] : List Value).toArray } = G2 at hns₁ hsb₁ ⊢
  have hC : G2.objs.size = s2.heap.objs.size + 1 := by rw [← hH2, Heap.size_push]
  have below : ∀ b, b < s2.heap.objs.size + 1 → b ≠ G2.objs.size := fun b hb => by rw [hC]; exact Nat.ne_of_lt hb
  have old : ∀ b ob, s2.heap.get? b = some ob → h₁.get? b = some ob := fun b ob e => hsb₁.extBut b ob (below b (Nat.lt_succ_of_lt (Heap.lt_size e))) (Heap.get?_push_of_some _ (hH2 ▸ Heap.get?_push_of_some _ e))
  have hacc : h₁.get? s2.heap.objs.size = some { cls := .type "list", data := .seq #[] } := hsb₁.extBut _ _ (below _ (Nat.lt_succ_self _)) (Heap.get?_push_of_some _ (hH2 ▸ Heap.get?_push_size _ rfl))
  rw [hC] at hns₁
  have I3 := comp_start (tk := s2.toks + ([] : List (Str × Value)).length) I2 o f2 (T.obj _ _ st2) hns₁ old hacc
  have st3 : tn 0 h₁ := T.keep _ _ _ st2 fun b _ ob e => old b ob e
  have fpLt : ∀ b ∈ fp, b < s2.heap.objs.size := fun b hb => by
    obtain ⟨ob, e, _⟩ := T.obj _ _ st2 b hb
    exact Heap.lt_size e
  have fr3 : ∀ b ∈ fp, upd H2 s2.heap.objs.size (.lst []) b = none := fun b hb => by rw [upd_ne (Nat.ne_of_lt (fpLt b hb))]; exact (f2 b hb).1
  have stat : ∀ {H' : Hp}, (∀ b ∈ fp, H' b = none) → ∀ b ∈ fp, FpOk (compCx X Nc scope (s2.heap.objs.size + 1) s2 H2 fp) [] H' b := fun {H'} hn b hb =>
    ⟨hn b hb, (I3.ok.exf b hb).1, I3.ok.exfs b hb, .inl hb, (I3.ok.exf b hb).2, fun p hp => absurd (show p ∈ ([] : List (Addr × Obj)) from hp) (by simp)⟩
  have loop : ∀ s₃ : Shared, s₃ = { s2 with heap := h₁, toks := s2.toks + ([] : List (Str × Value)).length } →
      codeAny (model X.prog X.w) X.A (.compLoop (.ListComp elt [⟨tg, iter, ifs, 0⟩] scope pos) 0 (.ref it) (.ref s2.heap.objs.size) (compEnvC scope (clOf X.env.cells scope.names []) (s2.heap.objs.size + 1) X.env))
        (RR (.ref s2.heap.objs.size) (s2.heap.objs.size + 1)) s₃ := by
    rintro s₃ rfl
    refine codeAny_compLoop_go (fun n s' => ∃ i τ H', Inv (compCx X Nc scope (s2.heap.objs.size + 1) s2 H2 fp) [] τ H' s' ∧ tn i s'.heap ∧ (∀ b ∈ fp, H' b = none) ∧ W i n τ H') ?_ m0 ⟨0, tau cp σ, _, I3, st3, fr3, w0⟩
    rintro n s4 ⟨i, τ, H4, I4, st4, fr4, w4⟩
    rcases turn i n τ H4 w4 with ⟨stop, qn⟩ | ⟨go, N, hN, step⟩
    · refine thn (T.done (compCx X Nc scope (s2.heap.objs.size + 1) s2 H2 fp) rfl rfl rfl hc i [] s4 τ H4 _ I4 (stat fr4) st4 stop) fun r s5 ⟨hr, I5⟩ => ?_
      subst hr
      have Iout : Inv X pins σ H4 s5 := I2.call' (ch := fp) I5.os I5.base I5.hok I5.bare fun b hb => ⟨(f2 b hb).2.2.2.1, (f2 b hb).2.1, (f2 b hb).2.2.2.2.1, (f2 b hb).2.2.2.2.2⟩
      obtain ⟨m5, hn5, _⟩ := I5.loc
      exact hRR _ _ H4 s5 Iout (I2.fpOk (Nat.le_succ _) I5.free) ⟨m5, hn5⟩ qn
    · refine thn (T.item (compCx X Nc scope (s2.heap.objs.size + 1) s2 H2 fp) rfl rfl rfl hc i [] s4 τ H4 _ I4 (stat fr4) st4 go) fun r s5 ⟨u, hr, h5⟩ => ?_
      subst hr
      refine thn h5 fun _ s6 ⟨x, H6, I6, r6, y6, st6, fr6⟩ => ?_
      have I6' := I6.pinned (stat fr6) (T.obj _ _ st6)
      refine thn (hg _ _ _ _ _ s6 τ H6 x u _ I6' r6 (step x H6 y6)) fun _ s7 ⟨τ7, H7, I7, q7⟩ => ?_
      have again : ∀ {s9 : Shared} {σ9 : St} {H9 : Hp}, Inv (compCx X Nc scope (s2.heap.objs.size + 1) s2 H2 fp) ([] ++ pinsAt fp s6.heap) σ9 H9 s9 → N σ9 H9 →
          ∃ m, m < n ∧ ∃ i τ H', Inv (compCx X Nc scope (s2.heap.objs.size + 1) s2 H2 fp) [] τ H' s9 ∧ tn i s9.heap ∧ (∀ b ∈ fp, H' b = none) ∧ W i m τ H' := fun {s9 σ9 H9} I9 n9 => by
        obtain ⟨m', hm, w9⟩ := hN σ9 H9 n9
        refine ⟨m', hm, i + 1, σ9, H9, I9.unpinned, T.keep _ _ _ st6 fun b hb ob e => (I9.pin (b, ob) (List.mem_append_right _ (List.mem_append_right _ (mem_pinsAt hb e)))).1, fun b hb => ?_, w9⟩
        obtain ⟨ob, e, d⟩ := T.obj _ _ st6 b hb
        exact (I9.pin (b, ob) (List.mem_append_right _ (List.mem_append_right _ (mem_pinsAt hb e)))).2.1
      refine thn (ht _ _ _ _ _ s7 τ7 H7 _ I7 q7) fun b s8 ⟨H8, I8, q8⟩ => ?_
      cases b with
      | false =>
        rw [if_neg Bool.false_ne_true] at q8
        rw [if_neg Bool.false_ne_true]
        exact again I8 q8
      | true =>
        rw [if_pos rfl] at q8
        rw [if_pos rfl]
        refine thn (he _ _ _ _ _ s8 τ7 H8 _ I8 q8) fun uv s9 ⟨v, H9, I9, r9, ys, ha, hz, n9⟩ => ?_
        refine thn (mt_append _ s9 τ7 H9 (.ref s2.heap.objs.size) [v] _ [uv] (fun _ H' => N τ7 H') I9 rfl (.cons r9 .nil) ⟨_, ys, v, rfl, rfl, ha, hz, n9⟩) fun _ s10 ⟨_, H10, I10, _, n10⟩ => ?_
        exact again I10 n10
  rw [hC]
  exact codeAny_compStart_list (loop _ rfl) (T.self _ 0 _ _ _ st3 (loop _ rfl))

/-- [elt for tg in iter if ..] -/
theorem pe_comp (o : CompOk X Nc cp scope) (hc : X.calm = true) (hi : PI X tg iter wi) (hg : ∀ C s H fp, PG (compCx X Nc scope C s H fp) tg g) (ht : ∀ C s H fp, PTs (compCx X Nc scope C s H fp) ifs tc)
    (he : ∀ C s H fp, PE (compCx X Nc scope C s H fp) elt te) (hs : ∀ x, foldedSetIterable iter X.env x = pure x := by intro _; rfl) : PE X (.ListComp elt [⟨tg, iter, ifs, 0⟩] scope pos) (tComp cp wi g tc te) := by
  intro pins s σ H Q I h
  rw [eval_ListComp]
  refine wpAny_comprehension_free (use := none) rfl hs (closureFor_cl (o.cells I.ok)) o.kind (fun y hy e => (o.name hy).2.1 e) (thn (hi pins s σ H _ I h) fun v s1 h1 => thn h1 fun itv s2 h2 => ?_)
  obtain ⟨it, fp, tn, J, H2, e, I2, T, st2, f2, q⟩ := h2
  subst e
  refine comp_block (RR := fun acc C => compPost (model X.prog X.w) X.A X.xe none (EP X pins σ Q) acc C) o hc hg ht he I2 T st2 f2 q fun C acc H' s' I' F' N' q' => ?_
  obtain ⟨m, hn⟩ := N'
  refine ⟨m, hn, fun h' sb => ⟨.ref acc, H', ?_, rfl, q'⟩⟩
  exact I'.turned (t' := s'.toks) (it := C) (fun b ob hb e => (sb.2 b hb).trans e) F'.1 F'.2.1 F'.2.2.2.1 F'.2.2.2.2.1 F'.2.2.2.2.2

/-- y = [elt for tg in iter if ..], y a plain local: the store goes ahead of the block's end -/
theorem ps_setComp {i : Nat} {y : Str} {py : Pos} {spos : Pos} (o : CompOk X Nc cp scope) (hN : X.N.Nodup) (hi0 : X.N[i]? = some y) (hy : X.env.scope.names.lookup y = some NameKind.local) (hc : X.calm = true) (hi : PI X tg iter wi)
    (hg : ∀ C s H fp, PG (compCx X Nc scope C s H fp) tg g) (ht : ∀ C s H fp, PTs (compCx X Nc scope C s H fp) ifs tc)
    (he : ∀ C s H fp, PE (compCx X Nc scope C s H fp) elt te) (hsw : swapsWith (.ListComp elt [⟨tg, iter, ifs, 0⟩] scope pos) (some (.Name y py)) spos.line X.env = pure true := by rfl)
    (hs : ∀ x, foldedSetIterable iter X.env x = pure x := by intro _; rfl) : PS X (.Assign [.Name y py] (.ListComp elt [⟨tg, iter, ifs, 0⟩] scope pos) spos) (tAsg (tComp cp wi g tc te) (gName i)) := by
  intro pins s σ H D I h
  rw [exec_Assign_Name_used _ _ _ _ hsw]
  refine wpAny_bind (wpAny_standAt (wpAny_bind ?_))
  show wpAny _ X.A (do let _ ← comprehension (.ListComp elt [⟨tg, iter, ifs, 0⟩] scope pos) scope X.env _ (newList []) false (eval iter X.env) (some (assign (.Name y py) X.env))) _ _ s
  refine wpAny_bind (thn (wpAny_comprehension_free (use := some (assign (.Name y py) X.env)) (Q := fun _ s' => SP X pins D .next s') rfl hs (closureFor_cl (o.cells I.ok)) o.kind (fun y hy e => (o.name hy).2.1 e)
    (thn (hi pins s σ H _ I h) fun v s1 h1 => thn h1 fun itv s2 h2 => ?_)) fun _ s' hq => wpAny_pure (wpAny_pure hq))
  obtain ⟨it, fp, tn, J, H2, e, I2, T, st2, f2, q⟩ := h2
  subst e
  refine comp_block (RR := fun acc C => compPost (model X.prog X.w) X.A X.xe (some (assign (.Name y py) X.env)) (fun _ s' => SP X pins D .next s') acc C) o hc hg ht he I2 T st2 f2 q fun C acc H' s' I' F' N' q' => ?_
  obtain ⟨m, hn⟩ := N'
  show wpAny _ X.A (assign (.Name y py) X.env (.ref acc)) _ _ _
  refine wpAny_assign_Name (store_ok2 (v := .ref acc) I' hN hi0 (.inl hy) rfl (fun s3 I3 ⟨a, sb, ha⟩ => ?_) (.inr hy))
  have hne : C ≠ a := by
    rcases ha with z | z
    · rw [z]; exact F'.2.1
    · exact (F'.2.2.2.2.1 y a z).symm
  refine ⟨m, hn.sameBut sb hne, fun h' sb2 => ⟨_, H', ?_, q'⟩⟩
  exact I3.turned (t' := s3.toks) (it := C) (fun b ob hb e => (sb2.2 b hb).trans e) F'.1 F'.2.1 F'.2.2.2.1 F'.2.2.2.2.1 F'.2.2.2.2.2
end
end L2

/-! MY OWN: the forms one uses of a comprehension; insert, sorted, [::-1], == and != of lists, isinstance, count -/
namespace L2
open PySem PySem.Spec PyProof.Rows

/-! ### a comprehension whose tests and items leave the heap as it is -/
theorem same_new {H : Hp} {a : Addr} {o : HO} (ha : H a = none) : Same H (upd H a o) := fun b u e => by rw [upd_ne (ne_of_none e ha)]; exact e
theorem comp_list {K : PySem.W.Frag} {a : Addr} {xs : List V} {cp : List (Option Nat)} {k : Nat} {tc : TT} {te : TE} {σ : St} {H : Hp} {Q : VK} (p : V → Bool) (f : V → V) (hq : SqL K H a xs) (hz : xs.length ≤ sizeLine)
    (ht : ∀ x ∈ xs, ∀ H', Same H H' → ∀ R : Bool → Hp → Prop, R (p x) H' → tc ((tau cp σ).set k (some x)) H' R)
    (he : ∀ x ∈ xs, p x = true → ∀ H', Same H H' → ∀ R : VK, R (f x) H' → te ((tau cp σ).set k (some x)) H' R)
    (hQ : ∀ acc, H acc = none → Q (.ref acc) (upd H acc (.lst ((xs.filter p).map f)))) : tCompBody cp (gName k) tc te (Itl K a) σ H Q := by
  intro acc ha
  refine ⟨fun i m τ H' => m = xs.length - i ∧ i ≤ xs.length ∧ (∀ z, τ.set k z = (tau cp σ).set k z) ∧ H' = upd H acc (.lst (((xs.take i).filter p).map f)), ⟨xs.length, by simp, Nat.zero_le _, fun _ => rfl, by simp⟩, ?_⟩
  rintro i m τ H' ⟨rfl, hi, hτ, rfl⟩
  have hq' : SqL K (upd H acc (.lst (((xs.take i).filter p).map f))) a xs := (same_new ha).seq hq
  by_cases hlt : i < xs.length
  · refine .inr ⟨⟨xs, xs[i], hq', by simp [hlt]⟩, fun τ' H' => (∀ z, τ'.set k z = (tau cp σ).set k z) ∧ H' = upd H acc (.lst (((xs.take (i + 1)).filter p).map f)), fun τ' H' ⟨p1, p2⟩ => ⟨xs.length - (i + 1), by omega, rfl, hlt, p1, p2⟩, fun x H' y => ?_⟩
    obtain ⟨e, y⟩ := y
    subst e
    have hx := y xs hq'
    have hmem : x ∈ xs := List.mem_of_getElem? hx
    have htk : ((xs.take (i + 1)).filter p) = ((xs.take i).filter p) ++ (if p x then [x] else []) := take_succ_filter p xs i x hx
    show tc (τ.set k (some x)) _ _
    rw [hτ]
    refine ht x hmem _ (same_new ha) _ ?_
    have hset : ∀ z, ((tau cp σ).set k (some x)).set k z = (tau cp σ).set k z := fun z => by rw [List.set_set]
    by_cases hp : p x = true
    · rw [if_pos hp]
      refine he x hmem hp _ (same_new ha) _ ⟨_, upd_same, ?_, hset, ?_⟩
      · rw [List.length_map]
        have h1 := List.length_filter_le p (xs.take i)
        rw [List.length_take] at h1
        omega
      · rw [upd_upd, htk, if_pos hp, List.map_append]
        rfl
    · rw [if_neg hp]
      exact ⟨hset, by rw [htk, if_neg hp, List.append_nil]⟩
  · have e : i = xs.length := by omega
    subst e
    exact .inl ⟨⟨xs, hq', Nat.le_refl _⟩, by rw [List.take_length]; exact hQ acc ha⟩
/-- lo, lo + 1, .. -/
def iota (lo : Int) (n : Nat) : List Int := (List.range n).map fun (i : Nat) => lo + (i : Int)
theorem iota_succ (lo : Int) (n : Nat) : iota lo (n + 1) = iota lo n ++ [lo + (n : Int)] := by
  unfold iota
  rw [List.range_succ, List.map_append]
  rfl
theorem iota_length (lo : Int) (n : Nat) : (iota lo n).length = n := by simp [iota]
theorem iota_mem {lo : Int} {n : Nat} {x : Int} (h : x ∈ iota lo n) : lo ≤ x ∧ x < lo + n := by
  unfold iota at h
  obtain ⟨i, hi, e⟩ := List.mem_map.mp h
  have := List.mem_range.mp hi
  omega
theorem comp_range {lo : Int} {n : Nat} {cp : List (Option Nat)} {k : Nat} {tc : TT} {te : TE} {σ : St} {H : Hp} {Q : VK} (p : Int → Bool) (f : Int → V) (hz : n ≤ sizeLine)
    (ht : ∀ x ∈ iota lo n, ∀ H', Same H H' → ∀ R : Bool → Hp → Prop, R (p x) H' → tc ((tau cp σ).set k (some (.int x))) H' R)
    (he : ∀ x ∈ iota lo n, p x = true → ∀ H', Same H H' → ∀ R : VK, R (f x) H' → te ((tau cp σ).set k (some (.int x))) H' R)
    (hQ : ∀ acc, H acc = none → Q (.ref acc) (upd H acc (.lst (((iota lo n).filter p).map f)))) : tCompBody cp (gName k) tc te (Itr lo n) σ H Q := by
  intro acc ha
  refine ⟨fun i m τ H' => m = n - i ∧ i ≤ n ∧ (∀ z, τ.set k z = (tau cp σ).set k z) ∧ H' = upd H acc (.lst (((iota lo i).filter p).map f)), ⟨n, by simp, Nat.zero_le _, fun _ => rfl, by simp [iota]⟩, ?_⟩
  rintro i m τ H' ⟨rfl, hi, hτ, rfl⟩
  by_cases hlt : i < n
  · refine .inr ⟨hlt, fun τ' H' => (∀ z, τ'.set k z = (tau cp σ).set k z) ∧ H' = upd H acc (.lst (((iota lo (i + 1)).filter p).map f)), fun τ' H' ⟨p1, p2⟩ => ⟨n - (i + 1), by omega, rfl, hlt, p1, p2⟩, fun x H' y => ?_⟩
    obtain ⟨e, y⟩ := y
    subst e y
    have hmem : lo + (i : Int) ∈ iota lo n := List.mem_map.mpr ⟨i, List.mem_range.mpr hlt, rfl⟩
    show tc (τ.set k (some (.int (lo + (i : Int))))) _ _
    rw [hτ]
    refine ht _ hmem _ (same_new ha) _ ?_
    have hset : ∀ z, ((tau cp σ).set k (some (.int (lo + (i : Int))))).set k z = (tau cp σ).set k z := fun z => by rw [List.set_set]
    by_cases hp : p (lo + (i : Int)) = true
    · rw [if_pos hp]
      refine he _ hmem hp _ (same_new ha) _ ⟨_, upd_same, ?_, hset, ?_⟩
      · rw [List.length_map]
        have h1 := List.length_filter_le p (iota lo i)
        rw [iota_length] at h1
        omega
      · rw [upd_upd, iota_succ, List.filter_append, List.map_append]
        simp [hp]
    · rw [if_neg hp]
      refine ⟨hset, ?_⟩
      rw [iota_succ, List.filter_append, List.map_append]
      simp [hp]
  · have e : i = n := by omega
    subst e
    exact .inl ⟨Nat.le_refl _, hQ acc ha⟩
/-- .. whose items may lay new things: Pv by the turn, the list so far, the heap (the new list at acc with it) -/
theorem comp_list_inv {K : PySem.W.Frag} {a : Addr} {xs : List V} {cp : List (Option Nat)} {k : Nat} {tc : TT} {te : TE} {σ : St} {H : Hp} {Q : VK} (Pv : Addr → Nat → List V → Hp → Prop) (hz : xs.length ≤ sizeLine)
    (h0 : ∀ acc, H acc = none → Pv acc 0 [] (upd H acc (.lst []))) (hl : ∀ acc i ys H', i ≤ xs.length → H acc = none → H' acc = some (.lst ys) → Pv acc i ys H' → SqL K H' a xs)
    (hs : ∀ acc i x ys H', xs[i]? = some x → H acc = none → H' acc = some (.lst ys) → Pv acc i ys H' → tc ((tau cp σ).set k (some x)) H' fun b H3 =>
      if b = true then te ((tau cp σ).set k (some x)) H3 fun v H4 => H4 acc = some (.lst ys) ∧ Pv acc (i + 1) (ys ++ [v]) (upd H4 acc (.lst (ys ++ [v]))) else H3 acc = some (.lst ys) ∧ Pv acc (i + 1) ys H3)
    (tcm : ∀ σ H Q Q', (∀ b H1, Q b H1 → Q' b H1) → tc σ H Q → tc σ H Q') (tem : ∀ σ H (Q Q' : VK), (∀ b H1, Q b H1 → Q' b H1) → te σ H Q → te σ H Q')
    (hQ : ∀ acc ys H', H acc = none → H' acc = some (.lst ys) → ys.length ≤ xs.length → Pv acc xs.length ys H' → Q (.ref acc) H') : tCompBody cp (gName k) tc te (Itl K a) σ H Q := by
  intro acc ha
  refine ⟨fun i m τ H' => m = xs.length - i ∧ i ≤ xs.length ∧ (∀ z, τ.set k z = (tau cp σ).set k z) ∧ ∃ ys, H' acc = some (.lst ys) ∧ ys.length ≤ i ∧ Pv acc i ys H', ⟨xs.length, by simp, Nat.zero_le _, fun _ => rfl, [], upd_same, Nat.le_refl _, h0 acc ha⟩, ?_⟩
  rintro i m τ H' ⟨rfl, hi, hτ, ys, hy, hly, pv⟩
  have hq' := hl acc i ys H' hi ha hy pv
  by_cases hlt : i < xs.length
  · refine .inr ⟨⟨xs, xs[i], hq', by simp [hlt]⟩, fun τ' H' => (∀ z, τ'.set k z = (tau cp σ).set k z) ∧ ∃ ys, H' acc = some (.lst ys) ∧ ys.length ≤ i + 1 ∧ Pv acc (i + 1) ys H', fun τ' H' ⟨p1, p2⟩ => ⟨xs.length - (i + 1), by omega, rfl, hlt, p1, p2⟩, fun x H'' y => ?_⟩
    obtain ⟨e, y⟩ := y
    subst e
    have hx := y xs hq'
    have hset : ∀ z, ((tau cp σ).set k (some x)).set k z = (tau cp σ).set k z := fun z => by rw [List.set_set]
    show tc (τ.set k (some x)) _ _
    rw [hτ]
    refine tcm _ _ _ _ (fun b H3 q => ?_) (hs acc i x ys _ hx ha hy pv)
    cases b with
    | true =>
      rw [if_pos rfl] at q ⊢
      refine tem _ _ _ _ (fun v H4 q4 => ⟨ys, q4.1, by omega, hset, _, upd_same, ?_, q4.2⟩) q
      rw [List.length_append, List.length_singleton]
      omega
    | false =>
      rw [if_neg Bool.false_ne_true] at q ⊢
      exact ⟨hset, ys, q.1, by omega, q.2⟩
  · have e : i = xs.length := by omega
    subst e
    exact .inl ⟨⟨xs, hq', Nat.le_refl _⟩, hQ acc ys H' ha hy hly pv⟩

section
variable {X : Cx}
/-! ### forms with the fragment named (for a comprehension's block) -/
theorem ix_listK (K : PySem.W.Frag) (h : X.K = K := by rfl) : IxR X (rIxL K) := by subst h; exact ix_list
theorem ix_tupK (K : PySem.W.Frag) (h : X.K = K := by rfl) : IxR X (rIxT K) := by subst h; exact ix_tup
theorem call_len_seqK (K : PySem.W.Frag) (h : X.K = K := by rfl) : CallR X (.builtin "len") (fun xs H Q => ∃ p ys, xs = [.ref p] ∧ (SqL K H p ys ∨ SqT K H p ys) ∧ Q (.int ys.length) H) := by subst h; exact call_len_seq

/-! ### list.insert -/
def rInsert : V → List V → Hp → VK → Prop := fun x vs H Q => ∃ l xs i y, x = .ref l ∧ vs = [.int i, y] ∧ H l = some (.lst xs) ∧ 0 ≤ i ∧ i ≤ (xs.length : Int) ∧ xs.length < sizeLine ∧ Q .non (upd H l (.lst (xs.take i.toNat ++ y :: xs.drop i.toNat)))
theorem mt_insert : MtM X "list.insert" rInsert := by
  intro pins s σ H x vs v us Q I rx rv h
  obtain ⟨l, xs, i, y, rfl, rfl, hH, hi0, hi, hz, q⟩ := h
  cases rx
  obtain ⟨u1, u2, rfl, ⟨t, rfl⟩, ru⟩ := rv.two
  obtain ⟨z, its, n, r, hl, e⟩ := I.lstM hH
  have hz2 : xs.length < 16777216 := by have := hz; rwa [sizeLine_eq] at this
  have hi2 : i < 16777216 := by omega
  have hfit : Builtin.List.listFitsIndex i = true := fitsIndex_both (by omega) (by omega)
  have hnf : ¬ (!Builtin.List.listFitsIndex i) = true := by rw [hfit]; decide
  have hsz : its.toArray.size ≤ sizeLine := by rw [List.size_toArray]; omega
  have hm := AutoSeq1.list_insert_list_int_val_1 l its.toArray n i t u2 hnf hsz
  refine call_meets F.slot_list_insert ⟨_, e, rfl⟩ F.entry_list_insert (F.args_list_insert_3 _ _ _) hm ⟨e, ?_⟩
  refine ⟨.non, _, I.lset (its' := its.take i.toNat ++ u2 :: its.drop i.toNat) hH e ?_ ((r.take i.toNat).append (.cons ru (r.drop i.toNat))) ?_, rfl, q⟩
  · have hlt : ¬ (i < 0) := by omega
    have hm : min i.toNat its.toArray.size = i.toNat := by rw [List.size_toArray]; omega
    simp only [hlt, if_false, hm]
    apply Array.ext'
    simp
    exact List.take_of_length_le (by rw [List.length_drop]; exact Nat.le_refl _)
  · rw [List.length_append, List.length_cons, List.length_take, List.length_drop]
    omega

/-! ### sorted of ints -/
theorem call_sorted : CallR X (.builtin "sorted") (fun xs H Q => ∃ (p : Addr) (ns : List Int), xs = [.ref p] ∧ SqL X.K H p (ns.map V.int) ∧ ns.length < 64 ∧ ∀ (l : Addr) (ns' : List Int), H l = none → ns'.Perm ns → ns'.Pairwise (· ≤ ·) → Q (.ref l) (upd H l (.lst (ns'.map V.int)))) := by
  intro pins s σ H xs us Q I r h
  obtain ⟨p, ns, rfl, hq, h64, q⟩ := h
  obtain ⟨u, rfl, ru⟩ := r.one
  cases ru
  obtain ⟨its, rv, pl, hz⟩ := I.list hq
  have hI := intsAre_of rv
  have hl : ns.length = its.length := by have := rv.length; rwa [List.length_map] at this
  refine sorted_ints pl.isList hI (by omega) fun out ns' a1 a2 a3 => ?_
  obtain ⟨e, he⟩ := sortedAll_at s.heap its out
  refine ⟨.ref (s.heap.objs.size + 1), _, I.laid (t' := s.toks) (o := .lst (ns'.map V.int)) (fun b ob q => sortedAll_old q) (Nat.le_succ _) ⟨?_, out.toList, e, vals_ints a1, ?_⟩, rfl, q _ ns' (I.hok.fresh (Nat.le_succ _)) a2 a3⟩
  · rw [List.length_map, a2.length_eq]
    exact Nat.le_of_lt (small1000 (by omega))
  · simpa using he

/-! ### xs[::-1] -/
def tRev (K : PySem.W.Frag) (te : TE) : TE := fun σ H Q => te σ H fun x H1 => ∃ a xs, x = .ref a ∧ SqL K H1 a xs ∧ ∀ p, H1 p = none → Q (.ref p) (upd H1 p (.lst xs.reverse))
theorem pe_rev {e : Expr} {te : TE} {j : Nat} {p0 p1 p2 pos : Pos} (he : PE X e te) : PE X (.Subscript e (.Slice none none (some (.UnaryOp .USub (.Constant (.int 1) j p0) p1)) p2) pos) (tRev X.K te) := by
  intro pins s σ H Q I h
  refine Subscript_ (thn (he pins s σ H _ I h) fun v s1 ⟨x, H1, I1, r1, q1⟩ => ?_)
  obtain ⟨a, xs, rfl, hq, q⟩ := q1
  cases r1
  refine wpAny_Slice ?_
  rw [evalPart_none]
  refine wpAny_pure (wpAny_pure ?_)
  refine thn (po_some (pe_un un_neg pe_int) pins s1 σ H1 (fun o H' => o = some (-1) ∧ H' = H1) I1 ⟨1, rfl, _, rfl, rfl, rfl⟩) fun vk s3 ⟨o, H3, I3, pk, e1, e2⟩ => ?_
  subst e1 e2
  have I4 : Inv X pins σ H3 { s3 with heap := s3.heap.push { cls := .type "slice", data := .fields #[.none, .none, vk] } } := I3.kept (t' := s3.toks) fun b ob q => Heap.get?_push_of_some _ q
  obtain ⟨its, r, ht, hz⟩ := I4.list hq
  have hlen := r.length
  show wpAny (model X.prog X.w) X.A (subscriptTail e (.Slice none none (some (.UnaryOp .USub (.Constant (.int 1) j p0) p1)) p2) (.ref a) (.ref s3.heap.objs.size)) (EP X pins σ Q) X.xe { s3 with heap := s3.heap.push { cls := .type "slice", data := .fields #[.none, .none, vk] } }
  refine tail_any (ops := [.ref a, .ref s3.heap.objs.size]) ht.isList.typeIs slot_list_getitem.lookup (wpAny_getItem_list_slice ht.isList (Heap.IsSliceOf.new ..) .none .none pk (by decide) ?_ (by rw [List.size_toArray]; omega)) (by with_unfolding_all rfl)
  rw [PySem.W.krv_pick]
  refine ⟨.ref _, _, I4.laid (t' := s3.toks) (o := .lst xs.reverse) (fun b ob q => Heap.get?_push_of_some _ q) (Nat.le_refl _) ⟨by rw [List.length_reverse]; exact hz, its.reverse, 0, r.reverse, ?_⟩, rfl, q _ (I4.hok.fresh (Nat.le_refl _))⟩
  exact Heap.get?_push_size _ rfl

/-! ### == and != of two lists -/
/-- two items of one kind, or one and the same object -/
def okPair (x y : V) : Prop := (∃ i j, x = .int i ∧ y = .int j) ∨ (∃ i j, x = .bl i ∧ y = .bl j) ∨ (∃ i j, x = .str i ∧ y = .str j) ∨ ∃ a, x = .ref a ∧ y = .ref a
theorem eqAt_pair {A : Around} {s : Shared} {x y : V} {u v : Value} (rx : RelV x u) (ry : RelV y v) (h : okPair x y) : SeqAt.EqAt A s u v (decide (x = y)) := by
  rcases h with ⟨i, j, rfl, rfl⟩ | ⟨i, j, rfl, rfl⟩ | ⟨i, j, rfl, rfl⟩ | ⟨a, rfl, rfl⟩
  · obtain ⟨t, rfl⟩ := rx
    obtain ⟨t', rfl⟩ := ry
    rw [dec_int]
    exact SeqAt.EqAt.int_int i t j t'
  · cases rx
    cases ry
    rw [dec_bl]
    exact SeqAt.EqAt.bool_bool i j
  · obtain ⟨t, rfl⟩ := rx
    obtain ⟨t', rfl⟩ := ry
    rw [dec_str]
    exact SeqAt.EqAt.str_str i t j t'
  · cases rx
    cases ry
    rw [decide_eq_true rfl]
    exact SeqAt.EqAt.same _
theorem all_dec : ∀ (xs ys : List V), xs.length = ys.length → ((List.range xs.length).all fun j => decide (xs[j]? = ys[j]?)) = decide (xs = ys) := by
  intro xs ys hl
  by_cases h : xs = ys
  · subst h
    rw [decide_eq_true rfl]
    simp
  · rw [decide_eq_false h]
    rw [Bool.eq_false_iff]
    intro hall
    apply h
    apply List.ext_getElem? 
    intro i
    by_cases hi : i < xs.length
    · have := List.all_eq_true.mp hall i (List.mem_range.mpr hi)
      exact of_decide_eq_true this
    · rw [List.getElem?_eq_none (by omega), List.getElem?_eq_none (by omega)]
def rEqL (K : PySem.W.Frag) (neg : Bool) : R2 := fun x y H Q => ∃ a b xs ys, x = .ref a ∧ y = .ref b ∧ SqL K H a xs ∧ SqL K H b ys ∧ (∀ (i : Nat) (u v : V), xs[i]? = some u → ys[i]? = some v → okPair u v) ∧ Q (.bl (if neg then !decide (xs = ys) else decide (xs = ys))) H
theorem eqL_he {A : Around} {s : Shared} {xs ys : List V} {its its2 : List Value} (r1 : Vals xs its) (r2 : Vals ys its2) (hp : ∀ (i : Nat) (u v : V), xs[i]? = some u → ys[i]? = some v → okPair u v) :
    ∀ j (h1 : j < its.toArray.size) (h2 : j < its2.toArray.size), SeqAt.EqAt A s its.toArray[j] its2.toArray[j] (decide (xs[j]? = ys[j]?)) := by
  intro j h1 h2
  have l1 := r1.length
  have l2 := r2.length
  rw [List.size_toArray] at h1 h2
  have e1 : xs[j]? = some xs[j] := List.getElem?_eq_getElem (by omega)
  have e2 : ys[j]? = some ys[j] := List.getElem?_eq_getElem (by omega)
  obtain ⟨u, hu, ru⟩ := r1.get e1
  obtain ⟨v, hv, rv⟩ := r2.get e2
  have q := eqAt_pair (A := A) (s := s) ru rv (hp j _ _ e1 e2)
  have eu : its.toArray[j] = u := by
    rw [List.getElem_toArray]
    rw [List.getElem?_eq_getElem (by omega)] at hu
    exact Option.some.inj hu
  have ev : its2.toArray[j] = v := by
    rw [List.getElem_toArray]
    rw [List.getElem?_eq_getElem (by omega)] at hv
    exact Option.some.inj hv
  rw [eu, ev, e1, e2]
  have : decide (some xs[j] = some ys[j]) = decide (xs[j] = ys[j]) := by
    by_cases h : xs[j] = ys[j]
    · rw [h]; simp
    · rw [decide_eq_false h, decide_eq_false fun z => h (Option.some.inj z)]
  rw [this]
  exact q
theorem op_eqL (hu : X.A.units < cLine) : OpR X (compareOp .Eq) (rEqL X.K false) := by
  intro pins s σ H x y v u Q I rx ry h
  obtain ⟨a, b, xs, ys, rfl, rfl, h1, h2, hp, q⟩ := h
  cases rx
  cases ry
  obtain ⟨its, r1, p1, z1⟩ := I.list h1
  obtain ⟨its2, r2, p2, z2⟩ := I.list h2
  have l1 := r1.length
  have l2 := r2.length
  by_cases hl : xs.length = ys.length
  · refine SeqAt.eq_listAt p1.isList p2.isList (by rw [List.size_toArray, List.size_toArray]; omega) hu (eqL_he r1 r2 hp) ⟨.bl _, H, I, rfl, ?_⟩
    rw [List.size_toArray, ← l1, all_dec xs ys hl]
    exact q
  · refine SeqAt.eq_list_lengthsAt p1.isList p2.isList (by rw [List.size_toArray, List.size_toArray]; simp; omega) hu ⟨.bl _, H, I, rfl, ?_⟩
    have : decide (xs = ys) = false := decide_eq_false fun z => hl (by rw [z])
    rw [this] at q
    exact q
theorem op_neL (hu : X.A.units < cLine) : OpR X (compareOp .NotEq) (rEqL X.K true) := by
  intro pins s σ H x y v u Q I rx ry h
  obtain ⟨a, b, xs, ys, rfl, rfl, h1, h2, hp, q⟩ := h
  cases rx
  cases ry
  obtain ⟨its, r1, p1, z1⟩ := I.list h1
  obtain ⟨its2, r2, p2, z2⟩ := I.list h2
  have l1 := r1.length
  have l2 := r2.length
  by_cases hl : xs.length = ys.length
  · refine SeqAt.RcNeAt.lists p1.isList p2.isList (by rw [List.size_toArray, List.size_toArray]; omega) hu (eqL_he r1 r2 hp) _ _ _ _ ⟨.bl _, H, I, rfl, ?_⟩
    rw [List.size_toArray, ← l1, all_dec xs ys hl]
    exact q
  · refine SeqAt.RcNeAt.lists_lengths p1.isList p2.isList (by rw [List.size_toArray, List.size_toArray]; simp; omega) hu _ _ _ _ ⟨.bl _, H, I, rfl, ?_⟩
    have : decide (xs = ys) = false := decide_eq_false fun z => hl (by rw [z])
    rw [this] at q
    exact q
theorem okPair_ints {ns ms : List Int} : ∀ (i : Nat) (u v : V), (ns.map V.int)[i]? = some u → (ms.map V.int)[i]? = some v → okPair u v := by
  intro i u v h1 h2
  rw [List.getElem?_map] at h1 h2
  cases e1 : ns[i]? with
  | none => rw [e1] at h1; cases h1
  | some n =>
    cases e2 : ms[i]? with
    | none => rw [e2] at h2; cases h2
    | some m =>
      rw [e1] at h1
      rw [e2] at h2
      cases h1
      cases h2
      exact .inl ⟨n, m, rfl, rfl⟩
theorem map_int_inj {ns ms : List Int} : ns.map V.int = ms.map V.int ↔ ns = ms := by
  constructor
  · intro h
    have := congrArg (List.map fun v => match v with | V.int i => i | _ => 0) h
    simpa [List.map_map, Function.comp_def] using this
  · rintro rfl
    rfl

/-! ### isinstance of a value and a type by its name -/
theorem call_isi : CallR X (.builtin "isinstance") (fun xs H Q => ∃ x n t b, xs = [x, .ty n] ∧ TyOf X.K H x t ∧ PySem.W.kitOne X.K t (.type n) = some b ∧ Q (.bl b) H) := by
  intro pins s σ H xs us Q I r h
  obtain ⟨x, n, t, b, rfl, ty, e, q⟩ := h
  obtain ⟨u, w', rfl, rx, ry⟩ := r.two
  cases ry
  exact isinst_ok I rx ty e fun tk => ⟨.bl b, H, I.tok tk, rfl, q⟩

/-! ### list.count, flat items -/
def rCount : V → List V → Hp → VK → Prop := fun x vs H Q => ∃ l xs y, x = .ref l ∧ vs = [y] ∧ H l = some (.lst xs) ∧ flatV y = true ∧ xs.all flatV = true ∧ Q (.int (xs.countP fun z => eqV z y : Nat)) H
theorem countP_eqU {x : V} : ∀ {xs : List V} {us : List Value}, Vals xs us → xs.all flatV = true → us.countP (eqU x) = xs.countP fun y => eqV y x
  | _, _, .nil, _ => rfl
  | y :: xs, u :: us, .cons r t, f => by
    rw [List.all_cons, Bool.and_eq_true] at f
    rw [List.countP_cons, List.countP_cons, eqU_of r f.1, countP_eqU t f.2]
theorem mt_count : MtM X "list.count" rCount := by
  intro pins s σ H x vs v us Q I rx rv h
  obtain ⟨l, xs, y, rfl, rfl, hH, fy, fx, q⟩ := h
  cases rx
  obtain ⟨u, rfl, ru⟩ := rv.one
  obtain ⟨z, its, n, r, hl, e⟩ := I.lstM hH
  refine call_meets F.slot_list_count ⟨_, e, rfl⟩ F.entry_list_count (F.args_list_count_2 _ _) (SeqAt.list_countAt l its.toArray n none #[] u (eqU y)) ⟨e, fun w hw => mem_eqAt ru fy r fx w (by simpa using hw), ?_⟩
  refine ⟨.int _, H, I.tok _, ⟨_, rfl⟩, ?_⟩
  rw [show its.toArray.toList = its by simp, countP_eqU r fx]
  exact q
end
end L2

/-! MY OWN: what the laws' own helpers promise, and the mathematics of rows -/
namespace LW
open PySem L2

theorem _root_.L2.Same.put {H H' : Hp} {r : Addr} {o : HO} (s : Same H H') (hr : H r = none) : Same H (upd H' r o) := fun b u e => by rw [upd_ne (ne_of_none e hr)]; exact s b u e
theorem small {n : Nat} (h : n ≤ 1000) : n ≤ sizeLine := Nat.le_of_lt (small1000 h)

theorem filt_true {α : Type} (l : List α) : l.filter (fun _ => true) = l := by simp
theorem q_of {Q : VK} {H : Hp} {a b : Bool} (e : a = b) (h : Q (.bl b) H) : Q (.bl a) H := e ▸ h
/-! ### a cell of the script -/
def cellZ (ns : List Int) (k : Int) : Int := (ns[k.toNat]?).getD 0
def spCell (K : PySem.W.Frag) : Sp := fun vs H Q _ => ∃ (a : Addr) (ns : List Int) (k : Int), vs = [.ref a, .int k] ∧ SqL K H a (ns.map V.int) ∧ 0 ≤ k ∧ Q (.int (cellZ ns k)) H
theorem atI_map {ns : List Int} {k : Int} (h0 : 0 ≤ k) (h : k < (ns.length : Int)) : atI (ns.map V.int) k = some (.int (cellZ ns k)) := by
  have hk : k.toNat < ns.length := by omega
  have ek : k = ((k.toNat : Nat) : Int) := by omega
  have q : atI (ns.map V.int) ((k.toNat : Nat) : Int) = some (.int (cellZ ns k)) := atI_nat (by
    rw [List.getElem?_map]
    unfold cellZ
    rw [List.getElem?_eq_getElem hk]
    rfl)
  rwa [← ek] at q
theorem cellZ_out {ns : List Int} {k : Int} (h : (ns.length : Int) ≤ k) : cellZ ns k = 0 := by
  unfold cellZ
  rw [List.getElem?_eq_none (by omega)]
  rfl
def spDrawn (K : PySem.W.Frag) : Sp := fun vs H Q _ => ∃ (a : Addr) (ns : List Int) (seed k : Int), vs = [.ref a, .int seed, .int k] ∧ SqL K H a (ns.map V.int) ∧ (0 ≤ seed ∧ seed < 2 ^ 40) ∧ 0 ≤ k ∧ ∀ c : Int, Q (.int c) H
/-- a row is drawn: a new list of unlike numbers -/
def spRow (K : PySem.W.Frag) (B : Nat) : Sp := fun vs H Q _ => ∃ (a : Addr) (ns : List Int), vs = [.ref a, .int (B : Int)] ∧ SqL K H a (ns.map V.int) ∧ ns.length ≤ 63 ∧
  ∀ (r : Addr) (H' : Hp) (row : List Int), Same H H' → H r = none → H' r = some (.lst (row.map V.int)) → row.Nodup → row.length ≤ B → (∀ x ∈ row, 0 ≤ x ∧ x ≤ 1000000000000) → Q (.ref r) H'
def spLaw (K : PySem.W.Frag) : Sp := fun vs H Q _ => ∃ (a : Addr) (ns : List Int), vs = [.ref a] ∧ SqL K H a (ns.map V.int) ∧ ns.length ≤ 63 ∧ ∀ H', Q (.bl true) H'

/-! ### a written table at an open place -/
theorem pick2 {x y z : Int} (h : 0 ≤ z ∧ z < 2) : ∃ m, atI [V.int x, V.int y] z = some (.int m) ∧ (m = x ∨ m = y) := by
  have : z = 0 ∨ z = 1 := by omega
  rcases this with rfl | rfl
  · exact ⟨x, rfl, .inl rfl⟩
  · exact ⟨y, rfl, .inr rfl⟩
theorem pick3 {x y u z : Int} (h : 0 ≤ z ∧ z < 3) : ∃ m, atI [V.int x, V.int y, V.int u] z = some (.int m) ∧ (m = x ∨ m = y ∨ m = u) := by
  have : z = 0 ∨ z = 1 ∨ z = 2 := by omega
  rcases this with rfl | rfl | rfl
  · exact ⟨x, rfl, .inl rfl⟩
  · exact ⟨y, rfl, .inr (.inl rfl)⟩
  · exact ⟨u, rfl, .inr (.inr rfl)⟩
theorem modR (x : Int) {m : Int} (h : 0 < m) : 0 ≤ x % m ∧ x % m < m := ⟨Int.emod_nonneg _ (by omega), Int.emod_lt_of_pos _ h⟩

/-! ### the row's mathematics -/
theorem ins_map {α β : Type} (f : α → β) (l : List α) (k : Nat) (x : α) : (l.map f).take k ++ f x :: (l.map f).drop k = (l.take k ++ x :: l.drop k).map f := by
  rw [List.map_append, List.map_cons, List.map_take, List.map_drop]
theorem ins_perm {l : List Nat} {i k : Nat} (h : l.Perm (List.range i)) : (l.take k ++ i :: l.drop k).Perm (List.range (i + 1)) := by
  have h1 : (l.take k ++ i :: l.drop k).Perm (i :: (l.take k ++ l.drop k)) := List.perm_middle
  rw [List.take_append_drop] at h1
  refine h1.trans ((List.Perm.cons i h).trans ?_)
  rw [List.range_succ]
  exact (List.perm_append_singleton i (List.range i)).symm
theorem nodup_pick {nums : List Int} (hp : nums.Pairwise (· < ·)) {ord : List Nat} (hn : ord.Nodup) (hl : ∀ n ∈ ord, n < nums.length) : (ord.map fun n => nums.getD n 0).Nodup := by
  unfold List.Nodup
  rw [List.pairwise_map]
  refine List.Pairwise.imp_of_mem (fun {a b} ha hb hne => ?_) hn
  have h1 := hl a ha
  have h2 := hl b hb
  rw [List.getD_eq_getElem?_getD, List.getD_eq_getElem?_getD, List.getElem?_eq_getElem h1, List.getElem?_eq_getElem h2]
  have hq := List.pairwise_iff_getElem.mp hp
  show nums[a] ≠ nums[b]
  rcases Nat.lt_or_gt_of_ne hne with z | z
  · exact Int.ne_of_lt (hq a b h1 h2 z)
  · exact (Int.ne_of_lt (hq b a h2 h1 z)).symm
/-- the items of ns[lo:hi] -/
def cutZ (ns : List Int) (lo hi : Option Int) : List Int := (ns.drop (HT.sIx ns.length 0 lo)).take (HT.sIx ns.length ns.length hi - HT.sIx ns.length 0 lo)
theorem cut_map (ns : List Int) (lo hi : Option Int) : cutV (ns.map V.int) lo hi = (cutZ ns lo hi).map V.int := by
  unfold cutV cutZ
  rw [List.length_map, List.map_take, List.map_drop]
theorem cutZ_length (ns : List Int) (lo hi : Option Int) : (cutZ ns lo hi).length ≤ ns.length := by
  unfold cutZ
  rw [List.length_take, List.length_drop]
  omega

/-! ### rising, falling -/
def upB (xs : List Int) : Bool := (iota 1 (xs.length - 1)).all fun k => decide (cellZ xs (k - 1) < cellZ xs k)
def downB (xs : List Int) : Bool := (iota 1 (xs.length - 1)).all fun k => decide (cellZ xs k < cellZ xs (k - 1))
/-- is_rising, is_falling and the law's own pair: a list of ints in, that word out, nothing touched -/
def spTest (K : PySem.W.Frag) (g : List Int → Bool) : Sp := fun vs H Q _ => ∃ (a : Addr) (xs : List Int), vs = [.ref a] ∧ SqL K H a (xs.map V.int) ∧ xs.length ≤ 1000 ∧ Q (.bl (g xs)) H
/-- .. one that may lay things -/
def spTestN (K : PySem.W.Frag) (g : List Int → Bool) : Sp := fun vs H Q _ => ∃ (a : Addr) (xs : List Int), vs = [.ref a] ∧ SqL K H a (xs.map V.int) ∧ xs.length ≤ 1000 ∧ ∀ H', Same H H' → Q (.bl (g xs)) H'
theorem all_of_filter {l : List Int} {p : Int → Bool} : decide (V.int ((((l.filter p).map V.int).length : Nat) : Int) = V.int 0) = l.all fun k => !p k := by
  rw [List.length_map]
  by_cases h : (l.filter p).length = 0
  · rw [h, decide_eq_true (show V.int ((0 : Nat) : Int) = V.int 0 from rfl)]
    symm
    rw [List.all_eq_true]
    intro x hx
    have : l.filter p = [] := List.eq_nil_of_length_eq_zero h
    have := List.filter_eq_nil_iff.mp this x hx
    simpa using this
  · rw [decide_eq_false (by intro e; injection e with e; omega)]
    symm
    rw [Bool.eq_false_iff]
    intro hall
    apply h
    have : l.filter p = [] := by
      rw [List.filter_eq_nil_iff]
      intro x hx
      have := List.all_eq_true.mp hall x hx
      simpa using this
    rw [this]
    rfl

/-! ### a def as it stands at the top; built-ins that the text does not hide -/
structure At (K : PySem.W.Frag) (mg : Str → Option Value) (x : Str) (st : Stmt) (ps : List Str) (f : Addr) (fd : FuncData) : Prop where
  F : Fun K x x st f fd
  b : Binds K fd ps []
  m : mg x = some (.ref f)
structure BI (mg : Str → Option Value) : Prop where
  len : mg "len" = none
  range : mg "range" = none
  min : mg "min" = none
  max : mg "max" = none
  sorted : mg "sorted" = none
  list : mg "list" = none
  isi : mg "isinstance" = none
  bool : mg "bool" = none
  int : mg "int" = none
  str : mg "str" = none
theorem pe_callA {X : Cx} {x : Str} {st : Stmt} {ps : List Str} {f : Addr} {fd : FuncData} {k : Nat} {sp : Sp} {e : Expr} {es : List Expr} {t : TA} {p pos : Pos} (A : At X.K X.mg x st ps f fd) (G : FnOk X.prog X.w X.K X.mg X.base CX0 k f fd ps sp) (hr : Room k X.A)
    (ha : PA X (e :: es) t) (hg : Gl X x := by rfl) (hdb : (x == ("__debug__" : Str)) = false := by decide) (he : starEach (e :: es) X.env = (false, eval e X.env) :: starEach es X.env := by rfl) (hpl : (backTo pos (starEach es X.env)).any (·.1) = false := by rfl) :
    PE X (.Call (.Name x p) (e :: es) [] pos) (tCall sp [] E0 t) := pe_call G hr hg A.m A.F.kp A.b .nil pass0 ha hdb he hpl
end LW

/-! MY OWN: exceptions over the hand layer: raised in a def, passed on by its callers, caught -/
namespace L2
open PySem PySem.Spec PyProof.Rows

theorem ObjOk.there {P : Program} {w : World} {H : Hp} {h : Heap} {a : Addr} {o : HO} (x : ObjOk P w H h a o) : ∃ ob, h.get? a = some ob := by
  cases o with
  | lst xs => obtain ⟨_, _, _, _, e⟩ := x; exact ⟨_, e⟩
  | tup xs => obtain ⟨_, _, _, ob, e, _⟩ := x; exact ⟨ob, e⟩
  | dK kvs => obtain ⟨_, _, _, _, o, _, _, e, _⟩ := x; exact ⟨_, e⟩
  | dT kvs => obtain ⟨_, _, _, _, o, _, _, e, _⟩ := x; exact ⟨_, e⟩
  | set S n => obtain ⟨o, _, _, _, e, _⟩ := x; exact ⟨_, e⟩
  | ins C dx fs => obtain ⟨_, _, _, e, _⟩ := x; exact ⟨_, e⟩
  | own y => exact x
  | xd fs => obtain ⟨_, ⟨_, _, _, e, _⟩, _⟩ := x; exact ⟨_, e⟩
  | rng lo hi => obtain ⟨_, _, _, e⟩ := x; exact ⟨_, e⟩
  | frz ob u => obtain ⟨e, _⟩ := x; exact ⟨_, e⟩
  | tbl ps => exact ⟨_, (show h.get? a = some _ from x)⟩
  | met f y => exact ⟨_, (show h.get? a = some _ from x)⟩
  | ext φ => obtain ⟨_, ⟨o, e⟩, _⟩ := x; exact ⟨o, e⟩

/-! ### where an exception is: in flight through the frames l; or noted at the first of them; or just made. B: what stays as it is -/
abbrev ER := Heap → List Env → Addr → Value → Heap → Prop
def Flies : ER := fun B l x cls h => ∃ a0, Heap.FlyingW B l x cls a0 h
def FlyHeld : ER := fun B l x cls h => Flies B l x cls h ∨ ∃ a0 env outer L, l = env :: outer ∧ env.frame = some L ∧ Heap.HeldW B l x cls a0 L h
def ExcAt : ER := fun B l x cls h => (∃ g args, Heap.MadeExcOf g h x cls args ∧ B.StaysIn g ∧ g.FunFrames B l) ∨ FlyHeld B l x cls h
/-- how an exception lies: l the frames that it has still to pass; H0, s0: where it set out -/
def Thrown (R : ER) (P : Program) (w : World) (l : List Env) (H0 : Hp) (s0 : Shared) (E : XK) (e : Value) (s' : Shared) : Prop :=
  ∃ (x : Addr) (cls : Value) (H' : Hp) (B : Heap), e = .ref x ∧ s'.os = s0.os ∧ AllBare s'.gens ∧ HOk P w H' s'.heap ∧ Un (frs l) [] H0 H' s0.heap s'.heap ∧ R B l x cls s'.heap ∧
    (∀ b o, H' b = some o → ∀ ob, s'.heap.get? b = some ob → B.get? b = some ob) ∧ (∀ b, (∃ o, s0.heap.get? b = some o) → b ∉ frs l → ∀ ob, s'.heap.get? b = some ob → B.get? b = some ob) ∧ E cls none H'
abbrev CX1 (P : Program) (w : World) : CXT := fun outer H s E e s' => Thrown Flies P w outer H s E e s'

theorem frs_cons {env : Env} {outer : List Env} {L b : Addr} (hf : env.frame = some L) : b ∈ frs (env :: outer) ↔ b = L ∨ b ∈ frs outer := by
  unfold frs
  rw [List.filterMap_cons, hf]
  exact List.mem_cons
theorem stay_hok {P : Program} {w : World} {H' : Hp} {h h' B : Heap} (hok : HOk P w H' h) (cov : ∀ b o, H' b = some o → ∀ ob, h.get? b = some ob → B.get? b = some ob) (st : B.StaysIn h') : HOk P w H' h' := fun a o e =>
  (hok a o e).stay (fun b u hb e' => st b u (by
    rcases hb with rfl | hb
    · exact cov b o e u e'
    · exact cov b _ hb u e')) (fun _ q => q) fun _ _ q => q
/-- the heap moves on; what stays is B, all others up to slots -/
theorem thrown_move {R' : ER} {P : Program} {w : World} {l l' : List Env} {H0 H' : Hp} {s0 s' : Shared} {E : XK} {x : Addr} {cls : Value} {B h'' : Heap} (os : s'.os = s0.os) (bare : AllBare s'.gens) (hok : HOk P w H' s'.heap) (un : Un (frs l) [] H0 H' s0.heap s'.heap)
    (cov : ∀ b o, H' b = some o → ∀ ob, s'.heap.get? b = some ob → B.get? b = some ob) (old : ∀ b, (∃ o, s0.heap.get? b = some o) → b ∉ frs l → ∀ ob, s'.heap.get? b = some ob → B.get? b = some ob) (hE : E cls none H')
    (st : B.StaysIn h'') (up : s'.heap.UpToSlots h'') (sub : ∀ b, (∃ o, s0.heap.get? b = some o) → b ∉ frs l' → b ∉ frs l) (sub2 : ∀ b ∈ frs l', b ∈ frs l)
    (hfo : ∀ b ∈ frs l', ∀ o, s0.heap.get? b = some o → (∀ vs, o.data ≠ .fields vs) ∧ H0 b = none) (r' : R' B l' x cls h'') : Thrown R' P w l' H0 s0 E (.ref x) { s' with heap := h'' } := by
  have slotF : ∀ b o, s0.heap.get? b = some o → b ∈ frs l' → ∃ sl, h''.get? b = some { o with slots := sl } := fun b o e1 hb => by
    obtain ⟨hd, hn⟩ := hfo b hb o e1
    obtain ⟨sl, e2⟩ := un.slot b o e1 hn (sub2 b hb) (by simp)
    obtain ⟨sl', e3⟩ := up b _ e2 (fun vs => hd vs)
    exact ⟨sl', e3⟩
  refine ⟨x, cls, H', B, rfl, os, bare, stay_hok hok cov st, ⟨fun b o e1 n hb hx => ?_, fun b o e1 n hb hx => slotF b o e1 hb, un.free, fun b o e1 hx => ?_, un.tups, un.frzs, un.tbls⟩, r', fun b o hb ob e1 => ?_, fun b hb hn ob e1 => ?_, hE⟩
  · exact st b o (old b ⟨o, e1⟩ (sub b ⟨o, e1⟩ hb) o (un.keep b o e1 n (sub b ⟨o, e1⟩ hb) hx))
  · obtain ⟨o', e2⟩ := un.there b o e1 hx
    by_cases hb : b ∈ frs l'
    · obtain ⟨sl, e3⟩ := slotF b o e1 hb
      exact ⟨_, e3⟩
    · exact ⟨o', st b o' (old b ⟨o, e1⟩ (sub b ⟨o, e1⟩ hb) o' e2)⟩
  · obtain ⟨ob', e2⟩ := (hok b o hb).there
    have e3 := cov b o hb ob' e2
    have e4 := st b ob' e3
    have e1' : h''.get? b = some ob := e1
    rw [e1'] at e4; cases e4
    exact e3
  · obtain ⟨o, e0⟩ := hb
    obtain ⟨ob', e2⟩ := un.there b o e0 (by simp)
    have e3 := old b ⟨o, e0⟩ (sub b ⟨o, e0⟩ hn) ob' e2
    have e4 := st b ob' e3
    have e1' : h''.get? b = some ob := e1
    rw [e1'] at e4; cases e4
    exact e3
theorem Flies.stays {B : Heap} {l : List Env} {x : Addr} {cls : Value} {h : Heap} (f : Flies B l x cls h) : B.StaysIn h := let ⟨_, k⟩ := f; k.1
/-- a frame is left -/
theorem thrown_leaves {P : Program} {w : World} {M : Model} {A : Around} {env : Env} {outer : List Env} {H0 : Hp} {s0 : Shared} {E : XK} {e : Value} {s' : Shared} {L : Addr} {bs : Heap} {E' : Value → Shared → Prop}
    (hfr : A.frames = some (env :: outer)) (hf : env.frame = some L) (hL : s0.heap.objs.size ≤ L) (hfo : s0.heap.FunFrames bs outer) (hff : ∀ b ∈ frs outer, H0 b = none) (T : Thrown ExcAt P w (env :: outer) H0 s0 E e s') :
    wpAny M A (leaving env e) (fun _ s'' => Thrown Flies P w outer H0 s0 E e s'') E' s' := by
  obtain ⟨x, cls, H', B, rfl, os, bare, hok, un, exc, cov, old, hE⟩ := T
  have sub : ∀ b, (∃ o, s0.heap.get? b = some o) → b ∉ frs outer → b ∉ frs (env :: outer) := fun b ⟨o, e⟩ hn z => by
    rcases (frs_cons hf).mp z with z | z
    · have h1 := Heap.lt_size e
      rw [z] at h1
      exact absurd (Nat.lt_of_lt_of_le h1 hL) (Nat.lt_irrefl _)
    · exact hn z
  have fin : ∀ h'' a0, Heap.FlyingW B outer x cls a0 h'' → s'.heap.UpToSlots h'' → Thrown Flies P w outer H0 s0 E (.ref x) { s' with heap := h'' } := fun h'' a0 fl up =>
    thrown_move os bare hok un cov old hE fl.1 up sub (fun b hb => (frs_cons hf).mpr (.inr hb)) (fun b hb o e1 => by
      obtain ⟨_, o', ho', hd⟩ := hfo.mem hb
      rw [e1] at ho'; cases ho'
      exact ⟨hd, hff b hb⟩) ⟨a0, fl⟩
  rcases exc with ⟨g, args, hx, hB, hF⟩ | ⟨a0, hfl⟩ | ⟨a0, env', outer', L', e1, e2, hh⟩
  · exact wpAny_leaves_madeW hfr hf hB hF hx fun h' t k1 _ _ k4 => fin h' _ k1 k4
  · exact wpAny_leaves_onW hfr hf hfl fun h' k1 k2 => fin h' _ k1 k2
  · cases e1
    unfold leaving
    refine wpAny_bind (wpAny_noteFrame_againW e2 hh.2.2.2 ?_)
    refine wpAny_landsW hh fun h' hfl hsl => ?_
    obtain ⟨k1, k2, ⟨_, _, k3⟩, k4⟩ := hfl
    exact fin h' _ ⟨k1, k2, k3, k4⟩ hsl

/-! ### what a body wants of exceptions -/
def Raises (X : Cx) (Ex : St → XK) : Prop := ∀ (pins : List (Addr × Obj)) (σ : St) (H : Hp) (s : Shared) (h' : Heap) (x : Addr) (cls : Value) (args : List Value), Inv X pins σ H s → Heap.MadeExcOf s.heap h' x cls args → Ex σ cls none H → X.xe (.ref x) { s with heap := h' }
def PassX (CX : CXT) (X : Cx) (Ex : St → XK) : Prop := ∀ (pins : List (Addr × Obj)) (σ : St) (H : Hp) (s : Shared) (e : Value) (s' : Shared), Inv X pins σ H s → CX X.stack H s (Ex σ) e s' → X.xe e s'
/-- the body of a def that may raise -/
def bodyX (R : ER) (P : Program) (w : World) (K : PySem.W.Frag) (mg : Str → Option Value) (base : Heap) (N : List Str) (qual : Str) (scope : Scope) (f : Addr) (cd : Value) (A : Around) (outer : List Env) (s : Shared) (H : Hp) (E : XK) : Cx :=
  (cxOf CX0 P w K mg base N qual scope f cd A outer s H E).wish (Thrown R P w (envOfC qual scope s.heap.objs.size f cd :: outer) H s E)
section
variable {R : ER} {P : Program} {w : World} {K : PySem.W.Frag} {mg : Str → Option Value} {base : Heap} {N : List Str} {qual : Str} {scope : Scope} {f : Addr} {cd : Value} {A : Around} {outer : List Env} {s : Shared} {H : Hp} {E : XK}
theorem frs_sub {env : Env} {outer : List Env} : ∀ b ∈ frs outer, b ∈ frs (env :: outer) := fun b hb => by
  unfold frs at hb ⊢
  rw [List.filterMap_cons]
  cases env.frame with
  | none => exact hb
  | some L => exact List.mem_cons_of_mem _ hb
theorem bodyX_raises : Raises (bodyX ExcAt P w K mg base N qual scope f cd A outer s H E) (fun _ => E) := by
  intro pins σ H1 s1 h' x cls args I hx hE
  have inn : ∀ env ∈ (bodyX ExcAt P w K mg base N qual scope f cd A outer s H E).stack, ∀ a, env.frame = some a → a ∈ frs (envOfC qual scope s.heap.objs.size f cd :: outer) := fun env he a ha => List.mem_filterMap.mpr ⟨env, he, ha⟩
  have un1 : Un (frs (envOfC qual scope s.heap.objs.size f cd :: outer)) [] H H1 s.heap s1.heap := I.base.mono frs_sub (fun b hb => hb)
  refine ⟨x, cls, H1, PySem.W.hideAll s1.heap (frs (envOfC qual scope s.heap.objs.size f cd :: outer)), rfl, I.os, I.bare, I.hok.kept hx.keeps, un1.trans (Un.kept hx.keeps), .inl ⟨s1.heap, args, hx, fun b o q => PySem.W.of_hideAll _ q, PySem.W.funFrames_hide I.stack inn⟩, fun b o hb ob e => ?_, fun b hb hn ob e => ?_, hE⟩
  · obtain ⟨ob', e'⟩ := (I.hok b o hb).there
    have e2 := hx.keeps b ob' e'
    have e1 : h'.get? b = some ob := e
    rw [e1] at e2; cases e2
    exact PySem.W.hideAll_get _ e' fun hm => by
      have := I.stkFree b hm
      rw [this] at hb; cases hb
  · obtain ⟨o, e0⟩ := hb
    obtain ⟨ob', e'⟩ := un1.there b o e0 (by simp)
    have e2 := hx.keeps b ob' e'
    have e1 : h'.get? b = some ob := e
    rw [e1] at e2; cases e2
    exact PySem.W.hideAll_get _ e' hn
theorem bodyX_pass (hR : ∀ B l x cls h, Flies B l x cls h → R B l x cls h) : PassX (CX1 P w) (bodyX R P w K mg base N qual scope f cd A outer s H E) (fun _ => E) := by
  intro pins σ H1 s1 e s' I T
  obtain ⟨x, cls, H', B, rfl, os, bare, hok, un, exc, cov, old, hE⟩ := T
  have un1 : Un (frs (envOfC qual scope s.heap.objs.size f cd :: outer)) [] H H1 s.heap s1.heap := I.base.mono frs_sub (fun b hb => hb)
  refine ⟨x, cls, H', B, rfl, os.trans I.os, bare, hok, un1.trans un, hR _ _ _ _ _ exc, cov, fun b hb hn ob e => ?_, hE⟩
  obtain ⟨o, e0⟩ := hb
  exact old b (un1.there b o e0 (by simp)) hn ob e
/-- THE RULE for a def that may raise -/
theorem Fun.okX {x : Str} {st : Stmt} {fd : FuncData} {ps : List Str} {k : Nat} {sp : Sp} (hR : ∀ B l x cls h, R B l x cls h → ExcAt B l x cls h) (F : Fun K x qual st f fd) (S : FnScope N ps (defScope st)) (len : ∀ vs H Q E, sp vs H Q E → vs.length = ps.length)
    (hbody : ∀ (cdv : Value) (A : Around) (outer : List Env) (s : Shared) (H : Hp) (vs : List V) (Q : VK) (E : XK), Room k (A.deeper (envOfC qual (defScope st) s.heap.objs.size f cdv)) → sp vs H Q E →
      ∃ t, PSs (bodyX R P w K mg base N qual (defScope st) f cdv A outer s H E) (defBody st) t ∧ t { nx := fun _ H' => Q .non H', rt := Q } (start N vs) H) : FnOk P w K mg base (CX1 P w) (k + 1) f fd ps sp := by
  obtain ⟨oc, od, kV, doc, pm, an, cdv, ct, osl, rfl, lk, hcd⟩ := F.ex
  refine fn_of lk hcd S len fun A outer s H vs Q E hr hsp => ?_
  obtain ⟨t, h, q⟩ := hbody cdv A outer s H vs Q E hr hsp
  refine ⟨t, fun pins s1 σ H1 D I hw => ?_, q⟩
  have I' : Inv (bodyX R P w K mg base N qual (defScope st) f cdv A outer s H E) pins σ H1 s1 := I.wish _
  refine wpAny_mono (h pins s1 σ H1 D I' hw) (fun fl s2 q2 => ?_) fun e s2 T => ?_
  · exact SP.unwish (X := cxOf (CX1 P w) P w K mg base N qual (defScope st) f cdv A outer s H E) (E := Thrown R P w (envOfC qual (defScope st) s.heap.objs.size f cdv :: outer) H s E) q2
  · obtain ⟨x, cls, H', B, e1, os, bare, hok, un, exc, cov, old, hE⟩ := T
    exact thrown_leaves (bs := base) I.ok.frames rfl (Nat.le_refl _) I.ok.funs I.ok.frf ⟨x, cls, H', B, e1, os, bare, hok, un, hR _ _ _ _ _ exc, cov, old, hE⟩
end

/-! ### loops through which an exception passes -/
theorem setFlight_heldW {M : Model} {A : Around} {E : Value → Shared → Prop} {s : Shared} {base : Heap} {l : List Env} {e L L0 : Addr} {cls a0 : Value} {Q : Unit → Shared → Prop} (R : Heap.HeldW base l e cls a0 L0 s.heap)
    (h : ∀ h', Heap.HeldW base l e cls a0 L h' → s.heap.UpToSlots h' → Q () { s with heap := h' }) : wpAny M A (setFlight (.ref e) (some L)) Q E s := by
  obtain ⟨hkb, hen, hl, oe, vs, T, oT, ts, he, hcls, hd, h1, hnT, hTe, hT, hdT, h3⟩ := R
  have hsz3 : 3 < ts.size := (Array.getElem?_eq_some_iff.mp h3).1
  have other : ∀ b, b ≠ T → (s.heap.update T (Obj.mapFields (·.setIfInBounds 3 ((some L).elim Value.none fun f => rawInt f)))).get? b = s.heap.get? b :=
    fun b hb => Heap.get?_update_other _ _ (Ne.symm hb)
  have noRecord : ∀ b o, s.heap.get? b = some o → (∀ vs, o.data ≠ .fields vs) → b ≠ T := fun b o hb hnf q => by
    rw [q, hT] at hb; injection hb with hb; subst hb; exact hnf ts hdT
  unfold setFlight
  refine wpAny_bind (wpAny_field he hd h1 ?_)
  rw [if_pos (show (Value.ref T != Value.none) = true from by simp)]
  refine wpAny_setField hT hdT hsz3 (h _ ⟨fun b o hbo => (other b fun q => by rw [q, hnT] at hbo; cases hbo).trans (hkb b o hbo), hen,
    hl.of_keeps fun b o hb hnf => ⟨o, (other b (noRecord b o hb hnf)).trans hb, rfl⟩, ?_⟩ fun b o hb hnf => ⟨o.slots, (other b (noRecord b o hb hnf)).trans hb⟩)
  exact ⟨oe, vs, T, _, _, (other e (Ne.symm hTe)).trans he, hcls, hd, h1, hnT, hTe, Heap.get?_update_self _ hT (Obj.isFreed_of_fields (Obj.data_mapFields hdT _)), Obj.data_mapFields hdT _, by simp [hsz3]⟩
section
variable {P : Program} {w : World} {K : PySem.W.Frag} {mg : Str → Option Value} {base : Heap} {N : List Str} {qual : Str} {scope : Scope} {f : Addr} {cd : Value} {A : Around} {outer : List Env} {s : Shared} {H : Hp} {E : XK}
theorem bodyX_own (hfr : A.frames = some outer) (hfo : s.heap.FunFrames base outer) (hff : ∀ b ∈ frs outer, H b = none) :
    PassesOwn (model P w) (bodyX FlyHeld P w K mg base N qual scope f cd A outer s H E).A (bodyX FlyHeld P w K mg base N qual scope f cd A outer s H E).env (bodyX FlyHeld P w K mg base N qual scope f cd A outer s H E).xe := by
  intro e s' T
  obtain ⟨x, cls, H', B, rfl, os, bare, hok, un, exc, cov, old, hE⟩ := T
  have hfr' : (A.deeper (envOfC qual scope s.heap.objs.size f cd)).frames = some (envOfC qual scope s.heap.objs.size f cd :: outer) := Around.frames_deeper hfr
  have hf : (envOfC qual scope s.heap.objs.size f cd).frame = some s.heap.objs.size := rfl
  have hfo' : ∀ b ∈ frs (envOfC qual scope s.heap.objs.size f cd :: outer), ∀ o, s.heap.get? b = some o → (∀ vs, o.data ≠ .fields vs) ∧ H b = none := fun b hb o e1 => by
    rcases (frs_cons hf).mp hb with z | z
    · have h1 := Heap.lt_size e1
      rw [z] at h1
      exact absurd h1 (Nat.lt_irrefl _)
    · obtain ⟨_, o', ho', hd⟩ := hfo.mem z
      rw [e1] at ho'; cases ho'
      exact ⟨hd, hff b z⟩
  have back : ∀ h'' a0 (E' : Value → Shared → Prop), Heap.HeldW B (envOfC qual scope s.heap.objs.size f cd :: outer) x cls a0 s.heap.objs.size h'' → s'.heap.UpToSlots h'' →
      cameBackBy (model P w) (A.deeper (envOfC qual scope s.heap.objs.size f cd)) (envOfC qual scope s.heap.objs.size f cd) (Thrown FlyHeld P w (envOfC qual scope s.heap.objs.size f cd :: outer) H s E) (.ref x) { s' with heap := h'' } := fun h'' a0 E' held up => by
    obtain ⟨k1, k2, k3, oe, vs, T, oT, ts, he, hcls, hd, h1, r⟩ := id held
    unfold cameBackBy
    refine wpAny_bind (wpAny_field he hd h1 ?_)
    rw [if_neg (by simp)]
    refine setFlight_heldW (L := s.heap.objs.size) held fun h3 held3 up3 => ?_
    exact thrown_move (s' := s') os bare hok un cov old hE held3.1 (up.trans up3) (fun b _ hn => hn) (fun b hb => hb) hfo' (.inr ⟨a0, _, _, _, rfl, hf, held3⟩)
  show wpAny (model P w) (A.deeper (envOfC qual scope s.heap.objs.size f cd)) (noteFrame (.ref x) (envOfC qual scope s.heap.objs.size f cd)) _ _ s'
  rcases exc with ⟨a0, hfl⟩ | ⟨a0, env', outer', L', e1, e2, hh⟩
  · exact wpAny_looks_onW hfr' hf hfl fun h' held up => back h' a0 (fun _ _ => False) held up
  · cases e1
    have : L' = s.heap.objs.size := Option.some.inj (e2.symm.trans hf)
    subst this
    exact wpAny_noteFrame_againW e2 hh.2.2.2 (back s'.heap a0 (fun _ _ => False) hh (Heap.UpToSlots.refl _))
end

/-! ### calls that may raise -/
section
variable {X : Cx} {CX : CXT} {k : Nat} {f C : Addr} {fd : FuncData} {ps : List Str} {sp : Sp} {Ex : St → XK} {x m : Str} {p pos apos : Pos} {e o : Expr} {es : List Expr} {ta : TE} {t : TA}
theorem run_fnX {pins : List (Addr × Obj)} {σ : St} {H : Hp} {s : Shared} {Q : VK} {us : List Value} {vs : List V} (F : FnOk X.prog X.w X.K X.mg X.base CX k f fd ps sp) (hr : Room k X.A) (hb : Binds X.K fd ps []) (hx : PassX CX X Ex)
    (I : Inv X pins σ H s) (r : Vals vs us) (h : sp vs H Q (Ex σ)) : wpAny (model X.prog X.w) X.A (call (.ref f) us) (EP X pins σ Q) X.xe s := by
  have hl : us.length = ps.length := by rw [← r.length]; exact F.len _ _ _ _ h
  have hb' : BindsTo s fd ⟨us, []⟩ (ps.zip us) := by
    have := hb s us I.kIn (by rw [List.append_nil]; exact hl)
    rwa [List.append_nil] at this
  refine wpAny_call (codeAny_mono (F.run X.A X.stack s H ⟨us, []⟩ us vs Q (Ex σ) hr I.env0 hb' r h) fun r s' hq => ?_)
  cases r with
  | error e => exact hx pins σ H s e s' I hq
  | ok fl =>
    cases fl with
    | ret u => exact I.after hq
    | next => exact False.elim hq
    | brk => exact False.elim hq
    | cont => exact False.elim hq
/-- f(..) that may raise -/
def tCallX (sp : Sp) (Ex : St → XK) (t : TA) : TE := fun σ H Q => t σ H fun vs H1 => sp vs H1 Q (Ex σ)
theorem pe_callX (F : FnOk X.prog X.w X.K X.mg X.base CX k f fd ps sp) (hr : Room k X.A) (hg : Gl X x) (hm : X.mg x = some (.ref f)) (hk : PySem.W.keepIn X.K (.ref f) = true) (hb : Binds X.K fd ps []) (hx : PassX CX X Ex)
    (ha : PA X (e :: es) t) (hdb : (x == ("__debug__" : Str)) = false := by decide) (he : starEach (e :: es) X.env = (false, eval e X.env) :: starEach es X.env := by rfl) (hpl : (backTo pos (starEach es X.env)).any (·.1) = false := by rfl) :
    PE X (.Call (.Name x p) (e :: es) [] pos) (tCallX sp Ex t) := by
  intro pins s σ H Q I h
  refine wpAny_Call_Name_kw (ld_glob I hg hm ?_ hdb)
  refine PySem.W.callWith_K (h₀ := X.base) I.ok.mod.kin hk (thn (ha pos pins s σ H _ I h) fun us s1 ⟨vs, H1, I1, r, q⟩ => ⟨I1.kIn, ?_⟩) he hpl
  exact run_fnX F hr hb hx I1 r q
def tMethX (C : Addr) (m : Str) (sp : Sp) (Ex : St → XK) (ta : TE) (t : TA) : TE := fun σ H Q => ta σ H fun x H1 => ∃ a dx fs, x = .ref a ∧ H1 a = some (.ins C dx fs) ∧ fs.lookup m = none ∧
  t σ H1 fun vs H2 => sp (x :: vs) H2 Q (Ex σ)
theorem pe_methX {pl : Sem Bool} (he : PE X o ta) (c : Cls X.K C) (hm : Meth X.K C m f) (F : FnOk X.prog X.w X.K X.mg X.base CX k f fd ps sp) (hr : Room k X.A) (hb : Binds X.K fd ps []) (hx : PassX CX X Ex) (ha : PA X (e :: es) t)
    (ht : eval (.Call (.Attribute o m apos) (e :: es) [] pos) X.env = (do
      let ov ← eval o X.env
      standAt apos.atName
      let (f, first) ← holding [ov] (getMethod ov m pl)
      callWith pos f first (backTo pos (starEach (e :: es) X.env)) (backToKw pos (keywordEach [] X.env))) := by rfl)
    (hs : starEach (e :: es) X.env = (false, eval e X.env) :: starEach es X.env := by rfl) (hpl : (backTo pos (starEach es X.env)).any (·.1) = false := by rfl) :
    PE X (.Call (.Attribute o m apos) (e :: es) [] pos) (tMethX C m sp Ex ta t) := by
  intro pins s σ H Q I h
  refine PySem.W.methodCall_KW (pl := pl) (thn (he pins s σ H _ I h) fun u s1 ⟨x, H1, I1, rx, a, dx, fs, ex, ea, l, q⟩ => ?_) ht
  subst ex
  obtain rfl : u = Value.ref a := rx
  refine getmeth_ok I1 ea c hm l ?_
  refine PySem.W.callWith_K (first := [.ref a]) (h₀ := X.base) I.ok.mod.kin hm.kp (thn (ha pos pins s1 σ H1 _ I1 q) fun us s2 ⟨vs, H2, I2, r, q2⟩ => ⟨I2.kIn, ?_⟩) hs hpl
  exact run_fnX (us := .ref a :: us) (vs := .ref a :: vs) F hr hb hx I2 (.cons rfl r) q2
end

/-! ### raise C(text) -/
theorem excK {K : PySem.W.Frag} {C : Addr} {bmB : List Value} {newId : String} (q : PySem.W.excIn K C bmB newId = true) : ∃ (nm qn : Str) (N : Addr) (bs bm : List Value) (hd : Bool) (sn : List Str) (sub : List Value) (ab : Bool) (col : Option Bool) (dd : Option Addr) (k0 k1 k2 k3 k5 : Option Value),
    K.lookup C = some (excClassObj nm qn C N bs bm hd sn sub ab col dd k0 k1 k2 k3 k5 newId) ∧ PySem.W.nsOkIn K N = true ∧ PySem.W.nsIn K N "__init__" = some none ∧ PySem.W.tailIn K bmB bm = true := by
  unfold PySem.W.excIn at q
  split at q
  · rename_i dd cd sl ho
    split at q
    · rename_i C' bm k0 k1 k2 k3 n k5 hm hs
      simp only [Bool.and_eq_true, beq_iff_eq, Bool.not_eq_true'] at q
      obtain ⟨⟨⟨⟨⟨rfl, rfl⟩, hdel⟩, ht⟩, hok⟩, hni⟩ := q
      obtain ⟨nm, bs, mro, ns, qn, hd, sn, sub, ab, col, del⟩ := cd
      dsimp only at hm hdel hok hni
      subst hm hdel
      have hsl : sl = #[k0, k1, k2, k3, some (.builtin n), k5] := by
        obtain ⟨l⟩ := sl
        simp only at hs
        rw [hs]
      subst hsl
      exact ⟨nm, qn, ns, bs, bm, hd, sn, sub, ab, col, dd, k0, k1, k2, k3, k5, ho, hok, hni, ht⟩
    · cases q
  · cases q
abbrev bmVE : List Value := [.type "ValueError", .type "Exception", .type "BaseException", .type "object"]
def tRaise (C : Addr) (te : TE) (Ex : St → XK) : TS := fun _ σ H => tCons te tNil σ H fun vs H1 => vs.length = 1 ∧ Ex σ (.ref C) none H1
theorem ps_raise {X : Cx} {x : Str} {C : Addr} {e : Expr} {te : TE} {Ex : St → XK} {np cpos pos : Pos} (hc : X.calm = true) (hg : Gl X x) (hm : X.mg x = some (.ref C)) (q : PySem.W.excIn X.K C bmVE "ValueError.__new__" = true) (hx : Raises X Ex) (he : PE X e te)
    (hdb : (x == ("__debug__" : Str)) = false := by decide) (hs : starEach [e] X.env = [(false, eval e X.env)] := by rfl) : PS X (.Raise (some (.Call (.Name x np) [e] [] cpos)) none pos) (tRaise C te Ex) := by
  intro pins s σ H D I h
  obtain ⟨nm, qn, N, bs, bm, hd, sn, sub, ab, col, dd, k0, k1, k2, k3, k5, lk, hok, hni, ht⟩ := excK q
  have hN : s.heap.Ns N (s.heap.nsMap N) := .of_isNs (PySem.W.isNs_of_in I.kIn hok)
  have hTl : OwnTail s.heap bmVE bm := PySem.W.tail_of_in I.kIn ht
  have hbase : bm.contains (.type "BaseException") = true := hTl.hasType (by rfl)
  have hoN : ∃ oN, X.K.lookup N = some oN := by
    unfold PySem.W.nsOkIn at hok
    cases hl : X.K.lookup N with
    | none => rw [hl] at hok; simp at hok
    | some oN => exact ⟨oN, rfl⟩
  obtain ⟨oN, hoN⟩ := hoN
  refine wpAny_Raise_call_subT (C := C) (nm := nm) (q := qn) (N := N) (bs := bs) (bm := bm) (hdct := hd) (sn := sn) (sub := sub) (ab := ab) (col := col) (dd := dd) (k0 := k0) (k1 := k1) (k2 := k2) (k3 := k3) (k5 := k5) (mN := s.heap.nsMap N) PySem.F.excBase_ValueError hbase (I.ok.hd hc) ?_ (PySem.W.nsMap_none_of_in I.kIn hok hni) ?_
  · rw [hs]
    rfl
  refine ld_glob I hg hm ⟨rfl, ?_⟩ hdb
  rw [hs]
  have hA : PA X [e] (tCons te tNil) := pa_cons he pa_nil (by rw [hs]; rfl)
  have hA' := hA cpos pins s σ H _ I h
  rw [hs] at hA'
  refine Calls.evalArgs_plain (thn hA' fun us s2 ⟨vs, H2, I2, r2, hl, q2⟩ => ⟨rfl, ?_, I2.kIn _ _ lk, ?_, PySem.W.tail_of_in I2.kIn ht, fun h' ex mk => hx pins σ H2 s2 h' ex _ _ I2 mk q2⟩)
  · show us.length ≤ sizeLine
    rw [← r2.length]
    exact LW.small (by omega)
  · exact hN.at' fun o e0 => by
      have := I.kIn _ _ hoN
      rw [e0] at this; cases this
      exact I2.kIn _ _ hoN
end L2
namespace L2
open PySem PySem.Spec PyProof.Rows
/-! ### f"..{n}": a text and an int of a known size -/
def tFs (te : TE) : TE := fun σ H Q => te σ H fun v H1 => ∃ i : Int, v = .int i ∧ i.natAbs.log2 < 1920 ∧ ∀ z : Str, Q (.str z) H1
theorem pe_fs {X : Cx} {x : Str} {e : Expr} {te : TE} {j : Nat} {p1 p2 pos : Pos} (he : PE X e te) (hx : x.length ≤ 1000) (hv : evalEach [.Constant (.str x) j p1, .FormattedValue e (-1) none p2] X.env = [eval (.Constant (.str x) j p1) X.env, eval (.FormattedValue e (-1) none p2) X.env] := by rfl) :
    PE X (.JoinedStr [.Constant (.str x) j p1, .FormattedValue e (-1) none p2] pos) (tFs te) := by
  intro pins s σ H Q I h
  refine wpAny_JoinedStr ?_
  rw [hv]
  refine Calls.Constant_str ⟨x, _, rfl, ?_, ?_⟩
  · rw [strLen_append]
    show 0 + x.length ≤ sizeLine
    exact LW.small (by omega)
  refine wpAny_FormattedValue_plain (thn (he pins _ σ H _ (I.tok _) h) fun v s1 ⟨y, H1, I1, r1, i, e1, hi, q⟩ => ?_)
  subst e1
  obtain ⟨t, rfl⟩ := r1
  have hl := int_text_length_le (k := 1920) (by decide) hi
  have hlen : (Str.empty ++ x ++ Str.ofString (toString i)).length ≤ sizeLine := by
    rw [strLen_append, strLen_append, PySem.ofString_length, sizeLine_eq]
    have : Str.empty.length = 0 := rfl
    omega
  refine wpAny_formatField_int hi ⟨_, _, rfl, hlen, hlen, ?_⟩
  exact ⟨.str _, H1, I1.tok _, ⟨_, rfl⟩, q _⟩
end L2

/-! MY OWN: isinstance of a caught exception; try .. except -/
namespace L2
open PySem PySem.Spec PyProof.Rows PySem.W PySem.Calls PySem.Builtin PySem.Builtin.ObjectAttr PySem.Builtin.Getset_descriptor
structure ExcOk (K : PySem.W.Frag) (D : Addr) : Prop where
  ex : PySem.W.excIn K D bmVE "ValueError.__new__" = true
  ga : PySem.W.findIn K (.ref D) "__getattribute__" = some (some (.builtin "BaseException.__getattribute__"))
  gt : PySem.W.findIn K (.ref D) "__getattr__" = some none
  cls : PySem.W.findIn K (.ref D) "__class__" = some (some (.builtin "object.__class__"))
  mo : PySem.W.mroIn K D (.type "object") = some true
  mb : PySem.W.mroIn K D (.type "BaseException") = some true
section
variable {prog : Program} {w : World} {A : Around} {E : Value → Shared → Prop} {h : Heap} {g : Array GenState} {d : Drawn} {t : Nat} {os : OsState} {K : PySem.W.Frag} {x D : Addr} {ob : Obj}
theorem exc_cget {R : Result → Shared → Prop} {tp : Value} (X : K.In h) (O : ExcOk K D) (hx : h.get? x = some ob) (hc : ob.cls = .ref D) (hq : R (.ok (.ret (.ref D))) ⟨h, g, d, t, os⟩) :
    codeAny (model prog w) A (.call (.builtin "getset_descriptor.__get__") ⟨[.builtin "object.__class__", .ref x, tp], []⟩) R ⟨h, g, d, t, os⟩ := by
  have L0 : Looks (model prog w) h (typeOf (.ref x)) (.ref D) := hc ▸ (Looks.ld hx).andThen .now
  have L1 := looks_mroIn (M := model prog w) X O.mo
  refine codeAny_call_builtin KF.slot_gs.plain KF.entry_gs (KF.slot_gs.check _ _ _ _ _ _ _ _ KF.type_class (KF.args_gs _ _ _) ?_)
  unfold Builtin.«getset_descriptor.__get__» descrGet
  rw [dga_obj]
  refine wpAny_bind (wpAny_pure ?_)
  unfold descrGetter descrCheckInstance descrNameAndClass isInstance
  simp only [KF.owner_class]
  repeat lk
  refine ⟨Code.quiet_builtin _ (by decide +kernel), codeAny_builtin KF.entry_class ?_⟩
  unfold Builtin.«object.__class__» shownTypeOf
  repeat lk
  exact hq
theorem exc_centry {tk : Tok} {Q : PySem.Fin → Shared → Prop} (X : K.In h) (O : ExcOk K D) (hx : h.get? x = some ob) (hc : ob.cls = .ref D) (hq : Q (.done (.ret (.ref D))) ⟨h, g, d, t, os⟩) :
    wpAny (model prog w) A (Builtin.«object.__getattribute__» ⟨[.ref x, .str "__class__" tk], []⟩) Q E ⟨h, g, d, t, os⟩ := by
  have L0 : Looks (model prog w) h (typeOf (.ref x)) (.ref D) := hc ▸ (Looks.ld hx).andThen .now
  have L3 := looks_findIn (M := model prog w) X O.cls
  have f5 := F.typeOf_object_class
  have f6 := F.slot_gs_get.lookup
  have f7 := F.slot_gs_set.lookup
  repeat (any_goals (first | assumption | lk | wp_step))
  show wpAny (model prog w) A (run (.call (.builtin "getset_descriptor.__get__") ⟨[.builtin "object.__class__", .ref x, .ref D], []⟩)) _ _ _
  refine wpAny_run (exc_cget X O hx hc ?_)
  repeat (any_goals (first | assumption | lk | wp_step))
theorem exc_check {M : Model} {nameV : Value} {Q : Unit → Shared → Prop} (X : K.In h) (O : ExcOk K D) (hx : h.get? x = some ob) (hc : ob.cls = .ref D) (hq : Q () ⟨h, g, d, t, os⟩) :
    wpAny M A (checkBuiltinCall "BaseException.__getattribute__" ⟨[.ref x, nameV], []⟩) Q E ⟨h, g, d, t, os⟩ := by
  have hk : builtinKind "BaseException.__getattribute__" = some .slot := by decide +kernel
  have hsplit : splitId "BaseException.__getattribute__" = some ("BaseException", "__getattribute__") := by decide +kernel
  have L0 : Looks M h (typeOf (.ref x)) (.ref D) := hc ▸ (Looks.ld hx).andThen .now
  have L1 := looks_mroIn (M := M) X O.mb
  have ha := F.args_bexc_ga (.ref x) nameV
  simp only [checkBuiltinCall, hk, hsplit]
  refine wpAny_bind ?_
  unfold isInstance
  repeat (first | lk | wp_step)
  exact hq
theorem exc_ca {Q : Option Value → Shared → Prop} (X : K.In h) (O : ExcOk K D) (hx : h.get? x = some ob) (hc : ob.cls = .ref D) (hq : Q (some (.ref D)) ⟨h, g, d, t + 1, os⟩) : wpAny (model prog w) A (getAttr? (.ref x) "__class__") Q E ⟨h, g, d, t, os⟩ := by
  have L0 : Looks (model prog w) h (typeOf (.ref x)) (.ref D) := hc ▸ (Looks.ld hx).andThen .now
  have L1 := looks_findIn (M := model prog w) X O.ga
  have L2 := looks_findIn (M := model prog w) X O.gt
  unfold getAttr? getAttrBy? getAttrBy
  refine wpAny_bind (wpAny_mkText (wpAny_bind (wpAny_attempt (wpAny_holding (wpAny_bind (L0.at (wpAny_bind (L1.at ?_))))))))
  have hx2 : (Value.builtin "BaseException.__getattribute__" == Value.builtin "object.__getattribute__") = false := by decide +kernel
  dsimp only
  rw [hx2, Bool.and_false, if_neg Bool.false_ne_true]
  unfold getAttrByItsOwn
  refine wpAny_bind (m := hookBefore (.ref D)) (L2.at (wpAny_bind (wpAny_attempt (wpAny_holding ?_))))
  have f3 : bindSpecial (.builtin "BaseException.__getattribute__") (.ref x) = pure (.builtin "BaseException.__getattribute__", [.ref x]) := by
    have hop : withoutEnding? "BaseException.__getattribute__" "#opaque" = none := by decide +kernel
    have hdat : withoutEnding? "BaseException.__getattribute__" "#data" = none := by decide +kernel
    have hk : builtinKind "BaseException.__getattribute__" = some .slot := by decide +kernel
    simp only [bindSpecial, typeOf, builtinType, hop, hdat, hk]; rfl
  show wpAny _ _ (boundAndCalled _ _ _) _ _ _
  unfold boundAndCalled
  rw [f3]
  refine wpAny_bind (wpAny_pure ?_)
  refine wpAny_call (codeAny_call_builtin (by decide +kernel) F.entry_bexc_ga (exc_check X O hx hc (exc_centry X O hx hc ?_)))
  show wpAny (model prog w) A (handedOut (.ref D)) _ _ _
  exact handed_on rfl (wpAny_pure hq)
end
/-- an exception of the class at D stands at x -/
def IsExc (x D : Addr) (h : Heap) : Prop := ∃ ob vs, h.get? x = some ob ∧ ob.cls = .ref D ∧ ob.data = .fields vs
def excO (x D : Addr) : HO := .ext (IsExc x D)
theorem kitx_exc {K : PySem.W.Frag} {x D : Addr} (O : ExcOk K D) : KitX K (.ref x) (.ref D) (IsExc x D) where
  ty := fun _ h _ ⟨ob, vs, e, c, _⟩ => c ▸ (Looks.ld e).andThen .now
  it := fun _ _ X _ => by
    obtain ⟨nm, qn, N, bs, bm, hd, sn, sub, ab, col, dd, k0, k1, k2, k3, k5, lk, _⟩ := excK O.ex
    intro A' Q' E' s' k q
    unfold isType loadHead
    exact wpAny_bind (wpAny_loadPart (k _ _ (X _ _ lk)) (wpAny_pure q))
  ne := fun h tp dd its n sl X htp => by
    obtain ⟨nm, qn, N, bs, bm, hd, sn, sub, ab, col, dd, k0, k1, k2, k3, k5, lk, _⟩ := excK O.ex
    refine Bool.eq_false_iff.mpr fun q => ?_
    have e : D = tp := Value.ref.inj (beq_iff_eq.mp q)
    subst e
    have z : Value.type "type" = Value.type "tuple" := congrArg Obj.cls (Option.some.inj ((X _ _ lk).symm.trans htp))
    exact absurd z (by decide)
  ca := fun {prog w A E Q s} X p k => by
    obtain ⟨ob, vs, e, c, _⟩ := p
    obtain ⟨h, g, d, t, os⟩ := s
    exact exc_ca X O e c k
section
variable {X : Cx}
/-- isinstance(e, C) of a caught exception and a class of the text, or a built-in one -/
theorem call_isiE : CallR X (.builtin "isinstance") (fun xs H Q => ∃ (x D : Addr) (c : V) (cv : Value) (b : Bool), xs = [.ref x, c] ∧ H x = some (excO x D) ∧ ExcOk X.K D ∧ (∀ u, RelV c u → u = cv) ∧ PySem.W.kitOne X.K (.ref D) cv = some b ∧ Q (.bl b) H) := by
  intro pins s σ H xs us Q I r h
  obtain ⟨x, D, c, cv, b, rfl, hx, O, hcv, e, q⟩ := h
  obtain ⟨u, w', rfl, rx, ry⟩ := r.two
  cases rx
  obtain rfl := hcv w' ry
  obtain ⟨p, _⟩ := (show ObjOk X.prog X.w H s.heap x (excO x D) from I.hok x _ hx)
  exact PySem.W.kia_one (kitx_exc O) I.kIn p e (fun z => nomatch z) fun tk => ⟨.bl b, H, I.tok tk, rfl, q⟩
end

/-! ### an untracked object of ours is tracked -/
theorem Inv.track {X : Cx} {pins : List (Addr × Obj)} {σ : St} {H : Hp} {s : Shared} {x : Addr} {o : HO} (I : Inv X pins σ H s) (hn : H x = none) (h0 : X.s₀.heap.get? x = none) (hL : x ≠ X.env.locals) (hc : ∀ y c, X.env.cells.lookup y = some c → c ≠ x)
    (hp : ∀ p ∈ X.pn ++ pins, p.1 ≠ x) (new : ObjOk X.prog X.w (upd H x o) s.heap x o) : Inv X pins σ (upd H x o) s := by
  have ne : ∀ b u, H b = some u → b ≠ x := fun b u e z => by rw [z, hn] at e; cases e
  refine ⟨I.ok, I.os, I.bare, ⟨I.base.keep, I.base.slot, fun b u e n hx => ?_, I.base.there, fun b xs e => ?_, fun b u xs e => ?_, fun b ps e => ?_⟩, I.loc, I.cell, ?_, fun y c e => ?_, fun p q => ?_, fun b u e => ?_, I.len⟩
  · have : b ≠ x := fun z => by rw [z, h0] at e; cases e
    rw [upd_ne this]
    exact I.base.free b u e n hx
  · have := I.base.tups b xs e
    rw [upd_ne (ne b _ this)]
    exact this
  · have := I.base.frzs b u xs e
    rw [upd_ne (ne b _ this)]
    exact this
  · obtain ⟨more, e1⟩ := I.base.tbls b ps e
    exact ⟨more, by rw [upd_ne (ne b _ e1)]; exact e1⟩
  · rw [upd_ne hL.symm]
    exact I.free
  · rw [upd_ne (hc y c e)]
    exact I.freeC y c e
  · obtain ⟨e, n, nl, nf, d⟩ := I.pin p q
    exact ⟨e, by rw [upd_ne (hp p q)]; exact n, nl, nf, d⟩
  · by_cases hb : b = x
    · subst hb
      rw [upd_same] at e
      cases e
      exact new
    · rw [upd_ne hb] at e
      exact (I.hok b u e).stay (fun c v _ q => q) (fun c q => by rw [upd_ne (ne c _ q)]; exact q) fun c xs q => by rw [upd_ne (ne c _ q)]; exact q
/-- a local name goes (behind an except suite) -/
theorem unstore_ok {X : Cx} {pins : List (Addr × Obj)} {σ : St} {H : Hp} {s : Shared} {M : Model} {A : Around} {E : Value → Shared → Prop} {i : Nat} {n : Str} {pos : Pos} {Q : Unit → Shared → Prop} (I : Inv X pins σ H s) (hN : X.N.Nodup) (hi : X.N[i]? = some n) (hn : X.env.scope.names.lookup n = some NameKind.local)
    (h : ∀ s', Inv X pins (σ.set i none) H s' → Q () s') : wpAny M A (do bindName X.env n .none; unbindBehindTheSuite X.env n pos) Q E s := by
  obtain ⟨m, hm, hl⟩ := id I.loc
  have hcls : (X.env.scope.kind == .class || (X.env.scope.kind == .module && X.env.locals != X.env.globals)) = false := by rw [I.ok.kind]; rfl
  have hiσ : i < σ.length := by rw [I.len]; exact (List.getElem?_eq_some_iff.mp hi).1
  obtain ⟨oL, _, _, hoL, _⟩ := id hm
  refine wpAny_nameGoes_keeps hn hm hcls fun h' v hm' hs => ?_
  have tracked : HOk X.prog X.w H h' := fun b ob e => by
    refine (I.hok b ob e).stay (fun c w' hc q => (hs.2 c ?_).trans q) (fun _ q => q) fun _ _ q => q
    rintro rfl
    rcases hc with rfl | hc
    · rw [I.free] at e; cases e
    · rw [I.free] at hc; cases hc
  refine h _ ⟨I.ok, I.os, I.bare, ⟨fun b o e n hb hx => ?_, fun b o e n hb hx => ?_, I.base.free, fun b o e hx => ?_, I.base.tups, I.base.frzs, I.base.tbls⟩, ⟨_, hm', fun j y v' e1 e2 e3 => ?_⟩, fun y c e => ?_, I.free, I.freeC, fun p hp => ?_, tracked, by simpa using I.len⟩
  · exact (hs.2 b (Nat.ne_of_lt (Nat.lt_of_lt_of_le (Heap.lt_size e) I.ok.above))).trans (I.base.keep b o e n hb hx)
  · obtain ⟨sl, e1⟩ := I.base.slot b o e n hb hx
    exact ⟨sl, (hs.2 b (Nat.ne_of_lt (Nat.lt_of_lt_of_le (Heap.lt_size e) I.ok.above))).trans e1⟩
  · obtain ⟨o', e1⟩ := I.base.there b o e hx
    exact ⟨o', (hs.2 b (Nat.ne_of_lt (Nat.lt_of_lt_of_le (Heap.lt_size e) I.ok.above))).trans e1⟩
  · by_cases hj : j = i
    · subst hj
      rw [List.getElem?_set_self hiσ] at e2
      cases e2
    · rw [List.getElem?_set_ne (Ne.symm hj)] at e2
      obtain ⟨u', r', q⟩ := hl j y v' e1 e2 e3
      refine ⟨u', r', ?_⟩
      rcases q with ⟨k, e⟩ | ⟨k, c, e, z⟩
      · refine .inl ⟨k, ?_⟩
        have : y ≠ n := fun e => hj (nodup_ix hN e1 (e ▸ hi))
        simp [this, e]
      · exact .inr ⟨k, c, e, z.sameBut hs (I.cne y c e)⟩
  · obtain ⟨w', z⟩ := I.cell y c e
    exact ⟨w', z.sameBut hs (I.cne y c e)⟩
  · obtain ⟨e, n, ne, nf, d⟩ := I.pin p hp
    exact ⟨(hs.2 p.1 ne).trans e, n, ne, nf, d⟩

/-! ### try: body, except C as n: suite -/
def pinX (X : Cx) (pins : List (Addr × Obj)) : Cx := { X with pn := X.pn ++ pins }
def tryX (X : Cx) (pins : List (Addr × Obj)) (Ex : St → XK) : Cx := (pinX X pins).wish fun e s' => ∃ pins' σ' H1 s1, Inv (pinX X pins) pins' σ' H1 s1 ∧ Thrown Flies X.prog X.w X.stack H1 s1 (Ex σ') e s'
def handX (X : Cx) (x : Addr) : Cx := { X with A := X.A.mark (some (.ref x)), calm := false, xe := fun _ _ => False }
section
variable {X : Cx} {pins : List (Addr × Obj)} {σ : St} {H : Hp} {s : Shared} {Ex : St → XK} {x : Addr}
theorem Cx.Ok.pin {pins : List (Addr × Obj)} (ok : X.Ok) : (pinX X pins).Ok :=
  ⟨ok.mod, ok.kind, ok.glob, ok.blt, ok.above, ok.inj, ok.has, ok.cab, ok.hd, ok.frames, ok.stk, ok.exf, ok.bs, ok.bsz, ok.noex, ok.exfs, ok.funs, ok.frf⟩
theorem Cx.Ok.unpin {pins : List (Addr × Obj)} (ok : (pinX X pins).Ok) : X.Ok :=
  ⟨ok.mod, ok.kind, ok.glob, ok.blt, ok.above, ok.inj, ok.has, ok.cab, ok.hd, ok.frames, ok.stk, ok.exf, ok.bs, ok.bsz, ok.noex, ok.exfs, ok.funs, ok.frf⟩
theorem Cx.Ok.hand (ok : X.Ok) (x : Addr) : (handX X x).Ok :=
  ⟨ok.mod, ok.kind, ok.glob, ok.blt, ok.above, ok.inj, ok.has, ok.cab, fun z => absurd z (by show ¬ (false = true); decide), ok.frames, ok.stk, ok.exf, ok.bs, ok.bsz, ok.noex, ok.exfs, ok.funs, ok.frf⟩
theorem Inv.pin' (I : Inv X pins σ H s) : Inv (pinX X pins) [] σ H s :=
  ⟨I.ok.pin, I.os, I.bare, I.base, I.loc, I.cell, I.free, I.freeC, fun p hp => I.pin p (by have : p ∈ (X.pn ++ pins) ++ [] := hp; simpa using this), I.hok, I.len⟩
theorem Inv.unpin {pins' : List (Addr × Obj)} (I : Inv (pinX X pins) pins' σ H s) : Inv X pins σ H s :=
  ⟨I.ok.unpin, I.os, I.bare, I.base, I.loc, I.cell, I.free, I.freeC, fun p hp => I.pin p (List.mem_append_left _ hp), I.hok, I.len⟩
theorem Inv.hand (I : Inv X pins σ H s) (x : Addr) : Inv (handX X x) pins σ H s := ⟨I.ok.hand x, I.os, I.bare, I.base, I.loc, I.cell, I.free, I.freeC, I.pin, I.hok, I.len⟩
theorem Inv.unhand (ok : X.Ok) (I : Inv (handX X x) pins σ H s) : Inv X pins σ H s := ⟨ok, I.os, I.bare, I.base, I.loc, I.cell, I.free, I.freeC, I.pin, I.hok, I.len⟩
theorem tryX_pass : PassX (CX1 X.prog X.w) (tryX X pins Ex) Ex := fun pins' σ H s e s' I T => ⟨pins', σ, H, s, I.unwish, T⟩
theorem sp_try {D : Ends} {f : Flow} {pins' : List (Addr × Obj)} (h : SP (tryX X pins Ex) pins' D f s) : SP X pins D f s := by
  cases f with
  | next => obtain ⟨σ', H', I, q⟩ := h; exact ⟨σ', H', I.unwish.unpin, q⟩
  | brk => obtain ⟨σ', H', I, q⟩ := h; exact ⟨σ', H', I.unwish.unpin, q⟩
  | cont => obtain ⟨σ', H', I, q⟩ := h; exact ⟨σ', H', I.unwish.unpin, q⟩
  | ret u => obtain ⟨v, σ', H', I, r, q⟩ := h; exact ⟨v, σ', H', I.unwish.unpin, r, q⟩
end
/-- the frame as it stands when the exception has come to the handlers, wherever the heap has moved -/
theorem caught_inv {X : Cx} {pins pins' : List (Addr × Obj)} {σ' : St} {H1 H' : Hp} {s1 s2 : Shared} {B h'' : Heap} (I1 : Inv (pinX X pins) pins' σ' H1 s1) (os : s2.os = s1.os) (bare : AllBare s2.gens) (hok : HOk X.prog X.w H' s2.heap) (un : Un (frs X.stack) [] H1 H' s1.heap s2.heap)
    (cov : ∀ b o, H' b = some o → ∀ ob, s2.heap.get? b = some ob → B.get? b = some ob) (old : ∀ b, (∃ o, s1.heap.get? b = some o) → b ∉ frs X.stack → ∀ ob, s2.heap.get? b = some ob → B.get? b = some ob)
    (st : B.StaysIn h'') (up : s2.heap.UpToSlots h'') : Inv X pins σ' H' { s2 with heap := h'' } := by
  obtain ⟨x, cls, H2, B2, _, os2, bare2, hok2, un2, r2, _, _, e2⟩ := thrown_move (R' := fun _ _ _ _ _ => True) (l' := X.stack) (x := 0) (cls := .none) (E := fun _ _ H2 => H2 = H') os bare hok un cov old rfl st up (fun b _ h => h) (fun b h => h) (fun b hb o e1 => by
    obtain ⟨_, o', ho', hd⟩ := I1.stack.mem hb
    rw [e1] at ho'; cases ho'
    exact ⟨hd, I1.stkFree b hb⟩) trivial
  subst e2
  exact (I1.call' (s' := { s2 with heap := h'' }) (ch := []) os2 un2 hok2 bare2 fun b z => absurd z (by simp)).unpin

def tTryAs (K : PySem.W.Frag) (C : Addr) (i : Nat) (tb : (St → XK) → TS) (th : TS) : TS := fun D σ H => tb (fun σ' cls _ H' => ∃ Dc : Addr, cls = .ref Dc ∧ PySem.W.exmOne K (.ref Dc) (.ref C) = some true ∧ ∀ x, H' x = none →
  th { nx := fun σ2 H2 => D.nx (σ2.set i none) H2, rt := D.rt, bk := fun σ2 H2 => D.bk (σ2.set i none) H2, ct := fun σ2 H2 => D.ct (σ2.set i none) H2 } (σ'.set i (some (.ref x))) (upd H' x (excO x Dc))) D σ H
theorem ps_tryAs {X : Cx} {body suite : List Stmt} {b₀ : Stmt} {cn n : Str} {C : Addr} {tb : (St → XK) → TS} {th : TS} {i : Nat} {np hp pos : Pos} (hN : X.N.Nodup) (hi : X.N[i]? = some n) (hn : X.env.scope.names.lookup n = some NameKind.local) (hg : Gl X cn) (hm : X.mg cn = some (.ref C))
    (hb : ∀ pins Ex, PSs (tryX X pins Ex) body (tb Ex)) (hh : ∀ x, PSs (handX X x) (b₀ :: suite) th) (hst : X.stack = X.env :: X.outer := by rfl) (hf : X.env.frame = some X.env.locals := by rfl) (hex : X.ex = [] := by rfl) (hdb : (cn == ("__debug__" : Str)) = false := by decide) :
    PS X (.Try body [.ExceptHandler (some (.Name cn np)) (some n) (b₀ :: suite) hp] [] [] pos) (tTryAs X.K C i tb th) := by
  intro pins s σ H D I h
  refine wpAny_Try_except (wpAny_mono (hb pins _ [] s σ H D (I.pin'.wish _) h) (fun f s1 q => ?_) fun e s1 q => ?_)
  · cases f with
    | next => exact wpAny_execs_nil (sp_try q)
    | brk => exact sp_try q
    | cont => exact sp_try q
    | ret u => exact sp_try q
  obtain ⟨pins', σ', H1, s0, I1, T⟩ := q
  obtain ⟨x, cls, H', B, rfl, os, bare, hok, un, ⟨a0, fl⟩, cov, old, Dc, rfl, hm1, hth⟩ := T
  have hfr : X.A.frames = some (X.env :: X.outer) := by rw [← hst]; exact I.ok.frames
  rw [hst] at fl
  refine wpAny_looks_onW hfr hf fl fun h4 held4 up4 => ?_
  refine wpAny_landsW held4 fun h5 fl5 up5 => ?_
  have up45 := up4.trans up5
  have mv : ∀ h'', B.StaysIn h'' → s1.heap.UpToSlots h'' → Inv X pins σ' H' { s1 with heap := h'' } := fun h'' st up => caught_inv I1 os bare hok un cov old st up
  have I5 := mv h5 fl5.1 up45
  refine wpAny_handleBy_cons (codeAny_handlers_test (ld_glob (X := handX X x) (I5.hand x) hg hm ?_ hdb)) (by intro q; cases q)
  obtain ⟨ob5, hob5, hcl5⟩ := fl5.there
  have LT : PySem.W.Looks (model X.prog X.w) h5 (typeOf (.ref x)) (.ref Dc) := hcl5 ▸ (PySem.W.Looks.ld hob5).andThen .now
  refine (PySem.W.exm_one (M := model X.prog X.w) I5.kIn LT hm1).at ?_
  show codeAny (model X.prog X.w) (X.A.mark (some (.ref x))) (.handlers (.ref x) [.ExceptHandler none (some n) (b₀ :: suite) hp] X.env) _ _
  refine codeAny_handlers_suite_as ?_
  refine lands_againW fl5 fun h6 fl6 up6 => ?_
  have I6 := mv h6 fl6.1 (up45.trans up6)
  obtain ⟨oe, vs, hoe, hoec, hoed, _⟩ := fl6.first
  have hBx : B.get? x = none := fl6.2.1
  have hxs : ∃ ob, s1.heap.get? x = some ob := by obtain ⟨ob, e, _⟩ := fl.there; exact ⟨ob, e⟩
  obtain ⟨obx, hobx⟩ := hxs
  have nx' : H' x = none := by
    cases q : H' x with
    | none => rfl
    | some o => have := cov x o q obx hobx; rw [hBx] at this; cases this
  have nstk : x ∉ frs X.stack := fun hx => by
    obtain ⟨_, o', ho', hd⟩ := I6.stack.mem hx
    have ho2 : h6.get? x = some o' := ho'
    rw [hoe] at ho2; cases ho2
    exact hd _ hoed
  have n0 : s0.heap.get? x = none := by
    cases q : s0.heap.get? x with
    | none => rfl
    | some o => have := old x ⟨o, q⟩ nstk obx hobx; rw [hBx] at this; cases this
  have nS : X.s₀.heap.get? x = none := by
    cases q : X.s₀.heap.get? x with
    | none => rfl
    | some o =>
      obtain ⟨o', e⟩ := I1.base.there x o q (by show x ∉ X.ex; rw [hex]; simp)
      rw [n0] at e; cases e
  have nL : x ≠ X.env.locals := fun z => by
    obtain ⟨m, ⟨o, es, ep, ho, hd, _⟩, _⟩ := I6.loc
    have ho2 : h6.get? X.env.locals = some o := ho
    rw [← z, hoe] at ho2; cases ho2
    rw [hoed] at hd; cases hd
  have nC : ∀ y c, X.env.cells.lookup y = some c → c ≠ x := fun y c e z => by
    obtain ⟨v, o, ho, hd⟩ := I6.cell y c e
    have ho2 : h6.get? c = some o := ho
    rw [z, hoe] at ho2; cases ho2
    rw [hoed] at hd; cases hd
  have nP : ∀ p ∈ X.pn ++ pins, p.1 ≠ x := fun p hp z => by
    have e := (I1.pin p (List.mem_append_left _ hp)).1
    rw [z, n0] at e; cases e
  have I7 := I6.track (o := excO x Dc) nx' nS nL nC nP ⟨⟨oe, vs, hoe, hoec, hoed⟩, ⟨oe, hoe⟩, fun h1 h2 ⟨o1, v1, e1, c1, d1⟩ k => ⟨o1, v1, k _ e1, c1, d1⟩⟩
  refine store_ok (X := handX X x) (v := .ref x) (I7.hand x) hN hi (.inl hn) rfl (fun s8 I8 => ?_) (.inr hn)
  refine wpAny_mono (hh x pins s8 _ _ _ I8 (hth x nx')) (fun f s9 q9 => ?_) fun _ _ z => z.elim
  have un9 : ∀ {σ2 : St} {H2 : Hp}, Inv (handX X x) pins σ2 H2 s9 → ∀ (Q2 : Unit → Shared → Prop) (E2 : Value → Shared → Prop), (∀ s', Inv X pins (σ2.set i none) H2 s' → Q2 () s') → wpAny (model X.prog X.w) X.A (do bindName X.env n .none; unbindBehindTheSuite X.env n hp) Q2 E2 s9 := fun I9 Q2 E2 k => unstore_ok (I9.unhand I.ok) hN hi hn k
  cases f with
  | next => obtain ⟨σ2, H2, I9, q⟩ := q9; exact un9 I9 _ _ fun s' I' => ⟨_, H2, I', q⟩
  | brk => obtain ⟨σ2, H2, I9, q⟩ := q9; exact un9 I9 _ _ fun s' I' => ⟨_, H2, I', q⟩
  | cont => obtain ⟨σ2, H2, I9, q⟩ := q9; exact un9 I9 _ _ fun s' I' => ⟨_, H2, I', q⟩
  | ret u => obtain ⟨v, σ2, H2, I9, r, q⟩ := q9; exact un9 I9 _ _ fun s' I' => ⟨v, _, H2, I', r, q⟩

/-- try: body, except C: suite -/
def tTry0 (K : PySem.W.Frag) (C : Addr) (tb : (St → XK) → TS) (th : TS) : TS := fun D σ H => tb (fun σ' cls _ H' => ∃ Dc : Addr, cls = .ref Dc ∧ PySem.W.exmOne K (.ref Dc) (.ref C) = some true ∧ th D σ' H') D σ H
theorem ps_try0 {X : Cx} {body suite : List Stmt} {b₀ : Stmt} {cn : Str} {C : Addr} {tb : (St → XK) → TS} {th : TS} {np hp pos : Pos} (hg : Gl X cn) (hm : X.mg cn = some (.ref C))
    (hb : ∀ pins Ex, PSs (tryX X pins Ex) body (tb Ex)) (hh : ∀ x, PSs (handX X x) (b₀ :: suite) th) (hst : X.stack = X.env :: X.outer := by rfl) (hf : X.env.frame = some X.env.locals := by rfl) (hdb : (cn == ("__debug__" : Str)) = false := by decide) :
    PS X (.Try body [.ExceptHandler (some (.Name cn np)) none (b₀ :: suite) hp] [] [] pos) (tTry0 X.K C tb th) := by
  intro pins s σ H D I h
  refine wpAny_Try_except (wpAny_mono (hb pins _ [] s σ H D (I.pin'.wish _) h) (fun f s1 q => ?_) fun e s1 q => ?_)
  · cases f with
    | next => exact wpAny_execs_nil (sp_try q)
    | brk => exact sp_try q
    | cont => exact sp_try q
    | ret u => exact sp_try q
  obtain ⟨pins', σ', H1, s0, I1, T⟩ := q
  obtain ⟨x, cls, H', B, rfl, os, bare, hok, un, ⟨a0, fl⟩, cov, old, Dc, rfl, hm1, hth⟩ := T
  have hfr : X.A.frames = some (X.env :: X.outer) := by rw [← hst]; exact I.ok.frames
  rw [hst] at fl
  refine wpAny_looks_onW hfr hf fl fun h4 held4 up4 => ?_
  refine wpAny_landsW held4 fun h5 fl5 up5 => ?_
  have up45 := up4.trans up5
  have mv : ∀ h'', B.StaysIn h'' → s1.heap.UpToSlots h'' → Inv X pins σ' H' { s1 with heap := h'' } := fun h'' st up => caught_inv I1 os bare hok un cov old st up
  have I5 := mv h5 fl5.1 up45
  refine wpAny_handleBy_cons (codeAny_handlers_test (ld_glob (X := handX X x) (I5.hand x) hg hm ?_ hdb)) (by intro q; cases q)
  obtain ⟨ob5, hob5, hcl5⟩ := fl5.there
  have LT : PySem.W.Looks (model X.prog X.w) h5 (typeOf (.ref x)) (.ref Dc) := hcl5 ▸ (PySem.W.Looks.ld hob5).andThen .now
  refine (PySem.W.exm_one (M := model X.prog X.w) I5.kIn LT hm1).at ?_
  show codeAny (model X.prog X.w) (X.A.mark (some (.ref x))) (.handlers (.ref x) [.ExceptHandler none none (b₀ :: suite) hp] X.env) _ _
  refine codeAny_handlers_suite ?_
  refine lands_againW fl5 fun h6 fl6 up6 => ?_
  have I6 := mv h6 fl6.1 (up45.trans up6)
  refine wpAny_mono (hh x pins _ _ _ _ (I6.hand x) hth) (fun f s9 q9 => ?_) fun _ _ z => z.elim
  cases f with
  | next => obtain ⟨σ2, H2, I9, q⟩ := q9; exact ⟨_, H2, I9.unhand I.ok, q⟩
  | brk => obtain ⟨σ2, H2, I9, q⟩ := q9; exact ⟨_, H2, I9.unhand I.ok, q⟩
  | cont => obtain ⟨σ2, H2, I9, q⟩ := q9; exact ⟨_, H2, I9.unhand I.ok, q⟩
  | ret u => obtain ⟨v, σ2, H2, I9, r, q⟩ := q9; exact ⟨v, _, H2, I9.unhand I.ok, r, q⟩
end L2

/-! MY OWN: the yard: its state as plain lists, how it lies in the heap, what each deed promises -/
namespace LW
open PySem L2

/-! ### more short words -/
theorem passE0 {P : Program} {w : World} {X : Cx} : PassX (CX1 P w) X (fun _ => E0) := fun _ _ _ _ _ _ _ T => by
  obtain ⟨_, _, _, _, _, _, _, _, _, _, _, _, hE⟩ := T
  exact hE.elim
theorem pe_bmK {X : Cx} (K : PySem.W.Frag) {o e : Expr} {es : List Expr} {to : TE} {t : TA} {name : Str} {apos cpos : Pos} {T id : String} {r : V → List V → Hp → VK → Prop} (pa : PlainAttrs T) (slot : Slot T name id) (hty : typeOf (.builtin id) = pure (.type "method_descriptor")) (hm : MtR X id r) (ho : PE X o to) (ha : PA X (e :: es) t)
    (hK : X.K = K := by rfl) (hbase : attributeBase o name X.env (eval o X.env) = eval o X.env := by rfl)
    (hfew : ((backTo cpos (starEach (e :: es) X.env)).all (fun x => !x.1) && (backToKw cpos (keywordEach [] X.env)).all (fun x => x.1.isSome)
      && decide ((e :: es).length + ([] : List Keyword).length + (if ([] : List Keyword).isEmpty then 0 else 1) < 30)) = true := by rfl)
    (hline : (apos.endLine == cpos.line) = true := by rfl) (hs : starEach (e :: es) X.env = (false, eval e X.env) :: starEach es X.env := by rfl) (hplain : (backTo cpos (starEach es X.env)).any (·.1) = false := by rfl) :
    PE X (.Call (.Attribute o name apos) (e :: es) [] cpos) (tBM K T r to t) := by
  subst hK
  exact pe_bm pa slot hty hm ho ha hbase hfew hline hs hplain
theorem call_isiEK {X : Cx} (K : PySem.W.Frag) (h : X.K = K := by rfl) : CallR X (.builtin "isinstance") (fun xs H Q => ∃ (x D : Addr) (c : V) (cv : Value) (b : Bool), xs = [.ref x, c] ∧ H x = some (excO x D) ∧ ExcOk K D ∧ (∀ u, RelV c u → u = cv) ∧ PySem.W.kitOne K (.ref D) cv = some b ∧ Q (.bl b) H) := by
  subst h; exact call_isiE

/-! ### the state of a yard -/
def kS (b : Bool) : V := .str (if b then "lane" else "stub")
inductive Wd | done | track | waiting | empty
  deriving DecidableEq
def Wd.s : Wd → Str
  | .done => "done" | .track => "track" | .waiting => "waiting" | .empty => "empty"
structure YS where
  ks : List Bool
  q : List Int
  tr : List (List Int)
  g : List Int
def YS.word (S : YS) (isIn : Bool) (n : Int) : Wd :=
  if 0 ≤ n ∧ n < (S.tr.length : Int) then (if isIn = true then (if S.q.length = 0 then .waiting else .done) else (if (S.tr.getD n.toNat []).length = 0 then .empty else .done)) else .track
def YS.into (S : YS) (n : Nat) : YS := { S with q := S.q.tail, tr := S.tr.set n (S.tr.getD n [] ++ [S.q.headD 0]) }
def YS.out (S : YS) (n : Nat) : YS := if S.ks.getD n false = true then { S with tr := S.tr.set n (S.tr.getD n []).tail, g := S.g ++ [(S.tr.getD n []).headD 0] }
  else { S with tr := S.tr.set n (S.tr.getD n []).dropLast, g := S.g ++ [(S.tr.getD n []).getLastD 0] }
def YS.next (S : YS) (isIn : Bool) (n : Int) : YS := if S.word isIn n = .done then (if isIn = true then S.into n.toNat else S.out n.toNat) else S
def Sm (S : YS) (m : Nat) : Prop := S.q.length ≤ m ∧ S.g.length ≤ m ∧ ∀ xs ∈ S.tr, xs.length ≤ m
theorem Sm.at {S : YS} {m : Nat} (h : Sm S m) (n : Nat) : (S.tr.getD n []).length ≤ m := by
  rw [List.getD_eq_getElem?_getD]
  cases e : S.tr[n]? with
  | none => exact Nat.zero_le _
  | some xs => exact h.2.2 xs (List.mem_of_getElem? e)
theorem sm_set {tr : List (List Int)} {m n : Nat} {ys : List Int} (h : ∀ xs ∈ tr, xs.length ≤ m) (hy : ys.length ≤ m) : ∀ xs ∈ tr.set n ys, xs.length ≤ m := fun xs hx => by
  rcases List.mem_or_eq_of_mem_set hx with h' | h'
  · exact h xs h'
  · rw [h']; exact hy
theorem Sm.mono {S : YS} {m k : Nat} (h : Sm S m) (hk : m ≤ k) : Sm S k := ⟨Nat.le_trans h.1 hk, Nat.le_trans h.2.1 hk, fun xs hx => Nat.le_trans (h.2.2 xs hx) hk⟩
theorem Sm.into {S : YS} {m : Nat} (h : Sm S m) (n : Nat) : Sm (S.into n) (m + 1) := by
  have h1 := h.at n
  refine ⟨?_, Nat.le_succ_of_le h.2.1, sm_set (h.mono (Nat.le_succ m)).2.2 ?_⟩
  · show S.q.tail.length ≤ m + 1
    rw [List.length_tail]
    have := h.1
    omega
  · rw [List.length_append, List.length_singleton]
    omega
theorem Sm.out {S : YS} {m : Nat} (h : Sm S m) (n : Nat) : Sm (S.out n) (m + 1) := by
  have h1 := h.at n
  unfold YS.out
  split
  · refine ⟨Nat.le_succ_of_le h.1, ?_, sm_set (h.mono (Nat.le_succ m)).2.2 ?_⟩
    · show (S.g ++ [_]).length ≤ m + 1
      rw [List.length_append, List.length_singleton]
      have := h.2.1
      omega
    · rw [List.length_tail]
      omega
  · refine ⟨Nat.le_succ_of_le h.1, ?_, sm_set (h.mono (Nat.le_succ m)).2.2 ?_⟩
    · show (S.g ++ [_]).length ≤ m + 1
      rw [List.length_append, List.length_singleton]
      have := h.2.1
      omega
    · rw [List.length_dropLast]
      omega
theorem Sm.next {S : YS} {m : Nat} (h : Sm S m) (b : Bool) (n : Int) : Sm (S.next b n) (m + 1) := by
  unfold YS.next
  split
  · split
    · exact h.into _
    · exact h.out _
  · exact h.mono (Nat.le_succ m)

/-! ### how it lies in the heap -/
structure At3 (H : Hp) (rk rq ro rd : Addr) (ts : List Addr) (S : YS) : Prop where
  hk : H rk = some (.lst (S.ks.map kS))
  hq : H rq = some (.lst (S.q.map V.int))
  ho : H ro = some (.lst (ts.map V.ref))
  hd : H rd = some (.lst (S.g.map V.int))
  len : ts.length = S.tr.length
  lk : S.ks.length = S.tr.length
  ht : ∀ (i : Nat) (t : Addr), ts[i]? = some t → H t = some (.lst ((S.tr.getD i []).map V.int))
  nd : (rk :: rq :: ro :: rd :: ts).Nodup
/-- all that was tracked, but at these addresses, is as it was -/
def Chg (H H' : Hp) (l : List Addr) : Prop := ∀ b o, H b = some o → b ∉ l → H' b = some o
theorem Chg.of {H H' : Hp} (s : Same H H') (l : List Addr) : Chg H H' l := fun b o e _ => s b o e
theorem Chg.refl (H : Hp) (l : List Addr) : Chg H H l := fun _ _ e _ => e
theorem Chg.trans {H H1 H2 : Hp} {l : List Addr} (a : Chg H H1 l) (b : Chg H1 H2 l) : Chg H H2 l := fun c o e h => b c o (a c o e h) h
theorem Chg.mono {H H' : Hp} {l l' : List Addr} (a : Chg H H' l) (h : ∀ b ∈ l, b ∈ l') : Chg H H' l' := fun c o e hn => a c o e fun z => hn (h c z)
theorem Chg.upd {H : Hp} {a : Addr} {o : HO} {l : List Addr} (h : a ∈ l) : Chg H (upd H a o) l := fun b u e hn => by
  rw [upd_ne (fun z => hn (by rw [z]; exact h))]
  exact e
theorem At3.keeps {H H' : Hp} {rk rq ro rd : Addr} {ts : List Addr} {S : YS} (a : At3 H rk rq ro rd ts S) (k : ∀ b ∈ rk :: rq :: ro :: rd :: ts, ∀ o, H b = some o → H' b = some o) : At3 H' rk rq ro rd ts S :=
  ⟨k _ (by simp) _ a.hk, k _ (by simp) _ a.hq, k _ (by simp) _ a.ho, k _ (by simp) _ a.hd, a.len, a.lk, fun i t e => k _ (by simp [List.mem_of_getElem? e]) _ (a.ht i t e), a.nd⟩
theorem At3.same {H H' : Hp} {rk rq ro rd : Addr} {ts : List Addr} {S : YS} (a : At3 H rk rq ro rd ts S) (s : Same H H') : At3 H' rk rq ro rd ts S := a.keeps fun b _ o e => s b o e
theorem At3.chg {H H' : Hp} {rk rq ro rd : Addr} {ts l : List Addr} {S : YS} (a : At3 H rk rq ro rd ts S) (s : Chg H H' l) (d : ∀ b ∈ rk :: rq :: ro :: rd :: ts, b ∉ l) : At3 H' rk rq ro rd ts S := a.keeps fun b hb o e => s b o e (d b hb)
section
variable {H : Hp} {rk rq ro rd t : Addr} {ts : List Addr} {S : YS} {n : Nat}
theorem At3.ne (a : At3 H rk rq ro rd ts S) (ht : ts[n]? = some t) : t ≠ rk ∧ t ≠ rq ∧ t ≠ ro ∧ t ≠ rd ∧ rq ≠ rk ∧ rq ≠ ro ∧ rq ≠ rd ∧ rd ≠ rk ∧ rd ≠ ro := by
  have nd := a.nd
  have hm := List.mem_of_getElem? ht
  simp only [List.nodup_cons, List.mem_cons, not_or] at nd
  obtain ⟨⟨h1, h2, h3, h4⟩, ⟨h5, h6, h7⟩, ⟨h8, h9⟩, h10, _⟩ := nd
  exact ⟨fun z => h4 (z ▸ hm), fun z => h7 (z ▸ hm), fun z => h9 (z ▸ hm), fun z => h10 (z ▸ hm), fun z => h1 z.symm, h5, h6, fun z => h3 z.symm, fun z => h8 z.symm⟩
theorem At3.tne (a : At3 H rk rq ro rd ts S) {i : Nat} {u : Addr} (ht : ts[n]? = some t) (hu : ts[i]? = some u) (h : i ≠ n) : u ≠ t := fun z => by
  have nd := a.nd
  simp only [List.nodup_cons] at nd
  have nd' := nd.2.2.2.2
  subst z
  obtain ⟨h1, e1⟩ := List.getElem?_eq_some_iff.mp hu
  obtain ⟨h2, e2⟩ := List.getElem?_eq_some_iff.mp ht
  exact h ((List.getElem_inj nd').mp (e1.trans e2.symm))
theorem getD_set {tr : List (List Int)} {i : Nat} {ys : List Int} (h : n < tr.length) : (tr.set n ys).getD i [] = if i = n then ys else tr.getD i [] := by
  rw [List.getD_eq_getElem?_getD, List.getD_eq_getElem?_getD, List.getElem?_set]
  by_cases hi : n = i
  · subst hi
    simp [h]
  · rw [if_neg hi, if_neg (Ne.symm hi)]
/-- a wagon has entered track n -/
theorem At3.into (a : At3 H rk rq ro rd ts S) (ht : ts[n]? = some t) {c : Int} {qs : List Int} (hq : S.q = c :: qs) : At3 (upd (upd H rq (.lst (qs.map V.int))) t (.lst (((S.tr.getD n []).map V.int) ++ [.int c]))) rk rq ro rd ts (S.into n) := by
  obtain ⟨e1, e2, e3, e4, e5, e6, e7, e8, e9⟩ := a.ne ht
  have hn : n < S.tr.length := by rw [← a.len]; exact (List.getElem?_eq_some_iff.mp ht).1
  refine ⟨?_, ?_, ?_, ?_, ?_, ?_, fun i u hu => ?_, a.nd⟩
  · rw [upd_ne e1.symm, upd_ne e5.symm]; exact a.hk
  · rw [upd_ne e2.symm, upd_same]
    show some (HO.lst (qs.map V.int)) = some (.lst (S.q.tail.map V.int))
    rw [hq]
    rfl
  · rw [upd_ne e3.symm, upd_ne e6.symm]; exact a.ho
  · rw [upd_ne e4.symm, upd_ne e7.symm]; exact a.hd
  · show ts.length = (S.tr.set n _).length
    rw [List.length_set]; exact a.len
  · show S.ks.length = (S.tr.set n _).length
    rw [List.length_set]; exact a.lk
  · show _ = some (HO.lst (((S.tr.set n (S.tr.getD n [] ++ [S.q.headD 0])).getD i []).map V.int))
    rw [getD_set hn]
    by_cases hi : i = n
    · subst hi
      rw [hu] at ht
      cases ht
      rw [if_pos rfl, upd_same, hq, List.map_append]
      rfl
    · obtain ⟨f1, f2, _⟩ := a.ne hu
      rw [if_neg hi, upd_ne (a.tne ht hu hi), upd_ne f2]
      exact a.ht i u hu
theorem At3.outOf (a : At3 H rk rq ro rd ts S) (ht : ts[n]? = some t) {c : Int} {ys : List Int} : At3 (upd (upd H t (.lst (ys.map V.int))) rd (.lst ((S.g.map V.int) ++ [.int c]))) rk rq ro rd ts { S with tr := S.tr.set n ys, g := S.g ++ [c] } := by
  obtain ⟨e1, e2, e3, e4, e5, e6, e7, e8, e9⟩ := a.ne ht
  have hn : n < S.tr.length := by rw [← a.len]; exact (List.getElem?_eq_some_iff.mp ht).1
  refine ⟨?_, ?_, ?_, ?_, ?_, ?_, fun i u hu => ?_, a.nd⟩
  · rw [upd_ne e8.symm, upd_ne e1.symm]; exact a.hk
  · rw [upd_ne e7, upd_ne e2.symm]; exact a.hq
  · rw [upd_ne e9.symm, upd_ne e3.symm]; exact a.ho
  · rw [upd_same, List.map_append]
    rfl
  · show ts.length = (S.tr.set n _).length
    rw [List.length_set]; exact a.len
  · show S.ks.length = (S.tr.set n _).length
    rw [List.length_set]; exact a.lk
  · show _ = some (HO.lst (((S.tr.set n ys).getD i []).map V.int))
    rw [getD_set hn]
    obtain ⟨f1, f2, f3, f4, _⟩ := a.ne hu
    rw [upd_ne f4]
    by_cases hi : i = n
    · subst hi
      rw [hu] at ht
      cases ht
      rw [if_pos rfl, upd_same]
    · rw [if_neg hi, upd_ne (a.tne ht hu hi)]
      exact a.ht i u hu
end

/-! ### the object -/
def flds (rk rq ro rd : Addr) : List (Str × V) := putF "departed" (.ref rd) (putF "occupied" (.ref ro) (putF "queue" (.ref rq) (putF "kinds" (.ref rk) [])))
theorem flds_no {rk rq ro rd : Addr} {m : Str} (h1 : ¬ m = "departed") (h2 : ¬ m = "occupied") (h3 : ¬ m = "queue") (h4 : ¬ m = "kinds") : (flds rk rq ro rd).lookup m = none := by
  unfold flds
  rw [lookup_putF, if_neg h1, lookup_putF, if_neg h2, lookup_putF, if_neg h3, lookup_putF, if_neg h4]
  rfl
theorem flds_d {rk rq ro rd : Addr} : (flds rk rq ro rd).lookup ("departed" : Str) = some (.ref rd) := by
  unfold flds
  rw [lookup_putF, if_pos rfl]
theorem flds_o {rk rq ro rd : Addr} : (flds rk rq ro rd).lookup ("occupied" : Str) = some (.ref ro) := by
  unfold flds
  rw [lookup_putF, if_neg (by decide +kernel), lookup_putF, if_pos rfl]
theorem flds_q {rk rq ro rd : Addr} : (flds rk rq ro rd).lookup ("queue" : Str) = some (.ref rq) := by
  unfold flds
  rw [lookup_putF, if_neg (by decide +kernel), lookup_putF, if_neg (by decide +kernel), lookup_putF, if_pos rfl]
theorem flds_k {rk rq ro rd : Addr} : (flds rk rq ro rd).lookup ("kinds" : Str) = some (.ref rk) := by
  unfold flds
  rw [lookup_putF, if_neg (by decide +kernel), lookup_putF, if_neg (by decide +kernel), lookup_putF, if_neg (by decide +kernel), lookup_putF, if_pos rfl]
structure YardAt (C : Addr) (H : Hp) (p rk rq ro rd : Addr) (ts : List Addr) (S : YS) : Prop where
  ob : ∃ dx, H p = some (.ins C dx (flds rk rq ro rd))
  st : At3 H rk rq ro rd ts S

/-! ### the classes of the text -/
structure ErrTx (K : PySem.W.Frag) (mg : Str → Option Value) (cY cT cW cE cP : Addr) : Prop where
  mY : mg "YardError" = some (.ref cY)
  mT : mg "NoTrack" = some (.ref cT)
  mW : mg "NoneWaiting" = some (.ref cW)
  mE : mg "TrackEmpty" = some (.ref cE)
  mP : mg "NoPlan" = some (.ref cP)
  xT : ExcOk K cT
  xW : ExcOk K cW
  xE : ExcOk K cE
  tY : PySem.W.exmOne K (.ref cT) (.ref cY) = some true
  wY : PySem.W.exmOne K (.ref cW) (.ref cY) = some true
  eY : PySem.W.exmOne K (.ref cE) (.ref cY) = some true
  tT : PySem.W.exmOne K (.ref cT) (.ref cT) = some true
  iTT : PySem.W.kitOne K (.ref cT) (.ref cT) = some true
  iTW : PySem.W.kitOne K (.ref cT) (.ref cW) = some false
  iTE : PySem.W.kitOne K (.ref cT) (.ref cE) = some false
  iTP : PySem.W.kitOne K (.ref cT) (.ref cP) = some false
  iTV : PySem.W.kitOne K (.ref cT) (.type "ValueError") = some true
  iWT : PySem.W.kitOne K (.ref cW) (.ref cT) = some false
  iWW : PySem.W.kitOne K (.ref cW) (.ref cW) = some true
  iWE : PySem.W.kitOne K (.ref cW) (.ref cE) = some false
  iWP : PySem.W.kitOne K (.ref cW) (.ref cP) = some false
  iWV : PySem.W.kitOne K (.ref cW) (.type "ValueError") = some true
  iET : PySem.W.kitOne K (.ref cE) (.ref cT) = some false
  iEW : PySem.W.kitOne K (.ref cE) (.ref cW) = some false
  iEE : PySem.W.kitOne K (.ref cE) (.ref cE) = some true
  iEP : PySem.W.kitOne K (.ref cE) (.ref cP) = some false
  iEV : PySem.W.kitOne K (.ref cE) (.type "ValueError") = some true
  mV : mg "ValueError" = none
structure YardTx (K : PySem.W.Frag) (mg : Str → Option Value) (C : Addr) : Prop where
  cl : Cls K C
  nK : NoAttr K C "kinds"
  nQ : NoAttr K C "queue"
  nO : NoAttr K C "occupied"
  nD : NoAttr K C "departed"
  mC : mg "Yard" = some (.ref C)
  mL : ∃ t, mg "LANE" = some (.str "lane" t)
/-- a method as it stands in the class -/
structure MAt (K : PySem.W.Frag) (C : Addr) (m : Str) (qual : Str) (st : Stmt) (ps : List Str) (f : Addr) (fd : FuncData) : Prop where
  F : Fun K m qual st f fd
  b : Binds K fd ps []
  m : Meth K C m f

/-! ### what each deed promises -/
def cls3 (cT cW cE : Addr) : Wd → Addr
  | .waiting => cW | .empty => cE | _ => cT
/-- track n is asked for: nothing is touched -/
def spCheck (C cT : Addr) : Sp := fun vs H Q E => ∃ (p rk rq ro rd : Addr) (ts : List Addr) (S : YS) (n : Int), vs = [.ref p, .int n] ∧ YardAt C H p rk rq ro rd ts S ∧ n.natAbs.log2 < 1920 ∧
  (0 ≤ n ∧ n < (S.tr.length : Int) → Q .non H) ∧ (¬ (0 ≤ n ∧ n < (S.tr.length : Int)) → E (.ref cT) none H)
/-- a deed -/
def spDeed (isIn : Bool) (C cT cW cE : Addr) : Sp := fun vs H Q E => ∃ (p rk rq ro rd : Addr) (ts : List Addr) (S : YS) (n : Int), vs = [.ref p, .int n] ∧ YardAt C H p rk rq ro rd ts S ∧ n.natAbs.log2 < 1920 ∧ Sm S 900 ∧
  (S.word isIn n = .done → ∀ H', YardAt C H' p rk rq ro rd ts (S.next isIn n) → Chg H H' (rq :: rd :: ts) → Q .non H') ∧ (S.word isIn n ≠ .done → E (.ref (cls3 cT cW cE (S.word isIn n))) none H)
/-- one of the lists, copied -/
def spCopy (C : Addr) (g : YS → List Int) : Sp := fun vs H Q _ => ∃ (p rk rq ro rd : Addr) (ts : List Addr) (S : YS), vs = [.ref p] ∧ YardAt C H p rk rq ro rd ts S ∧ ∀ r, H r = none → Q (.ref r) (upd H r (.lst ((g S).map V.int)))
def spStand (C cT : Addr) : Sp := fun vs H Q E => ∃ (p rk rq ro rd : Addr) (ts : List Addr) (S : YS) (n : Int), vs = [.ref p, .int n] ∧ YardAt C H p rk rq ro rd ts S ∧ n.natAbs.log2 < 1920 ∧
  (0 ≤ n ∧ n < (S.tr.length : Int) → ∀ r, H r = none → Q (.ref r) (upd H r (.lst ((S.tr.getD n.toNat []).map V.int)))) ∧ (¬ (0 ≤ n ∧ n < (S.tr.length : Int)) → E (.ref cT) none H)
/-- a yard is made: all new -/
def spMake (C : Addr) (K : PySem.W.Frag) : Sp := fun vs H Q _ => ∃ (p dx ak aq : Addr) (ks : List Bool) (q : List Int), vs = [.ref p, .ref ak, .ref aq] ∧ H p = some (.ins C dx []) ∧ H ak = some (.lst (ks.map kS)) ∧ H aq = some (.lst (q.map V.int)) ∧ ks.length ≤ 900 ∧ q.length ≤ 900 ∧
  ∀ (rk rq ro rd : Addr) (ts : List Addr) (H' : Hp), (∀ b ∈ rk :: rq :: ro :: rd :: ts, H b = none) → YardAt C H' p rk rq ro rd ts ⟨ks, q, ks.map fun _ => [], []⟩ → (∀ b o, H b = some o → b ≠ p → H' b = some o) → Q .non H'
theorem log2_small {n : Int} (h : n.natAbs < 2 ^ 40) : n.natAbs.log2 < 1920 := by
  by_cases h0 : n.natAbs = 0
  · rw [h0]; decide
  · have := (Nat.log2_lt h0).mpr h
    omega
end LW
namespace LW
open PySem L2
/-! ### growth of the heap -/
def Dom (H H' : Hp) : Prop := ∀ b, H' b = none → H b = none
theorem Dom.refl (H : Hp) : Dom H H := fun _ h => h
theorem Dom.trans {H H1 H2 : Hp} (a : Dom H H1) (b : Dom H1 H2) : Dom H H2 := fun c h => a c (b c h)
theorem Dom.upd {H H' : Hp} {a : Addr} {o : HO} (d : Dom H H') : Dom H (upd H' a o) := fun b h => d b (by
  by_cases e : b = a
  · rw [e, upd_same] at h; cases h
  · rwa [upd_ne e] at h)
theorem Dom.same {H H' : Hp} (s : Same H H') : Dom H H' := fun b h => s.free h
theorem pop0 {n : Nat} (h : 0 < n) : seqIndex? 0 n = some 0 := (ixN_seq (n := n) (i := 0) (j := 0) (by unfold ixN; simp; omega)).1
theorem YS.word_track {S : YS} {b : Bool} {n : Int} (h : ¬ (0 ≤ n ∧ n < (S.tr.length : Int))) : S.word b n = .track := by unfold YS.word; rw [if_neg h]
theorem YS.word_in {S : YS} {n : Int} (h : 0 ≤ n ∧ n < (S.tr.length : Int)) : S.word true n = if S.q.length = 0 then .waiting else .done := by unfold YS.word; rw [if_pos h, if_pos rfl]
theorem YS.word_out {S : YS} {n : Int} (h : 0 ≤ n ∧ n < (S.tr.length : Int)) : S.word false n = if (S.tr.getD n.toNat []).length = 0 then .empty else .done := by unfold YS.word; rw [if_pos h, if_neg Bool.false_ne_true]
theorem At3.trk {H : Hp} {rk rq ro rd : Addr} {ts : List Addr} {S : YS} (a : At3 H rk rq ro rd ts S) {n : Int} (h : 0 ≤ n ∧ n < (S.tr.length : Int)) : ∃ t, ts[n.toNat]? = some t ∧ atI (ts.map V.ref) n = some (.ref t) ∧ H t = some (.lst ((S.tr.getD n.toNat []).map V.int)) := by
  have hl : n.toNat < ts.length := by rw [a.len]; omega
  have e : ts[n.toNat]? = some ts[n.toNat] := List.getElem?_eq_getElem hl
  refine ⟨ts[n.toNat], e, ?_, a.ht _ _ e⟩
  have en : n = ((n.toNat : Nat) : Int) := by omega
  have q : atI (ts.map V.ref) ((n.toNat : Nat) : Int) = some (.ref ts[n.toNat]) := atI_nat (by rw [List.getElem?_map, e]; rfl)
  rwa [← en] at q
theorem kS_at {ks : List Bool} {n : Int} (h : 0 ≤ n ∧ n < (ks.length : Int)) : atI (ks.map kS) n = some (kS (ks.getD n.toNat false)) := by
  have hl : n.toNat < ks.length := by omega
  have en : n = ((n.toNat : Nat) : Int) := by omega
  have q : atI (ks.map kS) ((n.toNat : Nat) : Int) = some (kS (ks.getD n.toNat false)) := atI_nat (by
    rw [List.getElem?_map, List.getD_eq_getElem?_getD, List.getElem?_eq_getElem hl]
    rfl)
  rwa [← en] at q
theorem kS_lane (b : Bool) : decide (kS b = V.str "lane") = b := by
  cases b
  · exact decide_eq_false (by decide +kernel)
  · exact decide_eq_true rfl
theorem kS_stub (b : Bool) : decide (kS b = V.str "stub") = !b := by
  cases b
  · exact decide_eq_true rfl
  · exact decide_eq_false (by decide +kernel)
theorem mem_ts {ts : List Addr} {n : Nat} {t rq rd : Addr} (h : ts[n]? = some t) : t ∈ rq :: rd :: ts := by simp [List.mem_of_getElem? h]
theorem tLst0_mono : ∀ σ H (Q Q' : VK), (∀ b H1, Q b H1 → Q' b H1) → tLst tNil σ H Q → tLst tNil σ H Q' := fun _ _ _ _ h q => ⟨q.1, fun p hp => h _ _ (q.2 p hp)⟩
theorem tYes_mono : ∀ σ H (Q Q' : Bool → Hp → Prop), (∀ b H1, Q b H1 → Q' b H1) → tYes σ H Q → tYes σ H Q' := fun _ _ _ _ h q => h _ _ q
/-- [[] for x in xs]: so many new empty lists in a new list -/
theorem comp_empties {K : PySem.W.Frag} {a : Addr} {xs : List V} {cp : List (Option Nat)} {k : Nat} {σ : St} {H : Hp} {Q : VK} (hq : SqL K H a xs) (hz : xs.length ≤ 1000)
    (hQ : ∀ (acc : Addr) (ts : List Addr) (H' : Hp), H acc = none → ts.length = xs.length → Same H H' → H' acc = some (.lst (ts.map V.ref)) → (∀ t ∈ ts, H t = none ∧ t ≠ acc ∧ H' t = some (.lst [])) → ts.Nodup → Q (.ref acc) H') :
    tCompBody cp (gName k) tYes (tLst tNil) (Itl K a) σ H Q := by
  refine comp_list_inv (fun acc i ys H' => ∃ ts : List Addr, ys = ts.map V.ref ∧ ts.length = i ∧ Same H H' ∧ (∀ t ∈ ts, H t = none ∧ t ≠ acc ∧ H' t = some (.lst [])) ∧ ts.Nodup) (small hz)
    (fun acc ha => ⟨[], rfl, rfl, same_new ha, fun t ht => absurd ht (by simp), List.nodup_nil⟩) (fun acc i ys H' _ _ _ ⟨_, _, _, s, _⟩ => s.seq hq) ?_ tYes_mono tLst0_mono ?_
  · rintro acc i x ys H' hx ha hy ⟨ts, rfl, hl, s, hts, nd⟩
    unfold tYes
    dsimp only
    rw [if_pos rfl]
    refine ⟨(by show 0 ≤ sizeLine; decide), fun p hp => ?_⟩
    have np : acc ≠ p := ne_of_none hy hp
    refine ⟨by rw [upd_ne np]; exact hy, ts ++ [p], by rw [List.map_append]; rfl, by rw [List.length_append, hl]; rfl, (s.put (s.free hp)).put ha, fun t ht => ?_, ?_⟩
    · rcases List.mem_append.mp ht with ht | ht
      · obtain ⟨h1, h2, h3⟩ := hts t ht
        refine ⟨h1, h2, ?_⟩
        rw [upd_ne h2, upd_ne (ne_of_none h3 hp)]
        exact h3
      · have e : t = p := by simpa using ht
        subst e
        refine ⟨s.free hp, np.symm, ?_⟩
        rw [upd_ne np.symm]
        exact upd_same
    · rw [List.nodup_append]
      refine ⟨nd, by simp, fun t ht u hu z => ?_⟩
      have e : u = p := by simpa using hu
      subst e
      subst z
      have := (hts t ht).2.2
      rw [hp] at this
      cases this
  · rintro acc ys H' ha hy _ ⟨ts, rfl, hl, s, hts, nd⟩
    exact hQ acc ts H' ha hl s hy hts nd
end LW

/-! MY OWN: what the yard laws' helpers promise -/
namespace LW
open PySem L2
def wayV (b : Bool) : V := .str (if b then "in" else "out")
theorem wayV_in (b : Bool) : decide (wayV b = V.str "in") = b := by
  cases b
  · exact decide_eq_false (by decide +kernel)
  · exact decide_eq_true rfl
def marksV : Wd → List V
  | .track => [.bl true, .bl false, .bl false, .bl false, .bl false]
  | .waiting => [.bl false, .bl true, .bl false, .bl false, .bl false]
  | .empty => [.bl false, .bl false, .bl true, .bl false, .bl false]
  | .done => []
def spWhole : Sp := fun vs H Q _ => ∃ i : Int, vs = [.int i] ∧ Q (.bl true) H
def spWagons (K : PySem.W.Frag) : Sp := fun vs H Q _ => ∃ (a : Addr) (xs : List Int), vs = [.ref a] ∧ H a = some (.lst (xs.map V.int)) ∧ Q (.bl true) H
def spSeen : Sp := fun vs H Q _ => ∃ (a b : Addr) (xs : List Int), vs = [.ref a, .ref b] ∧ H a = some (.lst (xs.map V.int)) ∧ H b = some (.lst (xs.map V.int)) ∧ xs.length ≤ 990 ∧ ∀ o, Q (.bl true) (upd H a o)
def spDeedOf : Sp := fun vs H Q _ => ∃ (c count : Int), vs = [.int c, .int count] ∧ 0 ≤ count ∧ count ≤ 1000 ∧ ∀ (d : Addr) (H' : Hp) (b : Bool) (n : Int), Same H H' → H d = none → H' d = some (.tup [wayV b, .int n]) → n.natAbs < 2 ^ 40 → Q (.ref d) H'
def spKinds (K : PySem.W.Frag) : Sp := fun vs H Q _ => ∃ (a : Addr) (ns : List Int), vs = [.ref a] ∧ SqL K H a (ns.map V.int) ∧ ∀ (r : Addr) (H' : Hp) (ks : List Bool), Same H H' → H r = none → H' r = some (.lst (ks.map kS)) → ks.length ≤ 60 → Q (.ref r) H'
def spTold (C : Addr) : Sp := fun vs H Q _ => ∃ (p rk rq ro rd d : Addr) (ts : List Addr) (S : YS) (b : Bool) (n : Int), vs = [.ref p, .ref d] ∧ YardAt C H p rk rq ro rd ts S ∧ H d = some (.tup [wayV b, .int n]) ∧ n.natAbs < 2 ^ 40 ∧ Sm S 900 ∧
  ∀ H', YardAt C H' p rk rq ro rd ts (S.next b n) → Chg H H' (rq :: rd :: ts) → Q (.str (S.word b n).s) H'
def spDue : Sp := fun vs H Q _ => ∃ (rk rq ro rd d : Addr) (ts : List Addr) (S : YS) (b : Bool) (n : Int), vs = [.ref rk, .ref rq, .ref ro, .ref rd, .ref d] ∧ At3 H rk rq ro rd ts S ∧ H d = some (.tup [wayV b, .int n]) ∧ Sm S 900 ∧
  ∀ H', At3 H' rk rq ro rd ts (S.next b n) → Chg H H' (rq :: rd :: ts) → Q (.str (S.word b n).s) H'
def spLook (C : Addr) : Sp := fun vs H Q _ => ∃ (p rk rq ro rd : Addr) (ts : List Addr) (S : YS) (n : Int), vs = [.ref p, .int n] ∧ YardAt C H p rk rq ro rd ts S ∧ n.natAbs < 2 ^ 40 ∧ ¬ (0 ≤ n ∧ n < (S.tr.length : Int)) ∧ Q (.bl true) H
theorem pickV2 {x y : V} {z : Int} (h : 0 ≤ z ∧ z < 2) : atI [x, y] z = some (if z = 0 then x else y) := by
  have : z = 0 ∨ z = 1 := by omega
  rcases this with rfl | rfl <;> rfl
theorem pick4 {x y u v z : Int} (h : 0 ≤ z ∧ z < 4) : ∃ m, atI [V.int x, V.int y, V.int u, V.int v] z = some (.int m) ∧ (m = x ∨ m = y ∨ m = u ∨ m = v) := by
  have : z = 0 ∨ z = 1 ∨ z = 2 ∨ z = 3 := by omega
  rcases this with rfl | rfl | rfl | rfl
  · exact ⟨x, rfl, .inl rfl⟩
  · exact ⟨y, rfl, .inr (.inl rfl)⟩
  · exact ⟨u, rfl, .inr (.inr (.inl rfl))⟩
  · exact ⟨v, rfl, .inr (.inr (.inr rfl))⟩
theorem YS.next_ks {S : YS} {b : Bool} {n : Int} : (S.next b n).ks = S.ks := by
  unfold YS.next YS.into YS.out
  split
  · split
    · rfl
    · split <;> rfl
  · rfl
theorem YS.next_len {S : YS} {b : Bool} {n : Int} : (S.next b n).tr.length = S.tr.length := by
  unfold YS.next YS.into YS.out
  split
  · split
    · exact List.length_set
    · split <;> exact List.length_set
  · rfl
theorem At3.mem {H : Hp} {rk rq ro rd : Addr} {ts : List Addr} {S : YS} (a : At3 H rk rq ro rd ts S) {b : Addr} (h : b ∈ rk :: rq :: ro :: rd :: ts) : ∃ xs, H b = some (.lst xs) := by
  simp only [List.mem_cons] at h
  rcases h with rfl | rfl | rfl | rfl | h
  · exact ⟨_, a.hk⟩
  · exact ⟨_, a.hq⟩
  · exact ⟨_, a.ho⟩
  · exact ⟨_, a.hd⟩
  · obtain ⟨i, hi⟩ := List.getElem?_of_mem h
    exact ⟨_, a.ht i b hi⟩
theorem At3.mem3 {rk rq ro rd b : Addr} {ts : List Addr} (h : b ∈ rq :: rd :: ts) : b ∈ rk :: rq :: ro :: rd :: ts := by
  simp only [List.mem_cons] at h ⊢
  rcases h with h | h | h
  · exact .inr (.inl h)
  · exact .inr (.inr (.inr (.inl h)))
  · exact .inr (.inr (.inr (.inr h)))
theorem YardAt.keeps {C : Addr} {H H' : Hp} {p rk rq ro rd : Addr} {ts l : List Addr} {S : YS} (y : YardAt C H p rk rq ro rd ts S) (s : Chg H H' l) (d : ∀ b ∈ rk :: rq :: ro :: rd :: ts, b ∉ l) (hl : ∀ b ∈ l, ∃ xs, H b = some (.lst xs)) : YardAt C H' p rk rq ro rd ts S := by
  obtain ⟨⟨dx, hob⟩, st⟩ := y
  refine ⟨⟨dx, s _ _ hob fun z => ?_⟩, st.chg s d⟩
  obtain ⟨xs, e⟩ := hl p z
  rw [hob] at e
  cases e
theorem YardAt.same {C : Addr} {H H' : Hp} {p rk rq ro rd : Addr} {ts : List Addr} {S : YS} (y : YardAt C H p rk rq ro rd ts S) (s : Same H H') : YardAt C H' p rk rq ro rd ts S := by
  obtain ⟨⟨dx, hob⟩, st⟩ := y
  exact ⟨⟨dx, s _ _ hob⟩, st.same s⟩
theorem dis_new {H : Hp} {A B : List Addr} (ha : ∀ b ∈ A, ∃ o, H b = some o) (hb : ∀ b ∈ B, H b = none) : ∀ b ∈ A, b ∉ B := fun b h z => by
  obtain ⟨o, e⟩ := ha b h
  rw [hb b z] at e
  cases e
end LW

/-! MY OWN: tuples compared, loops through which an exception passes, plans -/
namespace L2
open PySem PySem.Spec PyProof.Rows PySem.W
section
variable {X : Cx}
def rEqT (K : PySem.W.Frag) : R2 := fun x y H Q => ∃ a b xs ys, x = .ref a ∧ y = .ref b ∧ SqT K H a xs ∧ SqT K H b ys ∧ xs.length = ys.length ∧ (∀ (i : Nat) (u v : V), xs[i]? = some u → ys[i]? = some v → okPair u v) ∧ Q (.bl (decide (xs = ys))) H
theorem op_eqT (hu : X.A.units < cLine) : OpR X (compareOp .Eq) (rEqT X.K) := by
  intro pins s σ H x y v u Q I rx ry h
  obtain ⟨a, b, xs, ys, rfl, rfl, h1, h2, hl, hp, q⟩ := h
  cases rx
  cases ry
  obtain ⟨its, r1, p1, z1⟩ := I.tuple h1
  obtain ⟨its2, r2, p2, z2⟩ := I.tuple h2
  have l1 := r1.length
  have l2 := r2.length
  refine SeqAt.eq_tupleAt (show s.heap.IsTuple a its.toArray from p1) (show s.heap.IsTuple b its2.toArray from p2) hu (eqL_he r1 r2 hp) ⟨.bl _, H, I, rfl, ?_⟩
  have e : min its.toArray.size its2.toArray.size = xs.length := by rw [List.size_toArray, List.size_toArray]; omega
  have e2 : (its.toArray.size == its2.toArray.size) = true := by rw [List.size_toArray, List.size_toArray]; simp; omega
  rw [e, e2, Bool.and_true, all_dec xs ys hl]
  exact q
/-- a loop in a body that may raise -/
theorem ps_forX {tg iter : Expr} {body : List Stmt} {wi : TI} {g : TG} {tb : TS} {pos : Pos} (hp : ∀ pins σ H s, Inv X pins σ H s → PassesOwn (model X.prog X.w) X.A X.env X.xe) (hc : X.calm = true) (hi : PI X tg iter wi) (hg : PG X tg g) (hb : PSs X body tb)
    (hs : ∀ x, foldedSetIterable iter X.env x = pure x := by intro _; rfl) : PS X (.For tg iter body [] pos) (tFor wi g tb) := fun pins s σ H D I h => ps_for (hp _ _ _ _ I) hc hi hg hb hs pins s σ H D I h
end
section
variable {P : Program} {w : World} {K : PySem.W.Frag} {mg : Str → Option Value} {base : Heap} {N : List Str} {qual : Str} {scope : Scope} {f : Addr} {cd : Value} {A : Around} {outer : List Env} {s : Shared} {H : Hp} {E : XK}
theorem bodyX_ownI : ∀ pins σ H1 s1, Inv (bodyX FlyHeld P w K mg base N qual scope f cd A outer s H E) pins σ H1 s1 → PassesOwn (model P w) (bodyX FlyHeld P w K mg base N qual scope f cd A outer s H E).A (bodyX FlyHeld P w K mg base N qual scope f cd A outer s H E).env (bodyX FlyHeld P w K mg base N qual scope f cd A outer s H E).xe := by
  intro pins σ H1 s1 I
  have h1 : (A.deeper (envOfC qual scope s.heap.objs.size f cd)).frames = some (envOfC qual scope s.heap.objs.size f cd :: outer) := I.ok.frames
  have h2 : A.frames = some outer := by
    have h3 : A.frames.map (fun l => envOfC qual scope s.heap.objs.size f cd :: l) = some (envOfC qual scope s.heap.objs.size f cd :: outer) := h1
    cases e : A.frames with
    | none => rw [e] at h3; cases h3
    | some l => rw [e] at h3; injection h3 with h3; injection h3 with _ h4; rw [h4]
  exact bodyX_own h2 I.ok.funs I.ok.frf
end
end L2
namespace LW
open PySem L2
/-! ### plans -/
def go : YS → List (Bool × Int) → YS × Wd
  | S, [] => (S, .done)
  | S, d :: r => if S.word d.1 d.2 = .done then go (S.next d.1 d.2) r else (S, S.word d.1 d.2)
theorem go_nil (S : YS) : go S [] = (S, .done) := rfl
theorem go_snoc {d : Bool × Int} : ∀ {ds : List (Bool × Int)} {S : YS}, go S (ds ++ [d]) = if (go S ds).2 = .done then (if (go S ds).1.word d.1 d.2 = .done then ((go S ds).1.next d.1 d.2, .done) else ((go S ds).1, (go S ds).1.word d.1 d.2)) else go S ds
  | [], S => by
    show (if S.word d.1 d.2 = .done then (S.next d.1 d.2, Wd.done) else (S, S.word d.1 d.2)) = _
    rw [go_nil, if_pos rfl]
  | c :: r, S => by
    show (if S.word c.1 c.2 = .done then go (S.next c.1 c.2) (r ++ [d]) else (S, S.word c.1 c.2)) = _
    by_cases h : S.word c.1 c.2 = .done
    · have e : go S (c :: r) = go (S.next c.1 c.2) r := by rw [go, if_pos h]
      rw [if_pos h, go_snoc, e]
    · have e : go S (c :: r) = (S, S.word c.1 c.2) := by rw [go, if_neg h]
      rw [if_neg h, e, if_neg h]
theorem go_take {S : YS} {ds : List (Bool × Int)} {i : Nat} {d : Bool × Int} (h : ds[i]? = some d) (h1 : (go S (ds.take i)).2 = .done) : 
    go S (ds.take (i + 1)) = if (go S (ds.take i)).1.word d.1 d.2 = .done then ((go S (ds.take i)).1.next d.1 d.2, .done) else ((go S (ds.take i)).1, (go S (ds.take i)).1.word d.1 d.2) := by
  rw [List.take_add_one, h, Option.toList_some, go_snoc, if_pos h1]
/-- once refused, always refused -/
theorem go_stop {S : YS} {ds : List (Bool × Int)} {i : Nat} (h : (go S (ds.take i)).2 ≠ .done) : go S ds = go S (ds.take i) := by
  have key : ∀ (r l : List (Bool × Int)), (go S l).2 ≠ .done → go S (l ++ r) = go S l := by
    intro r
    induction r with
    | nil => intro l _; rw [List.append_nil]
    | cons d r ih =>
      intro l hl
      have e : go S (l ++ [d]) = go S l := by rw [go_snoc, if_neg hl]
      have := ih (l ++ [d]) (by rw [e]; exact hl)
      rw [List.append_assoc] at this
      rw [show l ++ d :: r = l ++ ([d] ++ r) from rfl, this, e]
  have := key (ds.drop i) (ds.take i) h
  rwa [List.take_append_drop] at this
structure PlanAt (H : Hp) (rs : List Addr) (ds : List (Bool × Int)) : Prop where
  len : rs.length = ds.length
  at_ : ∀ (i : Nat) (r : Addr) (d : Bool × Int), rs[i]? = some r → ds[i]? = some d → H r = some (.tup [wayV d.1, .int d.2])
  sm : ∀ d ∈ ds, d.2.natAbs < 2 ^ 40
theorem PlanAt.keeps {H H' : Hp} {rs : List Addr} {ds : List (Bool × Int)} (p : PlanAt H rs ds) (k : ∀ b xs, H b = some (.tup xs) → H' b = some (.tup xs)) : PlanAt H' rs ds := ⟨p.len, fun i r d h1 h2 => k _ _ (p.at_ i r d h1 h2), p.sm⟩
theorem PlanAt.same {H H' : Hp} {rs : List Addr} {ds : List (Bool × Int)} (p : PlanAt H rs ds) (s : Same H H') : PlanAt H' rs ds := p.keeps fun b xs e => s _ _ e
theorem PlanAt.snoc {H : Hp} {rs : List Addr} {ds : List (Bool × Int)} {r : Addr} {d : Bool × Int} (p : PlanAt H rs ds) (h : H r = some (.tup [wayV d.1, .int d.2])) (hs : d.2.natAbs < 2 ^ 40) : PlanAt H (rs ++ [r]) (ds ++ [d]) := by
  refine ⟨by rw [List.length_append, List.length_append, p.len]; rfl, fun i r' d' h1 h2 => ?_, fun d' hd => ?_⟩
  · by_cases hi : i < rs.length
    · rw [List.getElem?_append_left hi] at h1
      rw [List.getElem?_append_left (by rw [← p.len]; exact hi)] at h2
      exact p.at_ i r' d' h1 h2
    · rw [List.getElem?_append_right (by omega)] at h1
      rw [List.getElem?_append_right (by rw [← p.len]; omega)] at h2
      have e1 : i - rs.length = 0 := by
        have := (List.getElem?_eq_some_iff.mp h1).1
        simp at this
        omega
      rw [← p.len] at h2
      rw [e1] at h1 h2
      cases h1
      cases h2
      exact h
  · rcases List.mem_append.mp hd with z | z
    · exact p.sm d' z
    · rw [List.mem_singleton.mp z]; exact hs
def S0 (ks : List Bool) (row : List Int) : YS := ⟨ks, row, ks.map fun _ => [], []⟩
def spRun (C cT cW cE : Addr) : Sp := fun vs H Q E => ∃ (ak aq ap : Addr) (ks : List Bool) (row : List Int) (rs : List Addr) (ds : List (Bool × Int)), vs = [.ref ak, .ref aq, .ref ap] ∧ H ak = some (.lst (ks.map kS)) ∧ H aq = some (.lst (row.map V.int)) ∧ H ap = some (.lst (rs.map V.ref)) ∧ PlanAt H rs ds ∧
  ks.length ≤ 60 ∧ row.length ≤ 100 ∧ ds.length ≤ 200 ∧
  ((go (S0 ks row) ds).2 = .done → ∀ (r : Addr) (H' : Hp), Same H H' → H' r = some (.lst ((go (S0 ks row) ds).1.g.map V.int)) → Q (.ref r) H') ∧
  ((go (S0 ks row) ds).2 ≠ .done → ∀ H', Same H H' → E (.ref (cls3 cT cW cE (go (S0 ks row) ds).2)) none H')
theorem Sm.go {ds : List (Bool × Int)} : ∀ {S : YS} {m : Nat}, Sm S m → Sm (go S ds).1 (m + ds.length) := by
  induction ds with
  | nil => intro S m h; exact h
  | cons d r ih =>
    intro S m h
    show Sm (if S.word d.1 d.2 = .done then LW.go (S.next d.1 d.2) r else (S, S.word d.1 d.2)).1 _
    split
    · have := ih (h.next d.1 d.2)
      exact this.mono (by rw [List.length_cons]; omega)
    · exact h.mono (by omega)
/-- what the law's own yard knows of the plan so far -/
def Good (ks : List Bool) (row : List Int) (S : YS) (wd : Wd) (ds : List (Bool × Int)) : Prop := (go (S0 ks row) ds).2 = wd ∧ (wd = .done → (go (S0 ks row) ds).1 = S)
theorem wd_done (wd : Wd) : decide (V.str wd.s = V.str "done") = decide (wd = .done) := by
  cases wd <;> decide +kernel
theorem Good.more {ks : List Bool} {row : List Int} {S : YS} {wd : Wd} {ds : List (Bool × Int)} {d : Bool × Int} (g : Good ks row S wd ds) (h : wd ≠ .done) : Good ks row S wd (ds ++ [d]) := by
  obtain ⟨g1, _⟩ := g
  have e : go (S0 ks row) (ds ++ [d]) = go (S0 ks row) ds := by rw [go_snoc, if_neg (by rw [g1]; exact h)]
  exact ⟨by rw [e]; exact g1, fun z => absurd z h⟩
theorem Good.step {ks : List Bool} {row : List Int} {S : YS} {ds : List (Bool × Int)} {b : Bool} {n : Int} (g : Good ks row S .done ds) : Good ks row (S.next b n) (S.word b n) (ds ++ [(b, n)]) := by
  obtain ⟨g1, g2⟩ := g
  have g2' := g2 rfl
  unfold Good
  rw [go_snoc, if_pos g1, g2']
  by_cases h : S.word b n = .done
  · rw [if_pos h]
    exact ⟨h.symm, fun _ => rfl⟩
  · rw [if_neg h]
    exact ⟨rfl, fun z => absurd z h⟩
theorem YS.next_same {S : YS} {b : Bool} {n : Int} (h : S.word b n ≠ .done) : S.next b n = S := by unfold YS.next; rw [if_neg h]
def spPlan (K : PySem.W.Frag) : Sp := fun vs H Q _ => ∃ (a ak ar : Addr) (ns : List Int) (ks : List Bool) (row : List Int), vs = [.ref a, .ref ak, .ref ar] ∧ SqL K H a (ns.map V.int) ∧ ns.length ≤ 63 ∧ H ak = some (.lst (ks.map kS)) ∧ H ar = some (.lst (row.map V.int)) ∧ ks.length ≤ 60 ∧ row.length ≤ 100 ∧
  ∀ (m ap ad : Addr) (H' : Hp) (rs : List Addr) (ds : List (Bool × Int)), Same H H' → H' ap = some (.lst (rs.map V.ref)) → PlanAt H' rs ds → ds.length ≤ 100 →
    (((go (S0 ks row) ds).2 = .done ∧ H' m = some (.tup [.ref ap, .ref ad]) ∧ H' ad = some (.lst ((go (S0 ks row) ds).1.g.map V.int))) ∨ ((go (S0 ks row) ds).2 ≠ .done ∧ H' m = some (.tup [.ref ap, .str (go (S0 ks row) ds).2.s]))) → Q (.ref m) H'
def spAnswer : Sp := fun vs H Q _ => ∃ (ak aq ap : Addr) (ks : List Bool) (row : List Int) (rs : List Addr) (ds : List (Bool × Int)), vs = [.ref ak, .ref aq, .ref ap] ∧ H ak = some (.lst (ks.map kS)) ∧ H aq = some (.lst (row.map V.int)) ∧ H ap = some (.lst (rs.map V.ref)) ∧ PlanAt H rs ds ∧
  ks.length ≤ 60 ∧ row.length ≤ 100 ∧ ds.length ≤ 200 ∧
  ∀ (m r : Addr) (H' : Hp), Same H H' → (((go (S0 ks row) ds).2 = .done ∧ H' m = some (.tup [.str "left", .ref r]) ∧ H' r = some (.lst ((go (S0 ks row) ds).1.g.map V.int))) ∨ ((go (S0 ks row) ds).2 ≠ .done ∧ H' m = some (.tup [.str "refused", .str (go (S0 ks row) ds).2.s]))) → Q (.ref m) H'
def forBody : Stmt → List Stmt
  | .For _ _ b _ _ => b
  | _ => []
end LW

/-! MY OWN: sets of ints by their sizes, list.index -/
namespace L2
open PySem PySem.Spec PyProof.Rows PySem.W PySem.Calls
section
variable {X : Cx}
def setLen (ns : List Int) : Nat := (PyProof.Rows.firstMet (fun i => ns.getD i 0) ns.length).length
theorem firstMet_nodup {ns : List Int} (h : ns.Nodup) : ∀ i, i ≤ ns.length → (PyProof.Rows.firstMet (fun i => ns.getD i 0) i) = ns.take i
  | 0, _ => by rw [PyProof.Rows.firstMet_zero]; simp
  | i + 1, hi => by
    have ih := firstMet_nodup h i (by omega)
    rw [PyProof.Rows.firstMet_succ, ih]
    have hg : ns.getD i 0 = ns[i] := by rw [List.getD_eq_getElem?_getD, List.getElem?_eq_getElem (by omega)]; rfl
    unfold PyProof.Rows.step_dedup
    rw [if_neg, hg, List.take_add_one, List.getElem?_eq_getElem (by omega)]
    · rfl
    · intro z
      obtain ⟨x, hx, e⟩ := List.any_eq_true.mp z
      rw [hg] at e
      have e' : x = ns[i] := by simpa using e
      subst e'
      obtain ⟨j, hj, ej⟩ := List.getElem_of_mem hx
      rw [List.length_take] at hj
      rw [List.getElem_take] at ej
      have := (List.getElem_inj h).mp ej
      omega
theorem setLen_nodup {ns : List Int} (h : ns.Nodup) : setLen ns = ns.length := by
  unfold setLen
  rw [firstMet_nodup h _ (Nat.le_refl _), List.take_length]
theorem call_set_ints (hc : X.calm = true) : CallR X (.type "set") (fun xs H Q => ∃ (p : Addr) (ns : List Int), xs = [.ref p] ∧ SqL X.K H p (ns.map V.int) ∧ ns.length ≤ 1000 ∧ ∀ (l : Addr) (S : Int → Bool), H l = none → Q (.ref l) (upd H l (.set S (setLen ns)))) := by
  intro pins s σ H xs us Q I r h
  obtain ⟨p, ns, rfl, hq, hz1, q⟩ := h
  obtain ⟨u, rfl, ru⟩ := r.one
  cases ru
  obtain ⟨its, rv, pl, hz⟩ := I.list hq
  have hI := intsAre_of rv
  have hl : ns.length = its.length := by have := rv.length; rwa [List.length_map] at this
  refine call_set_list (ns := ns) (I.ok.hd hc) pl.isList (by simpa using hI) (by rw [List.size_toArray]; unfold scanBound; omega) fun h' tk hS kp => ?_
  have e1 : its.toArray.size = ns.length := by rw [List.size_toArray]; omega
  rw [e1] at hS
  refine ⟨.ref s.heap.objs.size, _, I.laid (t' := tk) (o := .set _ (setLen ns)) (fun b ob q => kp b ob (Heap.lt_size q) q) (Nat.le_refl _) hS, rfl, q _ _ (I.hok.fresh (Nat.le_refl _))⟩
theorem call_len_setS : CallR X (.builtin "len") (fun xs H Q => ∃ (p : Addr) (S : Int → Bool) (n : Nat), xs = [.ref p] ∧ H p = some (.set S n) ∧ Q (.int n) H) := by
  intro pins s σ H xs us Q I r h
  obtain ⟨p, S, n, rfl, hq, q⟩ := h
  obtain ⟨u, rfl, ru⟩ := r.one
  cases ru
  obtain ⟨o, es, ep, t, ho, hex, hd, _, _, hb, hf, hn⟩ : s.heap.SetOf (intKind X.prog X.w) p S n := I.hok p _ hq
  refine PySem.call_len_set ho hex hd hf ?_ ⟨.int n, H, I.tok _, ⟨s.toks + 1, by rw [hn]⟩, q⟩
  unfold scanBound at hb
  omega
def rIndexI : V → List V → Hp → VK → Prop := fun x vs H Q => ∃ (l : Addr) (ns : List Int) (k : Int) (j : Nat), x = .ref l ∧ vs = [.int k] ∧ H l = some (.lst (ns.map V.int)) ∧ ns[j]? = some k ∧ (∀ m, m < j → ns[m]? ≠ some k) ∧ Q (.int j) H
theorem flat_ints {ns : List Int} : (ns.map V.int).all flatV = true := by
  rw [List.all_map]
  exact List.all_eq_true.mpr fun _ _ => rfl
theorem mt_index : MtM X "list.index" rIndexI := by
  intro pins s σ H x vs v us Q I rx rv h
  obtain ⟨l, ns, k, j, rfl, rfl, hH, hj, hno, q⟩ := h
  cases rx
  obtain ⟨u, rfl, ru⟩ := rv.one
  obtain ⟨z, its, n, r, hl, e⟩ := I.lstM hH
  rw [List.length_map] at hl
  have hjl : j < its.length := by rw [← hl]; exact (List.getElem?_eq_some_iff.mp hj).1
  have hz : ns.length ≤ sizeLine := by rwa [List.length_map] at z
  have hsz := line63
  have val : ∀ m (hm : m < its.length), eqU (.int k) its[m] = decide (ns[m]? = some k) := fun m hm => by
    have e1 : (ns.map V.int)[m]? = some (.int (ns[m]'(by omega))) := by rw [List.getElem?_map, List.getElem?_eq_getElem (by omega)]; rfl
    obtain ⟨u', hu', ru'⟩ := r.get e1
    rw [List.getElem?_eq_getElem hm] at hu'
    cases hu'
    rw [eqU_of ru' rfl, List.getElem?_eq_getElem (by omega)]
    show (ns[m] == k) = _
    by_cases h : ns[m] = k
    · rw [h]; simp
    · rw [decide_eq_false (fun z => h (Option.some.inj z))]; simpa using h
  refine call_meets F.slot_list_index ⟨_, e, rfl⟩ F.entry_list_index (F.args_list_index_2 _ _) (SeqAt.list_indexAt l its.toArray n none #[] u (eqU (.int k)) j (by rw [List.size_toArray]; exact hjl) (by omega) ?_ ?_) ⟨e, fun w hw => mem_eqAt ru rfl r flat_ints w (by simpa using hw), ?_⟩
  · rw [List.getElem_toArray, val j hjl, decide_eq_true hj]
  · intro m hm hmj
    rw [List.size_toArray] at hm
    rw [List.getElem_toArray, val m hm, decide_eq_false (hno m hmj)]
  · exact ⟨.int _, H, I.tok _, ⟨_, rfl⟩, q⟩
end
end L2

/-! MY OWN: parts of rows, lists of rows; what the laws of stage 2 want of the program -/
namespace LW
open PySem L2

/-- is the first one what is left of the second when some are left out -/
def isSub : List Int → List Int → Bool
  | [], _ => true
  | _ :: _, [] => false
  | x :: xs, y :: ys => if x = y then isSub xs ys else isSub (x :: xs) ys
theorem isSub_nil (ys : List Int) : isSub [] ys = true := by unfold isSub; rfl
theorem isSub_end (x : Int) (xs : List Int) : isSub (x :: xs) [] = false := by unfold isSub; rfl
theorem isSub_hit (x : Int) (xs ys : List Int) : isSub (x :: xs) (x :: ys) = isSub xs ys := by
  rw [isSub, if_pos rfl]
theorem isSub_miss {x y : Int} (h : ¬ x = y) (xs ys : List Int) : isSub (x :: xs) (y :: ys) = isSub (x :: xs) ys := by
  rw [isSub, if_neg h]
theorem drop_at {xs : List Int} {k : Int} (h0 : 0 ≤ k) (h : k < (xs.length : Int)) : xs.drop k.toNat = cellZ xs k :: xs.drop (k + 1).toNat := by
  have hk : k.toNat < xs.length := by omega
  have et : (k + 1).toNat = k.toNat + 1 := by omega
  rw [et, List.drop_eq_getElem_cons hk]
  unfold cellZ
  rw [List.getElem?_eq_getElem hk]
  rfl
theorem drop_out {xs : List Int} {k : Int} (h : (xs.length : Int) ≤ k) : xs.drop k.toNat = [] := List.drop_eq_nil_of_le (by omega)
def spSub (K : PySem.W.Frag) : Sp := fun vs H Q _ => ∃ (a b : Addr) (zs ws : List Int), vs = [.ref a, .ref b] ∧ SqL K H a (zs.map V.int) ∧ SqL K H b (ws.map V.int) ∧ zs.length ≤ 1000 ∧ ws.length ≤ 1000 ∧ Q (.bl (isSub zs ws)) H
theorem get_map {xs : List Int} {i : Nat} {y : V} (h : (xs.map V.int)[i]? = some y) : i < xs.length ∧ y = .int (cellZ xs i) := by
  rw [List.getElem?_map] at h
  cases e : xs[i]? with
  | none => rw [e] at h; cases h
  | some z =>
    rw [e] at h
    refine ⟨(List.getElem?_eq_some_iff.mp e).1, ?_⟩
    unfold cellZ
    rw [Int.toNat_natCast, e]
    exact (Option.some.inj h).symm

structure BI2 (mg : Str → Option Value) : Prop where
  set : mg "set" = none
  tuple : mg "tuple" = none
  all : mg "all" = none
/-- a list of lists of ints -/
structure RowsAt (H : Hp) (ro : Addr) (rs : List Addr) (ps : List (List Int)) : Prop where
  ho : H ro = some (.lst (rs.map V.ref))
  len : rs.length = ps.length
  ht : ∀ (i : Nat) (r : Addr), rs[i]? = some r → H r = some (.lst ((ps.getD i []).map V.int))
theorem RowsAt.same {H H' : Hp} {ro : Addr} {rs : List Addr} {ps : List (List Int)} (a : RowsAt H ro rs ps) (s : Same H H') : RowsAt H' ro rs ps := ⟨s _ _ a.ho, a.len, fun i r e => s _ _ (a.ht i r e)⟩
/-- the i-th one -/
theorem RowsAt.at {H : Hp} {ro : Addr} {rs : List Addr} {ps : List (List Int)} (a : RowsAt H ro rs ps) {i : Nat} {y : V} (h : (rs.map V.ref)[i]? = some y) : ∃ r, y = .ref r ∧ rs[i]? = some r ∧ i < ps.length ∧ H r = some (.lst ((ps.getD i []).map V.int)) ∧ ps.getD i [] ∈ ps := by
  rw [List.getElem?_map] at h
  cases e : rs[i]? with
  | none => rw [e] at h; cases h
  | some r =>
    rw [e] at h
    have hi : i < ps.length := by rw [← a.len]; exact (List.getElem?_eq_some_iff.mp e).1
    refine ⟨r, (Option.some.inj h).symm, rfl, hi, a.ht i r e, ?_⟩
    rw [List.getD_eq_getElem?_getD, List.getElem?_eq_getElem hi]
    exact List.getElem_mem hi
theorem flat_take {ps : List (List Int)} {i : Nat} (h : i < ps.length) : (ps.take (i + 1)).flatten = (ps.take i).flatten ++ ps.getD i [] := by
  rw [List.take_add_one, List.getElem?_eq_getElem h, Option.toList_some, List.flatten_append, List.getD_eq_getElem?_getD, List.getElem?_eq_getElem h]
  simp
theorem flat_take_le {ps : List (List Int)} {i : Nat} : (ps.take i).flatten.length ≤ ps.flatten.length := by
  have := congrArg (fun l => l.flatten.length) (List.take_append_drop i ps)
  simp only [List.flatten_append, List.length_append] at this
  omega
theorem part_le {ps : List (List Int)} {p : List Int} (h : p ∈ ps) : p.length ≤ ps.flatten.length := by
  obtain ⟨i, hi, rfl⟩ := List.getElem_of_mem h
  have h1 := flat_take hi
  have h2 := flat_take_le (ps := ps) (i := i + 1)
  rw [h1, List.length_append, List.getD_eq_getElem?_getD, List.getElem?_eq_getElem hi] at h2
  exact Nat.le_trans (Nat.le_add_left _ _) h2
/-- parts of the row, none empty, apart -/
structure Apart (ps : List (List Int)) (row : List Int) : Prop where
  ne : ∀ p ∈ ps, p ≠ []
  sub : ∀ p ∈ ps, isSub p row = true
  nd : ps.flatten.Nodup
theorem isSub_mem : ∀ {xs ys : List Int}, isSub xs ys = true → ∀ x ∈ xs, x ∈ ys
  | [], _, _, x, hx => by cases hx
  | a :: xs, [], h, x, hx => by rw [isSub_end] at h; cases h
  | a :: xs, b :: ys, h, x, hx => by
    by_cases e : a = b
    · subst e
      rw [isSub_hit] at h
      rcases List.mem_cons.mp hx with rfl | hx
      · exact List.mem_cons_self
      · exact List.mem_cons_of_mem _ (isSub_mem h x hx)
    · rw [isSub_miss e] at h
      exact List.mem_cons_of_mem _ (isSub_mem h x hx)
theorem Apart.mem {ps : List (List Int)} {row : List Int} (a : Apart ps row) : ∀ x ∈ ps.flatten, x ∈ row := fun x hx => by
  obtain ⟨p, hp, hx⟩ := List.mem_flatten.mp hx
  exact isSub_mem (a.sub p hp) x hx
theorem nodup_len : ∀ {xs ys : List Int}, xs.Nodup → (∀ x ∈ xs, x ∈ ys) → xs.length ≤ ys.length
  | [], _, _, _ => Nat.zero_le _
  | a :: xs, ys, h, hs => by
    have ha := hs a List.mem_cons_self
    rw [List.nodup_cons] at h
    have := nodup_len (xs := xs) (ys := ys.erase a) h.2 fun x hx => by
      have hne : x ≠ a := fun z => h.1 (z ▸ hx)
      exact (List.mem_erase_of_ne hne).mpr (hs x (List.mem_cons_of_mem _ hx))
    rw [List.length_erase_of_mem ha] at this
    have h0 : 0 < ys.length := List.length_pos_iff.mpr fun z => by rw [z] at ha; cases ha
    rw [List.length_cons]
    omega
theorem Apart.le {ps : List (List Int)} {row : List Int} (a : Apart ps row) : ps.flatten.length ≤ row.length := nodup_len a.nd a.mem
theorem count_le {ps : List (List Int)} (h : ∀ p ∈ ps, p ≠ []) : ps.length ≤ ps.flatten.length := by
  induction ps with
  | nil => exact Nat.le_refl _
  | cons p ps ih =>
    have h1 := ih fun x hx => h x (List.mem_cons_of_mem _ hx)
    have h2 : 0 < p.length := List.length_pos_iff.mpr (h p List.mem_cons_self)
    rw [List.length_cons, List.flatten_cons, List.length_append]
    omega
def spApart (K : PySem.W.Frag) : Sp := fun vs H Q _ => ∃ (ro ar : Addr) (bound : Int) (rs : List Addr) (ps : List (List Int)) (row : List Int), vs = [.ref ro, .ref ar, .int bound] ∧ RowsAt H ro rs ps ∧ H ar = some (.lst (row.map V.int)) ∧ row.length ≤ 100 ∧ (ps.length : Int) ≤ bound ∧ Apart ps row ∧ ∀ H', Same H H' → Q (.bl true) H'
/-- what fewest tells -/
structure Fewest (row : List Int) (ps : List (List Int)) (wall : List Int) : Prop where
  ap : Apart ps row
  up : ∀ p ∈ ps, upB p = true
  all : ps.flatten.length = row.length
  wl : wall.length = ps.length
  wd : downB wall = true
  ws : isSub wall row = true
def spFewest : Sp := fun vs H Q _ => ∃ (a : Addr) (row : List Int), vs = [.ref a] ∧ H a = some (.lst (row.map V.int)) ∧ row.Nodup ∧ row.length ≤ 62 ∧ (∀ x ∈ row, 0 ≤ x ∧ x ≤ 1000000000000) ∧
  ∀ (t ro wl : Addr) (H' : Hp) (rs : List Addr) (ps : List (List Int)) (wall : List Int), Same H H' → H' t = some (.tup [.ref ro, .ref wl]) → RowsAt H' ro rs ps → H' wl = some (.lst (wall.map V.int)) → Fewest row ps wall → (∀ b ∈ ro :: wl :: rs, H b = none) → (ro :: wl :: rs).Nodup → Q (.ref t) H'
theorem wayV_out (b : Bool) : decide (wayV b = V.str "out") = !b := by
  cases b
  · exact decide_eq_true rfl
  · exact decide_eq_false (by decide +kernel)
theorem PlanAt.get {H : Hp} {rs : List Addr} {ds : List (Bool × Int)} (p : PlanAt H rs ds) {i : Nat} {y : V} (h : (rs.map V.ref)[i]? = some y) : ∃ (r : Addr) (b : Bool) (n : Int), y = .ref r ∧ H r = some (.tup [wayV b, .int n]) ∧ n.natAbs < 2 ^ 40 ∧ ds[i]? = some (b, n) := by
  rw [List.getElem?_map] at h
  cases e : rs[i]? with
  | none => rw [e] at h; cases h
  | some r =>
    rw [e] at h
    have hil : i < ds.length := by rw [← p.len]; exact (List.getElem?_eq_some_iff.mp e).1
    obtain ⟨⟨b, n⟩, hdi⟩ : ∃ d, ds[i]? = some d := ⟨_, List.getElem?_eq_getElem hil⟩
    exact ⟨r, b, n, (Option.some.inj h).symm, p.at_ i r _ e hdi, p.sm _ (List.mem_of_getElem? hdi), hdi⟩
theorem go_pre {S : YS} {ds : List (Bool × Int)} {i : Nat} (h : (go S ds).2 = .done) : (go S (ds.take i)).2 = .done := Decidable.byContradiction fun z => by
  rw [go_stop z] at h
  exact z h
def spDeeds : Sp := fun vs H Q _ => ∃ (ap : Addr) (rs : List Addr) (ds : List (Bool × Int)), vs = [.ref ap] ∧ H ap = some (.lst (rs.map V.ref)) ∧ PlanAt H rs ds ∧ Q (.bl true) H
def spRunL : Sp := fun vs H Q _ => ∃ (ak ar ap : Addr) (ks : List Bool) (row : List Int) (rs : List Addr) (ds : List (Bool × Int)), vs = [.ref ak, .ref ar, .ref ap] ∧ H ak = some (.lst (ks.map kS)) ∧ H ar = some (.lst (row.map V.int)) ∧ H ap = some (.lst (rs.map V.ref)) ∧ PlanAt H rs ds ∧
  ks.length ≤ 100 ∧ row.length ≤ 100 ∧ ds.length ≤ 200 ∧ (go (S0 ks row) ds).2 = .done ∧ ∀ (r : Addr) (H' : Hp), Same H H' → H' r = some (.lst ((go (S0 ks row) ds).1.g.map V.int)) → Q (.ref r) H'
/-- a new plain yard of the law's own -/
theorem at3_new {H Hf Hg : Hp} {ak aq ao ad : Addr} {us : List Addr} {ks : List Bool} {row : List Int} (hak : H ak = some (.lst (ks.map kS))) (eaq : H aq = none) (t1 : Same H Hf) (haq : Hf aq = some (.lst (row.map V.int))) (eao : Hf ao = none) (lus : us.length = ks.length)
    (sg : Same Hf Hg) (hao : Hg ao = some (.lst (us.map V.ref))) (hus : ∀ t ∈ us, Hf t = none ∧ t ≠ ao ∧ Hg t = some (.lst [])) (nd : us.Nodup) (ead : Hg ad = none) :
    At3 (upd Hg ad (.lst [])) ak aq ao ad us (S0 ks row) ∧ Same H (upd Hg ad (.lst [])) ∧ ∀ b ∈ aq :: ad :: us, H b = none := by
  have t3 := same_new (o := .lst []) ead
  have kf := t1 _ _ hak
  have nkq : ak ≠ aq := ne_of_none hak eaq
  have nko : ak ≠ ao := ne_of_none kf eao
  have nkd : ak ≠ ad := ne_of_none (sg _ _ kf) ead
  have nqo : aq ≠ ao := ne_of_none haq eao
  have nqd : aq ≠ ad := ne_of_none (sg _ _ haq) ead
  have nod : ao ≠ ad := ne_of_none hao ead
  have nt : ∀ t ∈ us, ak ≠ t ∧ aq ≠ t ∧ ao ≠ t ∧ ad ≠ t := fun t ht => ⟨ne_of_none kf (hus t ht).1, ne_of_none haq (hus t ht).1, (hus t ht).2.1.symm, (ne_of_none (hus t ht).2.2 ead).symm⟩
  refine ⟨⟨t3 _ _ (sg _ _ kf), t3 _ _ (sg _ _ haq), t3 _ _ hao, upd_same, ?_, ?_, fun i t e => ?_, ?_⟩, t1.trans (sg.trans t3), fun b hb => ?_⟩
  · show us.length = (ks.map fun _ => ([] : List Int)).length
    rw [lus, List.length_map]
  · show ks.length = (ks.map fun _ => ([] : List Int)).length
    rw [List.length_map]
  · show _ = some (HO.lst (((ks.map fun _ => ([] : List Int)).getD i []).map V.int))
    have e0 : (ks.map fun _ => ([] : List Int)).getD i [] = [] := by
      rw [List.getD_eq_getElem?_getD, List.getElem?_map]
      cases ks[i]? <;> rfl
    rw [e0]
    exact t3 _ _ (hus t (List.mem_of_getElem? e)).2.2
  · simp only [List.nodup_cons, List.mem_cons, not_or]
    exact ⟨⟨nkq, nko, nkd, fun z => (nt _ z).1 rfl⟩, ⟨nqo, nqd, fun z => (nt _ z).2.1 rfl⟩, ⟨nod, fun z => (nt _ z).2.2.1 rfl⟩, fun z => (nt _ z).2.2.2 rfl, nd⟩
  · rcases List.mem_cons.mp hb with rfl | hb
    · exact eaq
    rcases List.mem_cons.mp hb with rfl | hb
    · exact (t1.trans sg).free ead
    · exact t1.free (hus b hb).1
theorem sorted_eq : ∀ {xs ys : List Int}, xs.Perm ys → xs.Pairwise (· ≤ ·) → ys.Pairwise (· ≤ ·) → xs = ys
  | [], ys, p, _, _ => (List.nil_perm.mp p).symm
  | x :: xs, [], p, _, _ => absurd p.length_eq (by simp)
  | x :: xs, y :: ys, p, h1, h2 => by
    have h1' := List.pairwise_cons.mp h1
    have h2' := List.pairwise_cons.mp h2
    have e : x = y := by
      have hx : x ∈ y :: ys := p.mem_iff.mp List.mem_cons_self
      have hy : y ∈ x :: xs := p.mem_iff.mpr List.mem_cons_self
      have a : y ≤ x := by
        rcases List.mem_cons.mp hx with z | z
        · omega
        · exact h2'.1 x z
      have b : x ≤ y := by
        rcases List.mem_cons.mp hy with z | z
        · omega
        · exact h1'.1 y z
      omega
    subst e
    rw [sorted_eq (List.perm_cons x |>.mp p) h1'.2 h2'.2]
def Sorts (ks : List Bool) (row : List Int) (ds : List (Bool × Int)) : Prop := (go (S0 ks row) ds).2 = .done ∧ (go (S0 ks row) ds).1.g.Perm row ∧ (go (S0 ks row) ds).1.g.Pairwise (· ≤ ·)

/-! ### orders -/
theorem isSub_sublist : ∀ {xs ys : List Int}, isSub xs ys = true → xs.Sublist ys
  | [], ys, _ => List.nil_sublist ys
  | x :: xs, [], h => by rw [isSub_end] at h; cases h
  | x :: xs, y :: ys, h => by
    by_cases e : x = y
    · subst e
      rw [isSub_hit] at h
      exact (isSub_sublist h).cons₂ x
    · rw [isSub_miss e] at h
      exact (isSub_sublist h).cons y
theorem cellZ_get {xs : List Int} {i : Nat} (h : i < xs.length) : cellZ xs (i : Int) = xs[i] := by
  unfold cellZ
  rw [Int.toNat_natCast, List.getElem?_eq_getElem h]
  rfl
theorem upB_step {xs : List Int} (h : upB xs = true) (i : Nat) (hi : i + 1 < xs.length) : xs[i] < xs[i + 1] := by
  have := List.all_eq_true.mp h ((i : Int) + 1) (by
    unfold iota
    exact List.mem_map.mpr ⟨i, List.mem_range.mpr (by omega), by omega⟩)
  have := of_decide_eq_true this
  rw [show (i : Int) + 1 - 1 = (i : Int) by omega, cellZ_get (by omega), show (i : Int) + 1 = ((i + 1 : Nat) : Int) by omega, cellZ_get hi] at this
  exact this
theorem downB_step {xs : List Int} (h : downB xs = true) (i : Nat) (hi : i + 1 < xs.length) : xs[i + 1] < xs[i] := by
  have := List.all_eq_true.mp h ((i : Int) + 1) (by
    unfold iota
    exact List.mem_map.mpr ⟨i, List.mem_range.mpr (by omega), by omega⟩)
  have := of_decide_eq_true this
  rw [show (i : Int) + 1 - 1 = (i : Int) by omega, cellZ_get (by omega), show (i : Int) + 1 = ((i + 1 : Nat) : Int) by omega, cellZ_get hi] at this
  exact this
theorem upB_lt {xs : List Int} (h : upB xs = true) : xs.Pairwise (· < ·) := by
  rw [List.pairwise_iff_getElem]
  intro i j hi hj hij
  obtain ⟨k, rfl⟩ : ∃ k, j = i + 1 + k := ⟨j - (i + 1), by omega⟩
  induction k with
  | zero => exact upB_step h i hj
  | succ k ih => exact Int.lt_trans (ih (by omega) (by omega)) (upB_step h (i + 1 + k) hj)
theorem downB_gt {xs : List Int} (h : downB xs = true) : xs.Pairwise (· > ·) := by
  rw [List.pairwise_iff_getElem]
  intro i j hi hj hij
  obtain ⟨k, rfl⟩ : ∃ k, j = i + 1 + k := ⟨j - (i + 1), by omega⟩
  induction k with
  | zero => exact downB_step h i hj
  | succ k ih => exact Int.lt_trans (downB_step h (i + 1 + k) hj) (ih (by omega) (by omega))
theorem upB_of {xs : List Int} (h : xs.Pairwise (· < ·)) : upB xs = true := by
  unfold upB
  refine List.all_eq_true.mpr fun k hk => decide_eq_true ?_
  obtain ⟨i, hi, rfl⟩ := List.mem_map.mp hk
  have hi := List.mem_range.mp hi
  rw [show (1 : Int) + (i : Int) - 1 = (i : Int) by omega, cellZ_get (by omega), show (1 : Int) + (i : Int) = ((i + 1 : Nat) : Int) by omega, cellZ_get (by omega)]
  exact List.pairwise_iff_getElem.mp h i (i + 1) (by omega) (by omega) (by omega)
theorem downB_of {xs : List Int} (h : xs.Pairwise (· > ·)) : downB xs = true := by
  unfold downB
  refine List.all_eq_true.mpr fun k hk => decide_eq_true ?_
  obtain ⟨i, hi, rfl⟩ := List.mem_map.mp hk
  have hi := List.mem_range.mp hi
  rw [show (1 : Int) + (i : Int) - 1 = (i : Int) by omega, cellZ_get (by omega), show (1 : Int) + (i : Int) = ((i + 1 : Nat) : Int) by omega, cellZ_get (by omega)]
  exact List.pairwise_iff_getElem.mp h i (i + 1) (by omega) (by omega) (by omega)
theorem idx_pair {row : List Int} (h : row.Nodup) : row.Pairwise fun a b => row.idxOf a < row.idxOf b := by
  rw [List.pairwise_iff_getElem]
  intro i j hi hj hij
  rw [h.idxOf_getElem i hi, h.idxOf_getElem j hj]
  exact hij
theorem pair_mem {R : Int → Int → Prop} {l : List Int} (h : l.Pairwise R) {x y : Int} (hx : x ∈ l) (hy : y ∈ l) : x = y ∨ R x y ∨ R y x := by
  obtain ⟨i, hi, rfl⟩ := List.getElem_of_mem hx
  obtain ⟨j, hj, rfl⟩ := List.getElem_of_mem hy
  rcases Nat.lt_trichotomy i j with z | z | z
  · exact .inr (.inl (List.pairwise_iff_getElem.mp h i j hi hj z))
  · subst z; exact .inl rfl
  · exact .inr (.inr (List.pairwise_iff_getElem.mp h j i hj hi z))
/-- a rising part and a falling part of one row share at most one wagon -/
theorem one_shared {row p wall : List Int} (nd : row.Nodup) (hp : isSub p row = true) (up : upB p = true) (hw : isSub wall row = true) (dn : downB wall = true) {x y : Int} (x1 : x ∈ p) (y1 : y ∈ p) (x2 : x ∈ wall) (y2 : y ∈ wall) : x = y := by
  have a := pair_mem ((upB_lt up).imp₂ (fun _ _ h1 h2 => And.intro h1 h2) ((idx_pair nd).sublist (isSub_sublist hp))) x1 y1
  have b := pair_mem ((downB_gt dn).imp₂ (fun _ _ h1 h2 => And.intro h1 h2) ((idx_pair nd).sublist (isSub_sublist hw))) x2 y2
  rcases a with a | a | a
  · exact a
  · rcases b with b | b | b
    · exact b
    · omega
    · omega
  · rcases b with b | b | b
    · exact b
    · omega
    · omega
theorem Fewest.cover {row : List Int} {ps : List (List Int)} {wall : List Int} (nd : row.Nodup) (F : Fewest row ps wall) : ∀ x ∈ row, x ∈ ps.flatten := by
  intro x hx
  refine Decidable.byContradiction fun z => ?_
  have := nodup_len (xs := x :: ps.flatten) (ys := row) (List.nodup_cons.mpr ⟨z, F.ap.nd⟩) fun y hy => by
    rcases List.mem_cons.mp hy with rfl | hy
    · exact hx
    · exact F.ap.mem y hy
  rw [List.length_cons, F.all] at this
  omega
theorem wall_le {row : List Int} {ps : List (List Int)} {wall : List Int} (nd : row.Nodup) (hw : isSub wall row = true) (dn : downB wall = true) (hs : ∀ p ∈ ps, isSub p row = true) (hu : ∀ p ∈ ps, upB p = true) (hc : ∀ x ∈ wall, x ∈ ps.flatten) : wall.length ≤ ps.length := by
  have hf : ∀ x ∈ wall, ∃ i, i < ps.length ∧ x ∈ ps.getD i [] := fun x hx => by
    obtain ⟨p, hp, hxp⟩ := List.mem_flatten.mp (hc x hx)
    obtain ⟨i, hi, rfl⟩ := List.getElem_of_mem hp
    exact ⟨i, hi, by rw [List.getD_eq_getElem?_getD, List.getElem?_eq_getElem hi]; exact hxp⟩
  let g : Int → Nat := fun x => (List.range ps.length).findIdx fun i => decide (x ∈ ps.getD i [])
  have hg : ∀ x ∈ wall, g x < ps.length ∧ x ∈ ps.getD (g x) [] := fun x hx => by
    obtain ⟨i, hi, hxi⟩ := hf x hx
    have h1 : (List.range ps.length).findIdx (fun i => decide (x ∈ ps.getD i [])) < (List.range ps.length).length := List.findIdx_lt_length_of_exists ⟨i, List.mem_range.mpr hi, decide_eq_true hxi⟩
    have h2 := List.findIdx_getElem (w := h1)
    rw [List.getElem_range] at h2
    rw [List.length_range] at h1
    exact ⟨h1, of_decide_eq_true h2⟩
  have nw : wall.Nodup := nd.sublist (isSub_sublist hw)
  have ndm : (wall.map g).Nodup := by
    rw [List.nodup_iff_pairwise_ne] at nw ⊢
    rw [List.pairwise_map]
    refine List.Pairwise.imp_of_mem (fun {a b} ha hb hne e => ?_) nw
    obtain ⟨a1, a2⟩ := hg a ha
    obtain ⟨b1, b2⟩ := hg b hb
    rw [e] at a2
    have hm : ps.getD (g b) [] ∈ ps := by rw [List.getD_eq_getElem?_getD, List.getElem?_eq_getElem b1]; exact List.getElem_mem b1
    exact hne (one_shared nd (hs _ hm) (hu _ hm) hw dn a2 b2 ha hb)
  have := ndm.length_le_of_subset (l₂ := List.range ps.length) fun y hy => by
    obtain ⟨x, hx, rfl⟩ := List.mem_map.mp hy
    exact List.mem_range.mpr (hg x hx).1
  rw [List.length_map, List.length_range] at this
  exact this
theorem Fewest.unique {row : List Int} {ps ps' : List (List Int)} {wall wall' : List Int} (nd : row.Nodup) (F : Fewest row ps wall) (F' : Fewest row ps' wall') : ps.length = ps'.length := by
  have a := wall_le nd F.ws F.wd F'.ap.sub F'.up fun x hx => F'.cover nd x (isSub_mem F.ws x hx)
  have b := wall_le nd F'.ws F'.wd F.ap.sub F.up fun x hx => F.cover nd x (isSub_mem F'.ws x hx)
  have := F.wl
  have := F'.wl
  omega
def spLanePlan : Sp := fun vs H Q _ => ∃ (a : Addr) (row : List Int), vs = [.ref a] ∧ H a = some (.lst (row.map V.int)) ∧ row.Nodup ∧ row.length ≤ 62 ∧ (∀ x ∈ row, 0 ≤ x ∧ x ≤ 1000000000000) ∧
  ∀ (ap : Addr) (H' : Hp) (rs : List Addr) (ds : List (Bool × Int)) (ps : List (List Int)) (wall : List Int), Same H H' → H' ap = some (.lst (rs.map V.ref)) → PlanAt H' rs ds → ds.length ≤ 200 → Fewest row ps wall → Sorts (List.replicate ps.length true) row ds → Q (.ref ap) H'
end LW

/-! MY OWN: lists of tuples compared; wagons that cross -/
namespace L2
open PySem PySem.Spec PyProof.Rows PySem.W
section
variable {X : Cx}
/-- two lists of tuples, alike item by item -/
def rEqLT (K : PySem.W.Frag) : R2 := fun x y H Q => ∃ (a b : Addr) (rs rs' : List Addr), x = .ref a ∧ y = .ref b ∧ SqL K H a (rs.map V.ref) ∧ SqL K H b (rs'.map V.ref) ∧ rs.length = rs'.length ∧
  (∀ (i : Nat) (r r' : Addr), rs[i]? = some r → rs'[i]? = some r' → ∃ xs, SqT K H r xs ∧ SqT K H r' xs ∧ ∀ u ∈ xs, okPair u u) ∧ Q (.bl true) H
theorem op_eqLT (hu : X.A.units + 1 < cLine) : OpR X (compareOp .Eq) (rEqLT X.K) := by
  intro pins s σ H x y v u Q I rx ry h
  obtain ⟨a, b, rs, rs', rfl, rfl, h1, h2, hl, hp, q⟩ := h
  cases rx
  cases ry
  obtain ⟨its, r1, p1, z1⟩ := I.list h1
  obtain ⟨its2, r2, p2, z2⟩ := I.list h2
  have l1 := r1.length
  have l2 := r2.length
  rw [List.length_map] at l1 l2
  refine SeqAt.eq_listAt (e := fun _ => true) p1.isList p2.isList (by rw [List.size_toArray, List.size_toArray]; omega) (by omega) (fun j g1 g2 => ?_) ⟨.bl _, H, I, rfl, ?_⟩
  · rw [List.size_toArray] at g1 g2
    have e1 : (rs.map V.ref)[j]? = some (.ref (rs[j]'(by omega))) := by rw [List.getElem?_map, List.getElem?_eq_getElem (by omega)]; rfl
    have e2 : (rs'.map V.ref)[j]? = some (.ref (rs'[j]'(by omega))) := by rw [List.getElem?_map, List.getElem?_eq_getElem (by omega)]; rfl
    obtain ⟨u1, hu1, ru1⟩ := r1.get e1
    obtain ⟨u2, hu2, ru2⟩ := r2.get e2
    rw [List.getElem?_eq_getElem g1] at hu1
    rw [List.getElem?_eq_getElem g2] at hu2
    cases ru1
    cases ru2
    rw [List.getElem_toArray, List.getElem_toArray, Option.some.inj hu1, Option.some.inj hu2]
    obtain ⟨xs, t1, t2, ok⟩ := hp j _ _ (List.getElem?_eq_getElem (by omega)) (List.getElem?_eq_getElem (by omega))
    by_cases hne : rs[j] = rs'[j]
    · rw [hne]; exact SeqAt.EqAt.same _
    · obtain ⟨i1, v1, q1, _⟩ := I.tuple t1
      obtain ⟨i2, v2, q2, _⟩ := I.tuple t2
      have m1 := v1.length
      have m2 := v2.length
      have := SeqAt.RcAt.tuples (A := X.A.in1) (e := fun j => decide (xs[j]? = xs[j]?)) (show s.heap.IsTuple rs[j] i1.toArray from q1) (show s.heap.IsTuple rs'[j] i2.toArray from q2) (by show X.A.units + 1 < cLine; exact hu) (eqL_he v1 v2 fun i u v w1 w2 => by
        rw [w1] at w2
        cases w2
        exact ok u (List.mem_of_getElem? w1))
      refine SeqAt.EqAt.of_refs hne ?_
      have e : ((List.range (min i1.toArray.size i2.toArray.size)).all (fun j => decide (xs[j]? = xs[j]?)) && i1.toArray.size == i2.toArray.size) = true := by
        rw [List.size_toArray, List.size_toArray, ← m1, ← m2]
        simp
      rwa [e] at this
  · have : (List.range its.toArray.size).all (fun _ => true) = true := by simp
    rw [this]
    exact q
end
theorem FnOk.ex {ι : Type} {P : Program} {w : World} {K : PySem.W.Frag} {mg : Str → Option Value} {base : Heap} {CX : CXT} {k : Nat} {f : Addr} {fd : FuncData} {ps : List Str} {sp : ι → Sp} {C : ι → Prop} (h : ∀ i, C i → FnOk P w K mg base CX k f fd ps (sp i)) :
    FnOk P w K mg base CX k f fd ps (fun vs H Q E => ∃ i, C i ∧ sp i vs H Q E) :=
  ⟨fun vs H Q E ⟨i, c, x⟩ => (h i c).len vs H Q E x, fun A outer s H args us vs Q E hr e b v ⟨i, c, x⟩ => (h i c).run A outer s H args us vs Q E hr e b v x⟩
end L2
namespace LW
open PySem L2
theorem small4000 {n : Nat} (h : n ≤ 4000) : n < sizeLine := Nat.lt_of_le_of_lt h (by decide)
/-- a row, of whichever bound -/
def spRowA (K : PySem.W.Frag) : Sp := fun vs H Q E => ∃ B : Nat, (8 ≤ B ∧ B ≤ 62) ∧ spRow K B vs H Q E
/-- does the wagon at j cross the one at k (k ahead)? -/
def crossB (row : List Int) (k j : Nat) : Bool := decide (row.getD k 0 < row.getD j 0) && ((row.drop (j + 1)).any fun x => decide (x < row.getD k 0))
def crossK (row : List Int) (k : Nat) (n : Nat) : List (Int × Int) := ((List.range n).filter fun i => crossB row k (k + 1 + i)).map fun i => (row.getD k 0, row.getD (k + 1 + i) 0)
def crossZ (row : List Int) : List (Int × Int) := ((List.range row.length).map fun k => crossK row k (row.length - (k + 1))).flatten
structure PairsAt (H : Hp) (rs : List Addr) (ps : List (Int × Int)) : Prop where
  len : rs.length = ps.length
  at_ : ∀ (i : Nat) (r : Addr), rs[i]? = some r → H r = some (.tup [.int (ps.getD i (0, 0)).1, .int (ps.getD i (0, 0)).2])
theorem PairsAt.same {H H' : Hp} {rs : List Addr} {ps : List (Int × Int)} (p : PairsAt H rs ps) (s : Same H H') : PairsAt H' rs ps := ⟨p.len, fun i r e => s _ _ (p.at_ i r e)⟩
theorem PairsAt.keeps {H H' : Hp} {rs : List Addr} {ps : List (Int × Int)} (p : PairsAt H rs ps) (k : ∀ b xs, H b = some (.tup xs) → H' b = some (.tup xs)) : PairsAt H' rs ps := ⟨p.len, fun i r e => k _ _ (p.at_ i r e)⟩
theorem PairsAt.snoc {H : Hp} {rs : List Addr} {ps : List (Int × Int)} {r : Addr} {x y : Int} (p : PairsAt H rs ps) (h : H r = some (.tup [.int x, .int y])) : PairsAt H (rs ++ [r]) (ps ++ [(x, y)]) := by
  refine ⟨by rw [List.length_append, List.length_append, p.len]; rfl, fun i r' h1 => ?_⟩
  by_cases hi : i < rs.length
  · rw [List.getElem?_append_left hi] at h1
    have : (ps ++ [(x, y)]).getD i (0, 0) = ps.getD i (0, 0) := by rw [List.getD_eq_getElem?_getD, List.getD_eq_getElem?_getD, List.getElem?_append_left (by rw [← p.len]; exact hi)]
    rw [this]
    exact p.at_ i r' h1
  · rw [List.getElem?_append_right (by omega)] at h1
    have e1 : i - rs.length = 0 := by
      have := (List.getElem?_eq_some_iff.mp h1).1
      simp at this
      omega
    rw [e1] at h1
    cases h1
    have : (ps ++ [(x, y)]).getD i (0, 0) = (x, y) := by rw [List.getD_eq_getElem?_getD, List.getElem?_append_right (by rw [← p.len]; omega), ← p.len, e1]; rfl
    rw [this]
    exact h
theorem PairsAt.get {H : Hp} {rs : List Addr} {ps : List (Int × Int)} (p : PairsAt H rs ps) {i : Nat} {y : V} (h : (rs.map V.ref)[i]? = some y) : ∃ (r : Addr) (u v : Int), y = .ref r ∧ H r = some (.tup [.int u, .int v]) := by
  rw [List.getElem?_map] at h
  cases e : rs[i]? with
  | none => rw [e] at h; cases h
  | some r => rw [e] at h; exact ⟨r, _, _, (Option.some.inj h).symm, p.at_ i r e⟩
def spCrossing : Sp := fun vs H Q _ => ∃ (a : Addr) (row : List Int), vs = [.ref a] ∧ H a = some (.lst (row.map V.int)) ∧ row.Nodup ∧ row.length ≤ 62 ∧ (∀ x ∈ row, 0 ≤ x ∧ x ≤ 1000000000000) ∧
  ∀ (l : Addr) (H' : Hp) (rs : List Addr), Same H H' → H' l = some (.lst (rs.map V.ref)) → PairsAt H' rs (crossZ row) → Q (.ref l) H'
def spCrossDue : Sp := fun vs H Q _ => ∃ (a : Addr) (row : List Int), vs = [.ref a] ∧ H a = some (.lst (row.map V.int)) ∧ row.length ≤ 62 ∧ (∀ x ∈ row, 0 ≤ x ∧ x ≤ 1000000000000) ∧
  ∀ (l : Addr) (H' : Hp) (rs : List Addr), Same H H' → H' l = some (.lst (rs.map V.ref)) → PairsAt H' rs (crossZ row) → Q (.ref l) H'
theorem crossK_succ (row : List Int) (k n : Nat) : crossK row k (n + 1) = crossK row k n ++ (if crossB row k (k + 1 + n) then [(row.getD k 0, row.getD (k + 1 + n) 0)] else []) := by
  unfold crossK
  rw [List.range_succ, List.filter_append, List.map_append]
  congr 1
  rw [List.filter_cons]
  split <;> rfl
theorem crossZ_take (row : List Int) (k : Nat) : ((List.range (k + 1)).map fun k => crossK row k (row.length - (k + 1))).flatten = ((List.range k).map fun k => crossK row k (row.length - (k + 1))).flatten ++ crossK row k (row.length - (k + 1)) := by
  rw [List.range_succ, List.map_append, List.flatten_append]
  simp
theorem crossK_len (row : List Int) (k n : Nat) : (crossK row k n).length ≤ n := by
  unfold crossK
  rw [List.length_map]
  exact Nat.le_trans (List.length_filter_le _ _) (by rw [List.length_range]; exact Nat.le_refl _)
/-- the least of what stands behind, with an end -/
def leastZ (m : Int) : List Int → Int
  | [] => m
  | x :: xs => if x < leastZ m xs then x else leastZ m xs
theorem leastZ_lt {m y : Int} (hm : ¬ m < y) : ∀ xs : List Int, decide (leastZ m xs < y) = xs.any fun x => decide (x < y)
  | [] => decide_eq_false hm
  | x :: xs => by
    have ih := leastZ_lt hm xs
    rw [List.any_cons, ← ih]
    show decide ((if x < leastZ m xs then x else leastZ m xs) < y) = _
    by_cases h1 : x < leastZ m xs
    · rw [if_pos h1]
      by_cases h2 : x < y
      · rw [decide_eq_true h2]; rfl
      · rw [decide_eq_false h2, decide_eq_false (by omega)]; rfl
    · rw [if_neg h1]
      by_cases h2 : x < y
      · rw [decide_eq_true h2, decide_eq_true (by omega)]; rfl
      · rw [decide_eq_false h2]; simp
/-- what most tells -/
structure Most (row : List Int) (lanes : Int) (ps qs : List (List Int)) : Prop where
  ap : Apart ps row
  up : ∀ p ∈ ps, upB p = true
  ln : (ps.length : Int) ≤ lanes
  aq : Apart qs row
  dn : ∀ p ∈ qs, downB p = true
  cnt : (ps.flatten.length : Int) = lanes * qs.length + ((row.length : Int) - qs.flatten.length)
def spMost : Sp := fun vs H Q _ => ∃ (a : Addr) (row : List Int) (lanes : Int), vs = [.ref a, .int lanes] ∧ H a = some (.lst (row.map V.int)) ∧ row.Nodup ∧ row.length ≤ 30 ∧ (∀ x ∈ row, 0 ≤ x ∧ x ≤ 1000000000000) ∧ 0 ≤ lanes ∧ lanes ≤ 60 ∧
  ∀ (t ro wo : Addr) (H' : Hp) (rs ws : List Addr) (ps qs : List (List Int)), Same H H' → H' t = some (.tup [.ref ro, .ref wo]) → RowsAt H' ro rs ps → RowsAt H' wo ws qs → Most row lanes ps qs → Q (.ref t) H'
end LW

/-! MY OWN: rising rows and walls, counted against each other -/
namespace LW
open PySem L2
theorem isSub_of : ∀ {ys xs : List Int}, xs.Sublist ys → isSub xs ys = true
  | [], xs, h => by
    have : xs = [] := List.sublist_nil.mp h
    rw [this]
    exact isSub_nil _
  | y :: ys, [], h => isSub_nil _
  | y :: ys, x :: xs, h => by
    by_cases e : x = y
    · subst e
      rw [isSub_hit]
      cases h with
      | cons _ h => exact isSub_of ((List.sublist_cons_self x xs).trans h)
      | cons_cons _ h => exact isSub_of h
    · rw [isSub_miss e]
      cases h with
      | cons _ h => exact isSub_of h
      | cons_cons _ h => exact absurd rfl e
theorem sum_le {α : Type} {l : List α} {f : α → Nat} {m : Nat} (h : ∀ x ∈ l, f x ≤ m) : (l.map f).sum ≤ m * l.length := by
  induction l with
  | nil => exact Nat.le_refl _
  | cons x l ih =>
    have h1 := h x List.mem_cons_self
    have h2 := ih fun y hy => h y (List.mem_cons_of_mem _ hy)
    rw [List.map_cons, List.sum_cons, List.length_cons, Nat.mul_succ]
    omega
theorem flat_filter {qs : List (List Int)} {p : Int → Bool} : (qs.flatten.filter p).length = (qs.map fun q => (q.filter p).length).sum := by
  induction qs with
  | nil => rfl
  | cons q qs ih => rw [List.flatten_cons, List.filter_append, List.length_append, ih, List.map_cons, List.sum_cons]
theorem split_len {l : List Int} {p : Int → Bool} : l.length = (l.filter p).length + (l.filter fun x => !p x).length := by
  induction l with
  | nil => rfl
  | cons x l ih =>
    rw [List.filter_cons, List.filter_cons]
    cases h : p x <;> simp <;> omega
/-- no rising rows, so many, hold more than the walls let -/
theorem weak {row : List Int} {ps qs : List (List Int)} (nd : row.Nodup) (ap : Apart ps row) (up : ∀ p ∈ ps, upB p = true) (aq : Apart qs row) (dn : ∀ q ∈ qs, downB q = true) : ps.flatten.length + qs.flatten.length ≤ ps.length * qs.length + row.length := by
  have h1 := split_len (l := ps.flatten) (p := fun x => decide (x ∈ qs.flatten))
  -- in a wall
  have h2 : (ps.flatten.filter fun x => decide (x ∈ qs.flatten)).length ≤ (qs.flatten.filter fun x => decide (x ∈ ps.flatten)).length := nodup_len (ap.nd.filter _) fun x hx => by
    rw [List.mem_filter] at hx ⊢
    exact ⟨of_decide_eq_true hx.2, decide_eq_true hx.1⟩
  have h3 : (qs.flatten.filter fun x => decide (x ∈ ps.flatten)).length ≤ ps.length * qs.length := by
    rw [flat_filter]
    refine sum_le fun q hq => ?_
    refine wall_le nd (isSub_of ((List.filter_sublist).trans (isSub_sublist (aq.sub q hq)))) (downB_of ((downB_gt (dn q hq)).sublist List.filter_sublist)) ap.sub up fun x hx => ?_
    exact of_decide_eq_true (List.mem_filter.mp hx).2
  -- in none
  have h4 : ((ps.flatten.filter fun x => !decide (x ∈ qs.flatten)) ++ qs.flatten).length ≤ row.length := nodup_len (by
    rw [List.nodup_append]
    refine ⟨ap.nd.filter _, aq.nd, fun x hx y hy e => ?_⟩
    subst e
    have := (List.mem_filter.mp hx).2
    simp only [Bool.not_eq_true', decide_eq_false_iff_not] at this
    exact this hy) fun x hx => by
    rcases List.mem_append.mp hx with z | z
    · exact ap.mem x (List.mem_filter.mp z).1
    · exact aq.mem x z
  rw [List.length_append] at h4
  omega
theorem Most.le {row : List Int} {lanes : Int} {ps qs ps' qs' : List (List Int)} (nd : row.Nodup) (M : Most row lanes ps qs) (M' : Most row lanes ps' qs') : ps.flatten.length ≤ ps'.flatten.length := by
  have h := weak nd M.ap M.up M'.aq M'.dn
  have h1 : ((ps.length * qs'.length : Nat) : Int) ≤ lanes * qs'.length := by
    rw [Int.natCast_mul]
    exact Int.mul_le_mul_of_nonneg_right M.ln (by omega)
  have h2 := M'.cnt
  omega
theorem Most.unique {row : List Int} {lanes : Int} {ps qs ps' qs' : List (List Int)} (nd : row.Nodup) (M : Most row lanes ps qs) (M' : Most row lanes ps' qs') : ps.flatten.length = ps'.flatten.length := Nat.le_antisymm (M.le nd M') (M'.le nd M)
/-- with as many lanes as there are rows of fewest all is held -/
theorem Most.full {row : List Int} {ps qs rs : List (List Int)} {wall : List Int} (nd : row.Nodup) (F : Fewest row rs wall) (M : Most row (rs.length : Int) ps qs) : ps.flatten.length = row.length := by
  have h1 : (qs.flatten.filter fun _ => true).length ≤ rs.length * qs.length := by
    rw [flat_filter]
    refine sum_le fun q hq => ?_
    have := wall_le nd (M.aq.sub q hq) (M.dn q hq) F.ap.sub F.up fun x hx => F.cover nd x (isSub_mem (M.aq.sub q hq) x hx)
    rw [filt_true]
    exact this
  rw [filt_true] at h1
  have h2 := M.cnt
  have h3 := M.ap.le
  have h4 : ((rs.length * qs.length : Nat) : Int) = (rs.length : Int) * qs.length := Int.natCast_mul _ _
  omega
/-- with one less not -/
theorem Most.fewer {row : List Int} {ps qs rs : List (List Int)} {wall : List Int} {lanes : Int} (nd : row.Nodup) (F : Fewest row rs wall) (h : lanes < (rs.length : Int)) (M : Most row lanes ps qs) : ps.flatten.length < row.length := by
  refine Decidable.byContradiction fun z => ?_
  have hall : ∀ x ∈ row, x ∈ ps.flatten := fun x hx => Decidable.byContradiction fun zx => by
    have := nodup_len (xs := x :: ps.flatten) (ys := row) (List.nodup_cons.mpr ⟨zx, M.ap.nd⟩) fun y hy => by
      rcases List.mem_cons.mp hy with rfl | hy
      · exact hx
      · exact M.ap.mem y hy
    rw [List.length_cons] at this
    omega
  have := wall_le nd F.ws F.wd M.ap.sub M.up fun x hx => hall x (isSub_mem F.ws x hx)
  have := F.wl
  have := M.ln
  omega
def spHeld : Sp := fun vs H Q _ => ∃ (a : Addr) (row : List Int) (lanes : Int), vs = [.ref a, .int lanes] ∧ H a = some (.lst (row.map V.int)) ∧ row.Nodup ∧ row.length ≤ 30 ∧ (∀ x ∈ row, 0 ≤ x ∧ x ≤ 1000000000000) ∧ 0 ≤ lanes ∧ lanes ≤ 60 ∧
  ∀ (H' : Hp) (ps qs : List (List Int)), Same H H' → Most row lanes ps qs → Q (.int (ps.flatten.length : Nat)) H'
end LW

/-! MY OWN: all of a list of booleans -/
namespace L2
open PySem PySem.Spec PyProof.Rows PySem.W PySem.Calls
section
variable {X : Cx}
theorem range_all_bl (bs : List Bool) : ((List.range bs.length).all fun i => (bs[i]?).getD true) = bs.all id := by
  rw [Bool.eq_iff_iff, List.all_eq_true, List.all_eq_true]
  constructor
  · intro h x hx
    obtain ⟨i, hi, rfl⟩ := List.getElem_of_mem hx
    have := h i (List.mem_range.mpr hi)
    rw [List.getElem?_eq_getElem hi] at this
    exact this
  · intro h i hi
    have hi := List.mem_range.mp hi
    rw [List.getElem?_eq_getElem hi]
    exact h _ (List.getElem_mem hi)
theorem call_all_bools (hc : X.calm = true) : CallR X (.builtin "all") (fun xs H Q => ∃ (p : Addr) (bs : List Bool), xs = [.ref p] ∧ SqL X.K H p (bs.map V.bl) ∧ Q (.bl (bs.all id)) H) := by
  intro pins s σ H xs us Q I r h
  obtain ⟨p, bs, rfl, hq, q⟩ := h
  obtain ⟨u, rfl, ru⟩ := r.one
  cases ru
  obtain ⟨its, rv, pl, hz⟩ := I.list hq
  have hl : bs.length = its.length := by have := rv.length; rwa [List.length_map] at this
  have hli := pl.isList
  have hlt : p < s.heap.objs.size := by obtain ⟨_, e, _⟩ := hli; exact Heap.lt_size e
  refine call_all_walk (wpAny_pyIter_list hli ?_)
  refine ⟨s.heap.objs.size, [s.heap.objs.size, p], [s.heap.objs.size], its.toArray.size, _, _, fun i => (bs[i]?).getD true, rfl, Walks.list (A := X.A.in1) (I.ok.hd hc) _ p (Nat.ne_of_lt hlt) its.toArray,
    ⟨⟨_, Heap.get?_push_size _ rfl, rfl, rfl⟩, hli.push _⟩, fun i v s' Q' E' hP hQ => ?_, fun h' tk hk => ?_⟩
  · have hP' : its[i]? = some v := by simpa using hP
    have hi : i < bs.length := by rw [hl]; exact (List.getElem?_eq_some_iff.mp hP').1
    have e1 : (bs.map V.bl)[i]? = some (.bl bs[i]) := by rw [List.getElem?_map, List.getElem?_eq_getElem hi]; rfl
    obtain ⟨u', hu', ru'⟩ := rv.get e1
    rw [hP'] at hu'
    cases hu'
    cases ru'
    simp only [List.getElem?_eq_getElem hi, Option.getD_some] at hQ
    exact wpAny_truthy_bool hQ
  · have e : ((List.range its.toArray.size).all fun i => (bs[i]?).getD true) = bs.all id := by
      rw [List.size_toArray, ← hl]; exact range_all_bl bs
    rw [e]
    exact ⟨.bl _, H, I.kept (t' := tk) (fun b x e => hk b x (fun hm => by rw [List.mem_singleton.mp hm] at e; exact Nat.lt_irrefl _ (Heap.lt_size e)) (Heap.get?_push_of_some _ e)), rfl, q⟩
end
end L2
namespace LW
open PySem L2
/-- [test(part) for part in parts], all true -/
theorem comp_tests {K : PySem.W.Frag} {a : Addr} {rs : List Addr} {ps : List (List Int)} {g : List Int → Bool} {σ : St} {H : Hp} {Q : VK} (R : RowsAt H a rs ps) (hz : ∀ p ∈ ps, p.length ≤ 1000) (hl : ps.length ≤ 1000) (hg : ∀ p ∈ ps, g p = true)
    (hQ : ∀ (acc : Addr) (H' : Hp), Same H H' → H' acc = some (.lst ((List.replicate ps.length true).map V.bl)) → Q (.ref acc) H') : tCompBody [none] (gName 0) tYes (tCall (spTestN K g) [] E0 (tCons (tVar 0) tNil)) (Itl K a) σ H Q := by
  refine comp_list_inv (xs := rs.map V.ref) (fun acc i ys H' => ys = (List.replicate i true).map V.bl ∧ Same H H') (small (by rw [List.length_map, R.len]; exact hl)) (fun acc ha => ⟨rfl, same_new ha⟩) (fun acc i ys H' _ _ _ ⟨_, s⟩ => SqL.of (s _ _ R.ho)) ?_ tYes_mono ?_ ?_
  · rintro acc i x ys H' hx ha hy ⟨rfl, s⟩
    obtain ⟨r, rfl, _, hil, hH, hm⟩ := (R.same s).at hx
    unfold tYes
    dsimp only
    rw [if_pos rfl]
    refine ⟨_, rfl, r, _, rfl, SqL.of hH, hz _ hm, fun H7 s7 => ⟨s7 _ _ hy, ?_, (s.trans s7).put ha⟩⟩
    rw [hg _ hm, List.replicate_succ', List.map_append]
    rfl
  · rintro σ H1 Q1 Q2 hq ⟨v, hv, a', xs, e, hS, hz', q⟩
    exact ⟨v, hv, a', xs, e, hS, hz', fun H' s' => hq _ _ (q H' s')⟩
  · rintro acc ys H' ha hy _ ⟨rfl, s⟩
    rw [List.length_map, R.len] at hy
    exact hQ acc H' s hy
end LW

/-! MY OWN: what the laws want of one_stub and two_stubs -/
namespace LW
open PySem L2
def RowOk (row : List Int) : Prop := row.Nodup ∧ row.length ≤ 60 ∧ ∀ x ∈ row, 0 ≤ x ∧ x ≤ 1000000000100
def RowOk0 (row : List Int) : Prop := row.Nodup ∧ row.length ≤ 60 ∧ ∀ x ∈ row, 0 ≤ x ∧ x ≤ 1000000000000
theorem RowOk0.ok {row : List Int} (h : RowOk0 row) : RowOk row := ⟨h.1, h.2.1, fun x hx => ⟨(h.2.2 x hx).1, Int.le_trans (h.2.2 x hx).2 (by decide)⟩⟩
def spTurned (K : PySem.W.Frag) : Sp := fun vs H Q _ => ∃ (a : Addr) (ns : List Int) (m N : Nat), vs = [.ref a, .int (m : Int), .int (N : Int)] ∧ SqL K H a (ns.map V.int) ∧ ns.length ≤ 63 ∧ (1 ≤ m ∧ m ≤ 2) ∧ (8 ≤ N ∧ N ≤ 60) ∧
  ∀ (r : Addr) (H' : Hp) (row : List Int), Same H H' → H r = none → H' r = some (.lst (row.map V.int)) → RowOk0 row → (∃ ds, Sorts (List.replicate m false) row ds) → Q (.ref r) H'
def spOneStub : Sp := fun vs H Q _ => ∃ (a : Addr) (row : List Int), vs = [.ref a] ∧ H a = some (.lst (row.map V.int)) ∧ RowOk row ∧
  (∀ (t ap : Addr) (H' : Hp) (rs : List Addr) (ds : List (Bool × Int)), Same H H' → H' t = some (.tup [.str "plan", .ref ap]) → H' ap = some (.lst (rs.map V.ref)) → PlanAt H' rs ds → ds.length ≤ 200 → Sorts [false] row ds → Q (.ref t) H') ∧
  (∀ (t l : Addr) (H' : Hp) (x y z : Int), Same H H' → H' t = some (.tup [.str "stuck", .ref l]) → H' l = some (.lst [.int x, .int y, .int z]) → isSub [x, y, z] row = true → z < x → x < y → Q (.ref t) H')
theorem cut40 {row : List Int} : (cutZ row none (some 40)).length ≤ 40 ∧ (cutZ row none (some 40)).Sublist row := by
  unfold cutZ
  refine ⟨?_, (List.take_sublist _ _).trans (List.drop_sublist _ _)⟩
  rw [List.length_take]
  have h : HT.sIx row.length row.length (some 40) ≤ 40 := by
    unfold HT.sIx
    simp
    omega
  omega
/-! ### rings -/
def crossXY (row : List Int) (x y : Int) : Bool := crossB row (min (row.idxOf x) (row.idxOf y)) (max (row.idxOf x) (row.idxOf y))
structure RingOk (row ring : List Int) : Prop where
  three : 3 ≤ ring.length
  odd : ring.length % 2 = 1
  nd : ring.Nodup
  mem : ∀ x ∈ ring, x ∈ row
  cr : ∀ k, k < ring.length → crossXY row (ring.getD ((k + ring.length - 1) % ring.length) 0) (ring.getD k 0) = true
theorem idx_at {row : List Int} {x : Int} (h : x ∈ row) : row.idxOf x < row.length ∧ row[row.idxOf x]? = some x ∧ ∀ m, m < row.idxOf x → row[m]? ≠ some x := by
  have h1 : row.idxOf x < row.length := List.idxOf_lt_length_iff.mpr h
  refine ⟨h1, ?_, fun m hm e => ?_⟩
  · rw [List.getElem?_eq_getElem h1, List.getElem_idxOf h1]
  · have hml : m < row.length := by omega
    rw [List.getElem?_eq_getElem hml] at e
    have e' := Option.some.inj e
    have := List.not_of_lt_findIdx (p := fun y => y == x) (xs := row) (i := m) hm
    simp [e'] at this
def spCross : Sp := fun vs H Q _ => ∃ (ar : Addr) (row : List Int) (x y : Int), vs = [.ref ar, .int x, .int y] ∧ H ar = some (.lst (row.map V.int)) ∧ row.length ≤ 62 ∧ x ∈ row ∧ y ∈ row ∧ crossXY row x y = true ∧ ∀ H', Same H H' → Q (.bl true) H'
def spRing : Sp := fun vs H Q _ => ∃ (l ar : Addr) (ring row : List Int), vs = [.ref l, .ref ar] ∧ H l = some (.lst (ring.map V.int)) ∧ H ar = some (.lst (row.map V.int)) ∧ row.length ≤ 62 ∧ RingOk row ring ∧ ∀ H', Same H H' → Q (.bl true) H'
def spTwoStubs : Sp := fun vs H Q _ => ∃ (a : Addr) (row : List Int), vs = [.ref a] ∧ H a = some (.lst (row.map V.int)) ∧ RowOk row ∧
  (∀ (t ap : Addr) (H' : Hp) (rs : List Addr) (ds : List (Bool × Int)), Same H H' → H' t = some (.tup [.str "plan", .ref ap]) → H' ap = some (.lst (rs.map V.ref)) → PlanAt H' rs ds → ds.length ≤ 200 → Sorts [false, false] row ds → Q (.ref t) H') ∧
  (∀ (t l : Addr) (H' : Hp) (ring : List Int), Same H H' → H' t = some (.tup [.str "ring", .ref l]) → H' l = some (.lst (ring.map V.int)) → RingOk row ring → Q (.ref t) H')
theorem drop_cut {row : List Int} {b : Nat} : cutZ row (some ((b : Int) + 1)) none = row.drop (b + 1) := by
  unfold cutZ
  rw [show (b : Int) + 1 = ((b + 1 : Nat) : Int) by omega, HT.sIx_nat, HT.sIx_none]
  by_cases h : b + 1 ≤ row.length
  · rw [Nat.min_eq_left h]
    exact List.take_of_length_le (by rw [List.length_drop]; exact Nat.le_refl _)
  · rw [Nat.min_eq_right (by omega), Nat.sub_self, List.take_zero, List.drop_eq_nil_of_le (by omega)]
theorem Same.refl' (H : Hp) : Same H H := fun _ _ h => h
theorem atI_neg1 {ns : List Int} (h : 0 < ns.length) : atI (ns.map V.int) (-1) = some (.int (ns.getD (ns.length - 1) 0)) := by
  obtain ⟨ys, v, rfl⟩ : ∃ ys v, ns = ys ++ [v] := ⟨ns.dropLast, ns.getLast (List.length_pos_iff.mp h), (List.dropLast_concat_getLast _).symm⟩
  rw [List.map_append]
  refine (atI_last _ _).trans ?_
  rw [List.getD_eq_getElem?_getD, List.length_append, List.length_singleton, Nat.add_sub_cancel, List.getElem?_append_right (Nat.le_refl _), Nat.sub_self]
  rfl
end LW

/-! MY OWN: what k15's law wants -/
namespace LW
open PySem L2
def spPlanOf (K : PySem.W.Frag) : Sp := fun vs H Q _ => ∃ (a : Addr) (ns : List Int), vs = [.ref a] ∧ SqL K H a (ns.map V.int) ∧ ∀ (l : Addr) (H' : Hp) (rs : List Addr) (ds : List (Bool × Int)), Same H H' → H l = none → H' l = some (.lst (rs.map V.ref)) → PlanAt H' rs ds → (∀ d ∈ ds, 0 ≤ d.2 ∧ d.2 < 1000000) → ds.length ≤ 200 → Q (.ref l) H'
def stepS (t : Str) (d : Bool × Int) : Str := ((if t = "" then t else t ++ (" " : Str)) ++ (if d.1 = true then ("+" : Str) else "-")) ++ Str.ofString (toString d.2)
def textS (ds : List (Bool × Int)) : Str := ds.foldl stepS ""
theorem textS_take {ds : List (Bool × Int)} {i : Nat} {d : Bool × Int} (h : ds[i]? = some d) : textS (ds.take (i + 1)) = stepS (textS (ds.take i)) d := by
  unfold textS
  rw [List.take_add_one, h, Option.toList_some, List.foldl_append]
  rfl
def spShown : Sp := fun vs H Q _ => ∃ (l : Addr) (rs : List Addr) (ds : List (Bool × Int)), vs = [.ref l] ∧ H l = some (.lst (rs.map V.ref)) ∧ PlanAt H rs ds ∧ (∀ d ∈ ds, 0 ≤ d.2 ∧ d.2 < 1000000) ∧ ds.length ≤ 200 ∧ ∀ H', Same H H' → Q (.str (textS ds)) H'
theorem okPair_refs' {rs : List Addr} : ∀ (i : Nat) (u v : V), (rs.map V.ref)[i]? = some u → (rs.map V.ref)[i]? = some v → okPair u v := fun i u v h1 h2 => by
  rw [h1] at h2
  cases h2
  obtain ⟨b, _, rfl⟩ := List.mem_map.mp (List.mem_of_getElem? h1)
  exact .inr (.inr (.inr ⟨_, rfl, rfl⟩))
end LW

/-! MY OWN: min of a list -/
namespace L2
open PySem PySem.Spec PyProof.Rows PySem.W PySem.Calls
section
variable {X : Cx}
theorem call_minL (hc : X.calm = true) : CallR X (.builtin "min") (fun xs H Q => ∃ (p : Addr) (ns : List Int), xs = [.ref p] ∧ SqL X.K H p (ns.map V.int) ∧ 0 < ns.length ∧ ∀ M, M ∈ ns → (∀ a ∈ ns, M ≤ a) → Q (.int M) H) := by
  intro pins s σ H xs us Q I r h
  obtain ⟨p, ns, rfl, hq, hne, q⟩ := h
  obtain ⟨u, rfl, ru⟩ := r.one
  cases ru
  obtain ⟨its, rv, pl, hz⟩ := I.list hq
  have hi := intsAre_of rv
  obtain ⟨xs, e⟩ := hi.allInts.items
  have hns : ns = xs.toList.map (·.1) := by rw [← hi.numsOf, ← nums_intItems, ← e]
  have hsz : 0 < xs.size := by
    have h3 := hne; rw [hns, List.length_map, Array.length_toList] at h3; exact h3
  have hl := pl.isList
  rw [e] at hl
  refine min_intList (I.ok.hd hc) hl hsz fun v h' tk hv hk => ?_
  obtain ⟨t, rfl⟩ := intItems_at hv
  obtain ⟨h1, h2⟩ := argBest_lt (numAt xs) (xs.size - 1)
  refine ⟨.int _, H, I.kept (t' := tk) hk, ⟨t, rfl⟩, q _ ?_ fun a ha => ?_⟩
  · rw [hns, numAt_eq]; exact getD_mem (by rw [List.length_map, Array.length_toList]; omega)
  · rw [hns] at ha
    obtain ⟨j, hj, rfl⟩ := mem_getD ha
    rw [List.length_map, Array.length_toList] at hj
    rw [← numAt_eq]; exact h2 j (by omega)
end
end L2
namespace LW
open PySem L2
/-- crossing, of any row -/
def spCrossG : Sp := fun vs H Q _ => ∃ (a : Addr) (row : List Int), vs = [.ref a] ∧ H a = some (.lst (row.map V.int)) ∧ row.length ≤ 62 ∧
  ∀ (l : Addr) (H' : Hp) (rs : List Addr), Same H H' → H l = none → H' l = some (.lst (rs.map V.ref)) → PairsAt H' rs (crossZ row) → Q (.ref l) H'
theorem atI_getD {row : List Int} {j : Nat} (hj : j < row.length) : atI (row.map V.int) (j : Int) = some (.int (row.getD j 0)) := by
  refine atI_nat ?_
  rw [List.getElem?_map, List.getD_eq_getElem?_getD, List.getElem?_eq_getElem hj]
  rfl
theorem getD_mem' {row : List Int} {j : Nat} (hj : j < row.length) : row.getD j 0 ∈ row := by
  rw [List.getD_eq_getElem?_getD, List.getElem?_eq_getElem hj]
  exact List.getElem_mem hj
theorem least_any {xs : List Int} {M y : Int} (h1 : M ∈ xs) (h2 : ∀ a ∈ xs, M ≤ a) : decide (M < y) = xs.any fun x => decide (x < y) := by
  by_cases h : M < y
  · rw [decide_eq_true h]
    exact (List.any_eq_true.mpr ⟨M, h1, decide_eq_true h⟩).symm
  · rw [decide_eq_false h]
    symm
    rw [Bool.eq_false_iff]
    intro z
    obtain ⟨x, hx, e⟩ := List.any_eq_true.mp z
    have := of_decide_eq_true e
    have := h2 x hx
    omega
theorem crossB_last {row : List Int} {k j : Nat} (h : row.length ≤ j + 1) : crossB row k j = false := by
  unfold crossB
  rw [List.drop_eq_nil_of_le h]
  simp
theorem crossK_last (row : List Int) (k : Nat) : crossK row k (row.length - (k + 1)) = crossK row k (row.length - 1 - (k + 1)) := by
  by_cases h : k + 1 < row.length
  · have e : row.length - (k + 1) = (row.length - 1 - (k + 1)) + 1 := by omega
    rw [e, crossK_succ, crossB_last (by omega), if_neg Bool.false_ne_true, List.append_nil]
  · have e1 : row.length - (k + 1) = 0 := by omega
    have e2 : row.length - 1 - (k + 1) = 0 := by omega
    rw [e1, e2]
end LW

/-! MY OWN: rows by the first one that takes the wagon, and the wall that is followed back -/
namespace LW
open PySem L2
theorem sub_isSub : ∀ {ys xs : List Int}, xs.Sublist ys → isSub xs ys = true
  | ys, [], _ => isSub_nil ys
  | [], x :: xs, h => by cases h
  | y :: ys, x :: xs, h => by
    by_cases e : x = y
    · subst e
      rw [isSub_hit]
      exact sub_isSub (List.cons_sublist_cons.mp h)
    · rw [isSub_miss e]
      cases h with
      | cons _ h => exact sub_isSub h
      | cons_cons _ h => exact absurd rfl e
theorem idx_zero {r : Int} {row : List Int} : (r :: row).idxOf r = 0 := by simp
theorem idx_succ {r y : Int} {row : List Int} (h : y ≠ r) : (r :: row).idxOf y = row.idxOf y + 1 := by
  rw [List.idxOf_cons]
  have : (r == y) = false := by simpa using fun z : r = y => h z.symm
  rw [this]
  rfl
theorem sub_of_idx : ∀ {row l : List Int}, l.Pairwise (fun a b => row.idxOf a < row.idxOf b) → (∀ x ∈ l, x ∈ row) → l.Sublist row
  | _, [], _, _ => List.nil_sublist _
  | [], x :: l, _, h => absurd (h x List.mem_cons_self) (by simp)
  | r :: row, x :: l, h, hm => by
    have key : ∀ m : List Int, m.Pairwise (fun a b => (r :: row).idxOf a < (r :: row).idxOf b) → (∀ y ∈ m, y ∈ r :: row) → (∀ y ∈ m, y ≠ r) → m.Sublist row := fun m h1 h2 h3 => by
      refine sub_of_idx (row := row) (h1.imp_of_mem fun {a b} ha hb z => ?_) fun y hy => (List.mem_cons.mp (h2 y hy)).resolve_left (h3 y hy)
      rw [idx_succ (h3 a ha), idx_succ (h3 b hb)] at z
      omega
    have h' := List.pairwise_cons.mp h
    by_cases e : x = r
    · subst e
      refine (key l h'.2 (fun y hy => hm y (List.mem_cons_of_mem _ hy)) fun y hy z => ?_).cons₂ x
      have := h'.1 y hy
      rw [z] at this
      omega
    · refine (key (x :: l) h hm fun y hy z => ?_).cons r
      rcases List.mem_cons.mp hy with e' | hy
      · exact e (e' ▸ z)
      · have := h'.1 y hy
        rw [z, idx_zero] at this
        omega
def lastZ (p : List Int) : Int := p.getD (p.length - 1) 0
theorem lastZ_snoc (p : List Int) (x : Int) : lastZ (p ++ [x]) = x := by
  unfold lastZ
  rw [List.length_append, List.length_singleton, Nat.add_sub_cancel, List.getD_eq_getElem?_getD, List.getElem?_append_right (Nat.le_refl _), Nat.sub_self]
  rfl
theorem lastZ_mem {p : List Int} (h : p ≠ []) : lastZ p ∈ p := by
  have := List.length_pos_iff.mpr h
  exact getD_mem' (by omega)
/-- by a rule that goes on, the last one stands to all the others -/
theorem lastZ_top {R : Int → Int → Prop} {p : List Int} (h : p.Pairwise R) {x : Int} (hx : x ∈ p) : x = lastZ p ∨ R x (lastZ p) := by
  obtain ⟨i, hi, rfl⟩ := List.getElem_of_mem hx
  have el : lastZ p = p[p.length - 1]'(by omega) := by
    unfold lastZ
    rw [List.getD_eq_getElem?_getD, List.getElem?_eq_getElem (by omega)]
    rfl
  by_cases e : i = p.length - 1
  · left
    rw [el]
    congr 1
  · right
    rw [el]
    exact List.pairwise_iff_getElem.mp h i (p.length - 1) hi (by omega) (by omega)
def takesAt (ps : List (List Int)) (x : Int) : Nat := ps.findIdx fun p => decide (lastZ p < x)
theorem takesAt_le {ps : List (List Int)} {x : Int} : takesAt ps x ≤ ps.length := List.findIdx_le_length
theorem takesAt_ahead {ps : List (List Int)} {x : Int} {j : Nat} (h : j < takesAt ps x) : ¬ lastZ (ps.getD j []) < x := by
  have hj : j < ps.length := Nat.lt_of_lt_of_le h takesAt_le
  have := List.not_of_lt_findIdx (p := fun p => decide (lastZ p < x)) (xs := ps) (i := j) h
  rw [List.getD_eq_getElem?_getD, List.getElem?_eq_getElem hj]
  intro z
  exact of_decide_eq_false this z
theorem takesAt_there {ps : List (List Int)} {x : Int} (h : takesAt ps x < ps.length) : lastZ (ps.getD (takesAt ps x) []) < x := by
  have := List.findIdx_getElem (p := fun p => decide (lastZ p < x)) (xs := ps) (w := h)
  have := of_decide_eq_true this
  rw [List.getD_eq_getElem?_getD, List.getElem?_eq_getElem h]
  exact this
def openAt (ps : List (List Int)) (n : Nat) : List (List Int) := if n = ps.length then ps ++ [[]] else ps
def rowPut (ps : List (List Int)) (n : Nat) (x : Int) : List (List Int) := (openAt ps n).set n (ps.getD n [] ++ [x])
theorem openAt_get (ps : List (List Int)) (n j : Nat) : (openAt ps n).getD j [] = ps.getD j [] := by
  unfold openAt
  split
  · rw [List.getD_eq_getElem?_getD, List.getD_eq_getElem?_getD]
    rcases Nat.lt_trichotomy j ps.length with h | h | h
    · rw [List.getElem?_append_left h]
    · rw [List.getElem?_append_right (by omega), List.getElem?_eq_none (l := ps) (by omega), h, Nat.sub_self]
      rfl
    · rw [List.getElem?_eq_none (by rw [List.length_append, List.length_singleton]; omega), List.getElem?_eq_none (l := ps) (by omega)]
  · rfl
theorem openAt_lt {ps : List (List Int)} {n : Nat} (h : n ≤ ps.length) : n < (openAt ps n).length := by
  unfold openAt
  split
  · rw [List.length_append, List.length_singleton]; omega
  · omega
theorem rowPut_get {ps : List (List Int)} {n : Nat} (h : n ≤ ps.length) (x : Int) (j : Nat) : (rowPut ps n x).getD j [] = if j = n then ps.getD n [] ++ [x] else ps.getD j [] := by
  unfold rowPut
  by_cases e : j = n
  · subst e
    rw [if_pos rfl, List.getD_eq_getElem?_getD, List.getElem?_set_self (openAt_lt h)]
    rfl
  · rw [if_neg e, List.getD_eq_getElem?_getD, List.getElem?_set_ne (fun z => e z.symm), ← List.getD_eq_getElem?_getD, openAt_get]
theorem openAt_len {ps : List (List Int)} {n : Nat} : (openAt ps n).length = if n = ps.length then ps.length + 1 else ps.length := by
  unfold openAt
  split
  · rw [List.length_append, List.length_singleton]
  · rfl
theorem rowPut_len {ps : List (List Int)} {n : Nat} (x : Int) : (rowPut ps n x).length = if n = ps.length then ps.length + 1 else ps.length := by
  unfold rowPut
  rw [List.length_set, openAt_len]
theorem flat_set : ∀ {ps : List (List Int)} {n : Nat} {x : Int}, n < ps.length → (ps.set n (ps.getD n [] ++ [x])).flatten.Perm (x :: ps.flatten)
  | [], n, x, h => absurd h (by simp)
  | p :: ps, 0, x, _ => by
    show (p ++ [x] ++ ps.flatten).Perm (x :: (p ++ ps.flatten))
    rw [List.append_assoc]
    exact List.perm_middle
  | p :: ps, n + 1, x, h => by
    show (p ++ (ps.set n (ps.getD n [] ++ [x])).flatten).Perm (x :: (p ++ ps.flatten))
    exact ((flat_set (ps := ps) (n := n) (x := x) (by simpa using h)).append_left p).trans List.perm_middle
theorem rowPut_perm {ps : List (List Int)} {n : Nat} {x : Int} (h : n ≤ ps.length) : (rowPut ps n x).flatten.Perm (x :: ps.flatten) := by
  unfold rowPut
  have := flat_set (ps := openAt ps n) (n := n) (x := x) (openAt_lt h)
  rw [openAt_get] at this
  refine this.trans ?_
  unfold openAt
  split
  · rw [List.flatten_append]
    simp
  · exact List.Perm.refl _
/-- the rows and the greater ones, behind the first i wagons -/
structure FI (row : List Int) (i : Nat) (ps : List (List Int)) (g : List (Key × V)) : Prop where
  ne : ∀ j, j < ps.length → ps.getD j [] ≠ []
  sub : ∀ j, (ps.getD j []).Sublist (row.take i)
  up : ∀ j, (ps.getD j []).Pairwise (· < ·)
  perm : ps.flatten.Perm (row.take i)
  g0 : ∀ x ∈ ps.getD 0 [], valV g (.inl x) = none
  gn : ∀ n x, x ∈ ps.getD (n + 1) [] → ∃ y, valV g (.inl x) = some (.int y) ∧ y ∈ ps.getD n [] ∧ x < y ∧ row.idxOf y < row.idxOf x
  gk : ∀ x, valV g (.inl x) ≠ none → x ∈ row.take i
  gl : g.length ≤ i
theorem FI.start (row : List Int) : FI row 0 [] [] := by
  refine ⟨fun j h => absurd h (by simp), fun j => ?_, fun j => ?_, ?_, fun x h => ?_, fun n x h => ?_, fun x h => absurd rfl h, Nat.le_refl _⟩
  · rw [List.take_zero]; exact List.Sublist.refl _
  · exact List.Pairwise.nil
  · rw [List.take_zero]; exact List.Perm.refl _
  · exact absurd h (by simp)
  · exact absurd h (by simp)
theorem FI.le {row : List Int} {i : Nat} {ps : List (List Int)} {g : List (Key × V)} (F : FI row i ps g) : ps.length ≤ row.length := by
  have h := count_le (ps := ps) fun p hp => by
    obtain ⟨j, hj, rfl⟩ := List.getElem_of_mem hp
    have := F.ne j hj
    rwa [List.getD_eq_getElem?_getD, List.getElem?_eq_getElem hj] at this
  rw [F.perm.length_eq, List.length_take] at h
  omega
theorem take_idx {row : List Int} {i : Nat} {y : Int} (hy : y ∈ row.take i) : row.idxOf y < i := by
  obtain ⟨j, hj, e⟩ := List.getElem_of_mem hy
  rw [List.length_take] at hj
  rw [List.getElem_take] at e
  have h1 : row.idxOf y ≤ j := by
    refine Decidable.byContradiction fun z => ?_
    have := List.not_of_lt_findIdx (p := fun u => u == y) (xs := row) (i := j) (by unfold List.idxOf at z; omega)
    simp [e] at this
  omega
theorem FI.step {row : List Int} {i : Nat} {ps : List (List Int)} {g : List (Key × V)} {x : Int} (nd : row.Nodup) (hx : row[i]? = some x) (F : FI row i ps g) :
    FI row (i + 1) (rowPut ps (takesAt ps x) x) (if 0 < takesAt ps x then putK g (.inl x) (.int (lastZ (ps.getD (takesAt ps x - 1) []))) else g) := by
  have hi : i < row.length := (List.getElem?_eq_some_iff.mp hx).1
  have hxi : row[i] = x := (List.getElem?_eq_some_iff.mp hx).2
  have idx : row.idxOf x = i := by rw [← hxi]; exact nd.idxOf_getElem i hi
  have tk : row.take (i + 1) = row.take i ++ [x] := by rw [List.take_add_one, hx]; rfl
  have nx : x ∉ row.take i := fun z => by
    have := take_idx z
    omega
  have hn := takesAt_le (ps := ps) (x := x)
  have ahead := fun j => takesAt_ahead (ps := ps) (x := x) (j := j)
  have there := takesAt_there (ps := ps) (x := x)
  generalize takesAt ps x = n at *
  have get := rowPut_get hn x
  have len := rowPut_len (ps := ps) (n := n) x
  have mem : ∀ {j y}, y ∈ ps.getD j [] → y ∈ row.take i := fun {j y} h => (F.sub j).subset h
  have vg : ∀ z, z ≠ x → valV (if 0 < n then putK g (.inl x) (.int (lastZ (ps.getD (n - 1) []))) else g) (.inl z) = valV g (.inl z) := fun z hz => by
    split
    · rw [valV_put, if_neg (fun e => hz (Sum.inl.inj e))]
    · rfl
  refine ⟨fun j hj => ?_, fun j => ?_, fun j => ?_, ?_, fun z hz => ?_, fun m z hz => ?_, fun z hz => ?_, ?_⟩
  · rw [get]
    split
    · simp
    · refine F.ne j ?_
      rw [len] at hj
      split at hj <;> omega
  · rw [get, tk]
    split
    · exact (F.sub n).append (List.Sublist.refl _)
    · exact (F.sub j).trans (List.sublist_append_left _ _)
  · rw [get]
    split
    · rw [List.pairwise_append]
      refine ⟨F.up n, List.pairwise_singleton _ _, fun a ha b hb => ?_⟩
      rw [List.mem_singleton.mp hb]
      have hnl : n < ps.length := Decidable.byContradiction fun z => by
        rw [List.getD_eq_getElem?_getD, List.getElem?_eq_none (by omega)] at ha
        cases ha
      have h1 := there hnl
      rcases lastZ_top (F.up n) ha with e | e
      · rw [e]; exact h1
      · exact Int.lt_trans e h1
    · exact F.up j
  · rw [tk]
    refine (rowPut_perm hn).trans ((F.perm.cons x).trans ?_)
    exact (List.perm_append_singleton x _).symm
  · rw [get] at hz
    split at hz
    · rename_i e
      have e0 : ¬ 0 < n := by omega
      rw [if_neg e0]
      rcases List.mem_append.mp hz with h | h
      · rw [← e] at h; exact F.g0 z h
      · rw [List.mem_singleton.mp h]
        cases e : valV g (.inl x) with
        | none => rfl
        | some v => exact absurd (F.gk x (by rw [e]; intro h; cases h)) nx
    · rw [vg z (fun e => nx (e ▸ mem hz))]
      exact F.g0 z hz
  · rw [get] at hz
    split at hz
    · rename_i e
      rcases List.mem_append.mp hz with h | h
      · obtain ⟨y, a1, a2, a3, a4⟩ := F.gn m z (by rw [e]; exact h)
        refine ⟨y, by rw [vg z (fun e' => nx (e' ▸ mem h))]; exact a1, ?_, a3, a4⟩
        rw [get, if_neg (by omega)]
        exact a2
      · have ez := List.mem_singleton.mp h
        subst ez
        have hmn : m < n := by omega
        have hy : lastZ (ps.getD m []) ∈ ps.getD m [] := lastZ_mem (F.ne m (by omega))
        refine ⟨lastZ (ps.getD m []), ?_, ?_, ?_, ?_⟩
        · rw [if_pos (by omega), valV_put, if_pos rfl, ← e, Nat.add_sub_cancel]
        · rw [get, if_neg (by omega)]
          exact hy
        · have h1 := ahead m hmn
          have h2 : lastZ (ps.getD m []) ≠ z := fun e' => nx (e' ▸ mem hy)
          omega
        · rw [idx]
          exact take_idx (mem hy)
    · obtain ⟨y, a1, a2, a3, a4⟩ := F.gn m z hz
      refine ⟨y, by rw [vg z (fun e' => nx (e' ▸ mem hz))]; exact a1, ?_, a3, a4⟩
      rw [get]
      split
      · rename_i e
        rw [← e]
        exact List.mem_append_left _ a2
      · exact a2
  · rw [tk]
    by_cases e : z = x
    · rw [e]; simp
    · rw [vg z e] at hz
      exact List.mem_append_left _ (F.gk z hz)
  · have := F.gl
    split
    · have := length_putK g (Sum.inl x : Key) (.int (lastZ (ps.getD (n - 1) [])))
      omega
    · omega
/-- the wall on its way, the last row's wagon first -/
structure WI (row : List Int) (ps : List (List Int)) (wall : List Int) : Prop where
  pos : 1 ≤ wall.length
  len : wall.length ≤ ps.length
  mem : ∀ x ∈ wall, x ∈ row
  pw : wall.Pairwise (fun a b => a < b ∧ row.idxOf b < row.idxOf a)
  last : lastZ wall ∈ ps.getD (ps.length - wall.length) []
theorem FI.mem {row : List Int} {ps : List (List Int)} {g : List (Key × V)} (F : FI row row.length ps g) {j : Nat} {y : Int} (h : y ∈ ps.getD j []) : y ∈ row := by
  have := (F.sub j).subset h
  rwa [List.take_length] at this
theorem WI.start {row : List Int} {ps : List (List Int)} {g : List (Key × V)} (F : FI row row.length ps g) (h : 0 < ps.length) : WI row ps [(ps.getD (ps.length - 1) []).getD 0 0] := by
  have hm : (ps.getD (ps.length - 1) []).getD 0 0 ∈ ps.getD (ps.length - 1) [] := getD_mem' (List.length_pos_iff.mpr (F.ne _ (by omega)))
  refine ⟨Nat.le_refl _, h, fun x hx => ?_, List.pairwise_singleton _ _, hm⟩
  rw [List.mem_singleton.mp hx]
  exact F.mem hm
theorem WI.stop {row : List Int} {ps : List (List Int)} {g : List (Key × V)} {wall : List Int} (F : FI row row.length ps g) (W : WI row ps wall) (h : valV g (.inl (lastZ wall)) = none) : wall.length = ps.length := by
  have h1 := W.last
  refine Decidable.byContradiction fun z => ?_
  have hl := W.len
  obtain ⟨k, hk⟩ : ∃ k, ps.length - wall.length = k + 1 := ⟨ps.length - wall.length - 1, by omega⟩
  rw [hk] at h1
  obtain ⟨y, e, _⟩ := F.gn k _ h1
  rw [h] at e
  cases e
theorem WI.next {row : List Int} {ps : List (List Int)} {g : List (Key × V)} {wall : List Int} {v : V} (F : FI row row.length ps g) (W : WI row ps wall) (h : valV g (.inl (lastZ wall)) = some v) : ∃ y, v = .int y ∧ WI row ps (wall ++ [y]) := by
  have h1 := W.last
  have hl := W.len
  have hz : ps.length - wall.length ≠ 0 := fun z => by
    rw [z] at h1
    rw [F.g0 _ h1] at h
    cases h
  obtain ⟨k, hk⟩ : ∃ k, ps.length - wall.length = k + 1 := ⟨ps.length - wall.length - 1, by omega⟩
  rw [hk] at h1
  obtain ⟨y, e, e2, e3, e4⟩ := F.gn k _ h1
  rw [h] at e
  refine ⟨y, Option.some.inj e, ?_, ?_, fun x hx => ?_, ?_, ?_⟩
  · rw [List.length_append]; exact Nat.le_trans W.pos (Nat.le_add_right _ _)
  · rw [List.length_append, List.length_singleton]; omega
  · rcases List.mem_append.mp hx with hx | hx
    · exact W.mem x hx
    · rw [List.mem_singleton.mp hx]; exact F.mem e2
  · rw [List.pairwise_append]
    refine ⟨W.pw, List.pairwise_singleton _ _, fun a ha b hb => ?_⟩
    rw [List.mem_singleton.mp hb]
    rcases lastZ_top W.pw ha with e' | e'
    · rw [e']; exact ⟨e3, e4⟩
    · exact ⟨Int.lt_trans e'.1 e3, Nat.lt_trans e4 e'.2⟩
  · rw [lastZ_snoc, List.length_append, List.length_singleton, show ps.length - (wall.length + 1) = k by omega]
    exact e2
theorem fewest_of {row : List Int} {ps : List (List Int)} {g : List (Key × V)} {wall : List Int} (nd : row.Nodup) (F : FI row row.length ps g) (wl : wall.length = ps.length) (mem : ∀ x ∈ wall, x ∈ row) (pw : wall.Pairwise (fun a b => a < b ∧ row.idxOf b < row.idxOf a)) : Fewest row ps wall.reverse := by
  have get : ∀ p ∈ ps, ∃ j, j < ps.length ∧ p = ps.getD j [] := fun p hp => by
    obtain ⟨j, hj, rfl⟩ := List.getElem_of_mem hp
    exact ⟨j, hj, by rw [List.getD_eq_getElem?_getD, List.getElem?_eq_getElem hj]; rfl⟩
  have perm := F.perm
  rw [List.take_length] at perm
  refine ⟨⟨fun p hp => ?_, fun p hp => ?_, perm.nodup_iff.mpr nd⟩, fun p hp => ?_, perm.length_eq, by rw [List.length_reverse]; exact wl, ?_, ?_⟩
  · obtain ⟨j, hj, rfl⟩ := get p hp
    exact F.ne j hj
  · obtain ⟨j, hj, rfl⟩ := get p hp
    have := F.sub j
    rw [List.take_length] at this
    exact sub_isSub this
  · obtain ⟨j, hj, rfl⟩ := get p hp
    exact upB_of (F.up j)
  · exact downB_of (List.pairwise_reverse.mpr (pw.imp fun h => h.1))
  · refine sub_isSub (sub_of_idx (List.pairwise_reverse.mpr (pw.imp fun h => h.2)) fun x hx => mem x (List.mem_reverse.mp hx))
/-! ### what the functions promise -/
def spFirst : Sp := fun vs H Q _ => ∃ (ro : Addr) (rs : List Addr) (ps : List (List Int)) (x : Int), vs = [.ref ro, .int x] ∧ RowsAt H ro rs ps ∧ ps.length ≤ 1000 ∧ (∀ j, j < ps.length → ps.getD j [] ≠ []) ∧ Q (.int (takesAt ps x : Nat)) H
def spWall : Sp := fun vs H Q _ => ∃ (ro dg : Addr) (rs : List Addr) (ps : List (List Int)) (g : List (Key × V)) (row : List Int), vs = [.ref ro, .ref dg] ∧ RowsAt H ro rs ps ∧ H dg = some (.dK g) ∧ FI row row.length ps g ∧ row.Nodup ∧ ps.length ≤ 900 ∧
  ∀ (wl : Addr) (H' : Hp) (wall : List Int), Same H H' → H wl = none → H' wl = some (.lst (wall.map V.int)) → Fewest row ps wall → Q (.ref wl) H'
theorem RowsAt.get {H : Hp} {ro : Addr} {rs : List Addr} {ps : List (List Int)} (a : RowsAt H ro rs ps) {j : Nat} (h : j < ps.length) : ∃ r, rs[j]? = some r ∧ atI (rs.map V.ref) (j : Int) = some (.ref r) ∧ H r = some (.lst ((ps.getD j []).map V.int)) := by
  have hj : j < rs.length := by rw [a.len]; exact h
  refine ⟨rs[j], List.getElem?_eq_getElem hj, atI_nat (by rw [List.getElem?_map, List.getElem?_eq_getElem hj]; rfl), a.ht j _ (List.getElem?_eq_getElem hj)⟩
theorem atI_neg1' {ns : List V} {v : V} (h : ns[ns.length - 1]? = some v) : atI ns (-1) = some v := by
  have h0 : 0 < ns.length := by
    have := (List.getElem?_eq_some_iff.mp h).1
    omega
  obtain ⟨ys, u, rfl⟩ : ∃ ys u, ns = ys ++ [u] := ⟨ns.dropLast, ns.getLast (List.length_pos_iff.mp h0), (List.dropLast_concat_getLast _).symm⟩
  rw [List.length_append, List.length_singleton, Nat.add_sub_cancel, List.getElem?_append_right (Nat.le_refl _), Nat.sub_self] at h
  cases h
  exact atI_last _ _
/-- a row of the rows is changed -/
theorem RowsAt.set {H : Hp} {ro : Addr} {rs : List Addr} {ps : List (List Int)} (a : RowsAt H ro rs ps) (nd : (ro :: rs).Nodup) {j : Nat} {r : Addr} (hr : rs[j]? = some r) (q : List Int) : RowsAt (upd H r (.lst (q.map V.int))) ro rs (ps.set j q) := by
  have h1 := List.nodup_cons.mp nd
  have hj : j < rs.length := (List.getElem?_eq_some_iff.mp hr).1
  refine ⟨?_, by rw [List.length_set]; exact a.len, fun i r' h => ?_⟩
  · rw [upd_ne (fun z => h1.1 (by rw [z]; exact List.mem_of_getElem? hr))]
    exact a.ho
  · by_cases e : i = j
    · subst e
      rw [h] at hr
      cases hr
      rw [upd_same, List.getD_eq_getElem?_getD, List.getElem?_set_self (by rw [← a.len]; exact hj)]
      rfl
    · have ne : r' ≠ r := fun z => by
        subst z
        obtain ⟨hi, e1⟩ := List.getElem?_eq_some_iff.mp h
        obtain ⟨hj', e2⟩ := List.getElem?_eq_some_iff.mp hr
        exact e ((List.getElem_inj h1.2).mp (e1.trans e2.symm))
      rw [upd_ne ne, List.getD_eq_getElem?_getD, List.getElem?_set_ne (fun z => e z.symm), ← List.getD_eq_getElem?_getD]
      exact a.ht i r' h
/-- a new empty row is put behind the rows -/
theorem RowsAt.snoc {H : Hp} {ro r : Addr} {rs : List Addr} {ps : List (List Int)} {q : List Int} (a : RowsAt H ro rs ps) (nro : ro ∉ rs) (hr : H r = some (.lst (q.map V.int))) (ne : r ≠ ro) : RowsAt (upd H ro (.lst ((rs ++ [r]).map V.ref))) ro (rs ++ [r]) (ps ++ [q]) := by
  refine ⟨upd_same, by rw [List.length_append, List.length_append, a.len]; rfl, fun i r' h => ?_⟩
  rcases Nat.lt_or_ge i rs.length with hi | hi
  · rw [List.getElem?_append_left hi] at h
    rw [upd_ne (fun z => nro (by rw [← z]; exact List.mem_of_getElem? h)), List.getD_eq_getElem?_getD, List.getElem?_append_left (by rw [← a.len]; exact hi), ← List.getD_eq_getElem?_getD]
    exact a.ht i r' h
  · rw [List.getElem?_append_right hi] at h
    have e1 : i - rs.length = 0 := by
      have := (List.getElem?_eq_some_iff.mp h).1
      simp at this
      omega
    rw [e1] at h
    cases h
    rw [upd_ne ne, List.getD_eq_getElem?_getD, List.getElem?_append_right (by rw [← a.len]; exact hi), ← a.len, e1]
    exact hr
theorem RowsAt.chg {H H' : Hp} {ro : Addr} {rs : List Addr} {ps : List (List Int)} (a : RowsAt H ro rs ps) (k : ∀ b ∈ ro :: rs, H' b = H b) : RowsAt H' ro rs ps :=
  ⟨(k _ List.mem_cons_self).trans a.ho, a.len, fun i r e => (k _ (List.mem_cons_of_mem _ (List.mem_of_getElem? e))).trans (a.ht i r e)⟩
end LW

/-! MY OWN: enumerate; yards that sort -/
namespace L2
open PySem PySem.Spec PyProof.Rows PySem.W PySem.Calls
section
variable {X : Cx} {pins : List (Addr × Obj)} {σ : St} {H : Hp} {s : Shared} {h' : Heap}
/-- records of ours have turned, and a new object is laid and tracked -/
theorem Inv.turnedLaid {t' : Nat} {fp : List Addr} {a : Addr} {o : HO} (I : Inv X pins σ H s) (hf : ∀ b ∈ fp, FpOk X pins H b) (k : ∀ b ob, b ∉ fp → s.heap.get? b = some ob → h'.get? b = some ob) (hp : s.heap.objs.size ≤ a)
    (hfe : ∀ b ∈ fp, ∃ ob, h'.get? b = some ob) (new : ObjOk X.prog X.w (upd H a o) h' a o) : Inv X pins σ (upd H a o) { s with heap := h', toks := t' } := by
  have hn : H a = none := I.hok.fresh hp
  have nit : ∀ b u, H b = some u → b ∉ fp := fun b u e z => by rw [(hf b z).1] at e; cases e
  refine I.step (g' := s.gens) (d' := s.drawn) (ch := fp) (fun b hb => ?_) (fun b o _ _ hc e _ => k b o hc e) (fun b o _ _ hc e _ => ⟨o.slots, k b o hc e⟩) (fun b o hc e n => ?_)
    (fun b o hc e => ⟨o, k b o hc e⟩) (fun b xs e => ?_) (fun b o u e => ?_) (fun b ps e => ⟨#[], ?_⟩) (fun m hm => ?_) (fun b u e => ?_) I.bare
  · obtain ⟨f0, f1, f2, f3, f4, f5⟩ := hf b hb
    exact ⟨f3, f1, f4, f5⟩
  · rw [upd_ne (Nat.ne_of_lt (Nat.lt_of_lt_of_le (Heap.lt_size e) hp))]
    exact n
  · rw [upd_ne (ne_of_none e hn)]; exact e
  · rw [upd_ne (ne_of_none e hn)]; exact e
  · rw [upd_ne (ne_of_none e hn), e]; simp
  · obtain ⟨o, es, ep, ho, r⟩ := hm
    exact ⟨o, es, ep, k _ o (fun z => (hf _ z).2.1 rfl) ho, r⟩
  · by_cases hb : b = a
    · subst hb
      rw [upd_same] at e
      cases e
      exact new
    · rw [upd_ne hb] at e
      refine (I.hok b u e).stay (fun c v hc q => k c v ?_ q) (fun c q => ?_) fun c xs q => ?_
      · rcases hc with z | z
        · rw [z]; exact nit b u e
        · exact nit c _ z
      · rw [upd_ne (ne_of_none q hn)]; exact q
      · rw [upd_ne (ne_of_none q hn)]; exact q
end
/-- the list at a, each item with its number: a new pair each turn -/
def Ite (K : PySem.W.Frag) (a : Addr) : It :=
  ⟨fun i H => ∃ xs x, SqL K H a xs ∧ xs[i]? = some x, fun i H v H' => ∃ p x, (∀ xs, SqL K H a xs → xs[i]? = some x) ∧ H p = none ∧ v = .ref p ∧ H' = upd H p (.tup [.int (i : Int), x]), fun i H => ∃ xs, SqL K H a xs ∧ xs.length ≤ i⟩
theorem turn_enum {P : Program} {w : World} {K : PySem.W.Frag} {es : List Expr} {x1} {tp : Pos} (a e it : Addr) (hne : e ≠ it) : Turn P w K (.Tuple es x1 tp) (Ite K a) [e, it] e (fun i h => ∃ old, IsEnum h e it (i : Int) old ∧ h.IsListIter it a i) where
  mem := by simp
  obj := fun i h st b hb => by
    obtain ⟨old, he, o, ho, c, d⟩ := st
    rcases List.mem_cons.mp hb with e1 | hb
    · subst e1
      exact ⟨_, he, fun v z => by cases z⟩
    · have e1 : b = it := by simpa using hb
      subst e1
      exact ⟨o, ho, fun v z => by rw [d] at z; cases z⟩
  keep := fun i h h' st k => by
    obtain ⟨old, he, hi⟩ := st
    exact ⟨old, k e (by simp) _ he, hi.at fun o q => k it (by simp) o q⟩
  item := by
    intro X hP hw hK hc i pins s σ H E I hf st hg
    subst hP hw hK
    obtain ⟨xs, x, hq, hx⟩ := hg
    obtain ⟨its, rv, p, hz⟩ := I.list hq
    obtain ⟨u, hu, ru⟩ := rv.get hx
    obtain ⟨old, he, hit⟩ := st
    have lte : e < s.heap.objs.size := Heap.lt_size he
    have lti : it < s.heap.objs.size := by
      obtain ⟨o, ho, _⟩ := id hit
      exact Heap.lt_size ho
    refine wpAny_pyNext_enum_item he hit p.isList (x := u) (by simpa using hu) hne fun h1 heo hit1 ht1 hz1 hk1 => ?_
    refine ⟨_, rfl, wpAny_letOwnedTupleGo_enum (s := { s with heap := h1, toks := s.toks + 1 }) heo fun h2 he2 hs2 => ?_⟩
    replace hs2 : Heap.SameBut e h1 h2 := hs2
    have hit2 : h2.IsListIter it a (i + 1) := hit1.extBut hs2.extBut (Ne.symm hne)
    have kp : ∀ b ob, b ∉ [e, it] → s.heap.get? b = some ob → h2.get? b = some ob := fun b ob hb q => by
      have n1 : b ≠ e := fun z => hb (by simp [z])
      have n2 : b ≠ it := fun z => hb (by simp [z])
      exact (hs2.2 b n1).trans (hk1 b ob n1 n2 q)
    have tup : h2.IsTuple s.heap.objs.size #[.int i s.toks, u] := ⟨_, (hs2.2 _ (Nat.ne_of_gt lte)).trans ht1, rfl, _, rfl⟩
    refine ⟨.ref s.heap.objs.size, _, I.turnedLaid (t' := s.toks + 1) (fp := [e, it]) (a := s.heap.objs.size) (o := .tup [.int (i : Int), x]) hf kp (Nat.le_refl _) (fun b hb => ?_) ⟨by show 2 ≤ sizeLine; decide, [.int i s.toks, u], .cons ⟨_, rfl⟩ (.cons ru .nil), tup⟩, rfl, ⟨_, x, fun ys hy => by rw [I.list_inj hy hq]; exact hx, I.hok.fresh (Nat.le_refl _), rfl, rfl⟩, ⟨u, ?_, hit2⟩, fun b hb => ?_⟩
    · rcases List.mem_cons.mp hb with e1 | hb
      · subst e1; exact ⟨_, he2⟩
      · have e1 : b = it := by simpa using hb
        subst e1
        obtain ⟨o, ho, _⟩ := hit2
        exact ⟨o, ho⟩
    · have : ((i + 1 : Nat) : Int) = (i : Int) + 1 := by omega
      rw [this]
      exact he2
    · rw [upd_ne, (hf b hb).1]
      rcases List.mem_cons.mp hb with e1 | hb
      · rw [e1]; exact Nat.ne_of_lt lte
      · have e1 : b = it := by simpa using hb
        rw [e1]; exact Nat.ne_of_lt lti
  done := by
    intro X hP hw hK hc i pins s σ H E I hf st hg
    subst hP hw hK
    obtain ⟨xs, hq, hx⟩ := hg
    obtain ⟨its, rv, p, hz⟩ := I.list hq
    obtain ⟨old, he, hit⟩ := st
    obtain ⟨f0, f1, f2, f3, f4, f5⟩ := hf it (by simp)
    have hl := rv.length
    exact wpAny_pyNext_enum_end (I.ok.hd hc) he hit p.isList (by simp; omega) fun h' eb => ⟨rfl, I.turned (t' := s.toks) (fun b o hb e => eb b o hb e) f0 f1 f3 f4 f5⟩
  self := fun _ _ _ _ _ ⟨_, st, _⟩ h => wpAny_pyIter_enum st h
section
variable {X : Cx}
def iEnum (K : PySem.W.Frag) (ta : TA) : TI := fun σ H R => ta σ H fun vs H1 => ∃ a xs, vs = [.ref a] ∧ SqL K H1 a xs ∧ R (Ite K a) H1
theorem pi_enum {es : List Expr} {x1} {tp : Pos} {l : Expr} {ta : TA} {p pos : Pos} (hg : Gl X "enumerate") (hm : X.mg "enumerate" = none) (ha : PA X [l] ta) (hs : starEach [l] X.env = [(false, eval l X.env)] := by rfl) :
    PI X (.Tuple es x1 tp) (.Call (.Name "enumerate" p) [l] [] pos) (iEnum X.K ta) := by
  intro pins s σ H R I h
  refine Call_ (ld_blt I hg hm boot_enumerate (PyProof.Rows.callWith_type1 (thn (ha pos pins s σ H _ I h) fun us s1 ⟨vs, H1, I1, r1, q1⟩ => ?_) hs rfl))
  obtain ⟨a, xs, e, hq, q⟩ := q1
  subst e
  obtain ⟨u, rfl, ru⟩ := r1.one
  cases ru
  obtain ⟨its, rv, p, hz⟩ := I1.list hq
  refine call_enumerate_list p.isList fun h' he hit hsz hk => ?_
  refine wpAny_pyIter_enum he ?_
  refine ⟨s1.heap.objs.size + 1, [s1.heap.objs.size + 1, s1.heap.objs.size], _, _, H1, rfl, I1.kept (t' := s1.toks) hk, turn_enum a _ _ (Nat.succ_ne_self _), ⟨.none, he, hit⟩, fun b hb => ?_, q⟩
  have hb' : s1.heap.objs.size ≤ b := by
    rcases List.mem_cons.mp hb with e1 | hb
    · rw [e1]; exact Nat.le_succ _
    · have e1 : b = s1.heap.objs.size := by simpa using hb
      rw [e1]; exact Nat.le_refl _
  exact I1.fpOk hb' (I1.hok.fresh hb')
end
theorem for_enum {K : PySem.W.Frag} {a : Addr} {xs : List V} {g : TG} {tb : TS} {D : Ends} {σ : St} {H : Hp} (Pv : Nat → St → Hp → Prop) (h0 : Pv 0 σ H) (hl : ∀ i σ H, i ≤ xs.length → Pv i σ H → SqL K H a xs)
    (hs : ∀ i x σ H p, xs[i]? = some x → Pv i σ H → H p = none → g (.ref p) σ (upd H p (.tup [.int (i : Int), x])) fun σ2 H2 => tb { D with nx := Pv (i + 1), ct := Pv (i + 1), bk := D.nx } σ2 H2) (hd : ∀ σ H, Pv xs.length σ H → D.nx σ H) :
    ∃ W : Nat → Nat → St → Hp → Prop, (∃ m, W 0 m σ H) ∧ ∀ i m σ H, W i m σ H →
      ((Ite K a).stop i H ∧ D.nx σ H) ∨ ((Ite K a).go i H ∧ ∃ N : St → Hp → Prop, (∀ σ' H', N σ' H' → ∃ m', m' < m ∧ W (i + 1) m' σ' H') ∧ ∀ x H', (Ite K a).yld i H x H' → g x σ H' fun σ2 H2 => tb { D with nx := N, ct := N, bk := D.nx } σ2 H2) := by
  refine ⟨fun i m σ H => m = xs.length - i ∧ i ≤ xs.length ∧ Pv i σ H, ⟨xs.length, by simp, Nat.zero_le _, h0⟩, ?_⟩
  rintro i m σ H ⟨rfl, hi, p⟩
  have q := hl i σ H hi p
  by_cases hlt : i < xs.length
  · refine .inr ⟨⟨xs, xs[i], q, by simp [hlt]⟩, Pv (i + 1), fun σ' H' p' => ⟨xs.length - (i + 1), by omega, rfl, hlt, p'⟩, fun x H' y => ?_⟩
    obtain ⟨r, z, y, hr, rfl, rfl⟩ := y
    exact hs i z σ _ r (y xs q) p hr
  · have e : i = xs.length := by omega
    subst e
    exact .inl ⟨⟨xs, q, Nat.le_refl _⟩, hd σ H p⟩
end L2
namespace LW
open PySem L2
/-! ### a yard by what has entered and what has left -/
def standing (row : List Int) (f : Int → Nat) (so : List Int) (i L j : Nat) : List Int := (row.take i).filter fun x => decide (f x = j) && !decide (x ∈ so.take L)
def yard (ks : List Bool) (row : List Int) (f : Int → Nat) (so : List Int) (i L : Nat) : YS := ⟨ks, row.drop i, (List.range ks.length).map fun j => standing row f so i L j, so.take L⟩
theorem yard_0 (ks : List Bool) (row : List Int) (f : Int → Nat) (so : List Int) : S0 ks row = yard ks row f so 0 0 := by
  unfold S0 yard
  have e : (ks.map fun _ => ([] : List Int)) = (List.range ks.length).map fun j => standing row f so 0 0 j := by
    apply List.ext_getElem
    · rw [List.length_map, List.length_map, List.length_range]
    · intro n h1 h2
      rw [List.getElem_map, List.getElem_map]
      rfl
  rw [e]
  rfl
theorem yard_tr {ks : List Bool} {row : List Int} {f : Int → Nat} {so : List Int} {i L j : Nat} (h : j < ks.length) : (yard ks row f so i L).tr.getD j [] = standing row f so i L j := by
  show ((List.range ks.length).map fun j => standing row f so i L j).getD j [] = _
  rw [List.getD_eq_getElem?_getD, List.getElem?_map, List.getElem?_range h]
  rfl
theorem map_set {n k : Nat} {F G : Nat → List Int} {v : List Int} (hk : G k = v) (hne : ∀ j, j ≠ k → G j = F j) : ((List.range n).map F).set k v = (List.range n).map G := by
  apply List.ext_getElem
  · rw [List.length_set, List.length_map, List.length_map]
  · intro j h1 h2
    rw [List.getElem_set, List.getElem_map, List.getElem_map, List.getElem_range]
    split
    · rename_i e
      rw [← e, hk]
    · rename_i e
      rw [hne j (fun z => e z.symm)]
theorem yard_into {ks : List Bool} {row : List Int} {f : Int → Nat} {so : List Int} {i L : Nat} {x : Int} {ds : List (Bool × Int)} (g : go (S0 ks row) ds = (yard ks row f so i L, .done)) (hx : row[i]? = some x) (hf : f x < ks.length) (hs : x ∉ so.take L) :
    go (S0 ks row) (ds ++ [(true, (f x : Int))]) = (yard ks row f so (i + 1) L, .done) := by
  have hi := (List.getElem?_eq_some_iff.mp hx).1
  have hxi := (List.getElem?_eq_some_iff.mp hx).2
  have hd : row.drop i = x :: row.drop (i + 1) := by rw [List.drop_eq_getElem_cons hi, hxi]
  have tl : (yard ks row f so i L).tr.length = ks.length := by show ((List.range ks.length).map _).length = _; rw [List.length_map, List.length_range]
  have hw : (yard ks row f so i L).word true (f x : Int) = .done := by
    rw [YS.word_in ⟨by omega, by rw [tl]; omega⟩, if_neg]
    show ¬ (row.drop i).length = 0
    rw [hd]
    simp
  rw [go_snoc, g]
  show (if Wd.done = Wd.done then (if (yard ks row f so i L).word true (f x : Int) = .done then ((yard ks row f so i L).next true (f x : Int), Wd.done) else _) else _) = _
  rw [if_pos rfl, if_pos hw]
  unfold YS.next
  rw [if_pos hw, if_pos rfl]
  unfold YS.into
  rw [Int.toNat_natCast, yard_tr hf]
  have e1 : (yard ks row f so i L).q = x :: row.drop (i + 1) := hd
  rw [e1]
  show (YS.mk ks (row.drop (i + 1)) (((List.range ks.length).map fun j => standing row f so i L j).set (f x) (standing row f so i L (f x) ++ [x])) (so.take L), Wd.done) = _
  have tk : row.take (i + 1) = row.take i ++ [x] := by rw [List.take_add_one, hx]; rfl
  rw [map_set (G := fun j => standing row f so (i + 1) L j)]
  · rfl
  · unfold standing
    rw [tk, List.filter_append, List.filter_cons, if_pos (by simp [hs])]
    rfl
  · intro j hj
    unfold standing
    rw [tk, List.filter_append, List.filter_cons, if_neg (by simp; intro z; exact absurd z.symm hj)]
    simp
theorem standing_next {row : List Int} {f : Int → Nat} {so : List Int} {i L j : Nat} {x : Int} (hx : so[L]? = some x) : standing row f so i (L + 1) j = (standing row f so i L j).filter fun y => !decide (y = x) := by
  unfold standing
  rw [List.filter_filter, List.take_add_one, hx]
  apply List.filter_congr
  intro y _
  by_cases h1 : y = x <;> by_cases h2 : f y = j <;> by_cases h3 : y ∈ so.take L <;> simp [h1, h2, h3]
  all_goals (subst h1; simp_all)
theorem standing_other {row : List Int} {f : Int → Nat} {so : List Int} {i L j : Nat} {x : Int} (hx : so[L]? = some x) (hj : j ≠ f x) : standing row f so i (L + 1) j = standing row f so i L j := by
  rw [standing_next hx]
  rw [List.filter_eq_self]
  intro y hy
  have := (List.mem_filter.mp hy).2
  simp at this
  have : y ≠ x := fun z => hj (by rw [← z]; exact this.1.symm)
  simp [this]
theorem standing_least {row : List Int} {f : Int → Nat} {so : List Int} {i L j : Nat} {x : Int} (hp : so.Perm row) (hsd : so.Pairwise (· ≤ ·)) (hx : so[L]? = some x) : ∀ y ∈ standing row f so i L j, x ≤ y := fun y hy => by
  have h1 := List.mem_filter.mp hy
  have h2 : y ∈ row := List.take_subset _ _ h1.1
  have h3 : y ∈ so := hp.mem_iff.mpr h2
  have h4 : y ∉ so.take L := by have := h1.2; simp at this; exact this.2
  rw [← List.take_append_drop L so] at h3
  have h5 : y ∈ so.drop L := (List.mem_append.mp h3).resolve_left h4
  have hL := (List.getElem?_eq_some_iff.mp hx).1
  have hxL := (List.getElem?_eq_some_iff.mp hx).2
  rw [List.drop_eq_getElem_cons hL, hxL] at h5
  rcases List.mem_cons.mp h5 with e | h5
  · omega
  · have hd := hsd.sublist (List.drop_sublist L so)
    rw [List.drop_eq_getElem_cons hL, hxL] at hd
    exact (List.pairwise_cons.mp hd).1 y h5
theorem filter_all {l : List Int} {x : Int} (h : x ∉ l) : (l.filter fun y => !decide (y = x)) = l := by
  rw [List.filter_eq_self]
  intro y hy
  have : y ≠ x := fun z => h (z ▸ hy)
  simp [this]
theorem least_first {T : List Int} {x : Int} (hp : T.Pairwise (· < ·)) (hx : x ∈ T) (hl : ∀ y ∈ T, x ≤ y) : T = x :: T.filter fun y => !decide (y = x) := by
  cases T with
  | nil => cases hx
  | cons a T =>
    have h1 := List.pairwise_cons.mp hp
    have e : a = x := by
      rcases List.mem_cons.mp hx with e | hx
      · exact e.symm
      · have := h1.1 x hx
        have := hl a List.mem_cons_self
        omega
    subst e
    rw [List.filter_cons, if_neg (by simp), filter_all fun z => ?_]
    have := h1.1 a z
    omega
theorem least_last {T : List Int} {x : Int} (hp : T.Pairwise (· > ·)) (hx : x ∈ T) (hl : ∀ y ∈ T, x ≤ y) : T = (T.filter fun y => !decide (y = x)) ++ [x] := by
  have h := least_first (T := T.reverse) (List.pairwise_reverse.mpr hp) (List.mem_reverse.mpr hx) fun y hy => hl y (List.mem_reverse.mp hy)
  have h2 := congrArg List.reverse h
  rw [List.reverse_reverse, List.reverse_cons, ← List.filter_reverse, List.reverse_reverse] at h2
  exact h2
theorem yard_out {ks : List Bool} {row : List Int} {f : Int → Nat} {so : List Int} {i L : Nat} {x : Int} {ds : List (Bool × Int)} (g : go (S0 ks row) ds = (yard ks row f so i L, .done)) (hp : so.Perm row) (hsd : so.Pairwise (· ≤ ·)) (hx : so[L]? = some x) (hf : f x < ks.length) (hm : x ∈ standing row f so i L (f x))
    (hT : (ks.getD (f x) false = true ∧ (standing row f so i L (f x)).Pairwise (· < ·)) ∨ (ks.getD (f x) false = false ∧ (standing row f so i L (f x)).Pairwise (· > ·))) :
    go (S0 ks row) (ds ++ [(false, (f x : Int))]) = (yard ks row f so i (L + 1), .done) := by
  have tl : (yard ks row f so i L).tr.length = ks.length := by show ((List.range ks.length).map _).length = _; rw [List.length_map, List.length_range]
  have hw : (yard ks row f so i L).word false (f x : Int) = .done := by
    rw [YS.word_out ⟨by omega, by rw [tl]; omega⟩, if_neg]
    rw [Int.toNat_natCast, yard_tr hf]
    have := List.length_pos_iff.mpr (List.ne_nil_of_mem hm)
    omega
  rw [go_snoc, g]
  show (if Wd.done = Wd.done then (if (yard ks row f so i L).word false (f x : Int) = .done then ((yard ks row f so i L).next false (f x : Int), Wd.done) else _) else _) = _
  rw [if_pos rfl, if_pos hw]
  unfold YS.next
  rw [if_pos hw, if_neg Bool.false_ne_true]
  unfold YS.out
  rw [Int.toNat_natCast, yard_tr hf]
  have least := standing_least (f := f) (i := i) (j := f x) hp hsd hx
  have tk : so.take (L + 1) = so.take L ++ [x] := by rw [List.take_add_one, hx]; rfl
  have fin : (YS.mk ks (row.drop i) (((List.range ks.length).map fun j => standing row f so i L j).set (f x) ((standing row f so i L (f x)).filter fun y => !decide (y = x))) (so.take L ++ [x]), Wd.done) = (yard ks row f so i (L + 1), Wd.done) := by
    rw [map_set (G := fun j => standing row f so i (L + 1) j) (standing_next hx) fun j hj => standing_other hx hj, ← tk]
    rfl
  rcases hT with ⟨hk, hT⟩ | ⟨hk, hT⟩
  · have hk' : (yard ks row f so i L).ks.getD (f x) false = true := hk
    have e := least_first hT hm least
    rw [if_pos hk', ← fin]
    generalize (standing row f so i L (f x)).filter (fun y => !decide (y = x)) = T' at e
    rw [e]
    rfl
  · have hk' : ¬ (yard ks row f so i L).ks.getD (f x) false = true := by rw [show (yard ks row f so i L).ks = ks from rfl, hk]; exact Bool.false_ne_true
    have e := least_last hT hm least
    rw [if_neg hk', ← fin]
    generalize (standing row f so i L (f x)).filter (fun y => !decide (y = x)) = T' at e
    rw [e, List.dropLast_concat, List.getLastD_concat]
    rfl
theorem yard_sorts {ks : List Bool} {row : List Int} {f : Int → Nat} {so : List Int} {i L : Nat} {ds : List (Bool × Int)} (g : go (S0 ks row) ds = (yard ks row f so i L, .done)) (hp : so.Perm row) (hsd : so.Pairwise (· ≤ ·)) (hL : so.length ≤ L) : Sorts ks row ds := by
  unfold Sorts
  rw [g]
  have e : (yard ks row f so i L).g = so := List.take_of_length_le hL
  refine ⟨rfl, ?_, ?_⟩
  · show (yard ks row f so i L).g.Perm row
    rw [e]; exact hp
  · show (yard ks row f so i L).g.Pairwise (· ≤ ·)
    rw [e]; exact hsd
theorem so_nodup {so row : List Int} (nd : row.Nodup) (hp : so.Perm row) : so.Nodup := hp.nodup_iff.mpr nd
theorem so_not_take {so : List Int} {L : Nat} {x : Int} (nd : so.Nodup) (hx : so[L]? = some x) : x ∉ so.take L := fun z => by
  have hL := (List.getElem?_eq_some_iff.mp hx).1
  have hxL := (List.getElem?_eq_some_iff.mp hx).2
  obtain ⟨j, hj, e⟩ := List.getElem_of_mem z
  rw [List.length_take] at hj
  rw [List.getElem_take, ← hxL] at e
  have := (List.getElem_inj nd).mp e
  omega
/-! ### lanes -/
def insF (f : Int → Nat) (l : List Int) : List (Bool × Int) := l.map fun x => (true, (f x : Int))
def outsF (f : Int → Nat) (l : List Int) : List (Bool × Int) := l.map fun x => (false, (f x : Int))
theorem lanes_sort {row so : List Int} {n : Nat} {f : Int → Nat} (nd : row.Nodup) (hp : so.Perm row) (hsd : so.Pairwise (· ≤ ·)) (hf : ∀ x ∈ row, f x < n) (hr : ∀ j, (row.filter fun x => decide (f x = j)).Pairwise (· < ·)) :
    Sorts (List.replicate n true) row (insF f row ++ outsF f so) := by
  have hn : (List.replicate n true).length = n := List.length_replicate
  have h1 : ∀ i, i ≤ row.length → go (S0 (List.replicate n true) row) (insF f (row.take i)) = (yard (List.replicate n true) row f so i 0, .done) := by
    intro i
    induction i with
    | zero => intro _; rw [List.take_zero, ← yard_0]; rfl
    | succ i ih =>
      intro hi
      have hx : row[i]? = some row[i] := List.getElem?_eq_getElem (by omega)
      have := yard_into (ih (by omega)) hx (by rw [hn]; exact hf _ (List.getElem_mem _)) (by simp)
      rw [List.take_add_one, hx]
      unfold insF at this ⊢
      rw [Option.toList_some, List.map_append]
      exact this
  have h2 : ∀ L, L ≤ so.length → go (S0 (List.replicate n true) row) (insF f row ++ outsF f (so.take L)) = (yard (List.replicate n true) row f so row.length L, .done) := by
    intro L
    induction L with
    | zero =>
      intro _
      have := h1 row.length (Nat.le_refl _)
      rw [List.take_length] at this
      rw [List.take_zero]
      show go _ (insF f row ++ []) = _
      rw [List.append_nil]
      exact this
    | succ L ih =>
      intro hL
      have hx : so[L]? = some so[L] := List.getElem?_eq_getElem (by omega)
      have hm : so[L] ∈ row := hp.mem_iff.mp (List.getElem_mem _)
      have := yard_out (ih (by omega)) hp hsd hx (by rw [hn]; exact hf _ hm) (List.mem_filter.mpr ⟨by rw [List.take_length]; exact hm, by simp [so_not_take (so_nodup nd hp) hx]⟩) (.inl ⟨by rw [List.getD_eq_getElem?_getD, List.getElem?_replicate_of_lt (hf _ hm)]; rfl, ?_⟩)
      · rw [List.take_add_one, hx]
        unfold outsF at this ⊢
        rw [Option.toList_some, List.map_append, ← List.append_assoc]
        exact this
      · unfold standing
        rw [List.take_length, ← List.filter_filter]
        have : ((row.filter fun x => !decide (x ∈ so.take L)).filter fun x => decide (f x = f so[L])) = (row.filter fun x => decide (f x = f so[L])).filter fun x => !decide (x ∈ so.take L) := by
          rw [List.filter_filter, List.filter_filter]
          apply List.filter_congr
          intro y _
          rw [Bool.and_comm]
        rw [this]
        exact (hr _).sublist List.filter_sublist
  have := h2 so.length (Nat.le_refl _)
  rw [List.take_length] at this
  exact yard_sorts this hp hsd (Nat.le_refl _)
theorem rising_filter {row p : List Int} (nd : row.Nodup) (hs : p.Sublist row) (up : p.Pairwise (· < ·)) {q : Int → Bool} (hq : ∀ x ∈ row, q x = true → x ∈ p) : (row.filter q).Pairwise (· < ·) := by
  have h1 := (idx_pair nd).sublist (List.filter_sublist (p := q) (l := row))
  refine h1.imp_of_mem fun {a b} ha hb z => ?_
  have ha' := List.mem_filter.mp ha
  have hb' := List.mem_filter.mp hb
  have h2 := pair_mem (up.imp₂ (fun _ _ h1 h2 => And.intro h1 h2) ((idx_pair nd).sublist hs)) (hq a ha'.1 ha'.2) (hq b hb'.1 hb'.2)
  rcases h2 with e | e | e
  · rw [e] at z; omega
  · exact e.1
  · omega
theorem apart_ne : ∀ {ps : List (List Int)}, ps.flatten.Nodup → ∀ {i j : Nat} {x : Int}, x ∈ ps.getD i [] → x ∈ ps.getD j [] → i = j
  | [], _, i, j, x, h, _ => absurd h (by simp)
  | p :: ps, nd, i, j, x, h1, h2 => by
    rw [List.flatten_cons, List.nodup_append] at nd
    obtain ⟨n1, n2, n3⟩ := nd
    have mem : ∀ {k : Nat}, x ∈ ps.getD k [] → x ∈ ps.flatten := fun {k} h => by
      by_cases hk : k < ps.length
      · rw [List.getD_eq_getElem?_getD, List.getElem?_eq_getElem hk] at h
        exact List.mem_flatten.mpr ⟨_, List.getElem_mem hk, h⟩
      · rw [List.getD_eq_getElem?_getD, List.getElem?_eq_none (by omega)] at h
        cases h
    cases i with
    | zero =>
      cases j with
      | zero => rfl
      | succ j => exact absurd rfl (n3 x h1 x (mem (k := j) h2))
    | succ i =>
      cases j with
      | zero => exact absurd rfl (n3 x h2 x (mem (k := i) h1))
      | succ j => rw [apart_ne n2 (i := i) (j := j) h1 h2]
/-- the lanes of what fewest tells -/
theorem fewest_sorts {row so : List Int} {ps : List (List Int)} {wall : List Int} {f : Int → Nat} (nd : row.Nodup) (F : Fewest row ps wall) (hp : so.Perm row) (hsd : so.Pairwise (· ≤ ·)) (hf : ∀ j, ∀ x ∈ ps.getD j [], f x = j) :
    Sorts (List.replicate ps.length true) row (insF f row ++ outsF f so) := by
  have cov : ∀ x ∈ row, ∃ j, j < ps.length ∧ x ∈ ps.getD j [] := fun x hx => by
    obtain ⟨p, hp, hxp⟩ := List.mem_flatten.mp (F.cover nd x hx)
    obtain ⟨j, hj, rfl⟩ := List.getElem_of_mem hp
    exact ⟨j, hj, by rw [List.getD_eq_getElem?_getD, List.getElem?_eq_getElem hj]; exact hxp⟩
  refine lanes_sort nd hp hsd (fun x hx => ?_) fun j => ?_
  · obtain ⟨j, hj, h⟩ := cov x hx
    rw [hf j x h]; exact hj
  · by_cases hj : j < ps.length
    · have hm : ps.getD j [] ∈ ps := by rw [List.getD_eq_getElem?_getD, List.getElem?_eq_getElem hj]; exact List.getElem_mem hj
      refine rising_filter nd (isSub_sublist (F.ap.sub _ hm)) (upB_lt (F.up _ hm)) fun x hx hq => ?_
      obtain ⟨k, _, h⟩ := cov x hx
      have := of_decide_eq_true hq
      rw [hf k x h] at this
      rw [← this]; exact h
    · have : (row.filter fun x => decide (f x = j)) = [] := by
        rw [List.filter_eq_nil_iff]
        intro x hx hq
        obtain ⟨k, hk, h⟩ := cov x hx
        have := of_decide_eq_true hq
        rw [hf k x h] at this
        omega
      rw [this]
      exact List.Pairwise.nil
end LW

/-! MY OWN: plans by a table of tracks -/
namespace LW
open PySem L2
theorem PlanAt.append {H : Hp} {rs rs' : List Addr} {ds ds' : List (Bool × Int)} (p : PlanAt H rs ds) (p' : PlanAt H rs' ds') : PlanAt H (rs ++ rs') (ds ++ ds') := by
  refine ⟨by rw [List.length_append, List.length_append, p.len, p'.len], fun i r d h1 h2 => ?_, fun d hd => ?_⟩
  · rcases Nat.lt_or_ge i rs.length with hi | hi
    · rw [List.getElem?_append_left hi] at h1
      rw [List.getElem?_append_left (by rw [← p.len]; exact hi)] at h2
      exact p.at_ i r d h1 h2
    · rw [List.getElem?_append_right hi] at h1
      rw [List.getElem?_append_right (by rw [← p.len]; exact hi), ← p.len] at h2
      exact p'.at_ _ r d h1 h2
  · rcases List.mem_append.mp hd with h | h
    · exact p.sm d h
    · exact p'.sm d h
/-- what a table says of a wagon -/
def trkF (kvs : List (Key × V)) (x : Int) : Nat := match valV kvs (.inl x) with
  | some (.int n) => n.toNat
  | _ => 0
theorem trkF_of {kvs : List (Key × V)} {x : Int} {n : Nat} (h : valV kvs (.inl x) = some (.int (n : Int))) : trkF kvs x = n := by
  unfold trkF
  rw [h]
  exact Int.toNat_natCast n
/-- [(way, table[wagon]) for wagon in zs] -/
theorem comp_plan {K : PySem.W.Frag} {az df : Addr} {zs : List Int} {kvs : List (Key × V)} {f : Int → Nat} {b : Bool} {cp : List (Option Nat)} {σ : St} {H : Hp} {Q : VK} (hz : SqL K H az (zs.map V.int)) (lz : zs.length ≤ 1000) (hd : H df = some (.dK kvs)) (hf : ∀ x ∈ zs, valV kvs (.inl x) = some (.int (f x : Int))) (sm : ∀ x ∈ zs, f x < 1000)
    (hτ : tau cp σ = [none, some (.ref df)]) (hQ : ∀ acc rs H', Same H H' → H acc = none → H' acc = some (.lst (rs.map V.ref)) → PlanAt H' rs (zs.map fun x => (b, (f x : Int))) → Q (.ref acc) H') :
    tCompBody cp (gName 0) tYes (tTup (tCons (tC (wayV b)) (tCons (tDGet (tVar 1) (tVar 0)) tNil))) (Itl K az) σ H Q := by
  refine comp_list_inv (xs := zs.map V.int) (fun acc i ys H' => ∃ rs : List Addr, ys = rs.map V.ref ∧ Same H H' ∧ PlanAt H' rs ((zs.take i).map fun x => (b, (f x : Int)))) (by rw [List.length_map]; exact small lz) (fun acc ha => ?_) (fun acc i ys H' _ _ _ ⟨rs, _, s', _⟩ => s'.seq hz) (fun acc i x ys H' hx ha hy ⟨rs, e, s', pl⟩ => ?_) (fun σ H Q Q' m h => m _ _ h) (fun σ H Q Q' m h => ?_) (fun acc ys H' ha hy _ ⟨rs, e, s', pl⟩ => ?_)
  · exact ⟨[], rfl, same_new ha, ⟨rfl, fun i r d h _ => by simp at h, fun d h => by simp at h⟩⟩
  · obtain ⟨hi, rfl⟩ := get_map hx
    have hx' : zs[i]? = some (cellZ zs i) := by rw [cellZ_get hi, List.getElem?_eq_getElem hi]
    generalize cellZ zs i = x at *
    have hm : x ∈ zs := List.mem_of_getElem? hx'
    subst e
    unfold tYes
    refine iteT ?_
    rw [hτ]
    refine ⟨_, rfl, _, rfl, df, .int (f x : Int), rfl, by rw [← hf x hm]; exact DGet.k (k := Sum.inl x) (s' _ _ hd), (by show 2 ≤ sizeLine; decide), fun p hp => ⟨(same_new hp) _ _ hy, rs ++ [p], by rw [List.map_append]; rfl, (s'.trans (same_new hp)).put ha, ?_⟩⟩
    have t1 := same_new (o := .tup [wayV b, .int (f x : Int)]) hp
    have hp' : (upd H' p (.tup [wayV b, .int (f x : Int)])) p = some (.tup [wayV b, .int (f x : Int)]) := upd_same
    have pl1 := pl.same t1
    have hy1 := t1 _ _ hy
    show PlanAt (upd (upd H' p (.tup [wayV b, .int (f x : Int)])) acc (.lst (rs.map V.ref ++ [.ref p]))) _ _
    generalize upd H' p (.tup [wayV b, .int (f x : Int)]) = H1 at *
    have kp : ∀ e xs, H1 e = some (.tup xs) → (upd H1 acc (.lst (rs.map V.ref ++ [.ref p]))) e = some (.tup xs) := fun e xs he => by
      rw [upd_ne (ne_of he hy1 (by intro z; cases z))]
      exact he
    rw [List.take_add_one, hx', Option.toList_some, List.map_append]
    refine (pl1.keeps kp).snoc (kp _ _ hp') ?_
    have := sm x hm
    show (f x : Int).natAbs < 2 ^ 40
    omega
  · obtain ⟨x, e1, y, e2, a, v, e3, g, z, k⟩ := h
    exact ⟨x, e1, y, e2, a, v, e3, g, z, fun p hp => m _ _ (k p hp)⟩
  · subst e
    rw [List.length_map, List.take_length] at pl
    exact hQ acc rs H' s' ha hy pl
/-! ### stubs -/
def NoCross (row : List Int) (f : Int → Nat) : Prop := ∀ i j : Nat, i < j → j < row.length → f (row.getD i 0) = f (row.getD j 0) → crossB row i j = false
structure SJ (n : Nat) (row : List Int) (f : Int → Nat) (so : List Int) (i L : Nat) (ds : List (Bool × Int)) : Prop where
  run : go (S0 (List.replicate n false) row) ds = (yard (List.replicate n false) row f so i L, .done)
  dec : ∀ j, (standing row f so i L j).Pairwise (· > ·)
  lin : ∀ x ∈ so.take L, x ∈ row.take i
  len : ds.length = i + L
  le : L ≤ so.length
theorem SJ.start (n : Nat) (row : List Int) (f : Int → Nat) (so : List Int) : SJ n row f so 0 0 [] :=
  ⟨by rw [← yard_0]; rfl, fun j => List.Pairwise.nil, fun x hx => by simp at hx, rfl, Nat.zero_le _⟩
theorem crossB_of {row : List Int} {i j k : Nat} (hjk : j < k) (hk : k < row.length) (h1 : row.getD i 0 < row.getD j 0) (h2 : row.getD k 0 < row.getD i 0) : crossB row i j = true := by
  unfold crossB
  rw [Bool.and_eq_true]
  refine ⟨decide_eq_true h1, List.any_eq_true.mpr ⟨row.getD k 0, ?_, decide_eq_true h2⟩⟩
  rw [List.getD_eq_getElem?_getD, List.getElem?_eq_getElem hk]
  rw [List.mem_iff_getElem?]
  exact ⟨k - (j + 1), by rw [List.getElem?_drop, show j + 1 + (k - (j + 1)) = k by omega, List.getElem?_eq_getElem hk]; rfl⟩
theorem getD_at {row : List Int} {i : Nat} {x : Int} (h : row[i]? = some x) : row.getD i 0 = x := by
  rw [List.getD_eq_getElem?_getD, h]
  rfl
theorem mem_take_at {row : List Int} {i : Nat} {x : Int} (h : x ∈ row.take i) : ∃ k, k < i ∧ row[k]? = some x := by
  obtain ⟨k, hk, e⟩ := List.getElem_of_mem h
  rw [List.length_take] at hk
  rw [List.getElem_take] at e
  exact ⟨k, by omega, by rw [← e]; exact List.getElem?_eq_getElem (by omega)⟩
theorem mem_take_of {row : List Int} {i k : Nat} {x : Int} (h : row[k]? = some x) (hk : k < i) : x ∈ row.take i := by
  rw [List.mem_iff_getElem?]
  exact ⟨k, by rw [List.getElem?_take_of_lt hk]; exact h⟩
theorem SJ.into {n : Nat} {row so : List Int} {f : Int → Nat} {i L : Nat} {ds : List (Bool × Int)} {y : Int} (J : SJ n row f so i L ds) (nd : row.Nodup) (hp : so.Perm row) (hsd : so.Pairwise (· ≤ ·)) (hn : ∀ x ∈ row, f x < n) (nc : NoCross row f)
    (gr : ∀ x, so[L]? = some x → x ∉ row.take i) (hy : row[i]? = some y) : SJ n row f so (i + 1) L (ds ++ [(true, (f y : Int))]) := by
  have hi := (List.getElem?_eq_some_iff.mp hy).1
  have hym : y ∈ row := List.mem_of_getElem? hy
  have inj : ∀ {k l : Nat} {u : Int}, row[k]? = some u → row[l]? = some u → k = l := fun {k l u} h1 h2 => by
    obtain ⟨a1, a2⟩ := List.getElem?_eq_some_iff.mp h1
    obtain ⟨b1, b2⟩ := List.getElem?_eq_some_iff.mp h2
    exact (List.getElem_inj nd).mp (a2.trans b2.symm)
  have nyi : y ∉ row.take i := fun z => by
    obtain ⟨k, hk, e⟩ := mem_take_at z
    have := inj e hy
    omega
  have nyL : y ∉ so.take L := fun z => nyi (J.lin y z)
  have tk : row.take (i + 1) = row.take i ++ [y] := by rw [List.take_add_one, hy]; rfl
  refine ⟨yard_into J.run hy (by rw [List.length_replicate]; exact hn y hym) nyL, fun j => ?_, fun x hx => by rw [tk]; exact List.mem_append_left _ (J.lin x hx), ?_, J.le⟩
  · have e : standing row f so (i + 1) L j = standing row f so i L j ++ (if f y = j then [y] else []) := by
      unfold standing
      rw [tk, List.filter_append, List.filter_cons]
      congr 1
      by_cases h : f y = j
      · rw [if_pos h, if_pos (by simp [h, nyL])]; rfl
      · rw [if_neg h, if_neg (by simp [h])]; rfl
    rw [e]
    by_cases h : f y = j
    · rw [if_pos h, List.pairwise_append]
      refine ⟨J.dec j, List.pairwise_singleton _ _, fun a ha b hb => ?_⟩
      rw [List.mem_singleton.mp hb]
      have ha' := List.mem_filter.mp ha
      have hfa : f a = j ∧ a ∉ so.take L := by have := ha'.2; simp at this; exact this
      obtain ⟨k, hk, hka⟩ := mem_take_at ha'.1
      have ham : a ∈ so := hp.mem_iff.mpr (List.mem_of_getElem? hka)
      rw [← List.take_append_drop L so] at ham
      have had := (List.mem_append.mp ham).resolve_left hfa.2
      have hL : L < so.length := by
        refine Decidable.byContradiction fun z => ?_
        rw [List.drop_eq_nil_of_le (by omega)] at had
        cases had
      have hz : so[L]? = some so[L] := List.getElem?_eq_getElem hL
      have hza : so[L] ≤ a := standing_least (f := f) (i := i) (j := j) hp hsd hz a ha
      have nz := gr _ hz
      obtain ⟨m, hm, hmz⟩ := List.getElem_of_mem (hp.mem_iff.mp (List.getElem_mem hL))
      have hmz' : row[m]? = some so[L] := by rw [List.getElem?_eq_getElem hm, hmz]
      have hmi : i ≤ m := Decidable.byContradiction fun z => nz (mem_take_of hmz' (by omega))
      refine Decidable.byContradiction fun z => ?_
      have hay : a ≠ y := fun e => nyi (e ▸ ha'.1)
      have hlt : a < y := by
        have : ¬ a > y := z
        omega
      have hne : so[L] ≠ a := fun e => nz (e ▸ ha'.1)
      have hmi' : m ≠ i := fun e => by
        subst e
        rw [hmz'] at hy
        have := Option.some.inj hy
        omega
      have c := crossB_of (row := row) (i := k) (j := i) (k := m) (by omega) hm (by rw [getD_at hka, getD_at hy]; exact hlt) (by rw [getD_at hmz', getD_at hka]; omega)
      rw [nc k i hk hi (by rw [getD_at hka, getD_at hy, hfa.1, h])] at c
      cases c
    · rw [if_neg h, List.append_nil]
      exact J.dec j
  · rw [List.length_append, List.length_singleton, J.len]
    omega
theorem SJ.out {n : Nat} {row so : List Int} {f : Int → Nat} {i L : Nat} {ds : List (Bool × Int)} {x : Int} (J : SJ n row f so i L ds) (nd : row.Nodup) (hp : so.Perm row) (hsd : so.Pairwise (· ≤ ·)) (hn : ∀ x ∈ row, f x < n)
    (hx : so[L]? = some x) (hxi : x ∈ row.take i) : SJ n row f so i (L + 1) (ds ++ [(false, (f x : Int))]) := by
  have hxm : x ∈ row := List.take_subset _ _ hxi
  have hL := (List.getElem?_eq_some_iff.mp hx).1
  have hst : x ∈ standing row f so i L (f x) := List.mem_filter.mpr ⟨hxi, by simp [so_not_take (so_nodup nd hp) hx]⟩
  refine ⟨yard_out J.run hp hsd hx (by rw [List.length_replicate]; exact hn x hxm) hst (.inr ⟨by rw [List.getD_eq_getElem?_getD, List.getElem?_replicate_of_lt (hn x hxm)]; rfl, J.dec _⟩), fun j => ?_, fun z hz => ?_, ?_, hL⟩
  · rw [standing_next hx]
    exact (J.dec j).sublist List.filter_sublist
  · rw [List.take_add_one, hx] at hz
    rcases List.mem_append.mp hz with h | h
    · exact J.lin z h
    · rw [List.mem_singleton.mp h]; exact hxi
  · rw [List.length_append, List.length_singleton, J.len]
    omega
theorem SJ.sorts {n : Nat} {row so : List Int} {f : Int → Nat} {L : Nat} {ds : List (Bool × Int)} (J : SJ n row f so row.length L ds) (hp : so.Perm row) (hsd : so.Pairwise (· ≤ ·)) (gr : ∀ x, so[L]? = some x → x ∉ row.take row.length) : Sorts (List.replicate n false) row ds := by
  refine yard_sorts J.run hp hsd (Decidable.byContradiction fun z => ?_)
  have hL : L < so.length := by omega
  refine gr so[L] (List.getElem?_eq_getElem hL) ?_
  rw [List.take_length]
  exact hp.mem_iff.mp (List.getElem_mem hL)
def spStubPlan : Sp := fun vs H Q _ => ∃ (ar df : Addr) (row : List Int) (kvs : List (Key × V)) (f : Int → Nat) (n : Nat), vs = [.ref ar, .ref df] ∧ H ar = some (.lst (row.map V.int)) ∧ H df = some (.dK kvs) ∧ row.Nodup ∧ row.length ≤ 62 ∧ (∀ x ∈ row, valV kvs (.inl x) = some (.int (f x : Int))) ∧ (∀ x ∈ row, f x < n) ∧ n ≤ 100 ∧ NoCross row f ∧
  ∀ (ap : Addr) (H' : Hp) (rs : List Addr) (ds : List (Bool × Int)), Same H H' → H' ap = some (.lst (rs.map V.ref)) → PlanAt H' rs ds → ds.length ≤ 200 → Sorts (List.replicate n false) row ds → Q (.ref ap) H'
/-! ### who crosses -/
theorem mem_crossZ {row : List Int} {p : Int × Int} : p ∈ crossZ row ↔ ∃ k j : Nat, k < j ∧ j < row.length ∧ crossB row k j = true ∧ p = (row.getD k 0, row.getD j 0) := by
  unfold crossZ crossK
  rw [List.mem_flatten]
  constructor
  · rintro ⟨l, hl, hp⟩
    obtain ⟨k, hk, rfl⟩ := List.mem_map.mp hl
    obtain ⟨i, hi, rfl⟩ := List.mem_map.mp hp
    obtain ⟨h1, h2⟩ := List.mem_filter.mp hi
    have hk := List.mem_range.mp hk
    have h1 := List.mem_range.mp h1
    exact ⟨k, k + 1 + i, by omega, by omega, h2, rfl⟩
  · rintro ⟨k, j, h1, h2, h3, rfl⟩
    refine ⟨_, List.mem_map.mpr ⟨k, List.mem_range.mpr (by omega), rfl⟩, List.mem_map.mpr ⟨j - (k + 1), List.mem_filter.mpr ⟨List.mem_range.mpr (by omega), ?_⟩, ?_⟩⟩
    · rw [show k + 1 + (j - (k + 1)) = j by omega]; exact h3
    · rw [show k + 1 + (j - (k + 1)) = j by omega]
theorem noCross_of_nil {row : List Int} (h : crossZ row = []) (f : Int → Nat) : NoCross row f := fun i j hij hj _ => by
  cases e : crossB row i j with
  | false => rfl
  | true =>
    have := mem_crossZ.mpr ⟨i, j, hij, hj, e, rfl⟩
    rw [h] at this
    cases this
theorem stuck_of {row : List Int} {k j : Nat} {z : Int} (nd : row.Nodup) (hkj : k < j) (hj : j < row.length) (hc : crossB row k j = true) (hz : z ∈ row.drop (j + 1)) (hm : ∀ a ∈ row.drop (j + 1), z ≤ a) :
    isSub [row.getD k 0, row.getD j 0, z] row = true ∧ z < row.getD k 0 ∧ row.getD k 0 < row.getD j 0 := by
  unfold crossB at hc
  rw [Bool.and_eq_true] at hc
  have c1 := of_decide_eq_true hc.1
  obtain ⟨u, hu, e⟩ := List.any_eq_true.mp hc.2
  have c2 := of_decide_eq_true e
  have c3 := hm u hu
  obtain ⟨m, hm1, hm2⟩ := List.getElem_of_mem hz
  rw [List.length_drop] at hm1
  rw [List.getElem_drop] at hm2
  have ek : row.getD k 0 = row[k]'(by omega) := by rw [List.getD_eq_getElem?_getD, List.getElem?_eq_getElem (by omega)]; rfl
  have ej : row.getD j 0 = row[j] := by rw [List.getD_eq_getElem?_getD, List.getElem?_eq_getElem hj]; rfl
  refine ⟨sub_isSub (sub_of_idx ?_ ?_), by omega, c1⟩
  · rw [ek, ej, ← hm2]
    have i1 := nd.idxOf_getElem k (by omega)
    have i2 := nd.idxOf_getElem j hj
    have i3 := nd.idxOf_getElem (j + 1 + m) (by omega)
    simp only [List.pairwise_cons, List.mem_cons, List.not_mem_nil, or_false]
    refine ⟨?_, ?_, ?_, List.Pairwise.nil⟩
    · rintro a (rfl | rfl)
      · rw [i1, i2]; omega
      · rw [i1, i3]; omega
    · rintro a rfl
      rw [i2, i3]; omega
    · intro a h; cases h
  · intro x hx
    simp only [List.mem_cons, List.not_mem_nil, or_false] at hx
    rcases hx with rfl | rfl | rfl
    · rw [ek]; exact List.getElem_mem _
    · rw [ej]; exact List.getElem_mem _
    · rw [← hm2]; exact List.getElem_mem _
end LW

/-! MY OWN: two stubs, or an odd ring: the nearest first, two ways back -/
namespace LW
open PySem L2
def Adj (row : List Int) (x y : Int) : Prop := (x, y) ∈ crossZ row ∨ (y, x) ∈ crossZ row
theorem Adj.symm {row : List Int} {x y : Int} (h : Adj row x y) : Adj row y x := h.elim .inr .inl
theorem cross_pair {row : List Int} {x y : Int} (nd : row.Nodup) (h : (x, y) ∈ crossZ row) : x ∈ row ∧ y ∈ row ∧ x < y ∧ row.idxOf x < row.idxOf y ∧ crossB row (row.idxOf x) (row.idxOf y) = true := by
  obtain ⟨k, j, h1, h2, h3, e⟩ := mem_crossZ.mp h
  injection e with e1 e2
  have ek : row.getD k 0 = row[k]'(by omega) := by rw [List.getD_eq_getElem?_getD, List.getElem?_eq_getElem (by omega)]; rfl
  have ej : row.getD j 0 = row[j] := by rw [List.getD_eq_getElem?_getD, List.getElem?_eq_getElem h2]; rfl
  have i1 : row.idxOf x = k := by rw [e1, ek]; exact nd.idxOf_getElem k (by omega)
  have i2 : row.idxOf y = j := by rw [e2, ej]; exact nd.idxOf_getElem j h2
  refine ⟨by rw [e1, ek]; exact List.getElem_mem _, by rw [e2, ej]; exact List.getElem_mem _, ?_, by rw [i1, i2]; exact h1, by rw [i1, i2]; exact h3⟩
  unfold crossB at h3
  rw [Bool.and_eq_true] at h3
  rw [e1, e2]
  exact of_decide_eq_true h3.1
theorem Adj.mem {row : List Int} {x y : Int} (nd : row.Nodup) (h : Adj row x y) : x ∈ row ∧ y ∈ row ∧ x ≠ y := by
  rcases h with h | h
  · obtain ⟨a, b, c, _⟩ := cross_pair nd h
    exact ⟨a, b, Int.ne_of_lt c⟩
  · obtain ⟨a, b, c, _⟩ := cross_pair nd h
    exact ⟨b, a, (Int.ne_of_lt c).symm⟩
theorem Adj.cross {row : List Int} {x y : Int} (nd : row.Nodup) (h : Adj row x y) : crossXY row x y = true := by
  unfold crossXY
  rcases h with h | h
  · obtain ⟨_, _, _, d, c⟩ := cross_pair nd h
    rw [Nat.min_eq_left (by omega), Nat.max_eq_right (by omega)]
    exact c
  · obtain ⟨_, _, _, d, c⟩ := cross_pair nd h
    rw [Nat.min_eq_right (by omega), Nat.max_eq_left (by omega)]
    exact c
/-- tracks that are given so far: who is on one is known with all that cross it, on the other one -/
structure CT (row : List Int) (kv : List (Key × V)) : Prop where
  kn : (kv.map (·.1)).Nodup
  kr : ∀ k ∈ kv.map (·.1), ∃ x ∈ row, k = .inl x
  vl : ∀ x v, valV kv (.inl x) = some v → v = .int 0 ∨ v = .int 1
  cl : ∀ x y v, Adj row x y → valV kv (.inl x) = some v → ∃ u, valV kv (.inl y) = some u ∧ u ≠ v
theorem CT.start (row : List Int) : CT row [] := ⟨List.nodup_nil, (fun k hk => nomatch hk), (fun x v h => nomatch h), (fun x y v _ h => nomatch h)⟩
theorem keys_le {row : List Int} {kv : List (Key × V)} (kn : (kv.map (·.1)).Nodup) (kr : ∀ k ∈ kv.map (·.1), ∃ x ∈ row, k = .inl x) : kv.length ≤ row.length := by
  have := kn.length_le_of_subset (l₂ := row.map Sum.inl) fun k hk => by
    obtain ⟨x, hx, rfl⟩ := kr k hk
    exact List.mem_map.mpr ⟨x, hx, rfl⟩
  rwa [List.length_map, List.length_map] at this
structure PF (row : List Int) (kv0 : List (Key × V)) (first : Int) (kv fb : List (Key × V)) (found : List Int) (dep : Int → Nat) (t : Nat) : Prop where
  nd : found.Nodup
  mem : ∀ x ∈ found, x ∈ row
  new : ∀ x ∈ found, valV kv0 (.inl x) = none
  old : ∀ x, x ∉ found → valV kv (.inl x) = valV kv0 (.inl x)
  col : ∀ x ∈ found, valV kv (.inl x) = some (.int ((dep x % 2 : Nat) : Int))
  hd : found[0]? = some first
  d0 : dep first = 0
  par : ∀ x ∈ found, x ≠ first → ∃ p, valV fb (.inl x) = some (.int p) ∧ p ∈ found ∧ dep x = dep p + 1 ∧ Adj row p x
  mono : found.Pairwise (fun a b => dep a ≤ dep b)
  front : ∀ u, found[t]? = some u → ∀ v ∈ found, dep v ≤ dep u + 1
  proc : ∀ u ∈ found.take t, ∀ v, Adj row u v → v ∈ found ∧ dep v ≤ dep u + 1 ∧ dep v % 2 ≠ dep u % 2
  kn : (kv.map (·.1)).Nodup
  kr : ∀ k ∈ kv.map (·.1), ∃ x ∈ row, k = .inl x
  fl : fb.length + 1 ≤ found.length
  tl : t ≤ found.length
theorem keys_put {row : List Int} {kv : List (Key × V)} {x : Int} {v : V} (kn : (kv.map (·.1)).Nodup) (kr : ∀ k ∈ kv.map (·.1), ∃ x ∈ row, k = .inl x) (hx : x ∈ row) (h : valV kv (.inl x) = none) :
    ((putK kv (.inl x) v).map (·.1)).Nodup ∧ ∀ k ∈ (putK kv (.inl x) v).map (·.1), ∃ x ∈ row, k = .inl x := by
  refine ⟨nd_putK v kn h, fun k hk => ?_⟩
  rw [putK_new v h, List.map_append] at hk
  rcases List.mem_append.mp hk with hk | hk
  · exact kr k hk
  · have : k = .inl x := by simpa using hk
    exact ⟨x, hx, this⟩
theorem PF.start {row : List Int} {kv0 : List (Key × V)} {first : Int} (C : CT row kv0) (hf : first ∈ row) (h : valV kv0 (.inl first) = none) : PF row kv0 first (putK kv0 (.inl first) (.int 0)) [] [first] (fun _ => 0) 0 := by
  obtain ⟨k1, k2⟩ := keys_put (v := .int 0) C.kn C.kr hf h
  refine ⟨by simp, fun x hx => ?_, fun x hx => ?_, fun x hx => ?_, fun x hx => ?_, rfl, rfl, fun x hx hne => ?_, List.pairwise_singleton _ _, fun u _ v _ => Nat.zero_le _, fun u hu => by simp at hu, k1, k2, Nat.le_refl _, Nat.zero_le _⟩
  · rw [List.mem_singleton.mp hx]; exact hf
  · rw [List.mem_singleton.mp hx]; exact h
  · rw [valV_put, if_neg (fun e => hx (by rw [Sum.inl.inj e]; simp))]
  · rw [List.mem_singleton.mp hx, valV_put, if_pos rfl]
    rfl
  · exact absurd (List.mem_singleton.mp hx) hne
section
variable {row : List Int} {kv0 : List (Key × V)} {first : Int} {kv fb : List (Key × V)} {found : List Int} {dep : Int → Nat} {t : Nat}
theorem PF.le (F : PF row kv0 first kv fb found dep t) : found.length ≤ row.length := nodup_len F.nd F.mem
theorem PF.kl (F : PF row kv0 first kv fb found dep t) : kv.length ≤ row.length := keys_le F.kn F.kr
theorem PF.add (F : PF row kv0 first kv fb found dep t) (nd : row.Nodup) {w o : Int} (hw : found[t]? = some w) (ha : Adj row w o) (ho : valV kv (.inl o) = none) :
    PF row kv0 first (putK kv (.inl o) (.int (1 - ((dep w % 2 : Nat) : Int)))) (putK fb (.inl o) (.int w)) (found ++ [o]) (fun x => if x = o then dep w + 1 else dep x) t := by
  have hwm : w ∈ found := List.mem_of_getElem? hw
  have hno : o ∉ found := fun z => by rw [F.col o z] at ho; cases ho
  have hor := (ha.mem nd).2.1
  have hwo : w ≠ o := (ha.mem nd).2.2
  obtain ⟨k1, k2⟩ := keys_put (v := .int (1 - ((dep w % 2 : Nat) : Int))) F.kn F.kr hor ho
  have dx : ∀ x, x ∈ found → (if x = o then dep w + 1 else dep x) = dep x := fun x hx => if_neg fun z : x = o => hno (z ▸ hx)
  have htl : t < found.length := (List.getElem?_eq_some_iff.mp hw).1
  have tk : (found ++ [o]).take t = found.take t := by rw [List.take_append_of_le_length F.tl]
  have hfm : first ∈ found := List.mem_of_getElem? F.hd
  have mm : ∀ {x}, x ∈ found ++ [o] → x ∈ found ∨ x = o := fun {x} hx => (List.mem_append.mp hx).imp id List.mem_singleton.mp
  refine ⟨nd_snoc F.nd hno, fun x hx => ?_, fun x hx => ?_, fun x hx => ?_, fun x hx => ?_, ?_, ?_, fun x hx hne => ?_, ?_, fun u hu v hv => ?_, fun u hu v hv => ?_, k1, k2, ?_, ?_⟩
  · rcases mm hx with h | h
    · exact F.mem x h
    · rw [h]; exact hor
  · rcases mm hx with h | h
    · exact F.new x h
    · rw [h, ← F.old o hno]; exact ho
  · have h1 : x ∉ found := fun z => hx (List.mem_append_left _ z)
    have h2 : x ≠ o := fun z => hx (by rw [z]; simp)
    rw [valV_put, if_neg (fun e => h2 (Sum.inl.inj e))]
    exact F.old x h1
  · rcases mm hx with h | h
    · rw [valV_put, if_neg (fun e => hno (by rw [← Sum.inl.inj e]; exact h)), F.col x h]
      show _ = some (V.int (((if x = o then dep w + 1 else dep x) % 2 : Nat) : Int))
      rw [dx x h]
    · subst h
      rw [valV_put, if_pos rfl]
      show _ = some (V.int (((if x = x then dep w + 1 else dep x) % 2 : Nat) : Int))
      rw [if_pos rfl]
      congr 2
      omega
  · rw [List.getElem?_append_left (by omega)]
    exact F.hd
  · show (if first = o then dep w + 1 else dep first) = 0
    rw [dx first hfm]; exact F.d0
  · rcases mm hx with h | h
    · obtain ⟨p, a1, a2, a3, a4⟩ := F.par x h hne
      refine ⟨p, ?_, List.mem_append_left _ a2, ?_, a4⟩
      · rw [valV_put, if_neg (fun e => hno (by rw [← Sum.inl.inj e]; exact h))]
        exact a1
      · show (if x = o then dep w + 1 else dep x) = (if p = o then dep w + 1 else dep p) + 1
        rw [dx x h, dx p a2]; exact a3
    · subst h
      refine ⟨w, by rw [valV_put, if_pos rfl], List.mem_append_left _ hwm, ?_, ha⟩
      show (if x = x then dep w + 1 else dep x) = (if w = x then dep w + 1 else dep w) + 1
      rw [if_pos rfl, dx w hwm]
  · rw [List.pairwise_append]
    refine ⟨F.mono.imp_of_mem fun {a b} ha hb z => ?_, List.pairwise_singleton _ _, fun a ha b hb => ?_⟩
    · show (if a = o then dep w + 1 else dep a) ≤ (if b = o then dep w + 1 else dep b)
      rw [dx a ha, dx b hb]; exact z
    · rw [List.mem_singleton.mp hb]
      show (if a = o then dep w + 1 else dep a) ≤ (if o = o then dep w + 1 else dep o)
      rw [dx a ha, if_pos rfl]
      exact F.front w hw a ha
  · rw [List.getElem?_append_left htl, hw] at hu
    have hu := (Option.some.inj hu).symm
    subst hu
    show (if v = o then dep u + 1 else dep v) ≤ (if u = o then dep u + 1 else dep u) + 1
    rw [dx u hwm]
    rcases mm hv with h | h
    · rw [dx v h]; exact F.front u hw v h
    · rw [if_pos h]; exact Nat.le_refl _
  · rw [tk] at hu
    have hum : u ∈ found := List.take_subset _ _ hu
    obtain ⟨a1, a2, a3⟩ := F.proc u hu v hv
    refine ⟨List.mem_append_left _ a1, ?_, ?_⟩
    · show (if v = o then dep w + 1 else dep v) ≤ (if u = o then dep w + 1 else dep u) + 1
      rw [dx v a1, dx u hum]; exact a2
    · show (if v = o then dep w + 1 else dep v) % 2 ≠ (if u = o then dep w + 1 else dep u) % 2
      rw [dx v a1, dx u hum]; exact a3
  · rw [List.length_append, List.length_singleton]
    have := length_putK fb (Sum.inl o : Key) (.int w)
    have := F.fl
    omega
  · rw [List.length_append]; exact Nat.le_trans F.tl (Nat.le_add_right _ _)
theorem PF.next (F : PF row kv0 first kv fb found dep t) {w : Int} (hw : found[t]? = some w) (h : ∀ v, Adj row w v → v ∈ found ∧ dep v ≤ dep w + 1 ∧ dep v % 2 ≠ dep w % 2) : PF row kv0 first kv fb found dep (t + 1) := by
  have htl := (List.getElem?_eq_some_iff.mp hw).1
  refine ⟨F.nd, F.mem, F.new, F.old, F.col, F.hd, F.d0, F.par, F.mono, fun u hu v hv => ?_, fun u hu v hv => ?_, F.kn, F.kr, F.fl, htl⟩
  · have h1 := F.front w hw v hv
    obtain ⟨hu1, hu2⟩ := List.getElem?_eq_some_iff.mp hu
    obtain ⟨hw1, hw2⟩ := List.getElem?_eq_some_iff.mp hw
    have := List.pairwise_iff_getElem.mp F.mono t (t + 1) hw1 hu1 (by omega)
    rw [hw2, hu2] at this
    omega
  · rw [List.take_add_one, hw] at hu
    rcases List.mem_append.mp hu with hu | hu
    · exact F.proc u hu v hv
    · have := List.mem_singleton.mp hu
      subst this
      exact h v hv
theorem PF.colored (F : PF row kv0 first kv fb found dep t) (C : CT row kv0) {w o : Int} {v : V} (hw : w ∈ found) (ha : Adj row w o) (ho : valV kv (.inl o) = some v) : o ∈ found := by
  refine Decidable.byContradiction fun z => ?_
  rw [F.old o z] at ho
  obtain ⟨u, hu, _⟩ := C.cl o w v ha.symm ho
  rw [F.new w hw] at hu
  cases hu
theorem PF.level (F : PF row kv0 first kv fb found dep t) {w o : Int} (hw : found[t]? = some w) (ha : Adj row w o) (ho : o ∈ found) (he : dep o % 2 = dep w % 2) : dep o = dep w := by
  have h1 := F.front w hw o ho
  have h2 : dep w ≤ dep o + 1 := by
    obtain ⟨k, hk, e⟩ := List.getElem_of_mem ho
    obtain ⟨hw1, hw2⟩ := List.getElem?_eq_some_iff.mp hw
    rcases Nat.lt_trichotomy k t with z | z | z
    · exact (F.proc o (mem_take_of (by rw [List.getElem?_eq_getElem hk, e]) z) w ha.symm).2.1
    · subst z
      rw [← e, ← hw2]; omega
    · have := List.pairwise_iff_getElem.mp F.mono t k hw1 hk z
      rw [hw2, e] at this
      omega
  omega
theorem PF.fin (F : PF row kv0 first kv fb found dep t) (C : CT row kv0) (nd : row.Nodup) (ht : found.length ≤ t) : CT row kv ∧ (∀ x, valV kv0 (.inl x) ≠ none → valV kv (.inl x) ≠ none) ∧ valV kv (.inl first) ≠ none := by
  have tk : found.take t = found := List.take_of_length_le ht
  refine ⟨⟨F.kn, F.kr, fun x v h => ?_, fun x y v ha h => ?_⟩, fun x h => ?_, ?_⟩
  · by_cases hx : x ∈ found
    · rw [F.col x hx] at h
      have := Option.some.inj h
      have : dep x % 2 = 0 ∨ dep x % 2 = 1 := by omega
      rcases this with e | e
      · left; rw [← ‹_ = v›, e]; rfl
      · right; rw [← ‹_ = v›, e]; rfl
    · rw [F.old x hx] at h
      exact C.vl x v h
  · by_cases hx : x ∈ found
    · obtain ⟨a1, a2, a3⟩ := F.proc x (by rw [tk]; exact hx) y ha
      refine ⟨_, F.col y a1, fun z => a3 ?_⟩
      rw [F.col x hx] at h
      rw [← Option.some.inj h] at z
      injection z with z
      omega
    · rw [F.old x hx] at h
      obtain ⟨u, h1, h2⟩ := C.cl x y v ha h
      refine ⟨u, ?_, h2⟩
      rw [F.old y fun z => ?_]
      · exact h1
      · rw [F.new y z] at h1
        cases h1
  · by_cases hx : x ∈ found
    · exact absurd (F.new x hx) h
    · rw [F.old x hx]; exact h
  · rw [F.col first (List.mem_of_getElem? F.hd)]
    intro z
    cases z
end
/-- the two ways back, step by step -/
structure RW2 (row : List Int) (fb : List (Key × V)) (found : List Int) (first : Int) (dep : Int → Nat) (w o : Int) (way ow : List Int) : Prop where
  len : way.length = ow.length
  pos : 1 ≤ way.length
  h0 : way.getD 0 0 = w
  o0 : ow.getD 0 0 = o
  dw : ∀ i, i < way.length → way.getD i 0 ∈ found ∧ dep (way.getD i 0) + i = dep w
  dv : ∀ i, i < way.length → ow.getD i 0 ∈ found ∧ dep (ow.getD i 0) + i = dep w
  aw : ∀ i, i + 1 < way.length → Adj row (way.getD i 0) (way.getD (i + 1) 0)
  ao : ∀ i, i + 1 < way.length → Adj row (ow.getD i 0) (ow.getD (i + 1) 0)
  ne : ∀ i, i + 1 < way.length → way.getD i 0 ≠ ow.getD i 0
theorem getD_snoc_lt {l : List Int} {x : Int} {i : Nat} (h : i < l.length) : (l ++ [x]).getD i 0 = l.getD i 0 := by
  rw [List.getD_eq_getElem?_getD, List.getElem?_append_left h, ← List.getD_eq_getElem?_getD]
theorem getD_snoc_eq {l : List Int} {x : Int} {i : Nat} (h : i = l.length) : (l ++ [x]).getD i 0 = x := by
  rw [List.getD_eq_getElem?_getD, h, List.getElem?_append_right (Nat.le_refl _), Nat.sub_self]
  rfl
theorem RW2.start {row : List Int} {fb : List (Key × V)} {found : List Int} {first w o : Int} {dep : Int → Nat} (hw : w ∈ found) (ho : o ∈ found) (hd : dep o = dep w) : RW2 row fb found first dep w o [w] [o] := by
  refine ⟨rfl, Nat.le_refl _, rfl, rfl, fun i hi => ?_, fun i hi => ?_, fun i hi => ?_, fun i hi => ?_, fun i hi => ?_⟩
  · have : i = 0 := by simpa using hi
    subst this; exact ⟨hw, rfl⟩
  · have : i = 0 := by simpa using hi
    subst this; exact ⟨ho, hd⟩
  all_goals (simp at hi)
theorem RW2.next {row : List Int} {kv0 : List (Key × V)} {kv fb : List (Key × V)} {found : List Int} {first w o : Int} {dep : Int → Nat} {t : Nat} {way ow : List Int} (F : PF row kv0 first kv fb found dep t) (R : RW2 row fb found first dep w o way ow)
    (hne : lastZ way ≠ lastZ ow) : ∃ p q, valV fb (.inl (lastZ way)) = some (.int p) ∧ valV fb (.inl (lastZ ow)) = some (.int q) ∧ RW2 row fb found first dep w o (way ++ [p]) (ow ++ [q]) ∧ way.length ≤ dep w := by
  have hp := R.pos
  have hl := R.len
  obtain ⟨w1, w2⟩ := R.dw (way.length - 1) (by omega)
  obtain ⟨o1, o2⟩ := R.dv (way.length - 1) (by omega)
  have ew : lastZ way = way.getD (way.length - 1) 0 := rfl
  have eo : lastZ ow = ow.getD (way.length - 1) 0 := by unfold lastZ; rw [hl]
  rw [← ew] at w1 w2
  rw [← eo] at o1 o2
  have zero : ∀ x ∈ found, dep x = 0 → x = first := fun x hx h => by
    refine Decidable.byContradiction fun z => ?_
    obtain ⟨p, _, _, e, _⟩ := F.par x hx z
    omega
  have hw : lastZ way ≠ first := fun z => by
    have h1 : dep (lastZ way) = 0 := by rw [z]; exact F.d0
    exact hne (z.trans (zero _ o1 (by omega)).symm)
  have ho : lastZ ow ≠ first := fun z => by
    have h1 : dep (lastZ ow) = 0 := by rw [z]; exact F.d0
    exact hne ((zero _ w1 (by omega)).trans z.symm)
  obtain ⟨p, p1, p2, p3, p4⟩ := F.par _ w1 hw
  obtain ⟨q, q1, q2, q3, q4⟩ := F.par _ o1 ho
  refine ⟨p, q, p1, q1, ⟨?_, ?_, ?_, ?_, fun i hi => ?_, fun i hi => ?_, fun i hi => ?_, fun i hi => ?_, fun i hi => ?_⟩, by omega⟩
  · rw [List.length_append, List.length_append, hl]; rfl
  · rw [List.length_append]; omega
  · rw [getD_snoc_lt (by omega)]; exact R.h0
  · rw [getD_snoc_lt (by omega)]; exact R.o0
  · rw [List.length_append, List.length_singleton] at hi
    rcases Nat.lt_or_ge i way.length with h | h
    · rw [getD_snoc_lt h]; exact R.dw i h
    · rw [getD_snoc_eq (by omega)]; exact ⟨p2, by omega⟩
  · rw [List.length_append, List.length_singleton] at hi
    rcases Nat.lt_or_ge i way.length with h | h
    · rw [getD_snoc_lt (by omega)]; exact R.dv i h
    · rw [getD_snoc_eq (by omega)]; exact ⟨q2, by omega⟩
  · rw [List.length_append, List.length_singleton] at hi
    rcases Nat.lt_or_ge (i + 1) way.length with h | h
    · rw [getD_snoc_lt (by omega), getD_snoc_lt h]; exact R.aw i h
    · rw [getD_snoc_lt (by omega), getD_snoc_eq (by omega), show i = way.length - 1 by omega, ← ew]; exact p4.symm
  · rw [List.length_append, List.length_singleton] at hi
    rcases Nat.lt_or_ge (i + 1) way.length with h | h
    · rw [getD_snoc_lt (by omega), getD_snoc_lt (by omega)]; exact R.ao i h
    · rw [getD_snoc_lt (by omega), getD_snoc_eq (by omega), show i = way.length - 1 by omega, ← eo]; exact q4.symm
  · rw [List.length_append, List.length_singleton] at hi
    rw [getD_snoc_lt (by omega), getD_snoc_lt (by omega)]
    rcases Nat.lt_or_ge (i + 1) way.length with h | h
    · exact R.ne i h
    · rw [show i = way.length - 1 by omega, ← ew, ← eo]; exact hne
theorem ring_get {way ow : List Int} (hl : way.length = ow.length) (hp : 1 ≤ way.length) {k : Nat} (hk : k < 2 * way.length - 1) :
    (way ++ ow.dropLast.reverse).getD k 0 = if k < way.length then way.getD k 0 else ow.getD (2 * way.length - 2 - k) 0 := by
  rw [List.getD_eq_getElem?_getD]
  split
  · rename_i h
    rw [List.getElem?_append_left h, ← List.getD_eq_getElem?_getD]
  · rename_i h
    rw [List.getElem?_append_right (by omega), List.getElem?_reverse (by rw [List.length_dropLast]; omega), List.length_dropLast, List.getElem?_dropLast, if_pos (by omega), ← List.getD_eq_getElem?_getD]
    congr 1
    omega
theorem RW2.ring {row : List Int} {kv0 : List (Key × V)} {kv fb : List (Key × V)} {found : List Int} {first w o : Int} {dep : Int → Nat} {t : Nat} {way ow : List Int} (F : PF row kv0 first kv fb found dep t) (nd : row.Nodup) (R : RW2 row fb found first dep w o way ow) (ha : Adj row w o)
    (he : lastZ way = lastZ ow) : RingOk row (way ++ ow.dropLast.reverse) := by
  have hp := R.pos
  have hl := R.len
  have hwo := (ha.mem nd).2.2
  have h2 : 2 ≤ way.length := by
    refine Decidable.byContradiction fun z => ?_
    have e1 : way.length = 1 := by omega
    unfold lastZ at he
    rw [← hl, e1, R.h0, R.o0] at he
    exact hwo he
  have len : (way ++ ow.dropLast.reverse).length = 2 * way.length - 1 := by
    rw [List.length_append, List.length_reverse, List.length_dropLast]; omega
  have get := fun {k} => ring_get (k := k) hl hp
  have dk : ∀ k, k < 2 * way.length - 1 → (way ++ ow.dropLast.reverse).getD k 0 ∈ found := fun k hk => by
    rw [get hk]
    split
    · exact (R.dw k ‹_›).1
    · exact (R.dv _ (by omega)).1
  refine ⟨by rw [len]; omega, by rw [len]; omega, ?_, fun x hx => ?_, fun k hk => ?_⟩
  · rw [List.nodup_iff_pairwise_ne, List.pairwise_iff_getElem]
    intro i j hi hj hij e
    rw [len] at hi hj
    have gi : (way ++ ow.dropLast.reverse)[i]'(by rw [len]; exact hi) = (way ++ ow.dropLast.reverse).getD i 0 := by rw [List.getD_eq_getElem?_getD, List.getElem?_eq_getElem (by rw [len]; exact hi)]; rfl
    have gj : (way ++ ow.dropLast.reverse)[j]'(by rw [len]; exact hj) = (way ++ ow.dropLast.reverse).getD j 0 := by rw [List.getD_eq_getElem?_getD, List.getElem?_eq_getElem (by rw [len]; exact hj)]; rfl
    rw [gi, gj, get hi, get hj] at e
    by_cases h1 : i < way.length
    · rw [if_pos h1] at e
      have d1 := (R.dw i h1).2
      by_cases h3 : j < way.length
      · rw [if_pos h3] at e
        have d2 := (R.dw j h3).2
        rw [e] at d1; omega
      · rw [if_neg h3] at e
        have d2 := (R.dv (2 * way.length - 2 - j) (by omega)).2
        rw [e] at d1
        have e3 : i = 2 * way.length - 2 - j := by omega
        rw [← e3] at e
        exact R.ne i (by omega) e
    · have h3 : ¬ j < way.length := by omega
      rw [if_neg h1, if_neg h3] at e
      have d1 := (R.dv (2 * way.length - 2 - i) (by omega)).2
      have d2 := (R.dv (2 * way.length - 2 - j) (by omega)).2
      rw [e] at d1; omega
  · obtain ⟨k, hk, e⟩ := List.getElem_of_mem hx
    rw [len] at hk
    have := dk k hk
    rw [List.getD_eq_getElem?_getD, List.getElem?_eq_getElem (by rw [len]; exact hk)] at this
    rw [← e]
    exact F.mem _ this
  · rw [len] at hk ⊢
    refine Adj.cross nd ?_
    by_cases h0 : k = 0
    · subst h0
      have e1 : (0 + (2 * way.length - 1) - 1) % (2 * way.length - 1) = 2 * way.length - 2 := by rw [Nat.mod_eq_of_lt (by omega)]; omega
      rw [e1, get (by omega), get hk, if_neg (by omega), if_pos (by omega), Nat.sub_self, R.h0, R.o0]
      exact ha.symm
    · have e1 : (k + (2 * way.length - 1) - 1) % (2 * way.length - 1) = k - 1 := by
        rw [show k + (2 * way.length - 1) - 1 = (k - 1) + (2 * way.length - 1) by omega, Nat.add_mod_right, Nat.mod_eq_of_lt (by omega)]
      rw [e1, get (by omega), get hk]
      by_cases h1 : k < way.length
      · rw [if_pos (by omega), if_pos h1]
        have := R.aw (k - 1) (by omega)
        rwa [show k - 1 + 1 = k by omega] at this
      · rw [if_neg h1]
        have a1 := R.ao (2 * way.length - 2 - k) (by omega)
        by_cases h3 : k - 1 < way.length
        · rw [if_pos h3]
          have e2 : k = way.length := by omega
          have ew : lastZ way = way.getD (way.length - 1) 0 := rfl
          have eo : lastZ ow = ow.getD (way.length - 1) 0 := by unfold lastZ; rw [hl]
          rw [show k - 1 = way.length - 1 by omega, ← ew, he, eo]
          rw [show 2 * way.length - 2 - k + 1 = way.length - 1 by omega] at a1
          exact a1.symm
        · rw [if_neg h3]
          rw [show 2 * way.length - 2 - k + 1 = 2 * way.length - 2 - (k - 1) by omega] at a1
          exact a1.symm
theorem CT.noCross {row : List Int} {kv : List (Key × V)} (C : CT row kv) (hall : ∀ x ∈ row, valV kv (.inl x) ≠ none) : (∀ x ∈ row, valV kv (.inl x) = some (.int (trkF kv x : Int))) ∧ (∀ x ∈ row, trkF kv x < 2) ∧ NoCross row (trkF kv) := by
  have vals : ∀ x ∈ row, valV kv (.inl x) = some (.int (trkF kv x : Int)) ∧ trkF kv x < 2 := fun x hx => by
    cases e : valV kv (.inl x) with
    | none => exact absurd e (hall x hx)
    | some v =>
      rcases C.vl x v e with h | h
      · subst h
        rw [trkF_of (n := 0) e]; exact ⟨rfl, by omega⟩
      · subst h
        rw [trkF_of (n := 1) e]; exact ⟨rfl, by omega⟩
  refine ⟨fun x hx => (vals x hx).1, fun x hx => (vals x hx).2, fun i j hij hj hf => ?_⟩
  cases e : crossB row i j with
  | false => rfl
  | true =>
    have ha : Adj row (row.getD i 0) (row.getD j 0) := .inl (mem_crossZ.mpr ⟨i, j, hij, hj, e, rfl⟩)
    obtain ⟨h1, _⟩ := vals (row.getD i 0) (getD_mem' (by omega))
    obtain ⟨h2, _⟩ := vals (row.getD j 0) (getD_mem' hj)
    obtain ⟨u, h3, h4⟩ := C.cl _ _ _ ha h1
    rw [h2, ← hf] at h3
    exact absurd (Option.some.inj h3).symm h4
end LW

/-! MY OWN: what the stubs' functions promise -/
namespace LW
open PySem L2
theorem plan_put {H3 : Hp} {dd tp : Addr} {rs : List Addr} {ds : List (Bool × Int)} {b : Bool} {nn : Int} (hdd : H3 dd = some (.lst (rs.map V.ref))) (pl : PlanAt H3 rs ds) (etp : H3 tp = none) (hn : nn.natAbs < 2 ^ 40) :
    (upd H3 tp (.tup [wayV b, .int nn])) dd = some (.lst (rs.map V.ref)) ∧
    (upd (upd H3 tp (.tup [wayV b, .int nn])) dd (.lst (rs.map V.ref ++ [.ref tp]))) dd = some (.lst ((rs ++ [tp]).map V.ref)) ∧
    PlanAt (upd (upd H3 tp (.tup [wayV b, .int nn])) dd (.lst (rs.map V.ref ++ [.ref tp]))) (rs ++ [tp]) (ds ++ [(b, nn)]) ∧
    ∀ x o, x ≠ dd → H3 x = some o → (upd (upd H3 tp (.tup [wayV b, .int nn])) dd (.lst (rs.map V.ref ++ [.ref tp]))) x = some o := by
  have t1 := same_new (o := .tup [wayV b, .int nn]) etp
  have htp : (upd H3 tp (.tup [wayV b, .int nn])) tp = some (.tup [wayV b, .int nn]) := upd_same
  have hd1 := t1 _ _ hdd
  have pl1 := pl.same t1
  have kp : ∀ e xs, (upd H3 tp (.tup [wayV b, .int nn])) e = some (.tup xs) → (upd (upd H3 tp (.tup [wayV b, .int nn])) dd (.lst (rs.map V.ref ++ [.ref tp]))) e = some (.tup xs) := fun e xs he => by
    rw [upd_ne (ne_of he hd1 (by intro z; cases z))]
    exact he
  refine ⟨hd1, upd_same.trans (by rw [List.map_append]; rfl), (pl1.keeps kp).snoc (kp _ _ htp) hn, fun x o hx e => ?_⟩
  rw [upd_ne hx]
  exact t1 _ _ e
def spLesser : Sp := fun vs H Q _ => ∃ (ar tp : Addr) (row : List Int) (k j : Nat), vs = [.ref ar, .ref tp] ∧ H ar = some (.lst (row.map V.int)) ∧ H tp = some (.tup [.int (row.getD k 0), .int (row.getD j 0)]) ∧ row.Nodup ∧ row.length ≤ 62 ∧ k < j ∧ j < row.length ∧ crossB row k j = true ∧
  ∀ (l : Addr) (H' : Hp) (z : Int), Same H H' → H' l = some (.lst [.int (row.getD k 0), .int (row.getD j 0), .int z]) → z ∈ row.drop (j + 1) → (∀ a ∈ row.drop (j + 1), z ≤ a) → Q (.ref l) H'
theorem cross_behind {row : List Int} {k j : Nat} (h : crossB row k j = true) : 0 < (row.drop (j + 1)).length := by
  unfold crossB at h
  rw [Bool.and_eq_true] at h
  obtain ⟨u, hu, _⟩ := List.any_eq_true.mp h.2
  exact List.length_pos_iff.mpr (List.ne_nil_of_mem hu)
theorem nodup_first {row : List Int} (nd : row.Nodup) {j : Nat} (hj : j < row.length) : row[j]? = some (row.getD j 0) ∧ ∀ m, m < j → row[m]? ≠ some (row.getD j 0) := by
  have e : row.getD j 0 = row[j] := by rw [List.getD_eq_getElem?_getD, List.getElem?_eq_getElem hj]; rfl
  rw [e]
  refine ⟨List.getElem?_eq_getElem hj, fun m hm z => ?_⟩
  obtain ⟨h1, h2⟩ := List.getElem?_eq_some_iff.mp z
  have := (List.getElem_inj nd).mp h2
  omega
end LW

/-! MY OWN: sep.join(list); plans as texts -/
namespace L2
open PySem PySem.Spec PyProof.Rows PySem.W PySem.Calls PySem.Builtin PySem.Builtin.Str
section
variable {X : Cx}
theorem strs_of : ∀ {ss : List Str} {us : List Value}, Vals (ss.map V.str) us → ∃ l : List (Str × Tok), us = strValues l ∧ l.map (·.1) = ss
  | [], _, r => by rw [List.map_nil] at r; cases r; exact ⟨[], rfl, rfl⟩
  | x :: ss, _, r => by
    rw [List.map_cons] at r
    cases r with
    | cons h t =>
      obtain ⟨tk, rfl⟩ := h
      obtain ⟨l, rfl, rfl⟩ := strs_of t
      exact ⟨(x, tk) :: l, rfl, rfl⟩
def rJoin (K : PySem.W.Frag) : V → List V → Hp → VK → Prop := fun x vs H Q => ∃ (sep : Str) (p : Addr) (ss : List Str), x = .str sep ∧ vs = [.ref p] ∧ SqL K H p (ss.map V.str) ∧ tooLong (ss.toArray.foldl (· + ·.length + sep.length) 0) = false ∧ (glued sep ss).length ≤ sizeLine ∧ Q (.str (glued sep ss)) H
theorem mt_join : MtR X "str.join" (rJoin X.K) := by
  intro pins s σ H x vs v us Q I rx rv h
  obtain ⟨sep, p, ss, rfl, rfl, hq, hl, hg, q⟩ := h
  obtain ⟨t, rfl⟩ := rx
  obtain ⟨u, rfl, ru⟩ := rv.one
  cases ru
  obtain ⟨its, r, pl, hz⟩ := I.list hq
  obtain ⟨l, rfl, el⟩ := strs_of r
  refine call_meets F.slot_str_join (typeIs_str _ _ _) F.entry_str_join (F.args_str_join_2 _ _) (meets_str_join_list sep t p l (by rw [el]; exact hl)) ⟨pl.isList, ?_⟩
  subst el
  match l with
  | [] => exact ⟨hg, .str _, H, I.tok _, ⟨_, rfl⟩, q⟩
  | [w] => exact ⟨.str _, H, I, ⟨_, rfl⟩, q⟩
  | w :: w' :: l => exact ⟨hg, .str _, H, I.tok _, ⟨_, rfl⟩, q⟩
end
end L2
namespace LW
open PySem L2
def wordS (d : Bool × Int) : Str := (if d.1 = true then ("+" : Str) else "-") ++ Str.ofString (toString d.2)
def spWord : Sp := fun vs H Q _ => ∃ (r : Addr) (b : Bool) (n : Int), vs = [.ref r] ∧ H r = some (.tup [wayV b, .int n]) ∧ 0 ≤ n ∧ n < 1000000 ∧ Q (.str (wordS (b, n))) H
theorem word_pos (d : Bool × Int) : 0 < (wordS d).cps.size := by
  obtain ⟨b, n⟩ := d
  show 0 < (((if b = true then ("+" : Str) else "-") : Str).cps ++ (Str.ofString (toString n)).cps).size
  rw [Array.size_append]
  cases b
  · show 0 < 1 + _; omega
  · show 0 < 1 + _; omega
theorem stepS_cps {t : Str} (h : 0 < t.cps.size) (d : Bool × Int) : (stepS t d).cps = t.cps ++ (" " : Str).cps ++ (wordS d).cps := by
  have hne : t ≠ "" := fun z => by rw [z] at h; exact absurd h (by decide)
  unfold stepS wordS
  rw [if_neg hne]
  show ((t.cps ++ (" " : Str).cps) ++ _) ++ _ = (t.cps ++ (" " : Str).cps) ++ (_ ++ _)
  rw [Array.append_assoc]
theorem textS_cps : ∀ (ds : List (Bool × Int)) (t : Str), 0 < t.cps.size → (ds.foldl stepS t).cps = (ds.map wordS).foldl (fun acc p => acc ++ (" " : Str).cps ++ p.cps) t.cps
  | [], t, _ => rfl
  | d :: ds, t, h => by
    have e := stepS_cps h d
    have h' : 0 < (stepS t d).cps.size := by
      rw [e, Array.size_append, Array.size_append]
      omega
    show (ds.foldl stepS (stepS t d)).cps = _
    rw [textS_cps ds _ h', e]
    rfl
theorem textS_glued : ∀ ds : List (Bool × Int), textS ds = Builtin.Str.glued " " (ds.map wordS)
  | [] => rfl
  | d :: ds => by
    have e0 : stepS "" d = wordS d := by
      unfold stepS wordS
      rw [if_pos rfl]
      show (⟨(#[] ++ _) ++ _⟩ : Str) = ⟨_ ++ _⟩
      rw [Array.empty_append]
    show ds.foldl stepS (stepS "" d) = _
    rw [e0]
    have := textS_cps ds (wordS d) (word_pos d)
    show _ = (⟨(ds.map wordS).foldl (fun acc p => acc ++ (" " : Str).cps ++ p.cps) (wordS d).cps⟩ : Str)
    rw [← this]
theorem word_len {d : Bool × Int} (h0 : 0 ≤ d.2) (h1 : d.2 < 1000000) : (wordS d).length ≤ 1922 := by
  have := PyProof.Rows.int_text_len_1921 (i := d.2) (log2_small (by omega))
  obtain ⟨b, n⟩ := d
  unfold wordS
  rw [PySem.Str.length_append]
  have ls : (if b = true then ("+" : Str) else "-").length = 1 := by cases b <;> rfl
  show (if b = true then ("+" : Str) else "-").length + _ ≤ _
  rw [ls]
  have : (Str.ofString (toString n)).length ≤ 1921 := this
  omega
theorem join_fits : ∀ {ss : List Str} {m n : Nat}, (∀ x ∈ ss, x.length ≤ 1922) → ss.foldl (fun a x => a + x.length + (" " : Str).length) m ≤ m + 1923 * ss.length
  | [], m, n, _ => Nat.le_refl _
  | x :: ss, m, n, h => by
    have h1 := h x List.mem_cons_self
    have := join_fits (ss := ss) (m := m + x.length + (" " : Str).length) (n := n) fun y hy => h y (List.mem_cons_of_mem _ hy)
    have e : (" " : Str).length = 1 := rfl
    rw [e] at this
    show ss.foldl (fun a x => a + x.length + (" " : Str).length) (m + x.length + (" " : Str).length) ≤ _
    rw [List.length_cons, e]
    omega
theorem join_ok {ss : List Str} (h : ∀ x ∈ ss, x.length ≤ 1922) (l : ss.length ≤ 200) : Builtin.Str.tooLong (ss.toArray.foldl (· + ·.length + (" " : Str).length) 0) = false := by
  have := join_fits (ss := ss) (m := 0) (n := 0) h
  unfold Builtin.Str.tooLong
  rw [List.foldl_toArray]
  have hs : sizeLine = 16777216 := sizeLine_eq
  exact decide_eq_false (by omega)
theorem textS_len : ∀ (ds : List (Bool × Int)) (t : Str), (∀ d ∈ ds, 0 ≤ d.2 ∧ d.2 < 1000000) → (ds.foldl stepS t).length ≤ t.length + 1923 * ds.length
  | [], t, _ => Nat.le_refl _
  | d :: ds, t, h => by
    have h1 := textS_len ds (stepS t d) fun x hx => h x (List.mem_cons_of_mem _ hx)
    have h2 := word_len (h d List.mem_cons_self).1 (h d List.mem_cons_self).2
    have h3 : (stepS t d).length ≤ t.length + 1923 := by
      unfold stepS
      unfold wordS at h2
      rw [PySem.Str.length_append] at h2
      rw [PySem.Str.length_append, PySem.Str.length_append]
      split
      · omega
      · rw [PySem.Str.length_append]
        have : (" " : Str).length = 1 := rfl
        omega
    show (ds.foldl stepS (stepS t d)).length ≤ _
    rw [List.length_cons]
    omega
end LW

/-! MY OWN: a comprehension through which an exception passes -/
namespace L2
open PySem PySem.Spec PyProof.Rows
theorem noteFrame_frame {x : Value} {e1 e2 : Env} (h : e1.frame = e2.frame) : noteFrame x e1 = noteFrame x e2 := by
  unfold noteFrame PySem.frameOf
  rw [h]
theorem passOn_frame {α : Type} {w : String} {x : Value} {e1 e2 : Env} (h : e1.frame = e2.frame) : (PySem.passOn w x e1 : Sem α) = PySem.passOn w x e2 := by
  unfold PySem.passOn
  rw [h]
section
variable {M : Model} {A : Around} {E : Value → Shared → Prop} {env : Env} {s : Shared}
theorem comprehension_X {e : Expr} {scope : Scope} {pos : Pos} {newAcc first : Sem Value} {g : Comprehension} {gs : List Comprehension} {cl : List (Str × Addr)} {Q : Value → Shared → Prop}
    (hcl : clausesOf e = g :: gs) (hs : ∀ x, foldedSetIterable g.iter env x = pure x) (hclos : closureFor scope env = pure cl)
    (hkind : scope.kind = .function) (hnames : ∀ x ∈ scope.names, x.2 = .local → scope.names.lookup x.1 = some .local)
    (h : wpAny M A first (fun x s₁ => wpAny M A (pyIter x) (fun it s₂ => wpAny M A newAcc (fun acc s₃ =>
      wpAny M A (newFunctionEnv scope env.globals cl [] env.qual none .none (some env)) (fun cenv s₄ => cenv.frame = env.frame ∧
        codeAny M A (.compStart e 0 it acc { cenv with scope := relabel scope env }) (fun r s' => match r with
          | .ok _ => ∃ m, s'.heap.Ns cenv.locals m ∧ ∀ h', Heap.SameBut cenv.locals s'.heap h' → Q acc { s' with heap := h' }
          | .error x => ∃ m, s'.heap.Ns cenv.locals m ∧ ∀ h', Heap.SameBut cenv.locals s'.heap h' → wpAny M A (PySem.passOn "comprehension.variables-let-go" x env : Sem Value) (fun _ _ => False) E { s' with heap := h' }) s₄) E s₃) E s₂) E s₁) E s) :
    wpAny M A (comprehension e scope env pos newAcc false first none) Q E s := by
  unfold comprehension
  rw [hclos, hcl]
  refine wpAny_bind (thn h fun x s₁ h₁ => wpAny_bind (wpAny_standAt (wpAny_bind (wpAny_of_eq (hs x) (wpAny_bind (wpAny_holding (thn h₁ fun it s₂ h₂ =>
    wpAny_standIf (wpAny_bind (thn h₂ fun acc s₃ h₃ => wpAny_bind (wpAny_pure (wpAny_bind (thn h₃ fun cenv s₄ h₄ => ?_))))))))))))
  obtain ⟨hf, h₄⟩ := h₄
  dsimp only
  have hv : ∀ x ∈ (scope.names.filter fun x => (x.2 == .local || x.2 == .cell) && x.1 != (".0" : Str)).reverse, x.2 = .local →
      Env.kindOf { cenv with scope := relabel scope env } x.1 = some .local := fun x hx hl => lookup_relabel_local (hnames x (List.mem_filter.mp (List.mem_reverse.mp hx)).1 hl)
  refine wpAny_holding (wpAny_bind (wpAny_attempt (wpAny_holding (wpAny_run (codeAny_mono h₄ fun r s' hr => ?_)))))
  cases r with
  | ok f =>
    obtain ⟨m, hn, hr⟩ := hr
    exact wpAny_bind (wpAny_holding (wpAny_comp_letGo (cenv := { cenv with scope := relabel scope env }) hkind _ s' m hv hn fun h' m' _ hs' => wpAny_pure (hr h' hs')))
  | error x =>
    obtain ⟨m, hn, hr⟩ := hr
    refine wpAny_bind (wpAny_holding (wpAny_comp_letGo (cenv := { cenv with scope := relabel scope env }) hkind _ s' m hv hn fun h' m' _ hs' => ?_))
    have e1 : ∀ α, (PySem.passOn "comprehension.variables-let-go" x { cenv with scope := relabel scope env } : Sem α) = PySem.passOn "comprehension.variables-let-go" x env := fun α => passOn_frame hf
    show wpAny M A (PySem.passOn "comprehension.variables-let-go" x { cenv with scope := relabel scope env }) _ _ _
    rw [e1]
    exact wpAny_mono (hr h' hs') (fun _ _ f => f.elim) fun _ _ y => y
end
theorem codeAny_compLoop_goX {prog : Program} {w : World} {A : Around} {R : Result → Shared → Prop} {s : Shared} {elt target iter : Expr} {ifs : List Expr} {scope : Scope} {pos : Pos} {it acc : Value} {env : Env} (I : Nat → Shared → Prop) (Er : Value → Shared → Prop)
    (hEr : ∀ e s', Er e s' → notedBy (model prog w) A env (fun x s'' => R (.error x) s'') e s')
    (turn : ∀ n s, I n s → wpAny (model prog w) A (pyNext it) (fun r s₁ => match r with
      | none => R (.ok .next) s₁
      | some v => wpAny (model prog w) A (letOwnedTupleGo target it v) (fun _ s₁' => wpAny (model prog w) A (assign target env v) (fun _ s₂ =>
          wpAny (model prog w) A (forIn ifs true fun c r => if r = true then do let ok ← isTrue c env (eval c env); pure (ForInStep.yield ok) else pure (ForInStep.yield r)) (fun ok s₃ =>
            if ok = true then wpAny (model prog w) A (eval elt env) (fun x s₄ =>
              wpAny (model prog w) A (call (.builtin "list.append") [acc, x]) (fun _ s₅ => ∃ m, m < n ∧ I m s₅) (fun _ _ => False) s₄) Er s₃
            else ∃ m, m < n ∧ I m s₃) (fun _ _ => False) s₂) (fun _ _ => False) s₁') (fun _ _ => False) s₁) (fun _ _ => False) s)
    (n : Nat) (h : I n s) :
    codeAny (model prog w) A (.compLoop (.ListComp elt [⟨target, iter, ifs, 0⟩] scope pos) 0 it acc env) R s := by
  refine codeAny_loop rfl I (fun n s hI => ?_) n h
  show wpAny _ A ((compTurn (.ListComp elt [⟨target, iter, ifs, 0⟩] scope pos) 0 it acc env).onRaise (fun x => do noteFrame x env; theTreesLotGoes x)) _ _ s
  refine wpAny_noted ?_
  rw [compTurn_list]
  refine wpAny_bind (wpAny_standAt (wpAny_bind (thn (nox_any (turn n s hI)) fun r s₁ h₁ => ?_)))
  cases r with
  | none => exact wpAny_pure h₁
  | some v =>
    refine wpAny_bind (thn (nox_any h₁) fun _ s₁' h₁' => wpAny_bind (thn (nox_any h₁') fun _ s₂ h₂ => wpAny_bind (thn (nox_any h₂) fun ok s₃ h₃ => ?_)))
    cases ok with
    | false => exact wpAny_pure ⟨rfl, h₃⟩
    | true => exact wpAny_bind (wpAny_bind (wpAny_mono h₃ (fun x s₄ h₄ => wpAny_bind (thn (nox_any h₄) fun _ s₅ h₅ => wpAny_pure (wpAny_pure ⟨rfl, h₅⟩))) fun e s' he => hEr e s' he))
end L2

/-! MY OWN: a comprehension through which an exception passes, the reading -/
namespace L2
open PySem PySem.Spec PyProof.Rows
/-- the block's context, with what its element may raise -/
def compXE (X : Cx) (Nc : List Str) (scope : Scope) (Ek : XK) (C : Addr) (s : Shared) (H : Hp) (fp : List Addr) : Cx :=
  (compCx X Nc scope C s H fp).wish fun e s' => ∃ pins τ H1 s1, Inv (compCx X Nc scope C s H fp) pins τ H1 s1 ∧ Thrown Flies X.prog X.w X.stack H1 s1 Ek e s'
theorem compXE_pass {X : Cx} {Nc : List Str} {scope : Scope} {Ek : XK} {C : Addr} {s : Shared} {H : Hp} {fp : List Addr} : PassX (CX1 X.prog X.w) (compXE X Nc scope Ek C s H fp) (fun _ => Ek) := fun pins σ H1 s1 e s' I T => ⟨pins, σ, H1, s1, I.unwish, T⟩
section
variable {X : Cx} {Nc : List Str} {cp : List (Option Nat)} {scope : Scope} {tg iter elt : Expr} {ifs : List Expr} {pos : Pos} {wi : TI} {g : TG} {tc : TT} {te : TE} {Ek : XK}
theorem comp_blockX {pins : List (Addr × Obj)} {σ : St} {H2 : Hp} {s2 : Shared} {Q : VK} {it : Addr} {fp : List Addr} {tn : Nat → Heap → Prop} {J : It} {E : Value → Shared → Prop} {RR : Value → Addr → Result → Shared → Prop}
    (o : CompOk X Nc cp scope) (hc : X.calm = true) (hg : ∀ C s H fp, PG (compCx X Nc scope C s H fp) tg g) (ht : ∀ C s H fp, PTs (compCx X Nc scope C s H fp) ifs tc) (he : ∀ C s H fp, PE (compXE X Nc scope Ek C s H fp) elt te)
    (I2 : Inv X pins σ H2 s2) (T : Turn X.prog X.w X.K tg J fp it tn) (st2 : tn 0 s2.heap) (f2 : ∀ b ∈ fp, FpOk X pins H2 b) (q : tCompBody cp g tc te J σ H2 Q)
    (hRR : ∀ C acc H' s', Inv X pins σ H' s' → FpOk X pins H' C → (∃ m, s'.heap.Ns C m) → Q (.ref acc) H' → RR (.ref acc) C (.ok .next) s')
    (hRE : ∀ C acc H' s' e s'', Inv X pins σ H' s' → FpOk X pins H' C → (∃ m, s'.heap.Ns C m) → Thrown Flies X.prog X.w X.stack H' s' Ek e s'' → notedBy (model X.prog X.w) X.A X.env (fun x s3 => RR (.ref acc) C (.error x) s3) e s'') :
    wpAny (model X.prog X.w) X.A (newList []) (fun acc s₃ => wpAny (model X.prog X.w) X.A (newFunctionEnv scope X.env.globals (clOf X.env.cells scope.names []) [] X.env.qual none .none (some X.env)) (fun cenv s₄ => cenv.frame = X.env.frame ∧
      codeAny (model X.prog X.w) X.A (.compStart (.ListComp elt [⟨tg, iter, ifs, 0⟩] scope pos) 0 (.ref it) acc { cenv with scope := relabel scope X.env }) (RR acc cenv.locals) s₄) E s₃) E s2 := by
  obtain ⟨W, ⟨m0, w0⟩, turn⟩ := q s2.heap.objs.size (I2.hok.fresh (Nat.le_refl _))
  refine wpAny_newObj_type (wpAny_newFunctionEnv (fun y hy => (o.name hy).1) (by intro y hy; simp at hy) (fun h₁ hns₁ hsb₁ => ⟨rfl, ?_⟩) o.kind)
  dsimp only at hns₁ hsb₁ ⊢
  generalize hH2 : s2.heap.push { cls := .type "list", dict := none, data := .seq ([] : List Value).toArray } = G2 at hns₁ hsb₁ ⊢
  have hC : G2.objs.size = s2.heap.objs.size + 1 := by rw [← hH2, Heap.size_push]
  have below : ∀ b, b < s2.heap.objs.size + 1 → b ≠ G2.objs.size := fun b hb => by rw [hC]; exact Nat.ne_of_lt hb
  have old : ∀ b ob, s2.heap.get? b = some ob → h₁.get? b = some ob := fun b ob e => hsb₁.extBut b ob (below b (Nat.lt_succ_of_lt (Heap.lt_size e))) (Heap.get?_push_of_some _ (hH2 ▸ Heap.get?_push_of_some _ e))
  have hacc : h₁.get? s2.heap.objs.size = some { cls := .type "list", data := .seq #[] } := hsb₁.extBut _ _ (below _ (Nat.lt_succ_self _)) (Heap.get?_push_of_some _ (hH2 ▸ Heap.get?_push_size _ rfl))
  rw [hC] at hns₁
  have I3 := comp_start (tk := s2.toks + ([] : List (Str × Value)).length) I2 o f2 (T.obj _ _ st2) hns₁ old hacc
  have st3 : tn 0 h₁ := T.keep _ _ _ st2 fun b _ ob e => old b ob e
  have fpLt : ∀ b ∈ fp, b < s2.heap.objs.size := fun b hb => by
    obtain ⟨ob, e, _⟩ := T.obj _ _ st2 b hb
    exact Heap.lt_size e
  have fr3 : ∀ b ∈ fp, upd H2 s2.heap.objs.size (.lst []) b = none := fun b hb => by rw [upd_ne (Nat.ne_of_lt (fpLt b hb))]; exact (f2 b hb).1
  have stat : ∀ {H' : Hp}, (∀ b ∈ fp, H' b = none) → ∀ b ∈ fp, FpOk (compCx X Nc scope (s2.heap.objs.size + 1) s2 H2 fp) [] H' b := fun {H'} hn b hb =>
    ⟨hn b hb, (I3.ok.exf b hb).1, I3.ok.exfs b hb, .inl hb, (I3.ok.exf b hb).2, fun p hp => absurd (show p ∈ ([] : List (Addr × Obj)) from hp) (by simp)⟩
  have out : ∀ {pins' : List (Addr × Obj)} {τ : St} {H' : Hp} {s' : Shared}, Inv (compCx X Nc scope (s2.heap.objs.size + 1) s2 H2 fp) pins' τ H' s' → Inv X pins σ H' s' ∧ FpOk X pins H' (s2.heap.objs.size + 1) ∧ ∃ m, s'.heap.Ns (s2.heap.objs.size + 1) m := fun {pins' τ H' s'} I5 => by
    obtain ⟨m5, hn5, _⟩ := I5.loc
    exact ⟨I2.call' (ch := fp) I5.os I5.base I5.hok I5.bare fun b hb => ⟨(f2 b hb).2.2.2.1, (f2 b hb).2.1, (f2 b hb).2.2.2.2.1, (f2 b hb).2.2.2.2.2⟩, I2.fpOk (Nat.le_succ _) I5.free, m5, hn5⟩
  have loop : ∀ s₃ : Shared, s₃ = { s2 with heap := h₁, toks := s2.toks + ([] : List (Str × Value)).length } →
      codeAny (model X.prog X.w) X.A (.compLoop (.ListComp elt [⟨tg, iter, ifs, 0⟩] scope pos) 0 (.ref it) (.ref s2.heap.objs.size) (compEnvC scope (clOf X.env.cells scope.names []) (s2.heap.objs.size + 1) X.env))
        (RR (.ref s2.heap.objs.size) (s2.heap.objs.size + 1)) s₃ := by
    rintro s₃ rfl
    refine codeAny_compLoop_goX (fun n s' => ∃ i τ H', Inv (compCx X Nc scope (s2.heap.objs.size + 1) s2 H2 fp) [] τ H' s' ∧ tn i s'.heap ∧ (∀ b ∈ fp, H' b = none) ∧ W i n τ H') (compXE X Nc scope Ek (s2.heap.objs.size + 1) s2 H2 fp).xe (fun e s' hx => ?_) ?_ m0 ⟨0, tau cp σ, _, I3, st3, fr3, w0⟩
    · obtain ⟨pins', τ, H1, s1, I1, T1⟩ := hx
      obtain ⟨a1, a2, a3⟩ := out I1
      unfold notedBy
      rw [noteFrame_frame (x := e) (e1 := compEnvC scope (clOf X.env.cells scope.names []) (s2.heap.objs.size + 1) X.env) (e2 := X.env) rfl]
      exact hRE _ _ H1 s1 e s' a1 a2 a3 T1
    rintro n s4 ⟨i, τ, H4, I4, st4, fr4, w4⟩
    rcases turn i n τ H4 w4 with ⟨stop, qn⟩ | ⟨go, N, hN, step⟩
    · refine thn (T.done (compCx X Nc scope (s2.heap.objs.size + 1) s2 H2 fp) rfl rfl rfl hc i [] s4 τ H4 _ I4 (stat fr4) st4 stop) fun r s5 ⟨hr, I5⟩ => ?_
      subst hr
      obtain ⟨a1, a2, a3⟩ := out I5
      exact hRR _ _ H4 s5 a1 a2 a3 qn
    · refine thn (T.item (compCx X Nc scope (s2.heap.objs.size + 1) s2 H2 fp) rfl rfl rfl hc i [] s4 τ H4 _ I4 (stat fr4) st4 go) fun r s5 ⟨u, hr, h5⟩ => ?_
      subst hr
      refine thn h5 fun _ s6 ⟨x, H6, I6, r6, y6, st6, fr6⟩ => ?_
      have I6' := I6.pinned (stat fr6) (T.obj _ _ st6)
      refine thn (hg _ _ _ _ _ s6 τ H6 x u _ I6' r6 (step x H6 y6)) fun _ s7 ⟨τ7, H7, I7, q7⟩ => ?_
      have again : ∀ {s9 : Shared} {σ9 : St} {H9 : Hp}, Inv (compCx X Nc scope (s2.heap.objs.size + 1) s2 H2 fp) ([] ++ pinsAt fp s6.heap) σ9 H9 s9 → N σ9 H9 →
          ∃ m, m < n ∧ ∃ i τ H', Inv (compCx X Nc scope (s2.heap.objs.size + 1) s2 H2 fp) [] τ H' s9 ∧ tn i s9.heap ∧ (∀ b ∈ fp, H' b = none) ∧ W i m τ H' := fun {s9 σ9 H9} I9 n9 => by
        obtain ⟨m', hm, w9⟩ := hN σ9 H9 n9
        refine ⟨m', hm, i + 1, σ9, H9, I9.unpinned, T.keep _ _ _ st6 fun b hb ob e => (I9.pin (b, ob) (List.mem_append_right _ (List.mem_append_right _ (mem_pinsAt hb e)))).1, fun b hb => ?_, w9⟩
        obtain ⟨ob, e, d⟩ := T.obj _ _ st6 b hb
        exact (I9.pin (b, ob) (List.mem_append_right _ (List.mem_append_right _ (mem_pinsAt hb e)))).2.1
      refine thn (ht _ _ _ _ _ s7 τ7 H7 _ I7 q7) fun b s8 ⟨H8, I8, q8⟩ => ?_
      cases b with
      | false =>
        rw [if_neg Bool.false_ne_true] at q8
        rw [if_neg Bool.false_ne_true]
        exact again I8 q8
      | true =>
        rw [if_pos rfl] at q8
        rw [if_pos rfl]
        refine thn (he _ _ _ _ _ s8 τ7 H8 _ (I8.wish _) q8) fun uv s9 ⟨v, H9, I9, r9, ys, ha, hz, n9⟩ => ?_
        refine thn (mt_append _ s9 τ7 H9 (.ref s2.heap.objs.size) [v] _ [uv] (fun _ H' => N τ7 H') I9.unwish rfl (.cons r9 .nil) ⟨_, ys, v, rfl, rfl, ha, hz, n9⟩) fun _ s10 ⟨_, H10, I10, _, n10⟩ => ?_
        exact again I10 n10
  rw [hC]
  exact codeAny_compStart_list (loop _ rfl) (T.self _ 0 _ _ _ st3 (loop _ rfl))
end
/-- held, and a namespace of no frame goes -/
theorem held_but {B h h3 : Heap} {l : List Env} {e L C : Addr} {cls a0 : Value} {ob : Obj} (hh : Heap.HeldW B l e cls a0 L h) (hC : B.get? C = some ob) (sb : Heap.SameBut C h h3) : Heap.HeldW (PySem.W.hideAll B [C]) l e cls a0 L h3 := by
  obtain ⟨k1, k2, k3, oe, vs, T, oT, ts, he, hcls, hd, h1, hnT, hTe, hT, hdT, h3'⟩ := hh
  have hne : ∀ b, B.get? b = none → b ≠ C := fun b hb z => by rw [z, hC] at hb; cases hb
  have hid : ∀ b, B.get? b = none → (PySem.W.hideAll B [C]).get? b = none := fun b hb => by
    cases q : (PySem.W.hideAll B [C]).get? b with
    | none => rfl
    | some o => rw [PySem.W.of_hideAll _ q] at hb; cases hb
  refine ⟨fun b o q => ?_, hid e k2, ?_, oe, vs, T, oT, ts, (sb.2 e (hne e k2)).trans he, hcls, hd, h1, hid T hnT, hTe, (sb.2 T (hne T hnT)).trans hT, hdT, h3'⟩
  · have hb : b ≠ C := fun z => by
      rw [z, PySem.W.hideAll_none [C] (List.mem_singleton.mpr rfl)] at q
      cases q
    exact (sb.2 b hb).trans (k1 b o (PySem.W.of_hideAll _ q))
  · clear he hT k1
    induction l with
    | nil => trivial
    | cons env r ih =>
      obtain ⟨a1, ⟨L', o, a2, a3, a4, a5⟩, a6⟩ := k3
      exact ⟨a1, ⟨L', o, a2, hid L' a3, (sb.2 L' (hne L' a3)).trans a4, a5⟩, ih a6⟩
theorem thrown_move2 {R' : ER} {P : Program} {w : World} {l : List Env} {H0 H' : Hp} {s0 s' : Shared} {E : XK} {x : Addr} {cls : Value} {B h'' : Heap} (os : s'.os = s0.os) (bare : AllBare s'.gens) (hok : HOk P w H' s'.heap) (un : Un (frs l) [] H0 H' s0.heap s'.heap)
    (cov : ∀ b o, H' b = some o → ∀ ob, s'.heap.get? b = some ob → B.get? b = some ob) (old : ∀ b, (∃ o, s0.heap.get? b = some o) → b ∉ frs l → ∀ ob, s'.heap.get? b = some ob → B.get? b = some ob) (hE : E cls none H')
    (st : B.StaysIn h'') (slotF : ∀ b o, s0.heap.get? b = some o → b ∈ frs l → ∃ sl, h''.get? b = some { o with slots := sl }) (r' : R' B l x cls h'') : Thrown R' P w l H0 s0 E (.ref x) { s' with heap := h'' } := by
  refine ⟨x, cls, H', B, rfl, os, bare, stay_hok hok cov st, ⟨fun b o e1 n hb hx => ?_, fun b o e1 n hb hx => slotF b o e1 hb, un.free, fun b o e1 hx => ?_, un.tups, un.frzs, un.tbls⟩, r', fun b o hb ob e1 => ?_, fun b hb hn ob e1 => ?_, hE⟩
  · exact st b o (old b ⟨o, e1⟩ hb o (un.keep b o e1 n hb hx))
  · obtain ⟨o', e2⟩ := un.there b o e1 hx
    by_cases hb : b ∈ frs l
    · obtain ⟨sl, e3⟩ := slotF b o e1 hb
      exact ⟨_, e3⟩
    · exact ⟨o', st b o' (old b ⟨o, e1⟩ hb o' e2)⟩
  · obtain ⟨ob', e2⟩ := (hok b o hb).there
    have e3 := cov b o hb ob' e2
    have e4 := st b ob' e3
    have e1' : h''.get? b = some ob := e1
    rw [e1'] at e4; cases e4
    exact e3
  · obtain ⟨o, e0⟩ := hb
    obtain ⟨ob', e2⟩ := un.there b o e0 (by simp)
    have e3 := old b ⟨o, e0⟩ hn ob' e2
    have e4 := st b ob' e3
    have e1' : h''.get? b = some ob := e1
    rw [e1'] at e4; cases e4
    exact e3
section
variable {X : Cx} {Nc : List Str} {cp : List (Option Nat)} {scope : Scope} {tg iter elt : Expr} {ifs : List Expr} {pos : Pos} {wi : TI} {g : TG} {tc : TT} {te : TE} {Ek : XK}
theorem pe_compX (hxe : X.xe = Thrown FlyHeld X.prog X.w X.stack X.H₀ X.s₀ Ek) (hst : X.stack = X.env :: X.outer) (hf : X.env.frame = some X.env.locals) (hex : X.ex = []) (o : CompOk X Nc cp scope) (hc : X.calm = true) (hi : PI X tg iter wi) (hg : ∀ C s H fp, PG (compCx X Nc scope C s H fp) tg g) (ht : ∀ C s H fp, PTs (compCx X Nc scope C s H fp) ifs tc)
    (he : ∀ C s H fp, PE (compXE X Nc scope Ek C s H fp) elt te) (hs : ∀ x, foldedSetIterable iter X.env x = pure x := by intro _; rfl) : PE X (.ListComp elt [⟨tg, iter, ifs, 0⟩] scope pos) (tComp cp wi g tc te) := by
  intro pins s σ H Q I h
  rw [eval_ListComp]
  refine comprehension_X rfl hs (closureFor_cl (o.cells I.ok)) o.kind (fun y hy e => (o.name hy).2.1 e) (thn (hi pins s σ H _ I h) fun v s1 h1 => thn h1 fun itv s2 h2 => ?_)
  obtain ⟨it, fp, tn, J, H2, e, I2, T, st2, f2, q⟩ := h2
  subst e
  refine comp_blockX (RR := fun acc C r s' => match r with
    | .ok _ => ∃ m, s'.heap.Ns C m ∧ ∀ h', Heap.SameBut C s'.heap h' → EP X pins σ Q acc { s' with heap := h' }
    | .error x => ∃ m, s'.heap.Ns C m ∧ ∀ h', Heap.SameBut C s'.heap h' → wpAny (model X.prog X.w) X.A (PySem.passOn "comprehension.variables-let-go" x X.env : Sem Value) (fun _ _ => False) X.xe { s' with heap := h' }) o hc hg ht he I2 T st2 f2 q (fun C acc H' s' I' F' N' q' => ?_) fun C acc H' s' e s'' I' F' N' T' => ?_
  · obtain ⟨m, hn⟩ := N'
    refine ⟨m, hn, fun h' sb => ⟨.ref acc, H', ?_, rfl, q'⟩⟩
    exact I'.turned (t' := s'.toks) (it := C) (fun b ob hb e => (sb.2 b hb).trans e) F'.1 F'.2.1 F'.2.2.2.1 F'.2.2.2.2.1 F'.2.2.2.2.2
  · obtain ⟨x, cls, H3, B, rfl, os, bare, hok, un, ⟨a0, hfl⟩, cov, old, hE⟩ := T'
    obtain ⟨m, hn⟩ := N'
    have hfr : X.A.frames = some (X.env :: X.outer) := I'.ok.frames.trans (by rw [hst])
    have hCs : C ∉ frs X.stack := fun z => by
      rw [hst] at z
      rcases (frs_cons hf).mp z with z | z
      · exact F'.2.1 z
      · exact F'.2.2.1 z
    obtain ⟨ob, es, ep, hob, hns⟩ := hn
    have hob2 := un.keep C ob hob F'.1 hCs (by simp)
    have hB := old C ⟨ob, hob⟩ hCs ob hob2
    have hH3 : H3 C = none := un.free C ob hob F'.1 (by simp)
    have hC0 : X.s₀.heap.objs.size ≤ C := by
      rcases F'.2.2.2.1 with z | z
      · rw [hex] at z; cases z
      · exact z
    rw [hst] at hfl
    show wpAny _ X.A (noteFrame (.ref x) X.env) _ _ s''
    refine PySem.wpAny_looks_onW hfr hf hfl fun h' held up => ?_
    have hob3 := held.1 C ob hB
    refine ⟨m, ⟨ob, es, ep, hob3, hns⟩, fun h3 sb => ?_⟩
    have held3 := held_but held hB sb
    obtain ⟨k1, k2, k3, oe, vs, T, oT, ts, he3, hcls, hd, h1, r⟩ := id held3
    unfold PySem.passOn
    refine wpAny_bind (wpAny_field he3 hd h1 ?_)
    rw [if_neg (by simp), hf]
    refine wpAny_bind (setFlight_heldW (L := X.env.locals) held3 fun h4 held4 up4 => wpAny_throw ?_)
    rw [hxe]
    have un1 : Un (frs X.stack) [] X.H₀ H' X.s₀.heap s'.heap := I'.base.mono (fun b hb => by rw [hst]; exact frs_sub b hb) (fun b hb => by rw [hex] at hb; exact hb)
    have hne : ∀ b o, X.s₀.heap.get? b = some o → b ≠ C := fun b o e => Nat.ne_of_lt (Nat.lt_of_lt_of_le (Heap.lt_size e) hC0)
    have hid : ∀ b o, B.get? b = some o → b ≠ C → (PySem.W.hideAll B [C]).get? b = some o := fun b o e hb => PySem.W.hideAll_get _ e fun z => hb (List.mem_singleton.mp z)
    refine thrown_move2 (s' := { s'' with heap := s''.heap }) (os.trans I'.os) bare hok (un1.trans un) (fun b o hb ob' e => hid b ob' (cov b o hb ob' e) fun z => by rw [z, hH3] at hb; cases hb) (fun b hb hn' ob' e => ?_) hE held4.1 (fun b o e1 hb => ?_) (.inr ⟨a0, X.env, X.outer, X.env.locals, hst, hf, by rw [hst]; exact held4⟩)
    · obtain ⟨o0, e0⟩ := hb
      obtain ⟨o1, e1⟩ := un1.there b o0 e0 (by simp)
      exact hid b ob' (old b ⟨o1, e1⟩ hn' ob' e) (hne b o0 e0)
    · have hdn : (∀ vs, o.data ≠ .fields vs) ∧ X.H₀ b = none := by
        rw [hst] at hb
        rcases (frs_cons hf).mp hb with z | z
        · have h5 := Heap.lt_size e1
          rw [z] at h5
          exact absurd (Nat.lt_of_lt_of_le h5 I'.ok.above) (Nat.lt_irrefl _)
        · obtain ⟨_, o', ho', hd'⟩ := I'.ok.funs.mem z
          rw [e1] at ho'; cases ho'
          exact ⟨hd', I'.ok.frf b z⟩
      obtain ⟨sl, e2⟩ := (un1.trans un).slot b o e1 hdn.2 hb (by simp)
      obtain ⟨sl2, e3⟩ := up b _ e2 fun vs => hdn.1 vs
      obtain ⟨sl3, e4⟩ := up4 b _ ((sb.2 b (hne b o e1)).trans e3) fun vs => hdn.1 vs
      exact ⟨sl3, e4⟩
end
end L2

/-! MY OWN: texts: split, slices, a loop over the signs, int(text), the repr in an f-string -/
namespace L2
open PySem PySem.Spec PyProof.Rows Builtin Builtin.Str
section
variable {prog : Program} {w : World} {A : Around} {E : Value → Shared → Prop} {s : Shared}
theorem call_splitP {x y : PySem.Str} {t u : Tok} {Q : Value → Shared → Prop} (hy : (y.length == 0) = false) (hsz : x.length + 2 ≤ sizeLine)
    (h : ∀ l k, l.map (·.1) = Txt.split x y → Q (.ref s.heap.objs.size) { s with heap := s.heap.push { cls := .type "list", data := .seq (strValues l).toArray }, toks := k }) :
    wpAny (model prog w) A (call (.builtin "str.split") [.str x t, .str y u]) Q E s := by
  have hn : (partsBetween x (occurrences x y 0 x.length (x.length + 1)) y.length).length ≤ sizeLine := by
    have e1 := StrLaws.occ_length_le x y 0 x.length (x.length + 1)
    rw [length_partsBetween]; omega
  cases h1 : (decide (x.length < y.length) || decide (strKind x < strKind y))
  · cases hf : (occurrences x y 0 x.length (x.length + 1)).isEmpty
    · refine call_meets PySem.F.slot_str_split (typeIs_str _ _ _) PySem.F.entry_str_split (PySem.F.args_str_split_2 _ _) (meets_str_split_sep x y t u h1 hy hf (by omega) hn) ?_
      show wants Q E _ { s with toks := _, heap := s.heap.push { cls := .type "list", data := .seq (strsFrom s.toks (partsBetween x (occurrences x y 0 x.length (x.length + 1)) y.length)).toArray } }
      rw [strsFrom_eq]
      exact h (numbered s.toks _) _ ((numbered_texts _ _).trans ((if_neg (ne_true_of_eq_false h1)).trans (if_neg (ne_true_of_eq_false hf))).symm)
    · exact call_meets PySem.F.slot_str_split (typeIs_str _ _ _) PySem.F.entry_str_split (PySem.F.args_str_split_2 _ _) (meets_str_split_not_found x y t u h1 hy hf)
        (h [(x, t)] s.toks ((if_neg (ne_true_of_eq_false h1)).trans (if_pos hf)).symm)
  · exact call_meets PySem.F.slot_str_split (typeIs_str _ _ _) PySem.F.entry_str_split (PySem.F.args_str_split_2 _ _) (meets_str_split_cannot_occur x y t u h1)
      (h [(x, t)] s.toks (if_pos h1).symm)
end
theorem split_len (x y : PySem.Str) : (Txt.split x y).length ≤ x.length + 2 := by
  unfold Txt.split
  split
  · show 1 ≤ _; omega
  · split
    · show 1 ≤ _; omega
    · have e1 := StrLaws.occ_length_le x y 0 x.length (x.length + 1)
      rw [length_partsBetween]; omega
theorem vals_strs : ∀ (l : List (PySem.Str × Tok)), Vals ((l.map (·.1)).map V.str) (strValues l)
  | [] => .nil
  | p :: r => .cons ⟨_, rfl⟩ (vals_strs r)
section
variable {X : Cx}
def rSplit : V → List V → Hp → VK → Prop := fun x vs H Q => ∃ z y, x = .str z ∧ vs = [.str y] ∧ (y.length == 0) = false ∧ z.length ≤ 10000 ∧ ∀ p, H p = none → Q (.ref p) (upd H p (.lst ((Txt.split z y).map V.str)))
theorem mt_split : MtM X "str.split" rSplit := by
  intro pins s σ H x xs v us Q I rx rs h
  obtain ⟨z, y, rfl, rfl, hy, hz, q⟩ := h
  obtain ⟨t, rfl⟩ := rx
  obtain ⟨u, rfl, ru⟩ := rs.one
  obtain ⟨t', rfl⟩ := ru
  refine call_splitP hy (by rw [sizeLine_eq]; omega) fun l k hl => ?_
  have hlen := split_len z y
  refine ⟨.ref s.heap.objs.size, _, I.laid (t' := k) (o := .lst ((Txt.split z y).map V.str)) (fun b ob q => Heap.get?_push_of_some _ q) (Nat.le_refl _) ⟨?_, strValues l, 0, ?_, Heap.get?_push_size _ rfl⟩, rfl, q _ (I.hok.fresh (Nat.le_refl _))⟩
  · rw [List.length_map, sizeLine_eq]; omega
  · rw [← hl]; exact vals_strs l
def rSlS : V → Option Int → Option Int → Hp → VK → Prop := fun x lo hi H Q => ∃ z, x = .str z ∧ z.length ≤ sizeLine ∧ Q (.str (Txt.slice z lo hi)) H
theorem sl_str : SlR X rSlS := by
  intro pins s σ H x v vl vu lo hi sl Q I rx hs pl pu h
  obtain ⟨z, rfl, hz, q⟩ := h
  obtain ⟨t, rfl⟩ := rx
  refine ⟨"str", _, PySem.F.slot_str_getitem.lookup, typeIs_str _ _ _, ?_⟩
  obtain ⟨o, ho, hcl, hd⟩ := hs
  have fin : ∀ (l u : Option (Int × Tok)), (Txt.slice z (l.map (·.1)) (u.map (·.1))) = Txt.slice z lo hi → s.heap.IsSlice sl l u none → wpAny (model X.prog X.w) X.A (getItem (.str z t) (.ref sl)) (EP X pins σ Q) X.xe s := fun l u e hsl =>
    wpAny_getItem_str_slice (l := l) (u := u) (st := none) hsl rfl (post_val_or_str (y := z) ⟨Nat.le_trans (Txt.slice_le z (l.map (·.1)) (u.map (·.1))) hz, fun t' k => ⟨.str (Txt.slice z lo hi), H, I.tok k, ⟨t', by rw [← e]; rfl⟩, q⟩⟩)
  cases pl with
  | none =>
    cases pu with
    | none => exact fin none none rfl ⟨o, ho, hcl, hd⟩
    | int j tj => exact fin none (some (j, tj)) rfl ⟨o, ho, hcl, hd⟩
  | int i ti =>
    cases pu with
    | none => exact fin (some (i, ti)) none rfl ⟨o, ho, hcl, hd⟩
    | int j tj => exact fin (some (i, ti)) (some (j, tj)) rfl ⟨o, ho, hcl, hd⟩
theorem call_int_text : CallR X (.type "int") (fun xs H Q => ∃ z n, xs = [.str z] ∧ PySem.intText? z = some n ∧ z.length ≤ 640 ∧ Q (.int n) H) := by
  intro pins s σ H xs us Q I rs h
  obtain ⟨z, n, rfl, hn, hl, q⟩ := h
  obtain ⟨u, rfl, ru⟩ := rs.one
  obtain ⟨t, rfl⟩ := ru
  exact PySem.W.KIN.call_text hn hl ⟨.int n, H, I.tok _, ⟨_, rfl⟩, q⟩
theorem call_int_bl : CallR X (.type "int") (fun xs H Q => ∃ b : Bool, xs = [.bl b] ∧ Q (.int (if b = true then 1 else 0)) H) := by
  intro pins s σ H xs us Q I rs h
  obtain ⟨b, rfl, q⟩ := h
  obtain ⟨u, rfl, ru⟩ := rs.one
  cases (show u = .bool b from ru)
  exact call_int_bool ⟨.int (if b = true then 1 else 0), H, I.tok _, ⟨_, rfl⟩, q⟩
/-! ### f"{x!r}.." -/
def tFr (te : TE) : TE := fun σ H Q => te σ H fun v H1 => ∃ z : PySem.Str, v = .str z ∧ z.length ≤ 10000 ∧ (∀ c ∈ z.cps.toList, c < 128) ∧ ∀ y : PySem.Str, Q (.str y) H1
theorem pe_fr {x : PySem.Str} {e : Expr} {te : TE} {j : Nat} {p1 p2 pos : Pos} (he : PE X e te) (hx : x.length ≤ 1000) (hv : evalEach [.FormattedValue e 114 none p2, .Constant (.str x) j p1] X.env = [eval (.FormattedValue e 114 none p2) X.env, eval (.Constant (.str x) j p1) X.env] := by rfl) :
    PE X (.JoinedStr [.FormattedValue e 114 none p2, .Constant (.str x) j p1] pos) (tFr te) := by
  intro pins s σ H Q I h
  refine wpAny_JoinedStr ?_
  rw [hv]
  refine wpAny_FormattedValue_repr (thn (he pins s σ H _ I h) fun v s1 ⟨y, H1, I1, r1, z, e1, hz, hc, q⟩ => ?_)
  subst e1
  obtain ⟨t, rfl⟩ := r1
  have hl := StrLaws.reprText_len z fun c hm => Nat.lt_trans (hc c hm) (by decide)
  have hl2 : (reprText z).length ≤ sizeLine := by rw [sizeLine_eq]; omega
  have h1 : (Str.empty ++ reprText z).length ≤ sizeLine := by
    rw [strLen_append]
    have : Str.empty.length = 0 := rfl
    omega
  have h2 : (Str.empty ++ reprText z ++ x).length ≤ sizeLine := by
    rw [strLen_append, strLen_append, sizeLine_eq]
    have : Str.empty.length = 0 := rfl
    omega
  refine pyReprObj_str ?_ hl2
  refine wpAny_formatField_str ⟨_, _, rfl, h1, ?_⟩ ⟨_, _, rfl, h1, ?_⟩ hl2
  · refine Calls.Constant_str ⟨_, _, rfl, h2, h2, ?_⟩
    exact ⟨.str _, H1, I1.tok _, ⟨_, rfl⟩, q _⟩
  · refine Calls.Constant_str ⟨_, _, rfl, h2, h2, ?_⟩
    exact ⟨.str _, H1, I1.tok _, ⟨_, rfl⟩, q _⟩
end
end L2

/-! MY OWN: a loop over a text's signs -/
namespace L2
open PySem PySem.Spec PyProof.Rows
def ItS (z : Str) : It := ⟨fun i _ => i < z.cps.size, fun i H x H' => H' = H ∧ ∃ c, z.cps.toList[i]? = some c ∧ x = .str ⟨#[c]⟩, fun i _ => z.cps.size ≤ i⟩
theorem turn_strA {P : Program} {w : World} {K : PySem.W.Frag} {tg : Expr} (it : Addr) (z : Str) (t : Tok) : Turn P w K tg (ItS z) [it] it (fun i h => h.IsStrIter it "str_ascii_iterator" z t i) where
  mem := by simp
  obj := fun i h st b hb => by
    have e : b = it := by simpa using hb
    subst e
    obtain ⟨o, e, c, d⟩ := st
    exact ⟨o, e, fun v z => by rw [d] at z; cases z⟩
  keep := fun i h h' st k => by
    obtain ⟨o, e, r⟩ := st
    exact ⟨o, k it (by simp) o e, r⟩
  item := by
    intro X hP hw hK hc i pins s σ H E I hf st hg
    subst hP hw hK
    obtain ⟨f0, f1, f2, f3, f4, f5⟩ := hf it (by simp)
    have W := Walks.strAscii (prog := X.prog) (w := X.w) (I.ok.hd hc) it z t
    refine W.item i s _ _ hg st fun v h' tk hv st' kk => ?_
    obtain ⟨c, u, hcc, rfl⟩ := hv
    have I1 : Inv X pins σ H { s with heap := h', toks := tk } := I.turned (fun b o hb e => kk b o (by simpa using hb) e) f0 f1 f3 f4 f5
    obtain ⟨o, e, cl, d⟩ := id st'
    exact ⟨_, rfl, go_of (s := { s with heap := h', toks := tk }) (n := "str_ascii_iterator") e cl d (by decide) ⟨.str ⟨#[c]⟩, H, I1, ⟨u, rfl⟩, ⟨rfl, c, by rw [Array.getElem?_toList]; exact hcc, rfl⟩, st', fun b hb => (hf b hb).1⟩⟩
  done := by
    intro X hP hw hK hc i pins s σ H E I hf st hg
    subst hP hw hK
    obtain ⟨f0, f1, f2, f3, f4, f5⟩ := hf it (by simp)
    exact wpAny_pyNext_ascii_end (I.ok.hd hc) st (by have : z.cps.size ≤ i := hg; simp; omega) fun h' eb => ⟨rfl, I.turned (t' := s.toks) (fun b o hb e => eb b o hb e) f0 f1 f3 f4 f5⟩
  self := fun _ _ _ _ _ st h => wpAny_pyIter_striter_ascii st h
section
variable {X : Cx} {tg : Expr}
def iStr (te : TE) : TI := fun σ H R => te σ H fun x H1 => ∃ z : Str, x = .str z ∧ (∀ c ∈ z.cps.toList, c < 128) ∧ R (ItS z) H1
theorem pi_str {e : Expr} {te : TE} (he : PE X e te) : PI X tg e (iStr te) := by
  intro pins s σ H R I h
  refine thn (he pins s σ H _ I h) fun v s1 ⟨x, H1, I1, r1, q1⟩ => ?_
  obtain ⟨z, e, ha, q⟩ := q1
  subst e
  obtain ⟨t, rfl⟩ := r1
  refine wpAny_pyIter_ascii (by rw [Array.all_eq_true_iff_forall_mem]; exact fun c hc => decide_eq_true (ha c (Array.mem_toList_iff.mpr hc))) ?_
  refine ⟨s1.heap.objs.size, [s1.heap.objs.size], _, _, H1, rfl, I1.kept (t' := s1.toks) fun b o e => Heap.get?_push_of_some _ e, turn_strA _ z t, ⟨_, Heap.get?_push_size _ rfl, rfl, rfl⟩, fun b hb => ?_, q⟩
  have e : b = s1.heap.objs.size := by simpa using hb
  subst e
  exact I1.fpOk (Nat.le_refl _) (I1.hok.fresh (Nat.le_refl _))
theorem for_str {z : Str} {g : TG} {tb : TS} {D : Ends} {σ : St} {H : Hp} (Pv : Nat → St → Hp → Prop) (h0 : Pv 0 σ H)
    (hs : ∀ i c σ H, z.cps.toList[i]? = some c → Pv i σ H → g (.str ⟨#[c]⟩) σ H fun σ2 H2 => tb { D with nx := Pv (i + 1), ct := Pv (i + 1), bk := D.nx } σ2 H2) (hd : ∀ σ H, Pv z.cps.size σ H → D.nx σ H) :
    ∃ W : Nat → Nat → St → Hp → Prop, (∃ m, W 0 m σ H) ∧ ∀ i m σ H, W i m σ H →
      ((ItS z).stop i H ∧ D.nx σ H) ∨ ((ItS z).go i H ∧ ∃ N : St → Hp → Prop, (∀ σ' H', N σ' H' → ∃ m', m' < m ∧ W (i + 1) m' σ' H') ∧ ∀ x H', (ItS z).yld i H x H' → g x σ H' fun σ2 H2 => tb { D with nx := N, ct := N, bk := D.nx } σ2 H2) := by
  refine ⟨fun i m σ H => m = z.cps.size - i ∧ i ≤ z.cps.size ∧ Pv i σ H, ⟨z.cps.size, by simp, Nat.zero_le _, h0⟩, ?_⟩
  rintro i m σ H ⟨rfl, hi, p⟩
  by_cases hlt : i < z.cps.size
  · refine .inr ⟨hlt, Pv (i + 1), fun σ' H' p' => ⟨z.cps.size - (i + 1), by omega, rfl, hlt, p'⟩, fun x H' y => ?_⟩
    obtain ⟨e, c, hc, y⟩ := y
    subst e y
    exact hs i c σ _ hc p
  · have e : i = z.cps.size := by omega
    subst e
    exact .inl ⟨Nat.le_refl _, hd σ H p⟩
end
end L2

/-! MY OWN: texts of plain signs, their parts, and what a word writes -/
namespace LW
open PySem L2 Builtin Builtin.Str PySem.NumText
def Asc (z : PySem.Str) : Prop := ∀ c ∈ z.cps.toList, c < 128
theorem app_cps (a b : PySem.Str) : (a ++ b).cps.toList = a.cps.toList ++ b.cps.toList := Array.toList_append
theorem Asc.app {a b : PySem.Str} (ha : Asc a) (hb : Asc b) : Asc (a ++ b) := by
  intro c hc
  rw [app_cps] at hc
  rcases List.mem_append.mp hc with h | h
  · exact ha c h
  · exact hb c h
theorem Asc.slice {z : PySem.Str} {l u : Option Int} (h : Asc z) : Asc (Txt.slice z l u) := by
  unfold Txt.slice
  split
  · exact h
  · intro c hc
    have hc : c ∈ (strSliceIndices l u 1 z.length).filterMap (z.cps[·]?) := hc
    obtain ⟨i, _, e⟩ := List.mem_filterMap.mp hc
    exact h c (Array.mem_toList_iff.mpr (Array.mem_of_getElem? e))
theorem Asc.one {z : PySem.Str} (h : Asc z) {c : Nat} (hc : c ∈ z.cps.toList) : Asc ⟨#[c]⟩ := by
  intro d hd
  have : d = c := by simpa using hd
  rw [this]; exact h c hc
def tot (n : Nat) : List PySem.Str → Nat
  | [] => 0
  | s :: r => s.length + n + tot n r
theorem tot_app (n : Nat) : ∀ (a b : List PySem.Str), tot n (a ++ b) = tot n a + tot n b
  | [], b => by show tot n b = 0 + tot n b; omega
  | s :: a, b => by show s.length + n + tot n (a ++ b) = s.length + n + tot n a + tot n b; rw [tot_app n a b]; omega
theorem fold_tot (n : Nat) : ∀ (ss : List PySem.Str) (k : Nat), ss.foldl (· + ·.length + n) k = k + tot n ss
  | [], k => rfl
  | s :: r, k => by
    rw [List.foldl_cons, fold_tot n r]
    show k + s.length + n + tot n r = k + (s.length + n + tot n r)
    omega
theorem fold_tot' (n : Nat) (ss : List PySem.Str) : ss.toArray.foldl (· + ·.length + n) 0 = tot n ss := by
  rw [List.foldl_toArray', fold_tot]
  · omega
  · rfl
theorem glue_size (g : Array Nat) : ∀ (r : List PySem.Str) (acc : Array Nat), (r.foldl (fun acc p => acc ++ g ++ p.cps) acc).size = acc.size + tot g.size r
  | [], acc => rfl
  | s :: r, acc => by
    rw [List.foldl_cons, glue_size g r, Array.size_append, Array.size_append]
    show acc.size + g.size + s.cps.size + tot g.size r = acc.size + (s.cps.size + g.size + tot g.size r)
    omega
theorem glued_len (sep s : PySem.Str) (r : List PySem.Str) : (glued sep (s :: r)).length = s.length + tot sep.length r := glue_size sep.cps r s.cps
theorem glued_le (sep : PySem.Str) (ss : List PySem.Str) : (glued sep ss).length ≤ tot sep.length ss := by
  cases ss with
  | nil => exact Nat.zero_le _
  | cons s r => rw [glued_len]; show _ ≤ s.length + sep.length + tot sep.length r; omega
theorem glue_mem (g : Array Nat) (P : Nat → Prop) (hg : ∀ c ∈ g.toList, P c) : ∀ (r : List PySem.Str) (acc : Array Nat), (∀ s ∈ r, ∀ c ∈ s.cps.toList, P c) → (∀ c ∈ acc.toList, P c) → ∀ c ∈ (r.foldl (fun acc p => acc ++ g ++ p.cps) acc).toList, P c
  | [], acc, _, ha => ha
  | s :: r, acc, hr, ha => by
    rw [List.foldl_cons]
    refine glue_mem g P hg r _ (fun t ht => hr t (List.mem_cons_of_mem _ ht)) fun c hc => ?_
    rw [Array.toList_append, Array.toList_append] at hc
    rcases List.mem_append.mp hc with h | h
    · rcases List.mem_append.mp h with h | h
      · exact ha c h
      · exact hg c h
    · exact hr s (List.mem_cons_self ..) c h
theorem Asc.glued {sep : PySem.Str} {ss : List PySem.Str} (hs : Asc sep) (h : ∀ s ∈ ss, Asc s) : Asc (glued sep ss) := by
  cases ss with
  | nil => intro c hc; exact absurd hc (by show c ∉ (#[] : Array Nat).toList; simp)
  | cons s r => exact glue_mem sep.cps (· < 128) hs r s.cps (fun t ht => h t (List.mem_cons_of_mem _ ht)) (h s (List.mem_cons_self ..))
theorem split_mem {z y w : PySem.Str} (h : w ∈ Txt.split z y) : w = z ∨ ∃ i j, w = strSub z i j := by
  unfold Txt.split at h
  split at h
  · exact .inl (List.mem_singleton.mp h)
  · split at h
    · exact .inl (List.mem_singleton.mp h)
    · unfold partsBetween at h
      obtain ⟨⟨i, j⟩, _, e⟩ := List.mem_map.mp h
      exact .inr ⟨i, j, e.symm⟩
theorem Asc.split {z y w : PySem.Str} (hz : Asc z) (h : w ∈ Txt.split z y) : Asc w ∧ w.length ≤ z.length := by
  rcases split_mem h with rfl | ⟨i, j, rfl⟩
  · exact ⟨hz, Nat.le_refl _⟩
  · refine ⟨fun c hc => hz c ?_, ?_⟩
    · have hc : c ∈ (z.cps.extract i j).toList := hc
      rw [Array.toList_extract] at hc
      unfold List.extract at hc
      exact List.mem_of_mem_drop (List.mem_of_mem_take hc)
    · show (z.cps.extract i j).size ≤ z.cps.size
      rw [Array.size_extract]
      omega
theorem split_tot (z y : PySem.Str) : tot y.length (Txt.split z y) ≤ z.length + y.length := by
  unfold Txt.split
  split
  · show z.length + y.length + 0 ≤ _; omega
  · split
    · show z.length + y.length + 0 ≤ _; omega
    · have g := StrLaws.glued_between_self z y (z.length + 1)
      generalize partsBetween z (occurrences z y 0 z.length (z.length + 1)) y.length = ps at *
      cases ps with
      | nil => exact Nat.zero_le _
      | cons p r =>
        have := glued_len y p r
        rw [g] at this
        show p.length + y.length + tot y.length r ≤ _
        omega
theorem split_pos (z y : PySem.Str) : Txt.split z y ≠ [] := by
  unfold Txt.split
  split
  · exact fun h => nomatch h
  · split
    · exact fun h => nomatch h
    · intro h
      have := congrArg List.length h
      rw [length_partsBetween] at this
      simp at this
/-! ### numbers as texts -/
theorem asc_num {n : Int} (h : 0 ≤ n) : Asc (Str.ofString (toString n)) := by
  obtain ⟨m, rfl⟩ := Int.eq_ofNat_of_zero_le h
  intro c hc
  have hc : c ∈ (Nat.toDigits 10 m).map Char.toNat := by rw [← PySem.W.KIN.signs_num]; exact hc
  obtain ⟨d, hd, rfl⟩ := List.mem_map.mp hc
  have := Nat.isDigit_of_mem_toDigits (by decide) (by decide) hd
  unfold Char.isDigit at this
  rw [Bool.and_eq_true, decide_eq_true_eq, decide_eq_true_eq] at this
  have h2 := this.2
  have : d.val.toNat ≤ 57 := h2
  show d.val.toNat < 128
  omega
theorem len_num {n : Int} {k : Nat} (h : 0 ≤ n) (hk : 1 ≤ k) (hn : n < 10 ^ k) : (Str.ofString (toString n)).length ≤ k := by
  obtain ⟨m, rfl⟩ := Int.eq_ofNat_of_zero_le h
  show (Str.ofString (toString ((m : Nat) : Int))).cps.size ≤ k
  rw [← Array.length_toList, PySem.W.KIN.signs_num, List.length_map]
  refine PyProof.Rows.digits10_le hk ?_
  have : ((10 ^ k : Nat) : Int) = (10 : Int) ^ k := by push_cast; rfl
  omega
/-! ### words -/
def figL : List Nat := (Str.ofString "0123456789").cps.toList
theorem figL_eq : figL = [48, 49, 50, 51, 52, 53, 54, 55, 56, 57] := by decide +kernel
theorem mem_figL {c : Nat} : c ∈ figL ↔ 48 ≤ c ∧ c ≤ 57 := by
  rw [figL_eq]
  simp only [List.mem_cons, List.not_mem_nil, or_false]
  omega
def digB (c : Nat) : Bool := decide (c ∈ figL)
def numB (cs : List Nat) : Bool := decide (1 ≤ cs.length) && (decide (cs.length ≤ 6) && (cs.all digB && (decide (cs = [48]) || !decide (cs.head? = some 48))))
theorem str_ext {a b : PySem.Str} (h : a.cps.toList = b.cps.toList) : a = b := by
  obtain ⟨a⟩ := a
  obtain ⟨b⟩ := b
  have : a = b := Array.ext' h
  rw [this]
def figs (w : PySem.Str) : PySem.Str := Txt.slice w (some 1) none
theorem nil_of_len {z : PySem.Str} (h : z.length = 0) : z.cps.toList = [] := by
  have : z.cps.size = 0 := h
  rw [← List.length_eq_zero_iff, Array.length_toList]
  exact this
theorem figs_cps (w : PySem.Str) : (figs w).cps.toList = w.cps.toList.drop 1 := by
  by_cases h : 1 ≤ w.length
  · have := PyProof.Rows.slice_from_eq (x := w) (i := 1) (b := (w.length : Int)) (by decide) (by omega) rfl
    unfold figs
    rw [this]
    show (w.cps.toList.drop 1).take _ = _
    refine List.take_of_length_le ?_
    rw [List.length_drop, Array.length_toList]
    show w.length - 1 ≤ _
    omega
  · have h0 : w.length = 0 := by omega
    have h1 := Txt.slice_le w (some 1) none
    rw [nil_of_len (z := figs w) (by unfold figs; omega), nil_of_len h0]
    rfl
theorem first_cps (w : PySem.Str) : (Txt.slice w none (some 1)).cps.toList = w.cps.toList.take 1 := by
  by_cases h : 1 ≤ w.length
  · have e := PyProof.Rows.slice_closes_toL (x := w) (j := 1) (by decide) (by omega)
    have e := eq_of_beq e
    rw [e]
    rfl
  · have h0 : w.length = 0 := by omega
    have h1 := Txt.slice_le w none (some 1)
    rw [nil_of_len (z := Txt.slice w none (some 1)) (by omega), nil_of_len h0]
    rfl
theorem numB_digits {cs : List Nat} (h : numB cs = true) : AllDigits cs ∧ cs ≠ [] ∧ cs.length ≤ 6 := by
  unfold numB at h
  rw [Bool.and_eq_true, Bool.and_eq_true, Bool.and_eq_true] at h
  obtain ⟨h1, h2, h3, _⟩ := h
  refine ⟨fun c hc => mem_figL.mp (of_decide_eq_true (List.all_eq_true.mp h3 c hc)), fun z => ?_, of_decide_eq_true h2⟩
  rw [z] at h1
  cases h1
theorem val_lt : ∀ (cs : List Nat) (acc : Nat), AllDigits cs → cs.foldl (fun acc c => acc * 10 + (c - 48)) acc < (acc + 1) * 10 ^ cs.length
  | [], acc, _ => by show acc < (acc + 1) * 1; omega
  | c :: cs, acc, h => by
    rw [List.foldl_cons, List.length_cons, Nat.pow_succ]
    have h1 := val_lt cs (acc * 10 + (c - 48)) h.tail
    have h2 := h.head
    have h3 : (acc * 10 + (c - 48) + 1) * 10 ^ cs.length ≤ ((acc + 1) * 10) * 10 ^ cs.length := Nat.mul_le_mul_right _ (by omega)
    have h4 : ((acc + 1) * 10) * 10 ^ cs.length = (acc + 1) * (10 ^ cs.length * 10) := by rw [Nat.mul_assoc, Nat.mul_comm 10]
    omega
def wval (w : PySem.Str) : Int := ((digitsVal (figs w).cps.toList : Nat) : Int)
theorem wval_ok {w : PySem.Str} (h : numB (figs w).cps.toList = true) : PySem.intText? (figs w) = some (wval w) ∧ (figs w).length ≤ 640 ∧ (wval w).natAbs < 2 ^ 40 := by
  obtain ⟨h1, h2, h3⟩ := numB_digits h
  have hl : (figs w).length = (figs w).cps.toList.length := by rw [Array.length_toList]; rfl
  refine ⟨intText_digits h1 h2 (by omega), by omega, ?_⟩
  have h4 := val_lt (figs w).cps.toList 0 h1
  have h5 : 10 ^ (figs w).cps.toList.length ≤ 10 ^ 6 := Nat.pow_le_pow_right (by decide) h3
  show digitsVal (figs w).cps.toList < 2 ^ 40
  unfold digitsVal
  omega
def deedS (w : PySem.Str) : Option (Bool × Int) :=
  if numB (figs w).cps.toList = true then (if w.cps.toList.head? = some 43 then some (true, wval w) else if w.cps.toList.head? = some 45 then some (false, wval w) else none) else none
theorem deedS_sm {w : PySem.Str} {d : Bool × Int} (h : deedS w = some d) : d.2.natAbs < 2 ^ 40 := by
  unfold deedS at h
  split at h
  · rename_i hn
    have := (wval_ok hn).2.2
    split at h
    · cases h; exact this
    · split at h
      · cases h; exact this
      · cases h
  · cases h
def goS : List PySem.Str → Option (List (Bool × Int))
  | [] => some []
  | w :: r => match deedS w with
    | none => none
    | some d => (goS r).map (d :: ·)
theorem goS_snoc {w : PySem.Str} {d : Bool × Int} : ∀ {ws : List PySem.Str} {ds : List (Bool × Int)}, goS ws = some ds → deedS w = some d → goS (ws ++ [w]) = some (ds ++ [d])
  | [], ds, h, hd => by
    cases h
    show (match deedS w with | none => none | some d => (goS []).map (d :: ·)) = _
    rw [hd]
    rfl
  | v :: ws, ds, h, hd => by
    have h : (match deedS v with | none => none | some d => (goS ws).map (d :: ·)) = some ds := h
    show (match deedS v with | none => none | some d => (goS (ws ++ [w])).map (d :: ·)) = _
    cases e : deedS v with
    | none => rw [e] at h; cases h
    | some d' =>
      rw [e] at h
      cases e2 : goS ws with
      | none => rw [e2] at h; cases h
      | some ds' =>
        rw [e2] at h
        cases h
        show (goS (ws ++ [w])).map (d' :: ·) = _
        rw [goS_snoc e2 hd]
        rfl
theorem goS_bad {w : PySem.Str} {r : List PySem.Str} (hd : deedS w = none) : ∀ {ws : List PySem.Str}, goS (ws ++ w :: r) = none
  | [] => by
    show (match deedS w with | none => none | some d => (goS r).map (d :: ·)) = none
    rw [hd]
  | v :: ws => by
    show (match deedS v with | none => none | some d => (goS (ws ++ w :: r)).map (d :: ·)) = none
    cases deedS v with
    | none => rfl
    | some d => show (goS (ws ++ w :: r)).map (d :: ·) = none; rw [goS_bad hd]; rfl
theorem take_split {ws : List PySem.Str} {i : Nat} {w : PySem.Str} (h : ws[i]? = some w) : ws = ws.take i ++ w :: ws.drop (i + 1) ∧ ws.take (i + 1) = ws.take i ++ [w] := by
  obtain ⟨hi, e⟩ := List.getElem?_eq_some_iff.mp h
  refine ⟨?_, by rw [List.take_add_one, h]; rfl⟩
  conv => lhs; rw [← List.take_append_drop i ws]
  rw [List.drop_eq_getElem_cons hi, e]
def blank : PySem.Str := " "
def readS (z : PySem.Str) : Option (List (Bool × Int)) := if z = Str.empty then some [] else goS (Txt.split z blank)
end LW

/-! MY OWN: what the reading of plans promises -/
namespace LW
open PySem L2
def spIsNum : Sp := fun vs H Q _ => ∃ z : Str, vs = [.str z] ∧ Asc z ∧ z.length ≤ 10000 ∧ Q (.bl (numB z.cps.toList)) H
def spDeedW (cP : Addr) : Sp := fun vs H Q E => ∃ w : Str, vs = [.str w] ∧ Asc w ∧ w.length ≤ 10000 ∧ (∀ d, deedS w = some d → ∀ p, H p = none → Q (.ref p) (upd H p (.tup [wayV d.1, .int d.2]))) ∧ (deedS w = none → E (.ref cP) none H)
def spRead (cP : Addr) : Sp := fun vs H Q E => ∃ z : Str, vs = [.str z] ∧ Asc z ∧ z.length ≤ 10000 ∧
  (∀ ds, readS z = some ds → ∀ (l : Addr) (H' : Hp) (rs : List Addr), Same H H' → H' l = some (.lst (rs.map V.ref)) → PlanAt H' rs ds → Q (.ref l) H') ∧ (readS z = none → ∀ H', Same H H' → E (.ref cP) none H')
def spDueW : Sp := fun vs H Q _ => ∃ z : Str, vs = [.str z] ∧ Asc z ∧ z.length ≤ 10000 ∧
  (∀ ds, readS z = some ds → ∀ (l : Addr) (H' : Hp) (rs : List Addr), Same H H' → H' l = some (.lst (rs.map V.ref)) → PlanAt H' rs ds → Q (.ref l) H') ∧ (readS z = none → ∀ H', Same H H' → Q .non H')
def spTextOf (K : PySem.W.Frag) : Sp := fun vs H Q _ => ∃ (a : Addr) (ns : List Int), vs = [.ref a] ∧ SqL K H a (ns.map V.int) ∧ ∀ (z : Str) (H' : Hp), Same H H' → Asc z → z.length ≤ 2000 → Q (.str z) H'
def spSignBy : Sp := fun vs H Q _ => ∃ c : Int, vs = [.int c] ∧ ∀ z : Str, Asc z → z.length = 1 → Q (.str z) H
def spSpoiled : Sp := fun vs H Q _ => ∃ (z : Str) (c : Int), vs = [.str z, .int c] ∧ Asc z ∧ z.length ≤ 2000 ∧ 0 ≤ c ∧ c < 1000000007 ∧ ∀ (z' : Str) (H' : Hp), Same H H' → Asc z' → z'.length ≤ 9000 → Q (.str z') H'
theorem str_zero {z : Str} : decide (V.str z = V.str "0") = decide (z.cps.toList = [48]) := by
  refine decide_eq_decide.mpr ⟨fun h => ?_, fun h => ?_⟩
  · injection h with h
    rw [h]
    decide +kernel
  · have : z = "0" := str_ext (h.trans (by decide +kernel))
    rw [this]
theorem one_eq {c d : Nat} {s : Str} (hs : s.cps.toList = [d]) : decide (V.str ⟨#[c]⟩ = V.str s) = decide (c = d) := by
  refine decide_eq_decide.mpr ⟨fun h => ?_, fun h => ?_⟩
  · injection h with h
    rw [← h] at hs
    have : [c] = [d] := hs
    injection this
  · have : (⟨#[c]⟩ : Str) = s := str_ext (by rw [hs, h])
    rw [this]
theorem cps0 : ("0" : Str).cps.toList = [48] := by decide +kernel
theorem cpsP : ("+" : Str).cps.toList = [43] := by decide +kernel
theorem cpsM : ("-" : Str).cps.toList = [45] := by decide +kernel
theorem head_at {cs : List Nat} {c : Nat} (h : cs.head? = some c) : atI cs 0 = some c := by
  cases cs with
  | nil => cases h
  | cons d r => exact atI_nat (j := 0) (xs := d :: r) h
theorem atI_head {cs : List Nat} (h : cs ≠ []) : ∃ c, cs.head? = some c ∧ atI cs 0 = some c := by
  cases cs with
  | nil => exact absurd rfl h
  | cons d r => exact ⟨d, rfl, atI_nat (j := 0) (xs := d :: r) rfl⟩
theorem figs_pos {w : Str} (h : numB (figs w).cps.toList = true) : w.cps.toList ≠ [] := fun z => by
  have := (numB_digits h).2.1
  rw [figs_cps, z] at this
  exact this rfl
structure NpTx (K : PySem.W.Frag) (mg : Str → Option Value) (cY cT cW cE cP : Addr) : Prop where
  mY : mg "YardError" = some (.ref cY)
  mT : mg "NoTrack" = some (.ref cT)
  mW : mg "NoneWaiting" = some (.ref cW)
  mE : mg "TrackEmpty" = some (.ref cE)
  mP : mg "NoPlan" = some (.ref cP)
  mV : mg "ValueError" = none
  xP : ExcOk K cP
  pY : PySem.W.exmOne K (.ref cP) (.ref cY) = some true
  iPP : PySem.W.kitOne K (.ref cP) (.ref cP) = some true
  iPV : PySem.W.kitOne K (.ref cP) (.type "ValueError") = some true
  iPT : PySem.W.kitOne K (.ref cP) (.ref cT) = some false
  iPW : PySem.W.kitOne K (.ref cP) (.ref cW) = some false
  iPE : PySem.W.kitOne K (.ref cP) (.ref cE) = some false
theorem first_eq {w s : Str} {d : Nat} (hs : s.cps.toList = [d]) : decide (V.str (Txt.slice w none (some 1)) = V.str s) = decide (w.cps.toList.head? = some d) := by
  refine decide_eq_decide.mpr ⟨fun h => ?_, fun h => ?_⟩
  · injection h with h
    have := first_cps w
    rw [h, hs] at this
    cases e : w.cps.toList with
    | nil => rw [e] at this; cases this
    | cons c r =>
      rw [e] at this
      have : [d] = [c] := this
      injection this with this
      rw [this]
      rfl
  · have : Txt.slice w none (some 1) = s := by
      refine str_ext ?_
      rw [first_cps, hs]
      cases e : w.cps.toList with
      | nil => rw [e] at h; cases h
      | cons c r =>
        rw [e] at h
        have : c = d := Option.some.inj h
        rw [this]
        rfl
    rw [this]
theorem numB_len0 {cs : List Nat} (h : ¬ 1 ≤ cs.length) : numB cs = false := by unfold numB; rw [decide_eq_false h]; rfl
theorem numB_len6 {cs : List Nat} (h : ¬ cs.length ≤ 6) : numB cs = false := by unfold numB; rw [decide_eq_false h, Bool.false_and, Bool.and_false]
theorem numB_nodig {cs : List Nat} {c : Nat} (hc : c ∈ cs) (h : digB c ≠ true) : numB cs = false := by
  have : cs.all digB = false := by
    rw [Bool.eq_false_iff]
    intro z
    exact h (List.all_eq_true.mp z c hc)
  unfold numB
  rw [this, Bool.false_and, Bool.and_false, Bool.and_false]
theorem numB_zero {cs : List Nat} (h : cs.head? = some 48) (hl : 1 < cs.length) : numB cs = false := by
  have : ¬ cs = [48] := fun z => by rw [z] at hl; simp at hl
  unfold numB
  rw [decide_eq_false this, decide_eq_true h, Bool.not_true, Bool.or_false, Bool.and_false, Bool.and_false, Bool.and_false]
theorem numB_good {cs : List Nat} (h1 : 1 ≤ cs.length) (h6 : cs.length ≤ 6) (ha : cs.all digB = true) (h0 : ¬ (cs.head? = some 48 ∧ 1 < cs.length)) : numB cs = true := by
  unfold numB
  rw [decide_eq_true h1, decide_eq_true h6, ha, Bool.true_and, Bool.true_and, Bool.true_and]
  by_cases hh : cs.head? = some 48
  · have : cs = [48] := by
      cases cs with
      | nil => cases hh
      | cons c r =>
        have hc : c = 48 := Option.some.inj hh
        cases r with
        | nil => rw [hc]
        | cons d r => exact absurd ⟨hh, by simp⟩ h0
    rw [decide_eq_true this]
    rfl
  · rw [decide_eq_false hh, Bool.not_false, Bool.or_true]
theorem deedS_num {w : Str} (h : numB (figs w).cps.toList = false) : deedS w = none := by unfold deedS; rw [h]; rfl
theorem deedS_sign {w : Str} (h1 : ¬ w.cps.toList.head? = some 43) (h2 : ¬ w.cps.toList.head? = some 45) : deedS w = none := by
  unfold deedS
  rw [if_neg h1, if_neg h2]
  split <;> rfl
theorem deedS_good {w : Str} (h : numB (figs w).cps.toList = true) (hs : w.cps.toList.head? = some 43 ∨ w.cps.toList.head? = some 45) : deedS w = some (!decide (w.cps.toList.head? = some 45), wval w) := by
  unfold deedS
  rw [if_pos h]
  by_cases h1 : w.cps.toList.head? = some 43
  · rw [if_pos h1, decide_eq_false (by rw [h1]; intro z; cases z)]
    rfl
  · rw [if_neg h1, if_pos (hs.resolve_left h1), decide_eq_true (hs.resolve_left h1)]
    rfl
theorem pick_asc {s : Str} (ha : Asc s) {i : Int} (h0 : 0 ≤ i) (h1 : i < (s.length : Int)) : ∃ d, atI s.cps.toList i = some d ∧ Asc ⟨#[d]⟩ := by
  obtain ⟨k, rfl⟩ := Int.eq_ofNat_of_zero_le h0
  have hk : k < s.cps.toList.length := by
    rw [Array.length_toList]
    have : k < s.length := by omega
    exact this
  refine ⟨s.cps.toList[k], atI_nat (List.getElem?_eq_getElem hk), ha.one (List.getElem_mem hk)⟩
theorem join_tot {sep : Str} {ss : List Str} (h : tot sep.length ss ≤ 10000000) : Builtin.Str.tooLong (ss.toArray.foldl (· + ·.length + sep.length) 0) = false ∧ (Builtin.Str.glued sep ss).length ≤ sizeLine := by
  have hs : sizeLine = 16777216 := sizeLine_eq
  refine ⟨?_, ?_⟩
  · rw [fold_tot']
    exact decide_eq_false (by omega)
  · have := glued_le sep ss
    omega
theorem strLen (a b : Str) : (a ++ b).length = a.length + b.length := Array.size_append
theorem asc_blank : Asc " " := by unfold Asc; decide +kernel
theorem asc_pm : Asc "+-" := by unfold Asc; decide +kernel
def sgA : Str := " !\"#$&'()*+,-./0123456789:;<=>?@ABCDEFGHIJKLMNOPQRSTUVWXYZ[\\]^_`"
def sgB : Str := "abcdefghijklmnopqrstuvwxyz{|}~"
theorem asc_A : Asc sgA := by unfold Asc; decide +kernel
theorem asc_B : Asc sgB := by unfold Asc; decide +kernel
theorem len_AB : (sgA ++ sgB).length = 94 := by decide +kernel
theorem asc_six : Asc "_+- 09" := by unfold Asc; decide +kernel
def six : List Str := ["+0", "-00", "+1_0", "- 1", "+1000000", "-999999"]
theorem six_ok : ∀ s ∈ six, Asc s ∧ s.length ≤ 8 := by unfold Asc; decide +kernel
theorem pick_six {i : Int} (h0 : 0 ≤ i) (h1 : i < 6) : ∃ s : Str, atI (six.map V.str) i = some (.str s) ∧ Asc s ∧ s.length ≤ 8 := by
  obtain ⟨k, rfl⟩ := Int.eq_ofNat_of_zero_le h0
  have hk : k < six.length := by show k < 6; omega
  refine ⟨six[k], atI_nat ?_, six_ok _ (List.getElem_mem hk)⟩
  rw [List.getElem?_map, List.getElem?_eq_getElem hk]
  rfl
end LW

namespace LW_k16
open PySem L2 LW
def top (i : Nat) : Stmt := PySem.Challenge.pw_shuntyard_k16_plans_read.main.body.getD i (.Pass ⟨0, 0, 0, 0⟩)
abbrev s_read : Stmt := top 11
abbrev s_deed_of : Stmt := top 12
abbrev s_is_number : Stmt := top 13
abbrev sCell : Stmt := top 15
abbrev s_law_whole : Stmt := top 16
abbrev s_law_deeds : Stmt := top 17
abbrev s_law_text_of : Stmt := top 18
abbrev s_law_sign_by : Stmt := top 19
abbrev s_law_spoiled : Stmt := top 20
abbrev s_law_due_of : Stmt := top 21
abbrev sLaw : Stmt := top 22
section
variable {P : Program} {w : World} {K : PySem.W.Frag} {mg : Str → Option Value} {base : Heap}

theorem scCell : FnScope ["script", "k"] ["script", "k"] (defScope sCell) := ⟨rfl, rfl, rfl, by decide +kernel, rfl, by decide +kernel, by decide +kernel⟩
theorem ok_cell {f : Addr} {fd : FuncData} (A : At K mg "_law_cell_at" sCell ["script", "k"] f fd) (B : BI mg) : FnOk P w K mg base CX0 1 f fd ["script", "k"] (spCell K) := by
  refine A.F.ok scCell (fun vs H Q E h => ?_) (fun cdv A' outer s H vs Q E hr h => ?_)
  · obtain ⟨a, ns, k, rfl, _⟩ := h
    rfl
  obtain ⟨a, ns, k, rfl, hS, h0, q⟩ := h
  refine ⟨_, pss_cons (ps_if (pt_cmpR op_lt (pv 1) (pe_callB call_len_seq rfl B.len PySem.boot_len (pa_cons (pv 0) pa_nil)) (nomark _)) (pss_one (ps_ret (pe_ix ix_list (pv 0) (pv 1) (fun _ _ => rfl)))) pss_nil)
    (pss_one (ps_ret pe_int)), ?_⟩
  have hl : (ns.map V.int).length = ns.length := List.length_map _
  refine ⟨_, rfl, _, rfl, a, _, rfl, .inl hS, _, _, rfl, rfl, _, rfl, ?_⟩
  refine ite2 (fun c => ?_) (fun c => ?_)
  · have c' : k < (((ns.map V.int).length : Nat) : Int) := of_decide_eq_true c
    rw [hl] at c'
    exact ⟨_, rfl, _, rfl, a, _, _, _, rfl, rfl, hS, atI_map h0 c', q⟩
  · have c' : ¬ k < (((ns.map V.int).length : Nat) : Int) := of_decide_eq_false (Bool.eq_false_iff.mpr c)
    rw [hl] at c'
    have e : cellZ ns k = 0 := cellZ_out (by omega)
    rw [e] at q
    exact q

theorem scWhole : FnScope ["found"] ["found"] (defScope s_law_whole) := ⟨rfl, rfl, rfl, by decide +kernel, rfl, by decide +kernel, by decide +kernel⟩
theorem ok_whole {f : Addr} {fd : FuncData} (A : At K mg "_law_whole" s_law_whole ["found"] f fd) (B : BI mg) (kib : PySem.W.kitOne K (.type "int") (.type "bool") = some false) : FnOk P w K mg base CX0 1 f fd ["found"] spWhole := by
  refine A.F.ok scWhole (fun vs H Q E h => ?_) (fun cdv A' outer s H vs Q E hr h => ?_)
  · obtain ⟨i, rfl, _⟩ := h
    rfl
  obtain ⟨i, rfl, q⟩ := h
  refine ⟨_, pss_one (ps_ret (pe_and (pe_callB call_isi rfl B.isi PyProof.Rows.boot_isinstance (pa_cons (pv 0) (pa_cons (pe_bltn (v := .ty "int") rfl B.int PyProof.Rows.boot_int rfl) pa_nil)))
    (pe_one (pe_not (pe_callB call_isi rfl B.isi PyProof.Rows.boot_isinstance (pa_cons (pv 0) (pa_cons (pe_bltn (v := .ty "bool") rfl B.bool PyProof.Rows.boot_bool rfl) pa_nil))))))), ?_⟩
  exact ⟨_, rfl, _, _, _, true, rfl, .int _, rfl, _, rfl, iteT ⟨_, rfl, _, _, _, false, rfl, .int _, kib, _, rfl, q⟩⟩

theorem bootSet : bootBuiltins "set" = some (.type "set") := by decide +kernel
theorem bootTuple : bootBuiltins "tuple" = some (.type "tuple") := by decide +kernel

theorem scDeeds : FnScope ["found", "deed"] ["found"] (defScope s_law_deeds) := ⟨rfl, rfl, rfl, by decide +kernel, rfl, by decide +kernel, by decide +kernel⟩
theorem ok_deeds {f fW : Addr} {fd dW : FuncData} (A : At K mg "_law_deeds" s_law_deeds ["found"] f fd) (AW : At K mg "_law_whole" s_law_whole ["found"] fW dW) (B : BI mg) (B2 : BI2 mg) (kib : PySem.W.kitOne K (.type "int") (.type "bool") = some false) : FnOk P w K mg base CX0 2 f fd ["found"] spDeeds := by
  have GW : FnOk P w K mg base CX0 1 fW dW ["found"] spWhole := ok_whole AW B kib
  refine A.F.ok scDeeds (fun vs H Q E h => ?_) (fun cdv A' outer s H vs Q E hr h => ?_)
  · obtain ⟨ap, rs, ds, rfl, _⟩ := h
    rfl
  obtain ⟨ap, rs, ds, rfl, hap, pl, q⟩ := h
  refine ⟨_, pss_cons (ps_if (pt_not (pt_val (pe_callB call_isi rfl B.isi PyProof.Rows.boot_isinstance (pa_cons (pv 0) (pa_cons (pe_bltn (v := .ty "list") rfl B.list PyProof.Rows.boot_list rfl) pa_nil))))) (pss_one (ps_ret pe_bl)) pss_nil)
    (pss_cons (ps_for PassesOwn.never rfl (pi_list (pv 0)) (pg_name (i := 1) scDeeds.nd rfl (Or.inl rfl))
      (pss_cons (ps_if (PW.pt (pw_or (pt_not (pt_val (pe_callB call_isi rfl B.isi PyProof.Rows.boot_isinstance (pa_cons (pv 1) (pa_cons (pe_bltn (v := .ty "tuple") rfl B2.tuple bootTuple rfl) pa_nil))))) (pw_or1 (pt_cmpR op_ne (pe_callB call_len_seq rfl B.len PySem.boot_len (pa_cons (pv 1) pa_nil)) pe_int (nomark _))))) (pss_one (ps_ret pe_bl)) pss_nil)
      (pss_cons (ps_if (PW.pt (pw_or (pt_not (pt_val (pe_callB call_isi rfl B.isi PyProof.Rows.boot_isinstance (pa_cons (pe_ix ix_tup (pv 1) pe_int (fun _ _ => rfl)) (pa_cons (pe_bltn (v := .ty "str") rfl B.str PyProof.Rows.boot_str rfl) pa_nil))))) (pw_or1 (pt_not (pt_val (pe_callA AW GW hr (pa_cons (pe_ix ix_tup (pv 1) pe_int (fun _ _ => rfl)) pa_nil))))))) (pss_one (ps_ret pe_bl)) pss_nil)
      (pss_one (ps_if (PW.pt (pw_and (pt_cmpR op_ne (pe_ix ix_tup (pv 1) pe_int (fun _ _ => rfl)) pe_str (nomark _)) (pw_and1 (pt_cmpR op_ne (pe_ix ix_tup (pv 1) pe_int (fun _ _ => rfl)) pe_str (nomark _))))) (pss_one (ps_ret pe_bl)) pss_nil)))))
    (pss_one (ps_ret pe_bl))), ?_⟩
  refine ⟨_, rfl, _, _, _, true, rfl, .lst hap, rfl, _, rfl, iteF ?_⟩
  refine ⟨_, rfl, ap, rfl, ⟨_, SqL.of hap⟩, for_list (K := K) (a := ap) (xs := rs.map V.ref) (fun i σ H2 => (∃ (v : Option V), σ = [some (.ref ap), v]) ∧ H2 = H) ⟨⟨none, rfl⟩, rfl⟩ (fun i σ H2 _ ⟨_, e⟩ => e ▸ SqL.of hap) ?_ ?_⟩
  · rintro i y σ H2 hi ⟨⟨v, rfl⟩, rfl⟩
    obtain ⟨r, b, n, rfl, hd, _, _⟩ := pl.get hi
    refine ⟨_, rfl, _, _, _, true, rfl, .tup hd, rfl, _, rfl, iteF ⟨_, rfl, r, _, rfl, .inr (SqT.of hd), rfl, _, rfl, iteF ?_⟩⟩
    refine ⟨_, rfl, r, _, _, wayV b, rfl, rfl, SqT.of hd, rfl, _, _, _, true, rfl, .str _, rfl, _, rfl, iteF ⟨_, rfl, r, _, _, .int n, rfl, rfl, SqT.of hd, rfl, n, rfl, _, rfl, iteF ?_⟩⟩
    refine ⟨_, rfl, r, _, _, wayV b, rfl, rfl, SqT.of hd, rfl, rfl, _, rfl, ?_⟩
    rw [wayV_in]
    cases b with
    | true => exact iteF (iteF ⟨⟨_, rfl⟩, rfl⟩)
    | false =>
      refine iteT ⟨_, rfl, r, _, _, wayV false, rfl, rfl, SqT.of hd, rfl, rfl, _, rfl, ?_⟩
      rw [wayV_out]
      exact iteF ⟨⟨_, rfl⟩, rfl⟩
  · rintro σ H2 ⟨_, rfl⟩
    exact q
theorem scIN : FnScope ["text", "sign"] ["text"] (defScope s_is_number) := ⟨rfl, rfl, rfl, by decide +kernel, rfl, by decide +kernel, by decide +kernel⟩

theorem ok_isnum {f : Addr} {fd : FuncData} {tM tG : Tok} (A : At K mg "is_number" s_is_number ["text"] f fd) (hM : mg "MOST_FIGURES" = some (.int 6 tM)) (hG : mg "FIGURES" = some (.str "0123456789" tG)) (B : BI mg) : FnOk P w K mg base CX0 1 f fd ["text"] spIsNum := by
  refine A.F.ok scIN (fun vs H Q E h => ?_) (fun cdv A' outer s H vs Q E hr h => ?_)
  · obtain ⟨z, rfl, _⟩ := h
    rfl
  obtain ⟨z, rfl, asc, lz, q⟩ := h
  refine ⟨_, pss_cons (ps_if (PW.pt (pw_or (pt_cmpR op_lt (pe_callB call_len_str rfl B.len PySem.boot_len (pa_cons (pv 0) pa_nil)) pe_int (nomark _)) (pw_or1 (pt_cmpR op_gt (pe_callB call_len_str rfl B.len PySem.boot_len (pa_cons (pv 0) pa_nil)) (pe_glob (v := .int 6) rfl hM ⟨_, rfl⟩) (nomark _))))) (pss_one (ps_ret pe_bl)) pss_nil)
    (pss_cons (ps_for PassesOwn.never rfl (pi_str (pv 0)) (pg_name (i := 1) scIN.nd rfl (Or.inl rfl))
      (pss_one (ps_if (pt_cmpR op_notin_str (pv 1) (pe_glob (v := .str "0123456789") rfl hG ⟨_, rfl⟩) rfl) (pss_one (ps_ret pe_bl)) pss_nil)))
    (pss_one (ps_ret (pe_or (pe_cmpR op_eq (pv 0) pe_str (nomark _)) (pe_one (pe_cmpR op_ne (pe_ix ix_str (pv 0) (pe_int) (fun _ _ => rfl)) pe_str (nomark _))))))), ?_⟩
  have hl : z.length = z.cps.toList.length := by rw [Array.length_toList]; rfl
  have hsz : z.length ≤ sizeLine := by rw [sizeLine_eq]; omega
  have hn : numB z.cps.toList = (decide (1 ≤ z.cps.toList.length) && (decide (z.cps.toList.length ≤ 6) && (z.cps.toList.all digB && (decide (z.cps.toList = [48]) || !decide (z.cps.toList.head? = some 48))))) := rfl
  refine ⟨_, rfl, z, rfl, hsz, _, _, rfl, rfl, _, rfl, ?_⟩
  refine ite2 (fun c1 => ?_) (fun c1 => ?_)
  · have c1 : (z.length : Int) < 1 := of_decide_eq_true c1
    show Q (.bl false) H
    rw [decide_eq_false (by omega), Bool.false_and] at hn
    rwa [hn] at q
  have c1 : ¬ (z.length : Int) < 1 := fun h => c1 (decide_eq_true h)
  rw [decide_eq_true (by omega), Bool.true_and] at hn
  refine ⟨_, rfl, z, rfl, hsz, _, _, rfl, rfl, _, rfl, ?_⟩
  refine ite2 (fun c2 => ?_) (fun c2 => ?_)
  · have c2 : (6 : Int) < (z.length : Int) := of_decide_eq_true c2
    show Q (.bl false) H
    rw [decide_eq_false (by omega), Bool.false_and] at hn
    rwa [hn] at q
  have c2 : ¬ (6 : Int) < (z.length : Int) := fun h => c2 (decide_eq_true h)
  rw [decide_eq_true (by omega), Bool.true_and] at hn
  refine ⟨_, rfl, z, rfl, asc, for_str (fun i σ H2 => (∃ v, σ = [some (.str z), v]) ∧ H2 = H ∧ (z.cps.toList.take i).all digB = true) ⟨⟨none, rfl⟩, rfl, rfl⟩ ?_ ?_⟩
  · rintro i c σ H2 hc ⟨⟨v, rfl⟩, rfl, al⟩
    refine ⟨_, rfl, _, _, rfl, rfl, _, rfl, ?_⟩
    have ef : (!(!(Builtin.Str.occurrences ("0123456789" : Str) ⟨#[c]⟩ 0 ("0123456789" : Str).length 1).isEmpty)) = !digB c := by
      rw [PySem.StrLaws.found_one]
      rfl
    rw [ef]
    by_cases hd : digB c = true
    · rw [hd]
      refine iteF ⟨⟨_, rfl⟩, rfl, ?_⟩
      rw [List.take_add_one, hc, List.all_append, al]
      show (true && [c].all digB) = true
      rw [List.all_cons, hd]
      rfl
    · rw [Bool.eq_false_iff.mpr hd]
      refine iteT ?_
      show Q (.bl false) H2
      have : z.cps.toList.all digB = false := by
        rw [Bool.eq_false_iff]
        intro z'
        exact hd (List.all_eq_true.mp z' c (List.mem_of_getElem? hc))
      rw [this, Bool.false_and] at hn
      rwa [hn] at q
  · rintro σ H2 ⟨⟨v, rfl⟩, rfl, al⟩
    rw [show z.cps.size = z.cps.toList.length from (Array.length_toList).symm, List.take_length] at al
    rw [al, Bool.true_and] at hn
    refine ⟨_, rfl, rfl, _, rfl, ?_⟩
    rw [str_zero]
    by_cases h0 : z.cps.toList = [48]
    · rw [decide_eq_true h0]
      refine iteT ?_
      rw [decide_eq_true h0, Bool.true_or] at hn
      rwa [hn] at q
    · rw [decide_eq_false h0, Bool.false_or] at hn
      rw [decide_eq_false h0]
      obtain ⟨c, hc1, hc2⟩ := atI_head (cs := z.cps.toList) (fun e => by rw [e] at hl; simp at hl; omega)
      refine iteF ⟨_, rfl, z, 0, c, rfl, rfl, hsz, hc2, rfl, ?_⟩
      show Q (.bl (!decide (V.str ⟨#[c]⟩ = V.str "0"))) H2
      rw [one_eq cps0]
      rw [hc1] at hn
      have : decide (some c = some 48) = decide (c = 48) := decide_eq_decide.mpr ⟨fun h => Option.some.inj h, fun h => by rw [h]⟩
      rw [this] at hn
      rwa [hn] at q
theorem scDO : FnScope ["word", "figures"] ["word"] (defScope s_deed_of) := ⟨rfl, rfl, rfl, by decide +kernel, rfl, by decide +kernel, by decide +kernel⟩

theorem ok_deedof {f fN cY cT cW cE cP : Addr} {fd dN : FuncData} {tI tO : Tok} (A : At K mg "deed_of" s_deed_of ["word"] f fd) (AN : At K mg "is_number" s_is_number ["text"] fN dN) (GN : FnOk P w K mg base CX0 1 fN dN ["text"] spIsNum) (X : NpTx K mg cY cT cW cE cP) (hIn : mg "ENTERING" = some (.str "in" tI)) (hOut : mg "LEAVING" = some (.str "out" tO)) (B : BI mg) : FnOk P w K mg base (CX1 P w) 2 f fd ["word"] (spDeedW cP) := by
  refine Fun.okX (R := ExcAt) (fun _ _ _ _ _ h => h) A.F scDO (fun vs H Q E h => ?_) (fun cdv A' outer s H vs Q E hr h => ?_)
  · obtain ⟨z, rfl, _⟩ := h
    rfl
  obtain ⟨w', rfl, asc, lw, q1, q2⟩ := h
  refine ⟨_, pss_cons (ps_set (i := 1) scDO.nd rfl (Or.inl rfl) (pe_slice sl_str (pv 0) (po_some pe_int) po_none))
    (pss_cons (ps_if (PW.pt (pw_and (pt_val (pe_callA AN GN hr (pa_cons (pv 1) pa_nil))) (pw_and1 (pt_cmpR op_eq (pe_ix ix_str (pv 0) (pe_int) (fun _ _ => rfl)) pe_str (nomark _))))) (pss_one (ps_ret (pe_tup (pa_cons (pe_glob (v := wayV true) rfl hIn ⟨_, rfl⟩) (pa_cons (pe_callTy call_int_text rfl B.int PyProof.Rows.boot_int (pa_cons (pv 1) pa_nil)) pa_nil))))) pss_nil)
    (pss_cons (ps_if (PW.pt (pw_and (pt_val (pe_callA AN GN hr (pa_cons (pv 1) pa_nil))) (pw_and1 (pt_cmpR op_eq (pe_ix ix_str (pv 0) (pe_int) (fun _ _ => rfl)) pe_str (nomark _))))) (pss_one (ps_ret (pe_tup (pa_cons (pe_glob (v := wayV false) rfl hOut ⟨_, rfl⟩) (pa_cons (pe_callTy call_int_text rfl B.int PyProof.Rows.boot_int (pa_cons (pv 1) pa_nil)) pa_nil))))) pss_nil)
    (pss_one (ps_raise rfl rfl X.mP X.xP.ex bodyX_raises (pe_fr (pv 0) (by decide +kernel)))))), ?_⟩
  have hsz : w'.length ≤ sizeLine := by rw [sizeLine_eq]; omega
  refine ⟨_, rfl, 1, rfl, w', rfl, hsz, ?_⟩
  show (tSeq _ _) _ [some (.str w'), some (.str (figs w'))] H
  have fa : Asc (figs w') := asc.slice
  have fl : (figs w').length ≤ 10000 := Nat.le_trans (Txt.slice_le w' _ _) lw
  cases hn : numB (figs w').cps.toList with
  | false =>
    have hd : deedS w' = none := by unfold deedS; rw [hn]; rfl
    refine ⟨_, rfl, figs w', rfl, fa, fl, _, rfl, ?_⟩
    rw [hn]
    refine iteF (iteF ⟨_, rfl, figs w', rfl, fa, fl, _, rfl, ?_⟩)
    rw [hn]
    exact iteF (iteF ⟨_, rfl, w', rfl, lw, asc, fun y => ⟨rfl, q2 hd⟩⟩)
  | true =>
    obtain ⟨c, hc1, hc2⟩ := atI_head (figs_pos hn)
    obtain ⟨v1, v2, v3⟩ := wval_ok hn
    refine ⟨_, rfl, figs w', rfl, fa, fl, _, rfl, ?_⟩
    rw [hn]
    refine iteT ⟨_, rfl, w', 0, c, rfl, rfl, hsz, hc2, rfl, _, rfl, ?_⟩
    rw [one_eq cpsP]
    by_cases h43 : c = 43
    · have hd : deedS w' = some (true, wval w') := by unfold deedS; rw [hn, if_pos rfl, if_pos (by rw [hc1, h43])]
      rw [decide_eq_true h43]
      exact iteT ⟨_, rfl, figs w', wval w', rfl, v1, v2, (by show 2 ≤ sizeLine; decide), fun p ep => q1 _ hd p ep⟩
    · rw [decide_eq_false h43]
      refine iteF ⟨_, rfl, figs w', rfl, fa, fl, _, rfl, ?_⟩
      rw [hn]
      refine iteT ⟨_, rfl, w', 0, c, rfl, rfl, hsz, hc2, rfl, _, rfl, ?_⟩
      rw [one_eq cpsM]
      have n43 : ¬ w'.cps.toList.head? = some 43 := fun z => by rw [hc1] at z; exact h43 (Option.some.inj z)
      by_cases h45 : c = 45
      · have hd : deedS w' = some (false, wval w') := by unfold deedS; rw [hn, if_pos rfl, if_neg n43, if_pos (by rw [hc1, h45])]
        rw [decide_eq_true h45]
        exact iteT ⟨_, rfl, figs w', wval w', rfl, v1, v2, (by show 2 ≤ sizeLine; decide), fun p ep => q1 _ hd p ep⟩
      · have n45 : ¬ w'.cps.toList.head? = some 45 := fun z => by rw [hc1] at z; exact h45 (Option.some.inj z)
        have hd : deedS w' = none := by unfold deedS; rw [hn, if_pos rfl, if_neg n43, if_neg n45]
        rw [decide_eq_false h45]
        exact iteF ⟨_, rfl, w', rfl, lw, asc, fun y => ⟨rfl, q2 hd⟩⟩
theorem scRd : FnScope ["line"] ["line"] (defScope s_read) := ⟨rfl, rfl, rfl, by decide +kernel, rfl, by decide +kernel, by decide +kernel⟩

theorem ok_read {f fD cP : Addr} {fd dD : FuncData} (A : At K mg "read" s_read ["line"] f fd) (AD : At K mg "deed_of" s_deed_of ["word"] fD dD) (GD : FnOk P w K mg base (CX1 P w) 2 fD dD ["word"] (spDeedW cP)) : FnOk P w K mg base (CX1 P w) 3 f fd ["line"] (spRead cP) := by
  refine Fun.okX (R := FlyHeld) (fun _ _ _ _ _ h => .inr h) A.F scRd (fun vs H Q E h => ?_) (fun cdv A' outer s H vs Q E hr h => ?_)
  · obtain ⟨z, rfl, _⟩ := h
    rfl
  obtain ⟨z, rfl, asc, lz, q1, q2⟩ := h
  refine ⟨_, pss_cons (ps_if (pt_cmpR op_eq (pv 0) pe_str (nomark _)) (pss_one (ps_ret (pe_lst pa_nil))) pss_nil)
    (pss_one (ps_ret (pe_compX (Ek := E) rfl rfl rfl rfl (Nc := ["word"]) (cp := [none]) ⟨by kernel_rfl, by kernel_rfl⟩ rfl (pi_list (pe_bm PySem.F.plainAttrs_str PySem.F.slot_str_split PySem.F.type_str_split mt_split (pv 0) (pa_cons pe_str pa_nil))) (fun _ _ _ _ => pg_name (i := 0) (show (["word"] : List Str).Nodup by decide +kernel) rfl (Or.inl rfl)) (fun _ _ _ _ => pts_nil)
      (fun _ _ _ _ => pe_callX GD hr rfl AD.m AD.F.kp AD.b compXE_pass (pa_cons (pv 0) pa_nil))))), ?_⟩
  refine ⟨_, rfl, rfl, _, rfl, ?_⟩
  by_cases hz : z = Str.empty
  · subst hz
    refine iteT ⟨(by show 0 ≤ sizeLine; decide), fun l el => ?_⟩
    exact q1 [] (by unfold readS; rw [if_pos rfl]) l _ [] (same_new el) upd_same ⟨rfl, (fun i r d h1 _ => by simp at h1), (fun d hd => by simp at hd)⟩
  · have hr1 : readS z = goS (Txt.split z blank) := by unfold readS; rw [if_neg hz]
    rw [show decide (V.str z = V.str "") = false from decide_eq_false (fun e => hz (by injection e))]
    refine iteF ⟨_, rfl, rfl, z, blank, rfl, rfl, (by decide +kernel), lz, fun p ep => ⟨p, rfl, ⟨_, SqL.of upd_same⟩, ?_⟩⟩
    have t1 := same_new (o := .lst ((Txt.split z blank).map V.str)) ep
    have hp1 : (upd H p (.lst ((Txt.split z blank).map V.str))) p = some (.lst ((Txt.split z blank).map V.str)) := upd_same
    generalize upd H p (.lst ((Txt.split z blank).map V.str)) = H1 at *
    have hm : ∀ w' ∈ Txt.split z blank, Asc w' ∧ w'.length ≤ z.length := fun w' hw => asc.split hw
    have hsl := split_len z blank
    generalize Txt.split z blank = ws at *
    refine comp_list_inv (K := K) (a := p) (xs := ws.map V.str) (fun acc i ys H2 => ∃ (rs : List Addr) (ds : List (Bool × Int)), ys = rs.map V.ref ∧ Same H1 H2 ∧ PlanAt H2 rs ds ∧ goS (ws.take i) = some ds) (by rw [List.length_map, sizeLine_eq]; omega)
      (fun acc ea => ⟨[], [], rfl, same_new ea, ⟨rfl, (fun i r d h1 _ => by simp at h1), (fun d hd => by simp at hd)⟩, rfl⟩) (fun acc i ys H2 _ _ _ ⟨_, _, _, s2, _⟩ => SqL.of (s2 _ _ hp1)) ?_ (fun _ _ _ _ m h => m _ _ h)
      (fun σ H Q Q' m h => by
        obtain ⟨v, e, w', e1, a, l, k1, k2⟩ := h
        exact ⟨v, e, w', e1, a, l, fun d hd p hp => m _ _ (k1 d hd p hp), k2⟩) ?_
    · rintro acc i x ys H2 hx ea hacc ⟨rs, ds, rfl, s2, pl, hg⟩
      rw [List.getElem?_map] at hx
      obtain ⟨w', hw, rfl⟩ : ∃ w', ws[i]? = some w' ∧ x = .str w' := by
        cases e : ws[i]? with
        | none => rw [e] at hx; cases hx
        | some w' => rw [e] at hx; exact ⟨w', rfl, (Option.some.inj hx).symm⟩
      obtain ⟨a1, a2⟩ := hm w' (List.mem_of_getElem? hw)
      obtain ⟨t3, t4⟩ := take_split hw
      unfold tYes
      dsimp only
      rw [if_pos rfl]
      refine ⟨_, rfl, w', rfl, a1, by omega, fun d hd r er => ?_, fun hd => ?_⟩
      · have hne : acc ≠ r := ne_of_none hacc er
        refine ⟨by rw [upd_ne hne]; exact hacc, rs ++ [r], ds ++ [d], by rw [List.map_append]; rfl, (s2.trans (same_new er)).put ea, ?_, by rw [t4]; exact goS_snoc hg hd⟩
        refine PlanAt.snoc (pl.keeps fun b xs e => ?_) ?_ (deedS_sm hd)
        · rw [upd_ne (ne_of e hacc (by intro z; cases z)), upd_ne (ne_of_none e er)]; exact e
        · rw [upd_ne hne.symm]; exact upd_same
      · exact q2 (by rw [hr1, t3]; exact goS_bad hd) H2 (t1.trans s2)
    · rintro acc ys H2 ea hacc _ ⟨rs, ds, rfl, s2, pl, hg⟩
      rw [List.length_map, List.take_length] at hg
      exact q1 ds (hr1.trans hg) acc H2 rs (t1.trans s2) hacc pl
theorem scTO : FnScope ["script", "head", "count", "words", "k", "cell", "number"] ["script"] (defScope s_law_text_of) := ⟨rfl, rfl, rfl, by decide +kernel, rfl, by decide +kernel, by decide +kernel⟩

theorem ok_textof {f fC : Addr} {fd dC : FuncData} (A : At K mg "_law_text_of" s_law_text_of ["script"] f fd) (AC : At K mg "_law_cell_at" sCell ["script", "k"] fC dC) (B : BI mg) : FnOk P w K mg base CX0 2 f fd ["script"] (spTextOf K) := by
  have GC : FnOk P w K mg base CX0 1 fC dC ["script", "k"] (spCell K) := ok_cell AC B
  refine A.F.ok scTO (fun vs H Q E h => ?_) (fun cdv A' outer s H vs Q E hr h => ?_)
  · obtain ⟨a, ns, rfl, _⟩ := h
    rfl
  obtain ⟨a, ns, rfl, hS, q⟩ := h
  have tailB : ∃ tb, PSs (cxOf CX0 P w K mg base ["script", "head", "count", "words", "k", "cell", "number"] "_law_text_of" (defScope s_law_text_of) f cdv A' outer s H E).nox ((forBody ((defBody s_law_text_of).getD 4 (.Pass ⟨0, 0, 0, 0⟩))).drop 3) tb ∧
      ∀ (D : Ends) (H3 : Hp) (head count : Int) (l : Addr) (ws : List Str) (k c n : Int), H3 l = some (.lst (ws.map V.str)) → ws.length ≤ 900 → 0 ≤ n → n < 1000000 →
        (∀ w' : Str, Asc w' → w'.length ≤ 7 → D.nx [some (.ref a), some (.int head), some (.int count), some (.ref l), some (.int k), some (.int c), some (.int n)] (upd H3 l (.lst ((ws ++ [w']).map V.str)))) →
        tb D [some (.ref a), some (.int head), some (.int count), some (.ref l), some (.int k), some (.int c), some (.int n)] H3 := by
    refine ⟨_, pss_one (ps_expr (pe_bm PySem.F.plainAttrs_list PySem.F.slot_list_append PySem.F.type_list_append mt_append (pv 3) (pa_cons (pe_op op_add_str (pe_ix ix_str pe_str (pe_op op_mod (pv 5) pe_int) (fun _ _ => rfl)) (pe_callTy call_str_int rfl B.str PyProof.Rows.boot_str (pa_cons (pv 6) pa_nil))) pa_nil))), ?_⟩
    intro D H3 head count l ws k c n hl lws n0 n1 fin
    have hm2 := modR c (m := 2) (by decide)
    obtain ⟨d, hd1, hd2⟩ := pick_asc asc_pm (i := c % 2) hm2.1 hm2.2
    have hlog : n.natAbs.log2 < 1920 := log2_small (by omega)
    have hn6 : (Str.ofString (toString n)).length ≤ 6 := len_num n0 (by decide) n1
    have hl1 : (⟨#[d]⟩ : Str).length = 1 := rfl
    refine ⟨_, rfl, .inl ⟨rfl, _, SqL.of hl⟩, _, rfl, _, _, rfl, rfl, (by show (0 : Int) < 2; decide), "+-", c % 2, d, rfl, rfl, (by show 2 ≤ sizeLine; decide), hd1, _, rfl, n, rfl, hlog, ⟨#[d]⟩, Str.ofString (toString n), rfl, rfl, (by rw [hl1, sizeLine_eq]; omega), l, _, _, rfl, rfl, hl, (by rw [List.length_map]; exact small1000 (by omega)), ?_⟩
    have := fin (⟨#[d]⟩ ++ Str.ofString (toString n)) (hd2.app (asc_num n0)) (by rw [strLen]; omega)
    rwa [List.map_append] at this
  obtain ⟨tb, htb, hqb⟩ := tailB
  have tail : ∃ tt, PSs (cxOf CX0 P w K mg base ["script", "head", "count", "words", "k", "cell", "number"] "_law_text_of" (defScope s_law_text_of) f cdv A' outer s H E).nox ((defBody s_law_text_of).drop 3) tt ∧ ∀ (head count : Int), 0 ≤ count → count ≤ 200 →
      tt { nx := fun _ H' => Q .non H', rt := Q } [some (.ref a), some (.int head), some (.int count), none, none, none, none] H := by
    refine ⟨_, pss_cons (ps_set (i := 3) scTO.nd rfl (Or.inl rfl) (pe_lst pa_nil))
      (pss_cons (ps_for PassesOwn.never rfl (pi_range1 rfl B.range (pa_cons (pv 2) pa_nil)) (pg_name (i := 4) scTO.nd rfl (Or.inl rfl))
        (pss_cons (ps_set (i := 5) scTO.nd rfl (Or.inl rfl) (pe_op op_add (pe_callA AC GC hr (pa_cons (pv 0) (pa_cons (pe_op op_add pe_int (pe_op op_mod (pv 4) pe_int)) pa_nil))) (pe_op op_mul (pe_op op_fdiv (pv 4) pe_int) pe_int)))
        (pss_cons (ps_set (i := 6) scTO.nd rfl (Or.inl rfl) (pe_op op_mod (pe_op op_fdiv (pv 5) pe_int) pe_int))
        (pss_cons (ps_if (pt_cmpR op_eq (pe_op op_mod (pe_op op_fdiv (pv 5) pe_int) pe_int) pe_int (nomark _)) (pss_one (ps_set (i := 6) scTO.nd rfl (Or.inl rfl) (pe_op op_mod (pv 6) pe_int))) pss_nil) htb))))
      (pss_one (ps_ret (pe_bm PySem.F.plainAttrs_str PySem.F.slot_str_join PySem.F.type_str_join mt_join pe_str (pa_cons (pv 3) pa_nil))))), ?_⟩
    intro head count c0 c1
    refine ⟨(by show 0 ≤ sizeLine; decide), fun l el => ?_⟩
    have s1 := same_new (o := .lst []) el
    refine ⟨_, rfl, count, rfl, by omega, by omega, for_range (lo := 0) (n := count.toNat) (fun i σ H2 => ∃ (ws : List Str) (v v' v'' : Option V), σ = [some (.ref a), some (.int head), some (.int count), some (.ref l), v, v', v''] ∧ Same H H2 ∧ H2 l = some (.lst (ws.map V.str)) ∧ (∀ w' ∈ ws, Asc w') ∧ ws.length = i ∧ tot 1 ws ≤ 8 * i)
      ⟨[], none, none, none, rfl, s1, upd_same, (fun d hd => by simp at hd), rfl, Nat.le_refl _⟩ ?_ ?_⟩
    · rintro i σ H2 hi ⟨ws, v, v', v'', rfl, s2, hl, ha, hlen, ht⟩
      have h60 := modR (0 + (i : Int)) (m := 60) (by decide)
      refine ⟨_, rfl, _, rfl, _, _, rfl, rfl, (by show (0 : Int) < 60; decide), _, _, rfl, rfl, a, ns, _, rfl, s2.seq hS, by omega, _, rfl, _, _, rfl, rfl, ⟨by decide, by decide⟩, _, _, rfl, rfl, .inr ⟨by decide, by decide⟩, _, _, rfl, rfl, ?_⟩
      dsimp only
      generalize cellZ ns (2 + (0 + (i : Int)) % 60) + (0 + (i : Int)) / 60 * 7919 = c
      have hm := modR (c / 4) (m := 1000000) (by decide)
      have hm12 := modR (c / 4 % 1000000) (m := 12) (by decide)
      have fin : ∀ (n : Int) (w' : Str), Asc w' → w'.length ≤ 7 →
          ∃ (ws1 : List Str) (v v' v'' : Option V), [some (V.ref a), some (.int head), some (.int count), some (.ref l), some (.int (0 + (i : Int))), some (.int c), some (.int n)] = [some (.ref a), some (.int head), some (.int count), some (.ref l), v, v', v''] ∧ Same H (upd H2 l (.lst ((ws ++ [w']).map V.str))) ∧ (upd H2 l (.lst ((ws ++ [w']).map V.str))) l = some (.lst (ws1.map V.str)) ∧ (∀ w' ∈ ws1, Asc w') ∧ ws1.length = i + 1 ∧ tot 1 ws1 ≤ 8 * (i + 1) := fun n w' a1 a2 => by
        refine ⟨ws ++ [w'], _, _, _, rfl, s2.put el, upd_same, fun x hx => ?_, by rw [List.length_append, hlen]; rfl, ?_⟩
        · rcases List.mem_append.mp hx with z | z
          · exact ha x z
          · rw [List.mem_singleton.mp z]; exact a1
        · rw [tot_app]
          show tot 1 ws + (w'.length + 1 + 0) ≤ _
          omega
      have lws : ws.length ≤ 900 := by rw [hlen]; omega
      refine ⟨_, rfl, _, _, rfl, rfl, ⟨by decide, by decide⟩, _, _, rfl, rfl, (by show (0 : Int) < 1000000; decide), ?_⟩
      refine ⟨_, rfl, _, _, rfl, rfl, ⟨by decide, by decide⟩, _, _, rfl, rfl, (by show (0 : Int) < 2; decide), rfl, _, rfl, ?_⟩
      refine ite2 (fun _ => ?_) (fun _ => ?_)
      · refine ⟨_, rfl, _, _, rfl, rfl, (by show (0 : Int) < 12; decide), ?_⟩
        exact hqb _ H2 head count l ws _ c _ hl lws hm12.1 (by omega) fun w' a1 a2 => fin _ w' a1 a2
      · exact hqb _ H2 head count l ws _ c _ hl lws hm.1 hm.2 fun w' a1 a2 => fin _ w' a1 a2
    · rintro σ H2 ⟨ws, v, v', v'', rfl, s2, hl, ha, hlen, ht⟩
      have h1 : (" " : Str).length = 1 := rfl
      obtain ⟨j1, j2⟩ := join_tot (sep := " ") (ss := ws) (by rw [h1]; omega)
      have := glued_le " " ws
      rw [h1] at this
      exact ⟨rfl, _, rfl, " ", l, ws, rfl, rfl, SqL.of hl, j1, j2, q _ H2 s2 (asc_blank.glued ha) (by omega)⟩
  obtain ⟨tt, ht, hq⟩ := tail
  refine ⟨_, pss_cons (ps_set (i := 1) scTO.nd rfl (Or.inl rfl) (pe_callA AC GC hr (pa_cons (pv 0) (pa_cons pe_int pa_nil))))
    (pss_cons (ps_set (i := 2) scTO.nd rfl (Or.inl rfl) (pe_op op_mod (pv 1) pe_int))
    (pss_cons (ps_if (pt_cmpR op_eq (pe_op op_mod (pe_op op_fdiv (pv 1) pe_int) pe_int) pe_int (nomark _)) (pss_one (ps_set (i := 2) scTO.nd rfl (Or.inl rfl) (pe_op op_mod (pe_op op_fdiv (pv 1) pe_int) pe_int))) pss_nil) ht)), ?_⟩
  refine ⟨_, rfl, a, ns, 0, rfl, hS, Int.le_refl 0, ?_⟩
  have h7 := modR (cellZ ns 0) (m := 7) (by decide)
  have h191 := modR (cellZ ns 0 / 28) (m := 191) (by decide)
  refine ⟨_, rfl, _, _, rfl, rfl, (by show (0 : Int) < 7; decide), ?_⟩
  refine ⟨_, rfl, _, _, rfl, rfl, ⟨by decide, by decide⟩, _, _, rfl, rfl, (by show (0 : Int) < 4; decide), rfl, _, rfl, ?_⟩
  refine ite2 (fun _ => ?_) (fun _ => ?_)
  · exact ⟨_, rfl, _, _, rfl, rfl, ⟨by decide, by decide⟩, _, _, rfl, rfl, (by show (0 : Int) < 191; decide), hq _ _ h191.1 (by omega)⟩
  · exact hq _ _ h7.1 (by omega)
theorem scSB : FnScope ["cell", "some"] ["cell"] (defScope s_law_sign_by) := ⟨rfl, rfl, rfl, by decide +kernel, rfl, by decide +kernel, by decide +kernel⟩

theorem ok_signby {f : Addr} {fd : FuncData} (A : At K mg "_law_sign_by" s_law_sign_by ["cell"] f fd) : FnOk P w K mg base CX0 1 f fd ["cell"] spSignBy := by
  refine A.F.ok scSB (fun vs H Q E h => ?_) (fun cdv A' outer s H vs Q E hr h => ?_)
  · obtain ⟨c, rfl, _⟩ := h
    rfl
  obtain ⟨c, rfl, q⟩ := h
  refine ⟨_, pss_cons (ps_set (i := 1) scSB.nd rfl (Or.inl rfl) pe_str) (pss_cons (ps_set (i := 1) scSB.nd rfl (Or.inl rfl) (pe_op op_add_str (pv 1) pe_str)) (pss_one (ps_ret (pe_ix ix_str (pv 1) (pe_op op_mod (pv 0) pe_int) (fun _ _ => rfl))))), ?_⟩
  have hm := modR c (m := 94) (by decide)
  obtain ⟨d, hd1, hd2⟩ := pick_asc (asc_A.app asc_B) (i := c % 94) hm.1 (by rw [len_AB]; exact hm.2)
  refine ⟨_, rfl, sgA, sgB, rfl, rfl, (by have := len_AB; rw [strLen] at this; rw [this, sizeLine_eq]; omega), ?_⟩
  exact ⟨_, rfl, _, rfl, _, _, rfl, rfl, (by show (0 : Int) < 94; decide), sgA ++ sgB, c % 94, d, rfl, rfl, (by rw [len_AB, sizeLine_eq]; omega), hd1, q _ hd2 rfl⟩
theorem scSp : FnScope ["line", "cell", "place", "rest", "way", "words"] ["line", "cell"] (defScope s_law_spoiled) := ⟨rfl, rfl, rfl, by decide +kernel, rfl, by decide +kernel, by decide +kernel⟩

theorem tk_dr {ws : List Str} {k : Nat} {w' : Str} : (ws.map V.str).take k ++ V.str w' :: (ws.map V.str).drop k = (ws.take k ++ w' :: ws.drop k).map V.str := by
  rw [List.map_append, List.map_cons, List.map_take, List.map_drop]
theorem ok_spoiled {f fS : Addr} {fd dS : FuncData} (A : At K mg "_law_spoiled" s_law_spoiled ["line", "cell"] f fd) (AS : At K mg "_law_sign_by" s_law_sign_by ["cell"] fS dS) (B : BI mg) : FnOk P w K mg base CX0 2 f fd ["line", "cell"] spSpoiled := by
  have GS : FnOk P w K mg base CX0 1 fS dS ["cell"] spSignBy := ok_signby AS
  refine A.F.ok scSp (fun vs H Q E h => ?_) (fun cdv A' outer s H vs Q E hr h => ?_)
  · obtain ⟨z, c, rfl, _⟩ := h
    rfl
  obtain ⟨z, c, rfl, asc, lz, c0, c1, q⟩ := h
  have hs : sizeLine = 16777216 := sizeLine_eq
  have tail : ∃ tt, PSs (cxOf CX0 P w K mg base ["line", "cell", "place", "rest", "way", "words"] "_law_spoiled" (defScope s_law_spoiled) f cdv A' outer s H E).nox ((defBody s_law_spoiled).drop 12) tt ∧ ∀ (H1 : Hp) (pl rest way : Int) (l : Addr) (ws : List Str), Same H H1 → H l = none → H1 l = some (.lst (ws.map V.str)) → ws.length ≤ 5000 → (∀ x ∈ ws, Asc x) → tot 1 ws ≤ 5000 →
      tt { nx := fun _ H' => Q .non H', rt := Q } [some (.str z), some (.int c), some (.int pl), some (.int rest), some (.int way), some (.ref l)] H1 := by
    refine ⟨_, pss_cons (ps_expr (pe_bm PySem.F.plainAttrs_list PySem.F.slot_list_insert PySem.F.type_list_insert mt_insert (pv 5) (pa_cons (pe_op op_mod (pv 2) (pe_op op_add (pe_callB call_len_seq rfl B.len PySem.boot_len (pa_cons (pv 5) pa_nil)) pe_int)) (pa_cons (pe_ix ix_list (pe_lst (pa_cons pe_str (pa_cons pe_str (pa_cons pe_str (pa_cons pe_str (pa_cons pe_str (pa_cons pe_str pa_nil))))))) (pe_op op_mod (pv 3) pe_int) (fun _ _ => rfl)) pa_nil))))
      (pss_one (ps_ret (pe_bm PySem.F.plainAttrs_str PySem.F.slot_str_join PySem.F.type_str_join mt_join pe_str (pa_cons (pv 5) pa_nil)))), ?_⟩
    intro H1 pl rest way l ws s1 el hl lws ha ht
    have hlm : (ws.map V.str).length = ws.length := List.length_map _
    have hm := modR pl (m := (ws.length : Int) + 1) (by omega)
    have h6 := modR rest (m := 6) (by decide)
    obtain ⟨w', hw1, hw2, hw3⟩ := pick_six (i := rest % 6) h6.1 h6.2
    refine ⟨_, rfl, .inl ⟨rfl, _, SqL.of hl⟩, _, rfl, _, rfl, l, _, rfl, .inl (SqL.of hl), _, _, rfl, rfl, _, _, rfl, rfl, (by show (0 : Int) < ((ws.map V.str).length : Int) + 1; omega), (by show 6 ≤ sizeLine; decide), fun p0 e0 => ?_⟩
    have t0 := same_new (o := .lst (six.map V.str)) e0
    have hp0 : (upd H1 p0 (.lst (six.map V.str))) p0 = some (.lst (six.map V.str)) := upd_same
    have hl0 := t0 _ _ hl
    have s2 := s1.trans t0
    refine ⟨_, rfl, _, _, rfl, rfl, (by show (0 : Int) < 6; decide), p0, _, _, _, rfl, rfl, SqL.of hp0, hw1, l, _, _, _, rfl, rfl, hl0, (by rw [hlm]; exact hm.1), (by rw [hlm]; omega), (by rw [hlm, hs]; omega), ?_⟩
    rw [hlm, tk_dr]
    have s3 := s2.put (o := .lst ((ws.take (pl % ((ws.length : Int) + 1)).toNat ++ w' :: ws.drop (pl % ((ws.length : Int) + 1)).toNat).map V.str)) el
    have hb1 : (" " : Str).length = 1 := rfl
    generalize (pl % ((ws.length : Int) + 1)).toNat = k at *
    have htot : tot 1 (ws.take k ++ w' :: ws.drop k) ≤ 5100 := by
      have e : tot 1 ws = tot 1 (ws.take k) + tot 1 (ws.drop k) := by rw [← tot_app, List.take_append_drop]
      rw [tot_app]
      show tot 1 (ws.take k) + (w'.length + 1 + tot 1 (ws.drop k)) ≤ _
      omega
    have hall : ∀ x ∈ ws.take k ++ w' :: ws.drop k, Asc x := fun x hx => by
      rcases List.mem_append.mp hx with h | h
      · exact ha x (List.mem_of_mem_take h)
      · rcases List.mem_cons.mp h with h | h
        · rw [h]; exact hw2
        · exact ha x (List.mem_of_mem_drop h)
    obtain ⟨j1, j2⟩ := join_tot (sep := " ") (ss := ws.take k ++ w' :: ws.drop k) (by rw [hb1]; omega)
    have hg := glued_le " " (ws.take k ++ w' :: ws.drop k)
    rw [hb1] at hg
    exact ⟨rfl, _, rfl, " ", l, _, rfl, rfl, SqL.of upd_same, j1, j2, q _ _ s3 (asc_blank.glued hall) (by omega)⟩
  obtain ⟨tt, htt, hq⟩ := tail
  refine ⟨_, pss_cons (ps_set (i := 2) scSp.nd rfl (Or.inl rfl) (pe_op op_mod (pe_op op_fdiv (pv 1) pe_int) (pe_op op_add (pe_callB call_len_str rfl B.len PySem.boot_len (pa_cons (pv 0) pa_nil)) pe_int)))
    (pss_cons (ps_set (i := 3) scSp.nd rfl (Or.inl rfl) (pe_op op_fdiv (pe_op op_fdiv (pv 1) pe_int) (pe_op op_add (pe_callB call_len_str rfl B.len PySem.boot_len (pa_cons (pv 0) pa_nil)) pe_int)))
    (pss_cons (ps_set (i := 4) scSp.nd rfl (Or.inl rfl) (pe_op op_mod (pv 1) pe_int))
    (pss_cons (ps_if (pt_cmpR op_eq (pv 4) pe_int (nomark _)) (pss_one (ps_ret (pe_op op_add_str (pe_op op_add_str (pe_slice sl_str (pv 0) po_none (po_some (pv 2))) (pe_ix ix_str pe_str (pe_op op_mod (pv 3) pe_int) (fun _ _ => rfl))) (pe_slice sl_str (pv 0) (po_some (pv 2)) po_none)))) pss_nil)
      (pss_cons (ps_if (pt_cmpR op_eq (pv 4) pe_int (nomark _)) (pss_one (ps_ret (pe_op op_add_str (pe_slice sl_str (pv 0) po_none (po_some (pv 2))) (pe_slice sl_str (pv 0) (po_some (pe_op op_add (pv 2) pe_int)) po_none)))) pss_nil)
      (pss_cons (ps_if (pt_cmpR op_eq (pv 4) pe_int (nomark _)) (pss_one (ps_ret (pe_op op_add_str (pv 0) pe_str))) pss_nil)
      (pss_cons (ps_if (pt_cmpR op_eq (pv 4) pe_int (nomark _)) (pss_one (ps_ret (pe_op op_add_str (pe_op op_add_str (pv 0) pe_str) (pe_callTy call_str_int rfl B.str PyProof.Rows.boot_str (pa_cons (pe_op op_add pe_int (pe_op op_mod (pe_op op_fdiv (pv 1) pe_int) pe_int)) pa_nil))))) pss_nil)
      (pss_cons (ps_if (pt_cmpR op_eq (pv 4) pe_int (nomark _)) (pss_one (ps_ret (pe_op op_add_str (pe_op op_add_str (pe_op op_add_str pe_str (pe_callTy call_str_int rfl B.str PyProof.Rows.boot_str (pa_cons (pe_op op_mod (pe_op op_fdiv (pv 1) pe_int) pe_int) pa_nil))) pe_str) (pv 0)))) pss_nil)
      (pss_cons (ps_if (pt_cmpR op_eq (pv 4) pe_int (nomark _)) (pss_one (ps_ret (pe_op op_add_str (pe_op op_add_str (pe_slice sl_str (pv 0) po_none (po_some (pv 2))) (pe_callA AS GS hr (pa_cons (pv 3) pa_nil))) (pe_slice sl_str (pv 0) (po_some (pv 2)) po_none)))) pss_nil)
      (pss_cons (ps_if (pt_cmpR op_eq (pv 4) pe_int (nomark _)) (pss_one (ps_ret (pe_op op_add_str (pe_op op_add_str (pe_slice sl_str (pv 0) po_none (po_some (pv 2))) (pe_callA AS GS hr (pa_cons (pv 3) pa_nil))) (pe_slice sl_str (pv 0) (po_some (pe_op op_add (pv 2) pe_int)) po_none)))) pss_nil)
       (pss_cons (ps_set (i := 5) scSp.nd rfl (Or.inl rfl) (pe_lst pa_nil))
      (pss_cons (ps_if (pt_cmpR op_ne (pv 0) pe_str (nomark _)) (pss_one (ps_set (i := 5) scSp.nd rfl (Or.inl rfl) (pe_bm PySem.F.plainAttrs_str PySem.F.slot_str_split PySem.F.type_str_split mt_split (pv 0) (pa_cons pe_str pa_nil)))) pss_nil) htt))))))))))), ?_⟩
  have hsz : z.length ≤ sizeLine := by omega
  refine ⟨_, rfl, _, _, rfl, rfl, ⟨by decide, by decide⟩, _, rfl, z, rfl, hsz, _, _, rfl, rfl, _, _, rfl, rfl, (by show (0 : Int) < (z.length : Int) + 1; omega), ?_⟩
  refine ⟨_, rfl, _, _, rfl, rfl, ⟨by decide, by decide⟩, _, rfl, z, rfl, hsz, _, _, rfl, rfl, _, _, rfl, rfl, ⟨(by show (0 : Int) < (z.length : Int) + 1; omega), (by show (z.length : Int) + 1 < 1073741824; omega)⟩, ?_⟩
  refine ⟨_, rfl, _, _, rfl, rfl, (by show (0 : Int) < 8; decide), ?_⟩
  dsimp only
  have hrest : 0 ≤ c / 8 / ((z.length : Int) + 1) := Int.ediv_nonneg (Int.ediv_nonneg c0 (by decide)) (by omega)
  generalize c / 8 % ((z.length : Int) + 1) = pl
  generalize c / 8 / ((z.length : Int) + 1) = rest at *
  have la : ∀ l u, (Txt.slice z l u).length ≤ 2000 := fun l u => Nat.le_trans (Txt.slice_le z l u) lz
  have aa : ∀ l u, Asc (Txt.slice z l u) := fun l u => asc.slice
  have h6 := modR rest (m := 6) (by decide)
  obtain ⟨d6, hd6, ad6⟩ := pick_asc asc_six (i := rest % 6) h6.1 h6.2
  have l6 : (⟨#[d6]⟩ : Str).length = 1 := rfl
  refine ⟨_, rfl, rfl, _, rfl, ite2 (fun _ => ?_) (fun _ => ?_)⟩
  · refine ⟨_, rfl, _, rfl, pl, rfl, z, rfl, hsz, _, rfl, _, _, rfl, rfl, (by show (0 : Int) < 6; decide), "_+- 09", rest % 6, d6, rfl, rfl, (by show 6 ≤ sizeLine; decide), hd6, _, ⟨#[d6]⟩, rfl, rfl, (by have := la none (some pl); rw [l6]; omega), _, rfl, _, rfl, pl, rfl, z, rfl, hsz, _, _, rfl, rfl, (by have := la none (some pl); have := la (some pl) none; rw [strLen, l6]; omega), ?_⟩
    exact q _ H (Same.refl H) (((aa _ _).app ad6).app (aa _ _)) (by have := la none (some pl); have := la (some pl) none; rw [strLen, strLen, l6]; omega)
  refine ⟨_, rfl, rfl, _, rfl, ite2 (fun _ => ?_) (fun _ => ?_)⟩
  · refine ⟨_, rfl, _, rfl, pl, rfl, z, rfl, hsz, _, rfl, _, rfl, _, _, rfl, rfl, pl + 1, rfl, z, rfl, hsz, _, _, rfl, rfl, (by have := la none (some pl); have := la (some (pl + 1)) none; omega), ?_⟩
    exact q _ H (Same.refl H) ((aa _ _).app (aa _ _)) (by have := la none (some pl); have := la (some (pl + 1)) none; rw [strLen]; omega)
  refine ⟨_, rfl, rfl, _, rfl, ite2 (fun _ => ?_) (fun _ => ?_)⟩
  · have h1 : (" " : Str).length = 1 := rfl
    exact ⟨_, rfl, z, " ", rfl, rfl, (by rw [h1]; omega), q _ H (Same.refl H) (asc.app asc_blank) (by rw [strLen, h1]; omega)⟩
  refine ⟨_, rfl, rfl, _, rfl, ite2 (fun _ => ?_) (fun _ => ?_)⟩
  · have h1 : (" +" : Str).length = 2 := rfl
    have ha : Asc " +" := by unfold Asc; decide +kernel
    have hm := modR (c / 8) (m := 9000000) (by decide)
    have hn := len_num (n := 1000000 + c / 8 % 9000000) (k := 8) (by omega) (by decide) (by omega)
    have an := asc_num (n := 1000000 + c / 8 % 9000000) (by omega)
    refine ⟨_, rfl, z, " +", rfl, rfl, (by rw [h1]; omega), _, rfl, _, _, rfl, rfl, ⟨by decide, by decide⟩, _, _, rfl, rfl, (by show (0 : Int) < 9000000; decide), _, _, rfl, rfl, _, rfl, log2_small (by omega), _, _, rfl, rfl, (by rw [strLen, h1]; omega), ?_⟩
    exact q _ H (Same.refl H) ((asc.app ha).app an) (by rw [strLen, strLen, h1]; omega)
  refine ⟨_, rfl, rfl, _, rfl, ite2 (fun _ => ?_) (fun _ => ?_)⟩
  · have h1 : ("-0" : Str).length = 2 := rfl
    have h2 : (" " : Str).length = 1 := rfl
    have ha : Asc "-0" := by unfold Asc; decide +kernel
    have hm := modR (c / 8) (m := 100) (by decide)
    have hn := len_num (n := c / 8 % 100) (k := 2) hm.1 (by decide) hm.2
    have an := asc_num (n := c / 8 % 100) hm.1
    refine ⟨_, rfl, _, _, rfl, rfl, ⟨by decide, by decide⟩, _, _, rfl, rfl, (by show (0 : Int) < 100; decide), _, rfl, log2_small (by omega), "-0", _, rfl, rfl, (by rw [h1]; omega), _, " ", rfl, rfl, (by rw [strLen, h1, h2]; omega), _, rfl, _, z, rfl, rfl, (by rw [strLen, strLen, h1, h2]; omega), ?_⟩
    exact q _ H (Same.refl H) (((ha.app an).app asc_blank).app asc) (by rw [strLen, strLen, strLen, h1, h2]; omega)
  refine ⟨_, rfl, rfl, _, rfl, ite2 (fun _ => ?_) (fun _ => ?_)⟩
  · refine ⟨_, rfl, _, rfl, pl, rfl, z, rfl, hsz, _, rfl, rest, rfl, fun y ay ly => ?_⟩
    refine ⟨_, y, rfl, rfl, (by have := la none (some pl); omega), _, rfl, _, rfl, pl, rfl, z, rfl, hsz, _, _, rfl, rfl, (by have := la none (some pl); have := la (some pl) none; rw [strLen]; omega), ?_⟩
    exact q _ H (Same.refl H) (((aa _ _).app ay).app (aa _ _)) (by have := la none (some pl); have := la (some pl) none; rw [strLen, strLen]; omega)
  refine ⟨_, rfl, rfl, _, rfl, ite2 (fun _ => ?_) (fun _ => ?_)⟩
  · refine ⟨_, rfl, _, rfl, pl, rfl, z, rfl, hsz, _, rfl, rest, rfl, fun y ay ly => ?_⟩
    refine ⟨_, y, rfl, rfl, (by have := la none (some pl); omega), _, rfl, _, rfl, _, _, rfl, rfl, pl + 1, rfl, z, rfl, hsz, _, _, rfl, rfl, (by have := la none (some pl); have := la (some (pl + 1)) none; rw [strLen]; omega), ?_⟩
    exact q _ H (Same.refl H) (((aa _ _).app ay).app (aa _ _)) (by have := la none (some pl); have := la (some (pl + 1)) none; rw [strLen, strLen]; omega)
  refine ⟨(by show 0 ≤ sizeLine; decide), fun l el => ?_⟩
  have t1 := same_new (o := .lst []) el
  have hl1 : (upd H l (.lst [])) l = some (.lst (([] : List Str).map V.str)) := upd_same
  refine ⟨_, rfl, rfl, _, rfl, ite2 (fun _ => ?_) (fun _ => ?_)⟩
  · refine ⟨_, rfl, rfl, z, blank, rfl, rfl, (by decide +kernel), by omega, fun p ep => ?_⟩
    have t2 := same_new (o := .lst ((Txt.split z blank).map V.str)) ep
    have hsl := split_len z blank
    have hst := split_tot z blank
    have hb : blank.length = 1 := rfl
    rw [hb] at hst
    exact hq _ pl rest _ p _ (t1.trans t2) (t1.free ep) upd_same (by omega) (fun x hx => (asc.split hx).1) (by omega)
  · exact hq _ pl rest _ l [] t1 el hl1 (Nat.zero_le _) (fun x hx => by simp at hx) (Nat.zero_le _)
theorem scDu : FnScope ["line", "deeds", "word", "figures", "sign"] ["line"] (defScope s_law_due_of) := ⟨rfl, rfl, rfl, by decide +kernel, rfl, by decide +kernel, by decide +kernel⟩

theorem pick_io (c : Bool) : atI [V.str "in", .str "out"] (if c = true then (1 : Int) else 0) = some (wayV (!c)) := by
  cases c
  · exact atI_nat (j := 0) (xs := [V.str "in", .str "out"]) rfl
  · exact atI_nat (j := 1) (xs := [V.str "in", .str "out"]) rfl
theorem ok_dueof {f : Addr} {fd : FuncData} (A : At K mg "_law_due_of" s_law_due_of ["line"] f fd) (B : BI mg) : FnOk P w K mg base CX0 1 f fd ["line"] spDueW := by
  refine A.F.ok scDu (fun vs H Q E h => ?_) (fun cdv A' outer s H vs Q E hr h => ?_)
  · obtain ⟨z, rfl, _⟩ := h
    rfl
  obtain ⟨z, rfl, asc, lz, q1, q2⟩ := h
  have tailA : ∃ ta, PSs (cxOf CX0 P w K mg base ["line", "deeds", "word", "figures", "sign"] "_law_due_of" (defScope s_law_due_of) f cdv A' outer s H E).nox ((forBody ((defBody s_law_due_of).getD 2 (.Pass ⟨0, 0, 0, 0⟩))).drop 4) ta ∧
      ∀ (D : Ends) (H2 : Hp) (dl : Addr) (w' : Str) (rs : List Addr) (v : Option V), w'.length ≤ 10000 → numB (figs w').cps.toList = true → (w'.cps.toList.head? = some 43 ∨ w'.cps.toList.head? = some 45) → H2 dl = some (.lst (rs.map V.ref)) → rs.length ≤ 20000 →
        (∀ (d : Bool × Int) (v4 : Option V) (H4 : Hp) (r : Addr), deedS w' = some d → H4 dl = some (.lst ((rs ++ [r]).map V.ref)) → H4 r = some (.tup [wayV d.1, .int d.2]) → (∀ e o, H2 e = some o → e ≠ dl → H4 e = some o) → D.nx [some (.str z), some (.ref dl), some (.str w'), some (.str (figs w')), v4] H4) →
        ta D [some (.str z), some (.ref dl), some (.str w'), some (.str (figs w')), v] H2 := by
    refine ⟨_, pss_one (ps_expr (pe_bm PySem.F.plainAttrs_list PySem.F.slot_list_append PySem.F.type_list_append mt_append (pv 1) (pa_cons (pe_tup (pa_cons (pe_ix ix_list (pe_lst (pa_cons pe_str (pa_cons pe_str pa_nil))) (pe_callTy call_int_bl rfl B.int PyProof.Rows.boot_int (pa_cons (pe_cmpR op_eq (pe_ix ix_str (pv 2) (pe_int) (fun _ _ => rfl)) pe_str (nomark _)) pa_nil)) (fun _ _ => rfl)) (pa_cons (pe_callTy call_int_text rfl B.int PyProof.Rows.boot_int (pa_cons (pv 3) pa_nil)) pa_nil))) pa_nil))), ?_⟩
    intro D H2 dl w' rs v lw hn hs hdl lrs good
    have hsz : w'.length ≤ sizeLine := by rw [sizeLine_eq]; omega
    obtain ⟨u1, u2, u3⟩ := wval_ok hn
    obtain ⟨e, he1, he2⟩ := atI_head (figs_pos hn)
    have hd := deedS_good hn hs
    refine ⟨_, rfl, .inl ⟨rfl, _, SqL.of hdl⟩, (by show 2 ≤ sizeLine; decide), fun p0 e0 => ?_⟩
    have t0 := same_new (o := .lst [.str "in", .str "out"]) e0
    refine ⟨_, rfl, w', 0, e, rfl, rfl, hsz, he2, rfl, _, rfl, p0, _, _, _, rfl, rfl, SqL.of upd_same, pick_io _, _, rfl, figs w', wval w', rfl, u1, u2, (by show 2 ≤ sizeLine; decide), fun r er => ?_⟩
    have ew : decide (V.str ⟨#[e]⟩ = V.str "-") = decide (w'.cps.toList.head? = some 45) := by
      rw [one_eq cpsM, he1]
      exact decide_eq_decide.mpr ⟨fun h => by rw [h], fun h => Option.some.inj h⟩
    rw [ew]
    have t1 := t0.trans (same_new (o := .tup [wayV (!decide (w'.cps.toList.head? = some 45)), .int (wval w')]) er)
    have hl1 := t1 _ _ hdl
    have hr : (upd (upd H2 p0 (.lst [.str "in", .str "out"])) r (.tup [wayV (!decide (w'.cps.toList.head? = some 45)), .int (wval w')])) r = some (.tup [wayV (!decide (w'.cps.toList.head? = some 45)), .int (wval w')]) := upd_same
    generalize upd (upd H2 p0 (.lst [.str "in", .str "out"])) r (.tup [wayV (!decide (w'.cps.toList.head? = some 45)), .int (wval w')]) = H5 at *
    refine ⟨dl, _, _, rfl, rfl, hl1, (by rw [List.length_map, sizeLine_eq]; omega), ?_⟩
    exact good _ _ _ r hd (upd_same.trans (by rw [List.map_append]; rfl)) (by rw [upd_ne (ne_of hr hl1 (by intro z; cases z))]; exact hr) fun e o he hne => by rw [upd_ne hne]; exact t1 _ _ he
  obtain ⟨ta, hta, hqa⟩ := tailA
  have tailC : ∃ tc, PSs (cxOf CX0 P w K mg base ["line", "deeds", "word", "figures", "sign"] "_law_due_of" (defScope s_law_due_of) f cdv A' outer s H E).nox ((forBody ((defBody s_law_due_of).getD 2 (.Pass ⟨0, 0, 0, 0⟩))).drop 2) tc ∧
      ∀ (D : Ends) (H3 : Hp) (dl : Addr) (w' : Str) (rs : List Addr) (v4 : Option V), Asc w' → w'.length ≤ 10000 → 1 ≤ (figs w').length → (figs w').length ≤ 6 → (w'.cps.toList.head? = some 43 ∨ w'.cps.toList.head? = some 45) → H3 dl = some (.lst (rs.map V.ref)) → rs.length ≤ 20000 → (deedS w' = none → D.rt .non H3) →
        (∀ (d : Bool × Int) (v4 : Option V) (H4 : Hp) (r : Addr), deedS w' = some d → H4 dl = some (.lst ((rs ++ [r]).map V.ref)) → H4 r = some (.tup [wayV d.1, .int d.2]) → (∀ e o, H3 e = some o → e ≠ dl → H4 e = some o) → D.nx [some (.str z), some (.ref dl), some (.str w'), some (.str (figs w')), v4] H4) →
        tc D [some (.str z), some (.ref dl), some (.str w'), some (.str (figs w')), v4] H3 := by
    refine ⟨_, pss_cons (ps_for PassesOwn.never rfl (pi_str (pv 3)) (pg_name (i := 4) scDu.nd rfl (Or.inl rfl))
        (pss_one (ps_if (pt_cmpR op_notin_str (pv 4) pe_str rfl) (pss_one (ps_ret pe_non)) pss_nil)))
      (pss_cons (ps_if (PW.pt (pw_and (pt_cmpR op_eq (pe_ix ix_str (pv 3) (pe_int) (fun _ _ => rfl)) pe_str (nomark _)) (pw_and1 (pt_cmpR op_gt (pe_callB call_len_str rfl B.len PySem.boot_len (pa_cons (pv 3) pa_nil)) pe_int (nomark _))))) (pss_one (ps_ret pe_non)) pss_nil)
      hta), ?_⟩
    intro D H3 dl w' rs v4 a1 lw l1 l6 hs hdl lrs bad good
    have hsz : w'.length ≤ sizeLine := by rw [sizeLine_eq]; omega
    have fa : Asc (figs w') := a1.slice
    have fsz : (figs w').length ≤ sizeLine := by rw [sizeLine_eq]; omega
    have hl : (figs w').length = (figs w').cps.toList.length := by rw [Array.length_toList]; rfl
    refine ⟨_, rfl, figs w', rfl, fa, for_str (fun i σ H2 => (∃ v, σ = [some (.str z), some (.ref dl), some (.str w'), some (.str (figs w')), v]) ∧ H2 = H3 ∧ ((figs w').cps.toList.take i).all digB = true) ⟨⟨_, rfl⟩, rfl, rfl⟩ ?_ ?_⟩
    · rintro i c σ H2 hc ⟨⟨v, rfl⟩, rfl, al⟩
      refine ⟨_, rfl, _, _, rfl, rfl, _, rfl, ?_⟩
      have ef : (!(!(Builtin.Str.occurrences ("0123456789" : Str) ⟨#[c]⟩ 0 ("0123456789" : Str).length 1).isEmpty)) = !digB c := by
        rw [PySem.StrLaws.found_one]
        rfl
      rw [ef]
      by_cases hd : digB c = true
      · rw [hd]
        refine iteF ⟨⟨_, rfl⟩, rfl, ?_⟩
        rw [List.take_add_one, hc, List.all_append, al]
        show (true && [c].all digB) = true
        rw [List.all_cons, hd]
        rfl
      · rw [Bool.eq_false_iff.mpr hd]
        exact iteT (bad (deedS_num (numB_nodig (List.mem_of_getElem? hc) hd)))
    · rintro σ H2 ⟨⟨v, rfl⟩, rfl, al⟩
      rw [show (figs w').cps.size = (figs w').cps.toList.length from (Array.length_toList).symm, List.take_length] at al
      obtain ⟨c, hc1, hc2⟩ := atI_head (cs := (figs w').cps.toList) (fun e => by rw [e] at hl; simp at hl; omega)
      have fin : ¬ ((figs w').cps.toList.head? = some 48 ∧ 1 < (figs w').cps.toList.length) → ta D [some (.str z), some (.ref dl), some (.str w'), some (.str (figs w')), v] H2 := fun h0 =>
        hqa D H2 dl w' rs v lw (numB_good (cs := (figs w').cps.toList) (by omega) (by omega) al h0) hs hdl lrs good
      refine ⟨_, rfl, figs w', 0, c, rfl, rfl, fsz, hc2, rfl, _, rfl, ?_⟩
      rw [one_eq cps0]
      by_cases h48 : c = 48
      · rw [decide_eq_true h48]
        refine iteT ⟨_, rfl, figs w', rfl, fsz, _, _, rfl, rfl, _, rfl, ?_⟩
        refine ite2 (fun c2 => ?_) (fun c2 => ?_)
        · have c2 : (1 : Int) < ((figs w').length : Int) := of_decide_eq_true c2
          exact bad (deedS_num (numB_zero (by rw [hc1, h48]) (by omega)))
        · have c2 : ¬ (1 : Int) < ((figs w').length : Int) := fun h => c2 (decide_eq_true h)
          exact fin fun z => by omega
      · rw [decide_eq_false h48]
        exact iteF (iteF (fin fun z => by rw [hc1] at z; exact h48 (Option.some.inj z.1)))
  obtain ⟨tc, htc, hqc⟩ := tailC
  refine ⟨_, pss_cons (ps_if (pt_cmpR op_eq (pv 0) pe_str (nomark _)) (pss_one (ps_ret (pe_lst pa_nil))) pss_nil)
    (pss_cons (ps_set (i := 1) scDu.nd rfl (Or.inl rfl) (pe_lst pa_nil))
    (pss_cons (ps_for PassesOwn.never rfl (pi_list (pe_bm PySem.F.plainAttrs_str PySem.F.slot_str_split PySem.F.type_str_split mt_split (pv 0) (pa_cons pe_str pa_nil))) (pg_name (i := 2) scDu.nd rfl (Or.inl rfl))
      (pss_cons (ps_set (i := 3) scDu.nd rfl (Or.inl rfl) (pe_slice sl_str (pv 2) (po_some pe_int) po_none))
      (pss_cons (ps_if (PW.pt (pw_or (PW.pt (pw_and (pt_cmpR op_ne (pe_slice sl_str (pv 2) po_none (po_some pe_int)) pe_str (nomark _)) (pw_and1 (pt_cmpR op_ne (pe_slice sl_str (pv 2) po_none (po_some pe_int)) pe_str (nomark _))))) (pw_or (pt_cmpR op_lt (pe_callB call_len_str rfl B.len PySem.boot_len (pa_cons (pv 3) pa_nil)) pe_int (nomark _)) (pw_or1 (pt_cmpR op_gt (pe_callB call_len_str rfl B.len PySem.boot_len (pa_cons (pv 3) pa_nil)) pe_int (nomark _)))))) (pss_one (ps_ret pe_non)) pss_nil)
      htc)))
    (pss_one (ps_ret (pv 1))))), ?_⟩
  refine ⟨_, rfl, rfl, _, rfl, ?_⟩
  by_cases hz : z = Str.empty
  · subst hz
    refine iteT ⟨(by show 0 ≤ sizeLine; decide), fun l el => ?_⟩
    exact q1 [] (by unfold readS; rw [if_pos rfl]) l _ [] (same_new el) upd_same ⟨rfl, (fun i r d h1 _ => by simp at h1), (fun d hd => by simp at hd)⟩
  have hr1 : readS z = goS (Txt.split z blank) := by unfold readS; rw [if_neg hz]
  rw [show decide (V.str z = V.str "") = false from decide_eq_false (fun e => hz (by injection e))]
  refine iteF ⟨(by show 0 ≤ sizeLine; decide), fun dl edl => ?_⟩
  have t0 := same_new (o := .lst []) edl
  have hdl0 : (upd H dl (.lst [])) dl = some (.lst []) := upd_same
  generalize upd H dl (.lst []) = H0 at *
  refine ⟨_, rfl, rfl, z, blank, rfl, rfl, (by decide +kernel), lz, fun p ep => ⟨p, rfl, ⟨_, SqL.of upd_same⟩, ?_⟩⟩
  have t1 := same_new (o := .lst ((Txt.split z blank).map V.str)) ep
  have hp1 : (upd H0 p (.lst ((Txt.split z blank).map V.str))) p = some (.lst ((Txt.split z blank).map V.str)) := upd_same
  have hdl1 := t1 _ _ hdl0
  have s1 := t0.trans t1
  have nep : p ≠ dl := (ne_of_none hdl0 ep).symm
  generalize upd H0 p (.lst ((Txt.split z blank).map V.str)) = H1 at *
  have hm : ∀ w' ∈ Txt.split z blank, Asc w' ∧ w'.length ≤ z.length := fun w' hw => asc.split hw
  have hsl := split_len z blank
  generalize Txt.split z blank = ws at *
  refine for_list (K := K) (a := p) (xs := ws.map V.str) (fun i σ H2 => ∃ (rs : List Addr) (ds : List (Bool × Int)) (v2 v3 v4 : Option V), σ = [some (.str z), some (.ref dl), v2, v3, v4] ∧ Same H H2 ∧ H2 p = some (.lst (ws.map V.str)) ∧ H2 dl = some (.lst (rs.map V.ref)) ∧ PlanAt H2 rs ds ∧ goS (ws.take i) = some ds ∧ rs.length = i)
    ⟨[], [], none, none, none, rfl, s1, hp1, hdl1, ⟨rfl, (fun i r d h1 _ => by simp at h1), (fun d hd => by simp at hd)⟩, rfl, rfl⟩ (fun i σ H2 _ ⟨_, _, _, _, _, _, _, h2, _⟩ => SqL.of h2) ?_ ?_
  · rintro i x σ H2 hx ⟨rs, ds, v2, v3, v4, rfl, s2, hp2, hdl2, pl, hg, lrs⟩
    rw [List.getElem?_map] at hx
    obtain ⟨w', hw, rfl⟩ : ∃ w', ws[i]? = some w' ∧ x = .str w' := by
      cases e : ws[i]? with
      | none => rw [e] at hx; cases hx
      | some w' => rw [e] at hx; exact ⟨w', rfl, (Option.some.inj hx).symm⟩
    obtain ⟨a1, a2⟩ := hm w' (List.mem_of_getElem? hw)
    obtain ⟨t3, t4⟩ := take_split hw
    have hil : i < ws.length := (List.getElem?_eq_some_iff.mp hw).1
    have bad : deedS w' = none → Q .non H2 := fun hd => q2 (by rw [hr1, t3]; exact goS_bad hd) H2 s2
    have hsz : w'.length ≤ sizeLine := by rw [sizeLine_eq]; omega
    have fl : (figs w').length ≤ 10000 := Nat.le_trans (Txt.slice_le w' _ _) (by omega)
    have fsz : (figs w').length ≤ sizeLine := by rw [sizeLine_eq]; omega
    have hl : (figs w').length = (figs w').cps.toList.length := by rw [Array.length_toList]; rfl
    refine ⟨_, rfl, 1, rfl, w', rfl, hsz, ?_⟩
    refine ⟨_, rfl, 1, rfl, w', rfl, hsz, rfl, _, rfl, ?_⟩
    rw [first_eq cpsP]
    by_cases h43 : w'.cps.toList.head? = some 43
    · rw [decide_eq_true h43]
      exact iteF (iteF ⟨_, rfl, figs w', rfl, fsz, _, _, rfl, rfl, _, rfl, ite2 (fun c3 => bad (deedS_num (numB_len0 (by have := of_decide_eq_true c3; omega)))) (fun c3 => ⟨_, rfl, figs w', rfl, fsz, _, _, rfl, rfl, _, rfl, ite2 (fun c4 => bad (deedS_num (numB_len6 (by have := of_decide_eq_true c4; omega)))) (fun c4 => hqc _ H2 dl w' rs _ a1 (by omega) (by have : ¬ ((figs w').length : Int) < 1 := fun h => c3 (decide_eq_true h); omega) (by have : ¬ (6 : Int) < ((figs w').length : Int) := fun h => c4 (decide_eq_true h); omega) (.inl h43) hdl2 (by omega) bad fun d v4' H4 r hd h1 h2 h3 =>
      ⟨rs ++ [r], ds ++ [d], _, _, _, rfl, fun e o he => h3 e o (s2 _ _ he) (ne_of_none he edl), h3 p _ hp2 nep, h1, (pl.keeps fun e xs he => h3 e _ he (ne_of he hdl2 (by intro z; cases z))).snoc h2 (deedS_sm hd), by rw [t4]; exact goS_snoc hg hd, by rw [List.length_append, lrs]; rfl⟩)⟩)⟩)
    · rw [decide_eq_false h43]
      refine iteT ⟨_, rfl, 1, rfl, w', rfl, hsz, rfl, _, rfl, ?_⟩
      rw [first_eq cpsM]
      by_cases h45 : w'.cps.toList.head? = some 45
      · rw [decide_eq_true h45]
        exact iteF ⟨_, rfl, figs w', rfl, fsz, _, _, rfl, rfl, _, rfl, ite2 (fun c3 => bad (deedS_num (numB_len0 (by have := of_decide_eq_true c3; omega)))) (fun c3 => ⟨_, rfl, figs w', rfl, fsz, _, _, rfl, rfl, _, rfl, ite2 (fun c4 => bad (deedS_num (numB_len6 (by have := of_decide_eq_true c4; omega)))) (fun c4 => hqc _ H2 dl w' rs _ a1 (by omega) (by have : ¬ ((figs w').length : Int) < 1 := fun h => c3 (decide_eq_true h); omega) (by have : ¬ (6 : Int) < ((figs w').length : Int) := fun h => c4 (decide_eq_true h); omega) (.inr h45) hdl2 (by omega) bad fun d v4' H4 r hd h1 h2 h3 =>
      ⟨rs ++ [r], ds ++ [d], _, _, _, rfl, fun e o he => h3 e o (s2 _ _ he) (ne_of_none he edl), h3 p _ hp2 nep, h1, (pl.keeps fun e xs he => h3 e _ he (ne_of he hdl2 (by intro z; cases z))).snoc h2 (deedS_sm hd), by rw [t4]; exact goS_snoc hg hd, by rw [List.length_append, lrs]; rfl⟩)⟩)⟩
      · rw [decide_eq_false h45]
        exact iteT (bad (deedS_sign h43 h45))
  · rintro σ H2 ⟨rs, ds, v2, v3, v4, rfl, s2, hp2, hdl2, pl, hg, lrs⟩
    rw [List.length_map, List.take_length] at hg
    exact ⟨_, rfl, q1 ds (hr1.trans hg) dl H2 rs s2 hdl2 pl⟩

theorem boot_VE : bootBuiltins "ValueError" = some (.type "ValueError") := by decide +kernel
abbrev nLaw : List Str := ["script", "line", "due", "found", "marks", "e"]
theorem scLaw : FnScope nLaw ["script"] (defScope sLaw) := ⟨rfl, rfl, rfl, by decide +kernel, rfl, by decide +kernel, by decide +kernel⟩
theorem ok_law {f fC fT fS fB fD fR fX fW cY cT cW cE cP : Addr} {fd dC dT dS dB dD dR dX dW : FuncData} (A : At K mg "law" sLaw ["script"] f fd) (AC : At K mg "_law_cell_at" sCell ["script", "k"] fC dC) (AT : At K mg "_law_text_of" s_law_text_of ["script"] fT dT)
    (AS : At K mg "_law_spoiled" s_law_spoiled ["line", "cell"] fS dS) (AB : At K mg "_law_sign_by" s_law_sign_by ["cell"] fB dB) (AD : At K mg "_law_due_of" s_law_due_of ["line"] fD dD) (AR : At K mg "read" s_read ["line"] fR dR) (GR : FnOk P w K mg base (CX1 P w) 3 fR dR ["line"] (spRead cP))
    (AX : At K mg "_law_deeds" s_law_deeds ["found"] fX dX) (AW : At K mg "_law_whole" s_law_whole ["found"] fW dW) (X : NpTx K mg cY cT cW cE cP) (B : BI mg) (B2 : BI2 mg) (kib : PySem.W.kitOne K (.type "int") (.type "bool") = some false) : FnOk P w K mg base CX0 4 f fd ["script"] (spLaw K) := by
  have GC : FnOk P w K mg base CX0 1 fC dC ["script", "k"] (spCell K) := ok_cell AC B
  have GT : FnOk P w K mg base CX0 2 fT dT ["script"] (spTextOf K) := ok_textof AT AC B
  have GS : FnOk P w K mg base CX0 2 fS dS ["line", "cell"] spSpoiled := ok_spoiled AS AB B
  have GD : FnOk P w K mg base CX0 1 fD dD ["line"] spDueW := ok_dueof AD B
  have GX : FnOk P w K mg base CX0 2 fX dX ["found"] spDeeds := ok_deeds AX AW B B2 kib
  refine A.F.ok scLaw (fun vs H Q E h => ?_) (fun cdv A' outer s H vs Q E hr h => ?_)
  · obtain ⟨a, ns, rfl, _⟩ := h
    rfl
  obtain ⟨a, ns, rfl, hS, h63, q⟩ := h
  have hu := hr.units0
  have hu1 := hu_of hr
  have hr2 : Room 2 _ := hr.mono (by decide)
  have hr1 : Room 1 _ := hr.mono (by decide)
  have tailE : ∃ te, PSs (cxOf CX0 P w K mg base nLaw "law" (defScope sLaw) f cdv A' outer s H E).nox ((defBody sLaw).drop 6) te ∧
      (∀ (H1 : Hp) (z : Str) (dl fl m : Addr) (rs rs' : List Addr) (ds : List (Bool × Int)), H1 dl = some (.lst (rs.map V.ref)) → PlanAt H1 rs ds → H1 fl = some (.lst (rs'.map V.ref)) → PlanAt H1 rs' ds → H1 m = some (.lst []) →
        te { nx := fun _ H' => Q .non H', rt := Q } [some (.ref a), some (.str z), some (.ref dl), some (.ref fl), some (.ref m), none] H1) ∧
      (∀ (H1 : Hp) (z : Str) (m : Addr), H1 m = some (.lst [.bl true, .bl true, .bl false, .bl false, .bl false]) → te { nx := fun _ H' => Q .non H', rt := Q } [some (.ref a), some (.str z), some .non, some .non, some (.ref m), none] H1) := by
    refine ⟨_, pss_cons (ps_if (pt_cmpR op_isN (pv 2) pe_non (nomark _)) (pss_one (ps_ret (pe_cmpR (op_eqL hu) (pv 4) (pe_lst (pa_cons pe_bl (pa_cons pe_bl (pa_cons pe_bl (pa_cons pe_bl (pa_cons pe_bl pa_nil)))))) (nomark _)))) pss_nil)
      (pss_one (ps_ret (pe_and (pe_cmpR (op_eqL hu) (pv 4) (pe_lst pa_nil) (nomark _)) (pe_and (pe_callA AX GX hr2 (pa_cons (pv 3) pa_nil)) (pe_one (pe_cmpR (op_eqLT hu1) (pv 3) (pv 2) (nomark _))))))), ?_, ?_⟩
    · intro H1 z dl fl m rs rs' ds hdl pl hfl pl' hm
      refine ⟨_, rfl, rfl, _, rfl, iteF ⟨_, rfl, (by show 0 ≤ sizeLine; decide), fun l1 e1 => ?_⟩⟩
      have t1 := same_new (o := .lst []) e1
      refine ⟨m, l1, _, _, rfl, rfl, SqL.of (t1 _ _ hm), SqL.of upd_same, (fun i u v _ h2 => by simp at h2), _, rfl, iteT ?_⟩
      refine ⟨_, rfl, fl, rs', ds, rfl, t1 _ _ hfl, pl'.same t1, _, rfl, iteT ⟨_, rfl, _, rfl, fl, dl, rs', rs, rfl, rfl, SqL.of (t1 _ _ hfl), SqL.of (t1 _ _ hdl), by rw [pl.len, pl'.len], fun i r r' h1 h2 => ?_, q _⟩⟩
      have hi : i < ds.length := by rw [← pl'.len]; exact (List.getElem?_eq_some_iff.mp h1).1
      obtain ⟨d, hd⟩ : ∃ d, ds[i]? = some d := ⟨_, List.getElem?_eq_getElem hi⟩
      refine ⟨_, SqT.of (t1 _ _ (pl'.at_ i r d h1 hd)), SqT.of (t1 _ _ (pl.at_ i r' d h2 hd)), fun u hu' => ?_⟩
      rcases List.mem_cons.mp hu' with rfl | hu'
      · exact .inr (.inr (.inl ⟨_, _, rfl, rfl⟩))
      · rw [List.mem_singleton.mp hu']
        exact .inl ⟨_, _, rfl, rfl⟩
    · intro H1 z m hm
      refine ⟨_, rfl, rfl, _, rfl, iteT ⟨_, rfl, (by show 5 ≤ sizeLine; decide), fun l1 e1 => ?_⟩⟩
      have t1 := same_new (o := .lst [.bl true, .bl true, .bl false, .bl false, .bl false]) e1
      refine ⟨m, l1, _, _, rfl, rfl, SqL.of (t1 _ _ hm), SqL.of upd_same, fun i u v h1 h2 => ?_, ?_⟩
      · have hb : ∀ x : V, x ∈ [V.bl true, .bl true, .bl false, .bl false, .bl false] → ∃ y, x = .bl y := fun x hx => by
          simp only [List.mem_cons, List.not_mem_nil, or_false] at hx
          rcases hx with h | h | h | h | h <;> exact ⟨_, h⟩
        obtain ⟨x, rfl⟩ := hb u (List.mem_of_getElem? h1)
        obtain ⟨y, rfl⟩ := hb v (List.mem_of_getElem? h2)
        exact .inr (.inl ⟨x, y, rfl, rfl⟩)
      · rw [if_neg Bool.false_ne_true, decide_eq_true rfl]
        exact q _
  obtain ⟨te, hte, hqa, hqb⟩ := tailE
  have tail : ∃ tt, PSs (cxOf CX0 P w K mg base nLaw "law" (defScope sLaw) f cdv A' outer s H E).nox ((defBody sLaw).drop 2) tt ∧ ∀ (H1 : Hp) (z : Str), Same H H1 → Asc z → z.length ≤ 10000 →
      tt { nx := fun _ H' => Q .non H', rt := Q } [some (.ref a), some (.str z), none, none, none, none] H1 := by
    refine ⟨_, pss_cons (ps_set (i := 2) scLaw.nd rfl (Or.inl rfl) (pe_callA AD GD hr1 (pa_cons (pv 1) pa_nil)))
      (pss_cons (ps_set (i := 3) scLaw.nd rfl (Or.inl rfl) pe_non)
      (pss_cons (ps_set (i := 4) scLaw.nd rfl (Or.inl rfl) (pe_lst pa_nil))
      (pss_cons (ps_tryAs (i := 5) (n := "e") scLaw.nd rfl rfl rfl X.mY
        (fun pins Ex => pss_one (ps_set (i := 3) scLaw.nd rfl (Or.inl rfl) (pe_callX GR hr rfl AR.m AR.F.kp AR.b tryX_pass (pa_cons (pv 1) pa_nil))))
        (fun x => pss_cons (ps_set (i := 4) scLaw.nd rfl (Or.inl rfl) (pe_lst (pa_cons (pe_callB (call_isiEK K) rfl B.isi PyProof.Rows.boot_isinstance (pa_cons (pv 5) (pa_cons (pe_glob (v := .ref cP) rfl X.mP rfl) pa_nil))) (pa_cons (pe_callB (call_isiEK K) rfl B.isi PyProof.Rows.boot_isinstance (pa_cons (pv 5) (pa_cons (pe_bltn (v := .ty "ValueError") rfl X.mV boot_VE rfl) pa_nil))) (pa_cons (pe_callB (call_isiEK K) rfl B.isi PyProof.Rows.boot_isinstance (pa_cons (pv 5) (pa_cons (pe_glob (v := .ref cT) rfl X.mT rfl) pa_nil))) pa_nil)))))
          (pss_one (ps_set (i := 4) scLaw.nd rfl (Or.inl rfl) (pe_op op_cat (pv 4) (pe_lst (pa_cons (pe_callB (call_isiEK K) rfl B.isi PyProof.Rows.boot_isinstance (pa_cons (pv 5) (pa_cons (pe_glob (v := .ref cW) rfl X.mW rfl) pa_nil))) (pa_cons (pe_callB (call_isiEK K) rfl B.isi PyProof.Rows.boot_isinstance (pa_cons (pv 5) (pa_cons (pe_glob (v := .ref cE) rfl X.mE rfl) pa_nil))) pa_nil))))))))
      hte))), ?_⟩
    intro H1 z s1 asc lz
    refine ⟨_, rfl, z, rfl, asc, lz, fun ds hd dl H2 rs s2 hdl pl => ?_, fun hn H2 s2 => ?_⟩
    · refine ⟨(by show 0 ≤ sizeLine; decide), fun m em => ?_⟩
      have t3 := same_new (o := .lst []) em
      have hm3 : (upd H2 m (.lst [])) m = some (.lst []) := upd_same
      have hdl3 := t3 _ _ hdl
      have pl3 := pl.same t3
      generalize upd H2 m (.lst []) = H3 at *
      refine ⟨_, rfl, z, rfl, asc, lz, fun ds' hd' fl H4 rs' s4 hfl pl4 => ?_, fun hn => ?_⟩
      · have : ds' = ds := Option.some.inj (hd'.symm.trans hd)
        subst this
        exact hqa H4 z dl fl m rs rs' ds' (s4 _ _ hdl3) (pl3.same s4) hfl pl4 (s4 _ _ hm3)
      · rw [hd] at hn; cases hn
    · refine ⟨(by show 0 ≤ sizeLine; decide), fun m em => ?_⟩
      refine ⟨_, rfl, z, rfl, asc, lz, fun ds' hd' => ?_, fun _ H4 s4 => ⟨cP, rfl, X.pY, fun x ex => ?_⟩⟩
      · rw [hn] at hd'; cases hd'
      · have sx := same_new (o := excO x cP) ex
        have hx : (upd H4 x (excO x cP)) x = some (excO x cP) := upd_same
        generalize upd H4 x (excO x cP) = H5 at *
        refine ⟨_, rfl, x, _, _, _, true, rfl, hx, X.xP, fun u r => r, X.iPP, _, rfl, x, _, _, _, true, rfl, hx, X.xP, fun u r => r, X.iPV, _, rfl, x, _, _, _, false, rfl, hx, X.xP, fun u r => r, X.iPT, (by show 3 ≤ sizeLine; decide), fun l1 e1 => ?_⟩
        have t1 := same_new (o := .lst [.bl true, .bl true, .bl false]) e1
        refine ⟨_, rfl, _, rfl, x, _, _, _, false, rfl, t1 _ _ hx, X.xP, fun u r => r, X.iPW, _, rfl, x, _, _, _, false, rfl, t1 _ _ hx, X.xP, fun u r => r, X.iPE, (by show 2 ≤ sizeLine; decide), fun l2 e2 => ?_⟩
        have t2 := same_new (o := .lst [.bl false, .bl false]) e2
        refine ⟨l1, l2, _, _, rfl, rfl, t2 _ _ upd_same, upd_same, (by show 5 ≤ sizeLine; decide), fun l3 e3 => ?_⟩
        exact hqb _ z l3 upd_same
  obtain ⟨tt, htt, hq⟩ := tail
  refine ⟨_, pss_cons (ps_set (i := 1) scLaw.nd rfl (Or.inl rfl) (pe_callA AT GT hr2 (pa_cons (pv 0) pa_nil)))
    (pss_cons (ps_if (pt_cmpR op_eq (pe_op op_mod (pe_callA AC GC hr1 (pa_cons (pv 0) (pa_cons pe_int pa_nil))) pe_int) pe_int (nomark _))
      (pss_one (ps_set (i := 1) scLaw.nd rfl (Or.inl rfl) (pe_callA AS GS hr2 (pa_cons (pv 1) (pa_cons (pe_op op_mod (pe_op op_fdiv (pe_callA AC GC hr1 (pa_cons (pv 0) (pa_cons pe_int pa_nil))) pe_int) pe_int) pa_nil))))) pss_nil) htt), ?_⟩
  refine ⟨_, rfl, a, ns, rfl, hS, fun z H1 s1 asc lz => ?_⟩
  refine ⟨_, rfl, a, ns, 1, rfl, s1.seq hS, by decide, _, _, rfl, rfl, (by show (0 : Int) < 2; decide), rfl, _, rfl, ite2 (fun _ => ?_) (fun _ => ?_)⟩
  · have hm := modR (cellZ ns 1 / 2) (m := 1000000007) (by decide)
    refine ⟨_, rfl, _, rfl, a, ns, 1, rfl, s1.seq hS, by decide, _, _, rfl, rfl, ⟨by decide, by decide⟩, _, _, rfl, rfl, (by show (0 : Int) < 1000000007; decide), z, _, rfl, asc, lz, hm.1, hm.2, fun z' H2 s2 asc' lz' => ?_⟩
    exact hq H2 z' (s1.trans s2) asc' (by omega)
  · exact hq H1 z s1 asc (by omega)
end
theorem all_mk {l : PySem.W.OpenLaw} {w : World} {K : PySem.W.Frag} {h : Heap} {mg : Str → Option Value} {fa : Addr} {tENTERING tLEAVING tFIGURES tMOST_FIGURES : Tok} {cY cT cW cE cP : Addr} (X : K.In h) (G : h.Ns mainGlobals mg) (hfa : mg "law" = some (.ref fa))
    {od1 an1 : Option Addr} {sl1 : Array (Option Value)} {oc1 kV1 dc1 pm1 cd1 ct1 : Value} {f1 : Addr} {od2 an2 : Option Addr} {sl2 : Array (Option Value)} {oc2 kV2 dc2 pm2 cd2 ct2 : Value} {f2 : Addr} {od3 an3 : Option Addr} {sl3 : Array (Option Value)} {oc3 kV3 dc3 pm3 cd3 ct3 : Value} {f3 : Addr} {od4 an4 : Option Addr} {sl4 : Array (Option Value)} {oc4 kV4 dc4 pm4 cd4 ct4 : Value} {f4 : Addr} {od5 an5 : Option Addr} {sl5 : Array (Option Value)} {oc5 kV5 dc5 pm5 cd5 ct5 : Value} {f5 : Addr} {od6 an6 : Option Addr} {sl6 : Array (Option Value)} {oc6 kV6 dc6 pm6 cd6 ct6 : Value} {f6 : Addr} {od7 an7 : Option Addr} {sl7 : Array (Option Value)} {oc7 kV7 dc7 pm7 cd7 ct7 : Value} {f7 : Addr} {od8 an8 : Option Addr} {sl8 : Array (Option Value)} {oc8 kV8 dc8 pm8 cd8 ct8 : Value} {f8 : Addr} {od9 an9 : Option Addr} {sl9 : Array (Option Value)} {oc9 kV9 dc9 pm9 cd9 ct9 : Value} {f9 : Addr} {od10 an10 : Option Addr} {sl10 : Array (Option Value)} {oc10 kV10 dc10 pm10 cd10 ct10 : Value} {f10 : Addr} {od11 an11 : Option Addr} {sl11 : Array (Option Value)} {oc11 kV11 dc11 pm11 cd11 ct11 : Value} {f11 : Addr}
    (a1 : PySem.W.nsIn K mainGlobals "law" = some (some (.ref f1))) (l1 : K.lookup f1 = some ⟨oc1, od1, .func (PySem.W.fnOf "law" "law" (defArgs sLaw) (defBody sLaw) (defScope sLaw) .none kV1 dc1 pm1 an1 cd1 ct1), sl1⟩) (c1 : PySem.W.codeIn K cd1 "law" = true) (k1 : PySem.W.keepIn K (.ref f1) = true)
    (a2 : PySem.W.nsIn K mainGlobals "_law_cell_at" = some (some (.ref f2))) (l2 : K.lookup f2 = some ⟨oc2, od2, .func (PySem.W.fnOf "_law_cell_at" "_law_cell_at" (defArgs sCell) (defBody sCell) (defScope sCell) .none kV2 dc2 pm2 an2 cd2 ct2), sl2⟩) (c2 : PySem.W.codeIn K cd2 "_law_cell_at" = true) (k2 : PySem.W.keepIn K (.ref f2) = true)
    (a3 : PySem.W.nsIn K mainGlobals "_law_text_of" = some (some (.ref f3))) (l3 : K.lookup f3 = some ⟨oc3, od3, .func (PySem.W.fnOf "_law_text_of" "_law_text_of" (defArgs s_law_text_of) (defBody s_law_text_of) (defScope s_law_text_of) .none kV3 dc3 pm3 an3 cd3 ct3), sl3⟩) (c3 : PySem.W.codeIn K cd3 "_law_text_of" = true) (k3 : PySem.W.keepIn K (.ref f3) = true)
    (a4 : PySem.W.nsIn K mainGlobals "_law_spoiled" = some (some (.ref f4))) (l4 : K.lookup f4 = some ⟨oc4, od4, .func (PySem.W.fnOf "_law_spoiled" "_law_spoiled" (defArgs s_law_spoiled) (defBody s_law_spoiled) (defScope s_law_spoiled) .none kV4 dc4 pm4 an4 cd4 ct4), sl4⟩) (c4 : PySem.W.codeIn K cd4 "_law_spoiled" = true) (k4 : PySem.W.keepIn K (.ref f4) = true)
    (a5 : PySem.W.nsIn K mainGlobals "_law_sign_by" = some (some (.ref f5))) (l5 : K.lookup f5 = some ⟨oc5, od5, .func (PySem.W.fnOf "_law_sign_by" "_law_sign_by" (defArgs s_law_sign_by) (defBody s_law_sign_by) (defScope s_law_sign_by) .none kV5 dc5 pm5 an5 cd5 ct5), sl5⟩) (c5 : PySem.W.codeIn K cd5 "_law_sign_by" = true) (k5 : PySem.W.keepIn K (.ref f5) = true)
    (a6 : PySem.W.nsIn K mainGlobals "_law_due_of" = some (some (.ref f6))) (l6 : K.lookup f6 = some ⟨oc6, od6, .func (PySem.W.fnOf "_law_due_of" "_law_due_of" (defArgs s_law_due_of) (defBody s_law_due_of) (defScope s_law_due_of) .none kV6 dc6 pm6 an6 cd6 ct6), sl6⟩) (c6 : PySem.W.codeIn K cd6 "_law_due_of" = true) (k6 : PySem.W.keepIn K (.ref f6) = true)
    (a7 : PySem.W.nsIn K mainGlobals "read" = some (some (.ref f7))) (l7 : K.lookup f7 = some ⟨oc7, od7, .func (PySem.W.fnOf "read" "read" (defArgs s_read) (defBody s_read) (defScope s_read) .none kV7 dc7 pm7 an7 cd7 ct7), sl7⟩) (c7 : PySem.W.codeIn K cd7 "read" = true) (k7 : PySem.W.keepIn K (.ref f7) = true)
    (a8 : PySem.W.nsIn K mainGlobals "_law_deeds" = some (some (.ref f8))) (l8 : K.lookup f8 = some ⟨oc8, od8, .func (PySem.W.fnOf "_law_deeds" "_law_deeds" (defArgs s_law_deeds) (defBody s_law_deeds) (defScope s_law_deeds) .none kV8 dc8 pm8 an8 cd8 ct8), sl8⟩) (c8 : PySem.W.codeIn K cd8 "_law_deeds" = true) (k8 : PySem.W.keepIn K (.ref f8) = true)
    (a9 : PySem.W.nsIn K mainGlobals "_law_whole" = some (some (.ref f9))) (l9 : K.lookup f9 = some ⟨oc9, od9, .func (PySem.W.fnOf "_law_whole" "_law_whole" (defArgs s_law_whole) (defBody s_law_whole) (defScope s_law_whole) .none kV9 dc9 pm9 an9 cd9 ct9), sl9⟩) (c9 : PySem.W.codeIn K cd9 "_law_whole" = true) (k9 : PySem.W.keepIn K (.ref f9) = true)
    (a10 : PySem.W.nsIn K mainGlobals "deed_of" = some (some (.ref f10))) (l10 : K.lookup f10 = some ⟨oc10, od10, .func (PySem.W.fnOf "deed_of" "deed_of" (defArgs s_deed_of) (defBody s_deed_of) (defScope s_deed_of) .none kV10 dc10 pm10 an10 cd10 ct10), sl10⟩) (c10 : PySem.W.codeIn K cd10 "deed_of" = true) (k10 : PySem.W.keepIn K (.ref f10) = true)
    (a11 : PySem.W.nsIn K mainGlobals "is_number" = some (some (.ref f11))) (l11 : K.lookup f11 = some ⟨oc11, od11, .func (PySem.W.fnOf "is_number" "is_number" (defArgs s_is_number) (defBody s_is_number) (defScope s_is_number) .none kV11 dc11 pm11 an11 cd11 ct11), sl11⟩) (c11 : PySem.W.codeIn K cd11 "is_number" = true) (k11 : PySem.W.keepIn K (.ref f11) = true)
    (z0 : PySem.W.nsIn K mainGlobals "len" = some none) (z1 : PySem.W.nsIn K mainGlobals "range" = some none) (z2 : PySem.W.nsIn K mainGlobals "min" = some none) (z3 : PySem.W.nsIn K mainGlobals "max" = some none) (z4 : PySem.W.nsIn K mainGlobals "sorted" = some none) (z5 : PySem.W.nsIn K mainGlobals "list" = some none) (z6 : PySem.W.nsIn K mainGlobals "isinstance" = some none) (z7 : PySem.W.nsIn K mainGlobals "bool" = some none) (z8 : PySem.W.nsIn K mainGlobals "int" = some none) (z9 : PySem.W.nsIn K mainGlobals "str" = some none)
    (y0 : PySem.W.nsIn K mainGlobals "set" = some none) (y1 : PySem.W.nsIn K mainGlobals "tuple" = some none) (y2 : PySem.W.nsIn K mainGlobals "all" = some none) (kib : PySem.W.kitOne K (.type "int") (.type "bool") = some false) (aENTERING : PySem.W.nsIn K mainGlobals "ENTERING" = some (some (.str "in" tENTERING))) (aLEAVING : PySem.W.nsIn K mainGlobals "LEAVING" = some (some (.str "out" tLEAVING))) (aFIGURES : PySem.W.nsIn K mainGlobals "FIGURES" = some (some (.str "0123456789" tFIGURES))) (aMOST_FIGURES : PySem.W.nsIn K mainGlobals "MOST_FIGURES" = some (some (.int 6 tMOST_FIGURES))) (eY : PySem.W.nsIn K mainGlobals "YardError" = some (some (.ref cY))) (eT : PySem.W.nsIn K mainGlobals "NoTrack" = some (some (.ref cT))) (eW : PySem.W.nsIn K mainGlobals "NoneWaiting" = some (some (.ref cW))) (eE : PySem.W.nsIn K mainGlobals "TrackEmpty" = some (some (.ref cE))) (eP : PySem.W.nsIn K mainGlobals "NoPlan" = some (some (.ref cP))) (zV : PySem.W.nsIn K mainGlobals "ValueError" = some none) (exP : PySem.W.excIn K cP bmVE "ValueError.__new__" = true) (gaP : PySem.W.findIn K (.ref cP) "__getattribute__" = some (some (.builtin "BaseException.__getattribute__"))) (gtP : PySem.W.findIn K (.ref cP) "__getattr__" = some none) (clP : PySem.W.findIn K (.ref cP) "__class__" = some (some (.builtin "object.__class__"))) (moP : PySem.W.mroIn K cP (.type "object") = some true) (mbP : PySem.W.mroIn K cP (.type "BaseException") = some true) (pY : PySem.W.exmOne K (.ref cP) (.ref cY) = some true) (iPP : PySem.W.kitOne K (.ref cP) (.ref cP) = some true) (iPV : PySem.W.kitOne K (.ref cP) (.type "ValueError") = some true) (iPT : PySem.W.kitOne K (.ref cP) (.ref cT) = some false) (iPW : PySem.W.kitOne K (.ref cP) (.ref cW) = some false) (iPE : PySem.W.kitOne K (.ref cP) (.ref cE) = some false) :
    ∃ fd : FuncData, (∀ (s : Shared) (v : Value), BindsTo s fd ⟨[v], []⟩ [("script", v)]) ∧ ∀ base : Heap, K.In base → base.Ns mainGlobals mg → FnOk l.prog w K mg base CX0 4 fa fd ["script"] (spLaw K) := by
  have e := hfa.symm.trans (PySem.W.mg_of X G a1)
  cases e
  have F1 := fun_mk (st := sLaw) l1 c1 k1
  have A1 : At K mg "law" sLaw ["script"] _ _ := ⟨F1, F1.binds (ps := ["script"]) fun _ _ _ _ _ _ us hl => match us, hl with | [_], _ => rfl, PySem.W.mg_of X G a1⟩
  have F2 := fun_mk (st := sCell) l2 c2 k2
  have A2 : At K mg "_law_cell_at" sCell ["script", "k"] _ _ := ⟨F2, F2.binds (ps := ["script", "k"]) fun _ _ _ _ _ _ us hl => match us, hl with | [_, _], _ => rfl, PySem.W.mg_of X G a2⟩
  have F3 := fun_mk (st := s_law_text_of) l3 c3 k3
  have A3 : At K mg "_law_text_of" s_law_text_of ["script"] _ _ := ⟨F3, F3.binds (ps := ["script"]) fun _ _ _ _ _ _ us hl => match us, hl with | [_], _ => rfl, PySem.W.mg_of X G a3⟩
  have F4 := fun_mk (st := s_law_spoiled) l4 c4 k4
  have A4 : At K mg "_law_spoiled" s_law_spoiled ["line", "cell"] _ _ := ⟨F4, F4.binds (ps := ["line", "cell"]) fun _ _ _ _ _ _ us hl => match us, hl with | [_, _], _ => rfl, PySem.W.mg_of X G a4⟩
  have F5 := fun_mk (st := s_law_sign_by) l5 c5 k5
  have A5 : At K mg "_law_sign_by" s_law_sign_by ["cell"] _ _ := ⟨F5, F5.binds (ps := ["cell"]) fun _ _ _ _ _ _ us hl => match us, hl with | [_], _ => rfl, PySem.W.mg_of X G a5⟩
  have F6 := fun_mk (st := s_law_due_of) l6 c6 k6
  have A6 : At K mg "_law_due_of" s_law_due_of ["line"] _ _ := ⟨F6, F6.binds (ps := ["line"]) fun _ _ _ _ _ _ us hl => match us, hl with | [_], _ => rfl, PySem.W.mg_of X G a6⟩
  have F7 := fun_mk (st := s_read) l7 c7 k7
  have A7 : At K mg "read" s_read ["line"] _ _ := ⟨F7, F7.binds (ps := ["line"]) fun _ _ _ _ _ _ us hl => match us, hl with | [_], _ => rfl, PySem.W.mg_of X G a7⟩
  have F8 := fun_mk (st := s_law_deeds) l8 c8 k8
  have A8 : At K mg "_law_deeds" s_law_deeds ["found"] _ _ := ⟨F8, F8.binds (ps := ["found"]) fun _ _ _ _ _ _ us hl => match us, hl with | [_], _ => rfl, PySem.W.mg_of X G a8⟩
  have F9 := fun_mk (st := s_law_whole) l9 c9 k9
  have A9 : At K mg "_law_whole" s_law_whole ["found"] _ _ := ⟨F9, F9.binds (ps := ["found"]) fun _ _ _ _ _ _ us hl => match us, hl with | [_], _ => rfl, PySem.W.mg_of X G a9⟩
  have F10 := fun_mk (st := s_deed_of) l10 c10 k10
  have A10 : At K mg "deed_of" s_deed_of ["word"] _ _ := ⟨F10, F10.binds (ps := ["word"]) fun _ _ _ _ _ _ us hl => match us, hl with | [_], _ => rfl, PySem.W.mg_of X G a10⟩
  have F11 := fun_mk (st := s_is_number) l11 c11 k11
  have A11 : At K mg "is_number" s_is_number ["text"] _ _ := ⟨F11, F11.binds (ps := ["text"]) fun _ _ _ _ _ _ us hl => match us, hl with | [_], _ => rfl, PySem.W.mg_of X G a11⟩
  have B2 : BI2 mg := ⟨PySem.W.mg_none_of X G y0, PySem.W.mg_none_of X G y1, PySem.W.mg_none_of X G y2⟩
  have XX : NpTx K mg cY cT cW cE cP := ⟨PySem.W.mg_of X G eY, PySem.W.mg_of X G eT, PySem.W.mg_of X G eW, PySem.W.mg_of X G eE, PySem.W.mg_of X G eP, PySem.W.mg_none_of X G zV, ⟨exP, gaP, gtP, clP, moP, mbP⟩, pY, iPP, iPV, iPT, iPW, iPE⟩
  have B : BI mg := ⟨PySem.W.mg_none_of X G z0, PySem.W.mg_none_of X G z1, PySem.W.mg_none_of X G z2, PySem.W.mg_none_of X G z3, PySem.W.mg_none_of X G z4, PySem.W.mg_none_of X G z5, PySem.W.mg_none_of X G z6, PySem.W.mg_none_of X G z7, PySem.W.mg_none_of X G z8, PySem.W.mg_none_of X G z9⟩
  exact ⟨PySem.W.fnOf "law" "law" (defArgs sLaw) (defBody sLaw) (defScope sLaw) .none kV1 dc1 pm1 an1 cd1 ct1, fun s v => .of_eq rfl, fun base _ _ => ok_law A1 A2 A3 A4 A5 A6 A7 (ok_read A7 A10 (ok_deedof A10 A11 (ok_isnum A11 (PySem.W.mg_of X G aMOST_FIGURES) (PySem.W.mg_of X G aFIGURES) B) XX (PySem.W.mg_of X G aENTERING) (PySem.W.mg_of X G aLEAVING) B)) A8 A9 XX B B2 kib⟩
theorem walk {l : PySem.W.OpenLaw} {q : Program} {loose : List Str} {XP : (Str → Option Value) → Heap → Prop} {YP : World → Heap → Prop} {d : DefRec} {K : Params → PySem.W.Frag} (hn : l.most = some 63) (hdf : d.params.defaults = [])
    (hY : ∀ (w : World) (h : Heap), YP w h → (K w.params).In h)
    (F : ∀ (w : World) (mg : Str → Option Value) (fa : Addr) (h : Heap), (K w.params).In h → h.Ns mainGlobals mg → mg d.name = some (.ref fa) →
      ∃ fd : FuncData, (∀ (s : Shared) (u : Value), BindsTo s fd ⟨[u], []⟩ [("script", u)]) ∧ ∀ base : Heap, (K w.params).In base → base.Ns mainGlobals mg → FnOk l.prog w (K w.params) mg base CX0 4 fa fd ["script"] (spLaw (K w.params))) :
    PySem.W.WalkO q loose XP YP l.row.toRowW d [] (fun f vs => PySem.call f vs) :=
  L2.walk_of (n := 63) (k := 4) (x := "script") (CX := fun _ => CX0) (sp := fun w => spLaw (K w.params)) hn (by decide) hdf ⟨rfl, by decide, by decide⟩ hY F (fun _ _ a ns hl _ hS => ⟨a, ns, rfl, hS, hl, fun _ => rfl⟩) fun _ _ _ _ _ z => z
end LW_k16
open PySem PySem.W PyProof.Rows
set_option maxRecDepth 100000 in
set_option maxHeartbeats 0 in
theorem PySem.Challenge.cw_shuntyard_k16_plans_read_holds : PySem.Challenge.rw_shuntyard_k16_plans_read.Holds := by
  w_on; o_law; k_head; (case hw => w_witness2)
  k_fill
  refine LW_k16.walk (l := PySem.Challenge.rw_shuntyard_k16_plans_read) rfl rfl (fun w h Y => PySem.W.kIn_of Y) ?F
  case F =>
    intro w mg fa h KX G hmg
    refine' LW_k16.all_mk KX G hmg ?a1 ?l1 ?c1 ?k1 ?a2 ?l2 ?c2 ?k2 ?a3 ?l3 ?c3 ?k3 ?a4 ?l4 ?c4 ?k4 ?a5 ?l5 ?c5 ?k5 ?a6 ?l6 ?c6 ?k6 ?a7 ?l7 ?c7 ?k7 ?a8 ?l8 ?c8 ?k8 ?a9 ?l9 ?c9 ?k9 ?a10 ?l10 ?c10 ?k10 ?a11 ?l11 ?c11 ?k11 ?z0 ?z1 ?z2 ?z3 ?z4 ?z5 ?z6 ?z7 ?z8 ?z9 ?y0 ?y1 ?y2 ?kib ?aENTERING ?aLEAVING ?aFIGURES ?aMOST_FIGURES ?eY ?eT ?eW ?eE ?eP ?zV ?exP ?gaP ?gtP ?clP ?moP ?mbP ?pY ?iPP ?iPV ?iPT ?iPW ?iPE
    (case a1 => k_is)
    (case l1 => k_is)
    (case c1 => k_is)
    (case k1 => k_is)
    (case a2 => k_is)
    (case l2 => k_is)
    (case c2 => k_is)
    (case k2 => k_is)
    (case a3 => k_is)
    (case l3 => k_is)
    (case c3 => k_is)
    (case k3 => k_is)
    (case a4 => k_is)
    (case l4 => k_is)
    (case c4 => k_is)
    (case k4 => k_is)
    (case a5 => k_is)
    (case l5 => k_is)
    (case c5 => k_is)
    (case k5 => k_is)
    (case a6 => k_is)
    (case l6 => k_is)
    (case c6 => k_is)
    (case k6 => k_is)
    (case a7 => k_is)
    (case l7 => k_is)
    (case c7 => k_is)
    (case k7 => k_is)
    (case a8 => k_is)
    (case l8 => k_is)
    (case c8 => k_is)
    (case k8 => k_is)
    (case a9 => k_is)
    (case l9 => k_is)
    (case c9 => k_is)
    (case k9 => k_is)
    (case a10 => k_is)
    (case l10 => k_is)
    (case c10 => k_is)
    (case k10 => k_is)
    (case a11 => k_is)
    (case l11 => k_is)
    (case c11 => k_is)
    (case k11 => k_is)
    (case z0 => k_is)
    (case z1 => k_is)
    (case z2 => k_is)
    (case z3 => k_is)
    (case z4 => k_is)
    (case z5 => k_is)
    (case z6 => k_is)
    (case z7 => k_is)
    (case z8 => k_is)
    (case z9 => k_is)
    (case y0 => k_is)
    (case y1 => k_is)
    (case y2 => k_is)
    (case kib => kit_is)
    (case aENTERING => k_is)
    (case aLEAVING => k_is)
    (case aFIGURES => k_is)
    (case aMOST_FIGURES => k_is)
    (case eY => k_is)
    (case eT => k_is)
    (case eW => k_is)
    (case eE => k_is)
    (case eP => k_is)
    (case zV => k_is)
    (case exP => k_exc)
    (case gaP => k_is)
    (case gtP => k_is)
    (case clP => k_is)
    (case moP => k_is)
    (case mbP => k_is)
    (case pY => kts_exm)
    (case iPP => kit_is)
    (case iPV => kit_is)
    (case iPT => kit_is)
    (case iPW => kit_is)
    (case iPE => kit_is)
