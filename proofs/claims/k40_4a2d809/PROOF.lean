import PyProof.Rows.All
import Wide.All
import OpenK.AllK
import Wide.FinOn
import Lean
import PyProof.EqAt
import PyProof.EqKinds
import PyProof.TupleCall
import KE.KRevIter
import PyProof.JoinWalk
import PyProof.CollectIter
import KE.KDictSum
import PySem.Challenge.RW_letterrack_k40_cross_letters
section
set_option Elab.async false
set_option linter.all false
set_option maxRecDepth 100000
/-! THE HAND LAYER, for ints, bools, texts, own classes, LISTS and tuples (index, slices, in, append, pop ..), calls, loops. Paste it whole ahead of your own text; what your proof does not reach may be deleted. -/
namespace L2
open PySem PySem.Spec PyProof.Rows

/-- a key: an int or a str -/
abbrev Key := Sum Int Str
def keyIs : Key → Value → Bool
  | .inl k, v => Value.isInt k v
  | .inr x, v => Value.isStrOf x v
def keyH (w : World) : Key → Int
  | .inl k => hashInt k
  | .inr x => hashStr w x
theorem keyIs_shape : ∀ {k : Key} {v : Value}, keyIs k v = true → (∃ i t, k = Sum.inl i ∧ v = Value.int i t) ∨ (∃ x t, k = Sum.inr x ∧ v = Value.str x t)
  | .inl i, v, h => by
    obtain ⟨t, e⟩ := Value.isInt_shape (k := i) (v := v) h
    exact .inl ⟨i, t, rfl, e⟩
  | .inr x, v, h => by
    obtain ⟨t, e⟩ := Value.isStrOf_shape (x := x) (v := v) h
    exact .inr ⟨x, t, rfl, e⟩
theorem keyIs_int (i : Int) (t : Tok) : keyIs (.inl i) (.int i t) = true := by simp [keyIs, Value.isInt]
theorem keyIs_str (x : Str) (t : Tok) : keyIs (.inr x) (.str x t) = true := by simp [keyIs, Value.isStrOf]
theorem key_ll (a b : Int) : decide ((Sum.inl a : Key) = Sum.inl b) = (a == b) := by
  by_cases e : a = b
  · subst e; simp
  · have h : ¬ (Sum.inl a : Key) = Sum.inl b := fun q => e (Sum.inl.inj q)
    rw [decide_eq_false h]
    exact (beq_eq_false_iff_ne.mpr e).symm
theorem key_rr (a b : Str) : decide ((Sum.inr a : Key) = Sum.inr b) = decide (a = b) := by
  by_cases e : a = b
  · subst e; simp
  · have h : ¬ (Sum.inr a : Key) = Sum.inr b := fun q => e (Sum.inr.inj q)
    rw [decide_eq_false h, decide_eq_false e]
theorem key_lr (a : Int) (b : Str) : decide ((Sum.inl a : Key) = Sum.inr b) = false := decide_eq_false (fun q => nomatch q)
theorem key_rl (a : Str) (b : Int) : decide ((Sum.inr a : Key) = Sum.inl b) = false := decide_eq_false (fun q => nomatch q)

def mixKind (prog : Program) (w : World) : PySem.KeyKind prog w Key where
  is := keyIs
  hash := keyH w
  inj := fun v a b ha hb => by
    rcases keyIs_shape ha with ⟨i, t, rfl, rfl⟩ | ⟨x, t, rfl, rfl⟩
    · rcases keyIs_shape hb with ⟨j, u, rfl, e⟩ | ⟨y, u, rfl, e⟩
      · injection e with e1 _; rw [e1]
      · exact nomatch e
    · rcases keyIs_shape hb with ⟨j, u, rfl, e⟩ | ⟨y, u, rfl, e⟩
      · exact nomatch e
      · injection e with e1 _; rw [e1]
  byValue := fun k v h => by
    rcases keyIs_shape h with ⟨i, t, rfl, rfl⟩ | ⟨x, t, rfl, rfl⟩ <;> rfl
  pyHash := fun hv h => by
    rcases keyIs_shape hv with ⟨i, t, rfl, rfl⟩ | ⟨x, t, rfl, rfl⟩
    · exact wpAny_pyHash_int h
    · exact wpAny_pyHash_str h
  eqBool := fun hu hv h => by
    rcases keyIs_shape hu with ⟨i, t, rfl, rfl⟩ | ⟨x, t, rfl, rfl⟩
    · rcases keyIs_shape hv with ⟨j, u, rfl, rfl⟩ | ⟨y, u, rfl, rfl⟩
      · rw [key_ll] at h; exact wpAny_eqBool_int h
      · rw [key_lr] at h; exact SeqAt.EqAt.int_str i t y u _ _ _ _ h
    · rcases keyIs_shape hv with ⟨j, u, rfl, rfl⟩ | ⟨y, u, rfl, rfl⟩
      · rw [key_rl] at h; exact SeqAt.EqAt.str_int x t j u _ _ _ _ h
      · rw [key_rr] at h; exact wpAny_eqBool_str h
  «strs» := fun k x t v h => by
    rcases keyIs_shape h with ⟨i, u, rfl, e⟩ | ⟨y, u, rfl, e⟩
    · exact nomatch e
    · injection e with e1 _
      subst e1
      cases v <;> rfl

theorem mixKind_is (prog : Program) (w : World) (k : Key) (v : Value) : (mixKind prog w).is k v = keyIs k v := rfl
theorem mixKind_int (prog : Program) (w : World) (i : Int) (t : Tok) : (mixKind prog w).is (.inl i) (.int i t) = true := keyIs_int i t
theorem mixKind_str (prog : Program) (w : World) (x : Str) (t : Tok) : (mixKind prog w).is (.inr x) (.str x t) = true := keyIs_str x t
end L2

namespace L2
open PySem PySem.Spec PyProof.Rows

/-- a value, without the heap -/
inductive V where
  | non | bl (b : Bool) | int (i : Int) | str (x : Str) | byt (b : Array UInt8) | flt (b : UInt64) | ref (a : Addr) | ty (n : String)
  deriving DecidableEq

def RelV : V → Value → Prop
  | .non, u => u = Value.none
  | .bl b, u => u = Value.bool b
  | .int i, u => ∃ t, u = Value.int i t
  | .str x, u => ∃ t, u = Value.str x t
  | .byt b, u => ∃ t, u = Value.bytes b t
  | .flt b, u => ∃ t, u = Value.float b t
  | .ref a, u => u = Value.ref a
  | .ty n, u => u = Value.type n

abbrev Vals : List V → List Value → Prop := Paired RelV
theorem Vals.length {xs : List V} {us : List Value} (r : Vals xs us) : xs.length = us.length := Paired.length r
theorem Vals.get : ∀ {xs : List V} {us : List Value} {i : Nat} {x : V}, Vals xs us → xs[i]? = some x → ∃ u, us[i]? = some u ∧ RelV x u
  | _, _, _, _, .nil, e => by simp at e
  | _, _, 0, _, .cons r _, e => by simp at e; subst e; exact ⟨_, rfl, r⟩
  | _, _, i + 1, x, .cons _ t, e => by
    obtain ⟨u, h1, h2⟩ := Vals.get (i := i) (x := x) t (by simpa using e)
    exact ⟨u, by simpa using h1, h2⟩
theorem Vals.set {x : V} {u : Value} (r : RelV x u) : ∀ {xs : List V} {us : List Value} (i : Nat), Vals xs us → Vals (xs.set i x) (us.set i u)
  | _, _, _, .nil => .nil
  | _, _, 0, .cons _ t => .cons r t
  | _, _, i + 1, .cons q t => .cons q (Vals.set r i t)
theorem Vals.append : ∀ {xs ys : List V} {us ws : List Value}, Vals xs us → Vals ys ws → Vals (xs ++ ys) (us ++ ws)
  | _, _, _, _, .nil, s => s
  | _, _, _, _, .cons r t, s => .cons r (Vals.append t s)
theorem Vals.take : ∀ {xs : List V} {us : List Value} (n : Nat), Vals xs us → Vals (xs.take n) (us.take n)
  | _, _, 0, _ => .nil
  | _, _, _ + 1, .nil => .nil
  | _, _, n + 1, .cons r t => .cons r (Vals.take n t)
theorem Vals.drop : ∀ {xs : List V} {us : List Value} (n : Nat), Vals xs us → Vals (xs.drop n) (us.drop n)
  | _, _, 0, r => r
  | _, _, _ + 1, .nil => .nil
  | _, _, n + 1, .cons _ t => Vals.drop n t
theorem Vals.none_of : ∀ {xs : List V} {us : List Value} {i : Nat}, Vals xs us → xs[i]? = none → us[i]? = none := fun {xs us i} r e => by
  have h1 := r.length
  have h2 : xs.length ≤ i := List.getElem?_eq_none_iff.mp e
  exact List.getElem?_eq_none_iff.mpr (by omega)

def RelO : Option V → Option Value → Prop
  | some v, some u => RelV v u
  | none, none => True
  | _, _ => False
def KV {κ : Type} : List (κ × V) → List (κ × Value) → Prop := Paired fun (p : κ × V) (q : κ × Value) => p.1 = q.1 ∧ RelV p.2 q.2

/-- a key of a dict (00_mix): an int or a text -/
def kV : Key → V
  | .inl i => .int i
  | .inr x => .str x

/-- what stands at a tracked address -/
inductive HO where
  /-- a list -/
  | lst (xs : List V)
  /-- a tuple (never changes) -/
  | tup (xs : List V)
  /-- a dict whose keys are ints and texts; one whose keys are tuples of ints and texts (the empty one is both) -/
  | dK (kvs : List (Key × V)) | dT (kvs : List (List Key × V))
  /-- a set of ints: its members, its size -/
  | set (S : Int → Bool) (n : Nat)
  /-- an instance of the class at C, its dict at dx, its attributes -/
  | ins (C dx : Addr) (fs : List (Str × V))
  /-- the dict of the instance at x -/
  | own (x : Addr)
  /-- the dict of an exception -/
  | xd (fs : List (Str × V))
  /-- a bound method, f of x -/
  | met (f x : Addr)
  /-- a range object lo, lo + 1, .. below hi -/
  | rng (lo hi : Int)
  /-- a thing that is known to the object (the script; a dict while a loop walks it): read, never written while it is so -/
  | frz (o : Obj) (u : HO)
  /-- a code object's table -/
  | tbl (ps : Array Value)
  /-- any other thing, by what is true of its one object (a def of one's own: SetO a S n := HO.ext fun h => ..) -/
  | ext (φ : Heap → Prop)

abbrev Hp := Addr → Option HO
def upd (H : Hp) (a : Addr) (o : HO) : Hp := fun b => if b = a then some o else H b
theorem upd_same {H : Hp} {a : Addr} {o : HO} : upd H a o a = some o := by unfold upd; rw [if_pos rfl]
theorem upd_ne {H : Hp} {a b : Addr} {o : HO} (h : b ≠ a) : upd H a o b = H b := by unfold upd; rw [if_neg h]
theorem upd_upd {H : Hp} {a : Addr} {o u : HO} : upd (upd H a o) a u = upd H a u := by
  funext b; unfold upd; split <;> rfl
/-- two objects of different content stand apart -/
theorem ne_of {H : Hp} {a b : Addr} {o u : HO} (h : H a = some o) (h' : H b = some u) (d : o ≠ u) : a ≠ b := by
  intro e; subst e; rw [h] at h'; exact d (Option.some.inj h')
theorem ne_of_none {H : Hp} {a b : Addr} {o : HO} (h : H a = some o) (h' : H b = none) : a ≠ b := by
  intro e; subst e; rw [h] at h'; cases h'

section
variable (P : Program) (w : World)
def ObjOk (H : Hp) (h : Heap) (a : Addr) : HO → Prop
  | .lst xs => xs.length ≤ sizeLine ∧ ∃ (its : List Value) (n : Nat), Vals xs its ∧ h.get? a = some { cls := .type "list", data := .seq its.toArray n }
  | .tup xs => xs.length ≤ sizeLine ∧ ∃ its : List Value, Vals xs its ∧ IsTup h a its.toArray
  | .dK kvs => kvs.length ≤ sizeLine ∧ (a == sysModules) = false ∧ ∃ vs, KV kvs vs ∧ h.DictOf (mixKind P w) a vs
  | .dT kvs => kvs.length ≤ sizeLine ∧ (a == sysModules) = false ∧ ∃ xs : List (List Key × Addr × Value),
      Paired (fun (p : List Key × V) (q : List Key × Addr × Value) => p.1 = q.1 ∧ H q.2.1 = some (.tup (p.1.map kV)) ∧ RelV p.2 q.2.2) kvs xs ∧
      ∃ o es ep, h.get? a = some o ∧ o.ExactDict ∧ o.data = .dict es ep ∧ es.toList = xs.map (entryOfKey (tupleKind (mixKind P w))) ∧ (xs.map (·.1)).Nodup
  | .set S n => h.SetOf (intKind P w) a S n
  | .ins C dx fs => H dx = some (.own a) ∧ fs.length ≤ 1000 ∧ dx ≠ a ∧ h.get? a = some (PySem.W.instObj C dx) ∧
      ∃ mA, h.Ns1 dx mA ∧ (∀ f, RelO (fs.lookup f) (mA f)) ∧ PySem.Within mA (fs.map (·.1))
  | .own _ => ∃ o, h.get? a = some o
  | .xd fs => ∃ mA, h.Ns1 a mA ∧ ∀ f, RelO (fs.lookup f) (mA f)
  | .rng lo hi => ∃ t u v, h.get? a = some { cls := .type "range", data := .fields #[.int lo t, .int hi u, .int 1 v] }
  | .frz o u => h.get? a = some o ∧ ObjOk H h a u
  | .tbl ps => h.get? a = some { cls := .none, data := .fields ps }
  | .met f x => h.get? a = some (PySem.W.methodObj (.ref f) (.ref x))
  | .ext φ => φ h ∧ (∃ o, h.get? a = some o) ∧ ∀ h1 h2 : Heap, φ h1 → (∀ o, h1.get? a = some o → h2.get? a = some o) → φ h2
/-- the abstract heap is held -/
def HOk (H : Hp) (h : Heap) : Prop := ∀ a o, H a = some o → ObjOk P w H h a o
end

section
variable {P : Program} {w : World} {H H' : Hp} {h h' : Heap} {a : Addr} {o : HO}
theorem ObjOk.lt (x : ObjOk P w H h a o) : a < h.objs.size := by
  cases o with
  | lst xs => obtain ⟨_, _, _, _, e⟩ := x; exact Heap.lt_size e
  | tup xs => obtain ⟨_, _, _, p⟩ := x; exact p.lt
  | dK kvs => obtain ⟨_, _, _, _, o, _, _, e, _⟩ := x; exact Heap.lt_size e
  | dT kvs => obtain ⟨_, _, _, _, o, _, _, e, _⟩ := x; exact Heap.lt_size e
  | set S n => obtain ⟨o, _, _, _, e, _⟩ := x; exact Heap.lt_size e
  | ins C dx fs => obtain ⟨_, _, _, e, _⟩ := x; exact Heap.lt_size e
  | own y => obtain ⟨_, e⟩ := x; exact Heap.lt_size e
  | xd fs => obtain ⟨_, ⟨_, _, _, e, _⟩, _⟩ := x; exact Heap.lt_size e
  | rng lo hi => obtain ⟨_, _, _, e⟩ := x; exact Heap.lt_size e
  | frz ob u => obtain ⟨e, _⟩ := x; exact Heap.lt_size e
  | tbl ps => exact Heap.lt_size (show h.get? a = some _ from x)
  | met f y => exact Heap.lt_size (show h.get? a = some _ from x)
  | ext φ => obtain ⟨_, ⟨_, e⟩, _⟩ := x; exact Heap.lt_size e
theorem Paired.mapP {α β : Type} {F G : α → β → Prop} : ∀ {l₁ : List α} {l₂ : List β}, Paired F l₁ l₂ → (∀ a b, F a b → G a b) → Paired G l₁ l₂
  | _, _, .nil, _ => .nil
  | _, _, .cons r t, f => .cons (f _ _ r) (Paired.mapP t f)
theorem Paired.imp' {α β : Type} {F G : α → β → Prop} (f : ∀ a b, F a b → G a b) {l₁ : List α} {l₂ : List β} (r : Paired F l₁ l₂) : Paired G l₁ l₂ := Paired.mapP r f
/-- what an object's description leans on: its own object, its own dict, the tuples -/
theorem ObjOk.stay (x : ObjOk P w H h a o) (k : ∀ b u, (b = a ∨ H b = some (.own a)) → h.get? b = some u → h'.get? b = some u)
    (ho : ∀ b, H b = some (.own a) → H' b = some (.own a)) (ht : ∀ b xs, H b = some (.tup xs) → H' b = some (.tup xs)) : ObjOk P w H' h' a o := by
  induction o with
  | lst xs => obtain ⟨z, its, n, r, e⟩ := x; exact ⟨z, its, n, r, k _ _ (.inl rfl) e⟩
  | tup xs => obtain ⟨z, its, r, ob, e, c⟩ := x; exact ⟨z, its, r, ob, k _ _ (.inl rfl) e, c⟩
  | dK kvs => obtain ⟨z, y, vs, r, ob, es, ep, e, c⟩ := x; exact ⟨z, y, vs, r, ob, es, ep, k _ _ (.inl rfl) e, c⟩
  | dT kvs =>
    obtain ⟨z, y, xs, r, ob, es, ep, e, c⟩ := x
    exact ⟨z, y, xs, Paired.mapP r fun p q z => ⟨z.1, ht _ _ z.2.1, z.2.2⟩, ob, es, ep, k _ _ (.inl rfl) e, c⟩
  | set S n => obtain ⟨ob, es, ep, t, e, c⟩ := x; exact ⟨ob, es, ep, t, k _ _ (.inl rfl) e, c⟩
  | ins C dx fs =>
    obtain ⟨d, z, ne, e, mA, ⟨od, es, ep, e2, c⟩, r⟩ := x
    exact ⟨ho _ d, z, ne, k _ _ (.inl rfl) e, mA, ⟨od, es, ep, k _ _ (.inr d) e2, c⟩, r⟩
  | own y => obtain ⟨ob, e⟩ := x; exact ⟨ob, k _ _ (.inl rfl) e⟩
  | xd fs => obtain ⟨mA, ⟨od, es, ep, e, c⟩, r⟩ := x; exact ⟨mA, ⟨od, es, ep, k _ _ (.inl rfl) e, c⟩, r⟩
  | rng lo hi => obtain ⟨t, u, v, e⟩ := x; exact ⟨t, u, v, k _ _ (.inl rfl) e⟩
  | frz ob u ih => obtain ⟨e, q⟩ := x; exact ⟨k _ _ (.inl rfl) e, ih q⟩
  | tbl ps =>
    have e : h.get? a = some { cls := .none, data := .fields ps } := x
    show h'.get? a = some { cls := .none, data := .fields ps }
    exact k a _ (.inl rfl) e
  | met f y =>
    have e : h.get? a = some (PySem.W.methodObj (.ref f) (.ref y)) := x
    show h'.get? a = some (PySem.W.methodObj (.ref f) (.ref y))
    exact k a _ (.inl rfl) e
  | ext φ => obtain ⟨p, ⟨o, e⟩, st⟩ := x; exact ⟨st _ _ p fun o q => k _ _ (.inl rfl) q, ⟨o, k _ _ (.inl rfl) e⟩, st⟩
theorem HOk.lt (x : HOk P w H h) (e : H a = some o) : a < h.objs.size := (x a o e).lt
theorem HOk.fresh (x : HOk P w H h) (e : h.objs.size ≤ a) : H a = none := by
  cases q : H a with
  | none => rfl
  | some u => exact absurd (Nat.lt_of_lt_of_le (x.lt q) e) (Nat.lt_irrefl _)
/-- every object of the heap is kept -/
theorem HOk.kept (x : HOk P w H h) (k : ∀ b u, h.get? b = some u → h'.get? b = some u) : HOk P w H h' := fun a o e =>
  (x a o e).stay (fun b u _ q => k b u q) (fun _ q => q) fun _ _ q => q
/-- a new object is laid and tracked -/
theorem HOk.laid (x : HOk P w H h) (k : ∀ b u, h.get? b = some u → h'.get? b = some u) (hp : h.objs.size ≤ a) (new : ObjOk P w (upd H a o) h' a o) : HOk P w (upd H a o) h' := fun b u e => by
  have hn := x.fresh hp
  by_cases hb : b = a
  · subst hb; rw [upd_same] at e; cases e; exact new
  · rw [upd_ne hb] at e
    exact (x b u e).stay (fun c v _ q => k c v q) (fun c q => by rw [upd_ne (ne_of_none q hn)]; exact q) fun c xs q => by rw [upd_ne (ne_of_none q hn)]; exact q
end

/-- what may be read as u: it is u, or a known u -/
def Rd (H : Hp) (a : Addr) (u : HO) : Prop := H a = some u ∨ ∃ o, H a = some (.frz o u)
theorem Rd.of {H : Hp} {a : Addr} {u : HO} (h : H a = some u) : Rd H a u := .inl h
theorem Rd.ok {P : Program} {w : World} {H : Hp} {h : Heap} {a : Addr} {u : HO} (r : Rd H a u) (x : HOk P w H h) : ObjOk P w H h a u := by
  rcases r with r | ⟨o, r⟩
  · exact x a u r
  · obtain ⟨_, q⟩ := x a _ r
    exact q
/-- what may be written -/
def Mut : Option HO → Prop
  | some (.lst _) => True
  | some (.dK _) => True
  | some (.dT _) => True
  | some (.set _ _) => True
  | some (.ins _ _ _) => True
  | some (.ext _) => True
  | _ => False
section
variable {P : Program} {w : World} {H : Hp} {h h' : Heap} {x e : Addr} {o' : HO}
/-- the object at e is changed: x itself, or the dict of the instance x -/
theorem HOk.write (ok : HOk P w H h) (mu : Mut (H x)) (he : e = x ∨ H e = some (.own x)) (k : ∀ b u, b ≠ e → h.get? b = some u → h'.get? b = some u) (heo : ∃ u, h'.get? e = some u)
    (new : ObjOk P w (upd H x o') h' x o') : HOk P w (upd H x o') h' := fun b u q => by
  have nown : ∀ c y, H c = some (.own y) → c ≠ x := fun c y r z => by subst z; rw [r] at mu; exact mu
  have ntup : ∀ c xs, H c = some (.tup xs) → c ≠ x := fun c xs r z => by subst z; rw [r] at mu; exact mu
  by_cases hb : b = x
  · subst hb; rw [upd_same] at q; cases q; exact new
  · rw [upd_ne hb] at q
    by_cases hbe : b = e
    · have q' : H b = some (.own x) := by
        rcases he with z | z
        · exact absurd (hbe.trans z) hb
        · rw [hbe]; exact z
      rw [q] at q'; cases q'
      obtain ⟨v, hv⟩ := heo
      exact ⟨v, by rw [hbe]; exact hv⟩
    · refine (ok b u q).stay (fun c v hc r => k c v ?_ r) (fun c r => by rw [upd_ne (nown c b r)]; exact r) fun c xs r => by rw [upd_ne (ntup c xs r)]; exact r
      rcases hc with rfl | hc
      · exact hbe
      · rintro rfl
        rcases he with z | z
        · exact nown c b hc z
        · rw [hc] at z; cases z; exact hb rfl
end

/-! ### kept unless tracked; of the frames at fs (the callers') the slots may change (an exception that passes writes there); of the records at ex (iterators) nothing is said -/
structure Un (fs ex : List Addr) (H H' : Hp) (h h' : Heap) : Prop where
  keep : ∀ b o, h.get? b = some o → H b = none → b ∉ fs → b ∉ ex → h'.get? b = some o
  slot : ∀ b o, h.get? b = some o → H b = none → b ∈ fs → b ∉ ex → ∃ sl, h'.get? b = some { o with slots := sl }
  free : ∀ b o, h.get? b = some o → H b = none → b ∉ ex → H' b = none
  there : ∀ b o, h.get? b = some o → b ∉ ex → ∃ o', h'.get? b = some o'
  tups : ∀ b xs, H b = some (.tup xs) → H' b = some (.tup xs)
  frzs : ∀ b o u, H b = some (.frz o u) → H' b = some (.frz o u)
  tbls : ∀ b ps, H b = some (.tbl ps) → ∃ more, H' b = some (.tbl (ps ++ more))
section
variable {fs fs' ex ex' : List Addr} {H H1 H2 : Hp} {h h1 h2 h' : Heap} {a x e : Addr} {o : HO}
theorem Un.any (u : Un fs ex H H1 h h1) {b : Addr} {ob : Obj} (q : h.get? b = some ob) (n : H b = none) (hx : b ∉ ex) : ∃ sl, h1.get? b = some { ob with slots := sl } := by
  by_cases hb : b ∈ fs
  · exact u.slot b ob q n hb hx
  · exact ⟨ob.slots, u.keep b ob q n hb hx⟩
theorem Un.trans (a : Un fs ex H H1 h h1) (b : Un fs ex H1 H2 h1 h2) : Un fs ex H H2 h h2 where
  keep := fun c ob q n hc hx => b.keep c ob (a.keep c ob q n hc hx) (a.free c ob q n hx) hc hx
  slot := fun c ob q n hc hx => by
    obtain ⟨sl, e1⟩ := a.slot c ob q n hc hx
    obtain ⟨sl', e2⟩ := b.slot c _ e1 (a.free c ob q n hx) hc hx
    exact ⟨sl', e2⟩
  free := fun c ob q n hx => by
    obtain ⟨o', e1⟩ := a.there c ob q hx
    exact b.free c o' e1 (a.free c ob q n hx) hx
  there := fun c ob q hx => by
    obtain ⟨o', e1⟩ := a.there c ob q hx
    exact b.there c o' e1 hx
  tups := fun c xs q => b.tups c xs (a.tups c xs q)
  frzs := fun c ob xs q => b.frzs c ob xs (a.frzs c ob xs q)
  tbls := fun c ps q => by
    obtain ⟨m1, e1⟩ := a.tbls c ps q
    obtain ⟨m2, e2⟩ := b.tbls c _ e1
    exact ⟨m1 ++ m2, by rw [e2, Array.append_assoc]⟩
theorem Un.kept (k : ∀ b u, h.get? b = some u → h'.get? b = some u) : Un fs ex H H h h' :=
  ⟨fun b ob q _ _ _ => k b ob q, fun b ob q _ _ _ => ⟨ob.slots, k b ob q⟩, fun _ _ _ n _ => n, fun b ob q _ => ⟨ob, k b ob q⟩, fun _ _ q => q, fun _ _ _ q => q, fun _ ps q => ⟨#[], by rw [q]; simp⟩⟩
theorem Un.refl : Un fs ex H H h h := Un.kept fun _ _ q => q
theorem Un.laid (k : ∀ b u, h.get? b = some u → h'.get? b = some u) (hp : h.objs.size ≤ a) (hn : H a = none) : Un fs ex H (upd H a o) h h' where
  keep := fun b u q _ _ _ => k b u q
  slot := fun b u q _ _ _ => ⟨u.slots, k b u q⟩
  free := fun b u q n _ => by rw [upd_ne (Nat.ne_of_lt (Nat.lt_of_lt_of_le (Heap.lt_size q) hp))]; exact n
  there := fun b u q _ => ⟨u, k b u q⟩
  tups := fun b xs q => by rw [upd_ne (ne_of_none q hn)]; exact q
  frzs := fun b u xs q => by rw [upd_ne (ne_of_none q hn)]; exact q
  tbls := fun b ps q => ⟨#[], by rw [upd_ne (ne_of_none q hn), q]; simp⟩
theorem Un.write (mu : Mut (H x)) (he : e = x ∨ H e = some (.own x)) (k : ∀ b u, b ≠ e → h.get? b = some u → h'.get? b = some u) (heo : ∃ u, h'.get? e = some u) : Un fs ex H (upd H x o) h h' := by
  have hx : ∀ b, H b = none → b ≠ x := fun b n z => by subst z; rw [n] at mu; exact mu
  have hb : ∀ b, H b = none → b ≠ e := fun b n z => by
    subst z
    rcases he with r | r
    · exact hx b n r
    · rw [n] at r; cases r
  have hm : ∀ b u, H b = some u → ¬ Mut (some u) → b ≠ x := fun b u q nm z => by subst z; rw [q] at mu; exact nm mu
  refine ⟨fun b u q n _ _ => k b u (hb b n) q, fun b u q n _ _ => ⟨u.slots, k b u (hb b n) q⟩, fun b u q n _ => by rw [upd_ne (hx b n)]; exact n, fun b u q _ => ?_,
    fun b xs q => by rw [upd_ne (hm b _ q fun z => z)]; exact q, fun b u xs q => by rw [upd_ne (hm b _ q fun z => z)]; exact q, fun b ps q => ⟨#[], by rw [upd_ne (hm b _ q fun z => z), q]; simp⟩⟩
  by_cases hbe : b = e
  · subst hbe; exact heo
  · exact ⟨u, k b u hbe q⟩
theorem Un.mono (u : Un fs ex H H1 h h1) (hs : ∀ b ∈ fs, b ∈ fs') (hx : ∀ b ∈ ex, b ∈ ex') : Un fs' ex' H H1 h h1 :=
  ⟨fun b ob q n hb he => u.keep b ob q n (fun z => hb (hs b z)) fun z => he (hx b z), fun _ _ q n _ he => u.any q n fun z => he (hx _ z), fun b ob q n he => u.free b ob q n fun z => he (hx b z), fun b ob q he => u.there b ob q fun z => he (hx b z), u.tups, u.frzs, u.tbls⟩
end

/-! ### the heap without what is tracked -/
def trk (h : Heap) (H : Hp) : List Addr := (List.range h.objs.size).filter fun a => (H a).isSome
def hidT (h : Heap) (H : Hp) : Heap := PySem.W.hideAll h (trk h H)
theorem hidT_size (h : Heap) (H : Hp) : (hidT h H).objs.size = h.objs.size := PySem.W.hideAll_size _ _
theorem hidT_get {h : Heap} {H : Hp} {b : Addr} {o : Obj} (e : h.get? b = some o) (n : H b = none) : (hidT h H).get? b = some o :=
  PySem.W.hideAll_get _ e fun hm => by
    have q : (H b).isSome = true := (List.mem_filter.mp hm).2
    rw [n] at q; simp at q
theorem of_hidT {h : Heap} {H : Hp} {b : Addr} {o : Obj} (e : (hidT h H).get? b = some o) : h.get? b = some o ∧ H b = none := by
  have e' : h.get? b = some o := PySem.W.of_hideAll (trk h H) e
  refine ⟨e', ?_⟩
  cases q : H b with
  | none => rfl
  | some x =>
    have hm : b ∈ trk h H := List.mem_filter.mpr ⟨List.mem_range.mpr (Heap.lt_size e'), by simp [q]⟩
    have z : (hidT h H).get? b = none := PySem.W.hideAll_none (trk h H) hm
    rw [z] at e; cases e

/-! ### OpenK's ledger, filled with every new object but one -/
def allNews (g h : Heap) (L : Addr) : List (Addr × Obj) := (List.range h.objs.size).filterMap fun a => if a = L ∨ (g.get? a).isSome = true then none else (h.get? a).map fun o => (a, o)
theorem mem_allNews {g h : Heap} {L a : Addr} {o : Obj} (h1 : a ≠ L) (h2 : g.get? a = none) (h3 : h.get? a = some o) : (a, o) ∈ allNews g h L :=
  List.mem_filterMap.mpr ⟨a, List.mem_range.mpr (Heap.lt_size h3), by simp [h1, h2, h3]⟩
theorem of_mem_allNews {g h : Heap} {L : Addr} {p : Addr × Obj} (hp : p ∈ allNews g h L) : p.1 ≠ L ∧ g.get? p.1 = none ∧ h.get? p.1 = some p.2 := by
  obtain ⟨b, _, e⟩ := List.mem_filterMap.mp hp
  split at e
  · cases e
  · rename_i hn
    cases q : h.get? b with
    | none => rw [q] at e; simp at e
    | some u =>
      rw [q] at e
      simp only [Option.map_some, Option.some.injEq] at e
      subst e
      refine ⟨fun z => hn (.inl z), ?_, q⟩
      show g.get? b = none
      cases r : g.get? b with
      | none => rfl
      | some v => exact (hn (.inr (by simp [r]))).elim
def rest (g h : Heap) (L d : Addr) : List (Addr × Obj) := (allNews g h L).filter fun p => decide (p.1 ≠ d)
theorem rest_ne {g h : Heap} {L d : Addr} : ∀ p ∈ rest g h L d, p.1 ≠ d := fun p hp => of_decide_eq_true (List.mem_filter.mp hp).2
theorem mem_rest {g h : Heap} {L d a : Addr} {o : Obj} (h1 : a ≠ L) (h2 : g.get? a = none) (h3 : h.get? a = some o) (h4 : a ≠ d) : (a, o) ∈ rest g h L d :=
  List.mem_filter.mpr ⟨mem_allNews h1 h2 h3, decide_eq_true h4⟩
theorem news_all {g h : Heap} {L : Addr} : News g L h (allNews g h L) := fun p hp => let ⟨a, b, c⟩ := of_mem_allNews hp; ⟨c, a, b⟩
theorem news_at {g h : Heap} {L d : Addr} {o : Obj} (h1 : d ≠ L) (h2 : g.get? d = none) (h3 : h.get? d = some o) : News g L h ((d, o) :: rest g h L d) := fun p hp => by
  rcases List.mem_cons.mp hp with rfl | hp
  · exact ⟨h3, h1, h2⟩
  · exact news_all p (List.mem_filter.mp hp).1
/-- behind a rule that changed d alone: all else but the frame is kept -/
theorem kept_of_news {g h h' : Heap} {L d : Addr} {m : Str → Option Value} (k : ∀ b o, g.get? b = some o → h.get? b = some o) (F : Fr g L h' m) (N : News g L h' (rest g h L d)) :
    ∀ b o, b ≠ L → b ≠ d → h.get? b = some o → h'.get? b = some o := fun b o h1 h2 e => by
  cases q : g.get? b with
  | some u =>
    have := k b u q
    rw [e] at this; cases this
    exact F.keep b _ q
  | none => exact (N (b, o) (mem_rest h1 q e h2)).1
end L2

namespace L2
open PySem PySem.Spec PyProof.Rows

/-- the module's facts, over the base: the heap at the law's entry without what is tracked there -/
structure Mod (K : PySem.W.Frag) (mg : Str → Option Value) (base : Heap) : Prop where
  kin : K.In base
  glob : base.Ns mainGlobals mg
  blt : ∃ mb, base.Ns builtinsNs mb ∧ ∀ x : Str, x ≠ "__name__" → mb x = bootBuiltins x
  nolimit : base.NoLimit

/-- the context: a def's body (or a comprehension's block) running. base: fixed through the whole law; s₀, H₀: the entry; outer: the frames whose slots others may change (a def's callers); stack: all frames that run;
   ex: iterators that were made ahead of the entry and are walked here (a comprehension's); fn: the names whose cells were made at the entry (a def: all; a comprehension's block: its own); calm: not within an except suite; pn: pins that every state bears; xe: what is wanted of an exception that leaves the code -/
structure Cx where
  prog : Program
  w : World
  K : PySem.W.Frag
  mg : Str → Option Value
  base : Heap
  A : Around
  N : List Str
  s₀ : Shared
  H₀ : Hp
  env : Env
  outer : List Env
  stack : List Env
  ex : List Addr
  fn : Str → Bool
  calm : Bool
  pn : List (Addr × Obj)
  xe : Value → Shared → Prop
/-- the callers' frames -/
def frs (l : List Env) : List Addr := l.filterMap (·.frame)
abbrev Cx.fs (X : Cx) : List Addr := frs X.outer

def Vis (sc : Scope) (x : Str) : Prop := sc.names.lookup x = some .local ∨ sc.names.lookup x = some .cell ∨ sc.names.lookup x = some .free
def Loc (sc : Scope) (x : Str) : Prop := sc.names.lookup x = some .local ∨ sc.names.lookup x = some .cell
def Look (env : Env) (h : Heap) (m : Str → Option Value) (x : Str) (u : Value) : Prop :=
  (env.kindOf x = some .local ∧ m x = some u) ∨ ((env.kindOf x = some .cell ∨ env.kindOf x = some .free) ∧ ∃ c, env.cells.lookup x = some c ∧ h.IsCell c (some u))

structure Cx.Ok (X : Cx) : Prop where
  mod : Mod X.K X.mg X.base
  kind : X.env.scope.kind = .function
  glob : X.env.globals = mainGlobals
  blt : X.env.builtins = builtinsNs
  above : X.s₀.heap.objs.size ≤ X.env.locals
  inj : ∀ x y c, X.env.cells.lookup x = some c → X.env.cells.lookup y = some c → x = y
  has : ∀ x, (X.env.kindOf x = some .cell ∨ X.env.kindOf x = some .free) → ∃ c, X.env.cells.lookup x = some c
  cab : ∀ x c, X.fn x = true → X.env.cells.lookup x = some c → X.s₀.heap.objs.size ≤ c
  hd : X.calm = true → X.A.handled = none
  frames : X.A.frames = some X.stack
  stk : X.stack = X.outer ∨ (X.stack = X.env :: X.outer ∧ X.env.frame = some X.env.locals)
  exf : ∀ b ∈ X.ex, b ≠ X.env.locals ∧ ∀ x c, X.env.cells.lookup x = some c → c ≠ b
  bs : ∀ b o, X.base.get? b = some o → X.s₀.heap.get? b = some o ∧ X.H₀ b = none
  bsz : X.base.objs.size ≤ X.s₀.heap.objs.size
  noex : ∀ b o, X.base.get? b = some o → b ∉ X.ex
  exfs : ∀ b ∈ X.ex, b ∉ X.fs
  funs : X.s₀.heap.FunFrames X.base X.outer
  frf : ∀ b ∈ X.fs, X.H₀ b = none

structure Inv (X : Cx) (pins : List (Addr × Obj)) (σ : List (Option V)) (H : Hp) (s : Shared) : Prop where
  ok : X.Ok
  os : s.os = X.s₀.os
  bare : AllBare s.gens
  base : Un X.fs X.ex X.H₀ H X.s₀.heap s.heap
  loc : ∃ m, s.heap.Ns X.env.locals m ∧ ∀ (i : Nat) (x : Str) (v : V), X.N[i]? = some x → σ[i]? = some (some v) → Vis X.env.scope x → ∃ u, RelV v u ∧ Look X.env s.heap m x u
  cell : ∀ x c, X.env.cells.lookup x = some c → ∃ v, s.heap.IsCell c v
  free : H X.env.locals = none
  freeC : ∀ x c, X.env.cells.lookup x = some c → H c = none
  pin : ∀ p ∈ X.pn ++ pins, s.heap.get? p.1 = some p.2 ∧ H p.1 = none ∧ p.1 ≠ X.env.locals ∧ p.1 ∉ X.fs ∧ ∀ v, p.2.data ≠ .cell v
  hok : HOk X.prog X.w H s.heap
  len : σ.length = X.N.length

section
variable {X : Cx} {pins : List (Addr × Obj)} {σ : List (Option V)} {H H' : Hp} {s : Shared} {h' : Heap}

theorem Cx.Ok.nofr (ok : X.Ok) {b : Addr} {o : Obj} (e : X.base.get? b = some o) : b ∉ X.fs := fun hb => by
  have := (ok.funs.mem hb).1
  rw [e] at this; cases this
theorem Inv.bs (I : Inv X pins σ H s) : ∀ b o, X.base.get? b = some o → s.heap.get? b = some o ∧ H b = none := fun b o e =>
  ⟨I.base.keep b o (I.ok.bs b o e).1 (I.ok.bs b o e).2 (I.ok.nofr e) (I.ok.noex b o e), I.base.free b o (I.ok.bs b o e).1 (I.ok.bs b o e).2 (I.ok.noex b o e)⟩
theorem Inv.bk (I : Inv X pins σ H s) : ∀ b o, X.base.get? b = some o → s.heap.get? b = some o := fun b o e => (I.bs b o e).1
theorem Inv.mod (I : Inv X pins σ H s) : Mod X.K X.mg X.base := I.ok.mod
theorem Inv.kIn (I : Inv X pins σ H s) : X.K.In s.heap := I.ok.mod.kin.keeps I.bk
theorem Inv.nolimit (I : Inv X pins σ H s) : s.heap.NoLimit := I.ok.mod.nolimit.keeps I.bk
/-- the frame over the base: for OpenK's rules (K.In X.base is I.mod.kin) -/
theorem Inv.fr (I : Inv X pins σ H s) : ∃ m, Fr X.base X.env.locals s.heap m :=
  let ⟨m, hn, _⟩ := I.loc
  ⟨m, hn, I.bk, Nat.le_trans I.ok.bsz I.ok.above⟩
theorem Inv.lt (I : Inv X pins σ H s) : X.env.locals < s.heap.objs.size := let ⟨_, hn, _⟩ := I.loc; hn.lt
theorem Inv.sz (I : Inv X pins σ H s) : X.s₀.heap.objs.size ≤ s.heap.objs.size := Nat.le_trans I.ok.above (Nat.le_of_lt I.lt)
theorem Inv.nofs (I : Inv X pins σ H s) {a : Addr} (h : s.heap.objs.size ≤ a) : a ∉ X.fs := fun hb => by
  obtain ⟨_, o, ho, _⟩ := I.ok.funs.mem hb
  exact absurd (Nat.lt_of_lt_of_le (Heap.lt_size ho) (Nat.le_trans I.sz h)) (Nat.lt_irrefl _)
theorem Inv.cne (I : Inv X pins σ H s) : ∀ x c, X.env.cells.lookup x = some c → c ≠ X.env.locals := fun x c e z => by
  obtain ⟨v, o, ho, hd⟩ := I.cell x c e
  obtain ⟨m, ⟨o', es, ep, ho', hd', _⟩, _⟩ := I.loc
  rw [z, ho'] at ho; cases ho; rw [hd'] at hd; cases hd
theorem Inv.funs (I : Inv X pins σ H s) : s.heap.FunFrames X.base X.outer := by
  have all : ∀ (l : List Env), (∀ b ∈ frs l, b ∈ X.fs) → X.s₀.heap.FunFrames X.base l → s.heap.FunFrames X.base l := by
    intro l
    induction l with
    | nil => intro _ _; trivial
    | cons env r ih =>
      intro hs hl
      obtain ⟨hk, ⟨L, o, hf, hn, ho, hd⟩, hr⟩ := hl
      have hL : L ∈ X.fs := hs L (by unfold frs; rw [List.filterMap_cons, hf]; exact List.mem_cons_self)
      obtain ⟨sl, e⟩ := I.base.slot L o ho (I.ok.frf L hL) hL fun z => I.ok.exfs L z hL
      exact ⟨hk, ⟨L, _, hf, hn, e, hd⟩, ih (fun b hb => hs b (by unfold frs; rw [List.filterMap_cons, hf]; exact List.mem_cons_of_mem _ hb)) hr⟩
  exact all X.outer (fun _ hb => hb) I.ok.funs

/-- the frames that run, for a call -/
theorem Inv.stack (I : Inv X pins σ H s) : s.heap.FunFrames X.base X.stack := by
  rcases I.ok.stk with e | ⟨e, hf⟩
  · rw [e]; exact I.funs
  · rw [e]
    obtain ⟨m, hn, _⟩ := I.loc
    refine .cons (by rw [I.ok.kind]; decide) hf hn ?_ I.funs
    exact Heap.get?_none_of_le (Nat.le_trans I.ok.bsz I.ok.above)
theorem Inv.stkSub (I : Inv X pins σ H s) : ∀ b ∈ frs X.stack, b ∈ X.env.locals :: X.fs := fun b hb => by
  rcases I.ok.stk with e | ⟨e, hf⟩
  · rw [e] at hb; exact List.mem_cons_of_mem _ hb
  · rw [e] at hb
    unfold frs at hb
    rw [List.filterMap_cons, hf] at hb
    exact hb
theorem Inv.stkFree (I : Inv X pins σ H s) : ∀ b ∈ frs X.stack, H b = none := fun b hb => by
  rcases List.mem_cons.mp (I.stkSub b hb) with e | hb
  · rw [e]; exact I.free
  · obtain ⟨_, o, ho, _⟩ := I.ok.funs.mem hb
    exact I.base.free b o ho (I.ok.frf b hb) fun z => I.ok.exfs b z hb

/-- THE STEP: the untracked objects but the frame and the records at ch are kept (the callers' frames up to slots), the frame's map is kept, the new abstract heap is held -/
theorem Inv.step {g' : Array GenState} {t' : Nat} {d' : Drawn} {ch : List Addr} (I : Inv X pins σ H s)
    (hch : ∀ b ∈ ch, (b ∈ X.ex ∨ X.s₀.heap.objs.size ≤ b) ∧ b ≠ X.env.locals ∧ (∀ x c, X.env.cells.lookup x = some c → c ≠ b) ∧ ∀ p ∈ X.pn ++ pins, p.1 ≠ b)
    (keep : ∀ b o, b ≠ X.env.locals → b ∉ X.fs → b ∉ ch → s.heap.get? b = some o → H b = none → h'.get? b = some o)
    (slot : ∀ b o, b ≠ X.env.locals → b ∈ X.fs → b ∉ ch → s.heap.get? b = some o → H b = none → ∃ sl, h'.get? b = some { o with slots := sl }) (free : ∀ b o, b ∉ ch → s.heap.get? b = some o → H b = none → H' b = none)
    (there : ∀ b o, b ∉ ch → s.heap.get? b = some o → ∃ o', h'.get? b = some o')
    (tups : ∀ b xs, H b = some (.tup xs) → H' b = some (.tup xs)) (frzs : ∀ b o u, H b = some (.frz o u) → H' b = some (.frz o u)) (tbls : ∀ b ps, H b = some (.tbl ps) → ∃ more, H' b = some (.tbl (ps ++ more)))
    (ns : ∀ m, s.heap.Ns X.env.locals m → h'.Ns X.env.locals m) (hok : HOk X.prog X.w H' h') (hg : AllBare g') :
    Inv X pins σ H' { s with heap := h', gens := g', drawn := d', toks := t' } := by
  have neL : ∀ b o, X.s₀.heap.get? b = some o → b ≠ X.env.locals := fun b o e => Nat.ne_of_lt (Nat.lt_of_lt_of_le (Heap.lt_size e) I.ok.above)
  have neC : ∀ b o, X.s₀.heap.get? b = some o → b ∉ X.ex → b ∉ ch := fun b o e hx hb => by
    rcases (hch b hb).1 with z | z
    · exact hx z
    · exact absurd (Nat.lt_of_lt_of_le (Heap.lt_size e) z) (Nat.lt_irrefl _)
  have cellK : ∀ x c, X.env.cells.lookup x = some c → ∀ v, s.heap.IsCell c v → h'.IsCell c v := fun x c e v ⟨o, ho, hd⟩ => by
    have nch : c ∉ ch := fun z => (hch c z).2.2.1 x c e rfl
    by_cases hc : c ∈ X.fs
    · obtain ⟨sl, q⟩ := slot c o (I.cne x c e) hc nch ho (I.freeC x c e)
      exact ⟨_, q, hd⟩
    · exact ⟨o, keep c o (I.cne x c e) hc nch ho (I.freeC x c e), hd⟩
  refine ⟨I.ok, I.os, hg, ⟨fun b o e n hb hx => ?_, fun b o e n hb hx => ?_, fun b o e n hx => ?_, fun b o e hx => ?_, fun b xs e => tups b xs (I.base.tups b xs e), fun b o xs e => frzs b o xs (I.base.frzs b o xs e), fun b ps e => ?_⟩, ?_, fun x c e => ?_, ?_, fun x c e => ?_, fun p hp => ?_, hok, I.len⟩
  · exact keep b o (neL b o e) hb (neC b o e hx) (I.base.keep b o e n hb hx) (I.base.free b o e n hx)
  · obtain ⟨sl, e1⟩ := I.base.slot b o e n hb hx
    obtain ⟨sl', e2⟩ := slot b _ (neL b o e) hb (neC b o e hx) e1 (I.base.free b o e n hx)
    exact ⟨sl', e2⟩
  · obtain ⟨o', e1⟩ := I.base.there b o e hx
    exact free b o' (neC b o e hx) e1 (I.base.free b o e n hx)
  · obtain ⟨o', e1⟩ := I.base.there b o e hx
    exact there b o' (neC b o e hx) e1
  · obtain ⟨m1, e1⟩ := I.base.tbls b ps e
    obtain ⟨m2, e2⟩ := tbls b _ e1
    exact ⟨m1 ++ m2, by rw [e2, Array.append_assoc]⟩
  · obtain ⟨m, hn, hl⟩ := I.loc
    refine ⟨m, ns m hn, fun i x v e1 e2 e3 => ?_⟩
    obtain ⟨u, r, l⟩ := hl i x v e1 e2 e3
    refine ⟨u, r, ?_⟩
    rcases l with l | ⟨k, c, e, z⟩
    · exact .inl l
    · exact .inr ⟨k, c, e, cellK x c e _ z⟩
  · obtain ⟨v, z⟩ := I.cell x c e
    exact ⟨v, cellK x c e v z⟩
  · obtain ⟨m, ⟨o, _, _, ho, _⟩, _⟩ := I.loc
    exact free _ o (fun z => (hch _ z).2.1 rfl) ho I.free
  · obtain ⟨v, o, ho, hd⟩ := I.cell x c e
    exact free c o (fun z => (hch c z).2.2.1 x c e rfl) ho (I.freeC x c e)
  · obtain ⟨e, n, ne, nf, d⟩ := I.pin p hp
    have nch : p.1 ∉ ch := fun z => (hch p.1 z).2.2.2 p hp rfl
    exact ⟨keep p.1 p.2 ne nf nch e n, free p.1 p.2 nch e n, ne, nf, d⟩
/-- .. where the frame's own object is kept too -/
theorem Inv.un {t' : Nat} (I : Inv X pins σ H s) (u : Un X.fs [] H H' s.heap h') (hok : HOk X.prog X.w H' h') : Inv X pins σ H' { s with heap := h', toks := t' } := by
  obtain ⟨m, ⟨o, es, ep, ho, r⟩, _⟩ := id I.loc
  obtain ⟨sl, hL⟩ := u.any ho I.free (by simp)
  exact I.step (g' := s.gens) (d' := s.drawn) (ch := []) (fun _ z => nomatch z) (fun b o _ hb _ e n => u.keep b o e n hb (by simp)) (fun b o _ hb _ e n => u.slot b o e n hb (by simp)) (fun b o _ e n => u.free b o e n (by simp)) (fun b o _ e => u.there b o e (by simp)) u.tups u.frzs u.tbls (fun m' hm => by
    obtain ⟨o', es', ep', ho', r'⟩ := hm
    rw [ho] at ho'; cases ho'
    exact ⟨_, es', ep', hL, r'⟩) hok I.bare
/-- behind a call (or a comprehension's block): the slots of this frame may have changed too, the records at ch may have turned -/
theorem Inv.call {g' : Array GenState} {t' : Nat} {d' : Drawn} {ch : List Addr} (I : Inv X pins σ H s) (u : Un (frs X.stack) ch H H' s.heap h') (hok : HOk X.prog X.w H' h') (hg : AllBare g')
    (hch : ∀ b ∈ ch, (b ∈ X.ex ∨ X.s₀.heap.objs.size ≤ b) ∧ b ≠ X.env.locals ∧ (∀ x c, X.env.cells.lookup x = some c → c ≠ b) ∧ ∀ p ∈ X.pn ++ pins, p.1 ≠ b) :
    Inv X pins σ H' { s with heap := h', gens := g', drawn := d', toks := t' } := by
  obtain ⟨m, ⟨o, es, ep, ho, r⟩, _⟩ := id I.loc
  obtain ⟨sl, hL⟩ := u.any ho I.free fun z => (hch _ z).2.1 rfl
  exact I.step (ch := ch) hch (fun b o hL hb hc e n => u.keep b o e n (fun z => (List.mem_cons.mp (I.stkSub b z)).elim hL hb) hc) (fun b o _ _ hc e n => u.any e n hc) (fun b o hc e n => u.free b o e n hc) (fun b o hc e => u.there b o e hc) u.tups u.frzs u.tbls (fun m' hm => by
    obtain ⟨o', es', ep', ho', r'⟩ := hm
    rw [ho] at ho'; cases ho'
    exact ⟨_, es', ep', hL, r'⟩) hok hg
/-- an untracked record of ours (an iterator) has turned -/
theorem Inv.turned {t' : Nat} {it : Addr} (I : Inv X pins σ H s) (k : ∀ b o, b ≠ it → s.heap.get? b = some o → h'.get? b = some o) (hn : H it = none) (hL : it ≠ X.env.locals)
    (h1 : it ∈ X.ex ∨ X.s₀.heap.objs.size ≤ it) (h2 : ∀ x c, X.env.cells.lookup x = some c → c ≠ it) (h3 : ∀ p ∈ X.pn ++ pins, p.1 ≠ it) : Inv X pins σ H { s with heap := h', toks := t' } := by
  have nit : ∀ b u, H b = some u → b ≠ it := fun b u e z => by rw [z, hn] at e; cases e
  refine I.step (g' := s.gens) (d' := s.drawn) (ch := [it]) (fun b hb => ?_) (fun b o _ _ hc e _ => k b o (fun z => hc (by simp [z])) e) (fun b o _ _ hc e _ => ⟨o.slots, k b o (fun z => hc (by simp [z])) e⟩) (fun _ _ _ _ n => n)
    (fun b o hc e => ⟨o, k b o (fun z => hc (by simp [z])) e⟩) (fun _ _ e => e) (fun _ _ _ e => e) (fun b ps e => ⟨#[], by rw [e]; simp⟩) (fun m hm => ?_) (fun b u e => ?_) I.bare
  · have e : b = it := by simpa using hb
    subst e
    exact ⟨h1, hL, h2, h3⟩
  · obtain ⟨o, es, ep, ho, r⟩ := hm
    exact ⟨o, es, ep, k _ o (Ne.symm hL) ho, r⟩
  · refine (I.hok b u e).stay (fun c v hc q => k c v ?_ q) (fun _ q => q) fun _ _ q => q
    rcases hc with z | z
    · rw [z]; exact nit b u e
    · exact nit c _ z
theorem Inv.tok (I : Inv X pins σ H s) (t : Nat) : Inv X pins σ H { s with toks := t } := I.un (h' := s.heap) (t' := t) Un.refl I.hok
/-- all objects kept -/
theorem Inv.kept {t' : Nat} (I : Inv X pins σ H s) (k : ∀ b u, s.heap.get? b = some u → h'.get? b = some u) : Inv X pins σ H { s with heap := h', toks := t' } := I.un (Un.kept k) (I.hok.kept k)
/-- a new object laid and tracked -/
theorem Inv.laid {a : Addr} {o : HO} {t' : Nat} (I : Inv X pins σ H s) (k : ∀ b u, s.heap.get? b = some u → h'.get? b = some u) (hp : s.heap.objs.size ≤ a) (new : ObjOk X.prog X.w (upd H a o) h' a o) :
    Inv X pins σ (upd H a o) { s with heap := h', toks := t' } := I.un (Un.laid k hp (I.hok.fresh hp)) (I.hok.laid k hp new)
/-- an object written -/
theorem Inv.write {x e : Addr} {o : HO} {t' : Nat} (I : Inv X pins σ H s) (mu : Mut (H x)) (he : e = x ∨ H e = some (.own x)) (k : ∀ b u, b ≠ e → s.heap.get? b = some u → h'.get? b = some u) (heo : ∃ u, h'.get? e = some u)
    (new : ObjOk X.prog X.w (upd H x o) h' x o) : Inv X pins σ (upd H x o) { s with heap := h', toks := t' } := I.un (Un.write mu he k heo) (I.hok.write mu he k heo new)
/-- forgetting slots, pins -/
theorem Inv.weak {σ' : List (Option V)} (I : Inv X pins σ H s) (hl : σ'.length = σ.length) (w : ∀ (i : Nat) v, σ'[i]? = some (some v) → σ[i]? = some (some v)) : Inv X pins σ' H s :=
  ⟨I.ok, I.os, I.bare, I.base, let ⟨m, hn, hl'⟩ := I.loc; ⟨m, hn, fun i x v e1 e2 e3 => hl' i x v e1 (w i v e2) e3⟩, I.cell, I.free, I.freeC, I.pin, I.hok, hl.trans I.len⟩
theorem Inv.pins_of {pins' : List (Addr × Obj)} (I : Inv X pins σ H s) (h : ∀ p ∈ pins', s.heap.get? p.1 = some p.2 ∧ H p.1 = none ∧ p.1 ≠ X.env.locals ∧ p.1 ∉ X.fs ∧ ∀ v, p.2.data ≠ .cell v) : Inv X pins' σ H s :=
  ⟨I.ok, I.os, I.bare, I.base, I.loc, I.cell, I.free, I.freeC, fun p hp => (List.mem_append.mp hp).elim (fun z => I.pin p (List.mem_append_left _ z)) (h p), I.hok, I.len⟩

theorem nodup_ix {N : List Str} (hN : N.Nodup) {i j : Nat} {x : Str} (a : N[i]? = some x) (b : N[j]? = some x) : i = j := by
  obtain ⟨h1, e1⟩ := List.getElem?_eq_some_iff.mp a
  obtain ⟨h2, e2⟩ := List.getElem?_eq_some_iff.mp b
  exact (List.getElem_inj hN).mp (e1.trans e2.symm)

/-- a name is stored; what changed -/
theorem store_ok2 {M : Model} {A : Around} {E : Value → Shared → Prop} {i : Nat} {x : Str} {v : V} {u : Value} {Q : Unit → Shared → Prop} (I : Inv X pins σ H s) (hN : X.N.Nodup) (hi : X.N[i]? = some x) (hx : Loc X.env.scope x) (r : RelV v u)
    (h : ∀ s', Inv X pins (σ.set i (some v)) H s' → (∃ a, Heap.SameBut a s.heap s'.heap ∧ (a = X.env.locals ∨ X.env.cells.lookup x = some a)) → Q () s') (hf : X.fn x = true ∨ X.env.scope.names.lookup x = some .local := by first | exact .inl rfl | exact .inr rfl | assumption) : wpAny M A (storeName X.env x u) Q E s := by
  obtain ⟨m, hn, hl⟩ := id I.loc
  have hcls : (X.env.scope.kind == .class || (X.env.scope.kind == .module && X.env.locals != X.env.globals)) = false := by rw [I.ok.kind]; rfl
  have hiσ : i < σ.length := by rw [I.len]; exact (List.getElem?_eq_some_iff.mp hi).1
  have cne := I.cne
  have tracked : ∀ {a : Addr} {h' : Heap}, (∃ o, s.heap.get? a = some o ∧ H a = none) → Heap.SameBut a s.heap h' → HOk X.prog X.w H h' := fun {a h'} ha hs b ob e => by
    obtain ⟨_, _, hfree⟩ := ha
    refine (I.hok b ob e).stay (fun c w' hc q => (hs.2 c ?_).trans q) (fun _ q => q) fun _ _ q => q
    rintro rfl
    rcases hc with rfl | hc
    · rw [hfree] at e; cases e
    · rw [hfree] at hc; cases hc
  rcases hx with hk | hk
  · refine wpAny_storeName_local hk hn (fun h' hn' hs => ?_) hcls
    obtain ⟨oL, _, _, hoL, _⟩ := id hn
    refine h _ ⟨I.ok, I.os, I.bare, ⟨fun b o e n hb hx => ?_, fun b o e n hb hx => ?_, I.base.free, fun b o e hx => ?_, I.base.tups, I.base.frzs, I.base.tbls⟩, ⟨_, hn', fun j y v' e1 e2 e3 => ?_⟩, fun y c e => ?_, I.free, I.freeC, fun p hp => ?_, tracked ⟨oL, hoL, I.free⟩ hs, by simpa using I.len⟩ ⟨_, hs, .inl rfl⟩
    · exact (hs.2 b (Nat.ne_of_lt (Nat.lt_of_lt_of_le (Heap.lt_size e) I.ok.above))).trans (I.base.keep b o e n hb hx)
    · obtain ⟨sl, e1⟩ := I.base.slot b o e n hb hx
      exact ⟨sl, (hs.2 b (Nat.ne_of_lt (Nat.lt_of_lt_of_le (Heap.lt_size e) I.ok.above))).trans e1⟩
    · obtain ⟨o', e1⟩ := I.base.there b o e hx
      exact ⟨o', (hs.2 b (Nat.ne_of_lt (Nat.lt_of_lt_of_le (Heap.lt_size e) I.ok.above))).trans e1⟩
    · by_cases hj : j = i
      · subst hj
        rw [hi] at e1; cases e1
        rw [List.getElem?_set_self hiσ] at e2
        cases e2
        exact ⟨u, r, .inl ⟨hk, by simp⟩⟩
      · rw [List.getElem?_set_ne (Ne.symm hj)] at e2
        obtain ⟨u', r', q⟩ := hl j y v' e1 e2 e3
        refine ⟨u', r', ?_⟩
        rcases q with ⟨k, e⟩ | ⟨k, c, e, z⟩
        · refine .inl ⟨k, ?_⟩
          have : y ≠ x := fun e => hj (nodup_ix hN e1 (e ▸ hi))
          simp [this, e]
        · exact .inr ⟨k, c, e, z.sameBut hs (cne y c e)⟩
    · obtain ⟨w', z⟩ := I.cell y c e
      exact ⟨w', z.sameBut hs (cne y c e)⟩
    · obtain ⟨e, n, ne, nf, d⟩ := I.pin p hp
      exact ⟨(hs.2 p.1 ne).trans e, n, ne, nf, d⟩
  · have hfn : X.fn x = true := by
      rcases hf with z | z
      · exact z
      · rw [z] at hk; cases hk
    obtain ⟨c, hc⟩ := I.ok.has x (.inl hk)
    obtain ⟨w', z⟩ := I.cell x c hc
    refine wpAny_storeName_cell I.ok.kind hk hc z (fun h' hc' hs => ?_)
    obtain ⟨oc, hoc, hocd⟩ := id z
    refine h { s with heap := h' } ⟨I.ok, I.os, I.bare, ⟨fun b o e n hb hx => ?_, fun b o e n hb hx => ?_, I.base.free, fun b o e hx => ?_, I.base.tups, I.base.frzs, I.base.tbls⟩, ⟨m, hn.sameBut hs (Ne.symm (cne x c hc)), fun j y v' e1 e2 e3 => ?_⟩, fun y c' e => ?_, I.free, I.freeC, fun p hp => ?_, tracked ⟨oc, hoc, I.freeC x c hc⟩ hs, by simpa using I.len⟩ ⟨c, hs, .inr hc⟩
    · exact (hs.2 b (Nat.ne_of_lt (Nat.lt_of_lt_of_le (Heap.lt_size e) (I.ok.cab x c hfn hc)))).trans (I.base.keep b o e n hb hx)
    · obtain ⟨sl, e1⟩ := I.base.slot b o e n hb hx
      exact ⟨sl, (hs.2 b (Nat.ne_of_lt (Nat.lt_of_lt_of_le (Heap.lt_size e) (I.ok.cab x c hfn hc)))).trans e1⟩
    · obtain ⟨o', e1⟩ := I.base.there b o e hx
      exact ⟨o', (hs.2 b (Nat.ne_of_lt (Nat.lt_of_lt_of_le (Heap.lt_size e) (I.ok.cab x c hfn hc)))).trans e1⟩
    · by_cases hj : j = i
      · subst hj
        rw [hi] at e1; cases e1
        rw [List.getElem?_set_self hiσ] at e2
        cases e2
        exact ⟨u, r, .inr ⟨.inl hk, c, hc, hc'⟩⟩
      · rw [List.getElem?_set_ne (Ne.symm hj)] at e2
        obtain ⟨u', r', q⟩ := hl j y v' e1 e2 e3
        refine ⟨u', r', ?_⟩
        rcases q with q | ⟨k, c', e, z'⟩
        · exact .inl q
        · refine .inr ⟨k, c', e, z'.sameBut hs ?_⟩
          rintro rfl
          exact hj (nodup_ix hN e1 (I.ok.inj _ _ _ e hc ▸ hi))
    · by_cases hcc : c' = c
      · subst hcc; exact ⟨_, hc'⟩
      · obtain ⟨w2, z2⟩ := I.cell y c' e
        exact ⟨w2, z2.sameBut hs hcc⟩
    · obtain ⟨e, n, ne, nf, d⟩ := I.pin p hp
      refine ⟨(hs.2 p.1 ?_).trans e, n, ne, nf, d⟩
      intro q
      rw [q, hoc] at e
      have q' : oc = p.2 := Option.some.inj e
      exact d w' (by rw [← q']; exact hocd)
theorem store_ok {M : Model} {A : Around} {E : Value → Shared → Prop} {i : Nat} {x : Str} {v : V} {u : Value} {Q : Unit → Shared → Prop} (I : Inv X pins σ H s) (hN : X.N.Nodup) (hi : X.N[i]? = some x) (hx : Loc X.env.scope x) (r : RelV v u)
    (h : ∀ s', Inv X pins (σ.set i (some v)) H s' → Q () s') (hf : X.fn x = true ∨ X.env.scope.names.lookup x = some .local := by first | exact .inl rfl | exact .inr rfl | assumption) : wpAny M A (storeName X.env x u) Q E s :=
  store_ok2 I hN hi hx r (fun s' I' _ => h s' I') hf
/-- behind a call or a block, the state as it is -/
theorem Inv.call' {s' : Shared} {ch : List Addr} (I : Inv X pins σ H s) (ho : s'.os = s.os) (u : Un (frs X.stack) ch H H' s.heap s'.heap) (hok : HOk X.prog X.w H' s'.heap) (hg : AllBare s'.gens)
    (hch : ∀ b ∈ ch, (b ∈ X.ex ∨ X.s₀.heap.objs.size ≤ b) ∧ b ≠ X.env.locals ∧ (∀ x c, X.env.cells.lookup x = some c → c ≠ b) ∧ ∀ p ∈ X.pn ++ pins, p.1 ≠ b) : Inv X pins σ H' s' := by
  obtain ⟨h', g', d', t', o'⟩ := s'
  have e : o' = s.os := ho
  subst e
  exact I.call (g' := g') (t' := t') (d' := d') u hok hg hch
end

/-! ### the judgements -/
/-- an exception: its class, its own dict's address (where it has one), the abstract heap behind it -/
abbrev XK := Value → Option Addr → Hp → Prop
abbrev St := List (Option V)
abbrev VK := V → Hp → Prop
/-- an expression's reading; a test's; an argument list's -/
abbrev TE := St → Hp → VK → Prop
abbrev TT := St → Hp → (Bool → Hp → Prop) → Prop
abbrev TA := St → Hp → (List V → Hp → Prop) → Prop
/-- what is wanted behind a statement -/
structure Ends where
  nx : St → Hp → Prop
  rt : VK
  bk : St → Hp → Prop := fun _ _ => False
  ct : St → Hp → Prop := fun _ _ => False
abbrev TS := Ends → St → Hp → Prop

def EP (X : Cx) (pins : List (Addr × Obj)) (σ : St) (Q : VK) (u : Value) (s' : Shared) : Prop := ∃ v H', Inv X pins σ H' s' ∧ RelV v u ∧ Q v H'
def TP (X : Cx) (pins : List (Addr × Obj)) (σ : St) (Q : Bool → Hp → Prop) (b : Bool) (s' : Shared) : Prop := ∃ H', Inv X pins σ H' s' ∧ Q b H'
def AP (X : Cx) (pins : List (Addr × Obj)) (σ : St) (Q : List V → Hp → Prop) (us : List Value) (s' : Shared) : Prop := ∃ vs H', Inv X pins σ H' s' ∧ Vals vs us ∧ Q vs H'
def SP (X : Cx) (pins : List (Addr × Obj)) (D : Ends) (f : Flow) (s' : Shared) : Prop :=
  match f with
  | .next => ∃ σ' H', Inv X pins σ' H' s' ∧ D.nx σ' H'
  | .brk => ∃ σ' H', Inv X pins σ' H' s' ∧ D.bk σ' H'
  | .cont => ∃ σ' H', Inv X pins σ' H' s' ∧ D.ct σ' H'
  | .ret u => ∃ v σ' H', Inv X pins σ' H' s' ∧ RelV v u ∧ D.rt v H'

def PE (X : Cx) (e : Expr) (t : TE) : Prop :=
  ∀ (pins : List (Addr × Obj)) (s : Shared) (σ : St) (H : Hp) (Q : VK), Inv X pins σ H s → t σ H Q → wpAny (model X.prog X.w) X.A (eval e X.env) (EP X pins σ Q) X.xe s
def PT (X : Cx) (e : Expr) (t : TT) : Prop :=
  ∀ (pins : List (Addr × Obj)) (s : Shared) (σ : St) (H : Hp) (Q : Bool → Hp → Prop), Inv X pins σ H s → t σ H Q → wpAny (model X.prog X.w) X.A (isTrue e X.env (eval e X.env)) (TP X pins σ Q) X.xe s
/-- a test whatever its 'whole' is (and, or) -/
def PW (X : Cx) (e : Expr) (t : TT) : Prop :=
  ∀ (whole : Sem Value) (pins : List (Addr × Obj)) (s : Shared) (σ : St) (H : Hp) (Q : Bool → Hp → Prop), Inv X pins σ H s → t σ H Q → wpAny (model X.prog X.w) X.A (isTrue e X.env whole) (TP X pins σ Q) X.xe s
theorem PW.pt {X : Cx} {e : Expr} {t : TT} (h : PW X e t) : PT X e t := h _
/-- an argument list (no star), from the left -/
def PA (X : Cx) (es : List Expr) (t : TA) : Prop :=
  ∀ (pos : Pos) (pins : List (Addr × Obj)) (s : Shared) (σ : St) (H : Hp) (Q : List V → Hp → Prop), Inv X pins σ H s → t σ H Q → wpAny (model X.prog X.w) X.A (spliced (backTo pos (starEach es X.env))) (AP X pins σ Q) X.xe s
def PS (X : Cx) (st : Stmt) (t : TS) : Prop :=
  ∀ (pins : List (Addr × Obj)) (s : Shared) (σ : St) (H : Hp) (D : Ends), Inv X pins σ H s → t D σ H → wpAny (model X.prog X.w) X.A (exec st X.env) (SP X pins D) X.xe s
def PSs (X : Cx) (st : List Stmt) (t : TS) : Prop :=
  ∀ (pins : List (Addr × Obj)) (s : Shared) (σ : St) (H : Hp) (D : Ends), Inv X pins σ H s → t D σ H → wpAny (model X.prog X.w) X.A (execs st X.env) (SP X pins D) X.xe s
/-- weaken the end -/
theorem thn {α : Type} {t : Sem α} {Q Q' : α → Shared → Prop} {M : Model} {A : Around} {E : Value → Shared → Prop} {s : Shared} (h : wpAny M A t Q E s) (hQ : ∀ a s, Q a s → Q' a s) : wpAny M A t Q' E s := wpAny_mono h hQ fun _ _ x => x
end L2

namespace L2
open PySem PySem.Spec PyProof.Rows
section
variable {X : Cx}

/-- two expressions in a row -/
theorem bin {a b : Expr} {ta tb : TE} (ha : PE X a ta) (hb : PE X b tb) {pins : List (Addr × Obj)} {s : Shared} {σ : St} {H : Hp} {R : V → V → Hp → Prop} (I : Inv X pins σ H s) (h : ta σ H fun x H1 => tb σ H1 fun y H2 => R x y H2)
    {α : Type} {Q : α → Shared → Prop} {f : Value → Value → Sem α}
    (hf : ∀ v u s2 x y H2, Inv X pins σ H2 s2 → RelV x v → RelV y u → R x y H2 → wpAny (model X.prog X.w) X.A (f v u) Q X.xe s2) :
    wpAny (model X.prog X.w) X.A (eval a X.env) (fun v s₁ => wpAny (model X.prog X.w) X.A (eval b X.env) (fun u s₂ => wpAny (model X.prog X.w) X.A (f v u) Q X.xe s₂) X.xe s₁) X.xe s := by
  refine thn (ha pins s σ H _ I h) fun v s1 ⟨x, H1, I1, r1, q1⟩ => ?_
  refine thn (hb pins s1 σ H1 _ I1 q1) fun u s2 ⟨y, H2, I2, r2, q2⟩ => ?_
  exact hf v u s2 x y H2 I2 r1 r2 q2

/-! ### names and constants -/
def tVar (i : Nat) : TE := fun σ H Q => ∃ v, σ[i]? = some (some v) ∧ Q v H
def tC (v : V) : TE := fun _ H Q => Q v H
theorem pe_var {i : Nat} {x : Str} {pos : Pos} (hN : X.N[i]? = some x) (hv : Vis X.env.scope x) (hd : (x == ("__debug__" : Str)) = false := by decide) (hcd : (x == ("__classdict__" : Str)) = false := by decide) : PE X (.Name x pos) (tVar i) := by
  intro pins s σ H Q I h
  obtain ⟨v, e, h⟩ := h
  obtain ⟨m, hn, hl⟩ := I.loc
  obtain ⟨u, r, l⟩ := hl i x v hN e hv
  have fin : EP X pins σ Q u s := ⟨v, H, I, r, h⟩
  rcases l with ⟨hk, hm⟩ | ⟨hk, c, hc, hcell⟩
  · exact wpAny_Name (wpAny_loadName_local I.ok.kind hk hn hm fin) hd
  · rcases hk with hk | hk
    · exact wpAny_Name (wpAny_loadName_cell I.ok.kind hk hc hcell fin) hd
    · exact wpAny_Name (wpAny_loadName_free I.ok.kind hk hc hcell fin hcd) hd
theorem pe_int {i j pos} : PE X (.Constant (.int i) j pos) (tC (.int i)) := fun _ _ _ H _ I h => wpAny_Constant_int ⟨.int i, H, I.tok _, ⟨_, rfl⟩, h⟩
theorem pe_bl {b j pos} : PE X (.Constant (.bool b) j pos) (tC (.bl b)) := fun _ _ _ H _ I h => Constant_bool ⟨.bl b, H, I, rfl, h⟩
theorem pe_non {j pos} : PE X (.Constant .none j pos) (tC .non) := fun _ _ _ H _ I h => Constant_none ⟨.non, H, I, rfl, h⟩
theorem pe_str {x j pos} : PE X (.Constant (.str x) j pos) (tC (.str x)) := fun _ _ _ H _ I h => Calls.Constant_str ⟨.str x, H, I.tok _, ⟨_, rfl⟩, h⟩

/-- a global name of the def -/
def Gl (X : Cx) (x : Str) : Prop := X.env.kindOf x = some .globalImplicit
theorem ld_glob {E : Value → Shared → Prop} {pins : List (Addr × Obj)} {s : Shared} {σ : St} {H : Hp} {x : Str} {u : Value} {pos : Pos} {Q : Value → Shared → Prop} (I : Inv X pins σ H s) (hg : Gl X x) (hm : X.mg x = some u) (h : Q u s)
    (hd : (x == ("__debug__" : Str)) = false := by decide) : wpAny (model X.prog X.w) X.A (eval (.Name x pos) X.env) Q E s :=
  Calls.Name_function_global I.ok.kind hg (Calls.loadGlobal_global (by rw [I.ok.glob]; exact I.mod.glob.keeps I.bk) hm h) hd
theorem ld_blt {E : Value → Shared → Prop} {pins : List (Addr × Obj)} {s : Shared} {σ : St} {H : Hp} {x : Str} {u : Value} {pos : Pos} {Q : Value → Shared → Prop} (I : Inv X pins σ H s) (hg : Gl X x) (hm : X.mg x = none) (hv : bootBuiltins x = some u) (h : Q u s)
    (hn : x ≠ "__name__" := by decide) (hd : (x == ("__debug__" : Str)) = false := by decide) : wpAny (model X.prog X.w) X.A (eval (.Name x pos) X.env) Q E s := by
  obtain ⟨mb, h1, h2⟩ := I.mod.blt
  exact Calls.Name_function_global I.ok.kind hg (Calls.loadGlobal_builtin (by rw [I.ok.glob]; exact I.mod.glob.keeps I.bk) hm (by rw [I.ok.blt]; exact h1.keeps I.bk) ((h2 x hn).trans hv) h) hd
/-- a module's constant, a class, a function, as a value -/
theorem pe_glob {x : Str} {v : V} {u : Value} {pos : Pos} (hg : Gl X x) (hm : X.mg x = some u) (r : RelV v u) (hd : (x == ("__debug__" : Str)) = false := by decide) : PE X (.Name x pos) (tC v) :=
  fun _ _ _ H _ I h => ld_glob I hg hm ⟨v, H, I, r, h⟩ hd
theorem pe_bltn {x : Str} {v : V} {u : Value} {pos : Pos} (hg : Gl X x) (hm : X.mg x = none) (hv : bootBuiltins x = some u) (r : RelV v u) (hn : x ≠ "__name__" := by decide) (hd : (x == ("__debug__" : Str)) = false := by decide) : PE X (.Name x pos) (tC v) :=
  fun _ _ _ H _ I h => ld_blt I hg hm hv ⟨v, H, I, r, h⟩ hn hd

/-! ### arithmetic -/
/-- two ints -/
def t2I (ta tb : TE) (k : Int → Int → Hp → Prop) : St → Hp → Prop := fun σ H => ta σ H fun x H1 => tb σ H1 fun y H2 => ∃ i j, x = .int i ∧ y = .int j ∧ k i j H2
def tAdd (ta tb : TE) : TE := fun σ H Q => t2I ta tb (fun i j H2 => Q (.int (i + j)) H2) σ H
def tSub (ta tb : TE) : TE := fun σ H Q => t2I ta tb (fun i j H2 => Q (.int (i - j)) H2) σ H
/-- the left factor below 2^64 -/
def tMul (ta tb : TE) : TE := fun σ H Q => t2I ta tb (fun i j H2 => (-(2 ^ 64) < i ∧ i < 2 ^ 64) ∧ Q (.int (i * j)) H2) σ H
variable {a b : Expr} {ta tb : TE} {pos : Pos}
theorem pe_add (ha : PE X a ta) (hb : PE X b tb) : PE X (.BinOp a .Add b pos) (tAdd ta tb) := by
  intro pins s σ H Q I h
  refine wpAny_BinOp (bin ha hb I h fun v u s2 x y H2 I2 rx ry q => ?_)
  obtain ⟨i, j, rfl, rfl, q⟩ := q
  obtain ⟨t, rfl⟩ := rx
  obtain ⟨t', rfl⟩ := ry
  exact add_int ⟨.int _, H2, I2.tok _, ⟨_, rfl⟩, q⟩
theorem pe_sub (ha : PE X a ta) (hb : PE X b tb) : PE X (.BinOp a .Sub b pos) (tSub ta tb) := by
  intro pins s σ H Q I h
  refine wpAny_BinOp (bin ha hb I h fun v u s2 x y H2 I2 rx ry q => ?_)
  obtain ⟨i, j, rfl, rfl, q⟩ := q
  obtain ⟨t, rfl⟩ := rx
  obtain ⟨t', rfl⟩ := ry
  exact sub_int ⟨.int _, H2, I2.tok _, ⟨_, rfl⟩, q⟩
theorem pe_mul (ha : PE X a ta) (hb : PE X b tb) : PE X (.BinOp a .Mult b pos) (tMul ta tb) := by
  intro pins s σ H Q I h
  refine wpAny_BinOp (bin ha hb I h fun v u s2 x y H2 I2 rx ry q => ?_)
  obtain ⟨i, j, rfl, rfl, ⟨q1, q2⟩, q⟩ := q
  obtain ⟨t, rfl⟩ := rx
  obtain ⟨t', rfl⟩ := ry
  exact mul_int ⟨.int _, H2, I2.tok _, ⟨_, rfl⟩, q⟩ (.of_left (intBits_le_64 q1 q2))

/-! ### comparisons -/
def PC (X : Cx) (op : CmpOp) (a b : Expr) (t : TE) : Prop :=
  ∀ (pins : List (Addr × Obj)) (s : Shared) (σ : St) (H : Hp) (Q : VK), Inv X pins σ H s → t σ H Q →
    wpAny (model X.prog X.w) X.A (eval a X.env) (fun v s₁ => wpAny (model X.prog X.w) X.A (eval b X.env) (fun u s₂ => wpAny (model X.prog X.w) X.A (compareOp op v u) (EP X pins σ Q) X.xe s₂) X.xe s₁) X.xe s
theorem nobehind (b : Expr) {op : CmpOp} (h : op ≠ .In) (h2 : op ≠ .NotIn) : behindInMarks op b = false := by
  have e1 : (op == CmpOp.In) = false := by cases op <;> first | rfl | exact absurd rfl h
  have e2 : (op == CmpOp.NotIn) = false := by cases op <;> first | rfl | exact absurd rfl h2
  cases b <;> simp [behindInMarks, e1, e2]
def tCmp (p : Int → Int → Bool) (ta tb : TE) : TE := fun σ H Q => t2I ta tb (fun i j H2 => Q (.bl (p i j)) H2) σ H
abbrev tLt : TE → TE → TE := tCmp fun i j => decide (i < j)
abbrev tLe : TE → TE → TE := tCmp fun i j => decide (i ≤ j)
abbrev tGt : TE → TE → TE := tCmp fun i j => decide (j < i)
abbrev tGe : TE → TE → TE := tCmp fun i j => decide (j ≤ i)
abbrev tEqI : TE → TE → TE := tCmp fun i j => decide (i = j)
abbrev tNeI : TE → TE → TE := tCmp fun i j => !decide (i = j)
/-- a comparison of two ints, by its rule -/
theorem pc_int {op : CmpOp} {p : Int → Int → Bool} (ha : PE X a ta) (hb : PE X b tb)
    (rule : ∀ (i j : Int) (t u : Tok) (Q : Value → Shared → Prop) (s : Shared), Q (.bool (p i j)) s → wpAny (model X.prog X.w) X.A (compareOp op (.int i t) (.int j u)) Q X.xe s) : PC X op a b (tCmp p ta tb) := by
  intro pins s σ H Q I h
  refine bin ha hb I h fun v u s2 x y H2 I2 rx ry q => ?_
  obtain ⟨i, j, rfl, rfl, q⟩ := q
  obtain ⟨t, rfl⟩ := rx
  obtain ⟨t', rfl⟩ := ry
  exact rule i j t t' _ s2 ⟨.bl _, H2, I2, rfl, q⟩
theorem pc_lt (ha : PE X a ta) (hb : PE X b tb) : PC X .Lt a b (tLt ta tb) := pc_int ha hb fun _ _ _ _ _ _ h => lt_int h
theorem pc_le (ha : PE X a ta) (hb : PE X b tb) : PC X .LtE a b (tLe ta tb) := pc_int ha hb fun _ _ _ _ _ _ h => le_int h
theorem pc_gt (ha : PE X a ta) (hb : PE X b tb) : PC X .Gt a b (tGt ta tb) := pc_int ha hb fun _ _ _ _ _ _ h => gt_int h
theorem pc_ge (ha : PE X a ta) (hb : PE X b tb) : PC X .GtE a b (tGe ta tb) := pc_int ha hb fun _ _ _ _ _ _ h => ge_int h
theorem pc_eqI (ha : PE X a ta) (hb : PE X b tb) : PC X .Eq a b (tEqI ta tb) := pc_int ha hb fun _ _ _ _ _ _ h => eq_int (by rw [Bool.beq_eq_decide_eq]; exact h)
theorem pc_neI (ha : PE X a ta) (hb : PE X b tb) : PC X .NotEq a b (tNeI ta tb) := pc_int ha hb fun _ _ _ _ _ _ h => ne_int (by rw [bne, Bool.beq_eq_decide_eq]; exact h)
/-- is None -/
def tIsN (ta : TE) : TE := fun σ H Q => ta σ H fun x H1 => Q (.bl (decide (x = .non))) H1
def tNotN (ta : TE) : TE := fun σ H Q => ta σ H fun x H1 => Q (.bl (!decide (x = .non))) H1
theorem RelV.none_iff {x : V} {v : Value} (r : RelV x v) : (v == Value.none) = decide (x = .non) := by
  cases x with
  | non => cases r; rfl
  | bl _ => cases r; rfl
  | int _ => obtain ⟨t, rfl⟩ := r; rfl
  | str _ => obtain ⟨t, rfl⟩ := r; rfl
  | byt _ => obtain ⟨t, rfl⟩ := r; rfl
  | flt _ => obtain ⟨t, rfl⟩ := r; rfl
  | ref _ => cases r; rfl
  | ty _ => cases r; rfl
theorem pc_isN {j pos'} (ha : PE X a ta) : PC X .Is a (.Constant .none j pos') (tIsN ta) := by
  intro pins s σ H Q I h
  refine thn (ha pins s σ H _ I h) fun v s1 ⟨x, H1, I1, r1, q1⟩ => ?_
  exact Constant_none (is_none_gen ⟨.bl _, H1, I1, by rw [r1.none_iff]; rfl, q1⟩)
theorem pc_notN {j pos'} (ha : PE X a ta) : PC X .IsNot a (.Constant .none j pos') (tNotN ta) := by
  intro pins s σ H Q I h
  refine thn (ha pins s σ H _ I h) fun v s1 ⟨x, H1, I1, r1, q1⟩ => ?_
  exact Constant_none (isnot_none_gen ⟨.bl _, H1, I1, by rw [r1.none_iff]; rfl, q1⟩)
/-- a comparison as a value, as a test -/
def tB (t : TE) : TT := fun σ H Q => t σ H fun x H1 => ∃ c, x = .bl c ∧ Q c H1
theorem pe_cmp {op : CmpOp} {t : TE} (h : PC X op a b t) (h1 : behindInMarks op b = false := by first | exact nobehind _ (by decide) (by decide) | rfl) : PE X (.Compare a [op] [b] pos) t := fun pins s σ H Q I hw => wpAny_Compare1 (h pins s σ H Q I hw) h1
theorem pt_cmp {op : CmpOp} {t : TE} (h : PC X op a b t) (h1 : behindInMarks op b = false := by first | exact nobehind _ (by decide) (by decide) | rfl) : PT X (.Compare a [op] [b] pos) (tB t) := by
  intro pins s σ H Q I hw
  refine wpAny_isTrue_Compare1 (thn (h pins s σ H _ I hw) fun v s1 h1 => thn h1 fun u s2 h2 => thn h2 fun c s3 ⟨x, H1, I1, r1, q1⟩ => ?_) h1
  obtain ⟨d, rfl, q⟩ := q1
  cases r1
  exact wpAny_truthy_bool ⟨H1, I1, q⟩
/-- an expression whose value is a bool, as a test -/
theorem pt_val {e : Expr} {t : TE} (h : PE X e t) (he : ∀ whole, isTrue e X.env whole = (do let v ← whole; standAt e.pos; holding [v] (truthy v)) := by intro _; rfl) : PT X e (tB t) := by
  intro pins s σ H Q I hw
  refine isTrue_plain (thn (h pins s σ H _ I hw) fun v s1 ⟨x, H1, I1, r1, q1⟩ => ?_) (he _)
  obtain ⟨d, rfl, q⟩ := q1
  cases r1
  exact wpAny_truthy_bool ⟨H1, I1, q⟩

/-! ### and, or, not -/
variable {tA tB' : TT} {rest : List Expr}
def tAnd (t u : TT) : TT := fun σ H Q => t σ H fun c H1 => if c = true then u σ H1 Q else Q false H1
def tOr (t u : TT) : TT := fun σ H Q => t σ H fun c H1 => if c = true then Q true H1 else u σ H1 Q
def tNot (t : TT) : TT := fun σ H Q => t σ H fun c H1 => Q (!c) H1
theorem pw_and1 (ha : PT X a tA) : PW X (.BoolOp .And [a] pos) tA := by
  intro wh pins s σ H Q I h
  refine isTrue_and (thn (ha pins s σ H Q I h) fun c s1 e => ?_)
  cases c with
  | true => exact isTrue_and_nil e
  | false => exact e
theorem pw_or1 (ha : PT X a tA) : PW X (.BoolOp .Or [a] pos) tA := by
  intro wh pins s σ H Q I h
  refine isTrue_or (thn (ha pins s σ H Q I h) fun c s1 e => ?_)
  cases c with
  | false => exact isTrue_or_nil e
  | true => exact e
theorem pw_and (ha : PT X a tA) (hb : PW X (.BoolOp .And (b :: rest) pos) tB') : PW X (.BoolOp .And (a :: b :: rest) pos) (tAnd tA tB') := by
  intro wh pins s σ H Q I h
  refine isTrue_and (thn (ha pins s σ H _ I h) fun c s1 ⟨H1, I1, q1⟩ => ?_)
  cases c with
  | true => exact hb wh pins s1 σ H1 Q I1 q1
  | false => exact ⟨H1, I1, q1⟩
theorem pw_or (ha : PT X a tA) (hb : PW X (.BoolOp .Or (b :: rest) pos) tB') : PW X (.BoolOp .Or (a :: b :: rest) pos) (tOr tA tB') := by
  intro wh pins s σ H Q I h
  refine isTrue_or (thn (ha pins s σ H _ I h) fun c s1 ⟨H1, I1, q1⟩ => ?_)
  cases c with
  | true => exact ⟨H1, I1, q1⟩
  | false => exact hb wh pins s1 σ H1 Q I1 q1
theorem pt_not (ha : PT X a tA) : PT X (.UnaryOp .Not a pos) (tNot tA) := by
  intro pins s σ H Q I h
  exact isTrue_not (ha pins s σ H (fun c H1 => Q (!c) H1) I h)
/-- .. as values (bools) -/
def tAndV (ta tb : TE) : TE := fun σ H Q => ta σ H fun x H1 => ∃ c, x = .bl c ∧ if c = true then tb σ H1 Q else Q (.bl false) H1
def tOrV (ta tb : TE) : TE := fun σ H Q => ta σ H fun x H1 => ∃ c, x = .bl c ∧ if c = true then Q (.bl true) H1 else tb σ H1 Q
def tNotV (ta : TE) : TE := fun σ H Q => ta σ H fun x H1 => ∃ c, x = .bl c ∧ Q (.bl (!c)) H1
theorem pe_one {op} {t : TE} (h : PE X a t) : PE X (.BoolOp op [a] pos) t := fun pins s σ H Q I hw => BoolOp_one (h pins s σ H Q I hw)
theorem pe_and (ha : PE X a ta) (hb : PE X (.BoolOp .And (b :: rest) pos) tb) : PE X (.BoolOp .And (a :: b :: rest) pos) (tAndV ta tb) := by
  intro pins s σ H Q I h
  refine BoolOp_and (thn (ha pins s σ H _ I h) fun v s1 ⟨x, H1, I1, r1, q1⟩ => ?_)
  obtain ⟨c, rfl, q1⟩ := q1
  cases r1
  refine wpAny_truthy_bool ?_
  cases c with
  | true => exact hb pins s1 σ H1 Q I1 q1
  | false => exact ⟨.bl false, H1, I1, rfl, q1⟩
theorem pe_or (ha : PE X a ta) (hb : PE X (.BoolOp .Or (b :: rest) pos) tb) : PE X (.BoolOp .Or (a :: b :: rest) pos) (tOrV ta tb) := by
  intro pins s σ H Q I h
  refine BoolOp_or (thn (ha pins s σ H _ I h) fun v s1 ⟨x, H1, I1, r1, q1⟩ => ?_)
  obtain ⟨c, rfl, q1⟩ := q1
  cases r1
  refine wpAny_truthy_bool ?_
  cases c with
  | false => exact hb pins s1 σ H1 Q I1 q1
  | true => exact ⟨.bl true, H1, I1, rfl, q1⟩
theorem pe_not (ha : PE X a ta) : PE X (.UnaryOp .Not a pos) (tNotV ta) := by
  intro pins s σ H Q I h
  refine UnaryOp_ (thn (ha pins s σ H _ I h) fun v s1 ⟨x, H1, I1, r1, q1⟩ => ?_)
  obtain ⟨c, rfl, q1⟩ := q1
  cases r1
  exact not_of (wpAny_truthy_bool ⟨.bl (!c), H1, I1, rfl, q1⟩)
/-- a if t else b -/
def tIf (t : TT) (ta tb : TE) : TE := fun σ H Q => t σ H fun c H1 => if c = true then ta σ H1 Q else tb σ H1 Q
theorem pe_ifExp {c : Expr} (hc : PT X c tA) (ha : PE X a ta) (hb : PE X b tb) : PE X (.IfExp c a b pos) (tIf tA ta tb) := by
  intro pins s σ H Q I h
  refine wpAny_IfExp (thn (hc pins s σ H _ I h) fun d s1 ⟨H1, I1, q1⟩ => ?_)
  cases d with
  | true => exact ha pins s1 σ H1 Q I1 q1
  | false => exact hb pins s1 σ H1 Q I1 q1
end
end L2

namespace L2
open PySem PySem.Spec PyProof.Rows

/-! ### a list, a tuple that is read: tracked, frozen, or an object of the module -/
def SqL (K : PySem.W.Frag) (H : Hp) (a : Addr) (xs : List V) : Prop :=
  Rd H a (.lst xs) ∨
    ∃ (o : Obj) (its : Array Value) (n : Nat), K.lookup a = some o ∧ o.cls = .type "list" ∧ o.dict = none ∧ o.data = .seq its n ∧ its.size ≤ sizeLine ∧ Vals xs its.toList
def SqT (K : PySem.W.Frag) (H : Hp) (a : Addr) (xs : List V) : Prop :=
  Rd H a (.tup xs) ∨
    ∃ (o : Obj) (its : Array Value) (n : Nat), K.lookup a = some o ∧ o.cls = .type "tuple" ∧ o.data = .seq its n ∧ its.size ≤ sizeLine ∧ Vals xs its.toList
def absV : Value → Option V
  | .none => some .non
  | .bool b => some (.bl b)
  | .int i _ => some (.int i)
  | .str x _ => some (.str x)
  | .bytes b _ => some (.byt b)
  | .float b _ => some (.flt b)
  | .ref a => some (.ref a)
  | .type n => some (.ty n)
  | _ => none
theorem RelV.abs {x : V} {u : Value} (r : RelV x u) : absV u = some x := by
  cases x with
  | non => cases r; rfl
  | bl _ => cases r; rfl
  | int _ => obtain ⟨t, rfl⟩ := r; rfl
  | str _ => obtain ⟨t, rfl⟩ := r; rfl
  | byt _ => obtain ⟨t, rfl⟩ := r; rfl
  | flt _ => obtain ⟨t, rfl⟩ := r; rfl
  | ref _ => cases r; rfl
  | ty _ => cases r; rfl
theorem RelV.inj {x y : V} {u : Value} (r : RelV x u) (q : RelV y u) : x = y := Option.some.inj (r.abs.symm.trans q.abs)
theorem Vals.inj : ∀ {xs ys : List V} {us : List Value}, Vals xs us → Vals ys us → xs = ys
  | _, _, _, .nil, .nil => rfl
  | _, _, _, .cons r t, .cons r' t' => by rw [r.inj r', Vals.inj t t']
section
variable {X : Cx} {pins : List (Addr × Obj)} {σ : St} {H : Hp} {s : Shared} {a : Addr} {xs ys : List V}
theorem SqL.of {K : PySem.W.Frag} (h : H a = some (.lst xs)) : SqL K H a xs := .inl (.inl h)
theorem SqT.of {K : PySem.W.Frag} (h : H a = some (.tup xs)) : SqT K H a xs := .inl (.inl h)
theorem Inv.list (I : Inv X pins σ H s) (h : SqL X.K H a xs) : ∃ its : List Value, Vals xs its ∧ PlainL s.heap a its.toArray ∧ xs.length ≤ sizeLine := by
  rcases h with h | ⟨o, its, n, hk, hc, hd, hs, hz, r⟩
  · obtain ⟨z, its, n, r, e⟩ := h.ok I.hok
    exact ⟨its, r, ⟨_, n, e, rfl, rfl, rfl⟩, z⟩
  · refine ⟨its.toList, r, ⟨o, n, I.kIn a o hk, hc, hd, by simpa using hs⟩, ?_⟩
    have e := r.length
    simp only [Array.length_toList] at e
    omega
theorem Inv.tuple (I : Inv X pins σ H s) (h : SqT X.K H a xs) : ∃ its : List Value, Vals xs its ∧ IsTup s.heap a its.toArray ∧ xs.length ≤ sizeLine := by
  rcases h with h | ⟨o, its, n, hk, hc, hs, hz, r⟩
  · obtain ⟨z, its, r, p⟩ := h.ok I.hok
    exact ⟨its, r, p, z⟩
  · refine ⟨its.toList, r, ⟨o, I.kIn a o hk, hc, n, by simpa using hs⟩, ?_⟩
    have e := r.length
    simp only [Array.length_toList] at e
    omega
theorem Inv.list_inj (I : Inv X pins σ H s) (h : SqL X.K H a xs) (h' : SqL X.K H a ys) : xs = ys := by
  obtain ⟨its, r, ⟨o, n, e, _, _, d⟩, _⟩ := I.list h
  obtain ⟨its', r', ⟨o', n', e', _, _, d'⟩, _⟩ := I.list h'
  rw [e] at e'; cases e'
  rw [d] at d'
  injection d' with d1 _
  have : its = its' := by simpa using congrArg Array.toList d1
  subst this
  exact r.inj r'
theorem Inv.tuple_inj (I : Inv X pins σ H s) (h : SqT X.K H a xs) (h' : SqT X.K H a ys) : xs = ys := by
  obtain ⟨its, r, ⟨o, e, _, n, d⟩, _⟩ := I.tuple h
  obtain ⟨its', r', ⟨o', e', _, n', d'⟩, _⟩ := I.tuple h'
  rw [e] at e'; cases e'
  rw [d] at d'
  injection d' with d1 _
  have : its = its' := by simpa using congrArg Array.toList d1
  subst this
  exact r.inj r'
end

/-! ### another wish about exceptions -/
abbrev Cx.wish (X : Cx) (E : Value → Shared → Prop) : Cx := { X with xe := E }
/-- no exception leaves -/
abbrev Cx.nox (X : Cx) : Cx := X.wish fun _ _ => False
theorem Cx.Ok.wish {X : Cx} (ok : X.Ok) (E : Value → Shared → Prop) : (X.wish E).Ok :=
  ⟨ok.mod, ok.kind, ok.glob, ok.blt, ok.above, ok.inj, ok.has, ok.cab, ok.hd, ok.frames, ok.stk, ok.exf, ok.bs, ok.bsz, ok.noex, ok.exfs, ok.funs, ok.frf⟩
theorem Cx.Ok.unwish {X : Cx} {E : Value → Shared → Prop} (ok : (X.wish E).Ok) : X.Ok :=
  ⟨ok.mod, ok.kind, ok.glob, ok.blt, ok.above, ok.inj, ok.has, ok.cab, ok.hd, ok.frames, ok.stk, ok.exf, ok.bs, ok.bsz, ok.noex, ok.exfs, ok.funs, ok.frf⟩
section
variable {X : Cx} {pins : List (Addr × Obj)} {σ : St} {H : Hp} {s : Shared} {E : Value → Shared → Prop}
theorem Inv.wish (I : Inv X pins σ H s) (E : Value → Shared → Prop) : Inv (X.wish E) pins σ H s := ⟨I.ok.wish E, I.os, I.bare, I.base, I.loc, I.cell, I.free, I.freeC, I.pin, I.hok, I.len⟩
theorem Inv.unwish (I : Inv (X.wish E) pins σ H s) : Inv X pins σ H s := ⟨I.ok.unwish, I.os, I.bare, I.base, I.loc, I.cell, I.free, I.freeC, I.pin, I.hok, I.len⟩
theorem SP.unwish {D : Ends} {f : Flow} {s' : Shared} (h : SP (X.wish E) pins D f s') : SP X pins D f s' := by
  cases f with
  | next => obtain ⟨σ', H', I, q⟩ := h; exact ⟨σ', H', I.unwish, q⟩
  | brk => obtain ⟨σ', H', I, q⟩ := h; exact ⟨σ', H', I.unwish, q⟩
  | cont => obtain ⟨σ', H', I, q⟩ := h; exact ⟨σ', H', I.unwish, q⟩
  | ret u => obtain ⟨v, σ', H', I, r, q⟩ := h; exact ⟨v, σ', H', I.unwish, r, q⟩
theorem PE.nox {e : Expr} {t : TE} (h : PE X.nox e t) : PE X e t := fun pins s σ H Q I hw =>
  wpAny_mono (h pins s σ H Q (I.wish _) hw) (fun _ _ ⟨v, H', I', r, q⟩ => ⟨v, H', I'.unwish, r, q⟩) fun _ _ z => False.elim z
theorem PT.nox {e : Expr} {t : TT} (h : PT X.nox e t) : PT X e t := fun pins s σ H Q I hw =>
  wpAny_mono (h pins s σ H Q (I.wish _) hw) (fun _ _ ⟨H', I', q⟩ => ⟨H', I'.unwish, q⟩) fun _ _ z => False.elim z
theorem PSs.nox {st : List Stmt} {t : TS} (h : PSs X.nox st t) : PSs X st t := fun pins s σ H D I hw =>
  wpAny_mono (h pins s σ H D (I.wish _) hw) (fun _ _ q => q.unwish) fun _ _ z => False.elim z
end

/-! ### blocks and small statements -/
section
variable {X : Cx} {st : Stmt} {rest : List Stmt} {t u : TS} {e : Expr} {te : TE} {pos : Pos}
def tNext : TS := fun D σ H => D.nx σ H
def tSeq (t u : TS) : TS := fun D σ H => t { D with nx := u D } σ H
theorem pss_nil : PSs X [] tNext := fun _ _ σ H _ I h => wpAny_execs_nil ⟨σ, H, I, h⟩
theorem pss_cons (h1 : PS X st t) (h2 : PSs X rest u) : PSs X (st :: rest) (tSeq t u) := by
  intro pins s σ H D I h
  refine wpAny_execs_cons (thn (h1 pins s σ H { D with nx := u D } I h) fun f s1 q => ?_)
  cases f with
  | next =>
    obtain ⟨σ', H', I', q⟩ := q
    exact h2 pins s1 σ' H' D I' q
  | ret v => exact q
  | brk => exact q
  | cont => exact q
theorem pss_one (h1 : PS X st t) : PSs X [st] t := by
  intro pins s σ H D I h
  refine wpAny_execs_cons (thn (h1 pins s σ H D I h) fun f s1 q => ?_)
  cases f with
  | next => exact wpAny_execs_nil q
  | ret v => exact q
  | brk => exact q
  | cont => exact q
def tBreak : TS := fun D σ H => D.bk σ H
def tCont : TS := fun D σ H => D.ct σ H
theorem ps_pass : PS X (.Pass pos) tNext := fun _ _ σ H _ I h => wpAny_Pass ⟨σ, H, I, h⟩
theorem ps_break : PS X (.Break pos) tBreak := fun _ _ σ H _ I h => wpAny_Break ⟨σ, H, I, h⟩
theorem ps_continue : PS X (.Continue pos) tCont := fun _ _ σ H _ I h => wpAny_Continue ⟨σ, H, I, h⟩
/-- in a def's body nothing is shown -/
theorem Inv.quiet {pins : List (Addr × Obj)} {σ : St} {H : Hp} {s : Shared} (I : Inv X pins σ H s) : interactive X.env = false := by simp [interactive, I.ok.kind]
/-- a docstring -/
theorem ps_doc {x j pos pos'} : PS X (.Expr (.Constant (.str x) j pos) pos') tNext := fun _ s σ H _ I h => wpAny_Expr (Calls.Constant_str (show SP X _ _ .next { s with toks := s.toks + 1 } from ⟨σ, H, I.tok _, h⟩)) I.quiet
/-- an expression whose value is dropped -/
def tDrop (te : TE) : TS := fun D σ H => te σ H fun _ H1 => D.nx σ H1
theorem ps_expr (he : PE X e te) (hs : swapsWith e none pos.line X.env = pure false := by rfl) : PS X (.Expr e pos) (tDrop te) := by
  intro pins s σ H D I h
  exact wpAny_Expr_any (thn (he pins s σ H _ I h) fun v s1 ⟨x, H1, I1, r1, q1⟩ => ⟨σ, H1, I1, q1⟩) I.quiet hs
def tRet (te : TE) : TS := fun D σ H => te σ H D.rt
theorem ps_ret (he : PE X e te) : PS X (.Return (some e) pos) (tRet te) := by
  intro pins s σ H D I h
  exact wpAny_Return_some (thn (he pins s σ H _ I h) fun v s1 ⟨x, H1, I1, r1, q1⟩ => ⟨x, σ, H1, I1, r1, q1⟩)
def tRetN : TS := fun D _ H => D.rt .non H
theorem ps_retN : PS X (.Return none pos) tRetN := fun _ _ σ H _ I h => wpAny_Return_none ⟨.non, σ, H, I, rfl, h⟩
def tIfS (c : TT) (t u : TS) : TS := fun D σ H => c σ H fun b H1 => if b = true then t D σ H1 else u D σ H1
theorem ps_if {c : Expr} {a b : List Stmt} {tc : TT} (hc : PT X c tc) (ha : PSs X a t) (hb : PSs X b u) : PS X (.If c a b pos) (tIfS tc t u) := by
  intro pins s σ H D I h
  refine wpAny_If (thn (hc pins s σ H _ I h) fun d s1 ⟨H1, I1, q1⟩ => ?_)
  cases d with
  | true => exact ha pins s1 σ H1 D I1 q1
  | false => exact hb pins s1 σ H1 D I1 q1
/-- code that the proof never comes to -/
def tNever : TS := fun _ _ _ => False
theorem ps_never : PS X st tNever := fun _ _ _ _ _ _ h => h.elim
theorem pss_never {sts : List Stmt} : PSs X sts tNever := fun _ _ _ _ _ _ h => h.elim
end

/-! ### targets -/
abbrev TG := V → St → Hp → (St → Hp → Prop) → Prop
abbrev TGs := List V → St → Hp → (St → Hp → Prop) → Prop
def PG (X : Cx) (target : Expr) (t : TG) : Prop :=
  ∀ (pins : List (Addr × Obj)) (s : Shared) (σ : St) (H : Hp) (v : V) (u : Value) (Q : St → Hp → Prop), Inv X pins σ H s → RelV v u → t v σ H Q →
    wpAny (model X.prog X.w) X.A (assign target X.env u) (fun _ s' => ∃ σ' H', Inv X pins σ' H' s' ∧ Q σ' H') X.xe s
/-- several targets, one after another -/
def PGs (X : Cx) (ts : List Expr) (t : TGs) : Prop :=
  ∀ (pins : List (Addr × Obj)) (s : Shared) (σ : St) (H : Hp) (vs : List V) (us : List Value) (Q : St → Hp → Prop), Inv X pins σ H s → Vals vs us → t vs σ H Q →
    wpAny (model X.prog X.w) X.A (assignInOrder ((assignEach ts X.env).map (·.2)) us) (fun _ s' => ∃ σ' H', Inv X pins σ' H' s' ∧ Q σ' H') X.xe s
/-- o[i] = v, by values -/
abbrev TSet := V → V → V → Hp → (Hp → Prop) → Prop
def PSet (X : Cx) (t : TSet) : Prop :=
  ∀ (pins : List (Addr × Obj)) (s : Shared) (σ : St) (H : Hp) (o i v : V) (ov iv u : Value) (Q : Hp → Prop), Inv X pins σ H s → RelV o ov → RelV i iv → RelV v u → t o i v H Q →
    wpAny (model X.prog X.w) X.A (setItem ov iv u) (fun _ s' => ∃ H', Inv X pins σ H' s' ∧ Q H') X.xe s
/-- a op= b, by values -/
abbrev TIp := V → V → Hp → VK → Prop
def PIp (X : Cx) (op : Operator) (t : TIp) : Prop :=
  ∀ (pins : List (Addr × Obj)) (s : Shared) (σ : St) (H : Hp) (x y : V) (v u : Value) (Q : VK), Inv X pins σ H s → RelV x v → RelV y u → t x y H Q →
    wpAny (model X.prog X.w) X.A (inplaceOp op v u) (EP X pins σ Q) X.xe s
section
variable {X : Cx} {pos : Pos}
def gName (i : Nat) : TG := fun v σ H Q => Q (σ.set i (some v)) H
theorem pg_name {i : Nat} {x : Str} (hN : X.N.Nodup) (hi : X.N[i]? = some x) (hx : Loc X.env.scope x) (hf : X.fn x = true ∨ X.env.scope.names.lookup x = some .local := by first | exact .inl rfl | exact .inr rfl | assumption) : PG X (.Name x pos) (gName i) := by
  intro pins s σ H v u Q I r h
  exact wpAny_assign_Name (store_ok I hN hi hx r (fun s' I' => ⟨_, H, I', h⟩) hf)
def gNil : TGs := fun vs σ H Q => vs = [] ∧ Q σ H
def gCons (t : TG) (u : TGs) : TGs := fun vs σ H Q => ∃ v r, vs = v :: r ∧ t v σ H fun σ' H' => u r σ' H' Q
theorem pgs_nil : PGs X [] gNil := by
  intro pins s σ H vs us Q I r h
  obtain ⟨e, h⟩ := h
  subst e
  cases r
  exact assignInOrder_nil ⟨σ, H, I, h⟩
theorem pgs_cons {e : Expr} {es : List Expr} {t : TG} {u : TGs} (h1 : PG X e t) (h2 : PGs X es u)
    (hs : (assignEach (e :: es) X.env).map (·.2) = assign e X.env :: (assignEach es X.env).map (·.2) := by rfl) : PGs X (e :: es) (gCons t u) := by
  intro pins s σ H vs us Q I r h
  obtain ⟨v, vr, e1, h⟩ := h
  subst e1
  cases r with
  | cons r rr =>
    rw [hs]
    refine assignInOrder_cons (thn (h1 pins s σ H _ _ _ I r h) fun _ s1 ⟨σ1, H1, I1, q1⟩ => ?_)
    exact h2 pins s1 σ1 H1 _ _ Q I1 rr q1
/-- (a, b, ..) = a tuple of that length -/
def gTup (K : PySem.W.Frag) (n : Nat) (t : TGs) : TG := fun v σ H Q => ∃ a xs, v = .ref a ∧ SqT K H a xs ∧ xs.length = n ∧ t xs σ H Q
theorem pg_tup {es : List Expr} {k : Nat} {t : TGs} {n : Nat} (hc : X.calm = true) (h : PGs X es t)
    (hn : (assignEach es X.env).length = n := by rfl) (hst : (assignEach es X.env).findIdx? (·.1) = none := by rfl) : PG X (.Tuple es k pos) (gTup X.K n t) := by
  intro pins s σ H v u Q I r hw
  obtain ⟨a, xs, e1, hq, hl, hw⟩ := hw
  subst e1
  cases r
  obtain ⟨its, rv, ht, hz⟩ := I.tuple hq
  refine assign_Tuple_tuple (I.ok.hd hc) ht (by simp [hn, ← hl, rv.length]) hst fun h' hx => ?_
  have I1 : Inv X pins σ H { s with heap := h' } := I.kept (t' := s.toks) fun b o e => hx b o (Nat.ne_of_lt (Heap.lt_size e)) e
  exact h pins _ σ H xs _ Q I1 (by simpa using rv) hw
/-- o[i] = .. -/
def gSub (to ti : TE) (t : TSet) : TG := fun v σ H Q => to σ H fun o H1 => ti σ H1 fun i H2 => t o i v H2 fun H3 => Q σ H3
theorem pg_sub {o i : Expr} {to ti : TE} {t : TSet} (ho : PE X o to) (hi : PE X i ti) (hs : PSet X t)
    (ha : ∀ v, assign (.Subscript o i pos) X.env v = (do
      let ov ← holding [v] (eval o X.env)
      let iv ← holding [v, ov] (eval i X.env)
      standAt pos
      holding [v, ov, iv] (setItem ov iv v)
      release [v, ov, iv] []) := by intro _; rfl) : PG X (.Subscript o i pos) (gSub to ti t) := by
  intro pins s σ H v u Q I r h
  rw [ha]
  refine wpAny_bind (wpAny_holding (thn (ho pins s σ H _ I h) fun ov s1 ⟨x, H1, I1, r1, q1⟩ => ?_))
  refine wpAny_bind (wpAny_holding (thn (hi pins s1 σ H1 _ I1 q1) fun iv s2 ⟨y, H2, I2, r2, q2⟩ => ?_))
  refine wpAny_bind (wpAny_standAt (wpAny_bind (wpAny_holding (thn (hs pins s2 σ H2 x y v ov iv u _ I2 r1 r2 r q2) fun _ s3 ⟨H3, I3, q3⟩ => ?_))))
  exact wpAny_release ⟨σ, H3, I3, q3⟩
/-- target = value -/
def tAsg (te : TE) (g : TG) : TS := fun D σ H => te σ H fun x H1 => g x σ H1 D.nx
theorem ps_asg {tg e : Expr} {te : TE} {g : TG} (he : PE X e te) (hg : PG X tg g) (hs : swapsWithSole [tg] e pos.line X.env = pure false := by rfl) (hw : swappedStores [tg] e X.env = pure none := by rfl)
    (h1 : (assignEach [tg] X.env).map (·.2) = [assign tg X.env] := by rfl) : PS X (.Assign [tg] e pos) (tAsg te g) := by
  intro pins s σ H D I h
  refine wpAny_Assign_stores (thn (he pins s σ H _ I h) fun v s1 ⟨x, H1, I1, r1, q1⟩ => ?_) hs hw
  rw [h1]
  exact thn (hg pins s1 σ H1 x v _ I1 r1 q1) fun _ s2 q => q
/-- name = value -/
theorem ps_set {i : Nat} {x : Str} {e : Expr} {te : TE} {pos' : Pos} (hN : X.N.Nodup) (hi : X.N[i]? = some x) (hx : Loc X.env.scope x) (he : PE X e te) (hs : swapsWith e (some (.Name x pos')) pos.line X.env = pure false := by rfl) (hf : X.fn x = true ∨ X.env.scope.names.lookup x = some .local := by first | exact .inl rfl | exact .inr rfl | assumption) :
    PS X (.Assign [.Name x pos'] e pos) (tAsg te (gName i)) := by
  intro pins s σ H D I h
  refine wpAny_Assign_Name (thn (he pins s σ H _ I h) fun v s1 ⟨y, H1, I1, r1, q1⟩ => ?_) hs
  exact store_ok I1 hN hi hx r1 (fun s2 I2 => ⟨_, H1, I2, q1⟩) hf
/-- a, b = x, y with plain local names: stored from the right; the pair itself is not tracked (the opening rows as in PyProof/Rows/TupAssign.lean:23) -/
def tPar (i j : Nat) (ta : TA) : TS := fun D σ H => ta σ H fun vs H1 => ∃ v w, vs = [v, w] ∧ D.nx ((σ.set i (some v)).set j (some w)) H1
theorem ps_par {i j : Nat} {x y : Str} {a b : Expr} {ta : TA} {px py pt : Pos} {kt k2 pt2} (hc : X.calm = true) (hN : X.N.Nodup) (hi : X.N[i]? = some x) (hj : X.N[j]? = some y) (hij : i ≠ j)
    (hx : X.env.scope.names.lookup x = some .local) (hy : X.env.scope.names.lookup y = some .local) (ha : PA X [a, b] ta)
    (hw : swappedStores [.Tuple [.Name x px, .Name y py] kt pt] (.Tuple [a, b] k2 pt2) X.env = pure (some [x, y]))
    (hs : swapsWithSole [.Tuple [.Name x px, .Name y py] kt pt] (.Tuple [a, b] k2 pt2) pos.line X.env = pure false := by rfl) :
    PS X (.Assign [.Tuple [.Name x px, .Name y py] kt pt] (.Tuple [a, b] k2 pt2) pos) (tPar i j ta) := by
  intro pins s σ H D I h
  rw [exec_Assign_arm]
  refine wpAny_bind (wpAny_standAt ?_)
  rw [hs]
  refine wpAny_bind (wpAny_pure ?_)
  rw [if_neg (by decide)]
  refine wpAny_bind (Tuple_ (thn (ha _ pins s σ H _ I h) fun us s1 ⟨vs, H1, I1, r1, q1⟩ => ?_))
  obtain ⟨v, w, e1, q1⟩ := q1
  subst e1
  obtain ⟨u1, u2, rfl, rv, rw'⟩ : ∃ u1 u2, us = [u1, u2] ∧ RelV v u1 ∧ RelV w u2 := by
    cases r1 with
    | cons p q =>
      cases q with
      | cons p' q' =>
        cases q'
        exact ⟨_, _, rfl, p, p'⟩
  refine wpAny_newObj_type ?_ (by show 2 ≤ sizeLine; decide)
  have I2 : Inv X pins σ H1 { s1 with heap := s1.heap.push { cls := .type "tuple", data := .seq [u1, u2].toArray } } := I1.kept (t' := s1.toks) fun b o e => Heap.get?_push_of_some _ e
  rw [hw]
  refine wpAny_bind (wpAny_pure ?_)
  show wpAny (model X.prog X.w) X.A (do rule "assign.swapped-stores"; let items ← unpackItems (.ref s1.heap.objs.size) 2 none; assignInOrder [fun v => bindName X.env y v, fun v => bindName X.env x v] items.reverse; pure Flow.next) _ _ _
  refine wpAny_bind (wpAny_rule (wpAny_bind (unpackItems_tuple (items := #[u1, u2]) (I.ok.hd hc) (IsTup.new s1.heap _) fun h' hx' => ?_)))
  have I3 := I2.kept (h' := h') (t' := s1.toks) fun b o e => hx' b o (Nat.ne_of_lt (Heap.lt_size e)) e
  show wpAny _ _ (assignInOrder [fun v => bindName X.env y v, fun v => bindName X.env x v] [u2, u1] >>= fun _ => pure Flow.next) _ _ _
  refine wpAny_bind (assignInOrder_cons (wpAny_bindName (store_ok I3 hN hj (.inl hy) rw' (fun s2 I4 => ?_) (.inr hy))))
  refine assignInOrder_cons (wpAny_bindName (store_ok I4 hN hi (.inl hx) rv (fun s3 I5 => assignInOrder_nil (wpAny_pure ?_)) (.inr hx)))
  rw [List.set_comm _ _ (Ne.symm hij)] at I5
  exact ⟨_, H1, I5, q1⟩
/-- name op= e -/
def tAug (i : Nat) (te : TE) (ti : TIp) : TS := fun D σ H => ∃ x, σ[i]? = some (some x) ∧ te σ H fun y H1 => ti x y H1 fun z H2 => D.nx (σ.set i (some z)) H2
theorem ps_aug {i : Nat} {x : Str} {e : Expr} {te : TE} {op : Operator} {ti : TIp} {pos' : Pos} (hN : X.N.Nodup) (hi : X.N[i]? = some x) (hx : Loc X.env.scope x) (he : PE X e te) (ho : PIp X op ti) (hf : X.fn x = true ∨ X.env.scope.names.lookup x = some .local := by first | exact .inl rfl | exact .inr rfl | assumption) :
    PS X (.AugAssign (.Name x pos') op e pos) (tAug i te ti) := by
  intro pins s σ H D I h
  obtain ⟨v, e1, h⟩ := h
  obtain ⟨m, hn, hl⟩ := I.loc
  have vis : Vis X.env.scope x := by rcases hx with k | k; exact .inl k; exact .inr (.inl k)
  obtain ⟨u, r, l⟩ := hl i x v hi e1 vis
  refine wpAny_AugAssign_Name ?_
  have go : wpAny (model X.prog X.w) X.A (eval e X.env) (fun w s₂ => wpAny (model X.prog X.w) X.A (inplaceOp op u w) (fun r s₃ => wpAny (model X.prog X.w) X.A (storeName X.env x r) (fun _ => SP X pins D .next) X.xe s₃) X.xe s₂) X.xe s := by
    refine thn (he pins s σ H _ I h) fun w s1 ⟨y, H1, I1, r1, q1⟩ => ?_
    refine thn (ho pins s1 σ H1 v y u w _ I1 r r1 q1) fun z s2 ⟨zv, H2, I2, r2, q2⟩ => ?_
    exact store_ok I2 hN hi hx r2 (fun s3 I3 => ⟨_, H2, I3, q2⟩) hf
  rcases l with ⟨hk, hm⟩ | ⟨hk, c, hc, hcell⟩
  · exact wpAny_loadName_local I.ok.kind hk hn hm go
  · rcases hk with hk | hk
    · exact wpAny_loadName_cell I.ok.kind hk hc hcell go
    · rcases hx with k | k
      · have : X.env.scope.names.lookup x = some .free := hk
        rw [k] at this; cases this
      · have : X.env.scope.names.lookup x = some .free := hk
        rw [k] at this; cases this
/-- o[i] op= e -/
def tAugS (to ti te : TE) (tget : V → V → Hp → VK → Prop) (tip : TIp) (tset : TSet) : TS := fun D σ H => to σ H fun o H1 => ti σ H1 fun i H2 => tget o i H2 fun x H3 => te σ H3 fun y H4 => tip x y H4 fun z H5 => tset o i z H5 fun H6 => D.nx σ H6
/-- o[i], by values -/
def PGet (X : Cx) (t : V → V → Hp → VK → Prop) : Prop :=
  ∀ (pins : List (Addr × Obj)) (s : Shared) (σ : St) (H : Hp) (o i : V) (ov iv : Value) (Q : VK), Inv X pins σ H s → RelV o ov → RelV i iv → t o i H Q →
    wpAny (model X.prog X.w) X.A (getItem ov iv) (EP X pins σ Q) X.xe s
theorem ps_augS {o i e : Expr} {to ti te : TE} {tget : V → V → Hp → VK → Prop} {tip : TIp} {tset : TSet} {op : Operator} {tpos : Pos} (ho : PE X o to) (hi : PE X i ti) (hg : PGet X tget) (he : PE X e te) (hp : PIp X op tip) (hs : PSet X tset)
    (ha : ∀ ov iv new, augStore i ov iv new = (do holding [new, ov, iv] (setItem ov iv new); release [new, ov, iv] []; pure .next) := by intros; rfl) : PS X (.AugAssign (.Subscript o i tpos) op e pos) (tAugS to ti te tget tip tset) := by
  intro pins s σ H D I h
  refine wpAny_AugAssign_SubscriptAny (thn (ho pins s σ H _ I h) fun ov s1 ⟨x1, H1, I1, r1, q1⟩ => ?_) ha
  refine thn (hi pins s1 σ H1 _ I1 q1) fun iv s2 ⟨x2, H2, I2, r2, q2⟩ => ?_
  refine thn (hg pins s2 σ H2 x1 x2 ov iv _ I2 r1 r2 q2) fun old s3 ⟨x3, H3, I3, r3, q3⟩ => ?_
  refine thn (he pins s3 σ H3 _ I3 q3) fun v s4 ⟨x4, H4, I4, r4, q4⟩ => ?_
  refine thn (hp pins s4 σ H4 x3 x4 old v _ I4 r3 r4 q4) fun new s5 ⟨x5, H5, I5, r5, q5⟩ => ?_
  exact thn (hs pins s5 σ H5 x1 x2 x5 ov iv new _ I5 r1 r2 r5 q5) fun _ s6 ⟨H6, I6, q6⟩ => ⟨σ, H6, I6, q6⟩
/-- ints -/
def ipI (f : Int → Int → Int) : TIp := fun x y H Q => ∃ i j, x = .int i ∧ y = .int j ∧ Q (.int (f i j)) H
theorem ip_add : PIp X .Add (ipI fun i j => i + j) := by
  intro pins s σ H x y v u Q I r1 r2 h
  obtain ⟨i, j, e1, e2, q⟩ := h
  subst e1; subst e2
  obtain ⟨t, rfl⟩ := r1
  obtain ⟨t', rfl⟩ := r2
  exact iadd_int ⟨.int _, H, I.tok _, ⟨_, rfl⟩, q⟩
theorem ip_sub : PIp X .Sub (ipI fun i j => i - j) := by
  intro pins s σ H x y v u Q I r1 r2 h
  obtain ⟨i, j, e1, e2, q⟩ := h
  subst e1; subst e2
  obtain ⟨t, rfl⟩ := r1
  obtain ⟨t', rfl⟩ := r2
  exact isub_int ⟨.int _, H, I.tok _, ⟨_, rfl⟩, q⟩
end

/-! ### while -/
section
variable {X : Cx} {pos : Pos}
/-- the invariant W with its measure -/
def tWhile (c : TT) (tb : TS) : TS := fun D σ H => ∃ W : Nat → St → Hp → Prop, (∃ m, W m σ H) ∧ ∀ m σ H, W m σ H →
  c σ H fun b H1 => if b = true then ∃ N : St → Hp → Prop, (∀ σ' H', N σ' H' → ∃ m', m' < m ∧ W m' σ' H') ∧ tb { D with nx := N, ct := N, bk := D.nx } σ H1 else D.nx σ H1
theorem ps_while {c : Expr} {body : List Stmt} {tc : TT} {tb : TS} (hp : PassesOwn (model X.prog X.w) X.A X.env X.xe) (hc : PT X c tc) (hb : PSs X body tb) : PS X (.While c body [] pos) (tWhile tc tb) := by
  intro pins s σ H D I h
  obtain ⟨W, ⟨m0, w0⟩, turn⟩ := h
  refine wpAny_While (codeAny_whileLoop (fun n s' => ∃ σ' H', Inv X pins σ' H' s' ∧ W n σ' H') ?_ m0 ⟨σ, H, I, w0⟩)
  rintro n s1 ⟨σ1, H1, I1, w1⟩
  refine wpAny_passesOwn hp (thn (hc pins s1 σ1 H1 _ I1 (turn n σ1 H1 w1)) fun b s2 ⟨H2, I2, q2⟩ => ?_)
  cases b with
  | true =>
    obtain ⟨N, hN, q2⟩ := q2
    rw [if_pos rfl]
    refine wpAny_passesOwn hp (thn (hb pins s2 σ1 H2 _ I2 q2) fun f s3 q3 => ?_)
    cases f with
    | next =>
      obtain ⟨σ3, H3, I3, n3⟩ := q3
      obtain ⟨m', hm, w3⟩ := hN σ3 H3 n3
      exact ⟨m', hm, σ3, H3, I3, w3⟩
    | cont =>
      obtain ⟨σ3, H3, I3, n3⟩ := q3
      obtain ⟨m', hm, w3⟩ := hN σ3 H3 n3
      exact ⟨m', hm, σ3, H3, I3, w3⟩
    | brk => exact q3
    | ret v => exact q3
  | false =>
    rw [if_neg Bool.false_ne_true]
    exact wpAny_execs_nil ⟨σ1, H2, I2, q2⟩
end

/-! ### what a loop or a comprehension walks -/
/-- at turn i: it yields x (the heap may grow), or it stops -/
structure It where
  go : Nat → Hp → Prop
  yld : Nat → Hp → V → Hp → Prop
  stop : Nat → Hp → Prop
/-- the iterator's own objects may turn: they are not the frame's, not pinned, younger than the entry (or a comprehension's own) -/
def FpOk (X : Cx) (pins : List (Addr × Obj)) (H : Hp) (b : Addr) : Prop :=
  H b = none ∧ b ≠ X.env.locals ∧ b ∉ X.fs ∧ (b ∈ X.ex ∨ X.s₀.heap.objs.size ≤ b) ∧ (∀ x c, X.env.cells.lookup x = some c → c ≠ b) ∧ ∀ p ∈ X.pn ++ pins, p.1 ≠ b
theorem Inv.fpOk {X : Cx} {pins : List (Addr × Obj)} {σ : St} {H H' : Hp} {s : Shared} {b : Addr} (I : Inv X pins σ H s) (hb : s.heap.objs.size ≤ b) (hn : H' b = none) : FpOk X pins H' b := by
  refine ⟨hn, Nat.ne_of_gt (Nat.lt_of_lt_of_le I.lt hb), I.nofs hb, .inr (Nat.le_trans I.sz hb), fun x c e z => ?_, fun p hp z => ?_⟩
  · obtain ⟨v, q⟩ := I.cell x c e
    exact absurd (Nat.lt_of_lt_of_le q.lt (by rw [z]; exact hb)) (Nat.lt_irrefl _)
  · exact absurd (Nat.lt_of_lt_of_le (Heap.lt_size (I.pin p hp).1) (by rw [z]; exact hb)) (Nat.lt_irrefl _)
structure Turn (P : Program) (w : World) (K : PySem.W.Frag) (tg : Expr) (J : It) (fp : List Addr) (it : Addr) (tn : Nat → Heap → Prop) : Prop where
  mem : it ∈ fp
  obj : ∀ i h, tn i h → ∀ b ∈ fp, ∃ o, h.get? b = some o ∧ ∀ v, o.data ≠ .cell v
  keep : ∀ i h h', tn i h → (∀ b ∈ fp, ∀ o, h.get? b = some o → h'.get? b = some o) → tn i h'
  item : ∀ (X : Cx), X.prog = P → X.w = w → X.K = K → X.calm = true → ∀ (i : Nat) (pins : List (Addr × Obj)) (s : Shared) (σ : St) (H : Hp) (E : Value → Shared → Prop), Inv X pins σ H s → (∀ b ∈ fp, FpOk X pins H b) → tn i s.heap → J.go i H →
    wpAny (model P w) X.A (pyNext (.ref it)) (fun r s1 => ∃ u, r = some u ∧
      wpAny (model P w) X.A (letOwnedTupleGo tg (.ref it) u) (fun _ s2 => ∃ x H', Inv X pins σ H' s2 ∧ RelV x u ∧ J.yld i H x H' ∧ tn (i + 1) s2.heap ∧ ∀ b ∈ fp, H' b = none) E s1) E s
  done : ∀ (X : Cx), X.prog = P → X.w = w → X.K = K → X.calm = true → ∀ (i : Nat) (pins : List (Addr × Obj)) (s : Shared) (σ : St) (H : Hp) (E : Value → Shared → Prop), Inv X pins σ H s → (∀ b ∈ fp, FpOk X pins H b) → tn i s.heap → J.stop i H →
    wpAny (model P w) X.A (pyNext (.ref it)) (fun r s1 => r = none ∧ Inv X pins σ H s1) E s
  self : ∀ (A : Around) (i : Nat) (s : Shared) (Q : Value → Shared → Prop) (E : Value → Shared → Prop), tn i s.heap → Q (.ref it) s → wpAny (model P w) A (pyIter (.ref it)) Q E s
abbrev TI := St → Hp → (It → Hp → Prop) → Prop
/-- an iterator has come -/
def PIE (X : Cx) (pins : List (Addr × Obj)) (σ : St) (tg : Expr) (R : It → Hp → Prop) (itv : Value) (s2 : Shared) : Prop :=
  ∃ (it : Addr) (fp : List Addr) (tn : Nat → Heap → Prop) (J : It) (H' : Hp), itv = .ref it ∧ Inv X pins σ H' s2 ∧ Turn X.prog X.w X.K tg J fp it tn ∧ tn 0 s2.heap ∧ (∀ b ∈ fp, FpOk X pins H' b) ∧ R J H'
def PI (X : Cx) (tg iter : Expr) (wi : TI) : Prop :=
  ∀ (pins : List (Addr × Obj)) (s : Shared) (σ : St) (H : Hp) (R : It → Hp → Prop), Inv X pins σ H s → wi σ H R →
    wpAny (model X.prog X.w) X.A (eval iter X.env) (fun v s1 => wpAny (model X.prog X.w) X.A (pyIter v) (PIE X pins σ tg R) X.xe s1) X.xe s

/-- the step ahead of the store is nothing for an iterator that keeps no tuple -/
theorem go_of {M : Model} {A : Around} {E : Value → Shared → Prop} {s : Shared} {tg : Expr} {it : Addr} {u : Value} {o : Obj} {n : String} {vs : Array Value} {Q : Unit → Shared → Prop} (ho : s.heap.get? it = some o) (hc : o.cls = .type n) (hd : o.data = .fields vs)
    (hn : ["enumerate", "zip", "dict_itemiterator", "dict_reverseitemiterator", "odict_iterator", "itertools.zip_longest", "itertools.pairwise"].contains n = false) (hQ : Q () s) : wpAny M A (letOwnedTupleGo tg (.ref it) u) Q E s := by
  unfold letOwnedTupleGo
  cases tg <;> first
    | exact wpAny_pure hQ
    | (cases u <;> first
        | exact wpAny_pure hQ
        | (refine wpAny_bind (wpAny_load ho ?_)
           rw [hc, hd]
           show wpAny M A (if (["enumerate", "zip", "dict_itemiterator", "dict_reverseitemiterator", "odict_iterator", "itertools.zip_longest", "itertools.pairwise"].contains n && vs[0]? == some (rawInt _)) = true then _ else _) Q E s
           rw [if_neg (by intro h; rw [hn, Bool.false_and] at h; cases h)]
           exact wpAny_pure hQ))

/-- the list at a, as it stands at each turn (a loop may append to it) -/
def Itl (K : PySem.W.Frag) (a : Addr) : It :=
  ⟨fun i H => ∃ xs x, SqL K H a xs ∧ xs[i]? = some x, fun i H x H' => H' = H ∧ ∀ xs, SqL K H a xs → xs[i]? = some x, fun i H => ∃ xs, SqL K H a xs ∧ xs.length ≤ i⟩
def Itt (K : PySem.W.Frag) (a : Addr) : It :=
  ⟨fun i H => ∃ xs x, SqT K H a xs ∧ xs[i]? = some x, fun i H x H' => H' = H ∧ ∀ xs, SqT K H a xs → xs[i]? = some x, fun i H => ∃ xs, SqT K H a xs ∧ xs.length ≤ i⟩
/-- lo, lo + 1, .. (n of them) -/
def Itr (lo : Int) (n : Nat) : It := ⟨fun i _ => i < n, fun i H x H' => H' = H ∧ x = .int (lo + i), fun i _ => n ≤ i⟩
theorem turn_list {P : Program} {w : World} {K : PySem.W.Frag} {tg : Expr} (a it : Addr) : Turn P w K tg (Itl K a) [it] it (fun i h => h.IsListIter it a i) where
  mem := by simp
  obj := fun i h st b hb => by
    have e : b = it := by simpa using hb
    subst e
    obtain ⟨o, e, c, d⟩ := st
    exact ⟨o, e, fun v z => by rw [d] at z; cases z⟩
  keep := fun i h h' st k => st.at fun o e => k it (by simp) o e
  item := by
    intro X hP hw hK hc i pins s σ H E I hf st hg
    subst hP hw hK
    obtain ⟨xs, x, hq, hx⟩ := hg
    obtain ⟨its, rv, p, hz⟩ := I.list hq
    obtain ⟨u, hu, ru⟩ := rv.get hx
    obtain ⟨f0, f1, f2, f3, f4, f5⟩ := hf it (by simp)
    refine wpAny_pyNext_list_item st p.isList (x := u) (by simpa using hu) fun h' st' sb => ?_
    have I1 : Inv X pins σ H { s with heap := h' } := I.turned (t' := s.toks) (fun b o hb e => (sb.2 b hb).trans e) f0 f1 f3 f4 f5
    obtain ⟨o, e, c, d⟩ := id st'
    exact ⟨u, rfl, go_of (s := { s with heap := h' }) e c d (by decide) ⟨x, H, I1, ru, ⟨rfl, fun ys hy => by rw [I.list_inj hy hq]; exact hx⟩, st', fun b hb => (hf b hb).1⟩⟩
  done := by
    intro X hP hw hK hc i pins s σ H E I hf st hg
    subst hP hw hK
    obtain ⟨xs, hq, hx⟩ := hg
    obtain ⟨its, rv, p, hz⟩ := I.list hq
    obtain ⟨f0, f1, f2, f3, f4, f5⟩ := hf it (by simp)
    have hl := rv.length
    exact wpAny_pyNext_list_end (I.ok.hd hc) st p.isList (by simp; omega) fun h' eb => ⟨rfl, I.turned (t' := s.toks) (fun b o hb e => eb b o hb e) f0 f1 f3 f4 f5⟩
  self := fun _ _ _ _ _ st h => wpAny_pyIter_listiter st h
theorem turn_tuple {P : Program} {w : World} {K : PySem.W.Frag} {tg : Expr} (a it : Addr) : Turn P w K tg (Itt K a) [it] it (fun i h => h.IsTupleIter it a i) where
  mem := by simp
  obj := fun i h st b hb => by
    have e : b = it := by simpa using hb
    subst e
    obtain ⟨o, e, c, d⟩ := st
    exact ⟨o, e, fun v z => by rw [d] at z; cases z⟩
  keep := fun i h h' st k => st.at fun o e => k it (by simp) o e
  item := by
    intro X hP hw hK hc i pins s σ H E I hf st hg
    subst hP hw hK
    obtain ⟨xs, x, hq, hx⟩ := hg
    obtain ⟨its, rv, p, hz⟩ := I.tuple hq
    obtain ⟨u, hu, ru⟩ := rv.get hx
    obtain ⟨f0, f1, f2, f3, f4, f5⟩ := hf it (by simp)
    refine wpAny_pyNext_tuple_item st (show s.heap.IsTuple a its.toArray from p) (x := u) (by simpa using hu) fun h' st' sb => ?_
    have I1 : Inv X pins σ H { s with heap := h' } := I.turned (t' := s.toks) (fun b o hb e => (sb.2 b hb).trans e) f0 f1 f3 f4 f5
    obtain ⟨o, e, c, d⟩ := id st'
    exact ⟨u, rfl, go_of (s := { s with heap := h' }) e c d (by decide) ⟨x, H, I1, ru, ⟨rfl, fun ys hy => by rw [I.tuple_inj hy hq]; exact hx⟩, st', fun b hb => (hf b hb).1⟩⟩
  done := by
    intro X hP hw hK hc i pins s σ H E I hf st hg
    subst hP hw hK
    obtain ⟨xs, hq, hx⟩ := hg
    obtain ⟨its, rv, p, hz⟩ := I.tuple hq
    obtain ⟨f0, f1, f2, f3, f4, f5⟩ := hf it (by simp)
    have hl := rv.length
    exact wpAny_pyNext_tuple_end (I.ok.hd hc) st (show s.heap.IsTuple a its.toArray from p) (by simp; omega) fun h' eb => ⟨rfl, I.turned (t' := s.toks) (fun b o hb e => eb b o hb e) f0 f1 f3 f4 f5⟩
  self := fun _ _ _ _ _ st h => wpAny_pyIter_tupleiter st h
theorem turn_range {P : Program} {w : World} {K : PySem.W.Frag} {tg : Expr} (it : Addr) (lo : Int) (n : Nat) : Turn P w K tg (Itr lo n) [it] it (fun i h => IsRangeIter h it (lo + (i : Nat) * 1) ((n : Int) - (i : Nat)) 1) where
  mem := by simp
  obj := fun i h st b hb => by
    have e : b = it := by simpa using hb
    subst e
    exact ⟨_, st, fun v z => by
      have z' : Data.fields _ = Data.cell v := z
      cases z'⟩
  keep := fun i h h' st k => k it (by simp) _ st
  item := by
    intro X hP hw hK hc i pins s σ H E I hf st hg
    subst hP hw hK
    obtain ⟨f0, f1, f2, f3, f4, f5⟩ := hf it (by simp)
    have W := Walks.range (prog := X.prog) (w := X.w) (I.ok.hd hc) it lo 1 n
    refine W.item i s _ _ hg st fun v h' tk hv st' kk => ?_
    obtain ⟨t, rfl⟩ := hv
    have I1 : Inv X pins σ H { s with heap := h', toks := tk } := I.turned (fun b o hb e => kk b o (by simpa using hb) e) f0 f1 f3 f4 f5
    refine ⟨_, rfl, go_of (s := { s with heap := h', toks := tk }) (n := "range_iterator") st' rfl rfl (by decide) ⟨.int (lo + i), H, I1, ⟨t, ?_⟩, ⟨rfl, rfl⟩, st', fun b hb => (hf b hb).1⟩⟩
    rw [Int.mul_one]
  done := by
    intro X hP hw hK hc i pins s σ H E I hf st hg
    subst hP hw hK
    obtain ⟨f0, f1, f2, f3, f4, f5⟩ := hf it (by simp)
    exact wpAny_pyNext_range_end (I.ok.hd hc) st (by have : n ≤ i := hg; omega) fun h' eb => ⟨rfl, I.turned (t' := s.toks) (fun b o hb e => eb b o hb e) f0 f1 f3 f4 f5⟩
  self := fun _ _ _ _ _ st h => wpAny_pyIter_rangeiter st h
end L2

namespace L2
open PySem PySem.Spec PyProof.Rows
section
variable {X : Cx} {tg : Expr}
def iList (K : PySem.W.Frag) (tl : TE) : TI := fun σ H R => tl σ H fun x H1 => ∃ a, x = .ref a ∧ (∃ xs, SqL K H1 a xs) ∧ R (Itl K a) H1
def iTup (K : PySem.W.Frag) (tl : TE) : TI := fun σ H R => tl σ H fun x H1 => ∃ a, x = .ref a ∧ (∃ xs, SqT K H1 a xs) ∧ R (Itt K a) H1
theorem pi_list {l : Expr} {tl : TE} (hl : PE X l tl) : PI X tg l (iList X.K tl) := by
  intro pins s σ H R I h
  refine thn (hl pins s σ H _ I h) fun v s1 ⟨x, H1, I1, r1, q1⟩ => ?_
  obtain ⟨a, e, ⟨xs, hq⟩, q⟩ := q1
  subst e
  cases r1
  obtain ⟨its, rv, p, hz⟩ := I1.list hq
  refine wpAny_pyIter_list p.isList ?_
  refine ⟨s1.heap.objs.size, [s1.heap.objs.size], _, _, H1, rfl, I1.kept (t' := s1.toks) fun b o e => Heap.get?_push_of_some _ e, turn_list a _, ⟨_, Heap.get?_push_size _ rfl, rfl, rfl⟩, fun b hb => ?_, q⟩
  have e : b = s1.heap.objs.size := by simpa using hb
  subst e
  exact I1.fpOk (Nat.le_refl _) (I1.hok.fresh (Nat.le_refl _))
theorem pi_tup {l : Expr} {tl : TE} (hl : PE X l tl) : PI X tg l (iTup X.K tl) := by
  intro pins s σ H R I h
  refine thn (hl pins s σ H _ I h) fun v s1 ⟨x, H1, I1, r1, q1⟩ => ?_
  obtain ⟨a, e, ⟨xs, hq⟩, q⟩ := q1
  subst e
  cases r1
  obtain ⟨its, rv, p, hz⟩ := I1.tuple hq
  refine wpAny_pyIter_tuple (show s1.heap.IsTuple a its.toArray from p) ?_
  refine ⟨s1.heap.objs.size, [s1.heap.objs.size], _, _, H1, rfl, I1.kept (t' := s1.toks) fun b o e => Heap.get?_push_of_some _ e, turn_tuple a _, ⟨_, Heap.get?_push_size _ rfl, rfl, rfl⟩, fun b hb => ?_, q⟩
  have e : b = s1.heap.objs.size := by simpa using hb
  subst e
  exact I1.fpOk (Nat.le_refl _) (I1.hok.fresh (Nat.le_refl _))
/-- a range object just made, walked -/
theorem range_it {pins : List (Addr × Obj)} {σ : St} {H : Hp} {s : Shared} {R : It → Hp → Prop} {E : Value → Shared → Prop} {lo hi : Int} {t u v : Tok} {tk : Nat} (I : Inv X pins σ H s) (h1 : -(2 ^ 62) ≤ lo) (h2 : lo < 2 ^ 62) (h3 : -(2 ^ 62) ≤ hi) (h4 : hi < 2 ^ 62)
    (q : R (Itr lo (hi - lo).toNat) H) : wpAny (model X.prog X.w) X.A (pyIter (.ref s.heap.objs.size)) (PIE X pins σ tg R) E { s with heap := s.heap.push { cls := .type "range", data := .fields #[.int lo t, .int hi u, .int 1 v] }, toks := tk } := by
  refine wpAny_pyIter_range (IsRange.new ..) (small_one h1 h2 h3 h4) ?_
  have I1 : Inv X pins σ H { s with heap := s.heap.push { cls := .type "range", data := .fields #[.int lo t, .int hi u, .int 1 v] }, toks := tk } := I.kept fun b o e => Heap.get?_push_of_some _ e
  refine ⟨(s.heap.push { cls := .type "range", data := .fields #[.int lo t, .int hi u, .int 1 v] }).objs.size, [(s.heap.push { cls := .type "range", data := .fields #[.int lo t, .int hi u, .int 1 v] }).objs.size], _, _, H, rfl,
    I1.kept (t' := tk) fun b o e => Heap.get?_push_of_some _ e, turn_range _ lo (hi - lo).toNat, ?_, fun b hb => ?_, q⟩
  · have e1 : lo + ((0 : Nat) : Int) * 1 = lo := by simp
    have e2 : (((hi - lo).toNat : Nat) : Int) - ((0 : Nat) : Int) = Builtin.Range.rangeSize lo hi 1 := by rw [rangeSize_one]; split <;> omega
    show IsRangeIter _ _ (lo + ((0 : Nat) : Int) * 1) ((((hi - lo).toNat : Nat) : Int) - ((0 : Nat) : Int)) 1
    rw [e1, e2]
    exact Heap.get?_push_size _ rfl
  · have e : b = (s.heap.push { cls := .type "range", data := .fields #[.int lo t, .int hi u, .int 1 v] }).objs.size := by simpa using hb
    subst e
    exact I1.fpOk (Nat.le_refl _) (I1.hok.fresh (Nat.le_refl _))
def iRng1 (ta : TA) : TI := fun σ H R => ta σ H fun vs H1 => ∃ j : Int, vs = [.int j] ∧ -(2 ^ 62) ≤ j ∧ j < 2 ^ 62 ∧ R (Itr 0 j.toNat) H1
def iRng2 (ta : TA) : TI := fun σ H R => ta σ H fun vs H1 => ∃ i j : Int, vs = [.int i, .int j] ∧ (-(2 ^ 62) ≤ i ∧ i < 2 ^ 62 ∧ -(2 ^ 62) ≤ j ∧ j < 2 ^ 62) ∧ R (Itr i (j - i).toNat) H1
theorem pi_range1 {a : Expr} {ta : TA} {p pos : Pos} (hg : Gl X "range") (hm : X.mg "range" = none) (ha : PA X [a] ta) (hs : starEach [a] X.env = [(false, eval a X.env)] := by rfl) : PI X tg (.Call (.Name "range" p) [a] [] pos) (iRng1 ta) := by
  intro pins s σ H R I h
  refine Call_ (ld_blt I hg hm boot_range (PyProof.Rows.callWith_type1 (thn (ha pos pins s σ H _ I h) fun us s1 ⟨vs, H1, I1, r1, q1⟩ => ?_) hs rfl))
  obtain ⟨j, e, q1, q2, q⟩ := q1
  subst e
  cases r1 with
  | cons r rr =>
    cases rr
    obtain ⟨t, rfl⟩ := r
    exact call_range_1 (range_it I1 (by omega) (by omega) q1 q2 (by simpa using q))
theorem pi_range2 {a b : Expr} {ta : TA} {p pos : Pos} (hg : Gl X "range") (hm : X.mg "range" = none) (ha : PA X [a, b] ta) (hs : starEach [a, b] X.env = [(false, eval a X.env), (false, eval b X.env)] := by rfl) (hs2 : starEach [b] X.env = [(false, eval b X.env)] := by rfl) :
    PI X tg (.Call (.Name "range" p) [a, b] [] pos) (iRng2 ta) := by
  intro pins s σ H R I h
  refine Call_ (ld_blt I hg hm boot_range (PyProof.Rows.callWith_type1 (thn (ha pos pins s σ H _ I h) fun us s1 ⟨vs, H1, I1, r1, q1⟩ => ?_) (by rw [hs, hs2]) (by rw [hs2]; rfl)))
  obtain ⟨i, j, e, ⟨q1, q2, q3, q4⟩, q⟩ := q1
  subst e
  cases r1 with
  | cons r rr =>
    cases rr with
    | cons r' rr =>
      cases rr
      obtain ⟨t, rfl⟩ := r
      obtain ⟨t', rfl⟩ := r'
      exact call_range_2 (range_it I1 q1 q2 q3 q4 q)

/-! ### for -/
/-- W: the invariant by the turn and a measure; N: what the body is to reach -/
def tFor (wi : TI) (g : TG) (tb : TS) : TS := fun D σ H => wi σ H fun J H1 => ∃ W : Nat → Nat → St → Hp → Prop, (∃ m, W 0 m σ H1) ∧ ∀ i m σ H, W i m σ H →
  (J.stop i H ∧ D.nx σ H) ∨ (J.go i H ∧ ∃ N : St → Hp → Prop, (∀ σ' H', N σ' H' → ∃ m', m' < m ∧ W (i + 1) m' σ' H') ∧ ∀ x H', J.yld i H x H' → g x σ H' fun σ2 H2 => tb { D with nx := N, ct := N, bk := D.nx } σ2 H2)
/-- the records at fp as they stand -/
def pinsAt (fp : List Addr) (h : Heap) : List (Addr × Obj) := fp.filterMap fun b => (h.get? b).map fun o => (b, o)
theorem mem_pinsAt {fp : List Addr} {h : Heap} {b : Addr} {o : Obj} (hb : b ∈ fp) (e : h.get? b = some o) : (b, o) ∈ pinsAt fp h := List.mem_filterMap.mpr ⟨b, hb, by rw [e]; rfl⟩
theorem of_pinsAt {fp : List Addr} {h : Heap} {p : Addr × Obj} (hp : p ∈ pinsAt fp h) : p.1 ∈ fp ∧ h.get? p.1 = some p.2 := by
  obtain ⟨b, hb, e⟩ := List.mem_filterMap.mp hp
  cases q : h.get? b with
  | none => rw [q] at e; cases e
  | some o =>
    rw [q] at e
    have e' : (b, o) = p := Option.some.inj e
    subst e'
    exact ⟨hb, q⟩
theorem Inv.pinned {pins : List (Addr × Obj)} {σ : St} {H : Hp} {s : Shared} {fp : List Addr} (I : Inv X pins σ H s) (hf : ∀ b ∈ fp, FpOk X pins H b) (ho : ∀ b ∈ fp, ∃ o, s.heap.get? b = some o ∧ ∀ v, o.data ≠ .cell v) : Inv X (pins ++ pinsAt fp s.heap) σ H s :=
  I.pins_of fun p hp => (List.mem_append.mp hp).elim (fun z => I.pin p (List.mem_append_right _ z)) fun z => by
    obtain ⟨hb, e⟩ := of_pinsAt z
    obtain ⟨f0, f1, f2, _⟩ := hf p.1 hb
    obtain ⟨o, e', d⟩ := ho p.1 hb
    rw [e] at e'; cases e'
    exact ⟨e, f0, f1, f2, d⟩
theorem Inv.unpinned {pins pl : List (Addr × Obj)} {σ : St} {H : Hp} {s : Shared} (I : Inv X (pins ++ pl) σ H s) : Inv X pins σ H s := I.pins_of fun p hp => I.pin p (List.mem_append_right _ (List.mem_append_left _ hp))
theorem ps_for {iter : Expr} {body : List Stmt} {wi : TI} {g : TG} {tb : TS} {pos : Pos} (hp : PassesOwn (model X.prog X.w) X.A X.env X.xe) (hc : X.calm = true) (hi : PI X tg iter wi) (hg : PG X tg g) (hb : PSs X body tb)
    (hs : ∀ x, foldedSetIterable iter X.env x = pure x := by intro _; rfl) : PS X (.For tg iter body [] pos) (tFor wi g tb) := by
  intro pins s σ H D I h
  refine wpAny_For (thn (hi pins s σ H _ I h) fun v s1 h1 => thn h1 fun itv s2 h2 => ?_) hs
  obtain ⟨it, fp, tn, J, H2, e, I2, T, st2, f2, W, ⟨m0, w0⟩, turn⟩ := h2
  subst e
  -- what stays true of the iterator's objects through the loop
  have stat : ∀ {H' : Hp}, (∀ b ∈ fp, H' b = none) → ∀ b ∈ fp, FpOk X pins H' b := fun hn b hb => ⟨hn b hb, (f2 b hb).2⟩
  refine codeAny_forLoop_any (fun n s' => ∃ i σ' H', Inv X pins σ' H' s' ∧ tn i s'.heap ∧ (∀ b ∈ fp, H' b = none) ∧ W i n σ' H') ?_ m0 ⟨0, σ, H2, I2, st2, fun b hb => (f2 b hb).1, w0⟩
  rintro n s3 ⟨i, σ3, H3, I3, st3, fr3, w3⟩
  rcases turn i n σ3 H3 w3 with ⟨stop, qn⟩ | ⟨go, N, hN, step⟩
  · refine wpAny_passesOwn hp (thn (T.done X rfl rfl rfl hc i pins s3 σ3 H3 X.xe I3 (stat fr3) st3 stop) fun r s4 ⟨hr, I4⟩ => ?_)
    subst hr
    exact wpAny_execs_nil ⟨σ3, H3, I4, qn⟩
  · refine wpAny_passesOwn hp (thn (T.item X rfl rfl rfl hc i pins s3 σ3 H3 X.xe I3 (stat fr3) st3 go) fun r s4 ⟨u, hr, h4⟩ => ?_)
    subst hr
    refine wpAny_passesOwn hp (thn h4 fun _ s5 ⟨x, H5, I5, r5, y5, st5, fr5⟩ => ?_)
    have I5' := I5.pinned (stat fr5) (T.obj _ _ st5)
    refine wpAny_passesOwn hp (thn (hg _ s5 σ3 H5 x u _ I5' r5 (step x H5 y5)) fun _ s6 ⟨σ6, H6, I6, q6⟩ => ?_)
    refine wpAny_passesOwn hp (thn (hb _ s6 σ6 H6 _ I6 q6) fun f s7 q7 => ?_)
    have again : ∀ {σ7 : St} {H7 : Hp}, Inv X (pins ++ pinsAt fp s5.heap) σ7 H7 s7 → N σ7 H7 → ∃ m, m < n ∧ ∃ i σ' H', Inv X pins σ' H' s7 ∧ tn i s7.heap ∧ (∀ b ∈ fp, H' b = none) ∧ W i m σ' H' := fun {σ7 H7} I7 n7 => by
      obtain ⟨m', hm, w7⟩ := hN σ7 H7 n7
      refine ⟨m', hm, i + 1, σ7, H7, I7.unpinned, T.keep _ _ _ st5 fun b hb o e => (I7.pin (b, o) (List.mem_append_right _ (List.mem_append_right _ (mem_pinsAt hb e)))).1, fun b hb => ?_, w7⟩
      obtain ⟨o, e, d⟩ := T.obj _ _ st5 b hb
      exact (I7.pin (b, o) (List.mem_append_right _ (List.mem_append_right _ (mem_pinsAt hb e)))).2.1
    cases f with
    | next => obtain ⟨σ7, H7, I7, n7⟩ := q7; exact again I7 n7
    | cont => obtain ⟨σ7, H7, I7, n7⟩ := q7; exact again I7 n7
    | brk => obtain ⟨σ7, H7, I7, q7⟩ := q7; exact ⟨σ7, H7, I7.unpinned, q7⟩
    | ret v => obtain ⟨x7, σ7, H7, I7, r7, q7⟩ := q7; exact ⟨x7, σ7, H7, I7.unpinned, r7, q7⟩
end

/-! ### the forms one uses -/
/-- over a list that the body leaves as it is -/
theorem for_list {K : PySem.W.Frag} {a : Addr} {xs : List V} {g : TG} {tb : TS} {D : Ends} {σ : St} {H : Hp} (Pv : Nat → St → Hp → Prop) (h0 : Pv 0 σ H) (hl : ∀ i σ H, i ≤ xs.length → Pv i σ H → SqL K H a xs)
    (hs : ∀ i x σ H, xs[i]? = some x → Pv i σ H → g x σ H fun σ2 H2 => tb { D with nx := Pv (i + 1), ct := Pv (i + 1), bk := D.nx } σ2 H2) (hd : ∀ σ H, Pv xs.length σ H → D.nx σ H) :
    ∃ W : Nat → Nat → St → Hp → Prop, (∃ m, W 0 m σ H) ∧ ∀ i m σ H, W i m σ H →
      ((Itl K a).stop i H ∧ D.nx σ H) ∨ ((Itl K a).go i H ∧ ∃ N : St → Hp → Prop, (∀ σ' H', N σ' H' → ∃ m', m' < m ∧ W (i + 1) m' σ' H') ∧ ∀ x H', (Itl K a).yld i H x H' → g x σ H' fun σ2 H2 => tb { D with nx := N, ct := N, bk := D.nx } σ2 H2) := by
  refine ⟨fun i m σ H => m = xs.length - i ∧ i ≤ xs.length ∧ Pv i σ H, ⟨xs.length, by simp, Nat.zero_le _, h0⟩, ?_⟩
  rintro i m σ H ⟨rfl, hi, p⟩
  have q := hl i σ H hi p
  by_cases hlt : i < xs.length
  · refine .inr ⟨⟨xs, xs[i], q, by simp [hlt]⟩, Pv (i + 1), fun σ' H' p' => ⟨xs.length - (i + 1), by omega, rfl, hlt, p'⟩, fun x H' y => ?_⟩
    obtain ⟨e, y⟩ := y
    subst e
    exact hs i x σ _ (y xs q) p
  · have e : i = xs.length := by omega
    subst e
    exact .inl ⟨⟨xs, q, Nat.le_refl _⟩, hd σ H p⟩
theorem for_tup {K : PySem.W.Frag} {a : Addr} {xs : List V} {g : TG} {tb : TS} {D : Ends} {σ : St} {H : Hp} (Pv : Nat → St → Hp → Prop) (h0 : Pv 0 σ H) (hl : ∀ i σ H, i ≤ xs.length → Pv i σ H → SqT K H a xs)
    (hs : ∀ i x σ H, xs[i]? = some x → Pv i σ H → g x σ H fun σ2 H2 => tb { D with nx := Pv (i + 1), ct := Pv (i + 1), bk := D.nx } σ2 H2) (hd : ∀ σ H, Pv xs.length σ H → D.nx σ H) :
    ∃ W : Nat → Nat → St → Hp → Prop, (∃ m, W 0 m σ H) ∧ ∀ i m σ H, W i m σ H →
      ((Itt K a).stop i H ∧ D.nx σ H) ∨ ((Itt K a).go i H ∧ ∃ N : St → Hp → Prop, (∀ σ' H', N σ' H' → ∃ m', m' < m ∧ W (i + 1) m' σ' H') ∧ ∀ x H', (Itt K a).yld i H x H' → g x σ H' fun σ2 H2 => tb { D with nx := N, ct := N, bk := D.nx } σ2 H2) := by
  refine ⟨fun i m σ H => m = xs.length - i ∧ i ≤ xs.length ∧ Pv i σ H, ⟨xs.length, by simp, Nat.zero_le _, h0⟩, ?_⟩
  rintro i m σ H ⟨rfl, hi, p⟩
  have q := hl i σ H hi p
  by_cases hlt : i < xs.length
  · refine .inr ⟨⟨xs, xs[i], q, by simp [hlt]⟩, Pv (i + 1), fun σ' H' p' => ⟨xs.length - (i + 1), by omega, rfl, hlt, p'⟩, fun x H' y => ?_⟩
    obtain ⟨e, y⟩ := y
    subst e
    exact hs i x σ _ (y xs q) p
  · have e : i = xs.length := by omega
    subst e
    exact .inl ⟨⟨xs, q, Nat.le_refl _⟩, hd σ H p⟩
theorem for_range {lo : Int} {n : Nat} {g : TG} {tb : TS} {D : Ends} {σ : St} {H : Hp} (Pv : Nat → St → Hp → Prop) (h0 : Pv 0 σ H)
    (hs : ∀ i σ H, i < n → Pv i σ H → g (.int (lo + i)) σ H fun σ2 H2 => tb { D with nx := Pv (i + 1), ct := Pv (i + 1), bk := D.nx } σ2 H2) (hd : ∀ σ H, Pv n σ H → D.nx σ H) :
    ∃ W : Nat → Nat → St → Hp → Prop, (∃ m, W 0 m σ H) ∧ ∀ i m σ H, W i m σ H →
      ((Itr lo n).stop i H ∧ D.nx σ H) ∨ ((Itr lo n).go i H ∧ ∃ N : St → Hp → Prop, (∀ σ' H', N σ' H' → ∃ m', m' < m ∧ W (i + 1) m' σ' H') ∧ ∀ x H', (Itr lo n).yld i H x H' → g x σ H' fun σ2 H2 => tb { D with nx := N, ct := N, bk := D.nx } σ2 H2) := by
  refine ⟨fun i m σ H => m = n - i ∧ i ≤ n ∧ Pv i σ H, ⟨n, by simp, Nat.zero_le _, h0⟩, ?_⟩
  rintro i m σ H ⟨rfl, hi, p⟩
  by_cases hlt : i < n
  · refine .inr ⟨hlt, Pv (i + 1), fun σ' H' p' => ⟨n - (i + 1), by omega, rfl, hlt, p'⟩, fun x H' y => ?_⟩
    obtain ⟨e, y⟩ := y
    subst e y
    exact hs i σ _ hlt p
  · have e : i = n := by omega
    subst e
    exact .inl ⟨Nat.le_refl _, hd σ H p⟩
/-- while, by a word and a measure of the state -/
theorem while_by {c : TT} {tb : TS} {D : Ends} {σ : St} {H : Hp} (Pv : St → Hp → Prop) (μ : St → Hp → Nat) (h0 : Pv σ H)
    (hs : ∀ σ H, Pv σ H → c σ H fun b H1 => if b = true then tb { D with nx := fun σ' H' => Pv σ' H' ∧ μ σ' H' < μ σ H, ct := fun σ' H' => Pv σ' H' ∧ μ σ' H' < μ σ H, bk := D.nx } σ H1 else D.nx σ H1)
    (mono : ∀ σ H Q Q', (∀ b H1, Q b H1 → Q' b H1) → c σ H Q → c σ H Q') : tWhile c tb D σ H := by
  refine ⟨fun m σ H => m = μ σ H ∧ Pv σ H, ⟨_, rfl, h0⟩, ?_⟩
  rintro m σ H ⟨rfl, p⟩
  refine mono σ H _ _ (fun b H1 q => ?_) (hs σ H p)
  cases b with
  | true => exact ⟨_, fun σ' H' ⟨p', l⟩ => ⟨_, l, rfl, p'⟩, q⟩
  | false => exact q
end L2

namespace L2
open PySem PySem.Spec PyProof.Rows

abbrev R2 := V → V → Hp → VK → Prop
/-- a two-place operation on values: f is binaryOp op, inplaceOp op or compareOp op -/
def OpR (X : Cx) (f : Value → Value → Sem Value) (r : R2) : Prop :=
  ∀ (pins : List (Addr × Obj)) (s : Shared) (σ : St) (H : Hp) (x y : V) (v u : Value) (Q : VK), Inv X pins σ H s → RelV x v → RelV y u → r x y H Q →
    wpAny (model X.prog X.w) X.A (f v u) (EP X pins σ Q) X.xe s
/-- a one-place operation -/
def UnR (X : Cx) (f : Value → Sem Value) (r : V → Hp → VK → Prop) : Prop :=
  ∀ (pins : List (Addr × Obj)) (s : Shared) (σ : St) (H : Hp) (x : V) (v : Value) (Q : VK), Inv X pins σ H s → RelV x v → r x H Q →
    wpAny (model X.prog X.w) X.A (f v) (EP X pins σ Q) X.xe s
/-- a call of a value that is known (a builtin, a type) with values -/
def CallR (X : Cx) (f : Value) (r : List V → Hp → VK → Prop) : Prop :=
  ∀ (pins : List (Addr × Obj)) (s : Shared) (σ : St) (H : Hp) (xs : List V) (us : List Value) (Q : VK), Inv X pins σ H s → Vals xs us → r xs H Q →
    wpAny (model X.prog X.w) X.A (call f us) (EP X pins σ Q) X.xe s
/-- a value's truth -/
def TruR (X : Cx) (r : V → Hp → (Bool → Hp → Prop) → Prop) : Prop :=
  ∀ (pins : List (Addr × Obj)) (s : Shared) (σ : St) (H : Hp) (x : V) (v : Value) (Q : Bool → Hp → Prop), Inv X pins σ H s → RelV x v → r x H Q →
    wpAny (model X.prog X.w) X.A (truthy v) (TP X pins σ Q) X.xe s

def tOp (r : R2) (ta tb : TE) : TE := fun σ H Q => ta σ H fun x H1 => tb σ H1 fun y H2 => r x y H2 Q
def tUn (r : V → Hp → VK → Prop) (ta : TE) : TE := fun σ H Q => ta σ H fun x H1 => r x H1 Q
/-- ints in, under C, and a value out -/
def rI (C : Int → Int → Prop) (g : Int → Int → V) : R2 := fun x y H Q => ∃ i j, x = .int i ∧ y = .int j ∧ C i j ∧ Q (g i j) H
def rI0 (g : Int → Int → V) : R2 := fun x y H Q => ∃ i j, x = .int i ∧ y = .int j ∧ Q (g i j) H
def rU (g : Int → V) : V → Hp → VK → Prop := fun x H Q => ∃ i, x = .int i ∧ Q (g i) H

section
variable {X : Cx} {a b c : Expr} {ta tb tc : TE} {pos : Pos}

theorem binT (ha : PE X a ta) (hb : PE X b tb) {pins : List (Addr × Obj)} {s : Shared} {σ : St} {H : Hp} {R : V → V → Hp → Prop} (I : Inv X pins σ H s)
    (h : ta σ H fun x H1 => tb σ H1 fun y H2 => R x y H2) {Q : Value → Shared → Prop} {f : Value → Value → Sem Value}
    (hf : ∀ v u s2 x y H2, Inv X pins σ H2 s2 → RelV x v → RelV y u → R x y H2 → wpAny (model X.prog X.w) X.A (f v u) Q X.xe s2) :
    wpAny (model X.prog X.w) X.A (eval a X.env) (fun v s₁ => wpAny (model X.prog X.w) X.A (eval b X.env) (fun u s₂ => wpAny (model X.prog X.w) X.A (f v u) Q X.xe s₂) X.xe s₁) X.xe s := by
  refine thn (ha pins s σ H _ I h) fun v s1 ⟨x, H1, I1, r1, q1⟩ => ?_
  refine thn (hb pins s1 σ H1 _ I1 q1) fun u s2 ⟨y, H2, I2, r2, q2⟩ => ?_
  exact hf v u s2 x y H2 I2 r1 r2 q2

theorem pe_op {op : Operator} {r : R2} (ho : OpR X (binaryOp op) r) (ha : PE X a ta) (hb : PE X b tb) : PE X (.BinOp a op b pos) (tOp r ta tb) := by
  intro pins s σ H Q I h
  exact wpAny_BinOp (binT ha hb I h fun v u s2 x y H2 I2 rx ry q => ho pins s2 σ H2 x y v u Q I2 rx ry q)
theorem pe_un {op : UnaryOp} {r : V → Hp → VK → Prop} (ho : UnR X (unaryOp op) r) (ha : PE X a ta) : PE X (.UnaryOp op a pos) (tUn r ta) := by
  intro pins s σ H Q I h
  exact UnaryOp_ (thn (ha pins s σ H _ I h) fun v s1 ⟨x, H1, I1, r1, q1⟩ => ho pins s1 σ H1 x v Q I1 r1 q1)
/-- a op= e at a name: the name's slot i -/
theorem augR {op : Operator} {r : R2} (ho : OpR X (inplaceOp op) r) {pins : List (Addr × Obj)} {s : Shared} {σ : St} {H : Hp} {x y : V} {v u : Value} {Q : VK} (I : Inv X pins σ H s)
    (rx : RelV x v) (ry : RelV y u) (q : r x y H Q) : wpAny (model X.prog X.w) X.A (inplaceOp op v u) (EP X pins σ Q) X.xe s := ho pins s σ H x y v u Q I rx ry q

/-! ### ints -/
theorem opI {f : Value → Value → Sem Value} {C : Int → Int → Prop} {g : Int → Int → Int}
    (rule : ∀ (i j : Int) (t u : Tok) (s : Shared) (Q : Value → Shared → Prop) (E : Value → Shared → Prop), C i j → Q (.int (g i j) s.toks) { s with toks := s.toks + 1 } → wpAny (model X.prog X.w) X.A (f (.int i t) (.int j u)) Q E s) :
    OpR X f (rI C fun i j => .int (g i j)) := by
  intro pins s σ H x y v u Q I rx ry h
  obtain ⟨i, j, rfl, rfl, hc, q⟩ := h
  obtain ⟨t, rfl⟩ := rx
  obtain ⟨t', rfl⟩ := ry
  exact rule i j t t' s _ _ hc ⟨.int (g i j), H, I.tok _, ⟨_, rfl⟩, q⟩
theorem opI0 {f : Value → Value → Sem Value} {g : Int → Int → Int}
    (rule : ∀ (i j : Int) (t u : Tok) (s : Shared) (Q : Value → Shared → Prop) (E : Value → Shared → Prop), Q (.int (g i j) s.toks) { s with toks := s.toks + 1 } → wpAny (model X.prog X.w) X.A (f (.int i t) (.int j u)) Q E s) :
    OpR X f (rI0 fun i j => .int (g i j)) := by
  intro pins s σ H x y v u Q I rx ry h
  obtain ⟨i, j, rfl, rfl, q⟩ := h
  obtain ⟨t, rfl⟩ := rx
  obtain ⟨t', rfl⟩ := ry
  exact rule i j t t' s _ _ ⟨.int (g i j), H, I.tok _, ⟨_, rfl⟩, q⟩
theorem opB0 {f : Value → Value → Sem Value} {g : Int → Int → Bool}
    (rule : ∀ (i j : Int) (t u : Tok) (s : Shared) (Q : Value → Shared → Prop) (E : Value → Shared → Prop), Q (.bool (g i j)) s → wpAny (model X.prog X.w) X.A (f (.int i t) (.int j u)) Q E s) :
    OpR X f (rI0 fun i j => .bl (g i j)) := by
  intro pins s σ H x y v u Q I rx ry h
  obtain ⟨i, j, rfl, rfl, q⟩ := h
  obtain ⟨t, rfl⟩ := rx
  obtain ⟨t', rfl⟩ := ry
  exact rule i j t t' s _ _ ⟨.bl (g i j), H, I, rfl, q⟩

def CDiv (i j : Int) : Prop := 0 < j ∧ j < 1073741824
def CDivN (i j : Int) : Prop := j ≠ 0 ∧ j.natAbs < 1073741824
def CPow (i j : Int) : Prop := 0 ≤ j ∧ j ≤ 1000000 ∧ i.natAbs < 2 ^ 64
def CMul (i j : Int) : Prop := (-(2 ^ 64) < i ∧ i < 2 ^ 64) ∨ (-(2 ^ 64) < j ∧ j < 2 ^ 64)
theorem CMul.ok {i j : Int} (h : CMul i j) : IntMulOk i j := by
  rcases h with ⟨h1, h2⟩ | ⟨h1, h2⟩
  · exact .of_left (intBits_le_64 h1 h2)
  · exact .of_right (intBits_le_64 h1 h2)
theorem two_pow_nn (k : Nat) : (0 : Int) ≤ 2 ^ k := by
  rw [two_pow_cast]
  exact Int.natCast_nonneg _

theorem op_add : OpR X (binaryOp .Add) (rI0 fun i j => .int (i + j)) := opI0 fun _ _ _ _ _ _ _ q => add_int q
theorem op_sub : OpR X (binaryOp .Sub) (rI0 fun i j => .int (i - j)) := opI0 fun _ _ _ _ _ _ _ q => sub_int q
theorem op_mul : OpR X (binaryOp .Mult) (rI CMul fun i j => .int (i * j)) := opI fun _ _ _ _ _ _ _ hc q => mul_int q hc.ok
/-- // by a positive divisor -/
theorem op_fdiv : OpR X (binaryOp .FloorDiv) (rI CDiv fun i j => .int (i / j)) := opI fun i j _ _ _ _ _ hc q => by
  have h1 : (0 : Int) < j := hc.1
  have h2 : j < 1073741824 := hc.2
  exact floordiv_int (by omega) (by rw [Int.fdiv_eq_ediv_of_nonneg i (by omega)]; exact q) (.inl (PyProof.noPylong_small (by omega)))
theorem op_fdivN : OpR X (binaryOp .FloorDiv) (rI CDivN fun i j => .int (i.fdiv j)) := opI fun _ _ _ _ _ _ _ hc q => floordiv_int hc.1 q (.inl (PyProof.noPylong_small hc.2))
/-- % by a positive divisor of any size -/
theorem op_mod : OpR X (binaryOp .Mod) (rI (fun _ j => 0 < j) fun i j => .int (i % j)) := opI fun i j _ _ _ _ _ hc q => by
  have h1 : (0 : Int) < j := hc
  exact mod_int' (by omega) (by rw [Int.fmod_eq_emod_of_nonneg i (by omega)]; exact q)
theorem op_modN : OpR X (binaryOp .Mod) (rI (fun _ j => j ≠ 0) fun i j => .int (i.fmod j)) := opI fun _ _ _ _ _ _ _ hc q => mod_int' hc q
theorem op_pow : OpR X (binaryOp .Pow) (rI CPow fun i j => .int (i ^ j.toNat)) := opI fun _ _ _ _ _ _ _ hc q => pow_int_small hc.1 hc.2.1 hc.2.2 q
theorem op_shl : OpR X (binaryOp .LShift) (rI CPow fun i j => .int (i * 2 ^ j.toNat)) := opI fun _ _ _ _ _ _ _ hc q => lshift_int_small hc.1 hc.2.1 hc.2.2 q
theorem op_shr : OpR X (binaryOp .RShift) (rI (fun _ j => 0 ≤ j) fun i j => .int (i / 2 ^ j.toNat)) := opI fun i j _ _ _ _ _ hc q =>
  rshift_int hc (by rw [Int.fdiv_eq_ediv_of_nonneg i (two_pow_nn _)]; exact q)
theorem op_and : OpR X (binaryOp .BitAnd) (rI0 fun i j => .int (Builtin.bitAnd i j)) := opI0 fun _ _ _ _ _ _ _ q => and_int q
theorem op_or : OpR X (binaryOp .BitOr) (rI0 fun i j => .int (Builtin.bitOr i j)) := opI0 fun _ _ _ _ _ _ _ q => or_int q
theorem op_xor : OpR X (binaryOp .BitXor) (rI0 fun i j => .int (Builtin.bitXor i j)) := opI0 fun _ _ _ _ _ _ _ q => xor_int q

theorem iop_add : OpR X (inplaceOp .Add) (rI0 fun i j => .int (i + j)) := opI0 fun _ _ _ _ _ _ _ q => iadd_int q
theorem iop_sub : OpR X (inplaceOp .Sub) (rI0 fun i j => .int (i - j)) := opI0 fun _ _ _ _ _ _ _ q => isub_int q
theorem iop_mul : OpR X (inplaceOp .Mult) (rI CMul fun i j => .int (i * j)) := opI fun _ _ _ _ _ _ _ hc q => imul_int q hc.ok
theorem iop_fdiv : OpR X (inplaceOp .FloorDiv) (rI CDiv fun i j => .int (i / j)) := opI fun i j _ _ _ _ _ hc q => by
  have h1 : (0 : Int) < j := hc.1
  have h2 : j < 1073741824 := hc.2
  exact ifloordiv_int (by omega) (by rw [Int.fdiv_eq_ediv_of_nonneg i (by omega)]; exact q) (.inl (PyProof.noPylong_small (by omega)))
theorem iop_mod : OpR X (inplaceOp .Mod) (rI (fun _ j => 0 < j) fun i j => .int (i % j)) := opI fun i j _ _ _ _ _ hc q => by
  have h1 : (0 : Int) < j := hc
  exact imod_int (by omega) (by rw [Int.fmod_eq_emod_of_nonneg i (by omega)]; exact q)
theorem iop_shl : OpR X (inplaceOp .LShift) (rI CPow fun i j => .int (i * 2 ^ j.toNat)) := opI fun _ _ _ _ _ _ _ hc q => ilshift_int_small hc.1 hc.2.1 hc.2.2 q
theorem iop_shr : OpR X (inplaceOp .RShift) (rI (fun _ j => 0 ≤ j) fun i j => .int (i / 2 ^ j.toNat)) := opI fun i j _ _ _ _ _ hc q =>
  irshift_int hc (by rw [Int.fdiv_eq_ediv_of_nonneg i (two_pow_nn _)]; exact q)
theorem iop_and : OpR X (inplaceOp .BitAnd) (rI0 fun i j => .int (Builtin.bitAnd i j)) := opI0 fun _ _ _ _ _ _ _ q => iand_int q
theorem iop_or : OpR X (inplaceOp .BitOr) (rI0 fun i j => .int (Builtin.bitOr i j)) := opI0 fun _ _ _ _ _ _ _ q => ior_int q
theorem iop_xor : OpR X (inplaceOp .BitXor) (rI0 fun i j => .int (Builtin.bitXor i j)) := opI0 fun _ _ _ _ _ _ _ q => ixor_int q

theorem unI {f : Value → Sem Value} {g : Int → Int}
    (rule : ∀ (i : Int) (t : Tok) (s : Shared) (Q : Value → Shared → Prop) (E : Value → Shared → Prop), Q (.int (g i) s.toks) { s with toks := s.toks + 1 } → wpAny (model X.prog X.w) X.A (f (.int i t)) Q E s) :
    UnR X f (rU fun i => .int (g i)) := by
  intro pins s σ H x v Q I rx h
  obtain ⟨i, rfl, q⟩ := h
  obtain ⟨t, rfl⟩ := rx
  exact rule i t s _ _ ⟨.int (g i), H, I.tok _, ⟨_, rfl⟩, q⟩
theorem un_neg : UnR X (unaryOp .USub) (rU fun i => .int (-i)) := unI fun _ _ _ _ _ q => neg_int q
theorem un_inv : UnR X (unaryOp .Invert) (rU fun i => .int (Builtin.bitNot i)) := unI fun _ _ _ _ _ q => invert_int q

/-! ### bools among ints: n += (a < b) -/
theorem op_add_ib : OpR X (binaryOp .Add) (fun x y H Q => ∃ i k, x = .int i ∧ y = .bl k ∧ Q (.int (i + b2i k)) H) := by
  intro pins s σ H x y v u Q I rx ry h
  obtain ⟨i, k, rfl, rfl, q⟩ := h
  obtain ⟨t, rfl⟩ := rx
  cases ry
  exact add_int_bool ⟨.int (i + b2i k), H, I.tok _, ⟨_, rfl⟩, q⟩
end

/-! ### comparisons -/
/-- the scalars that == tells apart as data does -/
def scal : V → V → Bool
  | .non, .non => true | .non, .int _ => true | .int _, .non => true | .non, .bl _ => true | .bl _, .non => true | .non, .str _ => true | .str _, .non => true
  | .int _, .int _ => true | .bl _, .bl _ => true | .str _, .str _ => true | .byt _, .byt _ => true
  | .int _, .str _ => true | .str _, .int _ => true | .bl _, .str _ => true | .str _, .bl _ => true
  | _, _ => false
def rEq : R2 := fun x y H Q => scal x y = true ∧ Q (.bl (decide (x = y))) H
def rNe : R2 := fun x y H Q => scal x y = true ∧ Q (.bl (!decide (x = y))) H

theorem dec_int {i j : Int} : decide (V.int i = V.int j) = (i == j) := by
  rw [Bool.eq_iff_iff]
  simp
theorem dec_bl {i j : Bool} : decide (V.bl i = V.bl j) = (i == j) := by
  rw [Bool.eq_iff_iff]
  simp
theorem dec_str {i j : Str} : decide (V.str i = V.str j) = (i == j) := by
  rw [Bool.eq_iff_iff]
  simp
theorem dec_byt {i j : Array UInt8} : decide (V.byt i = V.byt j) = (i.toList == j.toList) := by
  rw [Bool.eq_iff_iff]
  cases i
  cases j
  simp

section
variable {X : Cx} {a b c : Expr} {ta tb tc : TE} {pos : Pos}
theorem fin_bl {pins : List (Addr × Obj)} {σ : St} {H : Hp} {s : Shared} {Q : VK} {k k' : Bool} (I : Inv X pins σ H s) (q : Q (.bl k) H) (e : k = k') : EP X pins σ Q (.bool k') s := by
  subst e
  exact ⟨.bl k, H, I, rfl, q⟩
theorem op_eq : OpR X (compareOp .Eq) rEq := by
  intro pins s σ H x y v u Q I rx ry h
  obtain ⟨hs, q⟩ := h
  cases x with
  | non =>
    cases rx
    cases y with
    | non => cases ry; exact PySem.EqNone.eq_none_none (fin_bl I q (by simp))
    | bl j => cases ry; exact PySem.EqNone.eq_none_bool (fin_bl I q (by simp))
    | int j => obtain ⟨t', rfl⟩ := ry; exact PySem.EqNone.eq_none_int (fin_bl I q (by simp))
    | str j => obtain ⟨t', rfl⟩ := ry; exact PySem.EqNone.eq_none_str (fin_bl I q (by simp))
    | _ => exact absurd (show false = true from hs) Bool.false_ne_true
  | bl i =>
    cases rx
    cases y with
    | non => cases ry; exact PySem.EqNone.eq_bool_none (fin_bl I q (by simp))
    | bl j => cases ry; exact eq_bool (fin_bl I q dec_bl)
    | str j => obtain ⟨t', rfl⟩ := ry; exact PySem.EqMixed.eq_bool_str (fin_bl I q (by simp))
    | _ => exact absurd (show false = true from hs) Bool.false_ne_true
  | int i =>
    obtain ⟨t, rfl⟩ := rx
    cases y with
    | non => cases ry; exact PySem.EqNone.eq_int_none (fin_bl I q (by simp))
    | int j => obtain ⟨t', rfl⟩ := ry; exact eq_int (fin_bl I q dec_int)
    | str j => obtain ⟨t', rfl⟩ := ry; exact PySem.EqMixed.eq_int_str (fin_bl I q (by simp))
    | _ => exact absurd (show false = true from hs) Bool.false_ne_true
  | str i =>
    obtain ⟨t, rfl⟩ := rx
    cases y with
    | non => cases ry; exact PySem.EqNone.eq_str_none (fin_bl I q (by simp))
    | bl j => cases ry; exact PySem.EqMixed.eq_str_bool (fin_bl I q (by simp))
    | int j => obtain ⟨t', rfl⟩ := ry; exact PySem.EqMixed.eq_str_int (fin_bl I q (by simp))
    | str j => obtain ⟨t', rfl⟩ := ry; exact eq_str (fin_bl I q dec_str)
    | _ => exact absurd (show false = true from hs) Bool.false_ne_true
  | byt i =>
    obtain ⟨t, rfl⟩ := rx
    cases y with
    | byt j => obtain ⟨t', rfl⟩ := ry; exact PySem.W.eq_bytes (fin_bl I q dec_byt)
    | _ => exact absurd (show false = true from hs) Bool.false_ne_true
  | _ => cases y <;> exact absurd (show false = true from hs) Bool.false_ne_true
theorem op_ne : OpR X (compareOp .NotEq) rNe := by
  intro pins s σ H x y v u Q I rx ry h
  obtain ⟨hs, q⟩ := h
  cases x with
  | non =>
    cases rx
    cases y with
    | non => cases ry; exact PySem.EqNone.ne_none_none (fin_bl I q (by simp))
    | bl j => cases ry; exact PySem.EqNone.ne_none_bool (fin_bl I q (by simp))
    | int j => obtain ⟨t', rfl⟩ := ry; exact PySem.EqNone.ne_none_int (fin_bl I q (by simp))
    | str j => obtain ⟨t', rfl⟩ := ry; exact PySem.EqNone.ne_none_str (fin_bl I q (by simp))
    | _ => exact absurd (show false = true from hs) Bool.false_ne_true
  | bl i =>
    cases rx
    cases y with
    | non => cases ry; exact PySem.EqNone.ne_bool_none (fin_bl I q (by simp))
    | bl j => cases ry; exact ne_bool (fin_bl I q (congrArg not dec_bl))
    | str j => obtain ⟨t', rfl⟩ := ry; exact PySem.EqMixed.ne_bool_str (fin_bl I q (by simp))
    | _ => exact absurd (show false = true from hs) Bool.false_ne_true
  | int i =>
    obtain ⟨t, rfl⟩ := rx
    cases y with
    | non => cases ry; exact PySem.EqNone.ne_int_none (fin_bl I q (by simp))
    | int j => obtain ⟨t', rfl⟩ := ry; exact ne_int (fin_bl I q (congrArg not dec_int))
    | str j => obtain ⟨t', rfl⟩ := ry; exact PySem.EqMixed.ne_int_str (fin_bl I q (by simp))
    | _ => exact absurd (show false = true from hs) Bool.false_ne_true
  | str i =>
    obtain ⟨t, rfl⟩ := rx
    cases y with
    | non => cases ry; exact PySem.EqNone.ne_str_none (fin_bl I q (by simp))
    | bl j => cases ry; exact PySem.EqMixed.ne_str_bool (fin_bl I q (by simp))
    | int j => obtain ⟨t', rfl⟩ := ry; exact PySem.EqMixed.ne_str_int (fin_bl I q (by simp))
    | str j => obtain ⟨t', rfl⟩ := ry; exact ne_str (fin_bl I q (congrArg not dec_str))
    | _ => exact absurd (show false = true from hs) Bool.false_ne_true
  | byt i =>
    obtain ⟨t, rfl⟩ := rx
    cases y with
    | byt j => obtain ⟨t', rfl⟩ := ry; exact PySem.W.ne_bytes (fin_bl I q (congrArg not dec_byt))
    | _ => exact absurd (show false = true from hs) Bool.false_ne_true
  | _ => cases y <;> exact absurd (show false = true from hs) Bool.false_ne_true

theorem op_lt : OpR X (compareOp .Lt) (rI0 fun i j => .bl (decide (i < j))) := opB0 fun _ _ _ _ _ _ _ q => lt_int q
theorem op_le : OpR X (compareOp .LtE) (rI0 fun i j => .bl (decide (i ≤ j))) := opB0 fun _ _ _ _ _ _ _ q => le_int q
theorem op_gt : OpR X (compareOp .Gt) (rI0 fun i j => .bl (decide (j < i))) := opB0 fun _ _ _ _ _ _ _ q => gt_int q
theorem op_ge : OpR X (compareOp .GtE) (rI0 fun i j => .bl (decide (j ≤ i))) := opB0 fun _ _ _ _ _ _ _ q => ge_int q
theorem op_lt_str : OpR X (compareOp .Lt) (fun x y H Q => ∃ i j, x = .str i ∧ y = .str j ∧ Q (.bl (decide (i.cps.toList < j.cps.toList))) H) := by
  intro pins s σ H x y v u Q I rx ry h
  obtain ⟨i, j, rfl, rfl, q⟩ := h
  obtain ⟨t, rfl⟩ := rx
  obtain ⟨t', rfl⟩ := ry
  exact lt_str (fin_bl I q rfl)
/-- the one string within the other -/
theorem op_in_str : OpR X (compareOp .In) (fun x y H Q => ∃ i j, x = .str i ∧ y = .str j ∧ Q (.bl (!(Builtin.Str.occurrences j i 0 j.length 1).isEmpty)) H) := by
  intro pins s σ H x y v u Q I rx ry h
  obtain ⟨i, j, rfl, rfl, q⟩ := h
  obtain ⟨t, rfl⟩ := rx
  obtain ⟨t', rfl⟩ := ry
  exact in_str (fin_bl I q rfl)

/-- is None, is not None: the right side a value none -/
theorem op_isN : OpR X (compareOp .Is) (fun x y H Q => y = .non ∧ Q (.bl (decide (x = .non))) H) := by
  intro pins s σ H x y v u Q I rx ry h
  obtain ⟨rfl, q⟩ := h
  cases ry
  refine is_none_gen (fin_bl I q ?_)
  cases x <;> first
    | (cases rx; rfl)
    | (obtain ⟨t, rfl⟩ := rx; rfl)
theorem op_notN : OpR X (compareOp .IsNot) (fun x y H Q => y = .non ∧ Q (.bl (!decide (x = .non))) H) := by
  intro pins s σ H x y v u Q I rx ry h
  obtain ⟨rfl, q⟩ := h
  cases ry
  refine isnot_none_gen (fin_bl I q ?_)
  cases x <;> first
    | (cases rx; rfl)
    | (obtain ⟨t, rfl⟩ := rx; rfl)

theorem op_notin_str : OpR X (compareOp .NotIn) (fun x y H Q => ∃ i j, x = .str i ∧ y = .str j ∧ Q (.bl (!(!(Builtin.Str.occurrences j i 0 j.length 1).isEmpty))) H) := by
  intro pins s σ H x y v u Q I rx ry h
  obtain ⟨i, j, rfl, rfl, q⟩ := h
  obtain ⟨t, rfl⟩ := rx
  obtain ⟨t', rfl⟩ := ry
  exact notIn_str (fin_bl I q rfl)
/-- is, is not of two objects that are tracked lists or instances -/
def isObj : HO → Bool
  | .lst _ => true
  | .ins _ _ _ => true
  | _ => false
theorem obj_there {pins : List (Addr × Obj)} {s : Shared} {σ : St} {H : Hp} {a : Addr} {o : HO} (I : Inv X pins σ H s) (h : H a = some o) (p : isObj o = true) : ∃ ob, s.heap.get? a = some ob ∧ ob.cls ≠ .type "tuple" := by
  cases o with
  | lst xs =>
    obtain ⟨_, its, n, _, e⟩ : xs.length ≤ sizeLine ∧ ∃ (its : List Value) (n : Nat), Vals xs its ∧ s.heap.get? a = some { cls := .type "list", data := .seq its.toArray n } := I.hok a _ h
    exact ⟨_, e, (by show Value.type "list" ≠ .type "tuple"; decide +kernel)⟩
  | ins C dx fs =>
    have x := I.hok a _ h
    obtain ⟨_, _, _, e, _⟩ := x
    exact ⟨_, e, (by show Value.ref C ≠ .type "tuple"; exact fun z => by cases z)⟩
  | _ => exact absurd (show false = true from p) Bool.false_ne_true
theorem op_is_ref : OpR X (compareOp .Is) (fun x y H Q => ∃ a b oa ob, x = .ref a ∧ y = .ref b ∧ H a = some oa ∧ isObj oa = true ∧ H b = some ob ∧ isObj ob = true ∧ Q (.bl (decide (a = b))) H) := by
  intro pins s σ H x y v u Q I rx ry h
  obtain ⟨a, b, oa, ob, rfl, rfl, ha, pa, hb, pb, q⟩ := h
  cases rx
  cases ry
  obtain ⟨o1, e1, n1⟩ := obj_there I ha pa
  obtain ⟨o2, e2, _⟩ := obj_there I hb pb
  by_cases z : a = b
  · subst z
    exact wpAny_is_ref_self (fin_bl I q (by simp))
  · exact wpAny_is_ref_other z e1 e2 n1 (fin_bl I q (by simp [z]))
theorem op_isnot_ref : OpR X (compareOp .IsNot) (fun x y H Q => ∃ a b oa ob, x = .ref a ∧ y = .ref b ∧ H a = some oa ∧ isObj oa = true ∧ H b = some ob ∧ isObj ob = true ∧ Q (.bl (!decide (a = b))) H) := by
  intro pins s σ H x y v u Q I rx ry h
  obtain ⟨a, b, oa, ob, rfl, rfl, ha, pa, hb, pb, q⟩ := h
  cases rx
  cases ry
  obtain ⟨o1, e1, n1⟩ := obj_there I ha pa
  obtain ⟨o2, e2, _⟩ := obj_there I hb pb
  by_cases z : a = b
  · subst z
    exact wpAny_isNot_ref_self (fin_bl I q (by simp))
  · exact wpAny_isNot_ref_other z e1 e2 n1 (fin_bl I q (by simp [z]))

/-- two rules for one operation: by cases -/
theorem OpR.or {f : Value → Value → Sem Value} {r r' : R2} (h : OpR X f r) (h' : OpR X f r') : OpR X f (fun x y H Q => r x y H Q ∨ r' x y H Q) := by
  intro pins s σ H x y v u Q I rx ry q
  rcases q with q | q
  · exact h pins s σ H x y v u Q I rx ry q
  · exact h' pins s σ H x y v u Q I rx ry q

theorem nomark (b : Expr) {op : CmpOp} (h : op ≠ .In := by decide) (h2 : op ≠ .NotIn := by decide) : behindInMarks op b = false := by
  have e1 : (op == CmpOp.In) = false := by cases op <;> first | rfl | exact absurd rfl h
  have e2 : (op == CmpOp.NotIn) = false := by cases op <;> first | rfl | exact absurd rfl h2
  cases b <;> simp [behindInMarks, e1, e2]
/-- a comparison as a value; hm: nomark b, or (for in, not in) by with_unfolding_all rfl -/
theorem pe_cmpR {op : CmpOp} {r : R2} (ho : OpR X (compareOp op) r) (ha : PE X a ta) (hb : PE X b tb) (hm : behindInMarks op b = false) : PE X (.Compare a [op] [b] pos) (tOp r ta tb) := by
  intro pins s σ H Q I h
  exact wpAny_Compare1 (binT ha hb I h fun v u s2 x y H2 I2 rx ry q => ho pins s2 σ H2 x y v u Q I2 rx ry q) hm
/-- a reading of a value as a test -/
def tTest (t : TE) : TT := fun σ H Q => t σ H fun x H' => ∃ k, x = .bl k ∧ Q k H'
theorem pt_cmpR {op : CmpOp} {r : R2} (ho : OpR X (compareOp op) r) (ha : PE X a ta) (hb : PE X b tb) (hm : behindInMarks op b = false) : PT X (.Compare a [op] [b] pos) (tTest (tOp r ta tb)) := by
  intro pins s σ H Q I h
  refine wpAny_isTrue_Compare1 (thn (ha pins s σ H _ I h) fun v s1 ⟨x, H1, I1, r1, q1⟩ => thn (hb pins s1 σ H1 _ I1 q1) fun u s2 ⟨y, H2, I2, r2, q2⟩ =>
    thn (ho pins s2 σ H2 x y v u _ I2 r1 r2 q2) fun c s3 ⟨z, H3, I3, r3, k, e, q3⟩ => ?_) hm
  subst e
  cases r3
  exact wpAny_truthy_bool ⟨H3, I3, q3⟩
/-- a op1 b op2 c -/
def tChain (r r' : R2) (ta tb tc : TE) : TE := fun σ H Q => ta σ H fun x H1 => tb σ H1 fun y H2 => r x y H2 fun z H3 => ∃ k, z = .bl k ∧
  (if k = true then tc σ H3 fun w' H4 => r' y w' H4 Q else Q (.bl false) H3)
theorem pe_chain {op op' : CmpOp} {r r' : R2} (ho : OpR X (compareOp op) r) (ho' : OpR X (compareOp op') r') (ha : PE X a ta) (hb : PE X b tb) (hc : PE X c tc)
    (hm : lastMarks [op, op'] [b, c] = false := by with_unfolding_all rfl) : PE X (.Compare a [op, op'] [b, c] pos) (tChain r r' ta tb tc) := by
  intro pins s σ H Q I h
  refine Compare_chain (thn (ha pins s σ H _ I h) fun v s1 ⟨x, H1, I1, r1, q1⟩ => chain_link (thn (hb pins s1 σ H1 _ I1 q1) fun u s2 ⟨y, H2, I2, r2, q2⟩ =>
    thn (ho pins s2 σ H2 x y v u _ I2 r1 r2 q2) fun d s3 ⟨z, H3, I3, r3, k, e, q3⟩ => ?_)) hm
  subst e
  cases r3
  refine wpAny_truthy_bool ?_
  cases k with
  | false => exact ite_ff ⟨.bl false, H3, I3, rfl, q3⟩
  | true => exact ite_tt (chain_last (thn (hc pins s3 σ H3 _ I3 q3) fun w' s4 ⟨z', H4, I4, r4, q4⟩ => ho' pins s4 σ H4 y z' u w' Q I4 r2 r4 q4))
theorem pt_chain {op op' : CmpOp} {r r' : R2} (ho : OpR X (compareOp op) r) (ho' : OpR X (compareOp op') r') (ha : PE X a ta) (hb : PE X b tb) (hc : PE X c tc)
    (hm : lastMarks [op, op'] [b, c] = false := by with_unfolding_all rfl) : PT X (.Compare a [op, op'] [b, c] pos) (tTest (tChain r r' ta tb tc)) := by
  intro pins s σ H Q I h
  refine isTrue_chain (thn (ha pins s σ H _ I h) fun v s1 ⟨x, H1, I1, r1, q1⟩ => test_link (thn (hb pins s1 σ H1 _ I1 q1) fun u s2 ⟨y, H2, I2, r2, q2⟩ =>
    thn (ho pins s2 σ H2 x y v u _ I2 r1 r2 q2) fun d s3 ⟨z, H3, I3, r3, k, e, q3⟩ => ?_)) hm
  subst e
  cases r3
  refine wpAny_truthy_bool ?_
  cases k with
  | false =>
    obtain ⟨k', e', q'⟩ := q3
    cases e'
    exact ite_ff ⟨H3, I3, q'⟩
  | true =>
    refine ite_tt (test_last (thn (hc pins s3 σ H3 _ I3 q3) fun w' s4 ⟨z', H4, I4, r4, q4⟩ => thn (ho' pins s4 σ H4 y z' u w' _ I4 r2 r4 q4) fun d' s5 ⟨z2, H5, I5, r5, k2, e2, q5⟩ => ?_))
    subst e2
    cases r5
    exact wpAny_truthy_bool ⟨H5, I5, q5⟩

/-! ### truth -/
/-- a value's truth by the abstract heap -/
def TruV (K : PySem.W.Frag) (x : V) (H : Hp) (k : Bool) : Prop :=
  match x with
  | .non => k = false
  | .bl b => k = b
  | .int i => k = (i != 0)
  | .str y => y.length ≤ sizeLine ∧ k = ((y.length : Int) != 0)
  | .byt y => y.size ≤ sizeLine ∧ k = ((y.size : Int) != 0)
  | .ref p => (∃ xs, SqL K H p xs ∧ k = !xs.isEmpty) ∨ (∃ xs, SqT K H p xs ∧ k = !xs.isEmpty) ∨ ∃ kvs, H p = some (.dK kvs) ∧ k = !kvs.isEmpty
  | _ => False
theorem isEmpty_kv {κ : Type} {kvs : List (κ × V)} {vs : List (κ × Value)} (r : KV kvs vs) : (!vs.isEmpty) = !kvs.isEmpty := by
  cases r <;> rfl
theorem isEmpty_of {xs : List V} {its : List Value} (r : Vals xs its) : (!its.toArray.isEmpty) = !xs.isEmpty := by
  cases r <;> simp
theorem line63 : (sizeLine : Nat) < 2 ^ 63 := by rw [sizeLine_eq]; decide
theorem tru_ok : TruR X (fun x H Q => ∃ k, TruV X.K x H k ∧ Q k H) := by
  intro pins s σ H x v Q I rx h
  obtain ⟨k, e, q⟩ := h
  have hl := line63
  have hs : sizeLine = 16777216 := sizeLine_eq
  cases x with
  | non =>
    cases rx
    have e' : k = false := e
    subst e'
    exact truthy_none ⟨H, I, q⟩
  | bl b =>
    cases rx
    have e' : k = b := e
    subst e'
    exact wpAny_truthy_bool ⟨H, I, q⟩
  | int i =>
    obtain ⟨t, rfl⟩ := rx
    have e' : k = (i != 0) := e
    subst e'
    exact PySem.P.truthy_int ⟨H, I, q⟩
  | str y =>
    obtain ⟨t, rfl⟩ := rx
    obtain ⟨hy, e'⟩ : y.length ≤ sizeLine ∧ k = ((y.length : Int) != 0) := e
    subst e'
    exact PySem.P.truthy_str (by omega) ⟨H, I.tok _, q⟩
  | byt y =>
    obtain ⟨t, rfl⟩ := rx
    obtain ⟨hy, e'⟩ : y.size ≤ sizeLine ∧ k = ((y.size : Int) != 0) := e
    subst e'
    exact PySem.W.truthy_bytes (by omega) ⟨H, I.tok _, q⟩
  | ref p =>
    cases rx
    have e' : (∃ xs, SqL X.K H p xs ∧ k = !xs.isEmpty) ∨ (∃ xs, SqT X.K H p xs ∧ k = !xs.isEmpty) ∨ ∃ kvs, H p = some (.dK kvs) ∧ k = !kvs.isEmpty := e
    rcases e' with ⟨xs, hx, e'⟩ | ⟨xs, hx, e'⟩ | ⟨kvs, hx, e'⟩
    · subst e'
      obtain ⟨its, r, pl, hz⟩ := I.list hx
      have hlen := r.length
      exact wpAny_truthy_list pl.isList (by simp only [List.size_toArray]; omega) ⟨H, I.tok _, by rw [isEmpty_of r]; exact q⟩
    · subst e'
      obtain ⟨its, r, pl, hz⟩ := I.tuple hx
      have hlen := r.length
      exact truthy_tuple pl (by simp only [List.size_toArray]; omega) ⟨H, I.tok _, by rw [isEmpty_of r]; exact q⟩
    · subst e'
      obtain ⟨hz, hS, vs, r, m⟩ : kvs.length ≤ sizeLine ∧ (p == sysModules) = false ∧ ∃ vs, KV kvs vs ∧ s.heap.DictOf (mixKind X.prog X.w) p vs := I.hok p _ hx
      have hlen : kvs.length = vs.length := Paired.length r
      exact wpAny_truthy_dict hS m (by omega) ⟨H, I.tok _, by rw [isEmpty_kv r]; exact q⟩
  | _ => exact (show False from e).elim
/-- any expression whose test is its value's truth (a name, a call, a subscript, a field ..: he by fun _ => rfl) -/
theorem pt_truth (ha : PE X a ta) (he : ∀ whole, isTrue a X.env whole = (do let v ← whole; standAt a.pos; holding [v] (truthy v))) :
    PT X a (fun σ H Q => ta σ H fun x H' => ∃ k, TruV X.K x H' k ∧ Q k H') := by
  intro pins s σ H Q I h
  exact isTrue_plain (thn (ha pins s σ H _ I h) fun v s1 ⟨x, H1, I1, r1, q1⟩ => tru_ok pins s1 σ H1 x v Q I1 r1 q1) (he _)

/-! ### strs and bytes -/
theorem pe_byt {x : List UInt8} {k : Nat} : PE X (.Constant (.bytes x) k pos) (fun _ H Q => Q (.byt x.toArray) H) := fun _ _ _ H _ I h => PySem.W.Constant_bytes ⟨.byt x.toArray, H, I.tok _, ⟨_, rfl⟩, h⟩
theorem op_add_str : OpR X (binaryOp .Add) (fun x y H Q => ∃ i j, x = .str i ∧ y = .str j ∧ i.length + j.length ≤ sizeLine ∧ Q (.str (i ++ j)) H) := by
  intro pins s σ H x y v u Q I rx ry h
  obtain ⟨i, j, rfl, rfl, hz, q⟩ := h
  obtain ⟨t, rfl⟩ := rx
  obtain ⟨t', rfl⟩ := ry
  exact add_str (fun t' tk => ⟨.str (i ++ j), H, I.tok _, ⟨_, rfl⟩, q⟩) hz
theorem iop_add_str : OpR X (inplaceOp .Add) (fun x y H Q => ∃ i j, x = .str i ∧ y = .str j ∧ i.length + j.length ≤ sizeLine ∧ Q (.str (i ++ j)) H) := by
  intro pins s σ H x y v u Q I rx ry h
  obtain ⟨i, j, rfl, rfl, hz, q⟩ := h
  obtain ⟨t, rfl⟩ := rx
  obtain ⟨t', rfl⟩ := ry
  exact iadd_str (fun t' tk => ⟨.str (i ++ j), H, I.tok _, ⟨_, rfl⟩, q⟩) hz
theorem op_add_byt : OpR X (binaryOp .Add) (fun x y H Q => ∃ i j, x = .byt i ∧ y = .byt j ∧ i.size + j.size ≤ 16777216 ∧ Q (.byt (i ++ j)) H) := by
  intro pins s σ H x y v u Q I rx ry h
  obtain ⟨i, j, rfl, rfl, hz, q⟩ := h
  obtain ⟨t, rfl⟩ := rx
  obtain ⟨t', rfl⟩ := ry
  exact PySem.W.KBy.add_bytes hz (fun t' tk => ⟨.byt (i ++ j), H, I.tok _, ⟨_, rfl⟩, q⟩)

def PlainIxT (b : Expr) : Prop := ∀ o i, subscripted b false o i = operate [o, i] (getItem o i)
/-- s[i], 0 ≤ i < len -/
theorem pe_item_str (ha : PE X a ta) (hb : PE X b tb) (hs : PlainIxT b) :
    PE X (.Subscript a b pos) (tOp (fun x y H Q => ∃ z i c, x = .str z ∧ y = .int i ∧ 0 ≤ i ∧ i < 2 ^ 63 ∧ i < z.length ∧ z.cps[i.toNat]? = some c ∧ Q (.str ⟨#[c]⟩) H) ta tb) := by
  intro pins s σ H Q I h
  refine Subscript_ (binT ha hb I h fun v u s2 x y H2 I2 rx ry q => ?_)
  obtain ⟨z, i, c, rfl, rfl, h0, h63, h1, hc, q⟩ := q
  obtain ⟨t, rfl⟩ := rx
  obtain ⟨t', rfl⟩ := ry
  have e : seqIndex? i z.length = some i.toNat := PySem.StrLaws.seqIndex_nonneg h0 h1
  exact tail_any (typeIs_str s2 z t) slot_str_getitem.lookup (getItem_str (c := c) (by
    have e1 : decide (i < -(2 ^ 63 : Int)) = false := decide_eq_false (by omega)
    have e2 : decide (i ≥ 2 ^ 63) = false := decide_eq_false (by omega)
    rw [e1, e2] <;> rfl) (by rw [e]; exact hc) ⟨.str ⟨#[c]⟩, H2, I2.tok _, ⟨_, rfl⟩, q⟩) (hs _ _)
/-- b[i], 0 ≤ i < len -/
theorem pe_item_byt (ha : PE X a ta) (hb : PE X b tb) (hs : PlainIxT b) :
    PE X (.Subscript a b pos) (tOp (fun x y H Q => ∃ (z : List UInt8) (i : Int), x = .byt z.toArray ∧ y = .int i ∧ z.length ≤ sizeLine ∧ 0 ≤ i ∧ i < z.length ∧ Q (.int ((z.getD i.toNat 0).toNat : Nat)) H) ta tb) := by
  intro pins s σ H Q I h
  refine Subscript_ (binT ha hb I h fun v u s2 x y H2 I2 rx ry q => ?_)
  obtain ⟨z, i, rfl, rfl, hz, h0, h1, q⟩ := q
  obtain ⟨t, rfl⟩ := rx
  obtain ⟨t', rfl⟩ := ry
  have hl : sizeLine = 16777216 := sizeLine_eq
  exact tail_any (PySem.W.typeIs_bytes s2 z.toArray t) PySem.W.FB.slot_bytes_getitem.lookup (PySem.W.getItem_bytes (by omega) h0 h1 ⟨.int ((z.getD i.toNat 0).toNat : Nat), H2, I2.tok _, ⟨_, rfl⟩, q⟩) (hs _ _)

/-! ### scalar builtins, by CallR -/
theorem vals1 {x : V} {us : List Value} (r : Vals [x] us) : ∃ u, us = [u] ∧ RelV x u := by
  cases r with
  | cons r1 r2 => cases r2; exact ⟨_, rfl, r1⟩
theorem vals2 {x y : V} {us : List Value} (r : Vals [x, y] us) : ∃ u w', us = [u, w'] ∧ RelV x u ∧ RelV y w' := by
  cases r with
  | cons r1 r2 =>
    cases r2 with
    | cons r3 r4 => cases r4; exact ⟨_, _, rfl, r1, r3⟩
theorem call_abs : CallR X (.builtin "abs") (fun xs H Q => ∃ i, xs = [.int i] ∧ Q (.int (if i < 0 then -i else i)) H) := by
  intro pins s σ H xs us Q I r h
  obtain ⟨i, rfl, q⟩ := h
  obtain ⟨u, rfl, t, rfl⟩ := vals1 r
  exact call_abs_int fun u tk => ⟨.int (if i < 0 then -i else i), H, I.tok _, ⟨_, rfl⟩, q⟩
theorem call_max2 (hc : X.calm = true) : CallR X (.builtin "max") (fun xs H Q => ∃ i j, xs = [.int i, .int j] ∧ Q (.int (if j > i then j else i)) H) := by
  intro pins s σ H xs us Q I r h
  obtain ⟨i, j, rfl, q⟩ := h
  obtain ⟨u, w', rfl, ⟨t, rfl⟩, ⟨t', rfl⟩⟩ := vals2 r
  refine max_two_ints (I.ok.hd hc) fun h' tk k => ⟨_, H, I.kept k, ?_, q⟩
  by_cases hj : j > i
  · rw [if_pos hj, if_pos hj]; exact ⟨_, rfl⟩
  · rw [if_neg hj, if_neg hj]; exact ⟨_, rfl⟩
theorem call_min2 (hc : X.calm = true) : CallR X (.builtin "min") (fun xs H Q => ∃ i j, xs = [.int i, .int j] ∧ Q (.int (if j < i then j else i)) H) := by
  intro pins s σ H xs us Q I r h
  obtain ⟨i, j, rfl, q⟩ := h
  obtain ⟨u, w', rfl, ⟨t, rfl⟩, ⟨t', rfl⟩⟩ := vals2 r
  refine min_two_ints (I.ok.hd hc) fun h' tk k => ⟨_, H, I.kept k, ?_, q⟩
  by_cases hj : j < i
  · rw [if_pos hj, if_pos hj]; exact ⟨_, rfl⟩
  · rw [if_neg hj, if_neg hj]; exact ⟨_, rfl⟩
theorem call_int1 : CallR X (.type "int") (fun xs H Q => (∃ i, xs = [.int i] ∧ Q (.int i) H) ∨ ∃ k, xs = [.bl k] ∧ Q (.int (if k then 1 else 0)) H) := by
  intro pins s σ H xs us Q I r h
  rcases h with ⟨i, rfl, q⟩ | ⟨k, rfl, q⟩
  · obtain ⟨u, rfl, t, rfl⟩ := vals1 r
    exact call_int_int ⟨.int i, H, I, ⟨_, rfl⟩, q⟩
  · obtain ⟨u, rfl, r1⟩ := vals1 r
    cases r1
    exact call_int_bool ⟨.int (if k then 1 else 0), H, I.tok _, ⟨_, rfl⟩, q⟩
theorem call_bool1 : CallR X (.type "bool") (fun xs H Q => (∃ i, xs = [.int i] ∧ Q (.bl (i != 0)) H) ∨ ∃ k, xs = [.bl k] ∧ Q (.bl k) H) := by
  intro pins s σ H xs us Q I r h
  rcases h with ⟨i, rfl, q⟩ | ⟨k, rfl, q⟩
  · obtain ⟨u, rfl, t, rfl⟩ := vals1 r
    exact call_bool_int ⟨.bl (i != 0), H, I, rfl, q⟩
  · obtain ⟨u, rfl, r1⟩ := vals1 r
    cases r1
    exact call_bool_bool ⟨.bl k, H, I, rfl, q⟩
theorem call_str_int : CallR X (.type "str") (fun xs H Q => ∃ i, xs = [.int i] ∧ i.natAbs.log2 < 1920 ∧ Q (.str (toString i)) H) := by
  intro pins s σ H xs us Q I r h
  obtain ⟨i, rfl, hz, q⟩ := h
  obtain ⟨u, rfl, t, rfl⟩ := vals1 r
  exact PySem.P.str_of_int hz ⟨.str _, H, I.tok _, ⟨_, rfl⟩, q⟩
theorem call_ord : CallR X (.builtin "ord") (fun xs H Q => ∃ x, xs = [.str x] ∧ x.length = 1 ∧ Q (.int (x.cps.getD 0 0 : Nat)) H) := by
  intro pins s σ H xs us Q I r h
  obtain ⟨x, rfl, hz, q⟩ := h
  obtain ⟨u, rfl, t, rfl⟩ := vals1 r
  exact ord_of_one hz ⟨.int _, H, I.tok _, ⟨_, rfl⟩, q⟩
theorem call_chr : CallR X (.builtin "chr") (fun xs H Q => ∃ i, xs = [.int i] ∧ 0 ≤ i ∧ i ≤ 1114111 ∧ Q (.str ⟨#[i.toNat]⟩) H) := by
  intro pins s σ H xs us Q I r h
  obtain ⟨i, rfl, h0, h1, q⟩ := h
  obtain ⟨u, rfl, t, rfl⟩ := vals1 r
  exact chr_of_range h0 h1 ⟨.str _, H, I.tok _, ⟨_, rfl⟩, q⟩
/-- len of a str, a bytes, a list, a tuple -/
def LenV (K : PySem.W.Frag) (x : V) (H : Hp) (n : Nat) : Prop :=
  match x with
  | .str y => y.length ≤ sizeLine ∧ n = y.length
  | .byt y => y.size ≤ sizeLine ∧ n = y.size
  | .ref p => (∃ xs, SqL K H p xs ∧ n = xs.length) ∨ ∃ xs, SqT K H p xs ∧ n = xs.length
  | _ => False
theorem call_len : CallR X (.builtin "len") (fun xs H Q => ∃ x n, xs = [x] ∧ LenV X.K x H n ∧ Q (.int n) H) := by
  intro pins s σ H xs us Q I r h
  obtain ⟨x, n, rfl, e, q⟩ := h
  obtain ⟨u, rfl, rx⟩ := vals1 r
  have hl := line63
  have hs : sizeLine = 16777216 := sizeLine_eq
  cases x with
  | str y =>
    obtain ⟨t, rfl⟩ := rx
    obtain ⟨hy, e'⟩ : y.length ≤ sizeLine ∧ n = y.length := e
    subst e'
    exact len_str (by omega) ⟨.int _, H, I.tok _, ⟨_, rfl⟩, q⟩
  | byt y =>
    obtain ⟨t, rfl⟩ := rx
    obtain ⟨hy, e'⟩ : y.size ≤ sizeLine ∧ n = y.size := e
    subst e'
    exact PySem.W.len_bytes (by omega) ⟨.int _, H, I.tok _, ⟨_, rfl⟩, q⟩
  | ref p =>
    cases rx
    have e' : (∃ xs, SqL X.K H p xs ∧ n = xs.length) ∨ ∃ xs, SqT X.K H p xs ∧ n = xs.length := e
    rcases e' with ⟨xs, hx, e'⟩ | ⟨xs, hx, e'⟩
    · subst e'
      obtain ⟨its, r', pl, hz⟩ := I.list hx
      have hlen := r'.length
      exact Calls.call_len_list pl.isList (by simp only [List.size_toArray]; omega) ⟨.int xs.length, H, I.tok _, ⟨_, by simp only [List.size_toArray]; rw [hlen]⟩, q⟩
    · subst e'
      obtain ⟨its, r', pl, hz⟩ := I.tuple hx
      have hlen := r'.length
      exact len_tuple pl (by simp only [List.size_toArray]; omega) ⟨.int xs.length, H, I.tok _, ⟨_, by simp only [List.size_toArray]; rw [hlen]⟩, q⟩
  | _ => exact (show False from e).elim
/-- divmod: a new tuple -/
theorem call_divmod : CallR X (.builtin "divmod") (fun xs H Q => ∃ i j, xs = [.int i, .int j] ∧ CDiv i j ∧ ∀ p, H p = none → Q (.ref p) (upd H p (.tup [.int (i / j), .int (i % j)]))) := by
  intro pins s σ H xs us Q I r h
  obtain ⟨i, j, rfl, ⟨h1, h2⟩, q⟩ := h
  obtain ⟨u, w', rfl, ⟨t, rfl⟩, ⟨t', rfl⟩⟩ := vals2 r
  refine divmod_int (by omega) ?_ (.inl (PyProof.noPylong_small (by omega)))
  rw [Int.fdiv_eq_ediv_of_nonneg i (by omega), Int.fmod_eq_emod_of_nonneg i (by omega)]
  have hn : H s.heap.objs.size = none := I.hok.fresh (Nat.le_refl _)
  refine ⟨.ref s.heap.objs.size, _, ?_, rfl, q _ hn⟩
  refine I.laid (fun b o e => Heap.get?_push_of_some _ e) (Nat.le_refl _) ⟨by simp only [List.length_cons, List.length_nil]; rw [sizeLine_eq]; decide, [.int (i / j) s.toks, .int (i % j) (s.toks + 1)], .cons ⟨_, rfl⟩ (.cons ⟨_, rfl⟩ .nil), ?_⟩
  exact ⟨_, Heap.get?_push_size s.heap rfl, rfl, 0, rfl⟩
end
end L2

namespace L2
open PySem PySem.Spec PyProof.Rows

/-! ### an instance, its attributes a map -/
structure ObjM (h : Heap) (x dx C : Addr) (mA : Str → Option Value) : Prop where
  obj : h.get? x = some (PySem.W.instObj C dx)
  ns : h.Ns1 dx mA
  ne : dx ≠ x

theorem lookIn_ns {h : Heap} {dx : Addr} {mA : Str → Option Value} (n : h.Ns1 dx mA) : ∃ od, h.get? dx = some od ∧ ∀ name, PySem.W.lookIn name od = some (mA name) := by
  obtain ⟨o, es, ep, ho, hd, hk, _, hm⟩ := n
  refine ⟨o, ho, fun name => ?_⟩
  have e := hm name
  unfold nsFind findBy at e
  rw [← Array.find?_toList] at e
  unfold PySem.W.lookIn
  rw [hd]
  dsimp only
  split
  · rename_i y q
    rw [q] at e
    exact congrArg some e
  · rename_i q
    rw [q] at e
    have a : es.toList.any (·.refKey) = false := by
      rw [List.any_eq_false]
      intro y hy
      obtain ⟨z, t, hkey⟩ := hk y (Array.mem_toList_iff.mp hy)
      simp [DictEntry.refKey, hkey]
    have a' : ¬ es.toList.any (·.refKey) = true := by rw [a]; exact Bool.false_ne_true
    rw [if_neg a']
    exact congrArg some e

theorem ObjM.look {h : Heap} {x dx C : Addr} {mA : Str → Option Value} (I : ObjM h x dx C mA) : ∃ od, PySem.W.InstAt h x (PySem.W.instObj C dx) C (some od) ∧ ∀ name, PySem.W.lookIn name od = some (mA name) :=
  let ⟨od, ho, hl⟩ := lookIn_ns I.ns
  ⟨od, ⟨I.obj, rfl, rfl, ho⟩, hl⟩

section
variable {prog : Program} {w : World} {A : Around} {E : Value → Shared → Prop} {s : Shared} {K : PySem.W.Frag} {x dx C f : Addr} {mA : Str → Option Value} {name : Str} {v : Value}

theorem get_map {expr : Bool} {Q : Value → Shared → Prop} (X : K.In s.heap) (I : ObjM s.heap x dx C mA) (hg : PySem.W.plainGet K C name = true) (hh : PySem.W.hasDictIn K C = true)
    (ha : PySem.W.findIn K (.ref C) name = some none) (hv : mA name = some v) (hv' : PySem.W.handedIn v = true) (h : Q v { s with toks := s.toks + 1 }) :
    wpAny (model prog w) A (getAttr (.ref x) name expr) Q E s := by
  obtain ⟨od, J, hl⟩ := I.look
  exact PySem.W.get_value X J (PySem.W.plainGet_of hg).1 (PySem.W.findObj_own hh ha rfl (by rw [hl, hv])) hv' h

theorem get_const {expr : Bool} {a : Value} {Q : Value → Shared → Prop} (X : K.In s.heap) (I : ObjM s.heap x dx C mA) (hg : PySem.W.plainGet K C name = true) (hh : PySem.W.hasDictIn K C = true)
    (ha : PySem.W.findIn K (.ref C) name = some (some a)) (hn : PySem.W.specialIn K a "__get__" = some none) (hc : PySem.W.copiedNames.contains name = false) (hv : mA name = none) (hv' : PySem.W.handedIn a = true)
    (h : Q a { s with toks := s.toks + 1 }) : wpAny (model prog w) A (getAttr (.ref x) name expr) Q E s := by
  obtain ⟨od, J, hl⟩ := I.look
  exact PySem.W.get_value X J (PySem.W.plainGet_of hg).1 (PySem.W.findObj_cls hh ha hn hv' hc (by rw [hl, hv])) hv' h

theorem get_meth {pl : Sem Bool} {Q : Value × List Value → Shared → Prop} (X : K.In s.heap) (I : ObjM s.heap x dx C mA) (hg : PySem.W.plainGet K C name = true)
    (hf : PySem.W.findIn K (.ref C) name = some (some (.ref f))) (ht : PySem.W.isFn K (.ref f) = true) (hv : mA name = none) (h : Q (.ref f, [.ref x]) s) :
    wpAny (model prog w) A (getMethod (.ref x) name pl) Q E s := by
  obtain ⟨od, J, hl⟩ := I.look
  exact PySem.W.method_fn X J (PySem.W.plainGet_of hg).1 (PySem.W.plainGet_of hg).2 hf (beq_iff_eq.mp ht) (by show (PySem.W.lookIn name od).map (·.isSome) = some false; rw [hl, hv]; rfl) h

theorem set_map {ns : List Str} {Q : Unit → Shared → Prop} (X : K.In s.heap) (I : ObjM s.heap x dx C mA)
    (hs : PySem.W.findIn K (.ref C) "__setattr__" = some (some (.builtin "object.__setattr__"))) (hp : PySem.W.plainOver K C = true) (ht : PySem.W.takerIn K C name = some none) (hh : PySem.W.hasDictIn K C = true)
    (hw : PySem.Within mA ns) (hsz : ns.length ≤ sizeLine)
    (h : ∀ h', ObjM h' x dx C (fun y => if y = name then some v else mA y) → Heap.SameBut dx s.heap h' → Q () { s with heap := h', toks := s.toks + 2 }) :
    wpAny (model prog w) A (setAttr (.ref x) name v) Q E s := by
  obtain ⟨od, J, hl⟩ := I.look
  refine PySem.W.set_plain X J hs (PySem.W.osa_open (s := { s with toks := s.toks + 1 }) (r := none) X J hp ht fun b => ?_)
  obtain ⟨cd, hc, hd'⟩ := PySem.W.any_some hh
  have hx : s.heap.get? x = some ⟨.ref C, some dx, .plain, #[]⟩ := I.obj
  refine wpAny_bind (wpAny_pure (wpAny_bind (wpAny_bind (wpAny_loadPart hx (wpAny_bind (PySem.W.Looks.here (s := { s with toks := s.toks + 1 }) (PySem.W.looks_clsIn X hc) ?_))))))
  rw [hd']
  refine wpAny_pure (a := some dx) (wpAny_bind (wpAny_pure (wpAny_bind ?_)))
  refine wpAny_nsSet1 (s := { s with toks := s.toks + 1 }) I.ns fun h' hn2 hs2 => ?_
  obtain ⟨oD, esD, epD, hoD, hdD, hcD⟩ := hn2.count (PySem.Within.cons name v hw)
  refine wpAny_bind (wpAny_lookBehind hoD (by rw [hdD]; exact pastItsLine_dict (Nat.le_trans hcD (by rw [List.length_cons]; omega))) ?_)
  exact wpAny_pure (h _ ⟨(hs2.2 _ (Ne.symm I.ne)).trans I.obj, hn2, I.ne⟩ hs2)

/-- C(..): the dict at the heap's end, the instance behind it; then its __init__ -/
theorem make_map {R : Result → Shared → Prop} {vs : List Value} {kw : List (Str × Value)} (X : K.In s.heap) (hm : PySem.W.makesIn K C = true)
    (hi : PySem.W.findIn K (.ref C) "__init__" = some (some (.ref f))) (hf : PySem.W.typeIn K (.ref f) = some (.type "function"))
    (h : codeAny (model prog w) (A.under (.builtin "type.__call__" ⟨.ref C :: vs, kw⟩)) (.call (.ref f) ⟨.ref (s.heap.objs.size + 1) :: vs, kw⟩) (PySem.W.InitBack (s.heap.objs.size + 1) R)
      { s with heap := (s.heap.push PySem.W.emptyDict).push (PySem.W.instObj C s.heap.objs.size) }) :
    codeAny (model prog w) A (.call (.ref C) ⟨vs, kw⟩) R s := by
  obtain ⟨hh, g, d, t, os⟩ := s
  exact PySem.W.make_core (PySem.W.makes_of X hm) (PySem.W.looks_findIn X hi) (fun self => PySem.W.bind_fn X self hf) (.inl rfl) h
/-- C() where there is no __init__ but object's -/
theorem make_map0 {R : Result → Shared → Prop} (X : K.In s.heap) (hm : PySem.W.makesIn K C = true)
    (hi : PySem.W.findIn K (.ref C) "__init__" = some (some (.builtin "object.__init__")))
    (hb : ∀ self, PySem.W.Looks (model prog w) s.heap (bindSpecial (.builtin "object.__init__") self) (.builtin "object.__init__", [self]))
    (h : codeAny (model prog w) (A.under (.builtin "type.__call__" ⟨[.ref C], []⟩)) (.call (.builtin "object.__init__") ⟨[.ref (s.heap.objs.size + 1)], []⟩) (PySem.W.InitBack (s.heap.objs.size + 1) R)
      { s with heap := (s.heap.push PySem.W.emptyDict).push (PySem.W.instObj C s.heap.objs.size) }) :
    codeAny (model prog w) A (.call (.ref C) ⟨[], []⟩) R s := by
  obtain ⟨hh, g, d, t, os⟩ := s
  exact PySem.W.make_core (PySem.W.makes_of X hm) (PySem.W.looks_findIn X hi) hb (.inr ⟨rfl, rfl⟩) h
end

/-! ### the attributes as a list of pairs -/
def putF (f : Str) (v : V) : List (Str × V) → List (Str × V)
  | [] => [(f, v)]
  | (g, x) :: r => if g = f then (g, v) :: r else (g, x) :: putF f v r
theorem lookup_putF (f g : Str) (v : V) : ∀ fs : List (Str × V), (putF f v fs).lookup g = if g = f then some v else fs.lookup g
  | [] => by
    show List.lookup g [(f, v)] = _
    by_cases h : g = f
    · have hb : (g == f) = true := beq_iff_eq.mpr h
      simp only [List.lookup, hb, if_pos h]
    · have hb : (g == f) = false := beq_eq_false_iff_ne.mpr h
      simp only [List.lookup, hb, if_neg h]
  | (k, x) :: r => by
    have ih := lookup_putF f g v r
    rw [show putF f v ((k, x) :: r) = (if k = f then (k, v) :: r else (k, x) :: putF f v r) from rfl]
    by_cases hk : k = f
    · rw [if_pos hk]
      by_cases h : g = k
      · have hb : (g == k) = true := beq_iff_eq.mpr h
        simp only [List.lookup, hb, if_pos (h.trans hk)]
      · have hb : (g == k) = false := beq_eq_false_iff_ne.mpr h
        simp only [List.lookup, hb, if_neg (fun e : g = f => h (e.trans hk.symm))]
    · rw [if_neg hk]
      by_cases h : g = k
      · have hb : (g == k) = true := beq_iff_eq.mpr h
        simp only [List.lookup, hb, if_neg (fun e : g = f => hk (h.symm.trans e))]
      · have hb : (g == k) = false := beq_eq_false_iff_ne.mpr h
        simp only [List.lookup, hb]
        exact ih
theorem keys_putF (f : Str) (v : V) : ∀ fs : List (Str × V), f ∈ (putF f v fs).map (·.1) ∧ ∀ g, g ∈ fs.map (·.1) → g ∈ (putF f v fs).map (·.1)
  | [] => ⟨by simp [putF], fun g h => by simp at h⟩
  | (k, x) :: r => by
    obtain ⟨i1, i2⟩ := keys_putF f v r
    rw [show putF f v ((k, x) :: r) = (if k = f then (k, v) :: r else (k, x) :: putF f v r) from rfl]
    by_cases hk : k = f
    · rw [if_pos hk]
      subst hk
      exact ⟨by simp, fun g h => by simpa using h⟩
    · rw [if_neg hk]
      refine ⟨?_, fun g h => ?_⟩
      · rw [List.map_cons]
        exact List.mem_cons_of_mem _ i1
      · rw [List.map_cons] at h ⊢
        rcases List.mem_cons.mp h with e | e
        · exact List.mem_cons.mpr (.inl e)
        · exact List.mem_cons_of_mem _ (i2 g e)
theorem length_putF (f : Str) (v : V) : ∀ fs : List (Str × V), (putF f v fs).length ≤ fs.length + 1
  | [] => by simp [putF]
  | (k, x) :: r => by
    have ih := length_putF f v r
    rw [show putF f v ((k, x) :: r) = (if k = f then (k, v) :: r else (k, x) :: putF f v r) from rfl]
    by_cases hk : k = f
    · rw [if_pos hk, List.length_cons, List.length_cons]; omega
    · rw [if_neg hk, List.length_cons, List.length_cons]; omega

theorem RelO.some_of {v : V} {o : Option Value} (r : RelO (some v) o) : ∃ u, o = some u ∧ RelV v u := by
  cases o with
  | none => exact (show False from r).elim
  | some u => exact ⟨u, rfl, r⟩
theorem RelO.none_of {o : Option Value} (r : RelO none o) : o = none := by
  cases o with
  | none => rfl
  | some u => exact (show False from r).elim
theorem handed_of {v : V} {u : Value} (r : RelV v u) : PySem.W.handedIn u = true := by
  cases v with
  | non => cases (show u = Value.none from r); rfl
  | bl b => cases (show u = Value.bool b from r); rfl
  | int i => obtain ⟨t, e⟩ := (show ∃ t, u = Value.int i t from r); cases e; rfl
  | str x => obtain ⟨t, e⟩ := (show ∃ t, u = Value.str x t from r); cases e; rfl
  | byt b => obtain ⟨t, e⟩ := (show ∃ t, u = Value.bytes b t from r); cases e; rfl
  | flt b => obtain ⟨t, e⟩ := (show ∃ t, u = Value.float b t from r); cases e; rfl
  | ref a => cases (show u = Value.ref a from r); rfl
  | ty n => cases (show u = Value.type n from r); rfl

section
variable {P : Program} {w : World} {H H' : Hp} {h h' : Heap} {a C dx : Addr} {fs fs' : List (Str × V)}
theorem ins_get (hok : HOk P w H h) (e : H a = some (.ins C dx fs)) : ∃ mA, ObjM h a dx C mA ∧ (∀ f, RelO (fs.lookup f) (mA f)) ∧ PySem.Within mA (fs.map (·.1)) ∧ fs.length ≤ 1000 ∧ H dx = some (.own a) := by
  obtain ⟨d, z, ne, ob, mA, n, r, q⟩ := (show ObjOk P w H h a (.ins C dx fs) from hok a _ e)
  exact ⟨mA, ⟨ob, n, ne⟩, r, q, z, d⟩
end

/-! ### what of the text a class must have -/
structure Cls (K : PySem.W.Frag) (C : Addr) : Prop where
  pg : PySem.W.plainGet K C Str.empty = true
  hd : PySem.W.hasDictIn K C = true
  po : PySem.W.plainOver K C = true
  sa : PySem.W.findIn K (.ref C) "__setattr__" = some (some (.builtin "object.__setattr__"))
theorem Cls.get {K : PySem.W.Frag} {C : Addr} (c : Cls K C) (f : Str) : PySem.W.plainGet K C f = true := c.pg
/-- no class of it has the name -/
def NoAttr (K : PySem.W.Frag) (C : Addr) (f : Str) : Prop := PySem.W.findIn K (.ref C) f = some none
theorem NoAttr.taker {K : PySem.W.Frag} {C : Addr} {f : Str} (n : NoAttr K C f) : PySem.W.takerIn K C f = some none := by
  unfold PySem.W.takerIn
  rw [show PySem.W.findIn K (.ref C) f = some none from n]
  rfl
/-- a constant of the class -/
structure Con (K : PySem.W.Frag) (C : Addr) (f : Str) (v : V) (u : Value) : Prop where
  at_ : PySem.W.findIn K (.ref C) f = some (some u)
  rel : RelV v u
  get : PySem.W.specialIn K u "__get__" = some none
  cp : PySem.W.copiedNames.contains f = false
/-- a method: a plain def of the class or of one above it -/
structure Meth (K : PySem.W.Frag) (C : Addr) (m : Str) (f : Addr) : Prop where
  at_ : PySem.W.findIn K (.ref C) m = some (some (.ref f))
  fn : PySem.W.isFn K (.ref f) = true
  kp : PySem.W.keepIn K (.ref f) = true

section
variable {X : Cx} {pins : List (Addr × Obj)} {σ : St} {H : Hp} {s : Shared} {a C dx : Addr} {fs : List (Str × V)} {f : Str} {v : V} {A : Around} {E : Value → Shared → Prop}

theorem getattr_ok {b : Bool} {Q : Value → Shared → Prop} (I : Inv X pins σ H s) (e : H a = some (.ins C dx fs)) (c : Cls X.K C) (n : NoAttr X.K C f) (l : fs.lookup f = some v)
    (h : ∀ u s', Inv X pins σ H s' → RelV v u → Q u s') : wpAny (model X.prog X.w) A (getAttr (.ref a) f b) Q E s := by
  obtain ⟨mA, O, r, _, _, _⟩ := ins_get I.hok e
  obtain ⟨u, hu, ru⟩ := RelO.some_of (v := v) (o := mA f) (by rw [← l]; exact r f)
  exact get_map I.kIn O (c.get f) c.hd n hu (handed_of ru) (h u _ (I.tok _) ru)

theorem getcon_ok {b : Bool} {u : Value} {Q : Value → Shared → Prop} (I : Inv X pins σ H s) (e : H a = some (.ins C dx fs)) (c : Cls X.K C) (k : Con X.K C f v u) (l : fs.lookup f = none)
    (h : ∀ s', Inv X pins σ H s' → Q u s') : wpAny (model X.prog X.w) A (getAttr (.ref a) f b) Q E s := by
  obtain ⟨mA, O, r, _, _, _⟩ := ins_get I.hok e
  have hn : mA f = none := RelO.none_of (by rw [← l]; exact r f)
  exact get_const I.kIn O (c.get f) c.hd k.at_ k.get k.cp hn (handed_of k.rel) (h _ (I.tok _))

theorem getmeth_ok {m : Str} {g : Addr} {pl : Sem Bool} {Q : Value × List Value → Shared → Prop} (I : Inv X pins σ H s) (e : H a = some (.ins C dx fs)) (c : Cls X.K C) (k : Meth X.K C m g) (l : fs.lookup m = none)
    (h : Q (.ref g, [.ref a]) s) : wpAny (model X.prog X.w) A (getMethod (.ref a) m pl) Q E s := by
  obtain ⟨mA, O, r, _, _, _⟩ := ins_get I.hok e
  have hn : mA m = none := RelO.none_of (by rw [← l]; exact r m)
  exact get_meth I.kIn O (c.get m) k.at_ k.fn hn h

theorem setattr_ok {y : V} {u : Value} {Q : Unit → Shared → Prop} (I : Inv X pins σ H s) (e : H a = some (.ins C dx fs)) (c : Cls X.K C) (n : NoAttr X.K C f) (hl : fs.length < 1000) (ry : RelV y u)
    (h : ∀ s', Inv X pins σ (upd H a (.ins C dx (putF f y fs))) s' → Q () s') : wpAny (model X.prog X.w) A (setAttr (.ref a) f u) Q E s := by
  obtain ⟨mA, O, r, wi, _, ho⟩ := ins_get I.hok e
  have hz : (fs.map (·.1)).length ≤ sizeLine := by rw [List.length_map, sizeLine_eq]; omega
  refine set_map I.kIn O c.sa c.po n.taker c.hd wi hz fun h' O' sb => h _ ?_
  have hd : ∃ o, h'.get? dx = some o := let ⟨o, _, _, e', _⟩ := O'.ns; ⟨o, e'⟩
  refine I.write (x := a) (e := dx) (by rw [e]; exact True.intro) (.inr ho) (fun b q hb z => (sb.2 b hb).trans z) hd ?_
  refine ⟨by rw [upd_ne O.ne]; exact ho, ?_, O.ne, O'.obj, _, O'.ns, fun g => ?_, fun g hg => ?_⟩
  · have := length_putF f y fs; omega
  · show RelO ((putF f y fs).lookup g) (if g = f then some u else mA g)
    rw [lookup_putF]
    by_cases q : g = f
    · rw [if_pos q, if_pos q]; exact ry
    · rw [if_neg q, if_neg q]; exact r g
  · by_cases q : g = f
    · rw [q]; exact (keys_putF f y fs).1
    · refine (keys_putF f y fs).2 g (wi g fun z => hg ?_)
      show (if g = f then some u else mA g) = none
      rw [if_neg q]; exact z

/-- a new instance, tracked, without attributes -/
theorem Inv.made (I : Inv X pins σ H s) : Inv X pins σ (upd (upd H s.heap.objs.size (.own (s.heap.objs.size + 1))) (s.heap.objs.size + 1) (.ins C s.heap.objs.size []))
    { s with heap := (s.heap.push PySem.W.emptyDict).push (PySem.W.instObj C s.heap.objs.size) } := by
  have e1 : (s.heap.push PySem.W.emptyDict).get? s.heap.objs.size = some PySem.W.emptyDict := Heap.get?_push_size s.heap rfl
  have e2 : ((s.heap.push PySem.W.emptyDict).push (PySem.W.instObj C s.heap.objs.size)).get? (s.heap.objs.size + 1) = some (PySem.W.instObj C s.heap.objs.size) := by
    have := Heap.get?_push_size (s.heap.push PySem.W.emptyDict) (o := PySem.W.instObj C s.heap.objs.size) rfl
    rwa [Heap.size_push] at this
  have e3 : (s.heap.push PySem.W.emptyDict).Ns s.heap.objs.size (fun _ => none) := ⟨PySem.W.emptyDict, #[], _, e1, rfl, (fun e he => absurd he (by simp)), fun _ => rfl⟩
  have I1 := I.laid (a := s.heap.objs.size) (o := .own (s.heap.objs.size + 1)) (h' := s.heap.push PySem.W.emptyDict) (t' := s.toks) (fun b u q => Heap.get?_push_of_some _ q) (Nat.le_refl _) ⟨_, e1⟩
  refine I1.laid (a := s.heap.objs.size + 1) (o := .ins C s.heap.objs.size []) (t' := s.toks) (fun b u q => Heap.get?_push_of_some _ q) (Nat.le_of_eq (Heap.size_push _ _)) ?_
  have ne : s.heap.objs.size ≠ s.heap.objs.size + 1 := Nat.ne_of_lt (Nat.lt_succ_self _)
  refine ⟨by rw [upd_ne ne, upd_same], Nat.zero_le _, ne, e2, fun _ => none, (Heap.Ns1.of_empty e3).at fun o q => Heap.get?_push_of_some _ q, fun _ => True.intro, fun y hy => absurd rfl hy⟩

/-- e.f where nothing but the object is asked: through attributeBase (super) and the last hold -/
theorem attr_of {prog : Program} {w : World} {env : Env} {e : Expr} {f : Str} {pos : Pos} {s : Shared} {Q : Value → Shared → Prop} (hb : attributeBase e f env (eval e env) = eval e env)
    (h : wpAny (model prog w) A (eval e env) (fun o s₁ => wpAny (model prog w) A (getAttr o f true) Q E s₁) E s) : wpAny (model prog w) A (eval (.Attribute e f pos) env) Q E s :=
  Attribute_any_ h (by rw [arm_eval_Attribute, hb])
end

/-! ### readings and rules -/
/-- e.f, an attribute of the instance -/
def tFld (K : PySem.W.Frag) (ta : TE) (f : Str) : TE := fun σ H Q => ta σ H fun x H1 => ∃ a C dx fs v, x = .ref a ∧ H1 a = some (.ins C dx fs) ∧ Cls K C ∧ NoAttr K C f ∧ fs.lookup f = some v ∧ Q v H1
/-- e.f, a constant of the class -/
def tCon (K : PySem.W.Frag) (ta : TE) (f : Str) : TE := fun σ H Q => ta σ H fun x H1 => ∃ a C dx fs v u, x = .ref a ∧ H1 a = some (.ins C dx fs) ∧ Cls K C ∧ Con K C f v u ∧ fs.lookup f = none ∧ Q v H1
/-- e.f = value -/
def sFld (K : PySem.W.Frag) (ta tv : TE) (f : Str) : TS := fun D σ H => tv σ H fun y H1 => ta σ H1 fun x H2 => ∃ a C dx fs, x = .ref a ∧ H2 a = some (.ins C dx fs) ∧ Cls K C ∧ NoAttr K C f ∧ fs.length < 1000 ∧
  D.nx σ (upd H2 a (.ins C dx (putF f y fs)))
/-- an augmented operator on two values -/
def InOp (X : Cx) (op : Operator) (rd : V → V → Hp → VK → Prop) : Prop :=
  ∀ (pins : List (Addr × Obj)) (s : Shared) (σ : St) (H : Hp) (x y : V) (u v : Value) (Q : VK), Inv X pins σ H s → RelV x u → RelV y v → rd x y H Q → wpAny (model X.prog X.w) X.A (inplaceOp op u v) (EP X pins σ Q) X.xe s
/-- e.f op= value -/
def sFldAug (K : PySem.W.Frag) (ta tv : TE) (rd : V → V → Hp → VK → Prop) (f : Str) : TS := fun D σ H => ta σ H fun x H1 => ∃ a C dx fs v, x = .ref a ∧ H1 a = some (.ins C dx fs) ∧ Cls K C ∧ NoAttr K C f ∧ fs.lookup f = some v ∧
  tv σ H1 fun y H2 => rd v y H2 fun z H3 => ∃ dx' fs', H3 a = some (.ins C dx' fs') ∧ fs'.length < 1000 ∧ D.nx σ (upd H3 a (.ins C dx' (putF f z fs')))

section
variable {X : Cx} {o e value : Expr} {f : Str} {pos pos' tpos : Pos} {ta tv : TE}
theorem pe_fld (he : PE X e ta) (hb : attributeBase e f X.env (eval e X.env) = eval e X.env) : PE X (.Attribute e f pos) (tFld X.K ta f) := by
  intro pins s σ H Q I h
  refine attr_of hb (thn (he pins s σ H _ I h) fun u s1 ⟨x, H1, I1, rx, a, C, dx, fs, v, ex, ea, c, n, l, q⟩ => ?_)
  subst ex
  obtain rfl : u = Value.ref a := rx
  exact getattr_ok I1 ea c n l fun u' s2 I2 ru => ⟨v, H1, I2, ru, q⟩
theorem pe_con (he : PE X e ta) (hb : attributeBase e f X.env (eval e X.env) = eval e X.env) : PE X (.Attribute e f pos) (tCon X.K ta f) := by
  intro pins s σ H Q I h
  refine attr_of hb (thn (he pins s σ H _ I h) fun u s1 ⟨x, H1, I1, rx, a, C, dx, fs, v, u0, ex, ea, c, k, l, q⟩ => ?_)
  subst ex
  obtain rfl : u = Value.ref a := rx
  exact getcon_ok I1 ea c k l fun s2 I2 => ⟨v, H1, I2, k.rel, q⟩
theorem ps_fld (ha : PE X o ta) (hv : PE X value tv) (hs : swapsWith value (some (.Attribute o f pos')) pos.line X.env = pure false) : PS X (.Assign [.Attribute o f pos'] value pos) (sFld X.K ta tv f) := by
  intro pins s σ H D I h
  refine plainObj_wpAny_Assign_Attribute (thn (hv pins s σ H _ I h) fun u s1 ⟨y, H1, I1, ry, q⟩ => thn (ha pins s1 σ H1 _ I1 q) fun ov s2 ⟨x, H2, I2, rx, a, C, dx, fs, ex, ea, c, n, l, q2⟩ => ?_) hs
  subst ex
  obtain rfl : ov = Value.ref a := rx
  exact setattr_ok I2 ea c n l ry fun s3 I3 => ⟨σ, _, I3, q2⟩
theorem ps_fldaug {op : Operator} {rd : V → V → Hp → VK → Prop} (ha : PE X o ta) (hv : PE X value tv) (hop : InOp X op rd) : PS X (.AugAssign (.Attribute o f tpos) op value pos) (sFldAug X.K ta tv rd f) := by
  intro pins s σ H D I h
  refine wpAny_AugAssign_AttributeAny (thn (ha pins s σ H _ I h) fun ov s1 ⟨x, H1, I1, rx, a, C, dx, fs, v, ex, ea, c, n, l, q⟩ => ?_)
  subst ex
  obtain rfl : ov = Value.ref a := rx
  refine getattr_ok I1 ea c n l fun u s2 I2 ru => thn (hv pins s2 σ H1 _ I2 q) fun w3 s3 ⟨y, H2, I3, ry, q3⟩ => thn (hop pins s3 σ H2 v y u w3 _ I3 ru ry q3) fun w4 s4 ⟨z, H3, I4, rz, dx', fs', ea', l', q4⟩ => ?_
  exact setattr_ok I4 ea' c n l' rz fun s5 I5 => ⟨σ, _, I5, q4⟩
def rAdd : V → V → Hp → VK → Prop := fun x y H Q => ∃ i j, x = .int i ∧ y = .int j ∧ Q (.int (i + j)) H
def rSub : V → V → Hp → VK → Prop := fun x y H Q => ∃ i j, x = .int i ∧ y = .int j ∧ Q (.int (i - j)) H
theorem in_add : InOp X .Add rAdd := by
  rintro pins s σ H x y u v Q I rx ry ⟨i, j, rfl, rfl, q⟩
  obtain ⟨t, rfl⟩ := (show ∃ t, u = Value.int i t from rx)
  obtain ⟨t', rfl⟩ := (show ∃ t', v = Value.int j t' from ry)
  exact PyProof.Rows.iadd_int ⟨.int (i + j), H, I.tok _, ⟨_, rfl⟩, q⟩
theorem in_sub : InOp X .Sub rSub := by
  rintro pins s σ H x y u v Q I rx ry ⟨i, j, rfl, rfl, q⟩
  obtain ⟨t, rfl⟩ := (show ∃ t, u = Value.int i t from rx)
  obtain ⟨t', rfl⟩ := (show ∃ t', v = Value.int j t' from ry)
  exact PyProof.Rows.isub_int ⟨.int (i - j), H, I.tok _, ⟨_, rfl⟩, q⟩

/-- what is between an instance and its method: the tree of a method call -/
theorem methcall_of {pl : Sem Bool} {m : Str} {apos : Pos} {args : List Expr} {pins : List (Addr × Obj)} {s : Shared} {σ : St} {H : Hp} {Q : Value → Shared → Prop} {te : TE} (he : PE X e te) (I : Inv X pins σ H s)
    (h : te σ H fun x H1 => ∃ a C dx fs g, x = .ref a ∧ H1 a = some (.ins C dx fs) ∧ Cls X.K C ∧ Meth X.K C m g ∧ fs.lookup m = none ∧
      ∀ s1, Inv X pins σ H1 s1 → wpAny (model X.prog X.w) X.A (callWith pos (.ref g) [.ref a] (backTo pos (starEach args X.env)) (backToKw pos (keywordEach [] X.env))) Q X.xe s1)
    (ht : eval (.Call (.Attribute e m apos) args [] pos) X.env = (do
      let ov ← eval e X.env
      standAt apos.atName
      let (f, first) ← holding [ov] (getMethod ov m pl)
      callWith pos f first (backTo pos (starEach args X.env)) (backToKw pos (keywordEach [] X.env)))) :
    wpAny (model X.prog X.w) X.A (eval (.Call (.Attribute e m apos) args [] pos) X.env) Q X.xe s := by
  refine PySem.W.methodCall_KW (pl := pl) (thn (he pins s σ H _ I h) fun u s1 ⟨x, H1, I1, rx, a, C, dx, fs, g, ex, ea, c, k, l, q⟩ => ?_) ht
  subst ex
  obtain rfl : u = Value.ref a := rx
  exact getmeth_ok I1 ea c k l (q s1 I1)
end

/-! ### isinstance -/
section
variable {X : Cx} {pins : List (Addr × Obj)} {σ : St} {H : Hp} {s : Shared} {A : Around} {E : Value → Shared → Prop} {Q : Value → Shared → Prop} {c : Value} {b : Bool}
/-- the type of a value, as the fragment's deciders take it; for an instance its class -/
inductive TyOf (K : PySem.W.Frag) (H : Hp) : V → Value → Prop where
  | non : TyOf K H .non (.type "NoneType")
  | bl (x : Bool) : TyOf K H (.bl x) (.type "bool")
  | int (i : Int) : TyOf K H (.int i) (.type "int")
  | str (x : Str) : TyOf K H (.str x) (.type "str")
  | flt (x : UInt64) : TyOf K H (.flt x) (.type "float")
  | lst {a : Addr} {xs : List V} (e : H a = some (.lst xs)) : TyOf K H (.ref a) (.type "list")
  | frz {a : Addr} {o : Obj} {xs : List V} (e : H a = some (.frz o (.lst xs))) : TyOf K H (.ref a) (.type "list")
  | tup {a : Addr} {xs : List V} (e : H a = some (.tup xs)) : TyOf K H (.ref a) (.type "tuple")
  | dK {a : Addr} {kvs : List (Key × V)} (e : H a = some (.dK kvs)) : TyOf K H (.ref a) (.type "dict")
  | dT {a : Addr} {kvs : List (List Key × V)} (e : H a = some (.dT kvs)) : TyOf K H (.ref a) (.type "dict")
  | ins {a C dx : Addr} {fs : List (Str × V)} (e : H a = some (.ins C dx fs)) (cl : Cls K C) (ha : PySem.W.findIn K (.ref C) "__class__" = some (some (.builtin "object.__class__")))
      (hn : PySem.W.specialIn K (.builtin "object.__class__") "__get__" = some (some (.builtin "getset_descriptor.__get__"))) (htk : PySem.W.takesIn K (.builtin "object.__class__") = some true)
      (hm : PySem.W.mroIn K C (.type "object") = some true) : TyOf K H (.ref a) (.ref C)
/-- isinstance(x, c) for one class c, a built-in or an own one: kitOne's answer -/
theorem isinst_ok {x : V} {u t : Value} (I : Inv X pins σ H s) (rx : RelV x u) (ty : TyOf X.K H x t) (e : PySem.W.kitOne X.K t c = some b) (h : ∀ tk, Q (.bool b) { s with toks := tk }) :
    wpAny (model X.prog X.w) A (call (.builtin "isinstance") [u, c]) Q E s := by
  cases ty with
  | non => cases (show u = Value.none from rx); exact PySem.W.kia_one PySem.W.kitx_none I.kIn True.intro e (fun z => nomatch z) h
  | bl y => cases (show u = Value.bool y from rx); exact PySem.W.kia_one PySem.W.kitx_bool I.kIn True.intro e (fun z => nomatch z) h
  | int i => obtain ⟨t, q⟩ := (show ∃ t, u = Value.int i t from rx); cases q; exact PySem.W.kia_one PySem.W.kitx_int I.kIn True.intro e (fun z => nomatch z) h
  | str y => obtain ⟨t, q⟩ := (show ∃ t, u = Value.str y t from rx); cases q; exact PySem.W.kia_one PySem.W.kitx_str I.kIn True.intro e (fun z => nomatch z) h
  | flt y => obtain ⟨t, q⟩ := (show ∃ t, u = Value.float y t from rx); cases q; exact PySem.W.kia_one PySem.W.kitx_float I.kIn True.intro e (fun z => nomatch z) h
  | @lst a xs ea =>
    cases (show u = Value.ref a from rx)
    obtain ⟨_, _, n, _, h1⟩ := (show ObjOk X.prog X.w H s.heap a (.lst xs) from I.hok a _ ea)
    exact PySem.W.kia_one PySem.W.kitx_list I.kIn ⟨_, h1, rfl⟩ e (fun z => nomatch z) h
  | @frz a ob xs ea =>
    cases (show u = Value.ref a from rx)
    obtain ⟨_, _, _, n, _, h1⟩ := (show ObjOk X.prog X.w H s.heap a (.frz ob (.lst xs)) from I.hok a _ ea)
    exact PySem.W.kia_one PySem.W.kitx_list I.kIn ⟨_, h1, rfl⟩ e (fun z => nomatch z) h
  | @tup a xs ea =>
    cases (show u = Value.ref a from rx)
    obtain ⟨_, _, _, p⟩ := (show ObjOk X.prog X.w H s.heap a (.tup xs) from I.hok a _ ea)
    obtain ⟨o, h1, h2, _⟩ := p
    exact PySem.W.kia_one PySem.W.kitx_tuple I.kIn ⟨o, h1, h2⟩ e (fun z => nomatch z) h
  | @dK a kvs ea =>
    cases (show u = Value.ref a from rx)
    obtain ⟨_, _, vs, _, p⟩ := (show ObjOk X.prog X.w H s.heap a (.dK kvs) from I.hok a _ ea)
    obtain ⟨o, es, ep, h1, h2, _⟩ := p
    exact PySem.W.kia_one PySem.W.kitx_dict I.kIn ⟨o, h1, h2.1⟩ e (fun z => nomatch z) h
  | @dT a kvs ea =>
    cases (show u = Value.ref a from rx)
    obtain ⟨_, _, xs, _, o, es, ep, h1, h2, _⟩ := (show ObjOk X.prog X.w H s.heap a (.dT kvs) from I.hok a _ ea)
    exact PySem.W.kia_one PySem.W.kitx_dict I.kIn ⟨o, h1, h2.1⟩ e (fun z => nomatch z) h
  | @ins a C dx fs ea cl ha hn htk hm =>
    cases (show u = Value.ref a from rx)
    obtain ⟨mA, O, _⟩ := ins_get I.hok ea
    obtain ⟨od, J, _⟩ := O.look
    exact PySem.W.kia_one (PySem.W.kitx_own (cl.get _) cl.hd ha hn htk hm) I.kIn J e (fun z => nomatch z) h
end
end L2

namespace L2
open PySem PySem.Spec PyProof.Rows

/-! ### room -/
structure Room (k : Nat) (A : Around) : Prop where
  hd : A.handled = none
  dp : A.depth + 3 * k + 5 < recursionLimit
  un : A.units + 16 * k + 200 < cLine
theorem Room.mono {j k : Nat} {A : Around} (r : Room k A) (h : j ≤ k) : Room j A := ⟨r.hd, by have := r.dp; omega, by have := r.un; omega⟩
theorem Room.deeper {k : Nat} {A : Around} (r : Room (k + 1) A) (env : Env) : Room k (A.deeper env) :=
  ⟨r.hd, by have := r.dp; show A.depth + 1 + 3 * k + 5 < _; omega, by have := r.un; show A.units + 3 + 16 * k + 200 < _; omega⟩
theorem Room.in1 {k : Nat} {A : Around} (r : Room (k + 1) A) : Room k A.in1 :=
  ⟨r.hd, by have := r.dp; show A.depth + 3 * k + 5 < _; omega, by have := r.un; show A.units + 1 + 16 * k + 200 < _; omega⟩
theorem make_depth {A : Around} {C : Addr} {us : List Value} {kw : List (Str × Value)} : (A.under (.builtin "type.__call__" ⟨.ref C :: us, kw⟩)).depth = A.depth + 1 := by
  first | rfl | simp [Around.under, Code.weight, Code.isCreation, Code.isGuard, Code.isCaller, Code.frames, Code.isFrame, guardIds]
theorem make_units {A : Around} {C : Addr} {us : List Value} {kw : List (Str × Value)} : (A.under (.builtin "type.__call__" ⟨.ref C :: us, kw⟩)).units = A.units + 1 := by
  first | rfl | simp [Around.under, Code.cUnits, Code.frames, Code.isFrame]
theorem Room.make {k : Nat} {A : Around} (r : Room (k + 1) A) (C : Addr) (us : List Value) (kw : List (Str × Value)) : Room k (A.under (.builtin "type.__call__" ⟨.ref C :: us, kw⟩)) :=
  ⟨r.hd, by have := r.dp; rw [make_depth]; omega, by have := r.un; rw [make_units]; omega⟩
theorem Room.depth {k : Nat} {A : Around} (r : Room k A) : A.depth < recursionLimit := by have := r.dp; omega
theorem Room.units {k : Nat} {A : Around} (r : Room k A) : A.units + 64 < cLine := by have := r.un; omega
theorem Room.units0 {k : Nat} {A : Around} (r : Room k A) : A.units < cLine := by have := r.un; omega

/-! ### argument lists and displays -/
def tNil : TA := fun _ H Q => Q [] H
def tCons (ta : TE) (tr : TA) : TA := fun σ H Q => ta σ H fun x H1 => tr σ H1 fun xs H2 => Q (x :: xs) H2
section
variable {X : Cx} {e : Expr} {es : List Expr} {te : TE} {t : TA} {pos : Pos}
theorem pa_nil : PA X [] tNil := fun _ _ _ _ H Q I h => Calls.spliced_nil ⟨[], H, I, .nil, h⟩
theorem pa_cons (ha : PE X e te) (hr : PA X es t) (hs : starEach (e :: es) X.env = (false, eval e X.env) :: starEach es X.env := by rfl) : PA X (e :: es) (tCons te t) := by
  intro pos pins s σ H Q I h
  rw [hs]
  show wpAny _ _ (spliced ((false, eval e X.env) :: backTo pos (starEach es X.env))) _ _ s
  refine Calls.spliced_cons (thn (ha pins s σ H _ I h) fun u s1 ⟨x, H1, I1, r1, q1⟩ => ?_)
  exact thn (hr pos pins s1 σ H1 _ I1 q1) fun us s2 ⟨xs, H2, I2, r2, q2⟩ => ⟨x :: xs, H2, I2, .cons r1 r2, q2⟩

/-- a tuple, a list of written items -/
def tTup (t : TA) : TE := fun σ H Q => t σ H fun xs H1 => xs.length ≤ sizeLine ∧ ∀ p, H1 p = none → Q (.ref p) (upd H1 p (.tup xs))
def tLst (t : TA) : TE := fun σ H Q => t σ H fun xs H1 => xs.length ≤ sizeLine ∧ ∀ p, H1 p = none → Q (.ref p) (upd H1 p (.lst xs))
theorem pe_tup {x1} (h : PA X es t) : PE X (.Tuple es x1 pos) (tTup t) := by
  intro pins s σ H Q I hq
  refine wpAny_Tuple_spliced (thn (h pos pins s σ H _ I hq) fun us s1 ⟨xs, H1, I1, r, z, q⟩ => ⟨by rw [← r.length]; exact z, ?_⟩)
  have hf : H1 s1.heap.objs.size = none := I1.hok.fresh (Nat.le_refl _)
  refine ⟨.ref s1.heap.objs.size, upd H1 s1.heap.objs.size (.tup xs), I1.laid (t' := s1.toks) (fun b u e => Heap.get?_push_of_some _ e) (Nat.le_refl _) ?_, rfl, q _ hf⟩
  exact ⟨z, us, r, ⟨_, Heap.get?_push_size _ rfl, rfl, _, rfl⟩⟩
theorem pe_lst (h : PA X es t) : PE X (.List es pos) (tLst t) := by
  intro pins s σ H Q I hq
  refine wpAny_List_spliced (thn (h pos pins s σ H _ I hq) fun us s1 ⟨xs, H1, I1, r, z, q⟩ => ⟨by rw [← r.length]; exact z, ?_⟩)
  have hf : H1 s1.heap.objs.size = none := I1.hok.fresh (Nat.le_refl _)
  refine ⟨.ref s1.heap.objs.size, upd H1 s1.heap.objs.size (.lst xs), I1.laid (t' := s1.toks) (fun b u e => Heap.get?_push_of_some _ e) (Nat.le_refl _) ?_, rfl, q _ hf⟩
  exact ⟨z, us, 0, r, Heap.get?_push_size _ rfl⟩
end

/-! ### what a def promises -/
/-- a def's promise: the bound arguments in the parameters' order, the heap, the wanted end, the wanted exception -/
abbrev Sp := List V → Hp → VK → XK → Prop
/-- how an exception lies behind a call (file 08 gives it): the callers' frames, abstract heap and state ahead of the call, the wish, the exception, the state -/
abbrev CXT := List Env → Hp → Shared → XK → Value → Shared → Prop

/-- the state at a call -/
structure Env0 (P : Program) (w : World) (K : PySem.W.Frag) (mg : Str → Option Value) (base : Heap) (A : Around) (outer : List Env) (s : Shared) (H : Hp) : Prop where
  frames : A.frames = some outer
  mod : Mod K mg base
  bs : ∀ b o, base.get? b = some o → s.heap.get? b = some o ∧ H b = none
  bsz : base.objs.size ≤ s.heap.objs.size
  funs : s.heap.FunFrames base outer
  frf : ∀ b ∈ frs outer, H b = none
  hok : HOk P w H s.heap
  bare : AllBare s.gens
/-- a call's end -/
def CE (outer : List Env) (P : Program) (w : World) (H : Hp) (s : Shared) (Q : VK) (u : Value) (s' : Shared) : Prop :=
  ∃ v H', s'.os = s.os ∧ AllBare s'.gens ∧ Un (frs outer) [] H H' s.heap s'.heap ∧ HOk P w H' s'.heap ∧ RelV v u ∧ Q v H'
def CR (CX : CXT) (outer : List Env) (P : Program) (w : World) (H : Hp) (s : Shared) (Q : VK) (E : XK) (r : Result) (s' : Shared) : Prop :=
  match r with
  | .ok (.ret u) => CE outer P w H s Q u s'
  | .ok _ => False
  | .error e => CX outer H s E e s'
structure FnOk (P : Program) (w : World) (K : PySem.W.Frag) (mg : Str → Option Value) (base : Heap) (CX : CXT) (k : Nat) (f : Addr) (fd : FuncData) (ps : List Str) (sp : Sp) : Prop where
  len : ∀ vs H Q E, sp vs H Q E → vs.length = ps.length
  run : ∀ (A : Around) (outer : List Env) (s : Shared) (H : Hp) (args : Args) (us : List Value) (vs : List V) (Q : VK) (E : XK), Room k A → Env0 P w K mg base A outer s H → BindsTo s fd args (ps.zip us) → Vals vs us → sp vs H Q E →
    codeAny (model P w) A (.call (.ref f) args) (CR CX outer P w H s Q E) s
theorem FnOk.mono {P : Program} {w : World} {K : PySem.W.Frag} {mg : Str → Option Value} {base : Heap} {CX : CXT} {j k : Nat} {f : Addr} {fd : FuncData} {ps : List Str} {sp : Sp} (F : FnOk P w K mg base CX j f fd ps sp) (h : j ≤ k) :
    FnOk P w K mg base CX k f fd ps sp := ⟨F.len, fun A outer s H args us vs Q E hr => F.run A outer s H args us vs Q E (hr.mono h)⟩
/-- a weaker promise -/
theorem FnOk.imp {P : Program} {w : World} {K : PySem.W.Frag} {mg : Str → Option Value} {base : Heap} {CX : CXT} {k : Nat} {f : Addr} {fd : FuncData} {ps : List Str} {sp sp' : Sp} (F : FnOk P w K mg base CX k f fd ps sp)
    (h : ∀ vs H Q E, sp' vs H Q E → sp vs H Q E) : FnOk P w K mg base CX k f fd ps sp' :=
  ⟨fun vs H Q E q => F.len vs H Q E (h _ _ _ _ q), fun A outer s H args us vs Q E hr he hb hv hs => F.run A outer s H args us vs Q E hr he hb hv (h _ _ _ _ hs)⟩

theorem Env0.make {P : Program} {w : World} {K : PySem.W.Frag} {mg : Str → Option Value} {base : Heap} {A : Around} {outer : List Env} {s : Shared} {H : Hp} (e : Env0 P w K mg base A outer s H) (C : Addr) (us : List Value) (kw : List (Str × Value)) :
    Env0 P w K mg base (A.under (.builtin "type.__call__" ⟨.ref C :: us, kw⟩)) outer s H := ⟨by first | exact e.frames | (simpa [Around.under, Code.envs, Code.isFrame, pushEnvs] using e.frames), e.mod, e.bs, e.bsz, e.funs, e.frf, e.hok, e.bare⟩
theorem Env0.in1 {P : Program} {w : World} {K : PySem.W.Frag} {mg : Str → Option Value} {base : Heap} {A : Around} {outer : List Env} {s : Shared} {H : Hp} (e : Env0 P w K mg base A outer s H) :
    Env0 P w K mg base A.in1 outer s H := ⟨e.frames, e.mod, e.bs, e.bsz, e.funs, e.frf, e.hok, e.bare⟩

section
variable {X : Cx} {pins : List (Addr × Obj)} {σ : St} {H : Hp} {s s' : Shared}
/-- from a body: what a callee wants -/
theorem Inv.env0 (I : Inv X pins σ H s) : Env0 X.prog X.w X.K X.mg X.base X.A X.stack s H :=
  ⟨I.ok.frames, I.ok.mod, I.bs, Nat.le_trans I.ok.bsz I.sz, I.stack, I.stkFree, I.hok, I.bare⟩
/-- behind a call -/
theorem Inv.after {Q : VK} {u : Value} (I : Inv X pins σ H s) (h : CE X.stack X.prog X.w H s Q u s') : EP X pins σ Q u s' := by
  obtain ⟨v, H', os, bare, un, hok, r, q⟩ := h
  obtain ⟨hh, g, d, t, os'⟩ := s'
  obtain rfl : os' = s.os := os
  exact ⟨v, H', I.call (h' := hh) (g' := g) (d' := d) (t' := t) (ch := []) un hok bare (fun b z => absurd z (by simp)), r, q⟩
end

/-! ### calls -/
/-- f(..): the written arguments, then the defaults dvs; E: what is wanted of an exception -/
def tCall (sp : Sp) (dvs : List V) (E : XK) (t : TA) : TE := fun σ H Q => t σ H fun vs H1 => sp (vs ++ dvs) H1 Q E
/-- o.m(..) of an instance of the class at C -/
def tMeth (C : Addr) (m : Str) (sp : Sp) (dvs : List V) (E : XK) (ta : TE) (t : TA) : TE := fun σ H Q => ta σ H fun x H1 => ∃ a dx fs, x = .ref a ∧ H1 a = some (.ins C dx fs) ∧ fs.lookup m = none ∧
  t σ H1 fun vs H2 => sp (x :: (vs ++ dvs)) H2 Q E
/-- C(..): a new instance and its dict, then __init__ -/
def tMake (C : Addr) (sp : Sp) (dvs : List V) (E : XK) (t : TA) : TE := fun σ H Q => t σ H fun vs H1 => ∀ x dx, H1 x = none → H1 dx = none → dx ≠ x →
  sp (.ref x :: (vs ++ dvs)) (upd (upd H1 dx (.own x)) x (.ins C dx [])) (fun v H2 => v = .non ∧ Q (.ref x) H2) E

/-- how the parameters are bound: us the positional arguments, kw the keywords' values by name, ds the defaults that fill up -/
def Binds (K : PySem.W.Frag) (fd : FuncData) (ps : List Str) (ds : List Value) : Prop :=
  ∀ (s : Shared) (us : List Value), K.In s.heap → (us ++ ds).length = ps.length → BindsTo s fd ⟨us, []⟩ (ps.zip (us ++ ds))
/-- every parameter is given -/
theorem Binds.all {K : PySem.W.Frag} {fd : FuncData} {ps : List Str} (h : ∀ us : List Value, us.length = ps.length → bindArgs fd ⟨us, []⟩ = pure (ps.zip us)) : Binds K fd ps [] := fun s us _ hl => by
  rw [List.append_nil] at hl ⊢
  exact .of_eq (h us hl)

/-- an exception of a callee reaches what this body wants of exceptions -/
def Passes (CX : CXT) (X : Cx) (E : XK) : Prop := ∀ (pins : List (Addr × Obj)) (σ : St) (H : Hp) (s : Shared) (e : Value) (s' : Shared), Inv X pins σ H s → CX X.stack H s E e s' → X.xe e s'

section
variable {X : Cx} {CX : CXT} {k : Nat} {f C : Addr} {fd : FuncData} {ps : List Str} {sp : Sp} {dvs : List V} {ds : List Value} {E : XK} {x m : Str} {p pos apos : Pos} {e o : Expr} {es : List Expr} {ta : TE} {t : TA}

/-- the callee runs -/
theorem run_fn {pins : List (Addr × Obj)} {σ : St} {H : Hp} {s : Shared} {Q : VK} {us : List Value} {vs : List V} (F : FnOk X.prog X.w X.K X.mg X.base CX k f fd ps sp) (hr : Room k X.A) (hb : Binds X.K fd ps ds) (hd : Vals dvs ds) (hx : Passes CX X E)
    (I : Inv X pins σ H s) (r : Vals vs us) (h : sp (vs ++ dvs) H Q E) : wpAny (model X.prog X.w) X.A (call (.ref f) us) (EP X pins σ Q) X.xe s := by
  have r2 : Vals (vs ++ dvs) (us ++ ds) := r.append hd
  have hl : (us ++ ds).length = ps.length := by rw [← r2.length]; exact F.len _ _ _ _ h
  refine wpAny_call (codeAny_mono (F.run X.A X.stack s H ⟨us, []⟩ (us ++ ds) (vs ++ dvs) Q E hr I.env0 (hb s us I.kIn hl) r2 h) fun r s' hq => ?_)
  cases r with
  | error e => exact hx pins σ H s e s' I hq
  | ok fl =>
    cases fl with
    | ret u => exact I.after hq
    | next => exact False.elim hq
    | brk => exact False.elim hq
    | cont => exact False.elim hq

theorem pe_call (F : FnOk X.prog X.w X.K X.mg X.base CX k f fd ps sp) (hr : Room k X.A) (hg : Gl X x) (hm : X.mg x = some (.ref f)) (hk : PySem.W.keepIn X.K (.ref f) = true) (hb : Binds X.K fd ps ds) (hd : Vals dvs ds) (hx : Passes CX X E)
    (ha : PA X (e :: es) t) (hdb : (x == ("__debug__" : Str)) = false := by decide) (he : starEach (e :: es) X.env = (false, eval e X.env) :: starEach es X.env := by rfl) (hpl : (backTo pos (starEach es X.env)).any (·.1) = false := by rfl) :
    PE X (.Call (.Name x p) (e :: es) [] pos) (tCall sp dvs E t) := by
  intro pins s σ H Q I h
  refine wpAny_Call_Name_kw (ld_glob I hg hm ?_ hdb)
  refine PySem.W.callWith_K (h₀ := X.base) I.ok.mod.kin hk (thn (ha pos pins s σ H _ I h) fun us s1 ⟨vs, H1, I1, r, q⟩ => ⟨I1.kIn, ?_⟩) he hpl
  exact run_fn F hr hb hd hx I1 r q
theorem pe_call0 (F : FnOk X.prog X.w X.K X.mg X.base CX k f fd ps sp) (hr : Room k X.A) (hg : Gl X x) (hm : X.mg x = some (.ref f)) (hk : PySem.W.keepIn X.K (.ref f) = true) (hb : Binds X.K fd ps ds) (hd : Vals dvs ds) (hx : Passes CX X E)
    (hdb : (x == ("__debug__" : Str)) = false := by decide) : PE X (.Call (.Name x p) [] [] pos) (tCall sp dvs E tNil) := by
  intro pins s σ H Q I h
  refine wpAny_Call_Name_kw (ld_glob I hg hm ?_ hdb)
  exact PySem.W.callWith_K0 I.kIn hk (run_fn (us := []) F hr hb hd hx I .nil h)

/-- o.m(e, ..) -/
theorem pe_meth {pl : Sem Bool} (he : PE X o ta) (c : Cls X.K C) (hm : Meth X.K C m f) (F : FnOk X.prog X.w X.K X.mg X.base CX k f fd ps sp) (hr : Room k X.A) (hb : Binds X.K fd ps ds) (hd : Vals dvs ds) (hx : Passes CX X E) (ha : PA X (e :: es) t)
    (hst : starEach (e :: es) X.env = (false, eval e X.env) :: starEach es X.env := by rfl) (hpl : (backTo pos (starEach es X.env)).any (·.1) = false := by rfl)
    (ht : eval (.Call (.Attribute o m apos) (e :: es) [] pos) X.env = (do
      let ov ← eval o X.env
      standAt apos.atName
      let (f, first) ← holding [ov] (getMethod ov m pl)
      callWith pos f first (backTo pos (starEach (e :: es) X.env)) (backToKw pos (keywordEach [] X.env))) := by rfl) :
    PE X (.Call (.Attribute o m apos) (e :: es) [] pos) (tMeth C m sp dvs E ta t) := by
  intro pins s σ H Q I h
  refine PySem.W.methodCall_KW (pl := pl) (thn (he pins s σ H _ I h) fun u s1 ⟨x, H1, I1, rx, a, dx, fs, ex, ea, l, q⟩ => ?_) ht
  subst ex
  obtain rfl : u = Value.ref a := rx
  refine getmeth_ok I1 ea c hm l ?_
  refine PySem.W.callWith_K (first := [.ref a]) (h₀ := X.base) I.ok.mod.kin hm.kp (thn (ha pos pins s1 σ H1 _ I1 q) fun us s2 ⟨vs, H2, I2, r, q2⟩ => ⟨I2.kIn, ?_⟩) hst hpl
  exact run_fn (us := .ref a :: us) (vs := .ref a :: vs) F hr hb hd hx I2 (.cons rfl r) q2
/-- o.m() -/
theorem pe_meth0 {pl : Sem Bool} (he : PE X o ta) (c : Cls X.K C) (hm : Meth X.K C m f) (F : FnOk X.prog X.w X.K X.mg X.base CX k f fd ps sp) (hr : Room k X.A) (hb : Binds X.K fd ps ds) (hd : Vals dvs ds) (hx : Passes CX X E)
    (ht : eval (.Call (.Attribute o m apos) [] [] pos) X.env = (do
      let ov ← eval o X.env
      standAt apos.atName
      let (f, first) ← holding [ov] (getMethod ov m pl)
      callWith pos f first (backTo pos (starEach [] X.env)) (backToKw pos (keywordEach [] X.env))) := by rfl) :
    PE X (.Call (.Attribute o m apos) [] [] pos) (tMeth C m sp dvs E ta tNil) := by
  intro pins s σ H Q I h
  refine PySem.W.methodCall_KW (pl := pl) (thn (he pins s σ H _ I h) fun u s1 ⟨x, H1, I1, rx, a, dx, fs, ex, ea, l, q⟩ => ?_) ht
  subst ex
  obtain rfl : u = Value.ref a := rx
  refine getmeth_ok I1 ea c hm l ?_
  exact PySem.W.callWith_K0 (first := [.ref a]) I1.kIn hm.kp (run_fn (us := [.ref a]) (vs := [.ref a]) F hr hb hd hx I1 (.cons rfl .nil) q)

/-- what a class must have to be made -/
structure Mk (K : PySem.W.Frag) (C f : Addr) : Prop where
  makes : PySem.W.makesIn K C = true
  init : PySem.W.findIn K (.ref C) "__init__" = some (some (.ref f))
  fn : PySem.W.isFn K (.ref f) = true
  kp : PySem.W.keepIn K (.ref C) = true

theorem run_make {pins : List (Addr × Obj)} {σ : St} {H : Hp} {s : Shared} {Q : VK} {us : List Value} {vs : List V} (M : Mk X.K C f) (F : FnOk X.prog X.w X.K X.mg X.base CX k f fd ps sp) (hr : Room (k + 1) X.A) (hb : Binds X.K fd ps ds) (hd : Vals dvs ds)
    (hx : Passes CX X E) (I : Inv X pins σ H s) (r : Vals vs us)
    (h : ∀ x dx, H x = none → H dx = none → dx ≠ x → sp (.ref x :: (vs ++ dvs)) (upd (upd H dx (.own x)) x (.ins C dx [])) (fun v H2 => v = .non ∧ Q (.ref x) H2) E) :
    wpAny (model X.prog X.w) X.A (call (.ref C) us) (EP X pins σ Q) X.xe s := by
  have hq := h (s.heap.objs.size + 1) s.heap.objs.size (I.hok.fresh (Nat.le_succ _)) (I.hok.fresh (Nat.le_refl _)) (Nat.ne_of_lt (Nat.lt_succ_self _))
  have I2 := Inv.made (C := C) I
  have r2 : Vals (V.ref (s.heap.objs.size + 1) :: (vs ++ dvs)) (Value.ref (s.heap.objs.size + 1) :: (us ++ ds)) := .cons rfl (r.append hd)
  have hl : (Value.ref (s.heap.objs.size + 1) :: us ++ ds).length = ps.length := by
    have e := r2.length
    rw [F.len _ _ _ _ hq] at e
    exact e.symm
  refine wpAny_call (make_map (f := f) I.kIn M.makes M.init (beq_iff_eq.mp M.fn) (codeAny_mono (F.run _ X.stack _ _ ⟨Value.ref (s.heap.objs.size + 1) :: us, []⟩ (Value.ref (s.heap.objs.size + 1) :: (us ++ ds)) _ _ E (hr.make C us [])
    (I2.env0.make C us []) (hb _ (Value.ref (s.heap.objs.size + 1) :: us) I2.kIn hl) r2 hq) fun r s' hq' => ?_))
  cases r with
  | error e => exact hx pins σ _ _ e s' I2 hq'
  | ok fl =>
    cases fl with
    | ret u =>
      obtain ⟨v, H', I3, rv, ev, q3⟩ := I2.after hq'
      subst ev
      exact ⟨rv, ⟨V.ref (s.heap.objs.size + 1), H', I3, rfl, q3⟩⟩
    | next => exact False.elim hq'
    | brk => exact False.elim hq'
    | cont => exact False.elim hq'
theorem pe_make (M : Mk X.K C f) (F : FnOk X.prog X.w X.K X.mg X.base CX k f fd ps sp) (hr : Room (k + 1) X.A) (hg : Gl X x) (hm : X.mg x = some (.ref C)) (hb : Binds X.K fd ps ds) (hd : Vals dvs ds) (hx : Passes CX X E)
    (ha : PA X (e :: es) t) (hdb : (x == ("__debug__" : Str)) = false := by decide) (he : starEach (e :: es) X.env = (false, eval e X.env) :: starEach es X.env := by rfl) (hpl : (backTo pos (starEach es X.env)).any (·.1) = false := by rfl) :
    PE X (.Call (.Name x p) (e :: es) [] pos) (tMake C sp dvs E t) := by
  intro pins s σ H Q I h
  refine wpAny_Call_Name_kw (ld_glob I hg hm ?_ hdb)
  refine PySem.W.callWith_K (h₀ := X.base) I.ok.mod.kin M.kp (thn (ha pos pins s σ H _ I h) fun us s1 ⟨vs, H1, I1, r, q⟩ => ⟨I1.kIn, ?_⟩) he hpl
  exact run_make M F hr hb hd hx I1 r q
theorem pe_make0 (M : Mk X.K C f) (F : FnOk X.prog X.w X.K X.mg X.base CX k f fd ps sp) (hr : Room (k + 1) X.A) (hg : Gl X x) (hm : X.mg x = some (.ref C)) (hb : Binds X.K fd ps ds) (hd : Vals dvs ds) (hx : Passes CX X E)
    (hdb : (x == ("__debug__" : Str)) = false := by decide) : PE X (.Call (.Name x p) [] [] pos) (tMake C sp dvs E tNil) := by
  intro pins s σ H Q I h
  refine wpAny_Call_Name_kw (ld_glob I hg hm ?_ hdb)
  exact PySem.W.callWith_K0 I.kIn M.kp (run_make (us := []) M F hr hb hd hx I .nil h)
end

/-! ### keywords -/
/-- the values of the keywords, from the left -/
def PK (X : Cx) (kws : List Keyword) (t : TA) : Prop :=
  ∀ (pos : Pos) (pins : List (Addr × Obj)) (s : Shared) (σ : St) (H : Hp) (Q : List V → Hp → Prop), Inv X pins σ H s → t σ H Q → wpAny (model X.prog X.w) X.A (evalAll ((backToKw pos (keywordEach kws X.env)).map (·.2))) (AP X pins σ Q) X.xe s
section
variable {X : Cx} {CX : CXT} {k : Nat} {f C : Addr} {fd : FuncData} {ps ks : List Str} {sp : Sp} {E : XK} {x m : Str} {p pos apos kpos : Pos} {e o : Expr} {es : List Expr} {kws : List Keyword} {te ta : TE} {t tk : TA} {nm : Option Str}
theorem pk_nil : PK X [] tNil := fun _ _ _ _ H Q I h => wpAny_evalAll_nil ⟨[], H, I, .nil, h⟩
theorem pk_cons (ha : PE X e te) (hr : PK X kws t) : PK X (⟨nm, e, kpos⟩ :: kws) (tCons te t) := by
  intro pos pins s σ H Q I h
  show wpAny _ _ (evalAll ((do let v ← eval e X.env; standAt pos; pure v) :: (backToKw pos (keywordEach kws X.env)).map (·.2))) _ _ s
  refine wpAny_evalAll_cons (wpAny_bind (thn (ha pins s σ H _ I h) fun u s1 ⟨x, H1, I1, r1, q1⟩ => wpAny_bind (wpAny_standAt (wpAny_pure ?_))))
  exact thn (hr pos pins s1 σ H1 _ I1 q1) fun us s2 ⟨xs, H2, I2, r2, q2⟩ => ⟨x :: xs, H2, I2, .cons r1 r2, q2⟩

/-- how a call with keywords binds: g puts the positional values us and the keywords' values ws (names ks) in the parameters' order, defaults among them -/
structure KBinds (K : PySem.W.Frag) (fd : FuncData) (ps ks : List Str) (g : List Value → List Value → List Value) (gV : List V → List V → List V) : Prop where
  to : ∀ (s : Shared) (us ws : List Value), K.In s.heap → (g us ws).length = ps.length → BindsTo s fd ⟨us, ks.zip ws⟩ (ps.zip (g us ws))
  rel : ∀ {vs : List V} {us : List Value} {zs : List V} {ws : List Value}, Vals vs us → Vals zs ws → Vals (gV vs zs) (g us ws)
def tCallK (sp : Sp) (gV : List V → List V → List V) (E : XK) (t tk : TA) : TE := fun σ H Q => t σ H fun vs H1 => tk σ H1 fun zs H2 => sp (gV vs zs) H2 Q E
variable {g : List Value → List Value → List Value} {gV : List V → List V → List V}
theorem run_fnk {pins : List (Addr × Obj)} {σ : St} {H : Hp} {s : Shared} {Q : VK} {us ws : List Value} {vs zs : List V} (F : FnOk X.prog X.w X.K X.mg X.base CX k f fd ps sp) (hr : Room k X.A) (hb : KBinds X.K fd ps ks g gV) (hx : Passes CX X E)
    (I : Inv X pins σ H s) (r : Vals vs us) (rz : Vals zs ws) (h : sp (gV vs zs) H Q E) : wpAny (model X.prog X.w) X.A (call (.ref f) us (ks.zip ws)) (EP X pins σ Q) X.xe s := by
  have r2 := hb.rel r rz
  have hl : (g us ws).length = ps.length := by rw [← r2.length]; exact F.len _ _ _ _ h
  refine wpAny_call (codeAny_mono (F.run X.A X.stack s H ⟨us, ks.zip ws⟩ (g us ws) (gV vs zs) Q E hr I.env0 (hb.to s us ws I.kIn hl) r2 h) fun r s' hq => ?_)
  cases r with
  | error e => exact hx pins σ H s e s' I hq
  | ok fl =>
    cases fl with
    | ret u => exact I.after hq
    | next => exact False.elim hq
    | brk => exact False.elim hq
    | cont => exact False.elim hq
/-- f(e, .., k = v, ..) -/
theorem pe_callK (F : FnOk X.prog X.w X.K X.mg X.base CX k f fd ps sp) (hr : Room k X.A) (hg : Gl X x) (hm : X.mg x = some (.ref f)) (hk : PySem.W.keepIn X.K (.ref f) = true) (hb : KBinds X.K fd ps ks g gV) (hx : Passes CX X E)
    (ha : PA X (e :: es) t) (hkw : PK X kws tk) (hall : (backToKw pos (keywordEach kws X.env)).all (·.1.isSome) = true := by rfl) (hks : (backToKw pos (keywordEach kws X.env)).filterMap (·.1) = ks := by rfl)
    (hdb : (x == ("__debug__" : Str)) = false := by decide) (he : starEach (e :: es) X.env = (false, eval e X.env) :: starEach es X.env := by rfl)
    (hpl : ((backTo pos (starEach (e :: es) X.env)).any (·.1) || (backToKw pos (keywordEach kws X.env)).any (·.1.isNone)) = false := by rfl) :
    PE X (.Call (.Name x p) (e :: es) kws pos) (tCallK sp gV E t tk) := by
  intro pins s σ H Q I h
  refine wpAny_Call_Name_kw (ld_glob I hg hm ?_ hdb)
  refine PySem.W.callWith_KW (h₀ := X.base) I.ok.mod.kin hk hall (thn (ha pos pins s σ H _ I h) fun us s1 ⟨vs, H1, I1, r, q⟩ => ?_) hpl he
  refine thn (hkw pos pins s1 σ H1 _ I1 q) fun ws s2 ⟨zs, H2, I2, rz, q2⟩ => ⟨I2.kIn, ?_⟩
  rw [hks]
  exact run_fnk F hr hb hx I2 r rz q2
end

/-! ### a def's body keeps its promise -/
/-- names: the parameters first -/
structure FnScope (N P : List Str) (sc : Scope) : Prop where
  kind : sc.kind = .function
  co : sc.isCoroutine = false
  gen : sc.isGenerator = false
  nd : N.Nodup
  pre : N.take P.length = P
  par : ∀ x ∈ P, sc.names.lookup x = some .local ∨ sc.names.lookup x = some .cell
  nofree : ∀ y ∈ sc.names, y.2 ≠ .free

theorem bindL_out {kindOf : Str → Option NameKind} {x : Str} : ∀ {binds : List (Str × Value)} {m : Str → Option Value}, (∀ v, (x, v) ∉ binds) → bindL kindOf binds m x = m x
  | [], _, _ => rfl
  | (n, v) :: r, m, h => by
    unfold bindL
    rw [bindL_out fun w hw => h w (List.mem_cons_of_mem _ hw)]
    split
    · have : x ≠ n := by rintro rfl; exact h v List.mem_cons_self
      simp [this]
    · rfl
theorem bindC_out {kindOf : Str → Option NameKind} {x : Str} : ∀ {binds : List (Str × Value)} {m : Str → Option Value}, (∀ v, (x, v) ∉ binds) → bindC kindOf binds m x = m x
  | [], _, _ => rfl
  | (n, v) :: r, m, h => by
    unfold bindC
    rw [bindC_out fun w hw => h w (List.mem_cons_of_mem _ hw)]
    split
    · rfl
    · have : x ≠ n := by rintro rfl; exact h v List.mem_cons_self
      simp [this]
theorem bindL_get {kindOf : Str → Option NameKind} {x : Str} {v : Value} : ∀ {P : List Str} {vs : List Value} {i : Nat} {m : Str → Option Value}, P.Nodup → P[i]? = some x → vs[i]? = some v → kindOf x = some .local →
    bindL kindOf (P.zip vs) m x = some v
  | [], _, _, _, _, h, _, _ => by simp at h
  | _ :: _, [], _, _, _, _, h, _ => by simp at h
  | p :: P, w :: vs, 0, m, nd, h1, h2, hk => by
    simp at h1 h2; subst h1; subst h2
    show bindL kindOf ((p, w) :: P.zip vs) m p = _
    unfold bindL
    rw [bindL_out fun v hv => (List.nodup_cons.mp nd).1 (List.of_mem_zip hv).1, if_pos hk]
    simp
  | p :: P, w :: vs, i + 1, m, nd, h1, h2, hk => by
    show bindL kindOf ((p, w) :: P.zip vs) m x = _
    unfold bindL
    exact bindL_get (i := i) (List.nodup_cons.mp nd).2 (by simpa using h1) (by simpa using h2) hk
theorem bindC_get {kindOf : Str → Option NameKind} {x : Str} {v : Value} : ∀ {P : List Str} {vs : List Value} {i : Nat} {m : Str → Option Value}, P.Nodup → P[i]? = some x → vs[i]? = some v → kindOf x ≠ some .local →
    bindC kindOf (P.zip vs) m x = some v
  | [], _, _, _, _, h, _, _ => by simp at h
  | _ :: _, [], _, _, _, _, h, _ => by simp at h
  | p :: P, w :: vs, 0, m, nd, h1, h2, hk => by
    simp at h1 h2; subst h1; subst h2
    show bindC kindOf ((p, w) :: P.zip vs) m p = _
    unfold bindC
    rw [bindC_out fun v hv => (List.nodup_cons.mp nd).1 (List.of_mem_zip hv).1, if_neg hk]
    simp
  | p :: P, w :: vs, i + 1, m, nd, h1, h2, hk => by
    show bindC kindOf ((p, w) :: P.zip vs) m x = _
    unfold bindC
    exact bindC_get (i := i) (List.nodup_cons.mp nd).2 (by simpa using h1) (by simpa using h2) hk

/-- the names' values at the entry -/
def start (N : List Str) (vs : List V) : St := vs.map some ++ List.replicate (N.length - vs.length) none

/-- the context of a def's body, at its entry; an exception leaves the frame, then lies as CX says -/
def cxOf (CX : CXT) (P : Program) (w : World) (K : PySem.W.Frag) (mg : Str → Option Value) (base : Heap) (N : List Str) (qual : Str) (scope : Scope) (f : Addr) (cd : Value) (A : Around) (outer : List Env) (s : Shared) (H : Hp) (E : XK) : Cx where
  prog := P
  w := w
  K := K
  mg := mg
  base := base
  A := A.deeper (envOfC qual scope s.heap.objs.size f cd)
  N := N
  s₀ := s
  H₀ := H
  env := envOfC qual scope s.heap.objs.size f cd
  outer := outer
  stack := envOfC qual scope s.heap.objs.size f cd :: outer
  ex := []
  calm := true
  fn := fun _ => true
  pn := []
  xe := fun e s' => wpAny (model P w) (A.deeper (envOfC qual scope s.heap.objs.size f cd)) (leaving (envOfC qual scope s.heap.objs.size f cd) e) (fun _ s'' => CX outer H s E e s'') (fun e' s'' => CX outer H s E e' s'') s'

theorem cell_has {sc : Scope} {n : Nat} {x : Str} (h : sc.names.lookup x = some .cell) : ∃ c, (cellsFrom n sc.names []).lookup x = some c := by
  have q := PySem.W.cellsFrom_some sc.names n [] (.inl h)
  exact Option.isSome_iff_exists.mp q

theorem inv_start {CX : CXT} {P : Program} {w : World} {K : PySem.W.Frag} {mg : Str → Option Value} {base : Heap} {N ps : List Str} {qual : Str} {scope : Scope} {f : Addr} {cd : Value} {A : Around} {outer : List Env} {s s1 : Shared} {H : Hp} {E : XK} {us : List Value} {vs : List V}
    (S : FnScope N ps scope) (hd : A.handled = none) (e0 : Env0 P w K mg base A outer s H) (hl : vs.length = ps.length) (r : Vals vs us)
    (x : InCallC s s.heap.objs.size (bindL (envOfC qual scope s.heap.objs.size f cd).kindOf (ps.zip us) fun _ => none) (cellsFrom (s.heap.objs.size + 1) scope.names []) (bindC (envOfC qual scope s.heap.objs.size f cd).kindOf (ps.zip us) fun _ => none) s1) :
    Inv (cxOf CX P w K mg base N qual scope f cd A outer s H E) [] (start N vs) H s1 := by
  have hpl : ps.length ≤ N.length := by have := congrArg List.length S.pre; rw [List.length_take] at this; omega
  obtain ⟨h1, tk, rfl, hk⟩ := x.done
  have noA : ∀ b : Addr, b ∉ (cxOf CX P w K mg base N qual scope f cd A outer s H E).ex := fun b z => absurd (show b ∈ ([] : List Addr) from z) (by simp)
  refine ⟨⟨e0.mod, S.kind, rfl, rfl, Nat.le_refl _, fun y z c h1 h2 => ?_, fun y hy => ?_, fun y c _ h => ?_, fun _ => hd, Around.frames_deeper e0.frames, .inr ⟨rfl, rfl⟩, fun b z => absurd z (noA b), e0.bs, e0.bsz, fun b _ _ => noA b, fun b z => absurd z (noA b), e0.funs, e0.frf⟩,
    rfl, e0.bare, Un.kept hk, ⟨_, x.toInCall.ns, fun i y v h1 h2 h3 => ?_⟩, fun y c h => ⟨_, x.cell y c h⟩, e0.hok.fresh (Nat.le_refl _), fun y c h => ?_, fun p hp => absurd (show p ∈ ([] : List (Addr × Obj)) from hp) (by simp), e0.hok.kept hk, ?_⟩
  · exact name_of_addr x.apart (PySem.mem_of_lookup h1) (PySem.mem_of_lookup h2)
  · have hy : scope.names.lookup y = some .cell ∨ scope.names.lookup y = some .free := hy
    rcases hy with hy | hy
    · exact cell_has hy
    · exact absurd rfl (S.nofree _ (PySem.mem_of_lookup hy))
  · exact Nat.le_of_lt (x.above y c (PySem.mem_of_lookup h))
  · have hi : i < vs.length := by
      unfold start at h2
      by_cases hi : i < vs.length
      · exact hi
      · rw [List.getElem?_append_right (by simpa using hi)] at h2
        rw [List.getElem?_replicate] at h2
        split at h2 <;> cases h2
    have ha : vs[i]? = some v := by
      unfold start at h2
      rw [List.getElem?_append_left (by simpa using hi), List.getElem?_map] at h2
      cases e : vs[i]? with
      | none => rw [e] at h2; cases h2
      | some a => rw [e] at h2; cases h2; rfl
    obtain ⟨u, hu, rv⟩ := r.get ha
    have hp : ps[i]? = some y := by
      rw [← S.pre, List.getElem?_take_of_lt (by omega)]; exact h1
    have ndP : ps.Nodup := by rw [← S.pre]; exact S.nd.sublist (List.take_sublist _ _)
    refine ⟨u, rv, ?_⟩
    rcases S.par y (List.mem_of_getElem? hp) with k | k
    · exact .inl ⟨k, bindL_get ndP hp hu k⟩
    · obtain ⟨c, e⟩ := cell_has (n := s.heap.objs.size + 1) k
      refine .inr ⟨.inl k, c, e, ?_⟩
      have q := x.cell y c e
      rw [bindC_get ndP hp hu (by show scope.names.lookup y ≠ _; rw [k]; decide)] at q
      exact q
  · exact e0.hok.fresh (Nat.le_of_lt (x.above y c (PySem.mem_of_lookup h)))
  · unfold start
    show _ = N.length
    rw [List.length_append, List.length_map, List.length_replicate]
    omega

/-- THE RULE: a def (or a method) of the text, by its body. The body's reading t is chosen for each entry; it is run at the parameters' values -/
theorem fn_of {CX : CXT} {P : Program} {w : World} {K : PySem.W.Frag} {mg : Str → Option Value} {base : Heap} {k : Nat} {f : Addr} {name qual : Str} {params : Arguments} {body : List Stmt} {scope : Scope} {dV kV doc pm cdv ct oc : Value} {an od : Option Addr}
    {osl : Array (Option Value)} {N ps : List Str} {sp : Sp} (lk : K.lookup f = some ⟨oc, od, .func (PySem.W.fnOf name qual params body scope dV kV doc pm an cdv ct), osl⟩) (hcd : PySem.W.codeIn K cdv qual = true) (S : FnScope N ps scope)
    (len : ∀ vs H Q E, sp vs H Q E → vs.length = ps.length)
    (hbody : ∀ (A : Around) (outer : List Env) (s : Shared) (H : Hp) (vs : List V) (Q : VK) (E : XK), Room k (A.deeper (envOfC qual scope s.heap.objs.size f cdv)) → sp vs H Q E →
      ∃ t, PSs (cxOf CX P w K mg base N qual scope f cdv A outer s H E) body t ∧ t { nx := fun _ H' => Q .non H', rt := Q } (start N vs) H) :
    FnOk P w K mg base CX (k + 1) f (PySem.W.fnOf name qual params body scope dV kV doc pm an cdv ct) ps sp := by
  refine ⟨len, fun A outer s H args us vs Q E hr e0 hb r hsp => ?_⟩
  have hl := len _ _ _ _ hsp
  have KX : K.In s.heap := e0.mod.kin.keeps fun b o e => (e0.bs b o e).1
  have lim : s.heap.NoLimit := e0.mod.nolimit.keeps fun b o e => (e0.bs b o e).1
  have hkind : ∀ y ∈ ps.zip us, scope.names.lookup y.1 = some .local ∨ (scope.names.lookup y.1 = some .cell ∧ ((cellsFrom (s.heap.objs.size + 1) scope.names []).lookup y.1).isSome = true) := fun ⟨n, v⟩ hy => by
    rcases S.par n (List.of_mem_zip hy).1 with q | q
    · exact .inl q
    · exact .inr ⟨q, PySem.W.cellsFrom_some _ _ _ (.inl q)⟩
  refine codeAny_call_function hr.depth (KX _ _ lk) rfl S.co S.gen rfl (PySem.W.codeRec_of KX hcd) (hb _ _ _ _ ?_)
  refine wpAny_newFunctionEnv_cells S.kind hkind fun env he s1 x => ?_
  subst he
  refine ⟨lim.keeps x.toInCall.keep, codeAny_func ?_⟩
  obtain ⟨t, ht, hq⟩ := hbody A outer s H vs Q E (hr.deeper _) hsp
  have I : Inv (cxOf CX P w K mg base N qual scope f cdv A outer s H E) [] (start N vs) H s1 := inv_start S hr.hd e0 hl r x
  refine wpAny_mono (ht [] s1 (start N vs) H _ I hq) (fun fl s' hs => ?_) fun e s' hs => hs
  have fin : ∀ {σ' : St} {H' : Hp} {v : V} {u : Value}, Inv (cxOf CX P w K mg base N qual scope f cdv A outer s H E) [] σ' H' s' → RelV v u → Q v H' → CE outer P w H s Q u s' :=
    fun {σ' H' v u} J rv q => ⟨v, H', J.os, J.bare, J.base, J.hok, rv, q⟩
  cases fl with
  | ret u =>
    obtain ⟨v, σ', H', J, rv, q⟩ := hs
    exact fin J rv q
  | next =>
    obtain ⟨σ', H', J, q⟩ := hs
    exact fin (v := V.non) (u := Value.none) J rfl q
  | brk =>
    obtain ⟨_, _, _, q⟩ := hs
    exact False.elim q
  | cont =>
    obtain ⟨_, _, _, q⟩ := hs
    exact False.elim q
end L2

namespace L2
open PySem PySem.Spec PyProof.Rows
section
variable {X : Cx} {x : Str} {p pos : Pos} {e : Expr} {es : List Expr} {t : TA} {id T : String} {r : List V → Hp → VK → Prop}

def tCB (r : List V → Hp → VK → Prop) (t : TA) : TE := fun σ H Q => t σ H fun vs H1 => r vs H1 Q
/-- f(e, ..), f a built-in function -/
theorem pe_callB (hc : CallR X (.builtin id) r) (hg : Gl X x) (hm : X.mg x = none) (hv : bootBuiltins x = some (.builtin id)) (ha : PA X (e :: es) t) (hn : x ≠ "__name__" := by decide) (hdb : (x == ("__debug__" : Str)) = false := by decide)
    (he : starEach (e :: es) X.env = (false, eval e X.env) :: starEach es X.env := by rfl) (hpl : (backTo pos (starEach es X.env)).any (·.1) = false := by rfl) : PE X (.Call (.Name x p) (e :: es) [] pos) (tCB r t) := by
  intro pins s σ H Q I h
  refine wpAny_Call_Name_kw (ld_blt I hg hm hv ?_ hn hdb)
  exact PyProof.Rows.callWith_builtin1 (thn (ha pos pins s σ H _ I h) fun us s1 ⟨vs, H1, I1, r1, q1⟩ => hc pins s1 σ H1 vs us Q I1 r1 q1) he hpl
/-- T(e, ..), T a built-in type -/
theorem pe_callTy (hc : CallR X (.type T) r) (hg : Gl X x) (hm : X.mg x = none) (hv : bootBuiltins x = some (.type T)) (ha : PA X (e :: es) t) (hn : x ≠ "__name__" := by decide) (hdb : (x == ("__debug__" : Str)) = false := by decide)
    (he : starEach (e :: es) X.env = (false, eval e X.env) :: starEach es X.env := by rfl) (hpl : (backTo pos (starEach es X.env)).any (·.1) = false := by rfl) : PE X (.Call (.Name x p) (e :: es) [] pos) (tCB r t) := by
  intro pins s σ H Q I h
  refine wpAny_Call_Name_kw (ld_blt I hg hm hv ?_ hn hdb)
  exact PyProof.Rows.callWith_type1 (thn (ha pos pins s σ H _ I h) fun us s1 ⟨vs, H1, I1, r1, q1⟩ => hc pins s1 σ H1 vs us Q I1 r1 q1) he hpl
/-- T() -/
theorem pe_callTy0 (hc : CallR X (.type T) r) (hg : Gl X x) (hm : X.mg x = none) (hv : bootBuiltins x = some (.type T)) (hn : x ≠ "__name__" := by decide) (hdb : (x == ("__debug__" : Str)) = false := by decide) :
    PE X (.Call (.Name x p) [] [] pos) (tCB r tNil) := by
  intro pins s σ H Q I h
  refine wpAny_Call_Name_kw (ld_blt I hg hm hv ?_ hn hdb)
  exact PyProof.Rows.callWith_type0 (hc pins s σ H [] [] Q I .nil h)
end
end L2

namespace HT
open PySem PyProof.Rows

/-- t < u of tuples of ints -/
def lexLt : List Int → List Int → Bool
  | [], [] => false
  | [], _ :: _ => true
  | _ :: _, [] => false
  | x :: xs, y :: ys => if x = y then lexLt xs ys else decide (x < y)
theorem lexLt_cons (x y : Int) (xs ys : List Int) : lexLt (x :: xs) (y :: ys) = if x = y then lexLt xs ys else decide (x < y) := rfl
theorem lexLt_nil_nil : lexLt [] [] = false := rfl
theorem lexLt_nil_cons (y : Int) (ys : List Int) : lexLt [] (y :: ys) = true := rfl
theorem lexLt_cons_nil (x : Int) (xs : List Int) : lexLt (x :: xs) [] = false := rfl

theorem eqAt_int (A : Around) (s : Shared) (a : Int) (t : Tok) (c : Int) (u : Tok) : ∃ e, SeqAt.EqAt A s (.int a t) (.int c u) e ∧ (e = true ↔ a = c) :=
  ⟨(a == c), SeqAt.EqAt.int_int a t c u, by simp⟩
theorem rcLt_int (A : Around) (s : Shared) (a : Int) (t : Tok) (c : Int) (u : Tok) (prog : Program) (w : World) (E : Value → Shared → Prop) (Q : Value → Shared → Prop) (h : Q (.bool (decide (a < c))) s) :
    wpAny (model prog w) A (richCompare .Lt (.int a t) (.int c u)) Q E s :=
  (PyProof.Rows.lt_int h : wpAny (model prog w) A (compareOp .Lt (.int a t) (.int c u)) Q E s)

section
open PySem.SeqAt
open PySem.AutoSeq1 (wpAny_loadPart')
open PySem.MeetsSeq PySem.MeetsSeq2 PySem.MeetsSeq3

theorem tuple_lt_ints (l b : Addr) (items items2 : Array Value) (n n2 : Nat) (dd dd2 : Option Addr) (sl sl2 : Array (Option Value)) (ns ms : List Int) (hi : IntsAre items.toList ns) (hj : IntsAre items2.toList ms) :
    Meets (Builtin.«tuple.__lt__» ⟨[.ref l, .ref b], []⟩)
      (fun _ R s => s.heap.get? l = some { cls := .type "tuple", dict := dd, data := .seq items n, slots := sl } ∧ s.heap.get? b = some { cls := .type "tuple", dict := dd2, data := .seq items2 n2, slots := sl2 } ∧
        R (.ok (.ret (.bool (lexLt ns ms)))) s) :=
  .of_wp fun prog w A R s h => by
    obtain ⟨hp, g, d, tk, os⟩ := s; obtain ⟨hl, hb, h⟩ := h
    have f2 := AutoSeq1.sub_tuple_tuple
    have z1 : items.size = ns.length := by rw [← hi.length]; simp
    have z2 : items2.size = ms.length := by rw [← hj.length]; simp
    wp_walk using wpAny_loadPart' hl, wpAny_loadPart' hb, wpAny_forIn_list _ (fun rest b s' => b.1 = none ∧ s' = ⟨hp, g, d, tk, os⟩ ∧ ∃ (vs ws : List Value) (ns' ms' : List Int), rest = vs.zip ws ∧
      IntsAre vs ns' ∧ IntsAre ws ms' ∧ ns'.length + items2.size = ms'.length + items.size ∧ R (.ok (.ret (.bool (lexLt ns' ms')))) ⟨hp, g, d, tk, os⟩) _
    case turn =>
      rintro ⟨y, x⟩ rest b s' ⟨hb', rfl, vs, ws, ns', ms', hz, hvi, hwi, hlen, hR⟩
      cases hvi with
      | nil => rw [List.zip_nil_left] at hz; cases hz
      | cons a t hvi' =>
        cases hwi with
        | nil => rw [List.zip_nil_right] at hz; cases hz
        | cons c u hwi' =>
          rw [List.zip_cons_cons] at hz
          injection hz with hyx hrest
          injection hyx with hy hx
          subst hy hx
          rw [lexLt_cons] at hR
          simp only [List.length_cons] at hlen
          obtain ⟨e, he, hiff⟩ := eqAt_int A.in1 ⟨hp, g, d, tk, os⟩ a t c u
          refine wpAny_bind (he prog w _ _ ?_)
          cases e with
          | true =>
            rw [if_pos (hiff.mp rfl)] at hR
            wp_walk
            exact ⟨rfl, rfl, _, _, _, _, hrest, hvi', hwi', by omega, hR⟩
          | false =>
            rw [if_neg (fun q => absurd (hiff.mpr q) Bool.false_ne_true)] at hR
            have hri := rcLt_int A.in1 ⟨hp, g, d, tk, os⟩ a t c u prog w
            wp_walk using hri
            exact ⟨_, rfl, by simpa using hR⟩
    case fin =>
      rintro ⟨b1, b2⟩ s' ⟨hb', rfl, vs, ws, ns', ms', hz, hvi, hwi, hlen, hR⟩
      simp only at hb'
      subst hb'
      have hv : lexLt ns' ms' = decide (items.size < items2.size) := by
        cases hvi with
        | nil =>
          cases hwi with
          | nil =>
            simp only [List.length_nil] at hlen
            rw [lexLt_nil_nil]
            exact (decide_eq_false (by omega)).symm
          | cons c u hw =>
            simp only [List.length_nil, List.length_cons] at hlen
            rw [lexLt_nil_cons]
            exact (decide_eq_true (by omega)).symm
        | cons a t hv =>
          cases hwi with
          | nil =>
            simp only [List.length_nil, List.length_cons] at hlen
            rw [lexLt_cons_nil]
            exact (decide_eq_false (by omega)).symm
          | cons c u hw =>
            rw [List.zip_cons_cons] at hz
            cases hz
      rw [hv] at hR
      wp_walk
      exact ⟨_, rfl, by simpa [Builtin.Tuple.tupleCompareSizes] using hR⟩
    case h =>
      exact ⟨rfl, rfl, items.toList, items2.toList, ns, ms, rfl, hi, hj, by omega, h⟩
end

section
variable {prog : Program} {w : World} {A : Around} {E : Value → Shared → Prop} {s : Shared}

theorem lt_tupInts {l b : Addr} {items items2 : Array Value} {ns ms : List Int} {Q : Value → Shared → Prop} (hl : IsTup s.heap l items) (hb : IsTup s.heap b items2) (hi : IntsAre items.toList ns) (hj : IntsAre items2.toList ms)
    (hu : A.units < cLine) (h : Q (.bool (lexLt ns ms)) s) : wpAny (model prog w) A (compareOp .Lt (.ref l) (.ref b)) Q E s := by
  obtain ⟨⟨cls, dd, data, sl⟩, ho, hc, n, hd⟩ := id hl
  obtain ⟨⟨cls2, dd2, data2, sl2⟩, ho2, hc2, n2, hd2⟩ := id hb
  simp only at hc hd hc2 hd2
  subst hc hd hc2 hd2
  exact richCompare_meets_room (op := .Lt) ⟨_, ho, rfl⟩ ⟨_, ho2, rfl⟩ PySem.F.slot_tuple_lt PySem.F.entry_tuple_lt (PySem.F.args_tuple_lt_2 _ _) (tuple_lt_ints l b items items2 n n2 dd dd2 sl sl2 ns ms hi hj)
    ⟨ho, ho2, show Value.bool (lexLt ns ms) ≠ Value.notImplemented ∧ Q (.bool (lexLt ns ms)) s from ⟨(fun x => nomatch x), h⟩⟩ hu

/-- t + u, t not empty -/
theorem cat_tup {t b : Addr} {vs ws : List Value} {Q : Value → Shared → Prop} (ht : IsTup s.heap t vs.toArray) (hb : IsTup s.heap b ws.toArray) (hv : vs ≠ [])
    (h1 : ws = [] → Q (.ref t) s) (h2 : ws ≠ [] → Q (.ref s.heap.objs.size) { s with heap := s.heap.push { cls := .type "tuple", data := .seq (vs ++ ws).toArray } })
    (hsz : vs.length + ws.length ≤ sizeLine) : wpAny (model prog w) A (binaryOp .Add (.ref t) (.ref b)) Q E s := by
  obtain ⟨⟨cls, dd, data, sl⟩, ho, hc, n, hd⟩ := id ht
  obtain ⟨⟨cls2, dd2, data2, sl2⟩, ho2, hc2, n2, hd2⟩ := id hb
  simp only at hc hd hc2 hd2
  subst hc hd hc2 hd2
  have e : vs.toArray ++ ws.toArray = (vs ++ ws).toArray := by simp
  by_cases hw : ws = []
  · exact concat_meets ⟨_, ho, rfl⟩ ⟨_, ho2, rfl⟩ noFill_tuple_add seq_tuple_add PySem.F.slot_tuple_add PySem.F.entry_tuple_add (PySem.F.args_tuple_add_2 _ _)
      (tuple_addW1 t b vs.toArray ws.toArray n n2 dd dd2 sl sl2 (by simpa using hv) (by simp [hw])) ⟨ho, ho2, h1 hw⟩
  · refine concat_meets ⟨_, ho, rfl⟩ ⟨_, ho2, rfl⟩ noFill_tuple_add seq_tuple_add PySem.F.slot_tuple_add PySem.F.entry_tuple_add (PySem.F.args_tuple_add_2 _ _)
      (tuple_addW2 t b vs.toArray ws.toArray n n2 dd dd2 sl sl2 (by simpa using hv) (by simpa using hw) (by rw [List.size_toArray, List.size_toArray]; exact hsz)) ⟨ho, ho2, ?_⟩
    rw [e]
    exact h2 hw

/-! ### t[a:b], not the whole -/
/-- a slice's bound as a place among n (d where it is left out) -/
def sIx (n d : Nat) : Option Int → Nat
  | none => d
  | some v => if v < 0 then (v + (n : Int)).toNat else min v.toNat n
theorem sIx_none (n d : Nat) : sIx n d none = d := rfl
theorem sIx_nat (n d k : Nat) : sIx n d (some (k : Int)) = min k n := by
  show (if (k : Int) < 0 then ((k : Int) + (n : Int)).toNat else min (k : Int).toNat n) = min k n
  rw [if_neg (by omega), Int.toNat_natCast]
theorem sIx_le (n d : Nat) (hd : d ≤ n) (o : Option Int) : sIx n d o ≤ n := by
  cases o with
  | none => exact hd
  | some v =>
    show (if v < 0 then (v + (n : Int)).toNat else min v.toNat n) ≤ n
    by_cases hv : v < 0
    · rw [if_pos hv]; omega
    · rw [if_neg hv]; exact Nat.min_le_right _ _
theorem clip_eq (v : Int) (n d : Nat) : (if v < 0 then max (v + (n : Int)) 0 else min v (n : Int)) = ((sIx n d (some v) : Nat) : Int) := by
  show (if v < 0 then max (v + (n : Int)) 0 else min v (n : Int)) = (((if v < 0 then (v + (n : Int)).toNat else min v.toNat n) : Nat) : Int)
  by_cases hv : v < 0
  · simp only [if_pos hv]; omega
  · simp only [if_neg hv]; omega
theorem adjust_gen (lo hi : Option Int) (n : Nat) : Builtin.Slice.sliceAdjust lo hi 1 (n : Int) = (((sIx n 0 lo : Nat) : Int), ((sIx n n hi : Nat) : Int)) := by
  have h1 : ¬ ((1 : Int) < 0) := by omega
  unfold Builtin.Slice.sliceAdjust
  simp only [h1, if_false]
  refine Prod.ext ?_ ?_
  · cases lo with
    | none => rfl
    | some v => exact clip_eq v n 0
  · cases hi with
    | none => rfl
    | some v => exact clip_eq v n n
theorem places_gen (i j : Nat) : Builtin.Slice.slicePlaces (i : Int) (j : Int) 1 = j - i := by
  unfold Builtin.Slice.slicePlaces
  have h1 : (1 : Int) > 0 := by omega
  simp only [h1, if_true, Int.ediv_one]
  split <;> omega
theorem slicePart_ {v : Value} {o : Option Int} {Q : Option Int → Shared → Prop} (p : IsPart v o) (h : Q o s) : wpAny (model prog w) A (Builtin.Slice.slicePartIndex v) Q E s := by
  cases p with
  | none => exact slicePart_none h
  | int i t => exact slicePart_int h
theorem sliceApplied_gen {sl : Addr} {vl vu : Value} {lo hi : Option Int} {n : Nat} {Q : Int × Int × Nat → Shared → Prop} (hs : s.heap.IsSliceOf sl vl vu .none) (pl : IsPart vl lo) (pu : IsPart vu hi)
    (h : Q (((sIx n 0 lo : Nat) : Int), 1, sIx n n hi - sIx n 0 lo) s) : wpAny (model prog w) A (Builtin.Slice.sliceApplied (.ref sl) (pure (n : Int))) Q E s := by
  obtain ⟨os, hos, hcs, hds⟩ := id hs
  unfold Builtin.Slice.sliceApplied Builtin.Slice.sliceFields
  refine wpAny_bind (wpAny_bind (wpAny_field hos hds (x := vl) rfl (wpAny_bind (wpAny_field hos hds (x := vu) rfl (wpAny_bind (wpAny_field hos hds (x := .none) rfl (wpAny_pure ?_)))))))
  refine wpAny_bind (slicePart_none ?_)
  show wpAny _ _ (if ((1 : Int) == 0) = true then _ else _) _ _ s
  rw [if_neg (by decide)]
  refine wpAny_bind (slicePart_ pl (wpAny_bind (slicePart_ pu (wpAny_bind (wpAny_pure ?_)))))
  show wpAny _ _ (match Builtin.Slice.sliceAdjust lo hi 1 (n : Int) with | (lo, hi) => pure (lo, (1 : Int), Builtin.Slice.slicePlaces lo hi 1)) _ _ s
  rw [adjust_gen lo hi n]
  show wpAny _ _ (pure (((sIx n 0 lo : Nat) : Int), (1 : Int), Builtin.Slice.slicePlaces ((sIx n 0 lo : Nat) : Int) ((sIx n n hi : Nat) : Int) 1)) _ _ s
  rw [places_gen]
  exact wpAny_pure h
theorem pick_gen (xs : Array Value) (i k : Nat) : ((List.range k).filterMap fun (m : Nat) => xs[((i : Int) + (m : Int) * 1).toNat]?).toArray = ((xs.toList.drop i).take k).toArray := by
  have e : (fun (m : Nat) => xs[((i : Int) + (m : Int) * 1).toNat]?) = fun m => xs[i + m]? := by
    funext m
    have : ((i : Int) + (m : Int) * 1).toNat = i + m := by omega
    rw [this]
  rw [e]
  have := pick_run xs i k
  rw [List.filterMap_map] at this
  have e2 : ((fun x => xs[x]?) ∘ fun x => i + x) = fun m => xs[i + m]? := rfl
  rw [e2] at this
  rw [this]

theorem getItem_tuple_cut {t sl : Addr} {items : Array Value} {vl vu : Value} {lo hi : Option Int} {Q : Value → Shared → Prop} (ht : IsTup s.heap t items) (hs : s.heap.IsSliceOf sl vl vu .none) (pl : IsPart vl lo) (pu : IsPart vu hi)
    (hw : ¬ (sIx items.size 0 lo = 0 ∧ sIx items.size items.size hi = items.size))
    (h : Q (.ref s.heap.objs.size) { s with heap := s.heap.push { cls := .type "tuple", data := .seq ((items.toList.drop (sIx items.size 0 lo)).take (sIx items.size items.size hi - sIx items.size 0 lo)).toArray } })
    (hsz : items.size ≤ sizeLine) : wpAny (model prog w) A (getItem (.ref t) (.ref sl)) Q E s := by
  have htake : sizeOk (.seq ((items.toList.drop (sIx items.size 0 lo)).take (sIx items.size items.size hi - sIx items.size 0 lo)).toArray) := by
    show ((items.toList.drop (sIx items.size 0 lo)).take (sIx items.size items.size hi - sIx items.size 0 lo)).toArray.size ≤ sizeLine
    rw [List.size_toArray, List.length_take, List.length_drop, Array.length_toList]
    omega
  have hj : sIx items.size items.size hi ≤ items.size := sIx_le _ _ (Nat.le_refl _) hi
  obtain ⟨os, hos, hcs, hds⟩ := id hs
  have hTs : s.TypeIs (.ref sl) "slice" := ⟨os, hos, hcs⟩
  unfold getItem
  try with_reducible refine wpAny_holding ?_
  first | refine wpAny_bind (wpAny_pure ?_) | skip
  refine wpAny_bind (wpAny_sequenceKey ht.typeIs (by decide) ?_)
  refine wpAny_bind (wpAny_callSpecial?_slot (name := Str.ofString "__getitem__") ht.typeIs PyProof.Rows.slot_tuple_getitem
    (wpAny_call_entry PyProof.Rows.slot_tuple_getitem ht.typeIs entry_tuple_getitem ?_ (args_tuple_getitem _ _)))
  show wpAny _ _ (Builtin.Tuple.tupleItemsOf (.ref t) >>= _) _ _ s
  refine wpAny_bind (tupleItemsOf_ ht ?_)
  refine wpAny_bind (wpAny_typeOf hTs ?_)
  rw [if_pos (by decide)]
  refine wpAny_bind (sliceApplied_gen hs pl pu ?_)
  have hno : ¬ ((((sIx items.size 0 lo : Nat) : Int) == 0 && (1 : Int) == 1 && (sIx items.size items.size hi - sIx items.size 0 lo) == items.size) = true) := by
    intro q
    rw [Bool.and_eq_true, Bool.and_eq_true] at q
    have q1 : ((sIx items.size 0 lo : Nat) : Int) = 0 := eq_of_beq q.1.1
    have q2 : sIx items.size items.size hi - sIx items.size 0 lo = items.size := eq_of_beq q.2
    exact hw ⟨by omega, by omega⟩
  show wpAny _ _ (if (((sIx items.size 0 lo : Nat) : Int) == 0 && (1 : Int) == 1 && (sIx items.size items.size hi - sIx items.size 0 lo) == items.size) = true then _ else _) _ _ s
  rw [if_neg hno, pick_gen]
  first
    | exact wpAny_bind (m := Builtin.Tuple.tupleExact _) (wpAny_newObj_type (wpAny_pure ⟨_, rfl, wpAny_pure h⟩) htake)
    | exact wpAny_bind (m := Builtin.Tuple.tupleExact _) (wpAny_newObj_type (wpAny_bind (wpAny_pure (wpAny_pure ⟨_, rfl, wpAny_pure h⟩))) htake)
    | exact wpAny_bind (wpAny_bind (m := Builtin.Tuple.tupleExact _) (wpAny_newObj_type (wpAny_pure (wpAny_pure ⟨_, rfl, wpAny_pure h⟩)) htake))
    | exact wpAny_bind (wpAny_bind (m := Builtin.Tuple.tupleExact _) (wpAny_newObj_type (wpAny_pure ⟨_, rfl, wpAny_pure h⟩) htake))
end
end HT

namespace L2
open PySem PySem.Spec PyProof.Rows

/-! ### the parts of a slice -/
abbrev TO := St → Hp → (Option Int → Hp → Prop) → Prop
/-- a slice's part (left out, or an int) -/
def PO (X : Cx) (e : Option Expr) (t : TO) : Prop :=
  ∀ (pins : List (Addr × Obj)) (s : Shared) (σ : St) (H : Hp) (Q : Option Int → Hp → Prop), Inv X pins σ H s → t σ H Q →
    wpAny (model X.prog X.w) X.A (evalPart e X.env) (fun u s' => ∃ o H', Inv X pins σ H' s' ∧ IsPart u o ∧ Q o H') X.xe s
def tNoPart : TO := fun _ H Q => Q none H
def tPart (t : TE) : TO := fun σ H Q => t σ H fun x H1 => ∃ i, x = .int i ∧ Q (some i) H1

theorem intsAre_of {ns : List Int} : ∀ {us : List Value}, Vals (ns.map V.int) us → IntsAre us ns := by
  induction ns with
  | nil => intro us r; rw [List.map_nil] at r; cases r; exact .nil
  | cons n ns ih =>
    intro us r
    rw [List.map_cons] at r
    cases r with
    | cons r1 r2 =>
      obtain ⟨t, e⟩ := r1
      subst e
      exact .cons n t (ih r2)

section
variable {X : Cx} {e : Expr} {te : TE} {lo hi : Option Expr} {tl th : TO} {pos p2 : Pos}

theorem po_none : PO X none tNoPart := by
  intro pins s σ H Q I h
  rw [evalPart_none]
  exact wpAny_pure ⟨none, H, I, .none, h⟩
theorem po_some (h : PE X e te) : PO X (some e) (tPart te) := by
  intro pins s σ H Q I hw
  rw [evalPart_some]
  refine thn (h pins s σ H _ I hw) fun u s1 ⟨x, H1, I1, r1, q1⟩ => ?_
  obtain ⟨i, rfl, q⟩ := q1
  obtain ⟨t, rfl⟩ := r1
  exact ⟨some i, H1, I1, .int i t, q⟩

/-- what a slice of a value is, by values: the slice object stands at sl -/
def SlR (X : Cx) (r : V → Option Int → Option Int → Hp → VK → Prop) : Prop :=
  ∀ (pins : List (Addr × Obj)) (s : Shared) (σ : St) (H : Hp) (x : V) (v vl vu : Value) (lo hi : Option Int) (sl : Addr) (Q : VK), Inv X pins σ H s → RelV x v → s.heap.IsSliceOf sl vl vu .none → IsPart vl lo → IsPart vu hi → r x lo hi H Q →
    ∃ T id, typeLookup (.type T) "__getitem__" = pure (some (.builtin id)) ∧ s.TypeIs v T ∧ wpAny (model X.prog X.w) X.A (getItem v (.ref sl)) (EP X pins σ Q) X.xe s
theorem SlR.or {r r' : V → Option Int → Option Int → Hp → VK → Prop} (h : SlR X r) (h' : SlR X r') : SlR X (fun x lo hi H Q => r x lo hi H Q ∨ r' x lo hi H Q) := by
  intro pins s σ H x v vl vu lo hi sl Q I rx hs pl pu q
  rcases q with q | q
  · exact h pins s σ H x v vl vu lo hi sl Q I rx hs pl pu q
  · exact h' pins s σ H x v vl vu lo hi sl Q I rx hs pl pu q
def tSl (r : V → Option Int → Option Int → Hp → VK → Prop) (te : TE) (tl th : TO) : TE := fun σ H Q => te σ H fun x H1 => tl σ H1 fun l H2 => th σ H2 fun u H3 => r x l u H3 Q
/-- a[lo:hi], any a -/
theorem pe_slice {r : V → Option Int → Option Int → Hp → VK → Prop} (hr : SlR X r) (he : PE X e te) (hl : PO X lo tl) (hu : PO X hi th) : PE X (.Subscript e (.Slice lo hi none p2) pos) (tSl r te tl th) := by
  intro pins s σ H Q I h
  refine Subscript_ (thn (he pins s σ H _ I h) fun v s1 ⟨x, H1, I1, r1, q1⟩ => ?_)
  refine wpAny_Slice (thn (hl pins s1 σ H1 _ I1 q1) fun vl s2 ⟨l, H2, I2, pl, q2⟩ => thn (hu pins s2 σ H2 _ I2 q2) fun vu s3 ⟨u, H3, I3, pu, q3⟩ => ?_)
  rw [evalPart_none]
  refine wpAny_pure ?_
  have I4 : Inv X pins σ H3 { s3 with heap := s3.heap.push { cls := .type "slice", data := .fields #[vl, vu, .none] } } := I3.kept (t' := s3.toks) fun b ob q => Heap.get?_push_of_some _ q
  obtain ⟨T, id, hT, ht, hg⟩ := hr pins { s3 with heap := s3.heap.push { cls := .type "slice", data := .fields #[vl, vu, .none] } } σ H3 x v vl vu l u s3.heap.objs.size Q I4 r1 (Heap.IsSliceOf.new ..) pl pu q3
  show wpAny (model X.prog X.w) X.A (subscriptTail e (.Slice lo hi none p2) v (.ref s3.heap.objs.size)) (EP X pins σ Q) X.xe { s3 with heap := s3.heap.push { cls := .type "slice", data := .fields #[vl, vu, .none] } }
  exact tail_any (ops := [.ref s3.heap.objs.size, v]) ht hT hg (by with_unfolding_all rfl)

/-- the items of xs[lo:hi] -/
def cutV (xs : List V) (lo hi : Option Int) : List V := (xs.drop (HT.sIx xs.length 0 lo)).take (HT.sIx xs.length xs.length hi - HT.sIx xs.length 0 lo)
theorem cutV_length (xs : List V) (lo hi : Option Int) : (cutV xs lo hi).length ≤ xs.length := by
  unfold cutV
  rw [List.length_take, List.length_drop]
  omega
/-- t[lo:hi], not the whole of it (the whole would be t itself) -/
def rSlT (K : PySem.W.Frag) : V → Option Int → Option Int → Hp → VK → Prop := fun x lo hi H Q => ∃ a xs, x = .ref a ∧ SqT K H a xs ∧
  ¬ (HT.sIx xs.length 0 lo = 0 ∧ HT.sIx xs.length xs.length hi = xs.length) ∧ ∀ p, H p = none → Q (.ref p) (upd H p (.tup (cutV xs lo hi)))
theorem sl_tup : SlR X (rSlT X.K) := by
  intro pins s σ H x v vl vu lo hi sl Q I rx hs pl pu h
  obtain ⟨a, xs, rfl, hx, hw, q⟩ := h
  cases rx
  obtain ⟨its, r, ht, hz⟩ := I.tuple hx
  have hlen : its.toArray.size = xs.length := by rw [List.size_toArray]; exact r.length.symm
  refine ⟨"tuple", _, PyProof.Rows.slot_tuple_getitem.lookup, ht.typeIs, ?_⟩
  refine HT.getItem_tuple_cut ht hs pl pu (by rw [hlen]; exact hw) ?_ (by rw [hlen]; exact hz)
  rw [hlen]
  refine ⟨.ref s.heap.objs.size, _, I.laid (t' := s.toks) (o := .tup (cutV xs lo hi)) (fun b ob q => Heap.get?_push_of_some _ q) (Nat.le_refl _) ?_, rfl, q _ (I.hok.fresh (Nat.le_refl _))⟩
  exact ⟨Nat.le_trans (cutV_length xs lo hi) hz, _, (r.drop (HT.sIx xs.length 0 lo)).take (HT.sIx xs.length xs.length hi - HT.sIx xs.length 0 lo), IsTup.new _ _⟩

/-! ### t < u, t + u -/
def rLtT (K : PySem.W.Frag) : R2 := fun x y H Q => ∃ a b ns ms, x = .ref a ∧ y = .ref b ∧ SqT K H a (ns.map V.int) ∧ SqT K H b (ms.map V.int) ∧ Q (.bl (HT.lexLt ns ms)) H
theorem op_ltT (hu : X.A.units < cLine) : OpR X (compareOp .Lt) (rLtT X.K) := by
  intro pins s σ H x y v u Q I rx ry h
  obtain ⟨a, b, ns, ms, rfl, rfl, ha, hb, q⟩ := h
  cases rx
  cases ry
  obtain ⟨its, r1, p1, _⟩ := I.tuple ha
  obtain ⟨its2, r2, p2, _⟩ := I.tuple hb
  have i1 : IntsAre its.toArray.toList ns := intsAre_of r1
  have i2 : IntsAre its2.toArray.toList ms := intsAre_of r2
  exact HT.lt_tupInts p1 p2 i1 i2 hu ⟨.bl (HT.lexLt ns ms), H, I, rfl, q⟩
/-- t + u, t not empty: u empty gives t itself -/
def rCatT (K : PySem.W.Frag) : R2 := fun x y H Q => ∃ a b xs ys, x = .ref a ∧ y = .ref b ∧ SqT K H a xs ∧ SqT K H b ys ∧ xs ≠ [] ∧ xs.length + ys.length ≤ sizeLine ∧
  (ys = [] → Q (.ref a) H) ∧ (ys ≠ [] → ∀ p, H p = none → Q (.ref p) (upd H p (.tup (xs ++ ys))))
theorem Vals.nil_iff {xs : List V} {us : List Value} (r : Vals xs us) : us = [] ↔ xs = [] := by
  cases r with
  | nil => simp
  | cons _ _ => simp
theorem op_catT : OpR X (binaryOp .Add) (rCatT X.K) := by
  intro pins s σ H x y v u Q I rx ry h
  obtain ⟨a, b, xs, ys, rfl, rfl, ha, hb, hx, hz, q1, q2⟩ := h
  cases rx
  cases ry
  obtain ⟨its, r1, p1, _⟩ := I.tuple ha
  obtain ⟨its2, r2, p2, _⟩ := I.tuple hb
  refine HT.cat_tup p1 p2 (fun z => hx (r1.nil_iff.mp z)) (fun z => ⟨.ref a, H, I, rfl, q1 (r2.nil_iff.mp z)⟩) (fun z => ?_) (by rw [← r1.length, ← r2.length]; exact hz)
  refine ⟨.ref s.heap.objs.size, _, I.laid (t' := s.toks) (o := .tup (xs ++ ys)) (fun b ob q => Heap.get?_push_of_some _ q) (Nat.le_refl _) ?_, rfl, q2 (fun w => z (r2.nil_iff.mpr w)) _ (I.hok.fresh (Nat.le_refl _))⟩
  exact ⟨by rw [List.length_append]; exact hz, _, r1.append r2, IsTup.new _ _⟩
/-- tuple(t) -/
theorem call_tupleT : CallR X (.type "tuple") (fun xs H Q => ∃ a ys, xs = [.ref a] ∧ SqT X.K H a ys ∧ Q (.ref a) H) := by
  intro pins s σ H xs us Q I r h
  obtain ⟨a, ys, rfl, ha, q⟩ := h
  obtain ⟨u, rfl, ru⟩ := vals1 r
  cases ru
  obtain ⟨its, _, p1, _⟩ := I.tuple ha
  exact call_tuple_same (items := its.toArray) p1 ⟨.ref a, H, I, rfl, q⟩
end
end L2

namespace L2
open PySem PySem.Spec PyProof.Rows

/-! ### places -/
/-- the place that an index of any sign means -/
def ixN (n : Nat) (i : Int) : Option Nat := if 0 ≤ i then (if i < n then some i.toNat else none) else if -(n : Int) ≤ i then some (i + n).toNat else none
def atI {α : Type} (xs : List α) (i : Int) : Option α := (ixN xs.length i).bind fun j => xs[j]?
theorem ixN_seq {n : Nat} {i : Int} {j : Nat} (h : ixN n i = some j) : seqIndex? i n = some j ∧ j < n ∧ -(n : Int) ≤ i ∧ i < n := by
  unfold ixN at h
  by_cases h0 : 0 ≤ i
  · rw [if_pos h0] at h
    by_cases h1 : i < n
    · rw [if_pos h1] at h
      have e : i.toNat = j := Option.some.inj h
      exact ⟨by rw [seqIndex_of h0 h1, e], by omega, by omega, h1⟩
    · rw [if_neg h1] at h; cases h
  · rw [if_neg h0] at h
    by_cases h1 : -(n : Int) ≤ i
    · rw [if_pos h1] at h
      have e : (i + n).toNat = j := Option.some.inj h
      exact ⟨by rw [seqIndex_neg (by omega) h1, e], by omega, h1, by omega⟩
    · rw [if_neg h1] at h; cases h
theorem atI_get {α : Type} {xs : List α} {i : Int} {v : α} (h : atI xs i = some v) : ∃ j, seqIndex? i xs.length = some j ∧ xs[j]? = some v ∧ j < xs.length ∧ -(xs.length : Int) ≤ i ∧ i < xs.length := by
  unfold atI at h
  cases e : ixN xs.length i with
  | none => rw [e] at h; cases h
  | some j =>
    rw [e] at h
    obtain ⟨h1, h2, h3, h4⟩ := ixN_seq e
    exact ⟨j, h1, h, h2, h3, h4⟩
theorem atI_nat {α : Type} {xs : List α} {j : Nat} {v : α} (h : xs[j]? = some v) : atI xs (j : Int) = some v := by
  have hj : j < xs.length := (List.getElem?_eq_some_iff.mp h).1
  have e : ixN xs.length (j : Int) = some j := by
    unfold ixN
    rw [if_pos (by omega), if_pos (by omega)]; simp
  unfold atI; rw [e]; exact h
theorem atI_last {α : Type} (xs : List α) (v : α) : atI (xs ++ [v]) (-1) = some v := by
  have hl : (xs ++ [v]).length = xs.length + 1 := by simp
  have e : ixN (xs ++ [v]).length (-1) = some xs.length := by
    unfold ixN
    rw [hl, if_neg (by decide), if_pos (by omega)]
    congr 1
    omega
  unfold atI
  rw [e]
  show (xs ++ [v])[xs.length]? = some v
  simp

/-! ### what may be subscripted -/
/-- what stands as an index of a plain subscript -/
def PlainIx (b : Expr) : Prop := ∀ o i, subscripted b false o i = operate [o, i] (getItem o i)
/-- a subscript by values -/
def IxR (X : Cx) (r : R2) : Prop :=
  ∀ (value slice : Expr) (pins : List (Addr × Obj)) (s : Shared) (σ : St) (H : Hp) (x y : V) (v u : Value) (Q : VK), Inv X pins σ H s → RelV x v → RelV y u → r x y H Q →
    subscripted slice false v u = operate [v, u] (getItem v u) → wpAny (model X.prog X.w) X.A (subscriptTail value slice v u) (EP X pins σ Q) X.xe s
/-- a call of a builtin's method by values: the receiver, the arguments -/
def MtR (X : Cx) (id : String) (r : V → List V → Hp → VK → Prop) : Prop :=
  ∀ (pins : List (Addr × Obj)) (s : Shared) (σ : St) (H : Hp) (x : V) (xs : List V) (v : Value) (us : List Value) (Q : VK), Inv X pins σ H s → RelV x v → Vals xs us → r x xs H Q →
    wpAny (model X.prog X.w) X.A (call (.builtin id) (v :: us)) (EP X pins σ Q) X.xe s
section
variable {X : Cx} {a b : Expr} {ta tb : TE} {pos : Pos}
theorem IxR.or {r r' : R2} (h : IxR X r) (h' : IxR X r') : IxR X (fun x y H Q => r x y H Q ∨ r' x y H Q) := by
  intro value slice pins s σ H x y v u Q I rx ry q hs
  rcases q with q | q
  · exact h value slice pins s σ H x y v u Q I rx ry q hs
  · exact h' value slice pins s σ H x y v u Q I rx ry q hs
theorem MtR.or {id : String} {r r' : V → List V → Hp → VK → Prop} (h : MtR X id r) (h' : MtR X id r') : MtR X id (fun x xs H Q => r x xs H Q ∨ r' x xs H Q) := by
  intro pins s σ H x xs v us Q I rx rs q
  rcases q with q | q
  · exact h pins s σ H x xs v us Q I rx rs q
  · exact h' pins s σ H x xs v us Q I rx rs q
/-- a[b] -/
theorem pe_ix {r : R2} (hr : IxR X r) (ha : PE X a ta) (hb : PE X b tb) (hs : PlainIx b) : PE X (.Subscript a b pos) (tOp r ta tb) := by
  intro pins s σ H Q I h
  exact Subscript_ (binT ha hb I h fun v u s2 x y H2 I2 rx ry q => hr a b pins s2 σ H2 x y v u Q I2 rx ry q (hs _ _))

def rIxL (K : PySem.W.Frag) : R2 := fun x y H Q => ∃ p xs i v, x = .ref p ∧ y = .int i ∧ SqL K H p xs ∧ atI xs i = some v ∧ Q v H
def rIxT (K : PySem.W.Frag) : R2 := fun x y H Q => ∃ p xs i v, x = .ref p ∧ y = .int i ∧ SqT K H p xs ∧ atI xs i = some v ∧ Q v H
def rIxS : R2 := fun x y H Q => ∃ z i c, x = .str z ∧ y = .int i ∧ z.length ≤ sizeLine ∧ atI z.cps.toList i = some c ∧ Q (.str ⟨#[c]⟩) H
theorem ix_list : IxR X (rIxL X.K) := by
  intro value slice pins s σ H x y v u Q I rx ry h hs
  obtain ⟨p, xs, i, z, rfl, rfl, hq, he, q⟩ := h
  cases rx
  obtain ⟨t, rfl⟩ := ry
  obtain ⟨its, r, pl, hz⟩ := I.list hq
  obtain ⟨j, h1, h2, h3, h4, h5⟩ := atI_get he
  obtain ⟨w, ew, rw'⟩ := r.get h2
  have hl := r.length
  have hn := line63
  have fin : EP X pins σ Q w s := ⟨z, H, I, rw', q⟩
  by_cases h0 : 0 ≤ i
  · have hj : i.toNat = j := by
      rw [seqIndex_of h0 h5] at h1
      exact Option.some.inj h1
    exact item_listR pl.isList h0 (by omega) (by rw [hj]; simpa using ew) fin hs
  · have hj : (i + (its.toArray.size : Int)).toNat = j := by
      rw [seqIndex_neg (by omega) h4] at h1
      rw [List.size_toArray, ← hl]
      exact Option.some.inj h1
    exact subscriptTail_builtinR (x := w) pl.isList.typeIs slot_list_getitem.lookup
      (wpAny_getItem_list_neg (Q := fun r s' => r = w ∧ EP X pins σ Q r s') pl.isList (by omega) (by rw [List.size_toArray] <;> omega) (by omega) (by rw [hj]; simpa using ew) ⟨rfl, fin⟩) hs
theorem ix_tup : IxR X (rIxT X.K) := by
  intro value slice pins s σ H x y v u Q I rx ry h hs
  obtain ⟨p, xs, i, z, rfl, rfl, hq, he, q⟩ := h
  cases rx
  obtain ⟨t, rfl⟩ := ry
  obtain ⟨its, r, pl, hz⟩ := I.tuple hq
  obtain ⟨j, h1, h2, h3, h4, h5⟩ := atI_get he
  obtain ⟨w, ew, rw'⟩ := r.get h2
  have hl := r.length
  have hn := line63
  have fin : EP X pins σ Q w s := ⟨z, H, I, rw', q⟩
  exact subscriptTail_builtinR (x := w) pl.typeIs slot_tuple_getitem.lookup
    (getItem_tuple (j := j) (Q := fun r s' => r = w ∧ EP X pins σ Q r s') pl (by omega) (by omega) (by rw [List.size_toArray, ← hl]; exact h1) (by simpa using ew) ⟨rfl, fin⟩) hs
theorem ix_str : IxR X rIxS := by
  intro value slice pins s σ H x y v u Q I rx ry h hs
  obtain ⟨z, i, c, rfl, rfl, hz, he, q⟩ := h
  obtain ⟨t, rfl⟩ := rx
  obtain ⟨t', rfl⟩ := ry
  obtain ⟨j, h1, h2, h3, h4, h5⟩ := atI_get he
  have hl : z.cps.toList.length = z.length := by simp [Str.length]
  rw [hl] at h1 h4 h5
  have hn := line63
  exact tail_any (typeIs_str s z t) slot_str_getitem.lookup (getItem_str (c := c) (by
    have e1 : decide (i < -(2 ^ 63 : Int)) = false := decide_eq_false (by omega)
    have e2 : decide (i ≥ 2 ^ 63) = false := decide_eq_false (by omega)
    rw [e1, e2, Bool.or_false]) (by rw [h1]; simpa using h2) ⟨.str ⟨#[c]⟩, H, I.tok _, ⟨_, rfl⟩, q⟩) hs
/-- list, tuple or str -/
def rIx (K : PySem.W.Frag) : R2 := fun x y H Q => rIxL K x y H Q ∨ rIxT K x y H Q ∨ rIxS x y H Q
theorem ix_seq : IxR X (rIx X.K) := ix_list.or (ix_tup.or ix_str)

/-! ### xs[i] = v, any sign -/
/-- the list's object behind a store -/
theorem mapSeq_set (its : List Value) (n j : Nat) (u : Value) : Obj.mapSeq (·.setIfInBounds j u) { cls := .type "list", data := .seq its.toArray n } = { cls := .type "list", data := .seq (its.set j u).toArray n } := by
  simp [Obj.mapSeq]
theorem Inv.lst {pins : List (Addr × Obj)} {σ : St} {H : Hp} {s : Shared} {p : Addr} {xs : List V} (I : Inv X pins σ H s) (h : H p = some (.lst xs)) :
    ∃ (its : List Value) (n : Nat), Vals xs its ∧ s.heap.get? p = some { cls := .type "list", data := .seq its.toArray n } ∧ xs.length ≤ sizeLine := by
  obtain ⟨z, its, n, r, e⟩ := I.hok p _ h
  exact ⟨its, n, r, e, z⟩
/-- the list at p is written by an update of its object -/
theorem Inv.lstUpd {pins : List (Addr × Obj)} {σ : St} {H : Hp} {s : Shared} {p : Addr} {xs ys : List V} {its its' : List Value} {n n' : Nat} {f : Obj → Obj} (I : Inv X pins σ H s) (h : H p = some (.lst xs))
    (ho : s.heap.get? p = some { cls := .type "list", data := .seq its.toArray n }) (hf : f { cls := .type "list", data := .seq its.toArray n } = { cls := .type "list", data := .seq its'.toArray n' }) (r : Vals ys its') (hz : ys.length ≤ sizeLine) (t : Nat) :
    Inv X pins σ (upd H p (.lst ys)) { s with heap := s.heap.update p f, toks := t } := by
  have e : (s.heap.update p f).get? p = some { cls := .type "list", data := .seq its'.toArray n' } := by
    rw [Heap.get?_update_self f ho (by rw [hf] <;> rfl), hf]
  refine I.write (x := p) (e := p) (by rw [h]; trivial) (.inl rfl) (fun b u hb q => (Heap.get?_update_other _ _ (Ne.symm hb)).trans q) ⟨_, e⟩ ?_
  exact ⟨hz, its', n', r, e⟩
def rSetL : V → V → V → Hp → (Hp → Prop) → Prop := fun o i v H Q => ∃ p xs k j, o = .ref p ∧ i = .int k ∧ H p = some (.lst xs) ∧ ixN xs.length k = some j ∧ Q (upd H p (.lst (xs.set j v)))
theorem set_list : PSet X rSetL := by
  intro pins s σ H o i v ov iv u Q I ro ri rv h
  obtain ⟨p, xs, k, j, rfl, rfl, hp, hj, q⟩ := h
  cases ro
  obtain ⟨t, rfl⟩ := ri
  obtain ⟨its, n, r, ho, hz⟩ := I.lst hp
  obtain ⟨h1, h2, h3, h4⟩ := ixN_seq hj
  have hl := r.length
  have hn := line63
  have I' : Inv X pins σ (upd H p (.lst (xs.set j v))) { s with heap := s.heap.update p (Obj.mapSeq (·.setIfInBounds j u)) } :=
    I.lstUpd hp ho (mapSeq_set its n j u) (r.set rv j) (by rw [List.length_set]; exact hz) s.toks
  by_cases h0 : 0 ≤ k
  · have hk : k.toNat = j := by
      rw [seqIndex_of h0 h4] at h1
      exact Option.some.inj h1
    exact PySem.W.ki_setAt ho h0 (by omega) (by rw [List.size_toArray, ← hl]; exact h4) (by rw [hk]; exact ⟨_, I', q⟩)
  · have hk : (k + (its.toArray.size : Int)).toNat = j := by
      rw [seqIndex_neg (by omega) h3] at h1
      rw [List.size_toArray, ← hl]
      exact Option.some.inj h1
    exact PySem.W.ki_setBack ho (by omega) (by rw [List.size_toArray, ← hl]; exact h3) (by omega) (by rw [hk]; exact ⟨_, I', q⟩)

/-! ### slices -/
theorem slice_bounds (lo hi : Option Int) (n : Nat) : (sliceBounds lo hi none n).1 = ((HT.sIx n 0 lo : Nat) : Int) ∧ (sliceBounds lo hi none n).2.1 = ((HT.sIx n n hi : Nat) : Int) ∧ (sliceBounds lo hi none n).2.2 = 1 := by
  refine ⟨?_, ?_, rfl⟩
  · cases lo with
    | none => simp [sliceBounds, HT.sIx]
    | some i =>
      simp only [sliceBounds, HT.sIx, Option.getD_none, show (1 : Int) > 0 by decide, if_true]
      by_cases h : i < 0
      · simp only [h, if_true] <;> omega
      · simp only [h, if_false] <;> omega
  · cases hi with
    | none => simp [sliceBounds, HT.sIx]
    | some i =>
      simp only [sliceBounds, HT.sIx, Option.getD_none, show (1 : Int) > 0 by decide, if_true]
      by_cases h : i < 0
      · simp only [h, if_true] <;> omega
      · simp only [h, if_false] <;> omega
theorem slicePick_cut (its : List Value) (lo hi : Option Int) : slicePick its.toArray lo hi none = ((its.drop (HT.sIx its.length 0 lo)).take (HT.sIx its.length its.length hi - HT.sIx its.length 0 lo)).toArray := by
  obtain ⟨h1, h2, h3⟩ := slice_bounds lo hi its.toArray.size
  unfold slicePick
  rw [h1, h2, h3]
  simp only [sliceRange_one, pick_run, List.size_toArray] <;> rfl
/-- xs[lo:hi] of a list: a new list -/
def rSlL (K : PySem.W.Frag) : V → Option Int → Option Int → Hp → VK → Prop := fun x lo hi H Q => ∃ a xs, x = .ref a ∧ SqL K H a xs ∧ ∀ p, H p = none → Q (.ref p) (upd H p (.lst (cutV xs lo hi)))
theorem sl_list : SlR X (rSlL X.K) := by
  intro pins s σ H x v vl vu lo hi sl Q I rx hs pl pu h
  obtain ⟨a, xs, rfl, hx, q⟩ := h
  cases rx
  obtain ⟨its, r, ht, hz⟩ := I.list hx
  have hlen := r.length
  refine ⟨"list", _, slot_list_getitem.lookup, ht.isList.typeIs, ?_⟩
  refine wpAny_getItem_list_slice ht.isList hs pl pu .none (by simp) ?_ (by rw [List.size_toArray] <;> omega)
  rw [slicePick_cut, ← hlen]
  refine ⟨.ref s.heap.objs.size, _, I.laid (t' := s.toks) (o := .lst (cutV xs lo hi)) (fun b ob q => Heap.get?_push_of_some _ q) (Nat.le_refl _) ?_, rfl, q _ (I.hok.fresh (Nat.le_refl _))⟩
  exact ⟨Nat.le_trans (cutV_length xs lo hi) hz, _, 0, (r.drop (HT.sIx xs.length 0 lo)).take (HT.sIx xs.length xs.length hi - HT.sIx xs.length 0 lo), Heap.get?_push_size _ rfl⟩

/-! ### in, not in: flat items -/
def flatV : V → Bool
  | .non => true
  | .bl _ => true
  | .int _ => true
  | .str _ => true
  | _ => false
/-- == of flat values -/
def eqV : V → V → Bool
  | .non, .non => true
  | .bl a, .bl b => a == b
  | .bl a, .int b => (if a then 1 else 0) == b
  | .int a, .bl b => a == (if b then 1 else 0)
  | .int a, .int b => a == b
  | .str a, .str b => a == b
  | _, _ => false
theorem eqAt_V {A : Around} {s : Shared} {y x : V} {u v : Value} (ry : RelV y u) (rx : RelV x v) (fy : flatV y = true) (fx : flatV x = true) : SeqAt.EqAt A s u v (eqV y x) := by
  cases y with
  | non =>
    cases ry
    cases x with
    | non => cases rx; exact SeqAt.EqAt.same _
    | bl b => cases rx; exact SeqAt.EqAt.none_bool b
    | int b => obtain ⟨t, rfl⟩ := rx; exact SeqAt.EqAt.none_int b t
    | str b => obtain ⟨t, rfl⟩ := rx; exact SeqAt.EqAt.none_str b t
    | _ => exact absurd (show false = true from fx) Bool.false_ne_true
  | bl a =>
    cases ry
    cases x with
    | non => cases rx; exact SeqAt.EqAt.bool_none a
    | bl b => cases rx; exact SeqAt.EqAt.bool_bool a b
    | int b => obtain ⟨t, rfl⟩ := rx; exact SeqAt.EqAt.bool_int a b t
    | str b => obtain ⟨t, rfl⟩ := rx; exact SeqAt.EqAt.bool_str a b t
    | _ => exact absurd (show false = true from fx) Bool.false_ne_true
  | int a =>
    obtain ⟨t', rfl⟩ := ry
    cases x with
    | non => cases rx; exact SeqAt.EqAt.int_none a t'
    | bl b => cases rx; exact SeqAt.EqAt.int_bool a t' b
    | int b => obtain ⟨t, rfl⟩ := rx; exact SeqAt.EqAt.int_int a t' b t
    | str b => obtain ⟨t, rfl⟩ := rx; exact SeqAt.EqAt.int_str a t' b t
    | _ => exact absurd (show false = true from fx) Bool.false_ne_true
  | str a =>
    obtain ⟨t', rfl⟩ := ry
    cases x with
    | non => cases rx; exact SeqAt.EqAt.str_none a t'
    | bl b => cases rx; exact SeqAt.EqAt.str_bool a t' b
    | int b => obtain ⟨t, rfl⟩ := rx; exact SeqAt.EqAt.str_int a t' b t
    | str b => obtain ⟨t, rfl⟩ := rx; exact SeqAt.EqAt.str_str a t' b t
    | _ => exact absurd (show false = true from fx) Bool.false_ne_true
  | _ => exact absurd (show false = true from fy) Bool.false_ne_true
/-- the items' answers, read off the values (a value's own answer does not lean on its token) -/
def eqU (x : V) (u : Value) : Bool := match u with
  | .none => eqV .non x
  | .bool b => eqV (.bl b) x
  | .int i _ => eqV (.int i) x
  | .str z _ => eqV (.str z) x
  | _ => false
theorem eqU_of {x y : V} {u : Value} (r : RelV y u) (f : flatV y = true) : eqU x u = eqV y x := by
  cases y with
  | non => cases r; rfl
  | bl b => cases r; rfl
  | int i => obtain ⟨t, rfl⟩ := r; rfl
  | str z => obtain ⟨t, rfl⟩ := r; rfl
  | _ => exact absurd (show false = true from f) Bool.false_ne_true
theorem any_eqU {x : V} : ∀ {xs : List V} {us : List Value}, Vals xs us → xs.all flatV = true → us.any (eqU x) = xs.any fun y => eqV y x
  | _, _, .nil, _ => rfl
  | y :: xs, u :: us, .cons r t, f => by
    rw [List.all_cons, Bool.and_eq_true] at f
    rw [List.any_cons, List.any_cons, eqU_of r f.1, any_eqU t f.2]
theorem mem_eqAt {A : Around} {s : Shared} {x : V} {v : Value} (rx : RelV x v) (fx : flatV x = true) : ∀ {xs : List V} {us : List Value}, Vals xs us → xs.all flatV = true → ∀ u ∈ us, SeqAt.EqAt A s u v (eqU x u)
  | _, _, .nil, _ => fun u hu => by cases hu
  | y :: xs, u :: us, .cons r t, f => fun u' hu => by
    rw [List.all_cons, Bool.and_eq_true] at f
    rcases List.mem_cons.mp hu with rfl | hu
    · rw [eqU_of r f.1]; exact eqAt_V r rx f.1 fx
    · exact mem_eqAt rx fx t f.2 u' hu
def inV (x : V) (xs : List V) : Bool := xs.any fun y => eqV y x
/-- x in a list or tuple of flat items -/
def rIn (K : PySem.W.Frag) (neg : Bool) : R2 := fun x y H Q => ∃ p xs, y = .ref p ∧ (SqL K H p xs ∨ SqT K H p xs) ∧ flatV x = true ∧ xs.all flatV = true ∧ Q (.bl (if neg then !inV x xs else inV x xs)) H
theorem op_in_seq : OpR X (compareOp .In) (rIn X.K false) := by
  intro pins s σ H x y v u Q I rx ry h
  obtain ⟨p, xs, rfl, hq, fx, fs, q⟩ := h
  cases ry
  rcases hq with hq | hq
  · obtain ⟨its, r, pl, hz⟩ := I.list hq
    refine SeqAt.in_listAt (eqU x) pl.isList (fun w hw => mem_eqAt rx fx r fs w (by simpa using hw)) ⟨.bl _, H, I, rfl, ?_⟩
    rw [show its.toArray.any (eqU x) = its.any (eqU x) by simp, any_eqU r fs]
    exact q
  · obtain ⟨its, r, pl, hz⟩ := I.tuple hq
    refine SeqAt.in_tupleAt (eqU x) pl (fun w hw => mem_eqAt rx fx r fs w (by simpa using hw)) ⟨.bl _, H, I, rfl, ?_⟩
    rw [show its.toArray.any (eqU x) = its.any (eqU x) by simp, any_eqU r fs]
    exact q
theorem op_notIn_seq : OpR X (compareOp .NotIn) (rIn X.K true) := by
  intro pins s σ H x y v u Q I rx ry h
  obtain ⟨p, xs, rfl, hq, fx, fs, q⟩ := h
  cases ry
  rcases hq with hq | hq
  · obtain ⟨its, r, pl, hz⟩ := I.list hq
    refine SeqAt.notIn_listAt (eqU x) pl.isList (fun w hw => mem_eqAt rx fx r fs w (by simpa using hw)) ⟨.bl _, H, I, rfl, ?_⟩
    rw [show its.toArray.any (eqU x) = its.any (eqU x) by simp, any_eqU r fs]
    exact q
  · obtain ⟨its, r, pl, hz⟩ := I.tuple hq
    refine SeqAt.notIn_tupleAt (eqU x) pl (fun w hw => mem_eqAt rx fx r fs w (by simpa using hw)) ⟨.bl _, H, I, rfl, ?_⟩
    rw [show its.toArray.any (eqU x) = its.any (eqU x) by simp, any_eqU r fs]
    exact q
theorem op_notIn_str : OpR X (compareOp .NotIn) (fun x y H Q => ∃ i j, x = .str i ∧ y = .str j ∧ Q (.bl (!(!(Builtin.Str.occurrences j i 0 j.length 1).isEmpty))) H) := by
  intro pins s σ H x y v u Q I rx ry h
  obtain ⟨i, j, rfl, rfl, q⟩ := h
  obtain ⟨t, rfl⟩ := rx
  obtain ⟨t', rfl⟩ := ry
  exact notIn_str ⟨.bl _, H, I, rfl, q⟩

/-! ### len, list(x), tuple(x) of any list or tuple that is read -/
theorem call_len_seq : CallR X (.builtin "len") (fun xs H Q => ∃ p ys, xs = [.ref p] ∧ (SqL X.K H p ys ∨ SqT X.K H p ys) ∧ Q (.int ys.length) H) := by
  intro pins s σ H xs us Q I r h
  obtain ⟨p, ys, rfl, hq, q⟩ := h
  obtain ⟨u, rfl, rx⟩ := vals1 r
  cases rx
  have hn := line63
  rcases hq with hq | hq
  · obtain ⟨its, r', pl, hz⟩ := I.list hq
    have hlen := r'.length
    exact Calls.call_len_list pl.isList (by simp only [List.size_toArray] <;> omega) ⟨.int ys.length, H, I.tok _, ⟨s.toks + 1, by rw [List.size_toArray, hlen]⟩, q⟩
  · obtain ⟨its, r', pl, hz⟩ := I.tuple hq
    have hlen := r'.length
    exact len_tuple pl (by simp only [List.size_toArray] <;> omega) ⟨.int ys.length, H, I.tok _, ⟨s.toks + 1, by rw [List.size_toArray, hlen]⟩, q⟩
theorem call_len_str : CallR X (.builtin "len") (fun xs H Q => ∃ z, xs = [.str z] ∧ z.length ≤ sizeLine ∧ Q (.int z.length) H) := by
  intro pins s σ H xs us Q I r h
  obtain ⟨z, rfl, hz, q⟩ := h
  obtain ⟨u, rfl, t, rfl⟩ := vals1 r
  have hn := line63
  exact len_str (by omega) ⟨.int z.length, H, I.tok _, ⟨_, rfl⟩, q⟩
theorem CallR.or {f : Value} {r r' : List V → Hp → VK → Prop} (h : CallR X f r) (h' : CallR X f r') : CallR X f (fun xs H Q => r xs H Q ∨ r' xs H Q) := by
  intro pins s σ H xs us Q I rs q
  rcases q with q | q
  · exact h pins s σ H xs us Q I rs q
  · exact h' pins s σ H xs us Q I rs q
theorem call_list_of : CallR X (.type "list") (fun xs H Q => ∃ p ys, xs = [.ref p] ∧ (SqL X.K H p ys ∨ SqT X.K H p ys) ∧ ∀ l, H l = none → Q (.ref l) (upd H l (.lst ys))) := by
  intro pins s σ H xs us Q I r h
  obtain ⟨p, ys, rfl, hq, q⟩ := h
  obtain ⟨u, rfl, rx⟩ := vals1 r
  cases rx
  have fin : ∀ (its : List Value), Vals ys its → ys.length ≤ sizeLine → ∀ (h' : Heap) (c' : Nat), (∀ b o', s.heap.get? b = some o' → h'.get? b = some o') →
      h'.get? s.heap.objs.size = some { cls := .type "list", dict := none, data := .seq its.toArray c', slots := #[] } → EP X pins σ Q (.ref s.heap.objs.size) { s with heap := h' } := fun its r' hz h' c' kp e =>
    ⟨.ref s.heap.objs.size, _, I.laid (t' := s.toks) kp (Nat.le_refl _) (show ObjOk X.prog X.w _ h' _ (.lst ys) from ⟨hz, its, c', r', e⟩), rfl, q _ (I.hok.fresh (Nat.le_refl _))⟩
  rcases hq with hq | hq
  · obtain ⟨its, r', pl, hz⟩ := I.list hq
    have hlen := r'.length
    obtain ⟨o, ho, hc, n, hd⟩ := pl.isList
    exact call_list_seq p (.inl rfl) ho hc hd (fun h' c' kp e => fin its r' hz h' c' kp e) (by simp only [List.size_toArray] <;> omega)
  · obtain ⟨its, r', pl, hz⟩ := I.tuple hq
    have hlen := r'.length
    obtain ⟨o, ho, hc, n, hd⟩ := pl
    exact call_list_seq p (.inr rfl) ho hc hd (fun h' c' kp e => fin its r' hz h' c' kp e) (by simp only [List.size_toArray] <;> omega)
theorem call_tuple_of : CallR X (.type "tuple") (fun xs H Q => ∃ p ys, xs = [.ref p] ∧ ((SqL X.K H p ys ∧ ∀ l, H l = none → Q (.ref l) (upd H l (.tup ys))) ∨ (SqT X.K H p ys ∧ Q (.ref p) H))) := by
  intro pins s σ H xs us Q I r h
  obtain ⟨p, ys, rfl, h⟩ := h
  obtain ⟨u, rfl, rx⟩ := vals1 r
  cases rx
  rcases h with ⟨hq, q⟩ | ⟨hq, q⟩
  · obtain ⟨its, r', pl, hz⟩ := I.list hq
    have hlen := r'.length
    refine call_tuple_list pl.isList (fun h' kp => ?_) (by simp only [List.size_toArray] <;> omega)
    have I1 : Inv X pins σ H { s with heap := h' } := I.kept (t' := s.toks) kp
    have I2 : Inv X pins σ (upd H h'.objs.size (.tup ys)) { s with heap := h'.push { cls := .type "tuple", data := .seq its.toArray } } :=
      I1.laid (t' := s.toks) (fun b o e => Heap.get?_push_of_some _ e) (Nat.le_refl _) (show ObjOk X.prog X.w _ _ _ (.tup ys) from ⟨hz, its, r', IsTup.new _ _⟩)
    exact ⟨.ref h'.objs.size, _, I2, rfl, q _ (I1.hok.fresh (Nat.le_refl _))⟩
  · obtain ⟨its, r', pl, hz⟩ := I.tuple hq
    exact call_tuple_same pl ⟨.ref p, H, I, rfl, q⟩

/-! ### the call of a builtin's method: o.m(..) -/
/-- the value is of that builtin type -/
def tyV (K : PySem.W.Frag) (T : String) (x : V) (H : Hp) : Prop := match x with
  | .str _ => T = "str"
  | .int _ => T = "int"
  | .ref p => (T = "list" ∧ ∃ xs, SqL K H p xs) ∨ (T = "tuple" ∧ ∃ o, K.lookup p = some o ∧ o.cls = .type "tuple" ∧ o.dict = none) ∨
      (T = "dict" ∧ ((∃ kvs, H p = some (.dK kvs)) ∨ ∃ kvs, H p = some (.dT kvs))) ∨ (T = "set" ∧ ∃ S n, H p = some (.set S n))
  | _ => False
theorem tyV_is {pins : List (Addr × Obj)} {σ : St} {H : Hp} {s : Shared} {T : String} {x : V} {v : Value} (I : Inv X pins σ H s) (r : RelV x v) (ty : tyV X.K T x H) :
    s.TypeIs v T ∧ ∀ a, v = .ref a → ∃ ob, s.heap.get? a = some ob ∧ ob.dict = none := by
  cases x with
  | str z =>
    obtain ⟨t, rfl⟩ := r
    cases (show T = "str" from ty)
    exact ⟨typeIs_str s z t, fun _ e => nomatch e⟩
  | int i =>
    obtain ⟨t, rfl⟩ := r
    cases (show T = "int" from ty)
    exact ⟨typeIs_int s i t, fun _ e => nomatch e⟩
  | ref p =>
    cases r
    rcases ty with ⟨rfl, xs, hq⟩ | ⟨rfl, o, hk, hc, hd⟩ | ⟨rfl, hk⟩ | ⟨rfl, S, n, hk⟩
    · obtain ⟨its, _, pl, _⟩ := I.list hq
      refine ⟨pl.isList.typeIs, fun a e => ?_⟩
      cases e
      obtain ⟨o, n, e, c, hd, _⟩ := pl
      exact ⟨o, e, hd⟩
    · refine ⟨⟨o, I.kIn p o hk, hc⟩, fun a e => ?_⟩
      cases e
      exact ⟨o, I.kIn _ o hk, hd⟩
    · have z : ∃ o, s.heap.get? p = some o ∧ o.ExactDict := by
        rcases hk with ⟨kvs, hk⟩ | ⟨kvs, hk⟩
        · obtain ⟨_, _, _, _, o, _, _, e, ex, _⟩ := I.hok p _ hk
          exact ⟨o, e, ex⟩
        · obtain ⟨_, _, _, _, o, _, _, e, ex, _⟩ := I.hok p _ hk
          exact ⟨o, e, ex⟩
      obtain ⟨o, e, ex⟩ := z
      refine ⟨⟨o, e, ex.1⟩, fun a e2 => ?_⟩
      cases e2
      exact ⟨o, e, ex.2.1⟩
    · obtain ⟨o, _, _, _, e, ex, _⟩ := I.hok p _ hk
      refine ⟨⟨o, e, ex.1⟩, fun a e2 => ?_⟩
      cases e2
      exact ⟨o, e, ex.2.1⟩
  | _ => exact False.elim ty
def tBM0 (K : PySem.W.Frag) (T : String) (r : V → List V → Hp → VK → Prop) (to : TE) : TE := fun σ H Q => to σ H fun x H1 => tyV K T x H1 ∧ r x [] H1 Q
def tBM (K : PySem.W.Frag) (T : String) (r : V → List V → Hp → VK → Prop) (to : TE) (t : TA) : TE := fun σ H Q => to σ H fun x H1 => tyV K T x H1 ∧ t σ H1 fun xs H2 => r x xs H2 Q
variable {o e : Expr} {es : List Expr} {to : TE} {t : TA} {name : Str} {apos cpos : Pos} {T id : String} {r : V → List V → Hp → VK → Prop}
theorem pe_bm0 (pa : PlainAttrs T) (slot : Slot T name id) (hty : typeOf (.builtin id) = pure (.type "method_descriptor")) (hm : MtR X id r) (ho : PE X o to)
    (hbase : attributeBase o name X.env (eval o X.env) = eval o X.env := by rfl) (hline : (apos.endLine == cpos.line) = true := by rfl) : PE X (.Call (.Attribute o name apos) [] [] cpos) (tBM0 X.K T r to) := by
  intro pins s σ H Q I h
  refine wpAny_Call_method0_late hbase hline (thn (ho pins s σ H _ I h) fun v s1 ⟨x, H1, I1, r1, ty, q1⟩ => ?_)
  obtain ⟨h1, h2⟩ := tyV_is I1 r1 ty
  exact ⟨T, id, pa, slot, hty, h1, h2, Calls.callWith_builtin rfl (PySem.evalArgs_none (hm pins s1 σ H1 x [] v [] Q I1 r1 .nil q1))⟩
theorem pe_bm (pa : PlainAttrs T) (slot : Slot T name id) (hty : typeOf (.builtin id) = pure (.type "method_descriptor")) (hm : MtR X id r) (ho : PE X o to) (ha : PA X (e :: es) t)
    (hbase : attributeBase o name X.env (eval o X.env) = eval o X.env := by rfl)
    (hfew : ((backTo cpos (starEach (e :: es) X.env)).all (fun x => !x.1) && (backToKw cpos (keywordEach [] X.env)).all (fun x => x.1.isSome)
      && decide ((e :: es).length + ([] : List Keyword).length + (if ([] : List Keyword).isEmpty then 0 else 1) < 30)) = true := by rfl)
    (hline : (apos.endLine == cpos.line) = true := by rfl) (hs : starEach (e :: es) X.env = (false, eval e X.env) :: starEach es X.env := by rfl) (hplain : (backTo cpos (starEach es X.env)).any (·.1) = false := by rfl) :
    PE X (.Call (.Attribute o name apos) (e :: es) [] cpos) (tBM X.K T r to t) := by
  intro pins s σ H Q I h
  refine wpAny_Call_method_late hbase hfew hline rfl (thn (ho pins s σ H _ I h) fun v s1 ⟨x, H1, I1, r1, ty, q1⟩ => ?_)
  obtain ⟨h1, h2⟩ := tyV_is I1 r1 ty
  refine ⟨T, id, pa, slot, hty, h1, h2, ?_⟩
  have hA := ha cpos pins s1 σ H1 _ I1 q1
  rw [hs] at hA ⊢
  refine Calls.callWith_builtin (by show (false || (backTo cpos (starEach es X.env)).any (·.1)) = false; rw [hplain] <;> rfl) (Calls.evalArgs_plain ?_)
  exact thn hA fun us s2 ⟨vs, H2, I2, r2, q2⟩ => hm pins s2 σ H2 x vs v us Q I2 r1 r2 q2
/- xs.append(e), list.index on a module's tuple .. are MtR facts of 06m -/
end
end L2

namespace L2
open PySem PySem.Spec PyProof.Rows

def MtM (X : Cx) (id : String) (r : V → List V → Hp → VK → Prop) : Prop :=
  ∀ (pins : List (Addr × Obj)) (s : Shared) (σ : St) (H : Hp) (x : V) (xs : List V) (v : Value) (us : List Value) (Q : VK), Inv X pins σ H s → RelV x v → Vals xs us → r x xs H Q →
    wpAny (model X.prog X.w) X.A (call (.builtin id) (v :: us)) (EP X pins σ Q) X.xe s

/-! ### lists of values -/
theorem Vals.one : ∀ {x : V} {us : List Value}, Vals [x] us → ∃ u, us = [u] ∧ RelV x u
  | _, _, .cons r .nil => ⟨_, rfl, r⟩
theorem Vals.two : ∀ {x y : V} {us : List Value}, Vals [x, y] us → ∃ u v, us = [u, v] ∧ RelV x u ∧ RelV y v
  | _, _, _, .cons r (.cons q .nil) => ⟨_, _, rfl, r, q⟩
theorem Vals.zero : ∀ {us : List Value}, Vals [] us → us = []
  | _, .nil => rfl
theorem Vals.dropLast {xs : List V} {us : List Value} (h : Vals xs us) : Vals xs.dropLast us.dropLast := by
  induction h with
  | nil => exact .nil
  | cons r t ih =>
    cases t with
    | nil => exact .nil
    | cons q t' => exact .cons r ih
theorem Vals.eraseIdx : ∀ {xs : List V} {us : List Value} (i : Nat), Vals xs us → Vals (xs.eraseIdx i) (us.eraseIdx i)
  | _, _, _, .nil => .nil
  | _, _, 0, .cons _ t => t
  | _, _, i + 1, .cons r t => .cons r (Vals.eraseIdx i t)
theorem Vals.reverse {xs : List V} {us : List Value} (h : Vals xs us) : Vals xs.reverse us.reverse := by
  induction h with
  | nil => exact .nil
  | cons r t ih => rw [List.reverse_cons, List.reverse_cons]; exact Vals.append ih (.cons r .nil)
theorem Vals.rep {xs : List V} {us : List Value} (h : Vals xs us) : ∀ k : Nat, Vals (List.replicate k xs).flatten (List.replicate k us).flatten
  | 0 => .nil
  | k + 1 => by
    rw [List.replicate_succ, List.replicate_succ, List.flatten_cons, List.flatten_cons]
    exact Vals.append h (Vals.rep h k)
theorem erase_last {α : Type} (l : List α) : l.eraseIdx (l.length - 1) = l.dropLast := by
  induction l with
  | nil => rfl
  | cons a r ih =>
    cases r with
    | nil => rfl
    | cons b r =>
      have e : (a :: b :: r).length - 1 = ((b :: r).length - 1) + 1 := by
        have h1 : (a :: b :: r).length = r.length + 2 := rfl
        have h2 : (b :: r).length = r.length + 1 := rfl
        omega
      rw [e, List.eraseIdx_cons_succ, ih]
      all_goals rfl
theorem len_erase {α : Type} : ∀ (l : List α) (i : Nat), (l.eraseIdx i).length ≤ l.length
  | [], _ => Nat.le_refl _
  | _ :: _, 0 => Nat.le_succ _
  | _ :: r, i + 1 => Nat.succ_le_succ (len_erase r i)
theorem foldl_rep (its : List Value) : ∀ (k : Nat) (acc : List Value),
    List.foldl (fun x1 x2 => x1 ++ x2) acc.toArray (List.replicate k its.toArray) = (acc ++ (List.replicate k its).flatten).toArray
  | 0, acc => by simp
  | k + 1, acc => by
    have e : acc.toArray ++ its.toArray = (acc ++ its).toArray := by simp
    have e2 : (acc ++ its) ++ (List.replicate k its).flatten = acc ++ (List.replicate (k + 1) its).flatten := by
      rw [List.replicate_succ, List.flatten_cons, List.append_assoc]
    rw [← e2, ← foldl_rep its k (acc ++ its), ← e, List.replicate_succ, List.foldl_cons]

section
variable {X : Cx} {pins : List (Addr × Obj)} {σ : St} {H : Hp} {s : Shared} {l b : Addr} {xs ys zs : List V}

/-! ### the two steps: a tracked list is rewritten, a new list is laid -/
theorem Inv.lset {its its' : List Value} {n : Nat} {f : Array Value → Array Value} {t' : Nat} (I : Inv X pins σ H s) (hH : H l = some (.lst xs))
    (e : s.heap.get? l = some { cls := .type "list", data := .seq its.toArray n }) (hf : f its.toArray = its'.toArray) (hv : Vals ys its') (hz : ys.length ≤ sizeLine) :
    Inv X pins σ (upd H l (.lst ys)) { s with heap := s.heap.update l (Obj.mapSeq f), toks := t' } := by
  have q := PySem.IsL.update e f
  rw [hf] at q
  refine I.write (x := l) (e := l) (by rw [hH]; exact trivial) (.inl rfl) (fun b' u hb hu => (Heap.get?_update_other s.heap (Obj.mapSeq f) (Ne.symm hb)).trans hu) ⟨_, q⟩ ?_
  exact ⟨hz, its', _, hv, q⟩
theorem Inv.lnew {its : List Value} {t' : Nat} (I : Inv X pins σ H s) (hv : Vals ys its) (hz : ys.length ≤ sizeLine) :
    Inv X pins σ (upd H s.heap.objs.size (.lst ys)) { s with heap := s.heap.push { cls := .type "list", data := .seq its.toArray }, toks := t' } :=
  I.laid (fun _ _ q => Heap.get?_push_of_some _ q) (Nat.le_refl _) ⟨hz, its, 0, hv, Heap.get?_push_size _ rfl⟩
theorem Inv.fresh (I : Inv X pins σ H s) : H s.heap.objs.size = none := I.hok.fresh (Nat.le_refl _)
theorem Inv.lstM (I : Inv X pins σ H s) (hH : H l = some (.lst xs)) : xs.length ≤ sizeLine ∧ ∃ (its : List Value) (n : Nat), Vals xs its ∧ xs.length = its.length ∧ s.heap.get? l = some { cls := .type "list", data := .seq its.toArray n } := by
  obtain ⟨z, its, n, r, e⟩ := I.hok l _ hH
  exact ⟨z, its, n, r, r.length, e⟩

theorem notLongL {n : Nat} (h : n ≤ sizeLine) : Builtin.List.listTooLong n = false := by
  unfold Builtin.List.listTooLong
  exact decide_eq_false (by omega)
end

section
variable {X : Cx}

/-! ### methods -/
def rAppend : V → List V → Hp → VK → Prop := fun x vs H Q => ∃ l xs y, x = .ref l ∧ vs = [y] ∧ H l = some (.lst xs) ∧ xs.length < sizeLine ∧ Q .non (upd H l (.lst (xs ++ [y])))
theorem mt_append : MtM X "list.append" rAppend := by
  intro pins s σ H x vs v us Q I rx rv h
  obtain ⟨l, xs, y, rfl, rfl, hH, hz, q⟩ := h
  cases rx
  obtain ⟨u, rfl, ru⟩ := rv.one
  obtain ⟨z, its, n, r, hl, e⟩ := I.lstM hH
  refine call_meets F.slot_list_append ⟨_, e, rfl⟩ F.entry_list_append (F.args_list_append_2 _ _) (PySem.list_append l its.toArray n u (by rw [List.size_toArray]; omega)) ⟨e, ?_⟩
  refine ⟨.non, _, I.lset (its' := its ++ [u]) hH e (by simp) (r.append (.cons ru .nil)) ?_, rfl, q⟩
  rw [List.length_append, List.length_singleton]
  omega

def rExtend : V → List V → Hp → VK → Prop := fun x vs H Q => ∃ l b xs zs, x = .ref l ∧ vs = [.ref b] ∧ H l = some (.lst xs) ∧ H b = some (.lst zs) ∧ xs.length + zs.length ≤ sizeLine ∧ Q .non (upd H l (.lst (xs ++ zs)))
theorem mt_extend : MtM X "list.extend" rExtend := by
  intro pins s σ H x vs v us Q I rx rv h
  obtain ⟨l, b, xs, zs, rfl, rfl, hH, hB, hz, q⟩ := h
  cases rx
  obtain ⟨u, rfl, ru⟩ := rv.one
  cases ru
  obtain ⟨z, its, n, r, hl, e⟩ := I.lstM hH
  obtain ⟨z2, its2, n2, r2, hl2, e2⟩ := I.lstM hB
  have hsz : its.toArray.size + its2.toArray.size ≤ sizeLine := by rw [List.size_toArray, List.size_toArray]; omega
  have hlong : ¬ (!its.toArray.isEmpty && Builtin.List.listTooLong (its.toArray.size + its2.toArray.size)) = true := by
    rw [notLongL hsz, Bool.and_false]
    exact Bool.false_ne_true
  refine call_meets F.slot_list_extend ⟨_, e, rfl⟩ F.entry_list_extend (F.args_list_extend_2 _ _)
    (AutoSeq1.list_extend_list_list_0 l its.toArray n b its2.toArray n2 hlong (by rw [List.size_toArray]; omega) (by omega)) ⟨e, e2, ?_⟩
  refine ⟨.non, _, I.lset (its' := its ++ its2) hH e (by simp) (r.append r2) ?_, rfl, q⟩
  rw [List.length_append]
  omega

def rPop : V → List V → Hp → VK → Prop := fun x vs H Q => ∃ l xs y, x = .ref l ∧ vs = [] ∧ H l = some (.lst xs) ∧ xs[xs.length - 1]? = some y ∧ Q y (upd H l (.lst xs.dropLast))
theorem mt_pop : MtM X "list.pop" rPop := by
  intro pins s σ H x vs v us Q I rx rv h
  obtain ⟨l, xs, y, rfl, rfl, hH, hy, q⟩ := h
  cases rx
  have hus := rv.zero
  subst hus
  obtain ⟨z, its, n, r, hl, e⟩ := I.lstM hH
  obtain ⟨u, hu, ru⟩ := r.get hy
  have hy' : its.toArray[its.toArray.size - 1]? = some u := by
    show its.toArray[its.length - 1]? = some u
    rw [← Array.getElem?_toList, ← hl]
    exact hu
  refine call_meets F.slot_list_pop ⟨_, e, rfl⟩ F.entry_list_pop (F.args_list_pop_1 _) (MeetsSeq.list_pop_last l its.toArray n u hy' (by rw [List.size_toArray]; omega)) ⟨e, ?_⟩
  refine ⟨y, _, I.lset (its' := its.dropLast) hH e ?_ r.dropLast ?_, ru, q⟩
  · show its.toArray.eraseIdxIfInBounds (its.toArray.size - 1) = its.dropLast.toArray
    rw [List.size_toArray, List.eraseIdxIfInBounds_toArray, erase_last]
  · rw [List.length_dropLast]
    omega

def rPopAt : V → List V → Hp → VK → Prop := fun x vs H Q => ∃ l xs i k y, x = .ref l ∧ vs = [.int i] ∧ H l = some (.lst xs) ∧ -(2 ^ 63) ≤ i ∧ i < 2 ^ 63 ∧ seqIndex? i xs.length = some k ∧ xs[k]? = some y ∧ Q y (upd H l (.lst (xs.eraseIdx k)))
theorem mt_popAt : MtM X "list.pop" rPopAt := by
  intro pins s σ H x vs v us Q I rx rv h
  obtain ⟨l, xs, i, k, y, rfl, rfl, hH, h1, h2, hk, hy, q⟩ := h
  cases rx
  obtain ⟨u, rfl, ru⟩ := rv.one
  obtain ⟨t, rfl⟩ := ru
  obtain ⟨z, its, n, r, hl, e⟩ := I.lstM hH
  obtain ⟨w, hw, rw'⟩ := r.get hy
  refine call_meets F.slot_list_pop ⟨_, e, rfl⟩ F.entry_list_pop (F.args_list_pop_2 _ _)
    (MeetsSeq.list_pop_at l its.toArray n i t k w (fitsIndex_both h1 h2) (by rw [List.size_toArray, ← hl]; exact hk) (by rw [← Array.getElem?_toList]; exact hw) (by rw [List.size_toArray]; omega)) ⟨e, ?_⟩
  refine ⟨y, _, I.lset (its' := its.eraseIdx k) hH e ?_ (r.eraseIdx k) ?_, rw', q⟩
  · show its.toArray.eraseIdxIfInBounds k = (its.eraseIdx k).toArray
    rw [List.eraseIdxIfInBounds_toArray]
  · have := len_erase xs k
    omega

def rReverse : V → List V → Hp → VK → Prop := fun x vs H Q => ∃ l xs, x = .ref l ∧ vs = [] ∧ H l = some (.lst xs) ∧ Q .non (upd H l (.lst xs.reverse))
theorem mt_reverse : MtM X "list.reverse" rReverse := by
  intro pins s σ H x vs v us Q I rx rv h
  obtain ⟨l, xs, rfl, rfl, hH, q⟩ := h
  cases rx
  have hus := rv.zero
  subst hus
  obtain ⟨z, its, n, r, hl, e⟩ := I.lstM hH
  refine call_meets F.slot_list_reverse ⟨_, e, rfl⟩ F.entry_list_reverse (F.args_list_reverse_1 _) (AutoSeq1.list_reverse_list_0 l its.toArray n (by rw [List.size_toArray]; omega)) ⟨e, ?_⟩
  refine ⟨.non, _, I.lset (its' := its.reverse) hH e (by simp) r.reverse ?_, rfl, q⟩
  rw [List.length_reverse]
  omega

def rClear : V → List V → Hp → VK → Prop := fun x vs H Q => ∃ l xs, x = .ref l ∧ vs = [] ∧ H l = some (.lst xs) ∧ Q .non (upd H l (.lst []))
theorem mt_clear : MtM X "list.clear" rClear := by
  intro pins s σ H x vs v us Q I rx rv h
  obtain ⟨l, xs, rfl, rfl, hH, q⟩ := h
  cases rx
  have hus := rv.zero
  subst hus
  obtain ⟨z, its, n, r, hl, e⟩ := I.lstM hH
  refine call_meets F.slot_list_clear ⟨_, e, rfl⟩ F.entry_list_clear (F.args_list_clear_1 _) (AutoSeq1.list_clear_list_0 l its.toArray n (by rw [List.size_toArray]; omega)) ⟨e, ?_⟩
  exact ⟨.non, _, I.lset (its' := []) (ys := []) hH e rfl .nil (Nat.zero_le _), rfl, q⟩

/-! ### list + list, list += list, list * int -/
def rCat : R2 := fun x y H Q => ∃ l b xs zs, x = .ref l ∧ y = .ref b ∧ H l = some (.lst xs) ∧ H b = some (.lst zs) ∧ xs.length + zs.length ≤ sizeLine ∧ ∀ p, H p = none → Q (.ref p) (upd H p (.lst (xs ++ zs)))
theorem op_cat : OpR X (binaryOp .Add) rCat := by
  intro pins s σ H x y v u Q I rx ry h
  obtain ⟨l, b, xs, zs, rfl, rfl, hH, hB, hz, q⟩ := h
  cases rx
  cases ry
  obtain ⟨z, its, n, r, hl, e⟩ := I.lstM hH
  obtain ⟨z2, its2, n2, r2, hl2, e2⟩ := I.lstM hB
  refine PySem.P.add_list e e2 ?_ (by rw [List.size_toArray, List.size_toArray]; omega)
  have ea : its.toArray ++ its2.toArray = (its ++ its2).toArray := by simp
  rw [ea]
  exact ⟨.ref _, _, I.lnew (t' := s.toks) (r.append r2) (by rw [List.length_append]; omega), rfl, q _ I.fresh⟩
/-- a list times an int (a negative one is nothing) -/
def rRep : R2 := fun x y H Q => ∃ l k xs, x = .ref l ∧ y = .int k ∧ H l = some (.lst xs) ∧ -(2 ^ 63) ≤ k ∧ k < 2 ^ 63 ∧ xs.length * k.toNat ≤ sizeLine ∧
  ∀ p, H p = none → Q (.ref p) (upd H p (.lst (List.replicate k.toNat xs).flatten))
theorem len_rep {α : Type} (xs : List α) (k : Nat) : (List.replicate k xs).flatten.length = k * xs.length := by
  induction k with
  | zero => simp
  | succ k ih => rw [List.replicate_succ, List.flatten_cons, List.length_append, ih, Nat.succ_mul, Nat.add_comm]
theorem op_rep : OpR X (binaryOp .Mult) rRep := by
  intro pins s σ H x y v u Q I rx ry h
  obtain ⟨l, k, xs, rfl, rfl, hH, h1, h2, hz, q⟩ := h
  cases rx
  obtain ⟨t, rfl⟩ := ry
  obtain ⟨z, its, n, r, hl, e⟩ := I.lstM hH
  have hlen : its.toArray.size * k.toNat ≤ sizeLine := by rw [List.size_toArray, ← hl]; exact hz
  have hcap : ¬ its.toArray.size * k.toNat > (2 ^ 63 - 1) / 8 := by
    have : (sizeLine : Nat) ≤ (2 ^ 63 - 1) / 8 := by decide
    omega
  have hfit : ¬ (!Builtin.List.listFitsIndex k) = true := by
    rw [fitsIndex_both h1 h2]
    exact Bool.false_ne_true
  have hlong : ¬ Builtin.List.listTooLong (its.toArray.size * k.toNat) = true := by
    rw [notLongL hlen]
    exact Bool.false_ne_true
  have hnew : List.foldl (fun x1 x2 => x1 ++ x2) #[] (List.replicate (if its.toArray.isEmpty = true then 0 else k.toNat) its.toArray) = (List.replicate k.toNat its).flatten.toArray := by
    have f0 : ∀ m : Nat, List.foldl (fun x1 x2 => x1 ++ x2) #[] (List.replicate m its.toArray) = (List.replicate m its).flatten.toArray := fun m => by
      have := foldl_rep its m []
      rw [List.nil_append] at this
      exact this
    rw [f0]
    cases its with
    | nil => simp
    | cons a r' => rw [if_neg (by simp)]
  refine wpAny_binaryOp_repeat_ref (T := "list") (U := "int") (by decide) ⟨_, e, rfl⟩ (fun s' => typeIs_int s' k t) noFill_list_mul F.fills_int_mul F.slot_int_rmul repeat_list F.slot_int_index.lookup
    (call_meets F.slot_int_rmul (typeIs_int s k t) F.entry_int_rmul (F.args_int_rmul_2 _ _) (int___rmul___int_list k t l its.toArray n)
      ⟨e, rfl, ⟨_, e, rfl⟩, call_meets F.slot_list_mul ⟨_, e, rfl⟩ F.entry_list_mul (F.args_list_mul_2 _ _) (AutoListH.list___mul___list_int_3 l its.toArray n k t hfit hcap hlong) ⟨e, ?_⟩⟩)
  rw [hnew]
  exact ⟨.ref _, _, I.lnew (t' := s.toks) (r.rep k.toNat) (by rw [len_rep, Nat.mul_comm]; exact hz), rfl, q _ I.fresh⟩

/-! ### del xs[i] -/
theorem del_list {pins : List (Addr × Obj)} {s : Shared} {σ : St} {H : Hp} {l : Addr} {xs : List V} {i : Int} {t : Tok} {k : Nat} {Q : Unit → Shared → Prop} (I : Inv X pins σ H s) (hH : H l = some (.lst xs))
    (h1 : -(2 ^ 63) ≤ i) (h2 : i < 2 ^ 63) (hk : seqIndex? i xs.length = some k) (h : ∀ s', Inv X pins σ (upd H l (.lst (xs.eraseIdx k))) s' → Q () s') :
    wpAny (model X.prog X.w) X.A (delItem (.ref l) (.int i t)) Q X.xe s := by
  obtain ⟨z, its, n, r, hl, e⟩ := I.lstM hH
  refine PySem.P.delItem_list (k := k) e (fitsIndex_both h1 h2) (by rw [List.size_toArray, ← hl]; exact hk) (h _ ?_) (by rw [List.size_toArray]; omega)
  refine I.lset (its' := its.eraseIdx k) (t' := s.toks) hH e ?_ (r.eraseIdx k) ?_
  · show its.toArray.eraseIdxIfInBounds k = (its.eraseIdx k).toArray
    rw [List.eraseIdxIfInBounds_toArray]
  · have := len_erase xs k
    omega
end

/-! ### xs[a:b] = ys -/
section
variable {prog : Program} {w : World} {A : Around} {E : Value → Shared → Prop} {s : Shared}
theorem splice_eq (its its2 : List Value) (a c : Nat) : its.toArray.extract 0 a ++ its2.toArray ++ its.toArray.extract c its.toArray.size = (its.take a ++ its2 ++ its.drop c).toArray := by
  apply Array.toList_inj.mp
  first
    | (simp
       exact List.take_of_length_le (by simp))
    | simp [List.take_of_length_le]
    | simp
theorem bounds_run {a c n : Nat} (hac : a ≤ c) (hc : c ≤ n) : sliceBounds (some (a : Int)) (some (c : Int)) none n = ((a : Int), (c : Int), 1) := by
  simp only [sliceBounds, Option.getD_none]
  have h1 : ¬ ((a : Int) < 0) := by omega
  have h2 : ¬ ((c : Int) < 0) := by omega
  simp only [h1, h2, if_false, show (1 : Int) > 0 by decide, if_true]
  congr 1
  · omega
  · congr 1; omega
set_option maxRecDepth 100000 in
/-- list.__setitem__ with a slice of step one and another list -/
theorem setItem_slice {l b sl : Addr} {items new : Array Value} {n n2 : Nat} {vl vu : Value} {a c : Nat} {Q : Unit → Shared → Prop}
    (e : s.heap.get? l = some { cls := .type "list", data := .seq items n }) (e2 : s.heap.get? b = some { cls := .type "list", data := .seq new n2 }) (hne : l ≠ b)
    (hs : s.heap.IsSliceOf sl vl vu .none) (pl : IsPart vl (some (a : Int))) (pu : IsPart vu (some (c : Int))) (hac : a ≤ c) (hc : c ≤ items.size)
    (hsz : items.size + new.size ≤ sizeLine) (h : Q () { s with heap := s.heap.update l (Obj.mapSeq fun xs => xs.extract 0 a ++ new ++ xs.extract c xs.size) }) :
    wpAny (model prog w) A (setItem (.ref l) (.ref sl) (.ref b)) Q E s := by
  have hl : s.heap.IsList l items := PySem.IsL.isList e
  have hb : s.heap.IsList b new := PySem.IsL.isList e2
  obtain ⟨os, hos, hcs, hds⟩ := id hs
  have hTs : s.TypeIs (.ref sl) "slice" := ⟨os, hos, hcs⟩
  have hstep : ¬ ((rawPart none == rawInt 0) = true) := Bool.false_ne_true
  have hsame : Builtin.List.listSameRef (.ref l) (.ref b) = false := by
    unfold Builtin.List.listSameRef
    exact beq_eq_false_iff_ne.mpr hne
  have hmax : (max (a : Int) (c : Int)).toNat = c := by omega
  have hz' : ((fun xs : Array Value => xs.extract 0 a ++ new ++ xs.extract c xs.size) items).size ≤ sizeLine + 1 := by
    simp only [Array.size_append, Array.size_extract]
    omega
  unfold setItem
  try with_reducible refine wpAny_holding ?_
  first | refine wpAny_bind (wpAny_pure ?_) | skip
  refine wpAny_bind (wpAny_sequenceKey hl.typeIs (by decide) ?_)
  refine wpAny_bind (wpAny_callSpecial?_slot (name := Str.ofString "__setitem__") hl.typeIs slot_list_setitem
    (wpAny_call_entry slot_list_setitem hl.typeIs entry_list_setitem ?_ (args_list_setitem _ _ _)))
  show wpAny _ _ (Builtin.List.listSubscript? (.ref sl) >>= _) _ _ s
  refine wpAny_bind ?_
  unfold Builtin.List.listSubscript?
  refine wpAny_bind (wpAny_specialOf hTs slice_no_index ?_)
  simp only [Option.isNone_none, if_true]
  refine wpAny_pure ?_
  show wpAny _ _ (typeOf (.ref sl) >>= _) _ _ s
  refine wpAny_bind (wpAny_typeOf hTs ?_)
  first
    | rw [if_neg (by decide)]
    | refine PySem.W.KFB.if_not (by decide) ?_
  rw [listSliceParts_eq]
  refine wpAny_bind (wpAny_bind (wpAny_field hos hds (x := .none) rfl (wpAny_bind (wpAny_listPart .none ?_))))
  rw [if_neg hstep]
  refine wpAny_bind (wpAny_field hos hds (x := vl) rfl (wpAny_bind (wpAny_listPart pl ?_)))
  refine wpAny_bind (wpAny_field hos hds (x := vu) rfl (wpAny_bind (wpAny_listPart pu (wpAny_pure ?_))))
  first
    | simp only [hsame, Bool.false_eq_true, if_false]
    | refine PySem.W.KFB.if_not hsame ?_
    | (dsimp only
       rw [if_neg (by rw [hsame]; exact Bool.false_ne_true)])
  refine wpAny_bind (m := Builtin.List.listAllItems (.ref b) "must assign iterable to extended slice") ?_
  unfold Builtin.List.listAllItems
  refine wpAny_bind (wpAny_typeOf hb.typeIs ?_)
  first
    | refine PySem.W.KFB.if_so (by decide) ?_
    | rw [if_pos (by decide)]
    | simp only [beq_self_eq_true, Bool.true_or, if_true]
  unfold Builtin.List.listItems
  refine wpAny_bind (wpAny_seqItems e2 rfl (wpAny_pure ?_))
  refine wpAny_bind (wpAny_bind (wpAny_seqItems e rfl (wpAny_pure ?_)))
  refine wpAny_bind (wpAny_of_eq ((sliceIndices_raw (some (a : Int)) (some (c : Int)) none items.size (by simp)).trans (congrArg (pure : Int × Int × Int → Sem (Int × Int × Int)) (bounds_run hac hc))) ?_)
  show wpAny _ _ (if ((1 : Int) == 1) = true then _ else _) _ _ s
  rw [if_pos (by decide)]
  refine wpAny_bind (wpAny_rule ?_)
  first
    | simp only [notLongL hsz, Bool.false_eq_true, if_false]
    | refine PySem.W.KFB.if_not (notLongL hsz) ?_
  first | refine wpAny_bind (wpAny_pure ?_) | skip
  show wpAny _ _ (updateSeq l (fun xs => xs.extract 0 ((a : Int)).toNat ++ new ++ xs.extract (max (a : Int) (c : Int)).toNat xs.size) >>= _) _ _ s
  rw [hmax, Int.toNat_natCast]
  refine wpAny_bind (wpAny_updateSeq (hz := Nat.le_trans (Nat.le_add_right _ _) hsz) (_hz' := hz') e rfl ?_)
  refine wpAny_bind (wpAny_letGo ?_)
  first
    | exact wpAny_bind (wpAny_pure (wpAny_pure ⟨.none, rfl, wpAny_pure h⟩))
    | exact wpAny_pure ⟨.none, rfl, wpAny_pure h⟩
end

section
variable {X : Cx}
/-- xs[a:c] = ys of another list, at the value level: sl is the slice object that was just made -/
theorem set_slice {pins : List (Addr × Obj)} {s : Shared} {σ : St} {H : Hp} {l b sl : Addr} {xs ys : List V} {a c : Int} {vl vu : Value} {Q : Unit → Shared → Prop} (I : Inv X pins σ H s)
    (hH : H l = some (.lst xs)) (hB : H b = some (.lst ys)) (hne : l ≠ b) (hs : s.heap.IsSliceOf sl vl vu .none) (ra : RelV (.int a) vl) (rc : RelV (.int c) vu) (h0 : 0 ≤ a) (hac : a ≤ c) (hc : c ≤ xs.length)
    (hz : xs.length + ys.length ≤ sizeLine) (h : ∀ s', Inv X pins σ (upd H l (.lst (xs.take a.toNat ++ ys ++ xs.drop c.toNat))) s' → Q () s') :
    wpAny (model X.prog X.w) X.A (setItem (.ref l) (.ref sl) (.ref b)) Q X.xe s := by
  obtain ⟨ta, rfl⟩ := ra
  obtain ⟨tc, rfl⟩ := rc
  obtain ⟨z, its, n, r, hl, e⟩ := I.lstM hH
  obtain ⟨z2, its2, n2, r2, hl2, e2⟩ := I.lstM hB
  obtain ⟨a', rfl⟩ := Int.eq_ofNat_of_zero_le h0
  obtain ⟨c', rfl⟩ := Int.eq_ofNat_of_zero_le (Int.le_trans h0 hac)
  simp only [Int.toNat_natCast] at h
  refine setItem_slice (a := a') (c := c') e e2 hne hs (.int _ _) (.int _ _) (by omega) (by rw [List.size_toArray]; omega) (by rw [List.size_toArray, List.size_toArray]; omega) (h _ ?_)
  refine I.lset (its' := its.take a' ++ its2 ++ its.drop c') (t' := s.toks) hH e ?_ (Vals.append (Vals.append (r.take _) r2) (r.drop _)) ?_
  · exact splice_eq its its2 a' c'
  · rw [List.length_append, List.length_append, List.length_take, List.length_drop]
    omega
end
end L2

namespace L2
open PySem PySem.Spec PyProof.Rows

/-! ### lists of pairs as tables -/
section
variable {κ : Type} [DecidableEq κ]
def valV (kvs : List (κ × V)) (k : κ) : Option V := (kvs.find? fun kv => decide (kv.1 = k)).map (·.2)
/-- in its place, or at the end -/
def putK (kvs : List (κ × V)) (k : κ) (v : V) : List (κ × V) :=
  if (kvs.any fun kv => decide (kv.1 = k)) = true then kvs.map (fun kv => if kv.1 = k then (kv.1, v) else kv) else kvs ++ [(k, v)]
def dropK (kvs : List (κ × V)) (k : κ) : List (κ × V) := kvs.filter fun kv => decide (kv.1 ≠ k)

theorem valV_nil {k : κ} : valV ([] : List (κ × V)) k = none := rfl
theorem valV_pos {p : κ × V} {r : List (κ × V)} {k : κ} (e : p.1 = k) : valV (p :: r) k = some p.2 := by simp [valV, List.find?_cons, e]
theorem valV_neg {p : κ × V} {r : List (κ × V)} {k : κ} (e : ¬ p.1 = k) : valV (p :: r) k = valV r k := by simp [valV, List.find?_cons, e]
theorem valV_any (k : κ) : ∀ kvs : List (κ × V), (kvs.any fun kv => decide (kv.1 = k)) = (valV kvs k).isSome
  | [] => rfl
  | p :: r => by
    rw [List.any_cons]
    by_cases e : p.1 = k
    · simp only [valV_pos e, decide_eq_true e, Bool.true_or, Option.isSome_some]
    · rw [valV_neg e, decide_eq_false e, Bool.false_or]; exact valV_any k r
theorem valV_map (k j : κ) (y : V) : ∀ kvs : List (κ × V), valV (kvs.map fun kv => if kv.1 = k then (kv.1, y) else kv) j = (valV kvs j).map fun x => if j = k then y else x
  | [] => rfl
  | p :: r => by
    have ih := valV_map k j y r
    rw [List.map_cons]
    by_cases h : p.1 = k
    · rw [if_pos h]
      by_cases e : p.1 = j
      · rw [valV_pos (p := (p.1, y)) e, valV_pos e, Option.map_some, if_pos (e.symm.trans h)]
      · rw [valV_neg (p := (p.1, y)) e, valV_neg e, ih]
    · rw [if_neg h]
      by_cases e : p.1 = j
      · rw [valV_pos (p := p) e, valV_pos e, Option.map_some, if_neg (fun z => h (e.trans z))]
      · rw [valV_neg (p := p) e, valV_neg e, ih]
theorem valV_snoc (k j : κ) (y : V) : ∀ kvs : List (κ × V), valV kvs k = none → valV (kvs ++ [(k, y)]) j = if j = k then some y else valV kvs j
  | [], _ => by
    by_cases e : k = j
    · rw [if_pos e.symm]; exact valV_pos (p := (k, y)) e
    · rw [if_neg (fun z => e z.symm)]; exact valV_neg (p := (k, y)) e
  | p :: r, hn => by
    rw [List.cons_append]
    have hk : ¬ p.1 = k := fun z => by rw [valV_pos z] at hn; cases hn
    rw [valV_neg hk] at hn
    have ih := valV_snoc k j y r hn
    by_cases e : p.1 = j
    · rw [valV_pos e, valV_pos e, if_neg (fun z => hk (e.trans z))]
    · rw [valV_neg e, valV_neg e, ih]
theorem valV_put (kvs : List (κ × V)) (k j : κ) (y : V) : valV (putK kvs k y) j = if j = k then some y else valV kvs j := by
  unfold putK
  by_cases a : (kvs.any fun kv => decide (kv.1 = k)) = true
  · rw [if_pos a, valV_map]
    rw [valV_any] at a
    by_cases e : j = k
    · obtain ⟨x, hx⟩ := Option.isSome_iff_exists.mp a
      rw [if_pos e, e, hx, Option.map_some, if_pos rfl]
    · rw [if_neg e]
      cases valV kvs j with
      | none => rfl
      | some x => rw [Option.map_some, if_neg e]
  · rw [if_neg a]
    refine valV_snoc k j y kvs ?_
    rw [valV_any] at a
    cases q : valV kvs k with
    | none => rfl
    | some x => rw [q] at a; exact (a rfl).elim
theorem length_putK (kvs : List (κ × V)) (k : κ) (v : V) : (putK kvs k v).length ≤ kvs.length + 1 := by
  unfold putK
  split
  · rw [List.length_map]; omega
  · rw [List.length_append, List.length_cons, List.length_nil]; omega
theorem putK_new {kvs : List (κ × V)} {k : κ} (v : V) (h : valV kvs k = none) : putK kvs k v = kvs ++ [(k, v)] := by
  unfold putK
  rw [valV_any, h]
  exact if_neg (by decide)

theorem RelO.isSome_eq {o : Option V} {u : Option Value} (r : RelO o u) : o.isSome = u.isSome := by
  cases o with
  | none => cases u with
    | none => rfl
    | some _ => exact (show False from r).elim
  | some _ => cases u with
    | none => exact (show False from r).elim
    | some _ => rfl
theorem RelO.getD {o : Option V} {u : Option Value} {d : V} {d' : Value} (r : RelO o u) (rd : RelV d d') : RelV (o.getD d) (u.getD d') := by
  cases o with
  | none => cases u with
    | none => exact rd
    | some _ => exact (show False from r).elim
  | some _ => cases u with
    | none => exact (show False from r).elim
    | some _ => exact r

/-- raw tables of the same keys -/
theorem KV.val {kvs : List (κ × V)} {vs : List (κ × Value)} (r : KV kvs vs) (k : κ) : RelO (valV kvs k) (valueAt vs k) := by
  unfold KV at r
  induction r with
  | nil => exact True.intro
  | @cons p q ps qs h t ih =>
    obtain ⟨h1, h2⟩ := h
    by_cases e : p.1 = k
    · have e' : q.1 = k := h1.symm.trans e
      have b : valueAt (q :: qs) k = some q.2 := by simp [valueAt, List.find?_cons, e']
      rw [valV_pos e, b]; exact h2
    · have e' : ¬ q.1 = k := fun z => e (h1.trans z)
      have b : valueAt (q :: qs) k = valueAt qs k := by simp [valueAt, List.find?_cons, e']
      rw [valV_neg e, b]; exact ih
theorem KV.any {kvs : List (κ × V)} {vs : List (κ × Value)} (r : KV kvs vs) (k : κ) : (kvs.any fun kv => decide (kv.1 = k)) = vs.any fun kv => decide (kv.1 = k) := by
  unfold KV at r
  induction r with
  | nil => rfl
  | cons h t ih => rw [List.any_cons, List.any_cons, ih, h.1]
theorem KV.repl {kvs : List (κ × V)} {vs : List (κ × Value)} (r : KV kvs vs) (k : κ) {y : V} {u : Value} (ry : RelV y u) :
    KV (kvs.map fun kv => if kv.1 = k then (kv.1, y) else kv) (vs.map fun kv => if kv.1 = k then (kv.1, u) else kv) := by
  unfold KV at r ⊢
  induction r with
  | nil => exact .nil
  | @cons p q ps qs h t ih =>
    rw [List.map_cons, List.map_cons]
    refine .cons ?_ ih
    obtain ⟨h1, h2⟩ := h
    by_cases e : p.1 = k
    · rw [if_pos e, if_pos (h1.symm.trans e)]; exact ⟨h1, ry⟩
    · rw [if_neg e, if_neg (fun z => e (h1.trans z))]; exact ⟨h1, h2⟩
theorem KV.put {kvs : List (κ × V)} {vs : List (κ × Value)} (r : KV kvs vs) (k : κ) {y : V} {u : Value} (ry : RelV y u) : KV (putK kvs k y) (stored vs k u) := by
  unfold putK stored
  rw [r.any k]
  by_cases e : (vs.any fun kv => decide (kv.1 = k)) = true
  · rw [if_pos e, if_pos e]; exact r.repl k ry
  · rw [if_neg e, if_neg e]; exact Paired.snoc r ⟨rfl, ry⟩
theorem KV.drop {kvs : List (κ × V)} {vs : List (κ × Value)} (r : KV kvs vs) (k : κ) : KV (dropK kvs k) (without vs k) := by
  unfold KV at r ⊢
  unfold dropK without
  induction r with
  | nil => exact .nil
  | @cons p q ps qs h t ih =>
    obtain ⟨h1, h2⟩ := h
    rw [List.filter_cons, List.filter_cons]
    by_cases e : p.1 = k
    · have a : ¬ decide (p.1 ≠ k) = true := by simp [e]
      have b : ¬ decide (q.1 ≠ k) = true := by simp [h1.symm.trans e]
      rw [if_neg a, if_neg b]; exact ih
    · have e' : ¬ q.1 = k := fun z => e (h1.trans z)
      have a : decide (p.1 ≠ k) = true := by simp [e]
      have b : decide (q.1 ≠ k) = true := by simp [e']
      rw [if_pos a, if_pos b]; exact .cons ⟨h1, h2⟩ ih
theorem KV.keys {kvs : List (κ × V)} {vs : List (κ × Value)} (r : KV kvs vs) : kvs.map (·.1) = vs.map (·.1) := by
  unfold KV at r
  induction r with
  | nil => rfl
  | cons h t ih => rw [List.map_cons, List.map_cons, ih, h.1]
theorem KV.length {kvs : List (κ × V)} {vs : List (κ × Value)} (r : KV kvs vs) : kvs.length = vs.length := Paired.length r
theorem dropK_le (kvs : List (κ × V)) (k : κ) : (dropK kvs k).length ≤ kvs.length := List.length_filter_le _ _
end


/-! ### a tracked dict, its keys ints and texts or tuples of these -/
theorem kV_is {P : Program} {w : World} {k : Key} {u : Value} (r : RelV (kV k) u) : (mixKind P w).is k u = true := by
  cases k with
  | inl i => obtain ⟨t, e⟩ := (show ∃ t, u = Value.int i t from r); subst e; exact mixKind_int P w i t
  | inr x => obtain ⟨t, e⟩ := (show ∃ t, u = Value.str x t from r); subst e; exact mixKind_str P w x t
theorem kV_inj {a b : Key} (e : kV a = kV b) : a = b := by
  cases a with
  | inl i => cases b with
    | inl j => have e' : V.int i = V.int j := e; injection e' with e'; rw [e']
    | inr y => exact nomatch (show V.int i = V.str y from e)
  | inr x => cases b with
    | inl j => exact nomatch (show V.str x = V.int j from e)
    | inr y => have e' : V.str x = V.str y := e; injection e' with e'; rw [e']
theorem kVs_inj : ∀ {a b : List Key}, a.map kV = b.map kV → a = b
  | [], [], _ => rfl
  | [], _ :: _, e => by simp at e
  | _ :: _, [], e => by simp at e
  | x :: xs, y :: ys, e => by
    rw [List.map_cons, List.map_cons] at e
    injection e with e1 e2
    rw [kV_inj e1, kVs_inj e2]
theorem items_are {P : Program} {w : World} : ∀ {ks : List Key} {us : List Value}, Vals (ks.map kV) us → ItemsAre (mixKind P w) ks us
  | [], _, r => by rw [List.map_nil] at r; cases r; exact .nil
  | k :: ks, _, r => by
    rw [List.map_cons] at r
    cases r with
    | cons h t => exact .cons (kV_is h) (items_are t)

/-- raw entries of a dict with tuple keys -/
abbrev KT (H : Hp) : List (List Key × V) → List (List Key × Addr × Value) → Prop := Paired fun p q => p.1 = q.1 ∧ H q.2.1 = some (.tup (p.1.map kV)) ∧ RelV p.2 q.2.2
theorem KT.val {H : Hp} {kvs : List (List Key × V)} {xs : List (List Key × Addr × Value)} (r : KT H kvs xs) (k : List Key) : RelO (valV kvs k) ((atKey xs k).map (·.2)) := by
  induction r with
  | nil => exact True.intro
  | @cons p q ps qs h t ih =>
    obtain ⟨h1, _, h2⟩ := h
    by_cases e : p.1 = k
    · have e' : q.1 = k := h1.symm.trans e
      have b : atKey (q :: qs) k = some q.2 := by simp [atKey, List.find?_cons, e']
      rw [valV_pos e, b]; exact h2
    · have e' : ¬ q.1 = k := fun z => e (h1.trans z)
      have b : atKey (q :: qs) k = atKey qs k := by simp [atKey, List.find?_cons, e']
      rw [valV_neg e, b]; exact ih
theorem KT.repl {H : Hp} {kvs : List (List Key × V)} {xs : List (List Key × Addr × Value)} (r : KT H kvs xs) (k : List Key) {y : V} {u : Value} (ry : RelV y u) :
    KT H (kvs.map fun kv => if kv.1 = k then (kv.1, y) else kv) (xs.map (putAt k u)) := by
  induction r with
  | nil => exact .nil
  | @cons p q ps qs h t ih =>
    rw [List.map_cons, List.map_cons]
    refine .cons ?_ ih
    obtain ⟨h1, h2, h3⟩ := h
    unfold putAt
    by_cases e : p.1 = k
    · rw [if_pos e, if_pos (h1.symm.trans e)]; exact ⟨h1, h2, ry⟩
    · rw [if_neg e, if_neg (fun z => e (h1.trans z))]; exact ⟨h1, h2, h3⟩
theorem KT.put {H : Hp} {kvs : List (List Key × V)} {xs : List (List Key × Addr × Value)} (r : KT H kvs xs) (k : List Key) {b : Addr} {y : V} {u : Value} (hb : H b = some (.tup (k.map kV))) (ry : RelV y u) :
    KT H (putK kvs k y) (storedH xs k b u) := by
  have e : (kvs.any fun kv => decide (kv.1 = k)) = (atKey xs k).isSome := by
    rw [valV_any, (r.val k).isSome_eq, Option.isSome_map]
  unfold putK storedH
  rw [e]
  by_cases q : (atKey xs k).isSome = true
  · rw [if_pos q, if_pos q]; exact r.repl k ry
  · rw [if_neg q, if_neg q]; exact Paired.snoc r ⟨rfl, hb, ry⟩
theorem KT.keeps {H H' : Hp} {kvs : List (List Key × V)} {xs : List (List Key × Addr × Value)} (r : KT H kvs xs) (ht : ∀ b ys, H b = some (.tup ys) → H' b = some (.tup ys)) : KT H' kvs xs :=
  Paired.mapP r fun _ _ z => ⟨z.1, ht _ _ z.2.1, z.2.2⟩

section
variable {P : Program} {w : World} {H : Hp} {h : Heap} {a : Addr}
theorem rd_of {u : HO} (ok : HOk P w H h) (e : Rd H a u) : ObjOk P w H h a u := e.ok ok
theorem dk_rd {kvs : List (Key × V)} (ok : HOk P w H h) (e : Rd H a (.dK kvs)) : kvs.length ≤ sizeLine ∧ (a == sysModules) = false ∧ ∃ vs, KV kvs vs ∧ h.DictOf (mixKind P w) a vs :=
  show ObjOk P w H h a (.dK kvs) from rd_of ok e
theorem dk_of {kvs : List (Key × V)} (ok : HOk P w H h) (e : H a = some (.dK kvs)) : kvs.length ≤ sizeLine ∧ (a == sysModules) = false ∧ ∃ vs, KV kvs vs ∧ h.DictOf (mixKind P w) a vs := dk_rd ok (.inl e)
/-- a tracked tuple of ints and texts is a key -/
theorem key_of {ks : List Key} (ok : HOk P w H h) (e : H a = some (.tup (ks.map kV))) : (tupleKind (mixKind P w)).is h ks a := by
  obtain ⟨_, its, r, o, h1, h2, n, h3⟩ := (show ObjOk P w H h a (.tup (ks.map kV)) from ok a _ e)
  exact ⟨o, its.toArray, n, h1, h2, h3, by simpa using items_are r⟩
theorem dt_rd {kvs : List (List Key × V)} (ok : HOk P w H h) (e : Rd H a (.dT kvs)) : kvs.length ≤ sizeLine ∧ (a == sysModules) = false ∧
    ∃ xs, KT H kvs xs ∧ h.DictOfH (tupleKind (mixKind P w)) a xs := by
  obtain ⟨z, y, xs, r, o, es, ep, h1, h2, h3, h4, h5⟩ := (show ObjOk P w H h a (.dT kvs) from rd_of ok e)
  refine ⟨z, y, xs, r, o, es, ep, h1, h2, h3, h4, fun x hx => ?_, h5⟩
  have all : ∀ {l : List (List Key × V)} {m : List (List Key × Addr × Value)}, KT H l m → ∀ x ∈ m, (tupleKind (mixKind P w)).is h x.1 x.2.1 := by
    intro l m q
    induction q with
    | nil => intro x hx; exact nomatch hx
    | @cons p q ps qs hq t ih =>
      intro x hx
      rcases List.mem_cons.mp hx with e | hx
      · subst e
        exact key_of ok (by rw [← hq.1]; exact hq.2.1)
      · exact ih x hx
  exact all r x hx
theorem dt_of {kvs : List (List Key × V)} (ok : HOk P w H h) (e : H a = some (.dT kvs)) : kvs.length ≤ sizeLine ∧ (a == sysModules) = false ∧
    ∃ xs, KT H kvs xs ∧ h.DictOfH (tupleKind (mixKind P w)) a xs := dt_rd ok (.inl e)
end

/-- what the dict at a holds at the key y -/
def DGet (H : Hp) (a : Addr) (y : V) (r : Option V) : Prop :=
  (∃ kvs k, Rd H a (.dK kvs) ∧ y = kV k ∧ r = valV kvs k) ∨ ∃ kvs k b, Rd H a (.dT kvs) ∧ y = .ref b ∧ H b = some (.tup (k.map kV)) ∧ r = valV kvs k
/-- the heap behind a[y] = v -/
def DPut (H : Hp) (a : Addr) (y v : V) (H' : Hp) : Prop :=
  (∃ kvs k, H a = some (.dK kvs) ∧ y = kV k ∧ kvs.length < sizeLine ∧ H' = upd H a (.dK (putK kvs k v))) ∨
  ∃ kvs k b, H a = some (.dT kvs) ∧ y = .ref b ∧ H b = some (.tup (k.map kV)) ∧ kvs.length < sizeLine ∧ H' = upd H a (.dT (putK kvs k v))
theorem DGet.k {H : Hp} {a : Addr} {kvs : List (Key × V)} {k : Key} (e : H a = some (.dK kvs)) : DGet H a (kV k) (valV kvs k) := .inl ⟨kvs, k, .inl e, rfl, rfl⟩
theorem DGet.t {H : Hp} {a b : Addr} {kvs : List (List Key × V)} {k : List Key} (e : H a = some (.dT kvs)) (eb : H b = some (.tup (k.map kV))) : DGet H a (.ref b) (valV kvs k) := .inr ⟨kvs, k, b, .inl e, rfl, eb, rfl⟩
theorem DPut.k {H : Hp} {a : Addr} {kvs : List (Key × V)} {k : Key} {v : V} (e : H a = some (.dK kvs)) (hl : kvs.length < sizeLine) : DPut H a (kV k) v (upd H a (.dK (putK kvs k v))) := .inl ⟨kvs, k, e, rfl, hl, rfl⟩
theorem DPut.t {H : Hp} {a b : Addr} {kvs : List (List Key × V)} {k : List Key} {v : V} (e : H a = some (.dT kvs)) (eb : H b = some (.tup (k.map kV))) (hl : kvs.length < sizeLine) :
    DPut H a (.ref b) v (upd H a (.dT (putK kvs k v))) := .inr ⟨kvs, k, b, e, rfl, eb, hl, rfl⟩


section
variable {X : Cx} {pins : List (Addr × Obj)} {σ : St} {H : Hp} {s : Shared} {a : Addr} {y v : V} {u r : Value} {o : Option V} {A : Around} {E : Value → Shared → Prop}

theorem Inv.big (I : Inv X pins σ H s) : sysModules < s.heap.objs.size := by
  have h : mainGlobals < s.heap.objs.size := (I.mod.glob.keeps I.bk).lt
  exact Nat.lt_trans (by decide) h

/-- d[y], there -/
theorem d_getItem {Q : Value → Shared → Prop} (hu : A.units + 1 < cLine) (I : Inv X pins σ H s) (g : DGet H a y (some v)) (ry : RelV y u) (h : ∀ w' s', Inv X pins σ H s' → RelV v w' → Q w' s') :
    wpAny (model X.prog X.w) A (getItem (.ref a) u) Q E s := by
  rcases g with ⟨kvs, k, e, ey, l⟩ | ⟨kvs, k, b, e, ey, eb, l⟩
  · subst ey
    obtain ⟨z, hd, vs, rel, dd⟩ := dk_rd I.hok e
    obtain ⟨w', hw, rw'⟩ := RelO.some_of (v := v) (o := valueAt vs k) (by rw [l]; exact rel.val k)
    exact wpAny_getItem_of (kV_is ry) dd.mapOf hw (h w' _ (I.tok _) rw')
  · subst ey
    cases (show u = Value.ref b from ry)
    obtain ⟨z, hd, xs, rel, dd⟩ := dt_rd I.hok e
    obtain ⟨w', hw, rw'⟩ := RelO.some_of (v := v) (o := (atKey xs k).map (·.2)) (by rw [l]; exact rel.val k)
    obtain ⟨p, hp, hp2⟩ := Option.map_eq_some_iff.mp hw
    refine wpAny_getItem_heap (tupleKind_room_in1 hu) (key_of I.hok eb) dd hp ?_
    rw [hp2]
    exact h w' _ (I.tok _) rw'
/-- y in d -/
theorem d_in {Q : Value → Shared → Prop} (hu : A.units + 1 < cLine) (I : Inv X pins σ H s) (g : DGet H a y o) (ry : RelV y u) (h : ∀ s', Inv X pins σ H s' → Q (.bool o.isSome) s') :
    wpAny (model X.prog X.w) A (compareOp .In u (.ref a)) Q E s := by
  rcases g with ⟨kvs, k, e, ey, l⟩ | ⟨kvs, k, b, e, ey, eb, l⟩
  · subst ey
    obtain ⟨z, hd, vs, rel, dd⟩ := dk_rd I.hok e
    refine wpAny_in_of (kV_is ry) hd dd.mapOf ?_
    rw [← (rel.val k).isSome_eq, ← l]
    exact h _ (I.tok _)
  · subst ey
    cases (show u = Value.ref b from ry)
    obtain ⟨z, hd, xs, rel, dd⟩ := dt_rd I.hok e
    refine wpAny_in_heap (tupleKind_room_in1 hu) (key_of I.hok eb) hd dd ?_
    have q := (rel.val k).isSome_eq
    rw [Option.isSome_map] at q
    rw [← q, ← l]
    exact h _ (I.tok _)
theorem d_notIn {Q : Value → Shared → Prop} (hu : A.units + 1 < cLine) (I : Inv X pins σ H s) (g : DGet H a y o) (ry : RelV y u) (h : ∀ s', Inv X pins σ H s' → Q (.bool (!o.isSome)) s') :
    wpAny (model X.prog X.w) A (compareOp .NotIn u (.ref a)) Q E s := by
  rcases g with ⟨kvs, k, e, ey, l⟩ | ⟨kvs, k, b, e, ey, eb, l⟩
  · subst ey
    obtain ⟨z, hd, vs, rel, dd⟩ := dk_rd I.hok e
    refine wpAny_notIn_of (kV_is ry) hd dd.mapOf ?_
    rw [← (rel.val k).isSome_eq, ← l]
    exact h _ (I.tok _)
  · subst ey
    cases (show u = Value.ref b from ry)
    obtain ⟨z, hd, xs, rel, dd⟩ := dt_rd I.hok e
    refine wpAny_notIn_heap (tupleKind_room_in1 hu) (key_of I.hok eb) hd dd ?_
    have q := (rel.val k).isSome_eq
    rw [Option.isSome_map] at q
    rw [← q, ← l]
    exact h _ (I.tok _)
/-- a dict's object is replaced -/
theorem d_write {h' : Heap} {t' : Nat} {ob : HO} (I : Inv X pins σ H s) (mu : Mut (H a)) (hs : Heap.SameBut a s.heap h') (he : ∃ q, h'.get? a = some q) (new : ObjOk X.prog X.w (upd H a ob) h' a ob) :
    Inv X pins σ (upd H a ob) { s with heap := h', toks := t' } :=
  I.write (x := a) (e := a) mu (.inl rfl) (fun b q hb z => (hs.2 b hb).trans z) he new
theorem dk_new {P : Program} {w : World} {H' : Hp} {h' : Heap} {kvs : List (Key × V)} {vs : List (Key × Value)} (z : kvs.length ≤ sizeLine) (hd : (a == sysModules) = false) (rel : KV kvs vs) (dd : h'.DictOf (mixKind P w) a vs) :
    ObjOk P w H' h' a (.dK kvs) := ⟨z, hd, vs, rel, dd⟩
/-- d[y] = v -/
theorem d_setItem {H' : Hp} {Q : Unit → Shared → Prop} (hu : A.units + 1 < cLine) (I : Inv X pins σ H s) (g : DPut H a y v H') (ry : RelV y u) (rv : RelV v r) (h : ∀ s', Inv X pins σ H' s' → Q () s') :
    wpAny (model X.prog X.w) A (setItem (.ref a) u r) Q E s := by
  rcases g with ⟨kvs, k, e, ey, l, eH⟩ | ⟨kvs, k, b, e, ey, eb, l, eH⟩
  · subst ey eH
    obtain ⟨z, hd, vs, rel, dd⟩ := dk_of I.hok e
    have hz : vs.length ≤ sizeLine := by rw [← rel.length]; exact z
    have hl : (putK kvs k v).length ≤ sizeLine := by have := length_putK kvs k v; omega
    refine wpAny_setItem_pairs (hsz := hz) (kV_is ry) dd fun h' dd' hs => h _ ?_
    have he : ∃ q, h'.get? a = some q := let ⟨q, _, _, hq, _⟩ := dd'; ⟨q, hq⟩
    exact d_write I (by rw [e]; exact True.intro) hs he (dk_new hl hd (rel.put k rv) dd')
  · subst ey eH
    cases (show u = Value.ref b from ry)
    obtain ⟨z, hd, xs, rel, dd⟩ := dt_of I.hok e
    have hz : xs.length ≤ sizeLine := by rw [← Paired.length rel]; exact z
    have hl : (putK kvs k v).length ≤ sizeLine := by have := length_putK kvs k v; omega
    refine wpAny_setItem_heap (hsz := hz) (tupleKind_room_in1 hu) (key_of I.hok eb) dd fun h' dd' hs => h _ ?_
    obtain ⟨q, es, ep, hq, h2, h3, h4, _, h5⟩ := dd'
    refine d_write I (by rw [e]; exact True.intro) hs ⟨q, hq⟩ ⟨hl, hd, _, (rel.put k eb rv).keeps fun c ys ec => ?_, q, es, ep, hq, h2, h3, h4, h5⟩
    rw [upd_ne (ne_of ec e (fun z => nomatch z))]
    exact ec
end

section
variable {X : Cx} {pins : List (Addr × Obj)} {σ : St} {H : Hp} {s : Shared} {a : Addr} {kvs : List (Key × V)} {k : Key} {u : Value} {A : Around} {E : Value → Shared → Prop}
/-- del d[k] -/
theorem d_delItem {Q : Unit → Shared → Prop} (I : Inv X pins σ H s) (e : H a = some (.dK kvs)) (ry : RelV (kV k) u) (l : (valV kvs k).isSome = true) (h : ∀ s', Inv X pins σ (upd H a (.dK (dropK kvs k))) s' → Q () s') :
    wpAny (model X.prog X.w) A (delItem (.ref a) u) Q E s := by
  obtain ⟨z, hd, vs, rel, dd⟩ := dk_of I.hok e
  refine wpAny_delItem_slot dd.typeIs (by decide) PySem.F.slot_dict_delitem
    (call_meetsIn PySem.F.slot_dict_delitem dd.typeIs PySem.F.entry_dict_delitem (PySem.F.args_dict_delitem_2 _ _) (meets_dict_delitem_pairs (mixKind X.prog X.w) a (kV_is ry)) ⟨vs, dd, by rw [← rel.length]; exact z, by rw [← (rel.val k).isSome_eq]; exact l, fun h' dd' hs => h _ ?_⟩)
  have he : ∃ q, h'.get? a = some q := let ⟨q, _, _, hq, _⟩ := dd'; ⟨q, hq⟩
  exact d_write I (by rw [e]; exact True.intro) hs he (dk_new (Nat.le_trans (dropK_le kvs k) z) hd (rel.drop k) dd')
/-- d.pop(k[, x]), there -/
theorem d_pop {v : V} {more : List Value} {Q : Value → Shared → Prop} (I : Inv X pins σ H s) (e : H a = some (.dK kvs)) (ry : RelV (kV k) u) (l : valV kvs k = some v) (hm : more = [] ∨ ∃ x, more = [x])
    (h : ∀ w' s', Inv X pins σ (upd H a (.dK (dropK kvs k))) s' → RelV v w' → Q w' s') : wpAny (model X.prog X.w) A (call (.builtin "dict.pop") (.ref a :: u :: more)) Q E s := by
  obtain ⟨z, hd, vs, rel, dd⟩ := dk_of I.hok e
  obtain ⟨w', hw, rw'⟩ := RelO.some_of (v := v) (o := valueAt vs k) (by rw [← l]; exact rel.val k)
  have hp : (keyPart u).isSome = true := by
    cases k with
    | inl i => obtain ⟨t, q⟩ := (show ∃ t, u = Value.int i t from ry); subst q; rfl
    | inr x => obtain ⟨t, q⟩ := (show ∃ t, u = Value.str x t from ry); subst q; rfl
  have ha : argsOk "dict.pop" ⟨.ref a :: u :: more, []⟩ := by
    rcases hm with q | ⟨x, q⟩
    · subst q; exact PySem.F.args_dict_pop_2 _ _
    · subst q; exact PySem.F.args_dict_pop_3 _ _ _
  refine call_meetsIn PySem.F.slot_dict_pop dd.typeIs PySem.F.entry_dict_pop ha (meets_dict_pop_there (mixKind X.prog X.w) a (kV_is ry) more hm hp)
    ⟨vs, w', dd, by rw [← rel.length]; exact z, hw, fun h' dd' hs => h w' _ ?_ rw'⟩
  have he : ∃ q, h'.get? a = some q := let ⟨q, _, _, hq, _⟩ := dd'; ⟨q, hq⟩
  exact d_write I (by rw [e]; exact True.intro) hs he (dk_new (Nat.le_trans (dropK_le kvs k) z) hd (rel.drop k) dd')
/-- d.pop(k, x), not there -/
theorem d_popD {r : Value} {Q : Value → Shared → Prop} (I : Inv X pins σ H s) (e : H a = some (.dK kvs)) (ry : RelV (kV k) u) (l : valV kvs k = none) (h : ∀ s', Inv X pins σ H s' → Q r s') :
    wpAny (model X.prog X.w) A (call (.builtin "dict.pop") [.ref a, u, r]) Q E s := by
  obtain ⟨z, hd, vs, rel, dd⟩ := dk_of I.hok e
  have hn : valueAt vs k = none := RelO.none_of (by rw [← l]; exact rel.val k)
  have hp : (keyPart u).isSome = true := by
    cases k with
    | inl i => obtain ⟨t, q⟩ := (show ∃ t, u = Value.int i t from ry); subst q; rfl
    | inr x => obtain ⟨t, q⟩ := (show ∃ t, u = Value.str x t from ry); subst q; rfl
  exact call_meetsIn PySem.F.slot_dict_pop dd.typeIs PySem.F.entry_dict_pop (PySem.F.args_dict_pop_3 _ _ _) (meets_dict_pop_default (mixKind X.prog X.w) a (kV_is ry) hd hp r) ⟨vs, dd, hn, h _ (I.tok _)⟩
/-- d.clear() -/
theorem d_clear {Q : Value → Shared → Prop} (I : Inv X pins σ H s) (e : H a = some (.dK kvs)) (h : ∀ s', Inv X pins σ (upd H a (.dK [])) s' → Q .none s') : wpAny (model X.prog X.w) A (call (.builtin "dict.clear") [.ref a]) Q E s := by
  obtain ⟨z, hd, vs, rel, dd⟩ := dk_of I.hok e
  refine call_meetsIn PySem.F.slot_dict_clear dd.typeIs PySem.F.entry_dict_clear (PySem.F.args_dict_clear_1 _) (meets_dict_clear (mixKind X.prog X.w) a) ⟨vs, dd, by rw [← rel.length]; exact z, fun h' dd' hs => h _ ?_⟩
  have he : ∃ q, h'.get? a = some q := let ⟨q, _, _, hq, _⟩ := dd'; ⟨q, hq⟩
  exact d_write (t' := s.toks) I (by rw [e]; exact True.intro) hs he (dk_new (Nat.zero_le _) hd .nil dd')
/-- len(d) -/
theorem d_len {Q : Value → Shared → Prop} (I : Inv X pins σ H s) (e : Rd H a (.dK kvs)) (h : ∀ t s', Inv X pins σ H s' → Q (.int kvs.length t) s') : wpAny (model X.prog X.w) A (call (.builtin "len") [.ref a]) Q E s := by
  obtain ⟨z, hd, vs, rel, dd⟩ := dk_rd I.hok e
  refine call_len_dict hd dd (by rw [← rel.length]; rw [sizeLine_eq] at z; omega) ?_
  rw [← rel.length]
  exact h _ _ (I.tok _)
/-- if d -/
theorem d_truth {Q : Bool → Shared → Prop} (I : Inv X pins σ H s) (e : Rd H a (.dK kvs)) (h : ∀ s', Inv X pins σ H s' → Q (!kvs.isEmpty) s') : wpAny (model X.prog X.w) A (truthy (.ref a)) Q E s := by
  obtain ⟨z, hd, vs, rel, dd⟩ := dk_rd I.hok e
  refine wpAny_truthy_dict hd dd (by rw [← rel.length]; rw [sizeLine_eq] at z; omega) ?_
  have q : kvs.isEmpty = vs.isEmpty := by cases rel <;> rfl
  rw [← q]
  exact h _ (I.tok _)
end


/-! ### readings and rules -/
/-- the element of a subscription, not a slice -/
def NoSl (i : Expr) : Prop := ∀ ov iv, subscripted i false ov iv = operate [ov, iv] (getItem ov iv)
theorem subD_of {prog : Program} {w : World} {A : Around} {E : Value → Shared → Prop} {s : Shared} {env : Env} {value slice : Expr} {pos : Pos} {T id : String} {Q : Value → Shared → Prop}
    (hl : typeLookup (.type T) "__getitem__" = pure (some (.builtin id))) (hs : NoSl slice)
    (h : wpAny (model prog w) A (eval value env) (fun o s₁ => wpAny (model prog w) A (eval slice env) (fun i s₂ => s₂.TypeIs o T ∧ wpAny (model prog w) A (getItem o i) Q E s₂) E s₁) E s) :
    wpAny (model prog w) A (eval (.Subscript value slice pos) env) Q E s := by
  refine Subscript_ (wpAny_mono h (fun o s₁ h₁ => wpAny_mono h₁ (fun i s₂ h₂ => ?_) fun _ _ x => x) fun _ _ x => x)
  obtain ⟨hT, h₂⟩ := h₂
  unfold subscriptTail
  refine wpAny_bind ?_
  rw [getitemInPython_of_ne hT.not_modules]
  refine wpAny_bind (wpAny_specialOf hT hl ?_)
  have fin : wpAny (model prog w) A (subscripted slice false o i) (fun r s₃ => wpAny (model prog w) A (letTemporaryGo value o r >>= fun _ => pure r) Q E s₃) E s₂ := by
    rw [hs o i]
    exact wpAny_operating (wpAny_mono h₂ (fun r s₃ h₃ => wpAny_bind (wpAny_letTemporaryGo (wpAny_pure h₃))) fun _ _ x => x)
  first
    | exact wpAny_pure (wpAny_bind fin)
    | exact wpAny_bind (wpAny_pure (wpAny_bind fin))
    | exact wpAny_bind fin

theorem dict_typeIs {X : Cx} {pins : List (Addr × Obj)} {σ : St} {H : Hp} {s : Shared} {a : Addr} {y : V} {o : Option V} (I : Inv X pins σ H s) (g : DGet H a y o) : s.TypeIs (.ref a) "dict" := by
  rcases g with ⟨kvs, k, e, _, _⟩ | ⟨kvs, k, b, e, _, _, _⟩
  · obtain ⟨_, _, vs, _, dd⟩ := dk_rd I.hok e
    exact dd.typeIs
  · obtain ⟨_, _, xs, _, dd⟩ := dt_rd I.hok e
    exact dd.typeIs
theorem dict_noDict {X : Cx} {pins : List (Addr × Obj)} {σ : St} {H : Hp} {s : Shared} {a : Addr} {y : V} {o : Option V} (I : Inv X pins σ H s) (g : DGet H a y o) :
    ∀ b, Value.ref a = .ref b → ∃ ob, s.heap.get? b = some ob ∧ ob.dict = none := fun b q => by
  cases q
  rcases g with ⟨kvs, k, e, _, _⟩ | ⟨kvs, k, b, e, _, _, _⟩
  · obtain ⟨_, _, vs, _, ob, _, _, h1, h2, _⟩ := dk_rd I.hok e
    exact ⟨ob, h1, h2.2.1⟩
  · obtain ⟨_, _, xs, _, ob, _, _, h1, h2, _⟩ := dt_rd I.hok e
    exact ⟨ob, h1, h2.2.1⟩

/-- d[y] -/
def tDGet (td ty : TE) : TE := fun σ H Q => td σ H fun x H1 => ty σ H1 fun y H2 => ∃ a v, x = .ref a ∧ DGet H2 a y (some v) ∧ Q v H2
/-- y in d, y not in d -/
def tDIn (ty td : TE) : TE := fun σ H Q => ty σ H fun y H1 => td σ H1 fun x H2 => ∃ a o, x = .ref a ∧ DGet H2 a y o ∧ Q (.bl o.isSome) H2
def tDNotIn (ty td : TE) : TE := fun σ H Q => ty σ H fun y H1 => td σ H1 fun x H2 => ∃ a o, x = .ref a ∧ DGet H2 a y o ∧ Q (.bl (!o.isSome)) H2
/-- d[y] = v -/
def sDPut (td ty tv : TE) : TS := fun D σ H => tv σ H fun v H1 => td σ H1 fun x H2 => ty σ H2 fun y H3 => ∃ a H4, x = .ref a ∧ DPut H3 a y v H4 ∧ D.nx σ H4
/-- d[y] op= v -/
def sDAug (td ty tv : TE) (rd : V → V → Hp → VK → Prop) : TS := fun D σ H => td σ H fun x H1 => ty σ H1 fun y H2 => ∃ a v, x = .ref a ∧ DGet H2 a y (some v) ∧
  tv σ H2 fun y2 H3 => rd v y2 H3 fun z H4 => ∃ H5, DPut H4 a y z H5 ∧ D.nx σ H5
/-- del d[y] -/
def sDDel (td ty : TE) : TS := fun D σ H => td σ H fun x H1 => ty σ H1 fun y H2 => ∃ a kvs k, x = .ref a ∧ H2 a = some (.dK kvs) ∧ y = kV k ∧ (valV kvs k).isSome = true ∧ D.nx σ (upd H2 a (.dK (dropK kvs k)))

section
variable {X : Cx} {o i e value : Expr} {pos pos' tpos : Pos} {td ty tv : TE}
theorem pe_dget (hu : X.A.units + 1 < cLine) (ho : PE X o td) (hi : PE X i ty) (hs : NoSl i) : PE X (.Subscript o i pos) (tDGet td ty) := by
  intro pins s σ H Q I h
  refine subD_of PySem.F.slot_dict_getitem.lookup hs (thn (ho pins s σ H _ I h) fun u s1 ⟨x, H1, I1, rx, q1⟩ => thn (hi pins s1 σ H1 _ I1 q1) fun iv s2 ⟨y, H2, I2, ry, a, v, ex, g, q2⟩ => ?_)
  subst ex
  obtain rfl : u = Value.ref a := rx
  exact ⟨dict_typeIs I2 g, d_getItem hu I2 g ry fun w' s3 I3 rw' => ⟨v, H2, I3, rw', q2⟩⟩
theorem pc_din (hu : X.A.units + 1 < cLine) (hi : PE X i ty) (ho : PE X o td) : PC X .In i o (tDIn ty td) := by
  intro pins s σ H Q I h
  refine thn (hi pins s σ H _ I h) fun iv s1 ⟨y, H1, I1, ry, q1⟩ => thn (ho pins s1 σ H1 _ I1 q1) fun u s2 ⟨x, H2, I2, rx, a, ov, ex, g, q2⟩ => ?_
  subst ex
  obtain rfl : u = Value.ref a := rx
  exact d_in hu I2 g ry fun s3 I3 => ⟨.bl ov.isSome, H2, I3, rfl, q2⟩
theorem pc_dnotin (hu : X.A.units + 1 < cLine) (hi : PE X i ty) (ho : PE X o td) : PC X .NotIn i o (tDNotIn ty td) := by
  intro pins s σ H Q I h
  refine thn (hi pins s σ H _ I h) fun iv s1 ⟨y, H1, I1, ry, q1⟩ => thn (ho pins s1 σ H1 _ I1 q1) fun u s2 ⟨x, H2, I2, rx, a, ov, ex, g, q2⟩ => ?_
  subst ex
  obtain rfl : u = Value.ref a := rx
  exact d_notIn hu I2 g ry fun s3 I3 => ⟨.bl (!ov.isSome), H2, I3, rfl, q2⟩
theorem ps_dput (hu : X.A.units + 1 < cLine) (ho : PE X o td) (hi : PE X i ty) (hv : PE X value tv) (hs : swapsWith value (some (.Subscript o i pos')) pos.line X.env = pure false) :
    PS X (.Assign [.Subscript o i pos'] value pos) (sDPut td ty tv) := by
  intro pins s σ H D I h
  refine wpAny_Assign_Subscript (thn (hv pins s σ H _ I h) fun r s1 ⟨v, H1, I1, rv, q1⟩ => thn (ho pins s1 σ H1 _ I1 q1) fun u s2 ⟨x, H2, I2, rx, q2⟩ => thn (hi pins s2 σ H2 _ I2 q2) fun iv s3 ⟨y, H3, I3, ry, a, H4, ex, g, q3⟩ => ?_) hs
  subst ex
  obtain rfl : u = Value.ref a := rx
  exact d_setItem hu I3 g ry rv fun s4 I4 => ⟨σ, H4, I4, q3⟩
theorem ps_daug {op : Operator} {rd : V → V → Hp → VK → Prop} (hu : X.A.units + 1 < cLine) (ho : PE X o td) (hi : PE X i ty) (hv : PE X value tv) (hop : InOp X op rd)
    (ha : ∀ ov iv new, augStore i ov iv new = (do holding [new, ov, iv] (setItem ov iv new); release [new, ov, iv] []; pure .next)) : PS X (.AugAssign (.Subscript o i tpos) op value pos) (sDAug td ty tv rd) := by
  intro pins s σ H D I h
  refine wpAny_AugAssign_SubscriptAny (thn (ho pins s σ H _ I h) fun u s1 ⟨x, H1, I1, rx, q1⟩ => thn (hi pins s1 σ H1 _ I1 q1) fun iv s2 ⟨y, H2, I2, ry, a, v, ex, g, q2⟩ => ?_) ha
  subst ex
  obtain rfl : u = Value.ref a := rx
  refine d_getItem hu I2 g ry fun w' s3 I3 rw' => thn (hv pins s3 σ H2 _ I3 q2) fun w2 s4 ⟨y2, H3, I4, ry2, q3⟩ => thn (hop pins s4 σ H3 v y2 w' w2 _ I4 rw' ry2 q3) fun w3 s5 ⟨z, H4, I5, rz, H5, g5, q4⟩ => ?_
  exact d_setItem hu I5 g5 ry rz fun s6 I6 => ⟨σ, H5, I6, q4⟩
theorem ps_ddel (ho : PE X o td) (hi : PE X i ty) : PS X (.Delete [.Subscript o i tpos] pos) (sDDel td ty) := by
  intro pins s σ H D I h
  refine wpAny_Delete (wpAny_deleteEach_cons (wpAny_delete_Subscript (thn (ho pins s σ H _ I h) fun u s1 ⟨x, H1, I1, rx, q1⟩ => thn (hi pins s1 σ H1 _ I1 q1) fun iv s2 ⟨y, H2, I2, ry, a, kvs, k, ex, e, ey, l, q2⟩ => ?_)))
  subst ex ey
  obtain rfl : u = Value.ref a := rx
  exact d_delItem I2 e ry l fun s3 I3 => wpAny_deleteEach_nil ⟨σ, _, I3, q2⟩
end


/-! ### displays -/
theorem dk_empty {P : Program} {w : World} {H : Hp} (h : Heap) (hb : sysModules < h.objs.size) : ObjOk P w H (h.push { cls := .type "dict", data := .dict #[] }) h.objs.size (.dK []) :=
  ⟨Nat.zero_le _, beq_eq_false_iff_ne.mpr (Ne.symm (Nat.ne_of_lt hb)), [], .nil, Heap.DictOf.new h⟩
theorem dt_empty {P : Program} {w : World} {H : Hp} (h : Heap) (hb : sysModules < h.objs.size) : ObjOk P w H (h.push { cls := .type "dict", data := .dict #[] }) h.objs.size (.dT []) :=
  ⟨Nat.zero_le _, beq_eq_false_iff_ne.mpr (Ne.symm (Nat.ne_of_lt hb)), [], .nil, _, #[], 0, Heap.get?_push_size _ rfl, ⟨rfl, rfl, rfl⟩, rfl, rfl, List.nodup_nil⟩
/-- {}, to be a dict of the kind that is wanted -/
def tDNewK : TE := fun _ H Q => ∀ p, H p = none → Q (.ref p) (upd H p (.dK []))
def tDNewT : TE := fun _ H Q => ∀ p, H p = none → Q (.ref p) (upd H p (.dT []))
section
variable {X : Cx} {pos : Pos}
theorem pe_dnewK : PE X (.Dict [] [] pos) tDNewK := fun pins s σ H Q I h =>
  wpAny_Dict_empty ⟨.ref s.heap.objs.size, _, I.laid (a := s.heap.objs.size) (o := .dK []) (t' := s.toks) (fun _ _ q => Heap.get?_push_of_some _ q) (Nat.le_refl _) (dk_empty s.heap I.big), rfl, h _ (I.hok.fresh (Nat.le_refl _))⟩
theorem pe_dnewT : PE X (.Dict [] [] pos) tDNewT := fun pins s σ H Q I h =>
  wpAny_Dict_empty ⟨.ref s.heap.objs.size, _, I.laid (a := s.heap.objs.size) (o := .dT []) (t' := s.toks) (fun _ _ q => Heap.get?_push_of_some _ q) (Nat.le_refl _) (dt_empty s.heap I.big), rfl, h _ (I.hok.fresh (Nat.le_refl _))⟩
end

/-- the pairs of a display, from the left -/
def tPairs : List (TE × TE) → St → Hp → (List (V × V) → Hp → Prop) → Prop
  | [], _, H, Q => Q [] H
  | (tk, tv) :: r, σ, H, Q => tk σ H fun x H1 => tv σ H1 fun y H2 => tPairs r σ H2 fun ps H3 => Q ((x, y) :: ps) H3
abbrev VV : List (V × V) → List (Value × Value) → Prop := Paired fun p q => RelV p.1 q.1 ∧ RelV p.2 q.2
def PPs (X : Cx) (pos : Pos) (keys : List (Option Expr)) (values : List Expr) (trs : List (TE × TE)) : Prop :=
  ∀ (pins : List (Addr × Obj)) (s : Shared) (σ : St) (H : Hp) (Q : List (V × V) → Hp → Prop), Inv X pins σ H s → tPairs trs σ H Q →
    wpAny (model X.prog X.w) X.A (evalPairs (pairTrees keys values X.env pos)) (fun vs s' => ∃ ps H', Inv X pins σ H' s' ∧ VV ps vs ∧ Q ps H') X.xe s
theorem pps_nil {X : Cx} {pos : Pos} : PPs X pos [] [] [] := fun pins s σ H Q I h => pairTrees_nil_walk ⟨[], H, I, .nil, h⟩
theorem pps_cons {X : Cx} {pos : Pos} {k v : Expr} {ks : List (Option Expr)} {vs : List Expr} {tk tv : TE} {trs : List (TE × TE)} (hk : PE X k tk) (hv : PE X v tv) (hr : PPs X pos ks vs trs) :
    PPs X pos (some k :: ks) (v :: vs) ((tk, tv) :: trs) := fun pins s σ H Q I h =>
  pairTrees_cons_walk (thn (hk pins s σ H _ I h) fun u s1 ⟨x, H1, I1, rx, q1⟩ => thn (hv pins s1 σ H1 _ I1 q1) fun w2 s2 ⟨y, H2, I2, ry, q2⟩ =>
    thn (hr pins s2 σ H2 _ I2 q2) fun ws s3 ⟨ps, H3, I3, rel, q3⟩ => ⟨(x, y) :: ps, H3, I3, .cons ⟨rx, ry⟩ rel, q3⟩)

def mergeK (kvs more : List (Key × V)) : List (Key × V) := more.foldl (fun acc kv => putK acc kv.1 kv.2) kvs
theorem KV.merge : ∀ {more : List (Key × V)} {rs : List (Key × Value)} {kvs : List (Key × V)} {vs : List (Key × Value)}, KV more rs → KV kvs vs → KV (mergeK kvs more) (merged vs rs) := by
  intro more rs kvs vs r
  unfold KV at r
  induction r generalizing kvs vs with
  | nil => intro q; exact q
  | @cons p q ps qs h t ih =>
    intro r0
    have e : KV (putK kvs p.1 p.2) (stored vs q.1 q.2) := by
      have := r0.put p.1 h.2
      rw [← h.1]; exact this
    exact ih e
theorem length_mergeK : ∀ (more kvs : List (Key × V)), (mergeK kvs more).length ≤ kvs.length + more.length
  | [], kvs => by show kvs.length ≤ kvs.length + 0; omega
  | p :: r, kvs => by
    have h1 := length_mergeK r (putK kvs p.1 p.2)
    have h2 := length_putK kvs p.1 p.2
    show (mergeK (putK kvs p.1 p.2) r).length ≤ _
    rw [List.length_cons]; omega
theorem carries_of {P : Program} {w : World} : ∀ {kvs : List (Key × V)} {ws : List (Value × Value)}, VV (kvs.map fun kv => (kV kv.1, kv.2)) ws → ∃ rs, Carries (mixKind P w) ws rs ∧ KV kvs rs
  | [], _, r => by rw [List.map_nil] at r; cases r; exact ⟨[], True.intro, .nil⟩
  | p :: kvs, _, r => by
    rw [List.map_cons] at r
    cases r with
    | @cons a b as bs h t =>
      obtain ⟨rs, c, q⟩ := carries_of (P := P) (w := w) t
      obtain ⟨b1, b2⟩ := b
      exact ⟨(p.1, b2) :: rs, ⟨kV_is h.1, rfl, c⟩, .cons ⟨rfl, h.2⟩ q⟩
/-- {k: v, ..} with keys ints and texts; the new dict stands empty while the pairs are made -/
def tDisp (trs : List (TE × TE)) : TE := fun σ H Q => ∀ p, H p = none → tPairs trs σ (upd H p (.dK [])) fun ps H2 => H2 p = some (.dK []) ∧ ∃ kvs : List (Key × V), ps = kvs.map (fun kv => (kV kv.1, kv.2)) ∧ kvs.length ≤ 15 ∧ Q (.ref p) (upd H2 p (.dK (mergeK [] kvs)))
theorem pe_disp {X : Cx} {pos : Pos} {keys : List (Option Expr)} {values : List Expr} {trs : List (TE × TE)} (h : PPs X pos keys values trs) (hall : keys.all (·.isSome) = true) (hl : keys.length = values.length) (h0 : keys ≠ [])
    (h15 : keys.length ≤ 15) : PE X (.Dict keys values pos) (tDisp trs) := by
  intro pins s σ H Q I q
  have hn := I.hok.fresh (Nat.le_refl s.heap.objs.size)
  have I1 := I.laid (a := s.heap.objs.size) (o := .dK []) (h' := s.heap.push { cls := .type "dict", data := .dict #[] }) (t' := s.toks) (fun _ _ q => Heap.get?_push_of_some _ q) (Nat.le_refl _) (dk_empty s.heap I.big)
  refine wpAny_Dict_walk (knd := mixKind X.prog X.w) hall hl h0 h15 (thn (h pins _ σ _ _ I1 (q _ hn)) fun ws s2 ⟨ps, H2, I2, rel, e, kvs, ep, lk, q2⟩ => ?_)
  subst ep
  obtain ⟨rs, c, rk⟩ := carries_of (P := X.prog) (w := X.w) rel
  obtain ⟨z, hd, vs0, r0, dd⟩ := dk_of I2.hok e
  cases r0
  refine ⟨rs, c, dd, fun h' dd' hs => ⟨.ref s.heap.objs.size, _, ?_, rfl, q2⟩⟩
  have hz : (mergeK [] kvs).length ≤ sizeLine := by
    have h1 := length_mergeK kvs []
    rw [List.length_nil] at h1
    rw [sizeLine_eq]; omega
  have he : ∃ q, h'.get? s.heap.objs.size = some q := let ⟨q, _, _, hq, _⟩ := dd'; ⟨q, hq⟩
  exact d_write I2 (by rw [e]; exact True.intro) hs he (dk_new hz hd (rk.merge .nil) dd')


/-! ### methods -/
/-- a method call o.m(e) of a built-in, with one argument: what must be seen of the text -/
structure M1 (X : Cx) (o : Expr) (m : Str) (apos : Pos) (e : Expr) (cpos : Pos) : Prop where
  base : attributeBase o m X.env (eval o X.env) = eval o X.env
  few : ((backTo cpos (starEach [e] X.env)).all (fun x => !x.1) && (backToKw cpos (keywordEach [] X.env)).all (fun x => x.1.isSome)
    && decide (([e] : List Expr).length + ([] : List Keyword).length + (if ([] : List Keyword).isEmpty then 0 else 1) < 30)) = true
  line : (apos.endLine == cpos.line) = true
  trees : backTo cpos (starEach [e] X.env) = [(false, eval e X.env)]
structure M2 (X : Cx) (o : Expr) (m : Str) (apos : Pos) (e f : Expr) (cpos : Pos) : Prop where
  base : attributeBase o m X.env (eval o X.env) = eval o X.env
  few : ((backTo cpos (starEach [e, f] X.env)).all (fun x => !x.1) && (backToKw cpos (keywordEach [] X.env)).all (fun x => x.1.isSome)
    && decide (([e, f] : List Expr).length + ([] : List Keyword).length + (if ([] : List Keyword).isEmpty then 0 else 1) < 30)) = true
  line : (apos.endLine == cpos.line) = true
  trees : backTo cpos (starEach [e, f] X.env) = [(false, eval e X.env), (false, eval f X.env)]

/-- a is a dict, whatever its keys -/
def IsD (H : Hp) (a : Addr) : Prop := (∃ kvs, Rd H a (.dK kvs)) ∨ ∃ kvs, Rd H a (.dT kvs)
theorem isD_at {X : Cx} {pins : List (Addr × Obj)} {σ : St} {H : Hp} {s : Shared} {a : Addr} (I : Inv X pins σ H s) (d : IsD H a) :
    s.TypeIs (.ref a) "dict" ∧ (∀ b, Value.ref a = .ref b → ∃ ob, s.heap.get? b = some ob ∧ ob.dict = none) ∧ (a == sysModules) = false := by
  rcases d with ⟨kvs, e⟩ | ⟨kvs, e⟩
  · obtain ⟨_, hd, vs, _, dd⟩ := dk_rd I.hok e
    refine ⟨dd.typeIs, fun b q => ?_, hd⟩
    cases q
    obtain ⟨ob, _, _, h1, h2, _⟩ := dd
    exact ⟨ob, h1, h2.2.1⟩
  · obtain ⟨_, hd, xs, _, dd⟩ := dt_rd I.hok e
    refine ⟨dd.typeIs, fun b q => ?_, hd⟩
    cases q
    obtain ⟨ob, _, _, h1, h2, _⟩ := dd
    exact ⟨ob, h1, h2.2.1⟩

section
variable {X : Cx} {pins : List (Addr × Obj)} {σ : St} {H : Hp} {s : Shared} {a : Addr} {y d : V} {u r : Value} {o : Option V} {A : Around} {E : Value → Shared → Prop}
/-- d.get(y) -/
theorem d_get1 {Q : Value → Shared → Prop} (hu : A.units + 1 < cLine) (I : Inv X pins σ H s) (g : DGet H a y o) (ry : RelV y u) (h : ∀ w' s', Inv X pins σ H s' → RelV (o.getD .non) w' → Q w' s') :
    wpAny (model X.prog X.w) A (call (.builtin "dict.get") [.ref a, u]) Q E s := by
  rcases g with ⟨kvs, k, e, ey, l⟩ | ⟨kvs, k, b, e, ey, eb, l⟩
  · subst ey
    obtain ⟨z, hd, vs, rel, dd⟩ := dk_rd I.hok e
    refine call_meetsIn PySem.F.slot_dict_get dd.typeIs PySem.F.entry_dict_get (PySem.F.args_dict_get_2 _ _) (meets_dict_get (mixKind X.prog X.w) a (kV_is ry) hd) ⟨_, dd.mapOf, h _ _ (I.tok _) ?_⟩
    rw [l]
    exact (rel.val k).getD rfl
  · subst ey
    cases (show u = Value.ref b from ry)
    obtain ⟨z, hd, xs, rel, dd⟩ := dt_rd I.hok e
    refine call_meetsIn PySem.F.slot_dict_get dd.typeIs PySem.F.entry_dict_get (PySem.F.args_dict_get_2 _ _) (meetsH_dict_get (tupleKind (mixKind X.prog X.w)) a b hd) ⟨tupleKind_room_in1 hu, k, xs, key_of I.hok eb, dd, h _ _ (I.tok _) ?_⟩
    rw [l]
    exact (rel.val k).getD rfl
/-- d.get(y, x) -/
theorem d_get2 {Q : Value → Shared → Prop} (hu : A.units + 1 < cLine) (I : Inv X pins σ H s) (g : DGet H a y o) (ry : RelV y u) (rd : RelV d r) (h : ∀ w' s', Inv X pins σ H s' → RelV (o.getD d) w' → Q w' s') :
    wpAny (model X.prog X.w) A (call (.builtin "dict.get") [.ref a, u, r]) Q E s := by
  rcases g with ⟨kvs, k, e, ey, l⟩ | ⟨kvs, k, b, e, ey, eb, l⟩
  · subst ey
    obtain ⟨z, hd, vs, rel, dd⟩ := dk_rd I.hok e
    refine call_meetsIn PySem.F.slot_dict_get dd.typeIs PySem.F.entry_dict_get (PySem.F.args_dict_get_3 _ _ _) (meets_dict_get_default (mixKind X.prog X.w) a (kV_is ry) hd r) ⟨_, dd.mapOf, h _ _ (I.tok _) ?_⟩
    rw [l]
    exact (rel.val k).getD rd
  · subst ey
    cases (show u = Value.ref b from ry)
    obtain ⟨z, hd, xs, rel, dd⟩ := dt_rd I.hok e
    refine call_meetsIn PySem.F.slot_dict_get dd.typeIs PySem.F.entry_dict_get (PySem.F.args_dict_get_3 _ _ _) (meetsH_dict_get_default (tupleKind (mixKind X.prog X.w)) a b hd r) ⟨tupleKind_room_in1 hu, k, xs, key_of I.hok eb, dd, h _ _ (I.tok _) ?_⟩
    rw [l]
    exact (rel.val k).getD rd
end

def tDGet1 (td ty : TE) : TE := fun σ H Q => td σ H fun x H1 => ∃ a, x = .ref a ∧ IsD H1 a ∧ ty σ H1 fun y H2 => ∃ o, DGet H2 a y o ∧ Q (o.getD .non) H2
def tDGet2 (td ty tx : TE) : TE := fun σ H Q => td σ H fun x H1 => ∃ a, x = .ref a ∧ IsD H1 a ∧ ty σ H1 fun y H2 => tx σ H2 fun z H3 => ∃ o, DGet H3 a y o ∧ Q (o.getD z) H3
/-- d.pop(k): there; d.pop(k, x): there or not -/
def tDPop1 (td ty : TE) : TE := fun σ H Q => td σ H fun x H1 => ∃ a, x = .ref a ∧ IsD H1 a ∧ ty σ H1 fun y H2 => ∃ kvs k v, H2 a = some (.dK kvs) ∧ y = kV k ∧ valV kvs k = some v ∧ Q v (upd H2 a (.dK (dropK kvs k)))
def tDPop2 (td ty tx : TE) : TE := fun σ H Q => td σ H fun x H1 => ∃ a, x = .ref a ∧ IsD H1 a ∧ ty σ H1 fun y H2 => tx σ H2 fun z H3 => ∃ kvs k, H3 a = some (.dK kvs) ∧ y = kV k ∧
  (∀ v, valV kvs k = some v → Q v (upd H3 a (.dK (dropK kvs k)))) ∧ (valV kvs k = none → Q z H3)
section
variable {X : Cx} {o e f : Expr} {apos cpos : Pos} {td ty tx : TE}
theorem pe_dget1 (hu : X.A.units + 1 < cLine) (ho : PE X o td) (he : PE X e ty) (m : M1 X o "get" apos e cpos) : PE X (.Call (.Attribute o "get" apos) [e] [] cpos) (tDGet1 td ty) := by
  intro pins s σ H Q I h
  refine wpAny_Call_method m.base m.few m.line PySem.F.plainAttrs_dict PySem.F.slot_dict_get PySem.F.type_dict_get (thn (ho pins s σ H _ I h) fun u s1 ⟨x, H1, I1, rx, a, ex, d, q1⟩ => ?_)
  subst ex
  obtain rfl : u = Value.ref a := rx
  obtain ⟨t1, t2, _⟩ := isD_at I1 d
  refine ⟨t1, t2, ?_⟩
  rw [m.trees]
  refine Calls.callWith_builtin rfl (Calls.evalArgs_plain (Calls.spliced_cons (thn (he pins s1 σ H1 _ I1 q1) fun iv s2 ⟨y, H2, I2, ry, ov, g, q2⟩ => Calls.spliced_nil ?_)))
  exact d_get1 hu I2 g ry fun w' s3 I3 rw' => ⟨_, H2, I3, rw', q2⟩
theorem pe_dget2 (hu : X.A.units + 1 < cLine) (ho : PE X o td) (he : PE X e ty) (hf : PE X f tx) (m : M2 X o "get" apos e f cpos) : PE X (.Call (.Attribute o "get" apos) [e, f] [] cpos) (tDGet2 td ty tx) := by
  intro pins s σ H Q I h
  refine wpAny_Call_method m.base m.few m.line PySem.F.plainAttrs_dict PySem.F.slot_dict_get PySem.F.type_dict_get (thn (ho pins s σ H _ I h) fun u s1 ⟨x, H1, I1, rx, a, ex, d, q1⟩ => ?_)
  subst ex
  obtain rfl : u = Value.ref a := rx
  obtain ⟨t1, t2, _⟩ := isD_at I1 d
  refine ⟨t1, t2, ?_⟩
  rw [m.trees]
  refine Calls.callWith_builtin rfl (Calls.evalArgs_plain (Calls.spliced_cons (thn (he pins s1 σ H1 _ I1 q1) fun iv s2 ⟨y, H2, I2, ry, q2⟩ =>
    Calls.spliced_cons (thn (hf pins s2 σ H2 _ I2 q2) fun fv s3 ⟨z, H3, I3, rz, ov, g, q3⟩ => Calls.spliced_nil ?_))))
  exact d_get2 hu I3 g ry rz fun w' s4 I4 rw' => ⟨_, H3, I4, rw', q3⟩
theorem pe_dpop1 (ho : PE X o td) (he : PE X e ty) (m : M1 X o "pop" apos e cpos) : PE X (.Call (.Attribute o "pop" apos) [e] [] cpos) (tDPop1 td ty) := by
  intro pins s σ H Q I h
  refine wpAny_Call_method m.base m.few m.line PySem.F.plainAttrs_dict PySem.F.slot_dict_pop PySem.F.type_dict_pop (thn (ho pins s σ H _ I h) fun u s1 ⟨x, H1, I1, rx, a, ex, d, q1⟩ => ?_)
  subst ex
  obtain rfl : u = Value.ref a := rx
  obtain ⟨t1, t2, _⟩ := isD_at I1 d
  refine ⟨t1, t2, ?_⟩
  rw [m.trees]
  refine Calls.callWith_builtin rfl (Calls.evalArgs_plain (Calls.spliced_cons (thn (he pins s1 σ H1 _ I1 q1) fun iv s2 ⟨y, H2, I2, ry, kvs, k, v, ea, ey, l, q2⟩ => Calls.spliced_nil ?_)))
  subst ey
  exact d_pop I2 ea ry l (.inl rfl) fun w' s3 I3 rw' => ⟨v, _, I3, rw', q2⟩
theorem pe_dpop2 (ho : PE X o td) (he : PE X e ty) (hf : PE X f tx) (m : M2 X o "pop" apos e f cpos) : PE X (.Call (.Attribute o "pop" apos) [e, f] [] cpos) (tDPop2 td ty tx) := by
  intro pins s σ H Q I h
  refine wpAny_Call_method m.base m.few m.line PySem.F.plainAttrs_dict PySem.F.slot_dict_pop PySem.F.type_dict_pop (thn (ho pins s σ H _ I h) fun u s1 ⟨x, H1, I1, rx, a, ex, d, q1⟩ => ?_)
  subst ex
  obtain rfl : u = Value.ref a := rx
  obtain ⟨t1, t2, _⟩ := isD_at I1 d
  refine ⟨t1, t2, ?_⟩
  rw [m.trees]
  refine Calls.callWith_builtin rfl (Calls.evalArgs_plain (Calls.spliced_cons (thn (he pins s1 σ H1 _ I1 q1) fun iv s2 ⟨y, H2, I2, ry, q2⟩ =>
    Calls.spliced_cons (thn (hf pins s2 σ H2 _ I2 q2) fun fv s3 ⟨z, H3, I3, rz, kvs, k, ea, ey, q3, q4⟩ => Calls.spliced_nil ?_))))
  subst ey
  cases l : valV kvs k with
  | some v => exact d_pop I3 ea ry l (.inr ⟨fv, rfl⟩) fun w' s4 I4 rw' => ⟨v, _, I4, rw', q3 v l⟩
  | none => exact d_popD I3 ea ry l fun s4 I4 => ⟨z, H3, I4, rz, q4 l⟩
end

/-! ### dict(d): a copy -/
section
variable {X : Cx} {pins : List (Addr × Obj)} {σ : St} {H : Hp} {s : Shared} {a : Addr} {kvs : List (Key × V)} {A : Around} {E : Value → Shared → Prop}
theorem d_copyOf {Q : Value → Shared → Prop} (I : Inv X pins σ H s) (e : Rd H a (.dK kvs)) (h : ∀ p s', H p = none → Inv X pins σ (upd H p (.dK kvs)) s' → Q (.ref p) s') : wpAny (model X.prog X.w) A (call (.type "dict") [.ref a]) Q E s := by
  obtain ⟨z, hd, vs, rel, dd⟩ := dk_rd I.hok e
  refine kt_call_dict hd dd (by rw [← rel.length]; exact z) fun h' dd' hs => ?_
  refine h _ _ (I.hok.fresh (Nat.le_refl _)) (I.laid (a := s.heap.objs.size) (o := .dK kvs) (t' := s.toks) (fun b q hq => ?_) (Nat.le_refl _) (dk_new z (beq_eq_false_iff_ne.mpr (Ne.symm (Nat.ne_of_lt I.big))) rel dd'))
  exact (hs.2 b (Nat.ne_of_lt (Heap.lt_size hq))).trans (Heap.get?_push_of_some _ hq)
end


section
variable {X : Cx} {pins : List (Addr × Obj)} {σ : St} {H : Hp} {s : Shared} {a : Addr} {y : V} {u : Value} {A : Around} {E : Value → Shared → Prop}
/-- d[y], not there: a KeyError -/
theorem d_missing {Q : Value → Shared → Prop} (hu : A.units + 1 < cLine) (hh : A.handled = none) (I : Inv X pins σ H s) (g : DGet H a y none) (ry : RelV y u)
    (h : ∀ h' e t', Heap.NewExc s.heap h' e "KeyError" → E (.ref e) { s with heap := h', toks := t' }) : wpAny (model X.prog X.w) A (getItem (.ref a) u) Q E s := by
  rcases g with ⟨kvs, k, e, ey, l⟩ | ⟨kvs, k, b, e, ey, eb, l⟩
  · subst ey
    obtain ⟨z, hd, vs, rel, dd⟩ := dk_rd I.hok e
    have hn : valueAt vs k = none := RelO.none_of (by rw [l]; exact rel.val k)
    exact wpAny_getItem_missing_of (kV_is ry) hd hh dd.mapOf hn fun h' ex ne => h h' ex _ ne
  · subst ey
    cases (show u = Value.ref b from ry)
    obtain ⟨z, hd, xs, rel, dd⟩ := dt_rd I.hok e
    have hn : (atKey xs k).map (·.2) = none := RelO.none_of (by rw [l]; exact rel.val k)
    exact wpAny_getItem_missing_heap (tupleKind_room_in1 hu) (key_of I.hok eb) hd hh dd (Option.map_eq_none_iff.mp hn) fun h' ex ne => h h' ex _ ne
end
end L2


namespace Att
open PySem PySem.W PySem.Calls PyProof.Rows

/-! ### the script -/
theorem ints_of_wellAll {P : Params} {h : Heap} : ∀ (ns : List Int) (vs : List Value), WellAll P h vs (ns.map WData.int) → IntsAre vs ns := by
  intro ns
  induction ns with
  | nil =>
    intro vs w
    rw [List.map_nil] at w
    cases w
    exact .nil
  | cons n ns ih =>
    intro vs w
    rw [List.map_cons] at w
    cases w with
    | cons a b =>
      cases a
      exact .cons _ _ (ih _ b)

theorem script_of {l : OpenLaw} {n : Nat} (hn : l.most = some n) {P : Params} {h : Heap} {args : List WData} {vals : List Value}
    (hpre : l.row.toRowW.claim.pre args = true) (hwl : WellAll P h vals args) :
    ∃ a vs ns, vals = [Value.ref a] ∧ args = [WData.list (ns.map WData.int)] ∧ h.get? a = some { cls := .type "list", data := .seq vs.toArray } ∧ IntsAre vs ns ∧ ns.length ≤ n := by
  have hsh : WShape.hasAll [] args [.list .int] = true := (pre_splitW hpre).1
  have hc : l.pre.holds [] { args := args } = true := (pre_splitW hpre).2
  obtain ⟨d, r, rfl, h1, h2⟩ := hasAllW_cons hsh
  obtain rfl := hasAllW_nil h2
  obtain ⟨xs, rfl, h3⟩ := hasW_list h1
  obtain ⟨ns, rfl⟩ := items_int h3
  have hlen : ns.length ≤ n := by
    unfold OpenLaw.pre at hc
    have h4 : (WTm.not (.lt (.lit (.int (n : Int))) (.len (.arg 0)))).holds [] { args := [.list (ns.map .int)] } = true := by
      have h4 := (holds_andW hc).1
      rw [hn] at h4
      exact h4
    have h5 := condW_of h4 (w_not (w_lt w_lit (w_len_list (w_arg rfl))))
    rw [List.length_map] at h5
    refine Nat.le_of_not_lt fun q => ?_
    have q' : (n : Int) < ((ns.length : Nat) : Int) := by omega
    first
      | (rw [decide_eq_true q'] at h5; exact absurd h5 (by decide))
      | (simp at h5; omega)
  cases hwl with
  | cons w1 w2 =>
    cases w2
    cases w1 with
    | list ho hall => exact ⟨_, _, ns, rfl, rfl, ho, ints_of_wellAll ns _ hall, hlen⟩

theorem post_true (l : OpenLaw) (args : List WData) : l.row.toRowW.claim.post args (.bool true) args = true :=
  postW_of (r := l.row.toRowW) (X := (true == true))
    (show WShape.has [] (.bool true) .bool = true by first | rfl | decide | simp [WShape.has, WShape.arms, WShape.armsAll])
    (show (WTm.eq .res (.lit (.bool true))).value [] { args := args, res := some (.bool true), after := args } = some (.bool (true == true)) from w_eq_bool (w_res rfl) w_lit) rfl

/-! ### the attachment: holds_open's last premise (the goal 'hc' behind k_head) from a wpAny of the law's body -/
theorem attach {l : OpenLaw} {n : Nat} {q : Program} {loose : List Str} {XP : (Str → Option Value) → Heap → Prop} {YP : World → Heap → Prop} {d : DefRec} {x : Str}
    (hn : l.most = some n) (hdf : d.params.defaults = [])
    (hbind : ∀ pm cd doc v : Value, bindArgs (docDef d.name d.params d.body d.scope pm cd doc) ⟨[v], []⟩ = pure [(x, v)])
    (hx : d.scope.names.lookup x = some .local ∨ d.scope.names.lookup x = some .cell)
    (hk : d.scope.kind = .function) (hco : d.scope.isCoroutine = false) (hgen : d.scope.isGenerator = false)
    (body : ∀ (w : World) (s₀ s₁ s : Shared) (mg mb : Str → Option Value) (fa : Addr) (o : Obj) (pm cd doc : Value) (a : Addr) (vs : List Value) (ns : List Int),
      Ground q loose [] XP w s₀ mg mb s₁.heap → YP w s₁.heap →
      s₁.heap.get? fa = some o → o.data = .func (docDef d.name d.params d.body d.scope pm cd doc) → s₁.heap.CodeRec cd d.name → mg d.name = some (.ref fa) →
      s₁.heap.get? a = some { cls := .type "list", data := .seq vs.toArray } → IntsAre vs ns → ns.length ≤ n →
      s.gens = #[] → s.os = s₁.os →
      Fr s₁.heap s₁.heap.objs.size s.heap (bindL (envOfC d.name d.scope s₁.heap.objs.size fa cd).kindOf [(x, .ref a)] fun _ => none) →
      Cl s₁.heap.objs.size (cellsFrom (s₁.heap.objs.size + 1) d.scope.names []) s.heap (bindC (envOfC d.name d.scope s₁.heap.objs.size fa cd).kindOf [(x, .ref a)] fun _ => none) →
      wpAny (model l.prog w) (callerA.deeper (envOfC d.name d.scope s₁.heap.objs.size fa cd)) (execs d.body (envOfC d.name d.scope s₁.heap.objs.size fa cd))
        (fun f s' => f = .ret (.bool true) ∧ OldK s₁.heap s'.heap ∧ s'.os = s₁.os ∧ AllBare s'.gens) (fun _ _ => False) s) :
    WalkO q loose XP YP l.row.toRowW d [] (fun f vs => PySem.call f vs) := by
  intro w s₀ s₁ mg mb G Y fa o pm cd doc dV kV ho hd hcd hD hmg hg args vals as hpre hlay hrd hwl hlo
  obtain rfl : dV = .none := Dflts.none hD hdf
  obtain rfl : kV = .none := Dflts.noKw hD
  obtain ⟨a, vs, ns, rfl, rfl, hobj, hints, hlen⟩ := script_of hn hpre hwl
  refine enter_call ?_
  refine call_cells_ret (o := o) (by rw [depth_caller]; decide) ho (fd_plain hd) G.T.nolimit hcd (hbind pm cd doc (.ref a)) (fun y hy => ?_) (fun h₁ tk F X => ?_) hco hgen hk
  · obtain rfl : y = (x, Value.ref a) := List.mem_singleton.mp hy
    rcases hx with e | e
    · exact .inl e
    · exact .inr ⟨e, cellsFrom_some _ _ _ (.inl e)⟩
  · refine wpAny_mono (body w s₀ s₁ { s₁ with heap := h₁, toks := tk } mg mb fa o pm cd doc a vs ns G Y ho (fd_plain hd) hcd hmg hobj hints hlen hg rfl F X) (fun f s' hq => ?_) (fun _ _ hq => hq)
    obtain ⟨rfl, h2, h3, h4⟩ := hq
    exact ⟨.inl ⟨.bool true, .bool true, [], rfl, fun _ => rfl, .bool true, post_true l _, fun _ => ⟨List.Pairwise.nil, fun _ hm => (nomatch hm)⟩⟩, h2, h3, h4⟩

/-- the same from a codeAny of the CALL (for a layer whose function contracts speak of calls) -/
theorem attach_call {l : OpenLaw} {n : Nat} {q : Program} {loose : List Str} {XP : (Str → Option Value) → Heap → Prop} {YP : World → Heap → Prop} {d : DefRec}
    (hn : l.most = some n) (hdf : d.params.defaults = [])
    (call : ∀ (w : World) (s₀ s₁ : Shared) (mg mb : Str → Option Value) (fa : Addr) (o : Obj) (pm cd doc : Value) (a : Addr) (vs : List Value) (ns : List Int),
      Ground q loose [] XP w s₀ mg mb s₁.heap → YP w s₁.heap →
      s₁.heap.get? fa = some o → o.data = .func (docDef d.name d.params d.body d.scope pm cd doc) → s₁.heap.CodeRec cd d.name → mg d.name = some (.ref fa) →
      s₁.heap.get? a = some { cls := .type "list", data := .seq vs.toArray } → IntsAre vs ns → ns.length ≤ n → s₁.gens = #[] →
      codeAny (model l.prog w) callerA (.call (.ref fa) ⟨[.ref a], []⟩) (fun r s' => r = .ok (.ret (.bool true)) ∧ OldK s₁.heap s'.heap ∧ s'.os = s₁.os ∧ AllBare s'.gens) s₁) :
    WalkO q loose XP YP l.row.toRowW d [] (fun f vs => PySem.call f vs) := by
  intro w s₀ s₁ mg mb G Y fa o pm cd doc dV kV ho hd hcd hD hmg hg args vals as hpre hlay hrd hwl hlo
  obtain rfl : dV = .none := Dflts.none hD hdf
  obtain rfl : kV = .none := Dflts.noKw hD
  obtain ⟨a, vs, ns, rfl, rfl, hobj, hints, hlen⟩ := script_of hn hpre hwl
  refine enter_call (codeAny_mono (call w s₀ s₁ mg mb fa o pm cd doc a vs ns G Y ho (fd_plain hd) hcd hmg hobj hints hlen hg) fun r s' hq => ?_)
  obtain ⟨rfl, h2, h3, h4⟩ := hq
  exact ⟨.inl ⟨.bool true, .bool true, [], rfl, fun _ => rfl, .bool true, post_true l _, fun _ => ⟨List.Pairwise.nil, fun _ hm => (nomatch hm)⟩⟩, h2, h3, h4⟩

/-- the same where the top left finished generators (o_head chose holds_openN): nothing may have changed at all and no generator may be left -/
theorem attachN {l : OpenLaw} {n : Nat} {q : Program} {loose : List Str} {XP : (Str → Option Value) → Heap → Prop} {YP : World → Heap → Prop} {d : DefRec} {x : Str}
    (hn : l.most = some n) (hdf : d.params.defaults = [])
    (hbind : ∀ pm cd doc v : Value, bindArgs (docDef d.name d.params d.body d.scope pm cd doc) ⟨[v], []⟩ = pure [(x, v)])
    (hx : d.scope.names.lookup x = some .local ∨ d.scope.names.lookup x = some .cell)
    (hk : d.scope.kind = .function) (hco : d.scope.isCoroutine = false) (hgen : d.scope.isGenerator = false)
    (body : ∀ (w : World) (s₀ s₁ s : Shared) (mg mb : Str → Option Value) (fa : Addr) (o : Obj) (pm cd doc : Value) (a : Addr) (vs : List Value) (ns : List Int),
      Ground q loose [] XP w s₀ mg mb s₁.heap → YP w s₁.heap →
      s₁.heap.get? fa = some o → o.data = .func (docDef d.name d.params d.body d.scope pm cd doc) → s₁.heap.CodeRec cd d.name → mg d.name = some (.ref fa) →
      s₁.heap.get? a = some { cls := .type "list", data := .seq vs.toArray } → IntsAre vs ns → ns.length ≤ n →
      s.gens = #[] → s.os = s₁.os →
      Fr s₁.heap s₁.heap.objs.size s.heap (bindL (envOfC d.name d.scope s₁.heap.objs.size fa cd).kindOf [(x, .ref a)] fun _ => none) →
      Cl s₁.heap.objs.size (cellsFrom (s₁.heap.objs.size + 1) d.scope.names []) s.heap (bindC (envOfC d.name d.scope s₁.heap.objs.size fa cd).kindOf [(x, .ref a)] fun _ => none) →
      wpAny (model l.prog w) (callerA.deeper (envOfC d.name d.scope s₁.heap.objs.size fa cd)) (execs d.body (envOfC d.name d.scope s₁.heap.objs.size fa cd))
        (fun f s' => f = .ret (.bool true) ∧ (∀ b o, s₁.heap.get? b = some o → s'.heap.get? b = some o) ∧ s'.os = s₁.os ∧ s'.gens = #[]) (fun _ _ => False) s) :
    WalkN q loose XP YP l.row.toRowW d [] (fun f vs => PySem.call f vs) := by
  intro w s₀ s₁ mg mb G Y fa o pm cd doc dV kV ho hd hcd hD hmg hg args vals as hpre hlay hrd hwl hlo
  obtain rfl : dV = .none := Dflts.none hD hdf
  obtain rfl : kV = .none := Dflts.noKw hD
  obtain ⟨a, vs, ns, rfl, rfl, hobj, hints, hlen⟩ := script_of hn hpre hwl
  refine enter_callW ?_
  refine call_cells_ret (o := o) (by rw [depth_caller]; decide) ho (fd_plain hd) G.T.nolimit hcd (hbind pm cd doc (.ref a)) (fun y hy => ?_) (fun h₁ tk F X => ?_) hco hgen hk
  · obtain rfl : y = (x, Value.ref a) := List.mem_singleton.mp hy
    rcases hx with e | e
    · exact .inl e
    · exact .inr ⟨e, cellsFrom_some _ _ _ (.inl e)⟩
  · refine wpAny_mono (body w s₀ s₁ { s₁ with heap := h₁, toks := tk } mg mb fa o pm cd doc a vs ns G Y ho (fd_plain hd) hcd hmg hobj hints hlen hg rfl F X) (fun f s' hq => ?_) (fun _ _ hq => hq)
    obtain ⟨rfl, h2, h3, h4⟩ := hq
    exact ⟨.inl ⟨.bool true, .bool true, [], rfl, fun _ => rfl, .bool true, post_true l _, fun _ => ⟨List.Pairwise.nil, fun _ hm => (nomatch hm)⟩⟩, h2, h3, h4⟩

/-! ### rules over ANY heap (no ledger) from facts about the written part K: the library's own take a ledger (News) for what they write -/
section
variable {prog : Program} {w : World} {A : Around} {E : Value → Shared → Prop} {s : Shared} {K : Frag}

/-- a def of the module, or a method (qual 'C.m'), entered: the frame is the next address; cells behind it -/
theorem call_fn {R : Result → Shared → Prop} {name qual : Str} {params : Arguments} {body : List Stmt} {scope : Scope} {dV kV doc pm cdv ct oc : Value} {an od : Option Addr} {osl : Array (Option Value)} {f : Addr} {args : Args} {binds : List (Str × Value)}
    (X : K.In s.heap) (hlim : s.heap.NoLimit) (ho : K.lookup f = some ⟨oc, od, .func (fnOf name qual params body scope dV kV doc pm an cdv ct), osl⟩) (hcd : codeIn K cdv qual = true) (hroom : A.depth < recursionLimit)
    (hbind : BindsTo s (fnOf name qual params body scope dV kV doc pm an cdv ct) args binds)
    (hkind : (binds.all fun y => scope.names.lookup y.1 == some .local || scope.names.lookup y.1 == some .cell) = true)
    (h : ∀ s₁, InCallC s s.heap.objs.size (bindL (envOfC qual scope s.heap.objs.size f cdv).kindOf binds fun _ => none) (cellsFrom (s.heap.objs.size + 1) scope.names [])
        (bindC (envOfC qual scope s.heap.objs.size f cdv).kindOf binds fun _ => none) s₁ →
      wpAny (model prog w) (A.deeper (envOfC qual scope s.heap.objs.size f cdv)) (execs body (envOfC qual scope s.heap.objs.size f cdv))
        (fun fl s' => R (.ok (.ret (match fl with | .ret v => v | _ => .none))) s')
        (fun e s' => wpAny (model prog w) (A.deeper (envOfC qual scope s.heap.objs.size f cdv)) (leaving (envOfC qual scope s.heap.objs.size f cdv) e) (fun _ s'' => R (.error e) s'') (fun e' s'' => R (.error e') s'') s') s₁)
    (hco : scope.isCoroutine = false) (hgen : scope.isGenerator = false) (hk : scope.kind = .function) : codeAny (model prog w) A (.call (.ref f) args) R s := by
  refine codeAny_call_function hroom (X _ _ ho) rfl hco hgen rfl (codeRec_of X hcd) (hbind _ _ _ _ ?_)
  refine wpAny_newFunctionEnv_cells hk (kindsX hkind _) fun env he s₁ x => ?_
  subst he
  exact ⟨hlim.keeps x.toInCall.keep, codeAny_func (h s₁ x)⟩

/-- C(..): dict at size, instance at size + 1, then __init__ -/
theorem make_obj {R : Result → Shared → Prop} {C fI : Addr} {rest : List Value} {kw : List (Str × Value)}
    (X : K.In s.heap) (hm : makesIn K C = true) (hi : findIn K (.ref C) "__init__" = some (some (.ref fI))) (hf : isFn K (.ref fI) = true)
    (h : codeAny (model prog w) (A.under (.builtin "type.__call__" ⟨.ref C :: rest, kw⟩)) (.call (.ref fI) ⟨.ref (s.heap.objs.size + 1) :: rest, kw⟩) (InitBack (s.heap.objs.size + 1) R)
      { s with heap := (s.heap.push emptyDict).push (instObj C s.heap.objs.size) }) : codeAny (model prog w) A (.call (.ref C) ⟨rest, kw⟩) R s := by
  obtain ⟨hh, g, d, t, os⟩ := s
  exact make_core (makes_of X hm) (looks_findIn X hi) (fun self => bind_fn X self (beq_iff_eq.mp hf)) (.inl rfl) h

/-- x.name where the instance's dict holds the name and the class does not -/
theorem get_field {x C : Addr} {ox : Obj} {es : List DictEntry} {n : Nat} {name : Str} {expr : Bool} {v : Value} {Q : Value → Shared → Prop}
    (X : K.In s.heap) (I : PySem.W.InstAt s.heap x ox C (some (dictOf es n))) (hg : plainGet K C name = true) (hh : hasDictIn K C = true) (ha : findIn K (.ref C) name = some none)
    (hl : getL name es = some (some v)) (hv : handedIn v = true) (h : Q v { s with toks := s.toks + 1 }) : wpAny (model prog w) A (getAttr (.ref x) name expr) Q E s :=
  get_value X I (plainGet_of hg).1 (findObj_own hh ha rfl hl) hv h

/-- x.m(..): the method found in the class -/
theorem get_method {x C f : Addr} {ox : Obj} {es : List DictEntry} {n : Nat} {name : Str} {pl : Sem Bool} {Q : Value × List Value → Shared → Prop}
    (X : K.In s.heap) (I : PySem.W.InstAt s.heap x ox C (some (dictOf es n))) (hg : plainGet K C name = true) (hf : findIn K (.ref C) name = some (some (.ref f))) (ht : isFn K (.ref f) = true)
    (hl : getL name es = some none) (h : Q (.ref f, [.ref x]) s) : wpAny (model prog w) A (getMethod (.ref x) name pl) Q E s :=
  method_fn X I (plainGet_of hg).1 (plainGet_of hg).2 hf (beq_iff_eq.mp ht) (by show (lookIn name (dictOf es n)).map _ = _; rw [lookIn_dict, hl]; rfl) h

/-! the whole heap as the ledger: makes every rule that writes through a ledger a rule over any heap -/
def noObjs (h : Heap) : Heap := { h with objs := #[] }
theorem noObjs_get (h : Heap) (b : Addr) : (noObjs h).get? b = none := by
  cases e : (noObjs h).get? b with
  | none => rfl
  | some o => exact absurd (Heap.lt_size e) (Nat.not_lt_zero _)
def ledger (h : Heap) (L d : Addr) : List (Addr × Obj) := (List.range h.objs.size).filterMap fun a => if a = L ∨ a = d then none else (h.get? a).map fun o => (a, o)
theorem mem_ledger {h : Heap} {L d a : Addr} {o : Obj} : (a, o) ∈ ledger h L d ↔ a ≠ L ∧ a ≠ d ∧ h.get? a = some o := by
  unfold ledger
  rw [List.mem_filterMap]
  constructor
  · rintro ⟨b, _, e⟩
    split at e
    · cases e
    · rename_i hb
      obtain ⟨o', ho, e'⟩ := Option.map_eq_some_iff.mp e
      cases e'
      exact ⟨fun q => hb (.inl q), fun q => hb (.inr q), ho⟩
  · rintro ⟨n1, n2, ho⟩
    refine ⟨a, List.mem_range.mpr (Heap.lt_size ho), ?_⟩
    rw [if_neg (show ¬ (a = L ∨ a = d) from fun q => q.elim n1 n2), ho] <;> rfl
theorem news_ledger {h : Heap} {L d : Addr} {od : Obj} (hne : d ≠ L) (ho : h.get? d = some od) : News (noObjs h) L h ([] ++ (d, od) :: ledger h L d) := by
  rintro ⟨a, o⟩ hp
  rcases List.mem_cons.mp hp with e | hp
  · cases e
    exact ⟨ho, hne, noObjs_get _ _⟩
  · obtain ⟨n1, n2, e⟩ := mem_ledger.mp hp
    exact ⟨e, n1, noObjs_get _ _⟩
theorem fr_all {h : Heap} {L : Addr} {m : Str → Option Value} (n : h.Ns L m) : Fr (noObjs h) L h m :=
  ⟨n, fun b o e => (by rw [noObjs_get] at e; cases e), Nat.zero_le _⟩
/-- Upd of the head entry (for append_K, setItem_K ..) -/
theorem upd_ledger {h : Heap} {L d : Addr} {o o' : Obj} : Upd d o o' ((d, o) :: ledger h L d) ((d, o') :: ledger h L d) :=
  .head fun ⟨_, _⟩ hp => (mem_ledger.mp hp).2.1

/-- x.name = v over any heap: L is any namespace of the heap (the frame's, say): its map stays, its object is not told; all else but the dict stays -/
theorem set_field {x C dx L : Addr} {ox : Obj} {m : Str → Option Value} {es es' : List DictEntry} {n n' : Nat} {name : Str} {v : Value} {Q : Unit → Shared → Prop}
    (X : K.In s.heap) (I : PySem.W.InstAt s.heap x ox C (some (dictOf es n))) (hd : ox.dict = some dx) (hL : s.heap.Ns L m) (hne : dx ≠ L)
    (hs : findIn K (.ref C) "__setattr__" = some (some (.builtin "object.__setattr__"))) (hp : plainOver K C = true) (ht : takerIn K C name = some none) (hh : hasDictIn K C = true) (hl : (getL name es).isSome = true)
    (e : (putL name (PyData.keyHash w.params name) (.str name (s.toks + 1)) v es, putN name es n) = (es', n')) (hz : es'.length ≤ 1000)
    (h : ∀ h' : Heap, h'.Ns L m → h'.get? dx = some (dictOf es' n') → (∀ b o, b ≠ dx → b ≠ L → s.heap.get? b = some o → h'.get? b = some o) → Q () { s with heap := h', toks := s.toks + 2 }) :
    wpAny (model prog w) A (setAttr (.ref x) name v) Q E s := by
  obtain ⟨e1, e2⟩ := Prod.mk.inj e
  have hdx : s.heap.get? dx = some (dictOf es n) := by
    have := I.dict
    rw [hd] at this
    exact this
  refine set_plain X I hs (osa_dict (s := { s with toks := s.toks + 1 }) (h₀ := noObjs s.heap) (L := L) (m := m) (od := dictOf es n) (od' := dictOf es' n') (es := es') (n := n') (pre := []) (post := ledger s.heap L dx)
    (fr_all hL) (news_ledger hne hdx) X I hd hp ht hh hl (fun _ q => nomatch q) (fun ⟨_, _⟩ q => (mem_ledger.mp q).2.1) (by rw [putName_dict, e1, e2]) rfl hz fun h' F' N' => ?_)
  exact h h' F'.ns (N'.get (List.Mem.head _)) fun b o n1 n2 ho => N'.get (List.Mem.tail _ (mem_ledger.mpr ⟨n2, n1, ho⟩))
end
end Att

namespace L2
open PySem PySem.Spec PyProof.Rows

theorem vals_ints : ∀ {vs : List Value} {ns : List Int}, IntsAre vs ns → Vals (ns.map V.int) vs
  | _, _, .nil => .nil
  | _, _, .cons n t h => .cons ⟨t, rfl⟩ (vals_ints h)

/-- nothing is tracked but the script, known to the object (or it is an object of the module) -/
def Only (H : Hp) : Prop := ∀ b, H b = none ∨ ∃ o xs, H b = some (.frz o (.lst xs))

/-- THE HEAD: the law's promise, at the heap behind the top. F, the promise of the law's def, may use that base is part of the heap (so K.In base, base.Ns mainGlobals mg stand in Mod) -/
theorem law_call {P : Program} {w : World} {K : PySem.W.Frag} {mg mb : Str → Option Value} {CX : CXT} {k : Nat} {fa a : Addr} {fd : FuncData} {x : Str} {sp : Sp} {s₁ : Shared} {vs : List Value} {ns : List Int}
    (KX : K.In s₁.heap) (hns : s₁.heap.Ns mainGlobals mg) (hb : s₁.heap.Ns builtinsNs mb) (hbb : ∀ x : Str, x ≠ "__name__" → mb x = bootBuiltins x) (hlim : s₁.heap.NoLimit) (hg : s₁.gens = #[])
    (ha : s₁.heap.get? a = some { cls := .type "list", data := .seq vs.toArray }) (hi : IntsAre vs ns) (hl : ns.length ≤ sizeLine) (hr : Room k callerA)
    (F : ∀ base : Heap, K.In base → base.Ns mainGlobals mg → FnOk P w K mg base CX k fa fd [x] sp) (hbind : ∀ (s : Shared) (u : Value), BindsTo s fd ⟨[u], []⟩ [(x, u)])
    (hsp : ∀ H : Hp, Only H → SqL K H a (ns.map V.int) → sp [.ref a] H (fun v _ => v = .bl true) fun _ _ _ => False)
    (hCX : ∀ H e s', CX [] H s₁ (fun _ _ _ => False) e s' → False) :
    codeAny (model P w) callerA (.call (.ref fa) ⟨[.ref a], []⟩) (fun r s' => r = .ok (.ret (.bool true)) ∧ OldK s₁.heap s'.heap ∧ s'.os = s₁.os ∧ AllBare s'.gens) s₁ := by
  have rv := vals_ints hi
  have lenV := hi.length
  -- from an abstract heap in which nothing but the script may be tracked
  have core : ∀ H : Hp, Only H → SqL K H a (ns.map V.int) → HOk P w H s₁.heap → (∀ b, H b ≠ none → b = a) → (H a ≠ none → K.lookup a = none) →
      codeAny (model P w) callerA (.call (.ref fa) ⟨[.ref a], []⟩) (fun r s' => r = .ok (.ret (.bool true)) ∧ OldK s₁.heap s'.heap ∧ s'.os = s₁.os ∧ AllBare s'.gens) s₁ := by
    intro H hO hS hok hA hK
    have base_of : ∀ {b : Addr} {o : Obj}, s₁.heap.get? b = some o → H b = none → (hidT s₁.heap H).get? b = some o := fun e n => hidT_get e n
    have noA : ∀ {b : Addr} {o : Obj} {es : Array DictEntry} {ep : Nat}, s₁.heap.get? b = some o → o.data = .dict es ep → H b = none := fun {b o es ep} e d => by
      cases q : H b with
      | none => rfl
      | some u =>
        have e' : b = a := hA b (by rw [q]; simp)
        subst e'
        rw [ha] at e; cases e
        have d' : Data.seq vs.toArray _ = Data.dict es ep := d
        cases d'
    have nsK : ∀ {b : Addr} {m : Str → Option Value}, s₁.heap.Ns b m → (hidT s₁.heap H).Ns b m := fun {b m} ⟨o, es, ep, e, d, r⟩ => ⟨o, es, ep, base_of e (noA e d), d, r⟩
    have hKb : K.In (hidT s₁.heap H) := fun b o e => base_of (KX b o e) (by
      cases q : H b with
      | none => rfl
      | some u =>
        have e' : b = a := hA b (by rw [q]; simp)
        subst e'
        rw [hK (by rw [q]; simp)] at e; cases e)
    have hM : Mod K mg (hidT s₁.heap H) := ⟨hKb, nsK hns, ⟨mb, nsK hb, hbb⟩, let ⟨mc, h1, h2⟩ := hlim; ⟨mc, nsK h1, h2⟩⟩
    have e0 : Env0 P w K mg (hidT s₁.heap H) callerA [] s₁ H := ⟨rfl, hM, fun b o e => of_hidT e, Nat.le_of_eq (hidT_size _ _), trivial, fun b hb => absurd (show b ∈ ([] : List Addr) from hb) (by simp), hok, .of_eq hg⟩
    refine codeAny_mono ((F _ hKb (nsK hns)).run callerA [] s₁ H ⟨[.ref a], []⟩ [.ref a] [.ref a] _ _ hr e0 (hbind s₁ (.ref a)) (.cons rfl .nil) (hsp H hO hS)) fun r s' h => ?_
    cases r with
    | error e => exact (hCX H e s' h).elim
    | ok fl =>
      cases fl with
      | next => exact False.elim h
      | brk => exact False.elim h
      | cont => exact False.elim h
      | ret u =>
        obtain ⟨v, H', os, bare, un, hok', r', q⟩ := h
        have q' : v = .bl true := q
        subst q'
        obtain rfl : u = Value.bool true := r'
        refine ⟨rfl, OldK.of_keep fun b o e => ?_, os, bare⟩
        cases q : H b with
        | none => exact un.keep b o e q (by intro z; exact absurd (show b ∈ ([] : List Addr) from z) (by simp)) (by simp)
        | some u =>
          rcases hO b with z | ⟨ob, xs, z⟩
          · rw [q] at z; cases z
          · have z2 := un.frzs b ob _ z
            obtain ⟨e1, _⟩ := hok b _ z
            obtain ⟨e2, _⟩ := hok' b _ z2
            rw [e] at e1; cases e1
            exact e2
  cases hk : K.lookup a with
  | some o =>
    -- the script is one of the module's own objects
    have e := KX a o hk
    rw [ha] at e
    cases e
    refine core (fun _ => none) (fun _ => .inl rfl) (.inr ⟨_, vs.toArray, _, hk, rfl, rfl, rfl, by rw [List.size_toArray, lenV]; exact hl, by simpa using rv⟩) (fun b u z => by have z' : (none : Option HO) = some u := z; cases z') (fun b z => absurd rfl z) fun z => absurd rfl z
  | none =>
    refine core (fun b => if b = a then some (.frz { cls := .type "list", data := .seq vs.toArray } (.lst (ns.map V.int))) else none) (fun b => ?_) (.inl (.inr ⟨{ cls := .type "list", data := .seq vs.toArray }, if_pos rfl⟩)) (fun b u z => ?_) (fun b z => ?_) fun _ => hk
    · by_cases hb : b = a
      · exact .inr ⟨_, _, if_pos hb⟩
      · exact .inl (if_neg hb)
    · by_cases hb : b = a
      · have z' := (if_pos hb).symm.trans z
        cases z'
        subst hb
        exact ⟨ha, by rw [List.length_map]; exact hl, vs, _, rv, ha⟩
      · have z' := (if_neg hb).symm.trans z
        cases z'
    · by_cases hb : b = a
      · exact hb
      · exact absurd (if_neg hb) z
end L2

namespace L2
open PySem PySem.Spec PyProof.Rows

abbrev KOf {K : PySem.W.Frag} {h : Heap} (_ : K.In h) : PySem.W.Frag := K

/-- the goal that k_head leaves (case hc), from the law's promise. F gives the function object fd (K's own) once, then the promise over every base -/
theorem walk_of {l : PySem.W.OpenLaw} {n k : Nat} {q : Program} {loose : List Str} {XP : (Str → Option Value) → Heap → Prop} {YP : World → Heap → Prop} {d : DefRec} {K : Params → PySem.W.Frag} {CX : World → CXT} {sp : World → Sp} {x : Str}
    (hn : l.most = some n) (hn2 : n ≤ sizeLine) (hdf : d.params.defaults = []) (hr : Room k callerA)
    (hY : ∀ (w : World) (h : Heap), YP w h → (K w.params).In h)
    (F : ∀ (w : World) (mg : Str → Option Value) (fa : Addr) (h : Heap), (K w.params).In h → h.Ns mainGlobals mg → mg d.name = some (.ref fa) →
      ∃ fd : FuncData, (∀ (s : Shared) (u : Value), BindsTo s fd ⟨[u], []⟩ [(x, u)]) ∧
        ∀ base : Heap, (K w.params).In base → base.Ns mainGlobals mg → FnOk l.prog w (K w.params) mg base (CX w) k fa fd [x] (sp w))
    (hsp : ∀ (w : World) (H : Hp) (a : Addr) (ns : List Int), ns.length ≤ n → Only H → SqL (K w.params) H a (ns.map V.int) → sp w [.ref a] H (fun v _ => v = .bl true) fun _ _ _ => False)
    (hCX : ∀ (w : World) (H : Hp) (s : Shared) (e : Value) (s' : Shared), CX w [] H s (fun _ _ _ => False) e s' → False) :
    PySem.W.WalkO q loose XP YP l.row.toRowW d [] (fun f vs => PySem.call f vs) := by
  refine Att.attach_call hn hdf fun w s₀ s₁ mg mb fa o pm cd doc a vs ns G Y ho hd hcd hmg hobj hints hlen hg => ?_
  have KX := hY w _ Y
  obtain ⟨fd, hb, hF⟩ := F w mg fa _ KX G.T.g hmg
  exact law_call KX G.T.g G.T.b G.T.builtins G.T.nolimit hg hobj hints (Nat.le_trans hlen hn2) hr hF hb (fun H hO hS => hsp w H a ns hlen hO hS) fun H e s' => hCX w H s₁ e s'
/-- the same where the promise hangs on the written part alone: (sp := My.sp_law), no hole under a binder -/
theorem walk_ofK {l : PySem.W.OpenLaw} {n k : Nat} {q : Program} {loose : List Str} {XP : (Str → Option Value) → Heap → Prop} {YP : World → Heap → Prop} {d : DefRec} {K : Params → PySem.W.Frag} {CX : CXT} {sp : PySem.W.Frag → Sp} {x : Str}
    (hn : l.most = some n) (hn2 : n ≤ sizeLine) (hdf : d.params.defaults = []) (hr : Room k callerA)
    (hY : ∀ (w : World) (h : Heap), YP w h → (K w.params).In h)
    (F : ∀ (w : World) (mg : Str → Option Value) (fa : Addr) (h : Heap), (K w.params).In h → h.Ns mainGlobals mg → mg d.name = some (.ref fa) →
      ∃ fd : FuncData, (∀ (s : Shared) (u : Value), BindsTo s fd ⟨[u], []⟩ [(x, u)]) ∧
        ∀ base : Heap, (K w.params).In base → base.Ns mainGlobals mg → FnOk l.prog w (K w.params) mg base CX k fa fd [x] (sp (K w.params)))
    (hsp : ∀ (K : PySem.W.Frag) (H : Hp) (a : Addr) (ns : List Int), ns.length ≤ n → Only H → SqL K H a (ns.map V.int) → sp K [.ref a] H (fun v _ => v = .bl true) fun _ _ _ => False)
    (hCX : ∀ (H : Hp) (s : Shared) (e : Value) (s' : Shared), CX [] H s (fun _ _ _ => False) e s' → False) :
    PySem.W.WalkO q loose XP YP l.row.toRowW d [] (fun f vs => PySem.call f vs) :=
  walk_of (K := K) (CX := fun _ => CX) (sp := fun w => sp (K w.params)) hn hn2 hdf hr hY F (fun w H a ns h1 h2 h3 => hsp (K w.params) H a ns h1 h2 h3) fun _ H s e s' => hCX H s e s'
end L2

/- THE LAST THEOREM (shape; LID, My.* are yours):
   My.Adr: a structure of the addresses that your layer names (classes, functions); My.Txt K t: a structure (Prop) of the equations over K;
   My.txt_mk : {K} {implicit addresses ..} (e1 : nsIn K mainGlobals "law" = some (some (.ref f))) (e2 : K.lookup f = some ⟨oc, od, .func (fnOf "law" "law" params body scope dV kV doc pm an cdv ct), sl⟩) (e3 : codeIn K cdv "law" = true) .. : ∃ t, My.Txt K t

set_option maxRecDepth 100000 in
set_option maxHeartbeats 0 in
theorem PySem.Challenge.cw_LID_holds : PySem.Challenge.rw_LID.Holds := by
  w_on; o_law; k_head; (case hw => w_witness2)
  k_fill
  refine L2.walk_of (l := PySem.Challenge.rw_LID) (n := 63) (k := 40) (x := "script") (CX := fun w => ..) (sp := fun _ => My.sp_law) rfl (by decide) rfl ⟨rfl, by decide, by decide⟩ (fun w h Y => PySem.W.kIn_of Y) ?F ?S ?C
  case F =>
    intro w mg fa h KX G hmg
    have T : ∃ t, My.Txt (L2.KOf KX) t := by
      dsimp only [L2.KOf]                          -- K must stand as «<heap const> w.params» for k_is
      refine' My.txt_mk ?e1 ?e2 ?e3 ..
      (case e1 => PySem.W.k_is)                    -- in the order: a name -> its address -> its object -> its parts
      (case e2 => PySem.W.k_is)
      ..
    obtain ⟨t, T⟩ := T
    have e0 := hmg.symm.trans (PySem.W.mg_of KX G T.law)
    cases e0                                       -- fa is the law's own address
    exact ⟨_, fun s u => .of_eq rfl, fun base kb nb => My.law_fn T kb nb⟩     -- if «.of_eq rfl» comes too early: refine' ⟨_, ?b, fun base kb nb => My.law_fn T kb nb⟩; exact fun s u => .of_eq rfl
  case S => exact fun w H a ns hl hO hS => ..
  case C => exact ..
(the tactic k_is has no namespace: write k_is) -/

/-! SHORT WORDS over the layer: a def of the text, its body, what a loop and a test want. -/
namespace L2
open PySem PySem.Spec PyProof.Rows

/-! ### the text by places -/
/-- the j-th statement of a class's body -/
def inClass (s : Stmt) (j : Nat) : Stmt := match s with
  | .ClassDef _ _ _ body _ _ _ _ _ _ _ => body.getD j (.Pass ⟨0, 0, 0, 0⟩)
  | _ => .Pass ⟨0, 0, 0, 0⟩
def defArgs (s : Stmt) : Arguments := match s with
  | .FunctionDef _ a _ _ _ _ _ _ _ _ => a
  | _ => { posonlyargs := [], args := [], vararg := none, kwonlyargs := [], kw_defaults := [], kwarg := none, defaults := [] }
def defBody (s : Stmt) : List Stmt := match s with
  | .FunctionDef _ _ b _ _ _ _ _ _ _ => b
  | _ => []
def defScope (s : Stmt) : Scope := match s with
  | .FunctionDef _ _ _ _ _ _ sc _ _ _ => sc
  | _ => { kind := .function, names := [], isGenerator := false, isCoroutine := false }

/-! ### no exception leaves a def -/
abbrev CX0 : CXT := fun _ _ _ _ _ _ => False
abbrev E0 : XK := fun _ _ _ => False
theorem pass0 {X : Cx} : Passes CX0 X E0 := fun _ _ _ _ _ _ _ h => h.elim

/-! ### a def (or method) of the text as it stands behind the top -/
structure Fun (K : PySem.W.Frag) (x qual : Str) (st : Stmt) (f : Addr) (fd : FuncData) : Prop where
  ex : ∃ (oc : Value) (od : Option Addr) (kV doc pm : Value) (an : Option Addr) (cdv ct : Value) (osl : Array (Option Value)),
    fd = PySem.W.fnOf x qual (defArgs st) (defBody st) (defScope st) .none kV doc pm an cdv ct ∧ K.lookup f = some ⟨oc, od, .func fd, osl⟩ ∧ PySem.W.codeIn K cdv qual = true
  kp : PySem.W.keepIn K (.ref f) = true
section
variable {P : Program} {w : World} {K : PySem.W.Frag} {mg : Str → Option Value} {base : Heap}
/-- THE RULE for a def: its body as a term of rules, and the reading of that term -/
theorem Fun.ok {x qual : Str} {st : Stmt} {f : Addr} {fd : FuncData} {N ps : List Str} {k : Nat} {sp : Sp} (F : Fun K x qual st f fd) (S : FnScope N ps (defScope st)) (len : ∀ vs H Q E, sp vs H Q E → vs.length = ps.length)
    (hbody : ∀ (cdv : Value) (A : Around) (outer : List Env) (s : Shared) (H : Hp) (vs : List V) (Q : VK) (E : XK), Room k (A.deeper (envOfC qual (defScope st) s.heap.objs.size f cdv)) → sp vs H Q E →
      ∃ t, PSs (cxOf CX0 P w K mg base N qual (defScope st) f cdv A outer s H E).nox (defBody st) t ∧ t { nx := fun _ H' => Q .non H', rt := Q } (start N vs) H) : FnOk P w K mg base CX0 (k + 1) f fd ps sp := by
  obtain ⟨oc, od, kV, doc, pm, an, cdv, ct, osl, rfl, lk, hcd⟩ := F.ex
  refine fn_of lk hcd S len fun A outer s H vs Q E hr hsp => ?_
  obtain ⟨t, h, q⟩ := hbody cdv A outer s H vs Q E hr hsp
  exact ⟨t, h.nox, q⟩
/-- how its arguments bind (no defaults): h is «fun _ _ _ _ _ _ us hl => match us, hl with | [_, _], _ => rfl», one _ a parameter -/
theorem Fun.binds {x qual : Str} {st : Stmt} {f : Addr} {fd : FuncData} {ps : List Str} (F : Fun K x qual st f fd)
    (h : ∀ (kV doc pm : Value) (an : Option Addr) (cdv ct : Value) (us : List Value), us.length = ps.length → bindArgs (PySem.W.fnOf x qual (defArgs st) (defBody st) (defScope st) .none kV doc pm an cdv ct) ⟨us, []⟩ = pure (ps.zip us)) : Binds K fd ps [] := by
  obtain ⟨oc, od, kV, doc, pm, an, cdv, ct, osl, rfl, lk, hcd⟩ := F.ex
  exact .all (h kV doc pm an cdv ct)
theorem fun_mk {x qual : Str} {st : Stmt} {f : Addr} {oc : Value} {od an : Option Addr} {osl : Array (Option Value)} {kV doc pm cdv ct : Value} (l : K.lookup f = some ⟨oc, od, .func (PySem.W.fnOf x qual (defArgs st) (defBody st) (defScope st) .none kV doc pm an cdv ct), osl⟩)
    (c : PySem.W.codeIn K cdv qual = true) (k : PySem.W.keepIn K (.ref f) = true) : Fun K x qual st f (PySem.W.fnOf x qual (defArgs st) (defBody st) (defScope st) .none kV doc pm an cdv ct) := ⟨⟨oc, od, kV, doc, pm, an, cdv, ct, osl, rfl, l, c⟩, k⟩
end
theorem hu_of {A : Around} {k : Nat} (hr : Room k A) : A.units + 1 < cLine := Nat.lt_of_le_of_lt (Nat.add_le_add_left (by decide : 1 ≤ 64) _) hr.units
theorem small1000 {n : Nat} (h : n ≤ 1000) : n < sizeLine := Nat.lt_of_le_of_lt h (by decide)

/-! ### expressions in short: the name that stands in the i-th slot -/
section
variable {X : Cx}
theorem pv (i : Nat) {x : Str} {pos : Pos} (hN : X.N[i]? = some x := by rfl) (hv : Vis X.env.scope x := by first | exact Or.inl rfl | exact Or.inr (Or.inl rfl) | exact Or.inr (Or.inr rfl)) (hd : (x == ("__debug__" : Str)) = false := by decide)
    (hcd : (x == ("__classdict__" : Str)) = false := by decide) : PE X (.Name x pos) (tVar i) := pe_var hN hv hd hcd
end

/-! ### tests -/
theorem iteF {A B : Prop} (h : B) : if false = true then A else B := by
  rw [if_neg Bool.false_ne_true]
  exact h
theorem iteT {A B : Prop} (h : A) : if true = true then A else B := by
  rw [if_pos rfl]
  exact h
theorem ite2 {c A B : Prop} [Decidable c] (h1 : c → A) (h2 : ¬ c → B) : if c then A else B := by
  by_cases h : c
  · rw [if_pos h]
    exact h1 h
  · rw [if_neg h]
    exact h2 h
theorem iteNS {c A B : Prop} [Decidable c] (hc : c) (h : B) : if (!decide c) = true then A else B := by
  rw [decide_eq_true hc]
  exact iteF h

/-! ### heaps -/
/-- all that was tracked is as it was -/
def Same (H H' : Hp) : Prop := ∀ b o, H b = some o → H' b = some o
theorem Same.refl (H : Hp) : Same H H := fun _ _ h => h
theorem Same.trans {H H1 H2 : Hp} (a : Same H H1) (b : Same H1 H2) : Same H H2 := fun c o h => b c o (a c o h)
theorem Same.free {H H' : Hp} (e : Same H H') {l : Addr} (h : H' l = Option.none) : H l = Option.none := by
  cases q : H l with
  | none => rfl
  | some o =>
    rw [e l o q] at h
    cases h
theorem Same.seq {K : PySem.W.Frag} {H H' : Hp} {a : Addr} {xs : List V} (e : Same H H') (h : SqL K H a xs) : SqL K H' a xs := by
  rcases h with (h | ⟨o, h⟩) | h
  · exact .inl (.inl (e _ _ h))
  · exact .inl (.inr ⟨o, e _ _ h⟩)
  · exact .inr h

end L2

namespace L2
open PySem PySem.Spec PyProof.Rows
section
variable {X : Cx}
theorem call_lenD : CallR X (.builtin "len") (fun xs H Q => ∃ a kvs, xs = [V.ref a] ∧ H a = some (.dK kvs) ∧ Q (.int kvs.length) H) := by
  intro pins s σ H xs us Q I r h
  obtain ⟨a, kvs, rfl, ha, q⟩ := h
  obtain ⟨u, rfl, ru⟩ := vals1 r
  cases ru
  exact d_len I (.inl ha) fun t s' I' => ⟨.int kvs.length, H, I', ⟨t, rfl⟩, q⟩
end
/-! ### a dict's pairs: keys that differ -/
section
variable {κ : Type} [DecidableEq κ]
theorem valV_not {kvs : List (κ × V)} {k : κ} (h : valV kvs k = none) : ¬ k ∈ kvs.map (·.1) := by
  intro m
  obtain ⟨p, hp, e⟩ := List.mem_map.mp m
  have q : (kvs.any fun kv => decide (kv.1 = k)) = true := List.any_eq_true.mpr ⟨p, hp, decide_eq_true e⟩
  rw [valV_any, h] at q
  exact absurd q (by simp)
theorem valV_in {kvs : List (κ × V)} {k : κ} {v : V} (h : valV kvs k = some v) : k ∈ kvs.map (·.1) := by
  have q : (kvs.any fun kv => decide (kv.1 = k)) = true := by
    rw [valV_any, h]
    all_goals rfl
  obtain ⟨p, hp, e⟩ := List.any_eq_true.mp q
  exact List.mem_map.mpr ⟨p, hp, of_decide_eq_true e⟩
theorem nd_snoc : ∀ {l : List κ} {k : κ}, l.Nodup → ¬ k ∈ l → (l ++ [k]).Nodup
  | [], k, _, _ => by simp
  | a :: r, k, h, hk => by
    obtain ⟨h1, h2⟩ := List.nodup_cons.mp h
    show (a :: (r ++ [k])).Nodup
    refine List.nodup_cons.mpr ⟨fun m => ?_, nd_snoc h2 fun m => hk (List.mem_cons.mpr (Or.inr m))⟩
    rcases List.mem_append.mp m with q | q
    · exact h1 q
    · exact hk (List.mem_cons.mpr (Or.inl (List.mem_singleton.mp q).symm))
theorem nd_putK {kvs : List (κ × V)} {k : κ} (v : V) (hn : (kvs.map (·.1)).Nodup) (h : valV kvs k = none) : ((putK kvs k v).map (·.1)).Nodup := by
  rw [putK_new v h, List.map_append]
  exact nd_snoc hn (valV_not h)
theorem dropK_pos {p : κ × V} {r : List (κ × V)} {k : κ} (e : p.1 = k) : dropK (p :: r) k = dropK r k := by
  unfold dropK
  rw [List.filter_cons, if_neg (by simp [e])]
theorem dropK_neg {p : κ × V} {r : List (κ × V)} {k : κ} (e : ¬ p.1 = k) : dropK (p :: r) k = p :: dropK r k := by
  unfold dropK
  rw [List.filter_cons, if_pos (by simp [e])]
theorem dropK_no : ∀ {kvs : List (κ × V)} {k : κ}, ¬ k ∈ kvs.map (·.1) → dropK kvs k = kvs
  | [], _, _ => rfl
  | p :: r, k, h => by
    have h' : ¬ k ∈ r.map (·.1) := fun m => by
      obtain ⟨q, hq, e⟩ := List.mem_map.mp m
      exact h (List.mem_map.mpr ⟨q, List.mem_cons.mpr (Or.inr hq), e⟩)
    rw [dropK_neg fun e => h (List.mem_map.mpr ⟨p, List.mem_cons.mpr (Or.inl rfl), e⟩), dropK_no h']
theorem dropK_mem {kvs : List (κ × V)} {k : κ} {p : κ × V} (h : p ∈ dropK kvs k) : p ∈ kvs := (List.mem_filter.mp h).1
theorem nd_dropK : ∀ {kvs : List (κ × V)} {k : κ}, (kvs.map (·.1)).Nodup → ((dropK kvs k).map (·.1)).Nodup
  | [], _, _ => List.nodup_nil
  | p :: r, k, h => by
    have h : (p.1 :: r.map (·.1)).Nodup := h
    obtain ⟨h1, h2⟩ := List.nodup_cons.mp h
    by_cases e : p.1 = k
    · rw [dropK_pos e]
      exact nd_dropK h2
    · rw [dropK_neg e]
      show (p.1 :: (dropK r k).map (·.1)).Nodup
      refine List.nodup_cons.mpr ⟨fun m => h1 ?_, nd_dropK h2⟩
      obtain ⟨q, hq, eq⟩ := List.mem_map.mp m
      exact List.mem_map.mpr ⟨q, dropK_mem hq, eq⟩
theorem dropK_len : ∀ {kvs : List (κ × V)} {k : κ}, (kvs.map (·.1)).Nodup → k ∈ kvs.map (·.1) → (dropK kvs k).length + 1 = kvs.length
  | [], _, _, m => by simp at m
  | p :: r, k, h, m => by
    have h : (p.1 :: r.map (·.1)).Nodup := h
    have m : k = p.1 ∨ k ∈ r.map (·.1) := List.mem_cons.mp m
    obtain ⟨h1, h2⟩ := List.nodup_cons.mp h
    by_cases e : p.1 = k
    · subst e
      rw [dropK_pos rfl, dropK_no h1]
      all_goals rfl
    · have m' : k ∈ r.map (·.1) := m.resolve_left fun z => e z.symm
      have q := dropK_len h2 m'
      rw [dropK_neg e, List.length_cons, List.length_cons]
      omega
end
end L2
end

section
set_option Elab.async false
set_option linter.all false
set_option maxRecDepth 100000
/-! A list comprehension of one for (a name as its target), with or without a test. -/
namespace L2
open PySem PySem.Spec PyProof.Rows

/-- the comprehension's block, as a context -/
def blk (X : Cx) (scope : Scope) (cl : List (Str × Addr)) (C : Addr) (x : Str) (s₀ : Shared) (H₀ : Hp) (fp : List Addr) : Cx :=
  { X with N := x :: X.N, s₀ := s₀, H₀ := H₀, env := compEnvC scope cl C X.env, outer := X.stack, ex := fp, fn := fun _ => false, pn := [], xe := fun _ _ => False }

structure CompOk (X : Cx) (scope : Scope) (x : Str) : Prop where
  kind : scope.kind = .function
  ncell : ∀ y ∈ scope.names, y.2 ≠ .cell
  names : ∀ y ∈ scope.names, y.2 = .local → scope.names.lookup y.1 = some .local
  hx : scope.names.lookup x = some .local
  free : ∀ y ∈ scope.names, y.2 = .free → X.env.kindOf y.1 = some .cell ∨ X.env.kindOf y.1 = some .free
  out : ∀ y ∈ X.N, scope.names.lookup y ≠ some .local
  nd : X.N.Nodup

def compChk (sc : Scope) (N : List Str) (scope : Scope) (x : Str) : Bool :=
  scope.kind == .function && scope.names.all (fun y => y.2 != .cell) && scope.names.all (fun y => y.2 != .local || scope.names.lookup y.1 == some .local) && scope.names.lookup x == some .local &&
  scope.names.all (fun y => y.2 != .free || sc.names.lookup y.1 == some .cell || sc.names.lookup y.1 == some .free) && N.all (fun y => scope.names.lookup y != some .local)
theorem CompOk.of {X : Cx} {scope : Scope} {x : Str} (hN : X.N.Nodup) (h : compChk X.env.scope X.N scope x = true) : CompOk X scope x := by
  unfold compChk at h
  simp only [Bool.and_eq_true, List.all_eq_true, Bool.or_eq_true, bne_iff_ne, beq_iff_eq, ne_eq] at h
  obtain ⟨⟨⟨⟨⟨h1, h2⟩, h3⟩, h4⟩, h5⟩, h6⟩ := h
  refine ⟨h1, fun y hy => h2 y hy, fun y hy e => (h3 y hy).resolve_left fun z => z e, h4, fun y hy e => ?_, fun y hy => h6 y hy, hN⟩
  rcases h5 y hy with (z | z) | z
  · exact absurd e z
  · exact .inl z
  · exact .inr z

theorem lookup_mem' {α : Type} : ∀ {l : List (Str × α)} {x : Str} {a : α}, l.lookup x = some a → (x, a) ∈ l
  | [], _, _, h => by simp at h
  | (y, b) :: r, x, a, h => by
    rw [List.lookup_cons] at h
    split at h
    · rename_i e
      have e' : x = y := by simpa using e
      cases h; subst e'
      exact List.mem_cons_self
    · exact List.mem_cons_of_mem _ (lookup_mem' h)

/-- what the block closes over -/
theorem closure_ok {env : Env} : ∀ (names : List (Str × NameKind)), (∀ y ∈ names, y.2 = .free → ∃ c, env.cells.lookup y.1 = some c) → ∀ acc : List (Str × Addr), (∀ n c, acc.lookup n = some c → env.cells.lookup n = some c) →
    ∃ cl, (forIn names acc (fun (p : Str × NameKind) (cs : List (Str × Addr)) => if (p.2 == NameKind.free) = true then (do let a ← cellOf env p.1; pure (ForInStep.yield ((p.1, a) :: cs))) else (pure (ForInStep.yield cs) : Sem _)) : Sem (List (Str × Addr))) = pure cl ∧
      (∀ n c, cl.lookup n = some c → env.cells.lookup n = some c) ∧ (∀ n, (∃ c, acc.lookup n = some c) → ∃ c, cl.lookup n = some c) ∧ ∀ n, (n, NameKind.free) ∈ names → ∃ c, cl.lookup n = some c
  | [], _, acc, ha => ⟨acc, by simp, ha, fun _ h => h, fun _ h => by simp at h⟩
  | (n, k) :: r, hf, acc, ha => by
    have hr : ∀ y ∈ r, y.2 = .free → ∃ c, env.cells.lookup y.1 = some c := fun y hy => hf y (List.mem_cons_of_mem _ hy)
    by_cases hk : k = .free
    · subst hk
      obtain ⟨c, hc⟩ := hf (n, .free) List.mem_cons_self rfl
      obtain ⟨cl, e, h1, h2, h3⟩ := closure_ok r hr ((n, c) :: acc) (fun n' c' h => by
        rw [List.lookup_cons] at h
        split at h
        · rename_i q
          have q' : n' = n := by simpa using q
          cases h; subst q'; exact hc
        · exact ha n' c' h)
      refine ⟨cl, ?_, h1, fun n' h => h2 n' ?_, fun n' h => ?_⟩
      · rw [List.forIn_cons]
        simp only [beq_self_eq_true, if_true]
        have e2 : cellOf env n = pure c := by unfold cellOf; rw [hc]
        rw [e2]
        simp only [pure_bind]
        exact e
      · obtain ⟨c', hc'⟩ := h
        rw [List.lookup_cons]
        split
        · exact ⟨c, rfl⟩
        · exact ⟨c', hc'⟩
      · rcases List.mem_cons.mp h with q | q
        · refine h2 n' ⟨c, ?_⟩
          cases q
          rw [List.lookup_cons, beq_self_eq_true]
        · exact h3 n' q
    · have hb : (k == NameKind.free) = false := by simpa using hk
      obtain ⟨cl, e, h1, h2, h3⟩ := closure_ok r hr acc ha
      refine ⟨cl, ?_, h1, h2, fun n' h => ?_⟩
      · rw [List.forIn_cons]
        simp only [hb, Bool.false_eq_true, if_false, pure_bind]
        exact e
      · rcases List.mem_cons.mp h with q | q
        · cases q; exact absurd rfl hk
        · exact h3 n' q

theorem lookup_relabel {env : Env} : ∀ {names : List (Str × NameKind)} {x : Str} {k : NameKind},
    (names.map fun (n, k) => if (k == NameKind.free && env.scope.kind == .function && env.kindOf n == some .cell) then (n, NameKind.cell) else (n, k)).lookup x = some k → names.lookup x = some k ∨ (k = .cell ∧ names.lookup x = some .free)
  | [], _, _, h => by simp at h
  | (n, j) :: r, x, k, h => by
    have ih := @lookup_relabel env r x k
    have h' : List.lookup x ((if (j == NameKind.free && env.scope.kind == .function && env.kindOf n == some .cell) = true then (n, NameKind.cell) else (n, j)) :: _) = some k := h
    by_cases hc : (j == NameKind.free && env.scope.kind == .function && env.kindOf n == some .cell) = true
    · rw [if_pos hc] at h'
      cases hx : x == n with
      | true =>
        simp only [List.lookup_cons, hx] at h' ⊢
        cases h'
        have : j = .free := by simp at hc; exact hc.1.1
        exact .inr ⟨rfl, by rw [this]⟩
      | false => simp only [List.lookup_cons, hx] at h' ⊢; exact ih h'
    · rw [if_neg hc] at h'
      cases hx : x == n with
      | true => simp only [List.lookup_cons, hx] at h' ⊢; exact .inl h'
      | false => simp only [List.lookup_cons, hx] at h' ⊢; exact ih h'

/-- the loop, with the step ahead of the store -/
theorem compLoop_T {prog : Program} {w : World} {A : Around} {R : Result → Shared → Prop} {s : Shared} {elt target iter : Expr} {ifs : List Expr} {scope : Scope} {pos : Pos} {it acc : Value} {env : Env} (I : Nat → Shared → Prop)
    (turn : ∀ n s, I n s → wpAny (model prog w) A (pyNext it) (fun r s₁ => match r with
      | none => R (.ok .next) s₁
      | some v => wpAny (model prog w) A (letOwnedTupleGo target it v) (fun _ s₀ => wpAny (model prog w) A (assign target env v) (fun _ s₂ =>
          wpAny (model prog w) A (forIn ifs true fun c r => if r = true then do let ok ← isTrue c env (eval c env); pure (ForInStep.yield ok) else pure (ForInStep.yield r)) (fun ok s₃ =>
            if ok = true then wpAny (model prog w) A (eval elt env) (fun x s₄ =>
              wpAny (model prog w) A (call (.builtin "list.append") [acc, x]) (fun _ s₅ => ∃ m, m < n ∧ I m s₅) (fun _ _ => False) s₄) (fun _ _ => False) s₃
            else ∃ m, m < n ∧ I m s₃) (fun _ _ => False) s₂) (fun _ _ => False) s₀) (fun _ _ => False) s₁) (fun _ _ => False) s)
    (n : Nat) (h : I n s) :
    codeAny (model prog w) A (.compLoop (.ListComp elt [⟨target, iter, ifs, 0⟩] scope pos) 0 it acc env) R s := by
  refine codeAny_loop rfl I (fun n s hI => ?_) n h
  show wpAny _ A ((compTurn (.ListComp elt [⟨target, iter, ifs, 0⟩] scope pos) 0 it acc env).onRaise (fun x => do noteFrame x env; theTreesLotGoes x)) _ _ s
  refine wpAny_noted ?_
  rw [compTurn_list]
  refine wpAny_bind (wpAny_standAt (wpAny_bind (wpAny_mono (turn n s hI) (fun r s₁ h₁ => ?_) fun _ _ h' => h'.elim)))
  cases r with
  | none => exact wpAny_pure h₁
  | some v =>
    refine wpAny_bind (wpAny_mono h₁ (fun _ s₀ h₀ => ?_) fun _ _ h' => h'.elim)
    refine wpAny_bind (wpAny_mono h₀ (fun _ s₂ h₂ => wpAny_bind (wpAny_mono h₂ (fun ok s₃ h₃ => ?_) fun _ _ h' => h'.elim)) fun _ _ h' => h'.elim)
    cases ok with
    | false => exact wpAny_pure ⟨rfl, h₃⟩
    | true =>
      exact wpAny_bind (wpAny_bind (wpAny_mono h₃ (fun x s₄ h₄ => wpAny_bind (wpAny_mono h₄ (fun _ s₅ h₅ => wpAny_pure (wpAny_pure ⟨rfl, h₅⟩)) fun _ _ h' => h'.elim)) fun _ _ h' => h'.elim))

/-- the tests of a comprehension -/
def PTs (X : Cx) (ifs : List Expr) (t : TT) : Prop :=
  ∀ (pins : List (Addr × Obj)) (s : Shared) (σ : St) (H : Hp) (Q : Bool → Hp → Prop), Inv X pins σ H s → t σ H Q →
    wpAny (model X.prog X.w) X.A (forIn ifs true fun c r => if r = true then do let ok ← isTrue c X.env (eval c X.env); pure (ForInStep.yield ok) else pure (ForInStep.yield r)) (TP X pins σ Q) X.xe s
def tYes : TT := fun _ H Q => Q true H
theorem pts_nil {X : Cx} : PTs X [] tYes := fun _ _ _ H _ I h => wpAny_tests_nil ⟨H, I, h⟩
theorem pts_one {X : Cx} {c : Expr} {t : TT} (h : PT X c t) : PTs X [c] t := fun pins s σ H Q I q => wpAny_tests_one (h pins s σ H Q I q)

/-- the reading of a comprehension: D is the new list's place -/
def tComp (wi : TI) (tt : TT) (te : TE) : TE := fun σ H Q => wi σ H fun J H1 => ∀ D, H1 D = none → ∃ W : Nat → Nat → List V → Hp → Prop, (∃ m, W 0 m [] (upd H1 D (.lst []))) ∧
  ∀ i m ys H, W i m ys H → (J.stop i H ∧ Q (.ref D) H) ∨ (J.go i H ∧ ∀ x H', J.yld i H x H' → tt (some x :: σ) H' fun b H2 =>
    if b = true then te (some x :: σ) H2 fun y H3 => H3 D = some (.lst ys) ∧ ys.length < sizeLine ∧ ∃ m', m' < m ∧ W (i + 1) m' (ys ++ [y]) (upd H3 D (.lst (ys ++ [y])))
    else ∃ m', m' < m ∧ W (i + 1) m' ys H2)

theorem pe_comp {X : Cx} {elt iter : Expr} {x : Str} {px : Pos} {ifs : List Expr} {scope : Scope} {pos : Pos} {wi : TI} {tt : TT} {te : TE} (hc : X.calm = true) (ok : CompOk X scope x) (hi : PI X (.Name x px) iter wi)
    (ht : ∀ cl C s₀ H₀ fp, PTs (blk X scope cl C x s₀ H₀ fp) ifs tt) (he : ∀ cl C s₀ H₀ fp, PE (blk X scope cl C x s₀ H₀ fp) elt te)
    (hs : ∀ x, foldedSetIterable iter X.env x = pure x := by intro _; rfl) : PE X (.ListComp elt [⟨.Name x px, iter, ifs, 0⟩] scope pos) (tComp wi tt te) := by
  intro pins s σ H Q I h
  obtain ⟨cl, hcl, hsub, _, hall⟩ := closure_ok (env := X.env) scope.names (fun y hy e => I.ok.has y.1 (ok.free y hy e)) [] (fun _ _ z => by simp at z)
  have hclos : closureFor scope X.env = pure cl := by
    unfold closureFor
    simp only [bind_pure]
    exact hcl
  rw [eval_ListComp]
  refine wpAny_comprehension_free (use := none) (E := X.xe) (cl := cl) rfl hs hclos ok.kind ok.names (thn (hi pins s σ H _ I h) fun v s1 h1 => thn h1 fun itv s2 h2 => ?_)
  obtain ⟨it, fp, tn, J, H2, e, I2, T, st2, f2, R⟩ := h2
  subst e
  obtain ⟨W, ⟨m0, w0⟩, turn⟩ := R s2.heap.objs.size I2.fresh
  refine wpAny_newObj_type (wpAny_newFunctionEnv ok.ncell (by intro y hy; simp at hy) (fun h₁ hns₁ hsb₁ => ?_) ok.kind)
  dsimp only at hns₁ hsb₁ ⊢
  have I3 : Inv X pins σ (upd H2 s2.heap.objs.size (.lst [])) { s2 with heap := s2.heap.push { cls := .type "list", data := .seq ([] : List Value).toArray } } := I2.lnew (t' := s2.toks) (ys := []) (its := []) .nil (Nat.zero_le _)
  generalize hH3 : upd H2 s2.heap.objs.size (HO.lst []) = H3 at *
  generalize hs3 : s2.heap.push { cls := .type "list", data := .seq ([] : List Value).toArray } = hp3 at *
  generalize hD : s2.heap.objs.size = D at *
  generalize hC : hp3.objs.size = C at *
  have hDC : D < C := by rw [← hC, ← hs3, Heap.size_push, hD]; exact Nat.lt_succ_self _
  have old : ∀ b o, hp3.get? b = some o → h₁.get? b = some o := fun b o e => (hsb₁.2 b (by rw [← hC]; exact Nat.ne_of_lt (Heap.lt_size e))).trans (Heap.get?_push_of_some _ e)
  have fpl : ∀ b ∈ fp, b < C := fun b hb => by
    obtain ⟨o, e, _⟩ := T.obj _ _ st2 b hb
    rw [← hC, ← hs3, Heap.size_push]
    exact Nat.lt_succ_of_lt (Heap.lt_size e)
  have f3 : ∀ b ∈ fp, FpOk X pins H3 b := fun b hb => by
    obtain ⟨o, e, _⟩ := T.obj _ _ st2 b hb
    refine ⟨?_, (f2 b hb).2⟩
    rw [← hH3, upd_ne (by rw [← hD]; exact Nat.ne_of_lt (Heap.lt_size e))]
    exact (f2 b hb).1
  have nstk : ∀ b ∈ fp, b ∉ frs X.stack := fun b hb z => by
    obtain ⟨_, g1, g2, _⟩ := f3 b hb
    rcases List.mem_cons.mp (I3.stkSub b z) with q | q
    · exact g1 q
    · exact g2 q
  -- the block's context
  have YOk : (blk X scope cl C x { s2 with heap := hp3 } H3 fp).Ok := by
    refine ⟨I.ok.mod, ?_, I.ok.glob, I.ok.blt, Nat.le_of_eq hC, ?_, ?_, ?_, I.ok.hd, I.ok.frames, .inl rfl, ?_, ?_, ?_, ?_, ?_, ?_, ?_⟩
    · exact ok.kind
    · exact fun a b c h1 h2 => I.ok.inj a b c (hsub a c h1) (hsub b c h2)
    · intro a ha
      refine hall a ?_
      rcases ha with z | z
      · rcases lookup_relabel (env := X.env) z with q | ⟨_, q⟩
        · exact absurd rfl (ok.ncell _ (lookup_mem' q))
        · exact lookup_mem' q
      · rcases lookup_relabel (env := X.env) z with q | ⟨q, _⟩
        · exact lookup_mem' q
        · cases q
    · intro a c hf; cases hf
    · intro b hb
      refine ⟨Nat.ne_of_lt (fpl b hb), fun a c h1 => (f3 b hb).2.2.2.2.1 a c (hsub a c h1)⟩
    · exact I3.bs
    · exact Nat.le_trans I.ok.bsz I3.sz
    · intro b o e hb
      rcases (f3 b hb).2.2.2.1 with z | z
      · exact I.ok.noex b o e z
      · exact absurd (Nat.lt_of_lt_of_le (Heap.lt_size e) (Nat.le_trans I.ok.bsz z)) (Nat.lt_irrefl _)
    · exact nstk
    · exact I3.stack
    · exact I3.stkFree
  have Y0 : Inv (blk X scope cl C x { s2 with heap := hp3 } H3 fp) [] (none :: σ) H3 { s2 with heap := h₁, toks := s2.toks + ([] : List (Str × Value)).length } := by
    refine ⟨YOk, rfl, I3.bare, Un.kept old, ⟨_, hns₁, ?_⟩, ?_, ?_, ?_, fun p hp => by simp [blk] at hp, I3.hok.kept old, ?_⟩
    · intro i y v e1 e2 e3
      cases i with
      | zero => simp at e2
      | succ i =>
        have e1' : X.N[i]? = some y := by simpa [blk] using e1
        have e2' : σ[i]? = some (some v) := by simpa using e2
        have hy : y ∈ X.N := List.mem_of_getElem? e1'
        have hfree : (y, NameKind.free) ∈ scope.names := by
          have key : ∀ k, (relabel scope X.env).names.lookup y = some k → k ≠ .local → k = .cell ∨ k = .free → (y, NameKind.free) ∈ scope.names := fun k q n hk => by
            rcases lookup_relabel (env := X.env) q with z | ⟨_, z⟩
            · rcases hk with rfl | rfl
              · exact absurd rfl (ok.ncell _ (lookup_mem' z))
              · exact lookup_mem' z
            · exact lookup_mem' z
          rcases e3 with z | z | z
          · rcases lookup_relabel (env := X.env) z with q | ⟨q, _⟩
            · exact absurd q (ok.out y hy)
            · cases q
          · exact key _ z (by decide) (.inl rfl)
          · exact key _ z (by decide) (.inr rfl)
        have hk := ok.free _ hfree rfl
        obtain ⟨m, hn, hl⟩ := I3.loc
        obtain ⟨u, r, q⟩ := hl i y v e1' e2' (by rcases hk with z | z; exact .inr (.inl z); exact .inr (.inr z))
        refine ⟨u, r, .inr ⟨?_, ?_⟩⟩
        · rcases e3 with z | z | z
          · rcases lookup_relabel (env := X.env) z with q | ⟨q, _⟩
            · exact absurd q (ok.out y hy)
            · cases q
          · exact .inl z
          · exact .inr z
        · rcases q with ⟨z, _⟩ | ⟨_, c, hc', hcell⟩
          · rcases hk with q | q <;> (rw [z] at q; cases q)
          · obtain ⟨c', hc2⟩ := hall y hfree
            have : c' = c := by have := hsub y c' hc2; rw [hc'] at this; exact (Option.some.inj this).symm
            subst this
            obtain ⟨o, ho, hd⟩ := hcell
            exact ⟨c', hc2, o, old _ _ ho, hd⟩
    · intro a c h1
      obtain ⟨v, o, ho, hd⟩ := I3.cell a c (hsub a c h1)
      exact ⟨v, o, old _ _ ho, hd⟩
    · show H3 C = none
      exact I3.hok.fresh (Nat.le_of_eq hC)
    · exact fun a c h1 => I3.freeC a c (hsub a c h1)
    · show (none :: σ).length = (x :: X.N).length
      rw [List.length_cons, List.length_cons, I.len]
  -- behind the block
  have back : ∀ (s' : Shared) (v : Option V) (H' : Hp) (h' : Heap), Inv (blk X scope cl C x { s2 with heap := hp3 } H3 fp) [] (v :: σ) H' s' → Heap.SameBut C s'.heap h' → (∀ b ∈ fp, H' b = none) → Inv X pins σ H' { s' with heap := h' } := by
    intro s' v H' h' I' sb fr
    have neC : ∀ b o, hp3.get? b = some o → b ≠ C := fun b o e => by rw [← hC]; exact Nat.ne_of_lt (Heap.lt_size e)
    have U : Un (frs X.stack) fp H3 H' hp3 s'.heap := I'.base
    refine I3.call' (ch := fp) (H' := H') (s' := { s' with heap := h' }) I'.os ⟨fun b o e n h1 h2 => (sb.2 b (neC b o e)).trans (U.keep b o e n h1 h2), fun b o e n h1 h2 => ?_, U.free, fun b o e h2 => ?_, U.tups, U.frzs, U.tbls⟩ (fun b ob e => ?_) I'.bare fun b hb => ?_
    · obtain ⟨sl, q⟩ := U.slot b o e n h1 h2
      exact ⟨sl, (sb.2 b (neC b o e)).trans q⟩
    · obtain ⟨o', q⟩ := U.there b o e h2
      exact ⟨o', (sb.2 b (neC b o e)).trans q⟩
    · have fC : H' C = none := I'.free
      refine (I'.hok b ob e).stay (fun c w' hc q => (sb.2 c ?_).trans q) (fun _ q => q) fun _ _ q => q
      rintro rfl
      rcases hc with rfl | hc
      · rw [fC] at e; cases e
      · rw [fC] at hc; cases hc
    · obtain ⟨_, g1, _, g3, g4, g5⟩ := f3 b hb
      exact ⟨g3, g1, g4, g5⟩
  have stat : ∀ {H' : Hp}, (∀ b ∈ fp, H' b = none) → ∀ b ∈ fp, FpOk (blk X scope cl C x { s2 with heap := hp3 } H3 fp) [] H' b := fun hn b hb =>
    ⟨hn b hb, Nat.ne_of_lt (fpl b hb), nstk b hb, .inl hb, fun a c h1 => (f3 b hb).2.2.2.2.1 a c (hsub a c h1), fun p hp => by simp [blk] at hp⟩
  have st₁ : tn 0 h₁ := T.keep _ _ _ st2 fun b _ o e => old b o (by rw [← hs3]; exact Heap.get?_push_of_some _ e)
  have loop : codeAny (model X.prog X.w) X.A (.compLoop (.ListComp elt [⟨.Name x px, iter, ifs, 0⟩] scope pos) 0 (.ref it) (.ref D) (compEnvC scope cl C X.env)) (compPost (model X.prog X.w) X.A X.xe none (EP X pins σ Q) (.ref D) C)
      { s2 with heap := h₁, toks := s2.toks + ([] : List (Str × Value)).length } := by
    refine compLoop_T (fun n s' => ∃ i v ys H', Inv (blk X scope cl C x { s2 with heap := hp3 } H3 fp) [] (v :: σ) H' s' ∧ tn i s'.heap ∧ (∀ b ∈ fp, H' b = none) ∧ W i n ys H') ?_ m0 ⟨0, none, [], H3, Y0, st₁, fun b hb => (f3 b hb).1, w0⟩
    rintro n s4 ⟨i, v, ys, H4, I4, st4, fr4, w4⟩
    rcases turn i n ys H4 w4 with ⟨stop, qn⟩ | ⟨go, step⟩
    · refine thn (T.done (blk X scope cl C x { s2 with heap := hp3 } H3 fp) rfl rfl rfl hc i [] s4 (v :: σ) H4 _ I4 (stat fr4) st4 stop) fun r s5 ⟨hr, I5⟩ => ?_
      subst hr
      obtain ⟨m, hn, _⟩ := id I5.loc
      exact ⟨m, hn, fun h' sb => ⟨.ref D, H4, back s5 v H4 h' I5 sb fr4, rfl, qn⟩⟩
    · refine thn (T.item (blk X scope cl C x { s2 with heap := hp3 } H3 fp) rfl rfl rfl hc i [] s4 (v :: σ) H4 _ I4 (stat fr4) st4 go) fun r s5 ⟨u, hr, h5⟩ => ?_
      subst hr
      refine thn h5 fun _ s6 ⟨y, H6, I6, r6, y6, st6, fr6⟩ => ?_
      have I6' := I6.pinned (stat fr6) (T.obj _ _ st6)
      refine wpAny_assign_Name (store_ok (X := blk X scope cl C x { s2 with heap := hp3 } H3 fp) (i := 0) I6' ?_ rfl (.inl (lookup_relabel_local ok.hx)) r6 (fun s7 I7 => ?_) (.inr (lookup_relabel_local ok.hx)))
      · show (x :: X.N).Nodup
        exact List.nodup_cons.mpr ⟨fun z => ok.out x z ok.hx, ok.nd⟩
      have I7' : Inv (blk X scope cl C x { s2 with heap := hp3 } H3 fp) _ (some y :: σ) H6 s7 := I7
      refine thn (ht cl C { s2 with heap := hp3 } H3 fp _ s7 _ H6 _ I7' (step y H6 y6)) fun b s8 ⟨H8, I8, q8⟩ => ?_
      have keepIt : ∀ {σ' : St} {H' : Hp} {s' : Shared}, Inv (blk X scope cl C x { s2 with heap := hp3 } H3 fp) ([] ++ pinsAt fp s6.heap) σ' H' s' → tn (i + 1) s'.heap ∧ ∀ b ∈ fp, H' b = none := fun {σ' H' s'} I9 => by
        refine ⟨T.keep _ _ _ st6 fun b hb o e => (I9.pin (b, o) (List.mem_append_right _ (List.mem_append_right _ (mem_pinsAt hb e)))).1, fun b hb => ?_⟩
        obtain ⟨o, e, d⟩ := T.obj _ _ st6 b hb
        exact (I9.pin (b, o) (List.mem_append_right _ (List.mem_append_right _ (mem_pinsAt hb e)))).2.1
      cases b with
      | false =>
        obtain ⟨m', hm, w'⟩ := q8
        obtain ⟨k1, k2⟩ := keepIt I8
        exact ⟨m', hm, i + 1, some y, ys, H8, I8.unpinned, k1, k2, w'⟩
      | true =>
        have q8' : te (some y :: σ) H8 _ := q8
        show wpAny _ _ (eval elt _) _ _ _
        refine thn (he cl C { s2 with heap := hp3 } H3 fp _ s8 _ H8 _ I8 q8') fun z s9 ⟨zv, H9, I9, r9, hD9, hz9, m', hm, w'⟩ => ?_
        refine thn (mt_append (X := blk X scope cl C x { s2 with heap := hp3 } H3 fp) _ s9 _ H9 (.ref D) [zv] (.ref D) [z] (fun _ H' => H' = upd H9 D (.lst (ys ++ [zv]))) I9 rfl (.cons r9 .nil) ⟨D, ys, zv, rfl, rfl, hD9, hz9, rfl⟩) fun _ s10 ⟨_, H10, I10, _, e10⟩ => ?_
        subst e10
        obtain ⟨k1, k2⟩ := keepIt I10
        exact ⟨m', hm, i + 1, some y, ys ++ [zv], _, I10.unpinned, k1, k2, w'⟩
  exact codeAny_compStart_list loop (T.self X.A 0 _ _ _ st₁ loop)
end L2
namespace L2
open PySem PySem.Spec PyProof.Rows
/-! ### the forms one uses -/
def Nxt (n i : Nat) (P : Prop) : Prop := ∃ m', m' < n - i ∧ m' = n - (i + 1) ∧ i + 1 ≤ n ∧ P
theorem Nxt.mk {n i : Nat} {P : Prop} (h : i < n) (p : P) : Nxt n i P := ⟨_, by omega, rfl, h, p⟩
theorem comp_list {K : PySem.W.Frag} {a D : Addr} {xs : List V} {te : TE} {σ : St} {H : Hp} {R : Hp → Prop} (Pv : Nat → List V → Hp → Prop) (h0 : Pv 0 [] (upd H D (.lst []))) (hl : ∀ i ys H, i ≤ xs.length → Pv i ys H → SqL K H a xs)
    (hs : ∀ i x ys H, xs[i]? = some x → Pv i ys H → te (some x :: σ) H fun y H3 => H3 D = some (.lst ys) ∧ ys.length < sizeLine ∧ Nxt xs.length i (Pv (i + 1) (ys ++ [y]) (upd H3 D (.lst (ys ++ [y])))))
    (hd : ∀ ys H, Pv xs.length ys H → R H) :
    ∃ W : Nat → Nat → List V → Hp → Prop, (∃ m, W 0 m [] (upd H D (.lst []))) ∧
      ∀ i m ys H, W i m ys H → ((Itl K a).stop i H ∧ R H) ∨ ((Itl K a).go i H ∧ ∀ x H', (Itl K a).yld i H x H' → tYes (some x :: σ) H' fun b H2 =>
        if b = true then te (some x :: σ) H2 fun y H3 => H3 D = some (.lst ys) ∧ ys.length < sizeLine ∧ ∃ m', m' < m ∧ W (i + 1) m' (ys ++ [y]) (upd H3 D (.lst (ys ++ [y])))
        else ∃ m', m' < m ∧ W (i + 1) m' ys H2) := by
  refine ⟨fun i m ys H => m = xs.length - i ∧ i ≤ xs.length ∧ Pv i ys H, ⟨xs.length, by simp, Nat.zero_le _, h0⟩, ?_⟩
  rintro i m ys H ⟨rfl, hi, p⟩
  have q := hl i ys H hi p
  by_cases hlt : i < xs.length
  · refine .inr ⟨⟨xs, xs[i], q, by simp [hlt]⟩, fun x H' y => ?_⟩
    obtain ⟨e, y⟩ := y
    subst e
    exact hs i x ys H' (y xs q) p
  · have e : i = xs.length := by omega
    subst e
    exact .inl ⟨⟨xs, q, Nat.le_refl _⟩, hd ys H p⟩
theorem comp_range {lo : Int} {n : Nat} {D : Addr} {te : TE} {σ : St} {H : Hp} {R : Hp → Prop} (Pv : Nat → List V → Hp → Prop) (h0 : Pv 0 [] (upd H D (.lst [])))
    (hs : ∀ i ys H, i < n → Pv i ys H → te (some (.int (lo + i)) :: σ) H fun y H3 => H3 D = some (.lst ys) ∧ ys.length < sizeLine ∧ Nxt n i (Pv (i + 1) (ys ++ [y]) (upd H3 D (.lst (ys ++ [y])))))
    (hd : ∀ ys H, Pv n ys H → R H) :
    ∃ W : Nat → Nat → List V → Hp → Prop, (∃ m, W 0 m [] (upd H D (.lst []))) ∧
      ∀ i m ys H, W i m ys H → ((Itr lo n).stop i H ∧ R H) ∨ ((Itr lo n).go i H ∧ ∀ x H', (Itr lo n).yld i H x H' → tYes (some x :: σ) H' fun b H2 =>
        if b = true then te (some x :: σ) H2 fun y H3 => H3 D = some (.lst ys) ∧ ys.length < sizeLine ∧ ∃ m', m' < m ∧ W (i + 1) m' (ys ++ [y]) (upd H3 D (.lst (ys ++ [y])))
        else ∃ m', m' < m ∧ W (i + 1) m' ys H2) := by
  refine ⟨fun i m ys H => m = n - i ∧ i ≤ n ∧ Pv i ys H, ⟨n, by simp, Nat.zero_le _, h0⟩, ?_⟩
  rintro i m ys H ⟨rfl, hi, p⟩
  by_cases hlt : i < n
  · refine .inr ⟨hlt, fun x H' y => ?_⟩
    obtain ⟨e, y⟩ := y
    subst e y
    exact hs i ys H' hlt p
  · have e : i = n := by omega
    subst e
    exact .inl ⟨Nat.le_refl _, hd ys H p⟩
end L2
end

section
set_option Elab.async false
set_option linter.all false
set_option maxRecDepth 100000
namespace L2
open PySem PySem.Spec PyProof.Rows

/-- a text by its codes -/
def S (l : List Nat) : Str := ⟨l.toArray⟩
theorem S_cps (l : List Nat) : (S l).cps.toList = l := rfl
theorem S_len (l : List Nat) : (S l).length = l.length := rfl
theorem S_inj {a b : List Nat} (h : S a = S b) : a = b := congrArg (fun s : Str => s.cps.toList) h
theorem S_of (z : Str) : S z.cps.toList = z := by cases z; rfl
theorem S_app (a b : List Nat) : S a ++ S b = S (a ++ b) := by
  show (⟨a.toArray ++ b.toArray⟩ : Str) = ⟨(a ++ b).toArray⟩
  simp
theorem S_dec (a b : List Nat) : decide (V.str (S a) = V.str (S b)) = decide (a = b) := by
  by_cases e : a = b
  · subst e; simp
  · rw [decide_eq_false e, decide_eq_false]
    intro z
    injection z with z
    exact e (S_inj z)

section
variable {X : Cx} {a b c e o : Expr} {ta tb tc te to : TE} {pos : Pos}

theorem pe_strS (l : List Nat) {x : Str} {j pos} (h : x = S l) : PE X (.Constant (.str x) j pos) (tC (.str (S l))) := by rw [h]; exact pe_str

def rAddS : R2 := fun x y H Q => ∃ i j, x = .str (S i) ∧ y = .str (S j) ∧ i.length + j.length ≤ sizeLine ∧ Q (.str (S (i ++ j))) H
theorem op_addS : OpR X (binaryOp .Add) rAddS := by
  intro pins s σ H x y v u Q I rx ry h
  obtain ⟨i, j, rfl, rfl, hz, q⟩ := h
  exact op_add_str pins s σ H _ _ v u Q I rx ry ⟨S i, S j, rfl, rfl, hz, by rw [S_app]; exact q⟩

def rIxS' : R2 := fun x y H Q => ∃ l i c, x = .str (S l) ∧ y = .int i ∧ l.length ≤ sizeLine ∧ atI l i = some c ∧ Q (.str (S [c])) H
theorem ix_S : IxR X rIxS' := by
  intro value slice pins s σ H x y v u Q I rx ry h hs
  obtain ⟨l, i, c, rfl, rfl, hz, hc, q⟩ := h
  exact ix_str value slice pins s σ H _ _ v u Q I rx ry ⟨S l, i, c, rfl, rfl, hz, hc, q⟩ hs

def rLenS : List V → Hp → VK → Prop := fun xs H Q => ∃ l, xs = [.str (S l)] ∧ l.length ≤ sizeLine ∧ Q (.int l.length) H
theorem call_lenS : CallR X (.builtin "len") rLenS := by
  intro pins s σ H xs us Q I r h
  obtain ⟨l, rfl, hz, q⟩ := h
  exact call_len_str pins s σ H _ us Q I r ⟨S l, rfl, hz, q⟩

def rEqS : R2 := fun x y H Q => ∃ i j, x = .str (S i) ∧ y = .str (S j) ∧ Q (.bl (decide (i = j))) H
theorem op_eqS : OpR X (compareOp .Eq) rEqS := by
  intro pins s σ H x y v u Q I rx ry h
  obtain ⟨i, j, rfl, rfl, q⟩ := h
  exact op_eq pins s σ H _ _ v u Q I rx ry ⟨rfl, by rw [S_dec]; exact q⟩
def rNeS : R2 := fun x y H Q => ∃ i j, x = .str (S i) ∧ y = .str (S j) ∧ Q (.bl (!decide (i = j))) H
theorem op_neS : OpR X (compareOp .NotEq) rNeS := by
  intro pins s σ H x y v u Q I rx ry h
  obtain ⟨i, j, rfl, rfl, q⟩ := h
  exact op_ne pins s σ H _ _ v u Q I rx ry ⟨rfl, by rw [S_dec]; exact q⟩

/-- a sign in a text -/
def rInS : R2 := fun x y H Q => ∃ c l, x = .str (S [c]) ∧ y = .str (S l) ∧ Q (.bl (decide (c ∈ l))) H
theorem op_inS : OpR X (compareOp .In) rInS := by
  intro pins s σ H x y v u Q I rx ry h
  obtain ⟨c, l, rfl, rfl, q⟩ := h
  exact op_in_str pins s σ H _ _ v u Q I rx ry ⟨S [c], S l, rfl, rfl, by
    have e := StrLaws.found_one (S l) c
    rw [S_cps] at e
    rw [show (S [c]) = (⟨#[c]⟩ : Str) from rfl, e]; exact q⟩

/-! ### slices of texts -/
def cutN (l : List Nat) (lo hi : Option Int) : List Nat := (l.drop (HT.sIx l.length 0 lo)).take (HT.sIx l.length l.length hi - HT.sIx l.length 0 lo)
theorem idx_gen (lo hi : Option Int) (n : Nat) : Builtin.Str.strSliceIndices lo hi 1 n = (List.range (HT.sIx n n hi - HT.sIx n 0 lo)).map (fun k => HT.sIx n 0 lo + k) := by
  have clip : ∀ (v : Int) (d : Nat), max (0 : Int) (min (if v < 0 then v + (n : Int) else v) (n : Int)) = ((HT.sIx n d (some v) : Nat) : Int) := fun v d => by
    rw [← HT.clip_eq]; split <;> omega
  have key : ∀ a b : Nat, sliceRange (a : Int) (b : Int) 1 = (List.range (b - a)).map (fun k => a + k) := fun a b => by
    simp only [sliceRange, show ((1 : Int) > 0) = True from by simp, if_true]
    by_cases hlt : (a : Int) < b
    · have e3 : (((b : Int) - a + 1 - 1) / 1).toNat = b - a := by first | omega | (simp; done) | (simp; omega)
      simp only [hlt, if_true, e3]
      refine List.map_congr_left fun k _ => ?_
      omega
    · have : b - a = 0 := by omega
      simp [hlt, this]
  unfold Builtin.Str.strSliceIndices
  simp only [show ((1 : Int) > 0) = True from by simp, if_true]
  cases lo with
  | none =>
    cases hi with
    | none => exact key 0 n
    | some j => dsimp only; rw [clip j n]; exact key 0 _
  | some i =>
    cases hi with
    | none => dsimp only; rw [clip i 0]; exact key _ n
    | some j => dsimp only; rw [clip i 0, clip j n]; exact key _ _
theorem slice_gen (l : List Nat) (lo hi : Option Int) : Txt.slice (S l) lo hi = S (cutN l lo hi) := by
  have hle : HT.sIx l.length l.length hi ≤ l.length := HT.sIx_le _ _ (Nat.le_refl _) _
  have key : ((Builtin.Str.strSliceIndices lo hi 1 (S l).length).filterMap ((S l).cps[·]?)) = cutN l lo hi := by
    rw [idx_gen]
    have h := StrLaws.picks l (HT.sIx l.length l.length hi - HT.sIx l.length 0 lo) (HT.sIx l.length 0 lo)
    unfold cutN
    by_cases hc : HT.sIx l.length 0 lo ≤ HT.sIx l.length l.length hi
    · have h2 := h (by omega)
      rw [S_len]
      simpa [S] using h2
    · have e : HT.sIx l.length l.length hi - HT.sIx l.length 0 lo = 0 := by omega
      rw [S_len, e]; simp
  unfold Txt.slice
  split
  · rename_i hc
    have hlen : (Builtin.Str.strSliceIndices lo hi 1 (S l).length).length = l.length := by
      simp at hc
      simpa [S_len] using hc
    have hl2 : HT.sIx l.length l.length hi - HT.sIx l.length 0 lo = l.length := by rw [idx_gen, S_len] at hlen; simpa using hlen
    have h0 : HT.sIx l.length 0 lo = 0 ∨ l.length = 0 := by omega
    have e : cutN l lo hi = l := by
      unfold cutN
      rw [hl2]
      rcases h0 with z | z
      · rw [z]; simp
      · have : l = [] := List.length_eq_zero_iff.mp z
        subst this; simp
    rw [e]
  · rw [key]; rfl
def rSlS : V → Option Int → Option Int → Hp → VK → Prop := fun x lo hi H Q => ∃ l, x = .str (S l) ∧ l.length ≤ sizeLine ∧ Q (.str (S (cutN l lo hi))) H
theorem part_of {v : Value} {o : Option Int} (p : IsPart v o) : ∃ l : Option (Int × Tok), v = partValue l ∧ l.map (·.1) = o := by
  cases p with
  | none => exact ⟨none, rfl, rfl⟩
  | int i t => exact ⟨some (i, t), rfl, rfl⟩
theorem sl_S : SlR X rSlS := by
  intro pins s σ H x v vl vu lo hi sl Q I rx hs pl pu h
  obtain ⟨l, rfl, hz, q⟩ := h
  obtain ⟨t, rfl⟩ := rx
  obtain ⟨p1, rfl, rfl⟩ := part_of pl
  obtain ⟨p2, rfl, rfl⟩ := part_of pu
  refine ⟨"str", _, F.slot_str_getitem.lookup, typeIs_str _ _ _, ?_⟩
  refine wpAny_getItem_str_slice (l := p1) (u := p2) (st := none) hs rfl ?_
  have e := slice_gen l (p1.map (·.1)) (p2.map (·.1))
  have hle : (Txt.slice (S l) (p1.map (·.1)) (p2.map (·.1))).length ≤ sizeLine := Nat.le_trans (Txt.slice_le _ _ _) hz
  refine post_val_or_str ⟨hle, fun t' k => ?_⟩
  have e' : (if ((Option.map (fun x : Int × Tok => x.1) none).getD 1 == 1 && (slicePicked (S l) p1 p2 none).length == (S l).length) = true then S l else ⟨((slicePicked (S l) p1 p2 none).filterMap ((S l).cps[·]?)).toArray⟩) = S (cutN l (p1.map (·.1)) (p2.map (·.1))) := e
  exact ⟨.str (S (cutN l (p1.map (·.1)) (p2.map (·.1)))), H, I.tok _, ⟨t', congrArg (fun z => Value.str z t') e'⟩, q⟩

/-! ### lists of texts compared -/
theorem eqV_S (a b : List Nat) : eqV (.str (S a)) (.str (S b)) = decide (a = b) := by
  show (S a == S b) = decide (a = b)
  rw [Bool.beq_eq_decide_eq]
  by_cases e : a = b
  · subst e; simp
  · rw [decide_eq_false e, decide_eq_false fun z => e (S_inj z)]
abbrev Ts (ls : List (List Nat)) : List V := ls.map fun l => V.str (S l)
def rEqL (K : PySem.W.Frag) (neg : Bool) : R2 := fun x y H Q => ∃ p q xs ys, x = .ref p ∧ y = .ref q ∧ SqL K H p (Ts xs) ∧ SqL K H q (Ts ys) ∧ Q (.bl (if neg then !decide (xs = ys) else decide (xs = ys))) H
theorem all_eq_dec : ∀ (xs ys : List (List Nat)), xs.length = ys.length → (List.range xs.length).all (fun j => decide (xs[j]? = ys[j]?)) = decide (xs = ys) := by
  intro xs ys hl
  by_cases e : xs = ys
  · subst e; simp
  · rw [decide_eq_false e, List.all_eq_false]
    refine Classical.byContradiction fun z => e (List.ext_getElem? fun j => ?_)
    by_cases hj : j < xs.length
    · refine Classical.byContradiction fun q => z ⟨j, List.mem_range.mpr hj, by simp [q]⟩
    · rw [List.getElem?_eq_none (by omega), List.getElem?_eq_none (by omega)]
theorem op_eqL (hu : X.A.units < cLine) : OpR X (compareOp .Eq) (rEqL X.K false) := by
  intro pins s σ H x y v u Q I rx ry h
  obtain ⟨p, q', xs, ys, rfl, rfl, h1, h2, q⟩ := h
  cases rx
  cases ry
  obtain ⟨its, r1, p1, _⟩ := I.list h1
  obtain ⟨its2, r2, p2, _⟩ := I.list h2
  have l1 : its.length = xs.length := by have := r1.length; simpa using this.symm
  have l2 : its2.length = ys.length := by have := r2.length; simpa using this.symm
  by_cases hl : xs.length = ys.length
  · refine SeqAt.eq_listAt (e := fun j => decide (xs[j]? = ys[j]?)) p1.isList p2.isList (by simp [l1, l2, hl]) hu (fun j g1 g2 => ?_) ⟨.bl (decide (xs = ys)), H, I, ?_, q⟩
    · have g1' : j < xs.length := by simpa [l1] using g1
      have g2' : j < ys.length := by simpa [l2] using g2
      obtain ⟨u1, e1, s1⟩ := r1.get (i := j) (x := .str (S xs[j])) (by simp [g1'])
      obtain ⟨u2, e2, s2⟩ := r2.get (i := j) (x := .str (S ys[j])) (by simp [g2'])
      have f1 : its.toArray[j] = u1 := by
        have := e1; rw [List.getElem?_eq_getElem (by omega)] at this; simpa using this
      have f2 : its2.toArray[j] = u2 := by
        have := e2; rw [List.getElem?_eq_getElem (by omega)] at this; simpa using this
      rw [f1, f2]
      have := eqAt_V (A := X.A.in1) (s := s) s1 s2 rfl rfl
      rw [eqV_S] at this
      simpa [g1', g2'] using this
    · show Value.bool _ = Value.bool _
      rw [show its.toArray.size = xs.length by simp [l1], all_eq_dec xs ys hl]
  · refine SeqAt.eq_list_lengthsAt p1.isList p2.isList (by simp [l1, l2, hl]) hu ⟨.bl (decide (xs = ys)), H, I, ?_, q⟩
    rw [decide_eq_false fun z => hl (by rw [z])]
    rfl

/-! ### isinstance, text times number -/
def rInst (K : PySem.W.Frag) : List V → Hp → VK → Prop := fun xs H Q => ∃ x n t b, xs = [x, .ty n] ∧ TyOf K H x t ∧ PySem.W.kitOne K t (.type n) = some b ∧ Q (.bl b) H
theorem call_isinst : CallR X (.builtin "isinstance") (rInst X.K) := by
  intro pins s σ H xs us Q I r h
  obtain ⟨x, n, t, b, rfl, ty, k, q⟩ := h
  obtain ⟨u, w', rfl, r1, r2⟩ := vals2 r
  cases r2
  exact isinst_ok I r1 ty k fun tk => ⟨.bl b, H, I.tok tk, rfl, q⟩

def rMulS : R2 := fun x y H Q => ∃ l n, x = .str (S l) ∧ y = .int (n : Nat) ∧ 1 ≤ n ∧ n < 1000 ∧ l.length < 1000 ∧ Q (.str (S (List.replicate n l).flatten)) H
theorem rep_fold (l : List Nat) : ∀ (n : Nat) (acc : Array Nat), ((List.replicate n l.toArray).foldl (· ++ ·) acc).toList = acc.toList ++ (List.replicate n l).flatten
  | 0, acc => by simp
  | n + 1, acc => by
    rw [List.replicate_succ, List.foldl_cons, rep_fold l n, List.replicate_succ]
    simp
theorem op_mulS : OpR X (binaryOp .Mult) rMulS := by
  intro pins s σ H x y v u Q I rx ry h
  obtain ⟨l, n, rfl, rfl, h1, h2, h3, q⟩ := h
  obtain ⟨t, rfl⟩ := rx
  obtain ⟨t', rfl⟩ := ry
  have hsmall : l.length * n ≤ 1000 * 1000 := Nat.mul_le_mul (Nat.le_of_lt h3) (Nat.le_of_lt h2)
  have hbig : (1000 * 1000 : Nat) ≤ sizeLine := by decide
  refine PySem.P.mul_str ?_ ?_ ?_ ?_
  · rw [decide_eq_false (by omega), decide_eq_false (by omega)]; rfl
  · intro _ _
    have e : (2 ^ 63 - 1 : Int) / (n : Int) ≥ 1000 := by
      refine Int.le_ediv_of_mul_le (by omega) ?_
      have : (1000 : Int) * (n : Int) ≤ 1000 * 1000 := by omega
      omega
    rw [S_len]
    omega
  · intro _ _
    show decide (_ > _) = false
    rw [decide_eq_false]
    rw [S_len, Int.toNat_natCast]
    omega
  · rw [if_neg (by omega)]
    have hres : (⟨(List.replicate (n : Int).toNat (S l).cps).foldl (· ++ ·) #[]⟩ : Str) = S (List.replicate n l).flatten := by
      have e := rep_fold l n #[]
      rw [Int.toNat_natCast]
      unfold S
      congr 1
      apply Array.toList_inj.mp
      simpa using e
    rw [hres]
    split
    · rename_i hc
      have e : (List.replicate n l).flatten = l := by
        simp at hc
        rcases hc with z | z
        · have : n = 1 := by omega
          subst this; simp
        · have : l = [] := by simpa [S, Str.length] using z
          subst this; simp
      rw [e] at q
      exact ⟨.str (S l), H, I, ⟨t, rfl⟩, q⟩
    · refine ⟨?_, .str (S (List.replicate n l).flatten), H, I.tok _, ⟨_, rfl⟩, q⟩
      rw [S_len, len_rep, Nat.mul_comm]
      omega

/-! ### join of a list of texts, without a sign between -/
theorem joinNil (ls : List (List Nat)) : Txt.join (S []) (ls.map S) = S ls.flatten := by
  unfold Txt.join Builtin.Str.glued
  have key : ∀ (ls : List (List Nat)) (acc : Array Nat), ((ls.map S).foldl (fun acc p => acc ++ (S []).cps ++ p.cps) acc).toList = acc.toList ++ ls.flatten := by
    intro ls
    induction ls with
    | nil => intro acc; simp
    | cons l r ih => intro acc; rw [List.map_cons, List.foldl_cons, ih]; simp [S]
  unfold S
  congr 1
  apply Array.toList_inj.mp
  cases ls with
  | nil => rfl
  | cons l r =>
    have := key r (S l).cps
    have e : (List.map S (l :: r)).drop 1 = List.map S r := rfl
    show (((List.map S (l :: r)).drop 1).foldl _ (S l).cps).toList = _
    rw [e]
    exact this.trans (by simp [S])
def rJoin (K : PySem.W.Frag) : V → List V → Hp → VK → Prop := fun x vs H Q => ∃ p ls, x = .str (S []) ∧ vs = [.ref p] ∧ SqL K H p (Ts ls) ∧ ls.flatten.length ≤ 1000 ∧ Q (.str (S ls.flatten)) H
theorem strs_of : ∀ {ls : List (List Nat)} {us : List Value}, Vals (Ts ls) us → StrsAre us (ls.map S)
  | [], _, .nil => .nil
  | l :: r, _, .cons q t => by
    obtain ⟨t', rfl⟩ := q
    exact .cons (S l) t' (strs_of t)
theorem sum_len (ls : List (List Nat)) : ((ls.map S).map (·.length)).sum = ls.flatten.length := by
  induction ls with
  | nil => rfl
  | cons l r ih => rw [List.map_cons, List.map_cons, List.sum_cons, ih, List.flatten_cons, List.length_append, S_len]
theorem mt_join : MtR X "str.join" (rJoin X.K) := by
  intro pins s σ H x vs v us Q I rx rv h
  obtain ⟨p, ls, rfl, rfl, hq, hz, q⟩ := h
  obtain ⟨t, rfl⟩ := rx
  obtain ⟨u, rfl, ru⟩ := vals1 rv
  cases ru
  obtain ⟨its, r, pl, _⟩ := I.list hq
  refine join_list pl.isList (ys := ls.map S) (by simpa using strs_of r) ?_ fun t' k => ?_
  · rw [sum_len]; show _ + _ * 0 ≤ _; omega
  · exact ⟨.str (S ls.flatten), H, I.tok k, ⟨t', congrArg (fun z => Value.str z t') (joinNil ls)⟩, q⟩
end
end L2
end

section
set_option Elab.async false
set_option linter.all false
set_option maxRecDepth 100000
namespace L2
open PySem PySem.Spec PyProof.Rows

/-- a def of the text as the top has laid it -/
structure DefAt (K : PySem.W.Frag) (mg : Str → Option Value) (name : Str) (st : Stmt) (ps : List Str) : Prop where
  ex : ∃ f fd, Fun K name name st f fd ∧ Binds K fd ps [] ∧ mg name = some (.ref f)
/-- a def that keeps its promise -/
structure Def (P : Program) (w : World) (K : PySem.W.Frag) (mg : Str → Option Value) (base : Heap) (name : Str) (k : Nat) (ps : List Str) (sp : Sp) : Prop where
  ex : ∃ f fd, FnOk P w K mg base CX0 k f fd ps sp ∧ Binds K fd ps [] ∧ mg name = some (.ref f) ∧ PySem.W.keepIn K (.ref f) = true
theorem Def.mono {P : Program} {w : World} {K : PySem.W.Frag} {mg : Str → Option Value} {base : Heap} {name : Str} {j k : Nat} {ps : List Str} {sp : Sp} (D : Def P w K mg base name j ps sp) (h : j ≤ k) : Def P w K mg base name k ps sp := by
  obtain ⟨f, fd, a, b, c, d⟩ := D.ex
  exact ⟨f, fd, a.mono h, b, c, d⟩
theorem DefAt.ok {P : Program} {w : World} {K : PySem.W.Frag} {mg : Str → Option Value} {base : Heap} {name : Str} {st : Stmt} {N ps : List Str} {k : Nat} {sp : Sp} (D : DefAt K mg name st ps) (S : FnScope N ps (defScope st)) (len : ∀ vs H Q E, sp vs H Q E → vs.length = ps.length)
    (hbody : ∀ (f : Addr) (cdv : Value) (A : Around) (outer : List Env) (s : Shared) (H : Hp) (vs : List V) (Q : VK) (E : XK), Room k (A.deeper (envOfC name (defScope st) s.heap.objs.size f cdv)) → sp vs H Q E →
      ∃ t, PSs (cxOf CX0 P w K mg base N name (defScope st) f cdv A outer s H E).nox (defBody st) t ∧ t { nx := fun _ H' => Q .non H', rt := Q } (start N vs) H) : Def P w K mg base name (k + 1) ps sp := by
  obtain ⟨f, fd, F, b, g⟩ := D.ex
  exact ⟨f, fd, F.ok S len (hbody f), b, g, F.kp⟩
section
variable {X : Cx} {x : Str} {p pos : Pos} {e : Expr} {es : List Expr} {t : TA}
theorem pe_own {k : Nat} {ps : List Str} {sp : Sp} (D : Def X.prog X.w X.K X.mg X.base x k ps sp) (hr : Room k X.A) (hg : Gl X x) (ha : PA X (e :: es) t) (hdb : (x == ("__debug__" : Str)) = false := by decide)
    (hs : starEach (e :: es) X.env = (false, eval e X.env) :: starEach es X.env := by rfl) (hpl : (backTo pos (starEach es X.env)).any (·.1) = false := by rfl) :
    PE X (.Call (.Name x p) (e :: es) [] pos) (tCall sp [] E0 t) := by
  obtain ⟨f, fd, G, b, g, kp⟩ := D.ex
  exact pe_call G hr hg g kp b .nil pass0 ha hdb hs hpl
end
/-- forgetting -/
theorem Same.upd {H : Hp} {p : Addr} {o : HO} (h : H p = none) : Same H (upd H p o) := fun b o' e => by rw [upd_ne (ne_of_none e h)]; exact e
theorem Same.upd' {H H' : Hp} {p : Addr} {o : HO} (s : Same H H') (h : H p = none) : Same H (L2.upd H' p o) := fun b o' e => by rw [upd_ne (ne_of_none e h)]; exact s b o' e
end L2
namespace L2
open PySem PySem.Spec PyProof.Rows
def noStar : Expr → Bool
  | .Starred .. => false
  | _ => true
theorem star_of {e : Expr} {es : List Expr} {env : Env} (h : noStar e = true) : starEach (e :: es) env = (false, eval e env) :: starEach es env := by
  cases e <;> first | rfl | cases h
section
variable {X : Cx} {e : Expr} {es : List Expr} {te : TE} {t : TA}
theorem pa_c {i j pos} (h : PA X es t) : PA X (.Constant (.int i) j pos :: es) (tCons (tC (.int i)) t) := pa_cons pe_int h (star_of rfl)
theorem pa (ha : PE X e te) (hr : PA X es t) (h : noStar e = true := by rfl) : PA X (e :: es) (tCons te t) := pa_cons ha hr (star_of h)
end
end L2
namespace L2
open PySem PySem.Spec PyProof.Rows
theorem pa_c7 {X : Cx} {e : Expr} {te : TE} {i1 i2 i3 i4 i5 i6 i7 : Int} {j1 j2 j3 j4 j5 j6 j7 : _} {p1 p2 p3 p4 p5 p6 p7 : Pos} (h : PE X e te) (hn : noStar e = true := by rfl) :
    PA X [.Constant (.int i1) j1 p1, .Constant (.int i2) j2 p2, .Constant (.int i3) j3 p3, .Constant (.int i4) j4 p4, .Constant (.int i5) j5 p5, .Constant (.int i6) j6 p6, .Constant (.int i7) j7 p7, e]
      (tCons (tC (.int i1)) (tCons (tC (.int i2)) (tCons (tC (.int i3)) (tCons (tC (.int i4)) (tCons (tC (.int i5)) (tCons (tC (.int i6)) (tCons (tC (.int i7)) (tCons te tNil)))))))) :=
  pa_c (pa_c (pa_c (pa_c (pa_c (pa_c (pa_c (pa h pa_nil hn)))))))
end L2
namespace L2
open PySem PySem.Spec PyProof.Rows
theorem defat_mk {K : PySem.W.Frag} {h : Heap} {mg : Str → Option Value} {name : Str} {st : Stmt} {ps : List Str} {f : Addr} {oc : Value} {od an : Option Addr} {osl : Array (Option Value)} {kV doc pm cdv ct : Value} (X : K.In h) (G : h.Ns mainGlobals mg)
    (a : PySem.W.nsIn K mainGlobals name = some (some (.ref f))) (l : K.lookup f = some ⟨oc, od, .func (PySem.W.fnOf name name (defArgs st) (defBody st) (defScope st) .none kV doc pm an cdv ct), osl⟩)
    (c : PySem.W.codeIn K cdv name = true) (k : PySem.W.keepIn K (.ref f) = true)
    (hb : ∀ (kV doc pm : Value) (an : Option Addr) (cdv ct : Value) (us : List Value), us.length = ps.length → bindArgs (PySem.W.fnOf name name (defArgs st) (defBody st) (defScope st) .none kV doc pm an cdv ct) ⟨us, []⟩ = pure (ps.zip us)) : DefAt K mg name st ps :=
  ⟨f, _, fun_mk l c k, (fun_mk l c k).binds hb, PySem.W.mg_of X G a⟩
theorem law_at {K : PySem.W.Frag} {h : Heap} {mg : Str → Option Value} {st : Stmt} {x : Str} {f fa : Addr} {oc : Value} {od an : Option Addr} {osl : Array (Option Value)} {kV doc pm cdv ct : Value} (X : K.In h) (G : h.Ns mainGlobals mg) (hfa : mg "law" = some (.ref fa))
    (a : PySem.W.nsIn K mainGlobals "law" = some (some (.ref f))) (l : K.lookup f = some ⟨oc, od, .func (PySem.W.fnOf "law" "law" (defArgs st) (defBody st) (defScope st) .none kV doc pm an cdv ct), osl⟩)
    (c : PySem.W.codeIn K cdv "law" = true) (k : PySem.W.keepIn K (.ref f) = true)
    (hb : ∀ (kV doc pm : Value) (an : Option Addr) (cdv ct v : Value), bindArgs (PySem.W.fnOf "law" "law" (defArgs st) (defBody st) (defScope st) .none kV doc pm an cdv ct) ⟨[v], []⟩ = pure [(x, v)]) :
    ∃ fd : FuncData, Fun K "law" "law" st fa fd ∧ ∀ (s : Shared) (v : Value), BindsTo s fd ⟨[v], []⟩ [(x, v)] := by
  have e := hfa.symm.trans (PySem.W.mg_of X G a)
  cases e
  exact ⟨_, fun_mk l c k, fun s v => .of_eq (hb kV doc pm an cdv ct v)⟩
/-- the law's promise: a list of at most 63 ints is handed in, True comes out -/
def spLaw (K : PySem.W.Frag) : Sp := fun vs H Q _ => ∃ (a : Addr) (ns : List Int), vs = [.ref a] ∧ SqL K H a (ns.map V.int) ∧ ns.length ≤ 63 ∧ ∀ H', Q (.bl true) H'
theorem walkLaw {x : Str} {l : PySem.W.OpenLaw} {q : Program} {loose : List Str} {XP : (Str → Option Value) → Heap → Prop} {YP : World → Heap → Prop} {d : DefRec} {K : Params → PySem.W.Frag} (hn : l.most = some 63) (hdf : d.params.defaults = [])
    (hY : ∀ (w : World) (h : Heap), YP w h → (K w.params).In h)
    (F : ∀ (w : World) (mg : Str → Option Value) (fa : Addr) (h : Heap), (K w.params).In h → h.Ns mainGlobals mg → mg d.name = some (.ref fa) →
      ∃ fd : FuncData, (∀ (s : Shared) (u : Value), BindsTo s fd ⟨[u], []⟩ [(x, u)]) ∧ ∀ base : Heap, (K w.params).In base → base.Ns mainGlobals mg → FnOk l.prog w (K w.params) mg base CX0 20 fa fd [x] (spLaw (K w.params))) :
    PySem.W.WalkO q loose XP YP l.row.toRowW d [] (fun f vs => PySem.call f vs) :=
  L2.walk_of (n := 63) (k := 20) (x := x) (CX := fun _ => CX0) (sp := fun w => spLaw (K w.params)) hn (by decide) hdf ⟨rfl, by decide, by decide⟩ hY F (fun _ _ a ns hl _ hS => ⟨a, ns, rfl, hS, hl, fun _ => rfl⟩) fun _ _ _ _ _ z => z
end L2
end

section
set_option Elab.async false
set_option linter.all false
set_option maxRecDepth 100000
/-! reversed(text) inside join; text[::-1]; sorted(text) -/
namespace L2
open PySem PySem.Spec PyProof.Rows
namespace RV
theorem owner_rev : Manifest.owners.lookup (String.ofList ['d', 'e', 's', 'r', 'e', 'v', 'e', 'r'].reverse) = some Manifest.sig_reversed := by kernel_rfl
theorem slot_next : Slot "reversed" "__next__" "reversed.__next__" :=
  .of (owner := "reversed") (n := "__next__") (by rw [typeLookup_type, builtinLookup_eq_fast]; kernel_rfl) (by decide +kernel) (by decide +kernel) (by decide +kernel)
    (by first | exact .inl (by decide +kernel) | exact .inr (by decide +kernel)) (by rw [isSubtype_type]; kernel_rfl)
theorem slot_iter : Slot "reversed" "__iter__" "reversed.__iter__" :=
  .of (owner := "reversed") (n := "__iter__") (by rw [typeLookup_type, builtinLookup_eq_fast]; kernel_rfl) (by decide +kernel) (by decide +kernel) (by decide +kernel)
    (by first | exact .inl (by decide +kernel) | exact .inr (by decide +kernel)) (by rw [isSubtype_type]; kernel_rfl)
theorem slot_hint : Slot "reversed" "__length_hint__" "reversed.__length_hint__" :=
  .of (owner := "reversed") (n := "__length_hint__") (by rw [typeLookup_type, builtinLookup_eq_fast]; kernel_rfl) (by decide +kernel) (by decide +kernel) (by decide +kernel)
    (by first | exact .inl (by decide +kernel) | exact .inr (by decide +kernel)) (by rw [isSubtype_type]; kernel_rfl)
theorem nolen : typeLookup (.type "reversed") "__len__" = pure none := by rw [typeLookup_type, builtinLookup_eq_fast]; kernel_rfl
theorem norev_str : typeLookup (.type "str") "__reversed__" = pure none := by rw [typeLookup_type, builtinLookup_eq_fast]; kernel_rfl
theorem entry_next : entryFor table "reversed.__next__" = some Builtin.«reversed.__next__» := entryFor_of_tree (by kernel_rfl)
theorem entry_hint : entryFor table "reversed.__length_hint__" = some Builtin.«reversed.__length_hint__» := entryFor_of_tree (by kernel_rfl)
theorem entry_iter : entryFor table "reversed.__iter__" = some Builtin.«dict_keyiterator.__iter__» :=
  entryFor_alias (id' := "dict_keyiterator.__iter__") (by kernel_rfl) (by first | rfl | decide +kernel | (unfold String.splitOn; simp +decide [String.splitOnAux])) (by decide +kernel) (by kernel_rfl)
theorem args_next (a : Value) : argsOk "reversed.__next__" ⟨[a], []⟩ := by
  unfold argsOk; rw [signature?_of (id := "reversed.__next__") (n := ['_', '_', 't', 'x', 'e', 'n', '_', '_']) (o := ['d', 'e', 's', 'r', 'e', 'v', 'e', 'r']) (by kernel_rfl) owner_rev]; kernel_rfl
theorem args_iter (a : Value) : argsOk "reversed.__iter__" ⟨[a], []⟩ := by
  unfold argsOk; rw [signature?_of (id := "reversed.__iter__") (n := ['_', '_', 'r', 'e', 't', 'i', '_', '_']) (o := ['d', 'e', 's', 'r', 'e', 'v', 'e', 'r']) (by kernel_rfl) owner_rev]; kernel_rfl
theorem args_hint (a : Value) : argsOk "reversed.__length_hint__" ⟨[a], []⟩ := by
  unfold argsOk; rw [signature?_of (id := "reversed.__length_hint__") (n := ['_', '_', 't', 'n', 'i', 'h', '_', 'h', 't', 'g', 'n', 'e', 'l', '_', '_']) (o := ['d', 'e', 's', 'r', 'e', 'v', 'e', 'r']) (by kernel_rfl) owner_rev]; kernel_rfl
theorem slot_init : Slot "reversed" "__init__" "object.__init__" :=
  .of (owner := "object") (n := "__init__") (by rw [typeLookup_type, builtinLookup_eq_fast]; kernel_rfl) (by decide +kernel) (by decide +kernel) (by decide +kernel)
    (by first | exact .inl (by decide +kernel) | exact .inr (by decide +kernel)) (by rw [isSubtype_type]; kernel_rfl)
theorem called : TypeCalled "reversed" "reversed.__new__" "object.__init__" :=
  ⟨by decide +kernel, PySem.F.create_reversed, ⟨_, _, PySem.F.mro_reversed⟩, PySem.F.made_reversed, PySem.F.plain_reversed_new, PySem.F.sub_reversed_self, slot_init⟩

def revS (x : Str) (t : Tok) (i : Int) : Obj := { cls := .type "reversed", data := .fields #[.str x t, rawInt i] }
def IsRev (h : Heap) (a : Addr) (x : Str) (t : Tok) (i : Int) : Prop := ∃ o, h.get? a = some o ∧ o.cls = .type "reversed" ∧ o.data = .fields #[.str x t, rawInt i]
section
variable {prog : Program} {w : World} {A : Around} {E : Value → Shared → Prop} {s : Shared}
theorem IsRev.typeIs {a : Addr} {x : Str} {t : Tok} {i : Int} (h : IsRev s.heap a x t i) : s.TypeIs (.ref a) "reversed" := let ⟨o, ho, hc, _⟩ := h; ⟨o, ho, hc⟩


theorem new_str (x : Str) (t : Tok) (hz : x.length ≤ sizeLine) :
    Meets (Builtin.«reversed.__new__» ⟨[.type "reversed", .str x t], []⟩) (fun _ R s => ∀ k, R (.ok (.ret (.ref s.heap.objs.size))) { s with heap := s.heap.push (revS x t ((x.length : Int) - 1)), toks := k }) :=
  .of_wp fun prog w A R s h => by
    have hfit : ¬ (x.length : Int) ≥ 2 ^ 63 := by rw [sizeLine_eq] at hz; omega
    unfold Builtin.«reversed.__new__»
    refine wpAny_bind (wpAny_of_eq (newClass_reversed _) ?_)
    try dsimp only
    refine wpAny_bind (wpAny_of_eq (a := ()) (by first | rfl | kernel_rfl) ?_)
    refine wpAny_bind (wpAny_of_eq (a := ()) (by first | rfl | kernel_rfl) ?_)
    try dsimp only
    refine wpAny_bind (wpAny_specialOf (typeIs_str s x t) norev_str ?_)
    try dsimp only
    have f1 := F.slot_str_getitem.lookup
    have f2 : isSubtype (.type "str") (.type "dict") = pure false := by rw [isSubtype_type]; kernel_rfl
    wp_walk using PySem.P.len_str hfit
    exact ⟨_, rfl, h _⟩
theorem call_reversed {x : Str} {t : Tok} {Q : Value → Shared → Prop} (hz : x.length ≤ sizeLine)
    (h : ∀ k, Q (.ref s.heap.objs.size) { s with heap := s.heap.push (revS x t ((x.length : Int) - 1)), toks := k }) : wpAny (model prog w) A (call (.type "reversed") [.str x t]) Q E s := by
  refine callType_new called (by decide) (PySem.F.typeCall_reversed_1 _) (PySem.F.newCall_reversed_1 _) (fun obj => F.args_object_init_2 obj _) PySem.F.entry_reversed_new (new_str x t hz) fun k => ?_
  exact ⟨⟨_, Heap.get?_push_size _ rfl, rfl⟩, h k⟩
theorem next_item {it : Addr} {i : Nat} {c : Nat} {x : Str} {t : Tok} {Q : Option Value → Shared → Prop} (hit : IsRev s.heap it x t (i : Int)) (hx : x.cps[i]? = some c) (hz : x.length ≤ sizeLine)
    (hQ : ∀ h' u k, IsRev h' it x t ((i : Int) - 1) → Heap.SameBut it s.heap h' → Q (some (.str ⟨#[c]⟩ u)) { s with heap := h', toks := k }) : wpAny (model prog w) A (pyNext (.ref it)) Q E s := by
  obtain ⟨o, ho, hc, hd⟩ := id hit
  have hi : i < x.length := (Array.getElem?_eq_some_iff.mp hx).1
  have hr : (decide ((i : Int) < -(2 ^ 63 : Int)) || decide ((i : Int) ≥ 2 ^ 63)) = false := by rw [sizeLine_eq] at hz; rw [decide_eq_false (by omega), decide_eq_false (by omega)]; rfl
  have hcc : (seqIndex? (i : Int) x.length).bind (x.cps[·]?) = some c := StrLaws.at_nonneg (by omega) (by simpa using hx)
  unfold pyNext
  refine wpAny_bind (wpAny_attempt (wpAny_callSpecial?_slot (name := Str.ofString "__next__") hit.typeIs slot_next
    (wpAny_call_entry slot_next hit.typeIs entry_next ?_ (args_next _))))
  unfold Builtin.«reversed.__next__»
  refine wpAny_bind (wpAny_of_eq (a := (Value.ref it, [])) rfl ?_)
  try dsimp only
  refine wpAny_bind (wpAny_field ho hd (x := .str x t) rfl ?_)
  refine wpAny_bind (wpAny_field ho hd (x := rawInt (i : Int)) rfl ?_)
  show wpAny _ _ (if (i : Int) < 0 then _ else _) _ _ s
  rw [if_neg (by omega)]
  refine wpAny_bind (wpAny_specialOf (typeIs_str s x t) F.slot_str_getitem.lookup ?_)
  rw [if_neg (by simp)]
  refine wpAny_bind (wpAny_mkInt ?_)
  refine wpAny_bind (wpAny_attempt (PySem.P.getItem_str hr hcc ?_))
  dsimp only
  refine wpAny_bind (wpAny_field (s := { s with toks := s.toks + 1 + 1 }) ho hd (x := rawInt (i : Int)) rfl ?_)
  show wpAny _ _ (setField (.ref it) 1 (rawInt ((i : Int) - 1)) >>= fun _ => ret _) _ _ _
  refine wpAny_bind (wpAny_setField (s := { s with toks := s.toks + 1 + 1 }) ho hd (by simp) ?_)
  refine wpAny_pure ⟨_, rfl, wpAny_pure (hQ _ _ _ ?_ (Heap.SameBut.update ..))⟩
  exact ⟨_, Heap.get?_update_self _ ho (Obj.isFreed_of_fields (Obj.data_mapFields hd _)), (Obj.cls_mapFields ..).trans hc, by
    rw [Obj.data_mapFields hd]; simp⟩
theorem next_end {it : Addr} {x : Str} {t : Tok} {Q : Option Value → Shared → Prop} (hh : A.handled = none) (hit : IsRev s.heap it x t (-1))
    (hQ : ∀ h', Heap.ExtBut it s.heap h' → Q none { s with heap := h' }) : wpAny (model prog w) A (pyNext (.ref it)) Q E s := by
  obtain ⟨o, ho, hc, hd⟩ := id hit
  unfold pyNext
  refine wpAny_bind (wpAny_attempt (wpAny_callSpecial?_slot (name := Str.ofString "__next__") hit.typeIs slot_next
    (wpAny_call_entry slot_next hit.typeIs entry_next ?_ (args_next _))))
  unfold Builtin.«reversed.__next__»
  refine wpAny_bind (wpAny_of_eq (a := (Value.ref it, [])) rfl ?_)
  try dsimp only
  refine wpAny_bind (wpAny_field ho hd (x := .str x t) rfl ?_)
  refine wpAny_bind (wpAny_field ho hd (x := rawInt (-1)) rfl ?_)
  show wpAny _ _ (if (-1 : Int) < 0 then _ else _) _ _ s
  rw [if_pos (by decide)]
  refine wpAny_bind (wpAny_rule ?_)
  refine wpAny_bind ?_
  show wpAny _ _ (setField (.ref it) 1 (rawInt (-1)) >>= fun _ => setField (.ref it) 0 .none) _ _ _
  refine wpAny_bind (wpAny_setField ho hd (by simp) ?_)
  have hd2 := Obj.data_mapFields hd (fun fs => fs.setIfInBounds 1 (rawInt (-1)))
  have ho2 := Heap.get?_update_self (Obj.mapFields fun x => x.setIfInBounds 1 (rawInt (-1))) ho (Obj.isFreed_of_fields (Obj.data_mapFields hd _))
  refine wpAny_setField (s := { s with heap := s.heap.update it (Obj.mapFields fun x => x.setIfInBounds 1 (rawInt (-1))) }) ho2 hd2 (by simp) ?_
  refine wpAny_bind ?_
  show wpAny _ _ (newExc (.type "StopIteration") [] >>= _) _ _ _
  refine wpAny_bind ?_
  simp only [newExc, newTuple]
  refine wpAny_bind (wpAny_newObj_type ?_ (by size_fits))
  refine wpAny_bind (m := firstArgMember _ _) (wpAny_of_eq (a := Value.none) (by first | rfl | (simp only [firstArgMember]; rfl)) ?_)
  refine wpAny_newObj_type ?_ (by size_fits)
  simp only [raiseNew]
  refine wpAny_bind (wpAny_handled ?_)
  first | rw [show A.in1.handled = none from hh] | rw [hh]
  refine wpAny_bind (wpAny_pure (wpAny_throw ?_))
  refine wpAny_bind (wpAny_isInstance (T := "StopIteration") (b := true) ⟨_, Heap.get?_push_size _ rfl, rfl⟩ isSubtype_stop ?_)
  refine wpAny_pure (hQ _ ?_)
  intro b ob hb e
  refine Heap.get?_push_of_some _ (Heap.get?_push_of_some _ ?_)
  exact (Heap.get?_update_other _ _ (Ne.symm hb)).trans ((Heap.get?_update_other _ _ (Ne.symm hb)).trans e)
theorem iter_self {it : Addr} {x : Str} {t : Tok} {i : Int} {Q : Value → Shared → Prop} (hit : IsRev s.heap it x t i) (h : Q (.ref it) s) : wpAny (model prog w) A (pyIter (.ref it)) Q E s := by
  refine wpAny_pyIter_slot hit.typeIs slot_iter (wpAny_call_entry slot_iter hit.typeIs entry_iter ?_ (args_iter _))
  show wpAny _ _ (ret (.ref it)) _ _ s
  exact wpAny_pure ⟨_, rfl, "reversed", _, hit.typeIs, slot_next.lookup, h⟩
def RevAt (x : Str) (i : Nat) (v : Value) : Prop := ∃ c u, x.cps[x.cps.size - 1 - i]? = some c ∧ v = .str ⟨#[c]⟩ u
theorem walks {prog : Program} {w : World} {A : Around} (hh : A.handled = none) (I : Addr) (x : Str) (t : Tok) (hz : x.length ≤ sizeLine) :
    Walks prog w A I [I] [I] x.cps.size (RevAt x) (fun i h => i ≤ x.cps.size ∧ IsRev h I x t ((x.cps.size : Int) - 1 - (i : Int))) where
  sub := fun _ hb => hb
  frame := fun _ _ _ st hk => let ⟨hi, o, ho, r⟩ := st; ⟨hi, o, hk I (by simp) o ho, r⟩
  item := fun i s Q E hi st hQ => by
    have e : (x.cps.size : Int) - 1 - (i : Int) = ((x.cps.size - 1 - i : Nat) : Int) := by omega
    have hit := st.2
    rw [e] at hit
    have hx : x.cps[x.cps.size - 1 - i]? = some (x.cps[x.cps.size - 1 - i]'(by omega)) := Array.getElem?_eq_getElem (by omega)
    refine next_item hit hx hz fun h' u k hit' hs' => ?_
    have e2 : ((x.cps.size - 1 - i : Nat) : Int) - 1 = (x.cps.size : Int) - 1 - ((i + 1 : Nat) : Int) := by omega
    rw [e2] at hit'
    exact hQ _ h' k ⟨_, _, hx, rfl⟩ ⟨hi, hit'⟩ fun b o hb eo => hs'.extBut b o (fun h => hb (by simp [h])) eo
  done := fun s Q E st hQ => by
    have e : (x.cps.size : Int) - 1 - (x.cps.size : Int) = -1 := by omega
    have hit := st.2
    rw [e] at hit
    exact next_end hh hit fun h' he' => hQ h' s.toks fun b o hb eo => he' b o (fun h => hb (by simp [h])) eo
  self := fun _ _ _ _ st hQ => iter_self st.2 hQ
theorem hint {it : Addr} {x : Str} {t : Tok} {i : Int} {Q : Value → Shared → Prop} (hit : IsRev s.heap it x t i) (hz : x.length ≤ sizeLine) (hi : i < x.length)
    (h : ∀ u k, s.toks ≤ k → Q (.int (i + 1) u) { s with toks := k }) : wpAny (model prog w) A (call (.builtin "reversed.__length_hint__") [.ref it]) Q E s := by
  have hfit : ¬ (x.length : Int) ≥ 2 ^ 63 := by rw [sizeLine_eq] at hz; omega
  obtain ⟨o, ho, hc, hd⟩ := id hit
  refine wpAny_call_entry slot_hint hit.typeIs entry_hint ?_ (args_hint _)
  unfold Builtin.«reversed.__length_hint__»
  refine wpAny_bind (wpAny_of_eq (a := Value.ref it) rfl ?_)
  refine wpAny_bind (wpAny_field ho hd (x := .str x t) rfl ?_)
  rw [if_neg (by simp)]
  refine wpAny_bind (PySem.P.len_str hfit ?_)
  refine wpAny_bind (m := asInt? _) (wpAny_pure ?_)
  dsimp only
  refine wpAny_bind (wpAny_field (s := { s with toks := s.toks + 1 + 1 }) ho hd (x := rawInt i) rfl ?_)
  show wpAny _ _ (if (x.length : Int) < i + 1 then _ else _) _ _ _
  rw [if_neg (by omega)]
  show wpAny _ _ (retInt (i + 1)) _ _ _
  exact wpAny_bind (wpAny_mkInt (wpAny_pure ⟨_, rfl, h _ _ (by show s.toks ≤ s.toks + 1 + 1 + 1; omega)⟩))
theorem collect_rev {Q : List Value → Shared → Prop} {I : Addr} {x : Str} {t : Tok} (hh : A.handled = none) (hit : IsRev s.heap I x t ((x.cps.size : Int) - 1)) (hz : x.length ≤ sizeLine)
    (hQ : ∀ (s' : Shared) (acc : Array Value), (∀ b o, b ≠ I → s.heap.get? b = some o → s'.heap.get? b = some o) → s'.gens = s.gens → s'.drawn = s.drawn → s'.os = s.os → ItemsOf (RevAt x) acc x.cps.size → Q acc.toList s') :
    wpAny (model prog w) A (collect (.ref I)) Q E s := by
  have W := (walks (prog := prog) (w := w) (A := A.in1) hh I x t hz).toS
  have hI : I < s.heap.objs.size := by obtain ⟨o, ho, _⟩ := hit; exact Heap.lt_size ho
  have hSf : s.heap.objs.size ∉ [I] := fun hm => by rw [← List.mem_singleton.mp hm] at hI; exact Nat.lt_irrefl _ hI
  have hSI : s.heap.objs.size ≠ I := fun e => hSf (by simp [e])
  have fin : ∀ s' acc, Moved [I] (fun a b => b = a) s s' → ItemsOf (RevAt x) acc x.cps.size → Q acc.toList s' :=
    fun s' acc hm ha => hQ s' acc (fun b o hb e => hm.heap b o (fun h => hb (List.mem_singleton.mp h)) e) hm.gens hm.drawn hm.os ha
  unfold collect
  refine wpAny_bind (wpAny_runValue (codeAny_builtin F.entry_proto_collect ?_))
  rw [Around.under_plainId F.plain_proto_collect _]
  show wpAny _ A.in1 (newList [] >>= fun l => again (.builtin "list.__iadd__" ⟨[l, .ref I], []⟩)) _ _ s
  refine wpAny_bind (wpAny_newObj_type ?_)
  refine wpAny_pure ⟨plainId_quiet F.plain_list_iadd _, codeAny_builtin F.entry_list_iadd ?_⟩
  rw [Around.under_plainId F.plain_list_iadd _]
  have hit₁ : IsRev (s.heap.push { cls := .type "list", data := .seq ([] : List Value).toArray }) I x t ((x.cps.size : Int) - 1) := let ⟨o, ho, r⟩ := hit; ⟨o, Heap.get?_push_of_some _ ho, r⟩
  have hT : Shared.TypeIs { s with heap := s.heap.push { cls := .type "list", data := .seq ([] : List Value).toArray } } (.ref I) "reversed" := IsRev.typeIs (s := { s with heap := s.heap.push { cls := .type "list", data := .seq ([] : List Value).toArray } }) hit₁
  have h1 : Builtin.List.listSameRef (.ref s.heap.objs.size) (.ref I) = false := by simp [Builtin.List.listSameRef, hSI]
  show wpAny _ A.in1 (Builtin.List.listExtendWith (.ref s.heap.objs.size) (.ref I) (.ref s.heap.objs.size)) _ _ _
  unfold Builtin.List.listExtendWith
  refine wpAny_bind (wpAny_typeOf hT ?_)
  rw [if_neg (by rw [h1]; decide)]
  refine wpAny_bind (iter_self hit₁ ?_)
  refine wpAny_bind (wpAny_holding ?_)
  unfold Builtin.List.listLengthHint
  refine wpAny_bind (wpAny_specialOf hT nolen ?_)
  show wpAny _ A.in1 (specialOf (Value.ref I) (Str.ofString "__length_hint__") >>= _) _ _ _
  refine wpAny_bind (wpAny_specialOf hT slot_hint.lookup ?_)
  (generalize hid : ("reversed.__length_hint__" : String) = id0; (fail_if_success (clear hid id0)); wp_delta; rw [show splitId id0 = some ("reversed", "__length_hint__") from by subst hid; decide +kernel]; subst hid)
  refine wpAny_bind (wpAny_isInstance (b := true) hT (by rw [isSubtype_type]; kernel_rfl) ?_)
  show wpAny _ A.in1 (rule "list.length-hint.hint" >>= _) _ _ _
  refine wpAny_bind (wpAny_rule ?_)
  refine wpAny_bind (wpAny_of_eq (slot_hint.bind _) ?_)
  try dsimp only
  refine wpAny_bind (wpAny_attempt (hint hit₁ hz (by show (x.cps.size : Int) - 1 < x.cps.size; omega) fun u k hk => ?_))
  try dsimp only
  refine wpAny_bind (m := asInt? _) (wpAny_pure ?_)
  try dsimp only
  have e1 : (x.cps.size : Int) - 1 + 1 = (x.cps.size : Int) := by omega
  rw [e1]
  have hz' : x.cps.size ≤ sizeLine := hz
  rw [if_neg (by simp [Builtin.List.listFitsIndex]; rw [sizeLine_eq] at hz'; omega)]
  rw [if_neg (by omega)]
  rw [if_neg (by simp [Builtin.List.listTooLong]; omega)]
  refine wpAny_pure ?_
  have hS₁ : (s.heap.push { cls := .type "list", data := .seq ([] : List Value).toArray }).get? s.heap.objs.size = some { cls := .type "list", data := .seq ([] : List Value).toArray } := Heap.get?_push_size _ rfl
  have st0 : 0 ≤ x.cps.size ∧ IsRev (s.heap.push { cls := .type "list", data := .seq ([] : List Value).toArray }) I x t ((x.cps.size : Int) - 1 - ((0 : Nat) : Int)) := ⟨Nat.zero_le _, by simpa using hit₁⟩
  have hk' : s.toks ≤ k := hk
  split
  · refine wpAny_bind (wpAny_rule ?_)
    refine wpAny_bind ?_
    show wpAny _ A.in1 (updateSeq s.heap.objs.size (·.push .none) >>= fun _ => updateSeq s.heap.objs.size (·.pop)) _ _ _
    refine wpAny_bind (wpAny_updateSeq hS₁ rfl ?_)
    have hS₂ := Heap.get?_update_self (Obj.mapSeq (·.push Value.none)) hS₁ rfl
    refine wpAny_updateSeq hS₂ rfl ?_
    have hS₃ := Heap.get?_update_self (Obj.mapSeq (·.pop)) hS₂ rfl
    have oth : ∀ b o, b ≠ s.heap.objs.size → (s.heap.push { cls := .type "list", data := .seq ([] : List Value).toArray }).get? b = some o →
        (((s.heap.push { cls := .type "list", data := .seq ([] : List Value).toArray }).update s.heap.objs.size (Obj.mapSeq (·.push Value.none))).update s.heap.objs.size (Obj.mapSeq (·.pop))).get? b = some o :=
      fun b o hb e => (Heap.get?_update_other _ _ (Ne.symm hb)).trans ((Heap.get?_update_other _ _ (Ne.symm hb)).trans e)
    refine wpAny_pure ⟨plainId_quiet F.plain_extend_loop _, codeAny_extend_loopS W hz' _ hSf _ x.cps.size 0 _ _ _ rfl (Nat.zero_le _)
      ⟨Nat.zero_le _, let ⟨o, ho, r⟩ := st0.2; ⟨o, oth I o (Ne.symm hSI) ho, r⟩⟩ hS₃ (ItemsOf.nil _) fun s' acc' c' hm hS' hacc => ?_⟩
    show wpAny _ A (load s.heap.objs.size >>= _) _ _ s'
    refine wpAny_bind (wpAny_load hS' ?_)
    refine wpAny_pure (fin s' acc' ⟨fun b o hb e => hm.heap b o (fun z => ?_) (oth b o (Nat.ne_of_lt (Heap.lt_size e)) (Heap.get?_push_of_some _ e)), hm.gens, hm.drawn, hm.os, Nat.le_trans hk' hm.toks⟩ hacc)
    rcases List.mem_cons.mp z with h | h
    · exact absurd (Heap.lt_size e) (by rw [h]; exact Nat.lt_irrefl _)
    · exact hb h
  · refine wpAny_pure ⟨plainId_quiet F.plain_extend_loop _, codeAny_extend_loopS W hz' _ hSf _ x.cps.size 0 _ _ _ rfl (Nat.zero_le _) st0 hS₁ (ItemsOf.nil _) fun s' acc' c' hm hS' hacc => ?_⟩
    show wpAny _ A (load s.heap.objs.size >>= _) _ _ s'
    refine wpAny_bind (wpAny_load hS' ?_)
    refine wpAny_pure (fin s' acc' ⟨fun b o hb e => hm.heap b o (fun z => ?_) (Heap.get?_push_of_some _ e), hm.gens, hm.drawn, hm.os, Nat.le_trans hk' hm.toks⟩ hacc)
    rcases List.mem_cons.mp z with h | h
    · exact absurd (Heap.lt_size e) (by rw [h]; exact Nat.lt_irrefl _)
    · exact hb h
/-- the items of reversed(x), as texts -/
theorem revs_of {x : Str} {l : List (Str × Tok)} (h : ItemsOf (RevAt x) (strValues l).toArray x.cps.size) : l.map (·.1) = x.cps.toList.reverse.map fun c => (⟨#[c]⟩ : Str) := by
  obtain ⟨h1, h2⟩ := h
  have hl : l.length = x.cps.size := by
    have e : (strValues l).length = l.length := by simp [strValues]
    simpa [e] using h1
  refine List.ext_getElem? fun j => ?_
  by_cases hj : j < l.length
  · have hv : (strValues l).toArray[j]? = some (.str l[j].1 l[j].2) := by simp [strValues, hj]
    obtain ⟨c, u, hc, e⟩ := h2 j _ hv
    injection e with e1 e2
    rw [List.getElem?_map, List.getElem?_eq_getElem hj, List.getElem?_map, List.getElem?_reverse (by rw [Array.length_toList]; omega)]
    have : x.cps.toList[x.cps.toList.length - 1 - j]? = some c := by simpa using hc
    rw [this]
    simp [e1]
  · rw [List.getElem?_eq_none (by simp; omega), List.getElem?_eq_none (by simp; omega)]
theorem join_rev {Q : Value → Shared → Prop} {I : Addr} {x sep : Str} {t u : Tok} (hh : A.handled = none) (hit : IsRev s.heap I x t ((x.cps.size : Int) - 1)) (hz : x.length + x.length * sep.length ≤ 16777216)
    (hq : ∀ s' : Shared, (∀ b o, b ≠ I → s.heap.get? b = some o → s'.heap.get? b = some o) → s'.gens = s.gens → s'.drawn = s.drawn → s'.os = s.os → ∀ t' k, Q (.str (Txt.join sep (x.cps.toList.reverse.map fun c => (⟨#[c]⟩ : Str))) t') { s' with toks := k }) :
    wpAny (model prog w) A (call (.builtin "str.join") [.str sep u, .ref I]) Q E s := by
  have hsz : x.length ≤ sizeLine := by rw [sizeLine_eq]; omega
  refine wpAny_call (codeAny_call_builtin F.slot_str_join.plain F.entry_str_join (F.slot_str_join.check _ _ _ _ _ _ _ _ (typeIs_str _ _ _) (F.args_str_join_2 _ _) ?_))
  rw [join_tree_other]
  refine wpAny_bind (wpAny_typeOf hit.typeIs ?_)
  show wpAny _ A.in1 ((pyIter (.ref I)).tryCatch _ >>= fun it => collect it >>= fun items => joinTail sep items) _ _ s
  refine wpAny_bind (wpAny_tryCatch (iter_self hit ?_))
  refine wpAny_bind (collect_rev hh hit hsz fun s' acc h1 h2 h3 h4 hacc => ?_)
  obtain ⟨l, hl⟩ := exists_strValues acc.toList fun v hv => by
    obtain ⟨j, hj, rfl⟩ := Array.mem_iff_getElem.mp (Array.mem_toList_iff.mp hv)
    obtain ⟨c, u, _, e⟩ := hacc.2 j _ (Array.getElem?_eq_getElem hj)
    exact ⟨_, _, e⟩
  rw [← hl]
  have hacc' : ItemsOf (RevAt x) (strValues l).toArray x.cps.size := by rw [hl]; simpa using hacc
  have ht := revs_of hacc'
  have hok := joinOk_of (sep := sep) (ys := l.map (·.1)) (by
    rw [ht, List.length_map, List.length_reverse, Array.length_toList]
    have e : ((x.cps.toList.reverse.map fun c => (⟨#[c]⟩ : Str)).map (·.length)).sum = x.cps.size := by
      rw [List.map_map]
      have : ((fun y : Str => y.length) ∘ fun c => (⟨#[c]⟩ : Str)) = fun _ => 1 := rfl
      rw [this]
      have key : ∀ l : List Nat, (l.map fun _ => 1).sum = l.length := fun l => by
        induction l with
        | nil => rfl
        | cons a r ih => rw [List.map_cons, List.sum_cons, ih, List.length_cons]; omega
      rw [key, List.length_reverse, Array.length_toList]
    rw [e]; exact hz)
  unfold JoinOk at hok
  rw [Bool.not_eq_true'] at hok
  have g : Gives (joinTail sep (strValues l)) (joinMade sep l) := by
    have g0 := gives_joinTail sep l hok
    cases l with
    | nil => exact g0
    | cons p r => cases r with
      | nil => exact g0
      | cons q r' => exact g0
  refine g prog w A (wants Q E) s' (post_join l ⟨joinFit_length hok, fun t' k => ?_⟩)
  rw [ht]
  exact hq s' h1 h2 h3 h4 t' k
end
end RV
end L2
end

section
set_option Elab.async false
set_option linter.all false
set_option maxRecDepth 100000
namespace L2
open PySem PySem.Spec PyProof.Rows
section
variable {X : Cx} {o e st : Expr} {to te tst : TE} {apos cpos rpos pos p p2 : Pos}
/-- sep.join(reversed(e)), of a text -/
def tJoinRev (to te : TE) : TE := fun σ H Q => to σ H fun x H1 => x = .str (S []) ∧ te σ H1 fun y H2 => ∃ l, y = .str (S l) ∧ l.length ≤ 1000 ∧ ∀ H', Same H2 H' → Q (.str (S l.reverse)) H'
theorem pe_joinRev (hc : X.calm = true) (ho : PE X o to) (hg : Gl X "reversed") (hm : X.mg "reversed" = none) (he : PE X e te)
    (hbase : attributeBase o "join" X.env (eval o X.env) = eval o X.env := by rfl)
    (hfew : ((backTo cpos (starEach [.Call (.Name "reversed" p) [e] [] rpos] X.env)).all (fun x => !x.1) && (backToKw cpos (keywordEach [] X.env)).all (fun x => x.1.isSome)
      && decide (([.Call (.Name "reversed" p) [e] [] rpos] : List Expr).length + ([] : List Keyword).length + (if ([] : List Keyword).isEmpty then 0 else 1) < 30)) = true := by rfl)
    (hline : (apos.endLine == cpos.line) = true := by rfl) (hs : starEach [e] X.env = [(false, eval e X.env)] := by rfl) :
    PE X (.Call (.Attribute o "join" apos) [.Call (.Name "reversed" p) [e] [] rpos] [] cpos) (tJoinRev to te) := by
  intro pins s σ H Q I h
  refine wpAny_Call_method_late hbase hfew hline rfl (thn (ho pins s σ H _ I h) fun v s1 ⟨x, H1, I1, r1, ex, q1⟩ => ?_)
  subst ex
  obtain ⟨t, rfl⟩ := r1
  refine ⟨"str", "str.join", PySem.F.plainAttrs_str, PySem.F.slot_str_join, PySem.F.type_str_join, typeIs_str s1 _ t, (fun _ z => nomatch z), ?_⟩
  refine Calls.callWith_builtin rfl (Calls.evalArgs_plain ?_)
  show wpAny _ _ (spliced [(false, eval (.Call (.Name "reversed" p) [e] [] rpos) X.env)]) _ _ s1
  refine Calls.spliced_cons ?_
  refine wpAny_Call_Name_kw (ld_blt I1 hg hm PyProof.Rows.boot_reversed ?_ (by decide) (by decide))
  refine PyProof.Rows.callWith_type1 (thn (pa_cons he pa_nil hs rpos pins s1 σ H1 (fun vs H2 => match vs with | [y] => ∃ l, y = .str (S l) ∧ l.length ≤ 1000 ∧ ∀ H', Same H2 H' → Q (.str (S l.reverse)) H' | _ => False) I1 q1) fun us s2 ⟨vs, H2, I2, r2, q2⟩ => ?_) hs rfl
  obtain ⟨y, rfl⟩ : ∃ y, vs = [y] := by
    match vs, q2 with
    | [y], _ => exact ⟨y, rfl⟩
  obtain ⟨l, ey, hl, q⟩ := q2
  subst ey
  obtain ⟨u, rfl, ru⟩ := vals1 r2
  obtain ⟨t2, rfl⟩ := ru
  have hz : (S l).length ≤ sizeLine := Nat.le_of_lt (small1000 hl)
  refine RV.call_reversed hz fun k => ?_
  have I3 : Inv X pins σ H2 { s2 with heap := s2.heap.push (RV.revS (S l) t2 (((S l).length : Int) - 1)), toks := k } := I2.kept fun b ob z => Heap.get?_push_of_some _ z
  have fp := I2.fpOk (b := s2.heap.objs.size) (Nat.le_refl _) I2.fresh
  refine Calls.spliced_nil ?_
  refine RV.join_rev (I.ok.hd hc) ⟨_, Heap.get?_push_size _ rfl, rfl, rfl⟩ (by rw [S_len, S_len]; simp; omega) fun s4 k1 k2 k3 k4 t' k' => ?_
  have I4 : Inv X pins σ H2 { s4 with toks := k' } := by
    obtain ⟨f0, f1, f2, f3, f4, f5⟩ := fp
    have I5 := I3.turned (h' := s4.heap) (t' := k') (it := s2.heap.objs.size) (fun b ob hb z => k1 b ob hb z) f0 f1 f3 f4 f5
    obtain ⟨h', g', d', t'', o'⟩ := s4
    simp only at k2 k3 k4
    subst k2 k3 k4
    exact I5
  have e : Txt.join (S []) ((S l).cps.toList.reverse.map fun c => (⟨#[c]⟩ : Str)) = S l.reverse := by
    have := joinNil (l.reverse.map fun c => [c])
    rw [List.map_map] at this
    rw [S_cps]
    refine Eq.trans this ?_
    congr 1
    generalize l.reverse = m
    induction m with
    | nil => rfl
    | cons c r ih => rw [List.map_cons, List.flatten_cons, ih]; rfl
  exact ⟨.str (S l.reverse), H2, I4, ⟨t', congrArg (fun z => Value.str z t') e⟩, q H2 (Same.refl _)⟩

theorem fm_map {α β : Type} {f : α → Option β} {g : α → β} : ∀ l : List α, (∀ k ∈ l, f k = some (g k)) → l.filterMap f = l.map g
  | [], _ => rfl
  | a :: r, h => by
    rw [List.filterMap_cons, h a List.mem_cons_self, List.map_cons, fm_map r fun k hk => h k (List.mem_cons_of_mem _ hk)]
/-- text[::-1] -/
def tRevS (te tst : TE) : TE := fun σ H Q => te σ H fun x H1 => tst σ H1 fun y H2 => ∃ l, x = .str (S l) ∧ y = .int (-1) ∧ l.length ≤ sizeLine ∧ Q (.str (S l.reverse)) H2
theorem pe_revS (he : PE X e te) (hst : PE X st tst) : PE X (.Subscript e (.Slice none none (some st) p2) pos) (tRevS te tst) := by
  intro pins s σ H Q I h
  refine Subscript_ (thn (he pins s σ H _ I h) fun v s1 ⟨x, H1, I1, r1, q1⟩ => ?_)
  refine wpAny_Slice ?_
  rw [evalPart_none, evalPart_some]
  refine wpAny_pure (wpAny_pure (thn (hst pins s1 σ H1 _ I1 q1) fun vst s2 ⟨y, H2, I2, r2, l, ex, ey, hz, q⟩ => ?_))
  subst ex ey
  obtain ⟨t, rfl⟩ := r1
  obtain ⟨t2, rfl⟩ := r2
  have I4 : Inv X pins σ H2 { s2 with heap := s2.heap.push { cls := .type "slice", data := .fields #[.none, .none, .int (-1) t2] } } := I2.kept (t' := s2.toks) fun b ob z => Heap.get?_push_of_some _ z
  show wpAny (model X.prog X.w) X.A (subscriptTail e (.Slice none none (some st) p2) (.str (S l) t) (.ref s2.heap.objs.size)) (EP X pins σ Q) X.xe { s2 with heap := s2.heap.push { cls := .type "slice", data := .fields #[.none, .none, .int (-1) t2] } }
  refine tail_any (ops := [.ref s2.heap.objs.size, .str (S l) t]) (typeIs_str _ _ _) PySem.F.slot_str_getitem.lookup ?_ (by with_unfolding_all rfl)
  refine wpAny_getItem_str_slice (l := none) (u := none) (st := some (-1, t2)) ⟨_, Heap.get?_push_size _ rfl, rfl, rfl⟩ rfl ?_
  have ep : slicePicked (S l) none none (some (-1, t2)) = (List.range l.length).map fun k => l.length - 1 - k := picked_rev l.length
  have er : ((slicePicked (S l) none none (some (-1, t2))).filterMap ((S l).cps[·]?)) = l.reverse := by
    rw [ep]
    refine List.ext_getElem? fun j => ?_
    have hm : ((List.range l.length).map fun k => l.length - 1 - k).filterMap ((S l).cps[·]?) = (List.range l.length).map fun k => l.getD (l.length - 1 - k) 0 := by
      rw [List.filterMap_map]
      refine fm_map _ fun k hk => ?_
      have hk' := List.mem_range.mp hk
      show (l.toArray)[l.length - 1 - k]? = some (l.getD (l.length - 1 - k) 0)
      simp [List.getD, show l.length - 1 - k < l.length by omega]
    rw [hm, List.getElem?_map]
    by_cases hj : j < l.length
    · rw [List.getElem?_range hj, List.getElem?_reverse hj]
      simp [List.getD, show l.length - 1 - j < l.length by omega]
    · rw [List.getElem?_eq_none (by simpa using hj), List.getElem?_eq_none (by simpa using hj)]; rfl
  unfold sliceMade
  rw [if_neg (by simp)]
  rw [er]
  refine ⟨?_, .str (S l.reverse), H2, I4.tok _, ⟨_, rfl⟩, q⟩
  show l.reverse.toArray.size ≤ sizeLine
  simpa using hz
end
end L2
end

section
set_option Elab.async false
set_option linter.all false
set_option maxRecDepth 100000
/-! The judgements closed up (so that no elaborator looks into them), and the rules over them. -/
namespace L2
open PySem PySem.Spec PyProof.Rows
structure QE (X : Cx) (e : Expr) (t : TE) : Prop where
  out : PE X e t
structure QT (X : Cx) (e : Expr) (t : TT) : Prop where
  out : PT X e t
structure QW (X : Cx) (e : Expr) (t : TT) : Prop where
  out : PW X e t
structure QA (X : Cx) (es : List Expr) (t : TA) : Prop where
  out : PA X es t
structure QS (X : Cx) (st : Stmt) (t : TS) : Prop where
  out : PS X st t
structure QSs (X : Cx) (st : List Stmt) (t : TS) : Prop where
  out : PSs X st t
structure QG (X : Cx) (e : Expr) (t : TG) : Prop where
  out : PG X e t
structure QGs (X : Cx) (es : List Expr) (t : TGs) : Prop where
  out : PGs X es t
structure QI (X : Cx) (tg iter : Expr) (wi : TI) : Prop where
  out : PI X tg iter wi
structure QO (X : Cx) (e : Option Expr) (t : TO) : Prop where
  out : PO X e t
structure QC (X : Cx) (op : CmpOp) (a b : Expr) (t : TE) : Prop where
  out : PC X op a b t
structure QTs (X : Cx) (ifs : List Expr) (t : TT) : Prop where
  out : PTs X ifs t
theorem QW.qt {X : Cx} {e : Expr} {t : TT} (h : QW X e t) : QT X e t := ⟨h.out.pt⟩
section
variable {X : Cx} {st : Stmt} {rest : List Stmt} {t u : TS} {e : Expr} {te : TE} {pos : Pos}
theorem qss_nil  : QSs X [] tNext :=
  ⟨pss_nil⟩
end
section
variable {X : Cx} {st : Stmt} {rest : List Stmt} {t u : TS} {e : Expr} {te : TE} {pos : Pos}
theorem qss_cons (h1 : QS X st t) (h2 : QSs X rest u) : QSs X (st :: rest) (tSeq t u) :=
  ⟨pss_cons h1.out h2.out⟩
end
section
variable {X : Cx} {st : Stmt} {rest : List Stmt} {t u : TS} {e : Expr} {te : TE} {pos : Pos}
theorem qss_one (h1 : QS X st t) : QSs X [st] t :=
  ⟨pss_one h1.out⟩
end
section
variable {X : Cx} {st : Stmt} {rest : List Stmt} {t u : TS} {e : Expr} {te : TE} {pos : Pos}
theorem qs_if {c : Expr} {a b : List Stmt} {tc : TT} (hc : QT X c tc) (ha : QSs X a t) (hb : QSs X b u) : QS X (.If c a b pos) (tIfS tc t u) :=
  ⟨ps_if hc.out ha.out hb.out⟩
end
section
variable {X : Cx} {st : Stmt} {rest : List Stmt} {t u : TS} {e : Expr} {te : TE} {pos : Pos}
theorem qs_ret (he : QE X e te) : QS X (.Return (some e) pos) (tRet te) :=
  ⟨ps_ret he.out⟩
end
section
variable {X : Cx} {st : Stmt} {rest : List Stmt} {t u : TS} {e : Expr} {te : TE} {pos : Pos}
theorem qs_retN  : QS X (.Return none pos) tRetN :=
  ⟨ps_retN⟩
end
section
variable {X : Cx} {st : Stmt} {rest : List Stmt} {t u : TS} {e : Expr} {te : TE} {pos : Pos}
theorem qs_expr (he : QE X e te) (hs : swapsWith e none pos.line X.env = pure false := by rfl) : QS X (.Expr e pos) (tDrop te) :=
  ⟨ps_expr he.out hs⟩
end
section
variable {X : Cx} {tg : Expr}
theorem qs_for {iter : Expr} {body : List Stmt} {wi : TI} {g : TG} {tb : TS} {pos : Pos} (hp : PassesOwn (model X.prog X.w) X.A X.env X.xe) (hc : X.calm = true) (hi : QI X tg iter wi) (hg : QG X tg g) (hb : QSs X body tb) (hs : ∀ x, foldedSetIterable iter X.env x = pure x := by intro _; rfl) : QS X (.For tg iter body [] pos) (tFor wi g tb) :=
  ⟨ps_for hp hc hi.out hg.out hb.out hs⟩
end
section
variable {X : Cx} {st : Stmt} {rest : List Stmt} {t u : TS} {e : Expr} {te : TE} {pos : Pos}
theorem qs_while {c : Expr} {body : List Stmt} {tc : TT} {tb : TS} (hp : PassesOwn (model X.prog X.w) X.A X.env X.xe) (hc : QT X c tc) (hb : QSs X body tb) : QS X (.While c body [] pos) (tWhile tc tb) :=
  ⟨ps_while hp hc.out hb.out⟩
end
section
variable {X : Cx} {pos : Pos}
theorem qs_set {i : Nat} {x : Str} {e : Expr} {te : TE} {pos' : Pos} (hN : X.N.Nodup) (hi : X.N[i]? = some x) (hx : Loc X.env.scope x) (he : QE X e te) (hs : swapsWith e (some (.Name x pos')) pos.line X.env = pure false := by rfl) (hf : X.fn x = true ∨ X.env.scope.names.lookup x = some .local := by first | exact .inl rfl | exact .inr rfl | assumption) : QS X (.Assign [.Name x pos'] e pos) (tAsg te (gName i)) :=
  ⟨ps_set hN hi hx he.out hs hf⟩
end
section
variable {X : Cx} {st : Stmt} {rest : List Stmt} {t u : TS} {e : Expr} {te : TE} {pos : Pos}
theorem qs_never  : QS X st tNever :=
  ⟨ps_never⟩
end
section
variable {X : Cx} {st : Stmt} {rest : List Stmt} {t u : TS} {e : Expr} {te : TE} {pos : Pos}
theorem qss_never {sts : List Stmt} : QSs X sts tNever :=
  ⟨pss_never⟩
end
section
variable {X : Cx} {st : Stmt} {rest : List Stmt} {t u : TS} {e : Expr} {te : TE} {pos : Pos}
theorem qs_pass  : QS X (.Pass pos) tNext :=
  ⟨ps_pass⟩
end
section
variable {X : Cx} {o e value : Expr} {f : Str} {pos pos' tpos : Pos} {ta tv : TE}
theorem qs_fld (ha : QE X o ta) (hv : QE X value tv) (hs : swapsWith value (some (.Attribute o f pos')) pos.line X.env = pure false) : QS X (.Assign [.Attribute o f pos'] value pos) (sFld X.K ta tv f) :=
  ⟨ps_fld ha.out hv.out hs⟩
end
section
variable {X : Cx} {pos : Pos}
theorem qs_asg {tg e : Expr} {te : TE} {g : TG} (he : QE X e te) (hg : QG X tg g) (hs : swapsWithSole [tg] e pos.line X.env = pure false := by rfl) (hw : swappedStores [tg] e X.env = pure none := by rfl) (h1 : (assignEach [tg] X.env).map (·.2) = [assign tg X.env] := by rfl) : QS X (.Assign [tg] e pos) (tAsg te g) :=
  ⟨ps_asg he.out hg.out hs hw h1⟩
end
section
variable {X : Cx} {pos : Pos}
theorem qg_name {i : Nat} {x : Str} (hN : X.N.Nodup) (hi : X.N[i]? = some x) (hx : Loc X.env.scope x) (hf : X.fn x = true ∨ X.env.scope.names.lookup x = some .local := by first | exact .inl rfl | exact .inr rfl | assumption) : QG X (.Name x pos) (gName i) :=
  ⟨pg_name hN hi hx hf⟩
end
section
variable {X : Cx} {pos : Pos}
theorem qg_tup {es : List Expr} {k : Nat} {t : TGs} {n : Nat} (hc : X.calm = true) (h : QGs X es t) (hn : (assignEach es X.env).length = n := by rfl) (hst : (assignEach es X.env).findIdx? (·.1) = none := by rfl) : QG X (.Tuple es k pos) (gTup X.K n t) :=
  ⟨pg_tup hc h.out hn hst⟩
end
section
variable {X : Cx} {pos : Pos}
theorem qgs_nil  : QGs X [] gNil :=
  ⟨pgs_nil⟩
end
section
variable {X : Cx} {pos : Pos}
theorem qgs_cons {e : Expr} {es : List Expr} {t : TG} {u : TGs} (h1 : QG X e t) (h2 : QGs X es u) (hs : (assignEach (e :: es) X.env).map (·.2) = assign e X.env :: (assignEach es X.env).map (·.2) := by rfl) : QGs X (e :: es) (gCons t u) :=
  ⟨pgs_cons h1.out h2.out hs⟩
end
section
variable {X : Cx} 
theorem qe_int {i j pos} : QE X (.Constant (.int i) j pos) (tC (.int i)) :=
  ⟨pe_int⟩
end
section
variable {X : Cx} 
theorem qe_bl {b j pos} : QE X (.Constant (.bool b) j pos) (tC (.bl b)) :=
  ⟨pe_bl⟩
end
section
variable {X : Cx} 
theorem qe_non {j pos} : QE X (.Constant .none j pos) (tC .non) :=
  ⟨pe_non⟩
end
section
variable {X : Cx} {a b c : Expr} {ta tb tc : TE} {pos : Pos}
theorem qe_op {op : Operator} {r : R2} (ho : OpR X (binaryOp op) r) (ha : QE X a ta) (hb : QE X b tb) : QE X (.BinOp a op b pos) (tOp r ta tb) :=
  ⟨pe_op ho ha.out hb.out⟩
end
section
variable {X : Cx} {a b c : Expr} {ta tb tc : TE} {pos : Pos}
theorem qe_un {op : UnaryOp} {r : V → Hp → VK → Prop} (ho : UnR X (unaryOp op) r) (ha : QE X a ta) : QE X (.UnaryOp op a pos) (tUn r ta) :=
  ⟨pe_un ho ha.out⟩
end
section
variable {X : Cx} {a b c : Expr} {ta tb tc : TE} {pos : Pos}
theorem qe_cmpR {op : CmpOp} {r : R2} (ho : OpR X (compareOp op) r) (ha : QE X a ta) (hb : QE X b tb) (hm : behindInMarks op b = false) : QE X (.Compare a [op] [b] pos) (tOp r ta tb) :=
  ⟨pe_cmpR ho ha.out hb.out hm⟩
end
section
variable {X : Cx} {a b c : Expr} {ta tb tc : TE} {pos : Pos}
theorem qt_cmpR {op : CmpOp} {r : R2} (ho : OpR X (compareOp op) r) (ha : QE X a ta) (hb : QE X b tb) (hm : behindInMarks op b = false) : QT X (.Compare a [op] [b] pos) (tTest (tOp r ta tb)) :=
  ⟨pt_cmpR ho ha.out hb.out hm⟩
end
section
variable {X : Cx} {a b c : Expr} {ta tb tc : TE} {pos : Pos}
theorem qe_chain {op op' : CmpOp} {r r' : R2} (ho : OpR X (compareOp op) r) (ho' : OpR X (compareOp op') r') (ha : QE X a ta) (hb : QE X b tb) (hc : QE X c tc) (hm : lastMarks [op, op'] [b, c] = false := by with_unfolding_all rfl) : QE X (.Compare a [op, op'] [b, c] pos) (tChain r r' ta tb tc) :=
  ⟨pe_chain ho ho' ha.out hb.out hc.out hm⟩
end
section
variable {X : Cx} {a b c : Expr} {ta tb tc : TE} {pos : Pos}
theorem qt_chain {op op' : CmpOp} {r r' : R2} (ho : OpR X (compareOp op) r) (ho' : OpR X (compareOp op') r') (ha : QE X a ta) (hb : QE X b tb) (hc : QE X c tc) (hm : lastMarks [op, op'] [b, c] = false := by with_unfolding_all rfl) : QT X (.Compare a [op, op'] [b, c] pos) (tTest (tChain r r' ta tb tc)) :=
  ⟨pt_chain ho ho' ha.out hb.out hc.out hm⟩
end
section
variable {X : Cx} {a b : Expr} {ta tb : TE} {pos : Pos} {tA tB' : TT} {rest : List Expr}
theorem qt_val {e : Expr} {t : TE} (h : QE X e t) (he : ∀ whole, isTrue e X.env whole = (do let v ← whole; standAt e.pos; holding [v] (truthy v)) := by intro _; rfl) : QT X e (tB t) :=
  ⟨pt_val h.out he⟩
end
section
variable {X : Cx} {a b c : Expr} {ta tb tc : TE} {pos : Pos}
theorem qt_truth (ha : QE X a ta) (he : ∀ whole, isTrue a X.env whole = (do let v ← whole; standAt a.pos; holding [v] (truthy v))) : QT X a (fun σ H Q => ta σ H fun x H' => ∃ k, TruV X.K x H' k ∧ Q k H') :=
  ⟨pt_truth ha.out he⟩
end
section
variable {X : Cx} {a b : Expr} {ta tb : TE} {pos : Pos} {tA tB' : TT} {rest : List Expr}
theorem qt_not (ha : QT X a tA) : QT X (.UnaryOp .Not a pos) (tNot tA) :=
  ⟨pt_not ha.out⟩
end
section
variable {X : Cx} {a b : Expr} {ta tb : TE} {pos : Pos} {tA tB' : TT} {rest : List Expr}
theorem qw_and (ha : QT X a tA) (hb : QW X (.BoolOp .And (b :: rest) pos) tB') : QW X (.BoolOp .And (a :: b :: rest) pos) (tAnd tA tB') :=
  ⟨pw_and ha.out hb.out⟩
end
section
variable {X : Cx} {a b : Expr} {ta tb : TE} {pos : Pos} {tA tB' : TT} {rest : List Expr}
theorem qw_and1 (ha : QT X a tA) : QW X (.BoolOp .And [a] pos) tA :=
  ⟨pw_and1 ha.out⟩
end
section
variable {X : Cx} {a b : Expr} {ta tb : TE} {pos : Pos} {tA tB' : TT} {rest : List Expr}
theorem qw_or (ha : QT X a tA) (hb : QW X (.BoolOp .Or (b :: rest) pos) tB') : QW X (.BoolOp .Or (a :: b :: rest) pos) (tOr tA tB') :=
  ⟨pw_or ha.out hb.out⟩
end
section
variable {X : Cx} {a b : Expr} {ta tb : TE} {pos : Pos} {tA tB' : TT} {rest : List Expr}
theorem qw_or1 (ha : QT X a tA) : QW X (.BoolOp .Or [a] pos) tA :=
  ⟨pw_or1 ha.out⟩
end
section
variable {X : Cx} {a b : Expr} {ta tb : TE} {pos : Pos} {tA tB' : TT} {rest : List Expr}
theorem qe_and (ha : QE X a ta) (hb : QE X (.BoolOp .And (b :: rest) pos) tb) : QE X (.BoolOp .And (a :: b :: rest) pos) (tAndV ta tb) :=
  ⟨pe_and ha.out hb.out⟩
end
section
variable {X : Cx} {a b : Expr} {ta tb : TE} {pos : Pos} {tA tB' : TT} {rest : List Expr}
theorem qe_or (ha : QE X a ta) (hb : QE X (.BoolOp .Or (b :: rest) pos) tb) : QE X (.BoolOp .Or (a :: b :: rest) pos) (tOrV ta tb) :=
  ⟨pe_or ha.out hb.out⟩
end
section
variable {X : Cx} {a b : Expr} {ta tb : TE} {pos : Pos} {tA tB' : TT} {rest : List Expr}
theorem qe_one {op} {t : TE} (h : QE X a t) : QE X (.BoolOp op [a] pos) t :=
  ⟨pe_one h.out⟩
end
section
variable {X : Cx} {a b : Expr} {ta tb : TE} {pos : Pos} {tA tB' : TT} {rest : List Expr}
theorem qe_not (ha : QE X a ta) : QE X (.UnaryOp .Not a pos) (tNotV ta) :=
  ⟨pe_not ha.out⟩
end
section
variable {X : Cx} {a b : Expr} {ta tb : TE} {pos : Pos} {tA tB' : TT} {rest : List Expr}
theorem qe_ifExp {c : Expr} (hc : QT X c tA) (ha : QE X a ta) (hb : QE X b tb) : QE X (.IfExp c a b pos) (tIf tA ta tb) :=
  ⟨pe_ifExp hc.out ha.out hb.out⟩
end
section
variable {X : Cx} {a b c : Expr} {ta tb tc : TE} {pos : Pos}
theorem qe_ix {r : R2} (hr : IxR X r) (ha : QE X a ta) (hb : QE X b tb) (hs : PlainIx b) : QE X (.Subscript a b pos) (tOp r ta tb) :=
  ⟨pe_ix hr ha.out hb.out hs⟩
end
section
variable {X : Cx} {e : Expr} {te : TE} {lo hi : Option Expr} {tl th : TO} {pos p2 : Pos}
theorem qe_slice {r : V → Option Int → Option Int → Hp → VK → Prop} (hr : SlR X r) (he : QE X e te) (hl : QO X lo tl) (hu : QO X hi th) : QE X (.Subscript e (.Slice lo hi none p2) pos) (tSl r te tl th) :=
  ⟨pe_slice hr he.out hl.out hu.out⟩
end
section
variable {X : Cx} {e : Expr} {te : TE} {lo hi : Option Expr} {tl th : TO} {pos p2 : Pos}
theorem qo_none  : QO X none tNoPart :=
  ⟨po_none⟩
end
section
variable {X : Cx} {e : Expr} {te : TE} {lo hi : Option Expr} {tl th : TO} {pos p2 : Pos}
theorem qo_some (h : QE X e te) : QO X (some e) (tPart te) :=
  ⟨po_some h.out⟩
end
section
variable {X : Cx} {e : Expr} {es : List Expr} {te : TE} {t : TA} {pos : Pos}
theorem qe_lst (h : QA X es t) : QE X (.List es pos) (tLst t) :=
  ⟨pe_lst h.out⟩
end
section
variable {X : Cx} {e : Expr} {es : List Expr} {te : TE} {t : TA} {pos : Pos}
theorem qe_tup {x1} (h : QA X es t) : QE X (.Tuple es x1 pos) (tTup t) :=
  ⟨pe_tup h.out⟩
end
section
variable {X : Cx} {e : Expr} {es : List Expr} {te : TE} {t : TA} {pos : Pos}
theorem qa_nil  : QA X [] tNil :=
  ⟨pa_nil⟩
end
section
variable {X : Cx} {e : Expr} {es : List Expr} {te : TE} {t : TA} {pos : Pos}
theorem qa_cons (ha : QE X e te) (hr : QA X es t) (hs : starEach (e :: es) X.env = (false, eval e X.env) :: starEach es X.env := by rfl) : QA X (e :: es) (tCons te t) :=
  ⟨pa_cons ha.out hr.out hs⟩
end
section
variable {X : Cx} {x : Str} {p pos : Pos} {e : Expr} {es : List Expr} {t : TA} {id T : String} {r : List V → Hp → VK → Prop}
theorem qe_callB (hc : CallR X (.builtin id) r) (hg : Gl X x) (hm : X.mg x = none) (hv : bootBuiltins x = some (.builtin id)) (ha : QA X (e :: es) t) (hn : x ≠ "__name__" := by decide) (hdb : (x == ("__debug__" : Str)) = false := by decide) (he : starEach (e :: es) X.env = (false, eval e X.env) :: starEach es X.env := by rfl) (hpl : (backTo pos (starEach es X.env)).any (·.1) = false := by rfl) : QE X (.Call (.Name x p) (e :: es) [] pos) (tCB r t) :=
  ⟨pe_callB hc hg hm hv ha.out hn hdb he hpl⟩
end
section
variable {X : Cx} {x : Str} {p pos : Pos} {e : Expr} {es : List Expr} {t : TA} {id T : String} {r : List V → Hp → VK → Prop}
theorem qe_callTy (hc : CallR X (.type T) r) (hg : Gl X x) (hm : X.mg x = none) (hv : bootBuiltins x = some (.type T)) (ha : QA X (e :: es) t) (hn : x ≠ "__name__" := by decide) (hdb : (x == ("__debug__" : Str)) = false := by decide) (he : starEach (e :: es) X.env = (false, eval e X.env) :: starEach es X.env := by rfl) (hpl : (backTo pos (starEach es X.env)).any (·.1) = false := by rfl) : QE X (.Call (.Name x p) (e :: es) [] pos) (tCB r t) :=
  ⟨pe_callTy hc hg hm hv ha.out hn hdb he hpl⟩
end
section
variable {X : Cx} {x : Str} {p pos : Pos} {e : Expr} {es : List Expr} {t : TA} {id T : String} {r : List V → Hp → VK → Prop}
theorem qe_callTy0 (hc : CallR X (.type T) r) (hg : Gl X x) (hm : X.mg x = none) (hv : bootBuiltins x = some (.type T)) (hn : x ≠ "__name__" := by decide) (hdb : (x == ("__debug__" : Str)) = false := by decide) : QE X (.Call (.Name x p) [] [] pos) (tCB r tNil) :=
  ⟨pe_callTy0 hc hg hm hv hn hdb⟩
end
section
variable {X : Cx} {o e : Expr} {es : List Expr} {to : TE} {t : TA} {name : Str} {apos cpos : Pos} {T id : String} {r : V → List V → Hp → VK → Prop}
theorem qe_bm (pa : PlainAttrs T) (slot : Slot T name id) (hty : typeOf (.builtin id) = pure (.type "method_descriptor")) (hm : MtR X id r) (ho : QE X o to) (ha : QA X (e :: es) t) (hbase : attributeBase o name X.env (eval o X.env) = eval o X.env := by rfl) (hfew : ((backTo cpos (starEach (e :: es) X.env)).all (fun x => !x.1) && (backToKw cpos (keywordEach [] X.env)).all (fun x => x.1.isSome)
      && decide ((e :: es).length + ([] : List Keyword).length + (if ([] : List Keyword).isEmpty then 0 else 1) < 30)) = true := by rfl) (hline : (apos.endLine == cpos.line) = true := by rfl) (hs : starEach (e :: es) X.env = (false, eval e X.env) :: starEach es X.env := by rfl) (hplain : (backTo cpos (starEach es X.env)).any (·.1) = false := by rfl) : QE X (.Call (.Attribute o name apos) (e :: es) [] cpos) (tBM X.K T r to t) :=
  ⟨pe_bm pa slot hty hm ho.out ha.out hbase hfew hline hs hplain⟩
end
section
variable {X : Cx} {o e : Expr} {es : List Expr} {to : TE} {t : TA} {name : Str} {apos cpos : Pos} {T id : String} {r : V → List V → Hp → VK → Prop}
theorem qe_bm0 (pa : PlainAttrs T) (slot : Slot T name id) (hty : typeOf (.builtin id) = pure (.type "method_descriptor")) (hm : MtR X id r) (ho : QE X o to) (hbase : attributeBase o name X.env (eval o X.env) = eval o X.env := by rfl) (hline : (apos.endLine == cpos.line) = true := by rfl) : QE X (.Call (.Attribute o name apos) [] [] cpos) (tBM0 X.K T r to) :=
  ⟨pe_bm0 pa slot hty hm ho.out hbase hline⟩
end
section
variable {X : Cx} 
theorem qe_bltn {x : Str} {v : V} {u : Value} {pos : Pos} (hg : Gl X x) (hm : X.mg x = none) (hv : bootBuiltins x = some u) (r : RelV v u) (hn : x ≠ "__name__" := by decide) (hd : (x == ("__debug__" : Str)) = false := by decide) : QE X (.Name x pos) (tC v) :=
  ⟨pe_bltn hg hm hv r hn hd⟩
end
section
variable {X : Cx} 
theorem qe_glob {x : Str} {v : V} {u : Value} {pos : Pos} (hg : Gl X x) (hm : X.mg x = some u) (r : RelV v u) (hd : (x == ("__debug__" : Str)) = false := by decide) : QE X (.Name x pos) (tC v) :=
  ⟨pe_glob hg hm r hd⟩
end
section
variable {X : Cx} {tg : Expr}
theorem qi_list {l : Expr} {tl : TE} (hl : QE X l tl) : QI X tg l (iList X.K tl) :=
  ⟨pi_list hl.out⟩
end
section
variable {X : Cx} {tg : Expr}
theorem qi_tup {l : Expr} {tl : TE} (hl : QE X l tl) : QI X tg l (iTup X.K tl) :=
  ⟨pi_tup hl.out⟩
end
section
variable {X : Cx} {tg : Expr}
theorem qi_range1 {a : Expr} {ta : TA} {p pos : Pos} (hg : Gl X "range") (hm : X.mg "range" = none) (ha : QA X [a] ta) (hs : starEach [a] X.env = [(false, eval a X.env)] := by rfl) : QI X tg (.Call (.Name "range" p) [a] [] pos) (iRng1 ta) :=
  ⟨pi_range1 hg hm ha.out hs⟩
end
section
variable {X : Cx} {tg : Expr}
theorem qi_range2 {a b : Expr} {ta : TA} {p pos : Pos} (hg : Gl X "range") (hm : X.mg "range" = none) (ha : QA X [a, b] ta) (hs : starEach [a, b] X.env = [(false, eval a X.env), (false, eval b X.env)] := by rfl) (hs2 : starEach [b] X.env = [(false, eval b X.env)] := by rfl) : QI X tg (.Call (.Name "range" p) [a, b] [] pos) (iRng2 ta) :=
  ⟨pi_range2 hg hm ha.out hs hs2⟩
end
section
variable {X : Cx} {o e value : Expr} {f : Str} {pos pos' tpos : Pos} {ta tv : TE}
theorem qe_fld (he : QE X e ta) (hb : attributeBase e f X.env (eval e X.env) = eval e X.env) : QE X (.Attribute e f pos) (tFld X.K ta f) :=
  ⟨pe_fld he.out hb⟩
end
section
variable {X : Cx} {CX : CXT} {k : Nat} {f C : Addr} {fd : FuncData} {ps : List Str} {sp : Sp} {dvs : List V} {ds : List Value} {E : XK} {x m : Str} {p pos apos : Pos} {e o : Expr} {es : List Expr} {ta : TE} {t : TA}
theorem qe_meth {pl : Sem Bool} (he : QE X o ta) (c : Cls X.K C) (hm : Meth X.K C m f) (F : FnOk X.prog X.w X.K X.mg X.base CX k f fd ps sp) (hr : Room k X.A) (hb : Binds X.K fd ps ds) (hd : Vals dvs ds) (hx : Passes CX X E) (ha : QA X (e :: es) t) (hst : starEach (e :: es) X.env = (false, eval e X.env) :: starEach es X.env := by rfl) (hpl : (backTo pos (starEach es X.env)).any (·.1) = false := by rfl) (ht : eval (.Call (.Attribute o m apos) (e :: es) [] pos) X.env = (do
      let ov ← eval o X.env
      standAt apos.atName
      let (f, first) ← holding [ov] (getMethod ov m pl)
      callWith pos f first (backTo pos (starEach (e :: es) X.env)) (backToKw pos (keywordEach [] X.env))) := by rfl) : QE X (.Call (.Attribute o m apos) (e :: es) [] pos) (tMeth C m sp dvs E ta t) :=
  ⟨pe_meth he.out c hm F hr hb hd hx ha.out hst hpl ht⟩
end
section
variable {X : Cx} {CX : CXT} {k : Nat} {f C : Addr} {fd : FuncData} {ps : List Str} {sp : Sp} {dvs : List V} {ds : List Value} {E : XK} {x m : Str} {p pos apos : Pos} {e o : Expr} {es : List Expr} {ta : TE} {t : TA}
theorem qe_meth0 {pl : Sem Bool} (he : QE X o ta) (c : Cls X.K C) (hm : Meth X.K C m f) (F : FnOk X.prog X.w X.K X.mg X.base CX k f fd ps sp) (hr : Room k X.A) (hb : Binds X.K fd ps ds) (hd : Vals dvs ds) (hx : Passes CX X E) (ht : eval (.Call (.Attribute o m apos) [] [] pos) X.env = (do
      let ov ← eval o X.env
      standAt apos.atName
      let (f, first) ← holding [ov] (getMethod ov m pl)
      callWith pos f first (backTo pos (starEach [] X.env)) (backToKw pos (keywordEach [] X.env))) := by rfl) : QE X (.Call (.Attribute o m apos) [] [] pos) (tMeth C m sp dvs E ta tNil) :=
  ⟨pe_meth0 he.out c hm F hr hb hd hx ht⟩
end
section
variable {X : Cx} {CX : CXT} {k : Nat} {f C : Addr} {fd : FuncData} {ps : List Str} {sp : Sp} {dvs : List V} {ds : List Value} {E : XK} {x m : Str} {p pos apos : Pos} {e o : Expr} {es : List Expr} {ta : TE} {t : TA}
theorem qe_make (M : Mk X.K C f) (F : FnOk X.prog X.w X.K X.mg X.base CX k f fd ps sp) (hr : Room (k + 1) X.A) (hg : Gl X x) (hm : X.mg x = some (.ref C)) (hb : Binds X.K fd ps ds) (hd : Vals dvs ds) (hx : Passes CX X E) (ha : QA X (e :: es) t) (hdb : (x == ("__debug__" : Str)) = false := by decide) (he : starEach (e :: es) X.env = (false, eval e X.env) :: starEach es X.env := by rfl) (hpl : (backTo pos (starEach es X.env)).any (·.1) = false := by rfl) : QE X (.Call (.Name x p) (e :: es) [] pos) (tMake C sp dvs E t) :=
  ⟨pe_make M F hr hg hm hb hd hx ha.out hdb he hpl⟩
end
section
variable {X : Cx} {CX : CXT} {k : Nat} {f C : Addr} {fd : FuncData} {ps : List Str} {sp : Sp} {dvs : List V} {ds : List Value} {E : XK} {x m : Str} {p pos apos : Pos} {e o : Expr} {es : List Expr} {ta : TE} {t : TA}
theorem qe_make0 (M : Mk X.K C f) (F : FnOk X.prog X.w X.K X.mg X.base CX k f fd ps sp) (hr : Room (k + 1) X.A) (hg : Gl X x) (hm : X.mg x = some (.ref C)) (hb : Binds X.K fd ps ds) (hd : Vals dvs ds) (hx : Passes CX X E) (hdb : (x == ("__debug__" : Str)) = false := by decide) : QE X (.Call (.Name x p) [] [] pos) (tMake C sp dvs E tNil) :=
  ⟨pe_make0 M F hr hg hm hb hd hx hdb⟩
end
section
variable {X : Cx} {o i value : Expr} {td ty tv : TE} {pos pos' : Pos}
theorem qe_dnewK  : QE X (.Dict [] [] pos) tDNewK :=
  ⟨pe_dnewK⟩
end
section
variable {X : Cx} {o i value : Expr} {td ty tv : TE} {pos pos' : Pos}
theorem qc_din (hu : X.A.units + 1 < cLine) (hi : QE X i ty) (ho : QE X o td) : QC X .In i o (tDIn ty td) :=
  ⟨pc_din hu hi.out ho.out⟩
end
section
variable {X : Cx} {o i value : Expr} {td ty tv : TE} {pos pos' : Pos}
theorem qc_dnotin (hu : X.A.units + 1 < cLine) (hi : QE X i ty) (ho : QE X o td) : QC X .NotIn i o (tDNotIn ty td) :=
  ⟨pc_dnotin hu hi.out ho.out⟩
end
section
variable {X : Cx} {o e : Expr} {td ty : TE} {apos cpos : Pos}
theorem qe_dpop1 (ho : QE X o td) (he : QE X e ty) (m : M1 X o "pop" apos e cpos) : QE X (.Call (.Attribute o "pop" apos) [e] [] cpos) (tDPop1 td ty) :=
  ⟨pe_dpop1 ho.out he.out m⟩
end
section
variable {X : Cx} {o i value : Expr} {td ty tv : TE} {pos pos' : Pos}
theorem qs_dput (hu : X.A.units + 1 < cLine) (ho : QE X o td) (hi : QE X i ty) (hv : QE X value tv) (hs : swapsWith value (some (.Subscript o i pos')) pos.line X.env = pure false) : QS X (.Assign [.Subscript o i pos'] value pos) (sDPut td ty tv) :=
  ⟨ps_dput hu ho.out hi.out hv.out hs⟩
end
section
variable {X : Cx} {a b : Expr} {ta tb : TE} {pos : Pos} {tA tB' : TT} {rest : List Expr}
theorem qe_cmp {op : CmpOp} {t : TE} (h : QC X op a b t) (h1 : behindInMarks op b = false := by first | exact nobehind _ (by decide) (by decide) | rfl) : QE X (.Compare a [op] [b] pos) t :=
  ⟨pe_cmp h.out h1⟩
end
section
variable {X : Cx} {a b : Expr} {ta tb : TE} {pos : Pos} {tA tB' : TT} {rest : List Expr}
theorem qt_cmp {op : CmpOp} {t : TE} (h : QC X op a b t) (h1 : behindInMarks op b = false := by first | exact nobehind _ (by decide) (by decide) | rfl) : QT X (.Compare a [op] [b] pos) (tB t) :=
  ⟨pt_cmp h.out h1⟩
end
section
variable {X : Cx} 
theorem qv (i : Nat) {x : Str} {pos : Pos} (hN : X.N[i]? = some x := by rfl) (hv : Vis X.env.scope x := by first | exact Or.inl rfl | exact Or.inr (Or.inl rfl) | exact Or.inr (Or.inr rfl)) (hd : (x == ("__debug__" : Str)) = false := by decide) (hcd : (x == ("__classdict__" : Str)) = false := by decide) : QE X (.Name x pos) (tVar i) :=
  ⟨pv i hN hv hd hcd⟩
end
section
variable {X : Cx} 
theorem qts_nil {X : Cx} : QTs X [] tYes :=
  ⟨pts_nil⟩
end
section
variable {X : Cx} 
theorem qts_one {X : Cx} {c : Expr} {t : TT} (h : QT X c t) : QTs X [c] t :=
  ⟨pts_one h.out⟩
end
section
variable {X : Cx} 
theorem qe_strS (l : List Nat) {x : Str} {j pos} (h : x = S l) : QE X (.Constant (.str x) j pos) (tC (.str (S l))) :=
  ⟨pe_strS l h⟩
end
section
variable {X : Cx} {e : Expr} {es : List Expr} {te : TE} {t : TA} {pos : Pos}
theorem qa_c {i j pos} (h : QA X es t) : QA X (.Constant (.int i) j pos :: es) (tCons (tC (.int i)) t) :=
  ⟨pa_c h.out⟩
end
section
variable {X : Cx} {x : Str} {p pos : Pos} {e : Expr} {es : List Expr} {t : TA}
theorem qe_own {k : Nat} {ps : List Str} {sp : Sp} (D : Def X.prog X.w X.K X.mg X.base x k ps sp) (hr : Room k X.A) (hg : Gl X x) (ha : QA X (e :: es) t) (hdb : (x == ("__debug__" : Str)) = false := by decide) (hs : starEach (e :: es) X.env = (false, eval e X.env) :: starEach es X.env := by rfl) (hpl : (backTo pos (starEach es X.env)).any (·.1) = false := by rfl) : QE X (.Call (.Name x p) (e :: es) [] pos) (tCall sp [] E0 t) :=
  ⟨pe_own D hr hg ha.out hdb hs hpl⟩
end
section
variable {X : Cx} {o e st : Expr} {to te tst : TE} {apos cpos rpos pos p p2 : Pos}
theorem qe_joinRev (hc : X.calm = true) (ho : QE X o to) (hg : Gl X "reversed") (hm : X.mg "reversed" = none) (he : QE X e te) (hbase : attributeBase o "join" X.env (eval o X.env) = eval o X.env := by rfl) (hfew : ((backTo cpos (starEach [.Call (.Name "reversed" p) [e] [] rpos] X.env)).all (fun x => !x.1) && (backToKw cpos (keywordEach [] X.env)).all (fun x => x.1.isSome)
      && decide (([.Call (.Name "reversed" p) [e] [] rpos] : List Expr).length + ([] : List Keyword).length + (if ([] : List Keyword).isEmpty then 0 else 1) < 30)) = true := by rfl) (hline : (apos.endLine == cpos.line) = true := by rfl) (hs : starEach [e] X.env = [(false, eval e X.env)] := by rfl) : QE X (.Call (.Attribute o "join" apos) [.Call (.Name "reversed" p) [e] [] rpos] [] cpos) (tJoinRev to te) :=
  ⟨pe_joinRev hc ho.out hg hm he.out hbase hfew hline hs⟩
end
section
variable {X : Cx} {o e st : Expr} {to te tst : TE} {apos cpos rpos pos p p2 : Pos}
theorem qe_revS (he : QE X e te) (hst : QE X st tst) : QE X (.Subscript e (.Slice none none (some st) p2) pos) (tRevS te tst) :=
  ⟨pe_revS he.out hst.out⟩
end
theorem qe_comp {X : Cx} {elt iter : Expr} {x : Str} {px : Pos} {ifs : List Expr} {scope : Scope} {pos : Pos} {wi : TI} {tt : TT} {te : TE} (hc : X.calm = true) (ok : CompOk X scope x) (hi : QI X (.Name x px) iter wi)
    (ht : ∀ cl C s₀ H₀ fp, QTs (blk X scope cl C x s₀ H₀ fp) ifs tt) (he : ∀ cl C s₀ H₀ fp, QE (blk X scope cl C x s₀ H₀ fp) elt te)
    (hs : ∀ x, foldedSetIterable iter X.env x = pure x := by intro _; rfl) : QE X (.ListComp elt [⟨.Name x px, iter, ifs, 0⟩] scope pos) (tComp wi tt te) :=
  ⟨pe_comp hc ok hi.out (fun cl C s₀ H₀ fp => (ht cl C s₀ H₀ fp).out) (fun cl C s₀ H₀ fp => (he cl C s₀ H₀ fp).out) hs⟩
theorem qa_2 {X : Cx} {e : Expr} {es : List Expr} {te : TE} {t : TA} (ha : QE X e te) (hr : QA X es t) (h : noStar e = true := by rfl) : QA X (e :: es) (tCons te t) := ⟨pa ha.out hr.out h⟩
theorem DefAt.qok {P : Program} {w : World} {K : PySem.W.Frag} {mg : Str → Option Value} {base : Heap} {name : Str} {st : Stmt} {N ps : List Str} {k : Nat} {sp : Sp} (D : DefAt K mg name st ps) (S : FnScope N ps (defScope st)) (len : ∀ vs H Q E, sp vs H Q E → vs.length = ps.length)
    (hbody : ∀ (f : Addr) (cdv : Value) (A : Around) (outer : List Env) (s : Shared) (H : Hp) (vs : List V) (Q : VK) (E : XK), Room k (A.deeper (envOfC name (defScope st) s.heap.objs.size f cdv)) → sp vs H Q E →
      ∃ t, QSs (cxOf CX0 P w K mg base N name (defScope st) f cdv A outer s H E).nox (defBody st) t ∧ t { nx := fun _ H' => Q .non H', rt := Q } (start N vs) H) : Def P w K mg base name (k + 1) ps sp :=
  D.ok S len fun f cdv A outer s H vs Q E hr h => let ⟨t, a, b⟩ := hbody f cdv A outer s H vs Q E hr h; ⟨t, a.out, b⟩
theorem Fun.qok {P : Program} {w : World} {K : PySem.W.Frag} {mg : Str → Option Value} {base : Heap} {x qual : Str} {st : Stmt} {f : Addr} {fd : FuncData} {N ps : List Str} {k : Nat} {sp : Sp} (F : Fun K x qual st f fd) (S : FnScope N ps (defScope st)) (len : ∀ vs H Q E, sp vs H Q E → vs.length = ps.length)
    (hbody : ∀ (cdv : Value) (A : Around) (outer : List Env) (s : Shared) (H : Hp) (vs : List V) (Q : VK) (E : XK), Room k (A.deeper (envOfC qual (defScope st) s.heap.objs.size f cdv)) → sp vs H Q E →
      ∃ t, QSs (cxOf CX0 P w K mg base N qual (defScope st) f cdv A outer s H E).nox (defBody st) t ∧ t { nx := fun _ H' => Q .non H', rt := Q } (start N vs) H) : FnOk P w K mg base CX0 (k + 1) f fd ps sp :=
  F.ok S len fun cdv A outer s H vs Q E hr h => let ⟨t, a, b⟩ := hbody cdv A outer s H vs Q E hr h; ⟨t, a.out, b⟩
end L2
end

section
set_option Elab.async false
set_option linter.all false
set_option maxRecDepth 100000
/-! sorted(text), sorted of what collects to texts -/
namespace L2
open PySem PySem.Spec PyProof.Rows
section
variable {prog : Program} {w : World} {A : Around} {E : Value → Shared → Prop} {s : Shared}
theorem sorted_any {v : Value} {Q : Value → Shared → Prop} (hcol : wpAny (model prog w) A.in1 (collect v) (fun vs s1 => ∃ ss, StrsAre vs ss ∧ vs.length < 64 ∧
      ∀ (h' : Heap) (vs' : List Value) (ss' : List Str) (e : Nat), (∀ b o, s1.heap.get? b = some o → h'.get? b = some o) → h'.get? s1.heap.objs.size = some (seqObj "list" vs'.toArray e) → StrsAre vs' ss' → ss'.Perm ss → sortedS ss' = true →
        Q (.ref s1.heap.objs.size) { s1 with heap := h' }) E s) : wpAny (model prog w) A (call (.builtin "sorted") [v]) Q E s := by
  refine Calls.call_function_entry kind_sorted plain_sorted entry_sorted (args_sorted1 _) ?_
  unfold Builtin.«sorted»
  refine wpAny_bind (m := checkCount "sorted" 1 1 _) (wpAny_pure ?_)
  refine wpAny_bind (thn hcol fun vs s1 ⟨ss, hS, h64, h⟩ => ?_)
  refine wpAny_bind (wpAny_newList ?_)
  have hoL : (s1.heap.push (seqObj "list" vs.toArray 0)).get? s1.heap.objs.size = some (seqObj "list" vs.toArray 0) := Heap.get?_push_size _ rfl
  refine wpAny_bind (wpAny_holding (wpAny_call_entry slot_list_sort (s := { s1 with heap := s1.heap.push (seqObj "list" vs.toArray 0) }) ⟨_, hoL, rfl⟩ entry_list_sort
    (list_sort_treeK (s := { s1 with heap := s1.heap.push (seqObj "list" vs.toArray 0) }) strKind_oneLt hoL hS.keysOf (fun v₁ v₂ rest e => keyKind_strs (by rw [← e]; exact hS)) h64 fun st' hp hs => ⟨_, rfl, ?_⟩) (args_list_sort _)))
  obtain ⟨ss', h1, h2, h3⟩ := sorted_out_str hS hp hs
  obtain ⟨e, he⟩ := sortedHeap_at (vs := vs) (out := (arrOf st').map (·.2)) hoL
  refine wpAny_pure ⟨_, rfl, h _ ((arrOf st').map (·.2)).toList ss' e (fun b o z => ?_) (by rw [Array.toArray_toList]; exact he) h1 h2 h3⟩
  have hb : b < s1.heap.objs.size := Heap.lt_size z
  rw [sortedHeap_old (Nat.ne_of_lt hb) (by rw [Heap.size_push]; exact Nat.lt_succ_of_lt hb)]
  exact Heap.get?_push_of_some _ z
end
theorem signs_of {x : Str} {vs : Array Value} (h : ItemsOf (SignAt x) vs x.cps.size) : StrsAre vs.toList (x.cps.toList.map fun c => (⟨#[c]⟩ : Str)) := by
  have key : ∀ (l : List Value) (m : List Nat), l.length = m.length → (∀ (j : Nat) v, l[j]? = some v → ∃ c u, m[j]? = some c ∧ v = .str ⟨#[c]⟩ u) → StrsAre l (m.map fun c => (⟨#[c]⟩ : Str)) := by
    intro l
    induction l with
    | nil =>
      intro m hl _
      cases m with
      | nil => exact .nil
      | cons c r => simp at hl
    | cons a r ih =>
      intro m hl hv
      cases m with
      | nil => simp at hl
      | cons c m =>
        obtain ⟨c', u, e, rfl⟩ := hv 0 a rfl
        have e' : c = c' := by simpa using e
        subst e'
        exact .cons _ u (ih m (by simpa using hl) fun j v hj => hv (j + 1) v hj)
  refine key _ _ (by simpa using h.1) fun j v hj => ?_
  obtain ⟨c, u, e1, e2⟩ := h.2 j v (by simpa using hj)
  exact ⟨c, u, by simpa using e1, e2⟩
section
variable {X : Cx}
theorem vals_of_strs : ∀ {ss : List Str} {us : List Value}, StrsAre us ss → Vals (ss.map V.str) us
  | _, _, .nil => .nil
  | _, _, .cons x t r => .cons ⟨t, rfl⟩ (vals_of_strs r)
def rSortS : List V → Hp → VK → Prop := fun xs H Q => ∃ l, xs = [.str (S l)] ∧ l.length < 64 ∧ ∀ (p : Addr) (ls' : List Nat), H p = none → ls'.Perm l → Q (.ref p) (upd H p (.lst (Ts (ls'.map fun c => [c]))))
theorem call_sortedS (hc : X.calm = true) : CallR X (.builtin "sorted") rSortS := by
  intro pins s σ H xs us Q I r h
  obtain ⟨l, rfl, h64, q⟩ := h
  obtain ⟨u, rfl, ru⟩ := vals1 r
  obtain ⟨t, rfl⟩ := ru
  have hz : (S l).cps.size ≤ sizeLine := by show l.length ≤ sizeLine; exact Nat.le_of_lt (small1000 (by omega))
  refine sorted_any (wpAny_collect_str (A := X.A.in1) (I.ok.hd hc) (S l) t (fun s1 acc k1 k2 k3 k4 hacc => ?_) hz)
  have hS := signs_of hacc
  refine ⟨_, hS, ?_, fun h' vs' ss' e kk he hS' pm _ => ?_⟩
  · rw [Array.length_toList, hacc.1]; exact h64
  have I1 : Inv X pins σ H s1 := by
    have I5 := I.kept (h' := s1.heap) (t' := s1.toks) k1
    obtain ⟨h', g', d', t'', o'⟩ := s1
    simp only at k2 k3 k4
    subst k2 k3 k4
    exact I5
  -- the letters behind
  have pm' : (ss'.map fun y => y.cps.toList.headD 0).Perm l := by
    have := pm.map fun y : Str => y.cps.toList.headD 0
    rw [List.map_map] at this
    have e : ((fun y : Str => y.cps.toList.headD 0) ∘ fun c => (⟨#[c]⟩ : Str)) = id := rfl
    rw [e, List.map_id, S_cps] at this
    exact this
  have es : ss' = (ss'.map fun y => y.cps.toList.headD 0).map fun c => (⟨#[c]⟩ : Str) := by
    rw [List.map_map]
    refine (List.map_id _).symm.trans (List.map_congr_left fun y hy => ?_)
    obtain ⟨c, _, rfl⟩ := List.mem_map.mp (pm.mem_iff.mp hy)
    rfl
  have hn : H s1.heap.objs.size = none := I1.fresh
  have hv : Vals (Ts ((ss'.map fun y => y.cps.toList.headD 0).map fun c => [c])) vs' := by
    have := vals_of_strs hS'
    rw [es] at this
    simpa [Ts, S, Function.comp_def] using this
  have hl : (Ts ((ss'.map fun y => y.cps.toList.headD 0).map fun c => [c])).length ≤ sizeLine := by
    rw [List.length_map, List.length_map, pm'.length_eq]; exact Nat.le_of_lt (small1000 (by omega))
  refine ⟨.ref s1.heap.objs.size, _, I1.laid (o := .lst _) (t' := s1.toks) kk (Nat.le_refl _) ⟨hl, vs', e, hv, he⟩, rfl, q _ _ hn pm'⟩
end
end L2
end

section
set_option Elab.async false
set_option linter.all false
set_option maxRecDepth 100000
/-! what books want: a loop over a text, all(..), <= of texts, sorted of a dict of texts, lists of texts: !=, insert, [::2] -/
namespace L2
open PySem PySem.Spec PyProof.Rows
/-- the signs of a text -/
def Its (l : List Nat) : It := ⟨fun i _ => i < l.length, fun i H x H' => H' = H ∧ ∃ c, l[i]? = some c ∧ x = .str (S [c]), fun i _ => l.length ≤ i⟩
theorem turn_str {P : Program} {w : World} {K : PySem.W.Frag} {tg : Expr} {ty : String} (hty : ty = "str_ascii_iterator" ∨ ty = "str_iterator") (l : List Nat) (t : Tok) (it : Addr) :
    Turn P w K tg (Its l) [it] it (fun i h => i ≤ l.length ∧ h.IsStrIter it ty (S l) t i) where
  mem := by simp
  obj := fun i h st b hb => by
    have e : b = it := by simpa using hb
    subst e
    obtain ⟨_, o, e, c, d⟩ := st
    exact ⟨o, e, fun v z => by rw [d] at z; cases z⟩
  keep := fun i h h' st k => ⟨st.1, let ⟨o, ho, r⟩ := st.2; ⟨o, k it (by simp) o ho, r⟩⟩
  item := by
    intro X hP hw hK hc i pins s σ H E I hf st hg
    subst hP hw hK
    obtain ⟨f0, f1, f2, f3, f4, f5⟩ := hf it (by simp)
    have hg' : i < (S l).cps.size := hg
    have fin : ∀ (v : Value) (h' : Heap) (tk : Nat), SignAt (S l) i v → h'.IsStrIter it ty (S l) t (i + 1) → (∀ b o, b ∉ [it] → s.heap.get? b = some o → h'.get? b = some o) →
        ∃ u, some v = some u ∧ wpAny (model X.prog X.w) X.A (letOwnedTupleGo tg (.ref it) u) (fun _ s2 => ∃ x H', Inv X pins σ H' s2 ∧ RelV x u ∧ (Its l).yld i H x H' ∧ (i + 1 ≤ l.length ∧ s2.heap.IsStrIter it ty (S l) t (i + 1)) ∧ ∀ b ∈ [it], H' b = none) E { s with heap := h', toks := tk } := by
      intro v h' tk hv st' kk
      obtain ⟨c, u, hc', rfl⟩ := hv
      have I1 : Inv X pins σ H { s with heap := h', toks := tk } := I.turned (fun b o hb e => kk b o (by simpa using hb) e) f0 f1 f3 f4 f5
      obtain ⟨o, e, c2, d2⟩ := id st'
      refine ⟨_, rfl, go_of (s := { s with heap := h', toks := tk }) e c2 d2 (by rcases hty with rfl | rfl <;> decide) ⟨.str (S [c]), H, I1, ⟨u, rfl⟩, ⟨rfl, c, by simpa [S] using hc', rfl⟩, ⟨hg, st'⟩, fun b hb => (hf b hb).1⟩⟩
    rcases hty with rfl | rfl
    · exact (Walks.strAscii (prog := X.prog) (w := X.w) (I.ok.hd hc) it (S l) t).item i s _ _ hg' st.2 fun v h' tk hv st' kk => fin v h' tk hv st' kk
    · exact (Walks.strWide (prog := X.prog) (w := X.w) (I.ok.hd hc) it (S l) t).item i s _ _ hg' st.2 fun v h' tk hv st' kk => fin v h' tk hv st' kk
  done := by
    intro X hP hw hK hc i pins s σ H E I hf st hg
    subst hP hw hK
    obtain ⟨f0, f1, f2, f3, f4, f5⟩ := hf it (by simp)
    have hi : i = (S l).cps.size := Nat.le_antisymm st.1 hg
    have st' := st.2
    rw [hi] at st'
    rcases hty with rfl | rfl
    · exact (Walks.strAscii (prog := X.prog) (w := X.w) (I.ok.hd hc) it (S l) t).done s _ _ st' fun h' tk kk => ⟨rfl, I.turned (fun b o hb e => kk b o (by simpa using hb) e) f0 f1 f3 f4 f5⟩
    · exact (Walks.strWide (prog := X.prog) (w := X.w) (I.ok.hd hc) it (S l) t).done s _ _ st' fun h' tk kk => ⟨rfl, I.turned (fun b o hb e => kk b o (by simpa using hb) e) f0 f1 f3 f4 f5⟩
  self := fun A i s Q E st h => by
    rcases hty with rfl | rfl
    · exact wpAny_pyIter_striter_ascii st.2 h
    · exact wpAny_pyIter_striter_wide st.2 h
theorem nlt_trans {a b c : List Nat} (h1 : ¬ b < a) (h2 : ¬ c < b) : ¬ c < a := by
  have h1' : a ≤ b := h1
  have h2' : b ≤ c := h2
  exact List.le_trans h1' h2'
theorem rising_pw : ∀ (r : List Str) (p : Str), risingS p r = true → (∀ x ∈ r, ¬ x.cps.toList < p.cps.toList) ∧ (r.map fun y => y.cps.toList).Pairwise (fun a b => decide (b < a) = false)
  | [], _, _ => ⟨fun _ h => by simp at h, List.Pairwise.nil⟩
  | y :: r, p, h => by
    rw [risingS, Bool.and_eq_true] at h
    have h0 : ¬ y.cps.toList < p.cps.toList := by
      have := h.1
      simpa [ltCps_eq] using this
    obtain ⟨h1, h2⟩ := rising_pw r y h.2
    refine ⟨fun x hx => ?_, ?_⟩
    · rcases List.mem_cons.mp hx with e | e
      · rw [e]; exact h0
      · exact nlt_trans h0 (h1 x e)
    · rw [List.map_cons]
      refine List.Pairwise.cons (fun b hb => ?_) h2
      obtain ⟨x, hx, rfl⟩ := List.mem_map.mp hb
      exact decide_eq_false (h1 x hx)
theorem sorted_pw (ss : List Str) (h : sortedS ss = true) : (ss.map fun y => y.cps.toList).Pairwise (fun a b => decide (b < a) = false) := by
  cases ss with
  | nil => exact List.Pairwise.nil
  | cons x r =>
    obtain ⟨h1, h2⟩ := rising_pw r x h
    rw [List.map_cons]
    refine List.Pairwise.cons (fun b hb => ?_) h2
    obtain ⟨y, hy, rfl⟩ := List.mem_map.mp hb
    exact decide_eq_false (h1 y hy)
section
variable {X : Cx} {tg : Expr}
def iStr (tl : TE) : TI := fun σ H R => tl σ H fun x H1 => ∃ l, x = .str (S l) ∧ R (Its l) H1
theorem qi_str {l : Expr} {tl : TE} (hl : QE X l tl) : QI X tg l (iStr tl) := ⟨by
  intro pins s σ H R I h
  refine thn (hl.out pins s σ H _ I h) fun v s1 ⟨x, H1, I1, r1, q1⟩ => ?_
  obtain ⟨l, e, q⟩ := q1
  subst e
  obtain ⟨t, rfl⟩ := r1
  refine wpAny_pyIter_strU ?_
  have hty : strIterType (S l) = "str_ascii_iterator" ∨ strIterType (S l) = "str_iterator" := by unfold strIterType; split <;> simp
  refine ⟨s1.heap.objs.size, [s1.heap.objs.size], _, _, H1, rfl, I1.kept (t' := s1.toks) fun b o e => Heap.get?_push_of_some _ e, turn_str hty l t _, ⟨Nat.zero_le _, _, Heap.get?_push_size _ rfl, rfl, rfl⟩, fun b hb => ?_, q⟩
  have e : b = s1.heap.objs.size := by simpa using hb
  subst e
  exact I1.fpOk (Nat.le_refl _) (I1.hok.fresh (Nat.le_refl _))⟩
theorem comp_str {l : List Nat} {D : Addr} {te : TE} {σ : St} {H : Hp} {R : Hp → Prop} (Pv : Nat → List V → Hp → Prop) (h0 : Pv 0 [] (upd H D (.lst [])))
    (hs : ∀ i c ys H, l[i]? = some c → Pv i ys H → te (some (.str (S [c])) :: σ) H fun y H3 => H3 D = some (.lst ys) ∧ ys.length < sizeLine ∧ Nxt l.length i (Pv (i + 1) (ys ++ [y]) (upd H3 D (.lst (ys ++ [y])))))
    (hd : ∀ ys H, Pv l.length ys H → R H) :
    ∃ W : Nat → Nat → List V → Hp → Prop, (∃ m, W 0 m [] (upd H D (.lst []))) ∧
      ∀ i m ys H, W i m ys H → ((Its l).stop i H ∧ R H) ∨ ((Its l).go i H ∧ ∀ x H', (Its l).yld i H x H' → tYes (some x :: σ) H' fun b H2 =>
        if b = true then te (some x :: σ) H2 fun y H3 => H3 D = some (.lst ys) ∧ ys.length < sizeLine ∧ ∃ m', m' < m ∧ W (i + 1) m' (ys ++ [y]) (upd H3 D (.lst (ys ++ [y])))
        else ∃ m', m' < m ∧ W (i + 1) m' ys H2) := by
  refine ⟨fun i m ys H => m = l.length - i ∧ i ≤ l.length ∧ Pv i ys H, ⟨l.length, by simp, Nat.zero_le _, h0⟩, ?_⟩
  rintro i m ys H ⟨rfl, hi, p⟩
  by_cases hlt : i < l.length
  · refine .inr ⟨hlt, fun x H' y => ?_⟩
    obtain ⟨e, c, hc, e2⟩ := y
    subst e e2
    exact hs i c ys H' hc p
  · have e : i = l.length := by omega
    subst e
    exact .inl ⟨Nat.le_refl _, hd ys H p⟩
/-- all of a list of truths -/
theorem call_all (hc : X.calm = true) : CallR X (.builtin "all") (fun xs H Q => ∃ (p : Addr) (bs : List Bool), xs = [.ref p] ∧ SqL X.K H p (bs.map V.bl) ∧ Q (.bl (bs.all id)) H) := by
  intro pins s σ H xs us Q I r h
  obtain ⟨p, bs, rfl, hq, q⟩ := h
  obtain ⟨u, rfl, ru⟩ := vals1 r
  cases ru
  obtain ⟨its, rv, pl, hz⟩ := I.list hq
  have hne : p ≠ s.heap.objs.size := by
    obtain ⟨o, ho, _⟩ := pl.isList
    exact Nat.ne_of_lt (Heap.lt_size ho)
  have hb : ∀ (i : Nat) (v : Value), its[i]? = some v → v = .bool (bs.getD i true) := fun i v hv => by
    have hlen := rv.length
    have hi : i < bs.length := by have := (List.getElem?_eq_some_iff.mp hv).1; simp at hlen; omega
    obtain ⟨u, hu, ru⟩ := rv.get (i := i) (x := .bl bs[i]) (by simp [hi])
    rw [hv] at hu; cases hu
    cases ru
    simp [List.getD, hi]
  refine call_all_walk (wpAny_pyIter_list pl.isList ?_)
  refine ⟨s.heap.objs.size, _, _, _, _, _, fun i => bs.getD i true, rfl, Walks.list (A := X.A.in1) (I.ok.hd hc) s.heap.objs.size p hne its.toArray, ⟨⟨_, Heap.get?_push_size _ rfl, rfl, rfl⟩, pl.isList.at fun o e => Heap.get?_push_of_some _ e⟩, ?_, fun h' tk kk => ?_⟩
  · intro i v s' Q' E' hv hq'
    have e := hb i v (by simpa using hv)
    subst e
    exact wpAny_truthy_bool hq'
  · have I1 : Inv X pins σ H { s with heap := h', toks := tk } := I.kept fun b o e => kk b o (by
      intro hm
      have : b = s.heap.objs.size := by simpa using hm
      subst this
      exact absurd (Heap.lt_size e) (Nat.lt_irrefl _)) (Heap.get?_push_of_some _ e)
    refine ⟨.bl (bs.all id), H, I1, ?_, q⟩
    show Value.bool _ = Value.bool _
    have hlen : its.toArray.size = bs.length := by have := rv.length; simp at this; simp [this]
    rw [hlen]
    congr 1
    have key : ∀ bs : List Bool, (List.range bs.length).all (fun i => bs.getD i true) = bs.all id := fun bs => by
      rw [Bool.eq_iff_iff, List.all_eq_true, List.all_eq_true]
      constructor
      · intro h x hx
        obtain ⟨i, hi, rfl⟩ := List.mem_iff_getElem.mp hx
        have := h i (List.mem_range.mpr hi)
        simpa [List.getD, hi] using this
      · intro h i hi
        have hi' := List.mem_range.mp hi
        have := h bs[i] (List.getElem_mem _)
        simpa [List.getD, hi'] using this
    exact key bs
/-- texts: <=, < -/
def rLeS : R2 := fun x y H Q => ∃ i j, x = .str (S i) ∧ y = .str (S j) ∧ Q (.bl (!decide (j < i))) H
theorem op_leS : OpR X (compareOp .LtE) rLeS := by
  intro pins s σ H x y v u Q I rx ry h
  obtain ⟨i, j, rfl, rfl, q⟩ := h
  obtain ⟨t, rfl⟩ := rx
  obtain ⟨t', rfl⟩ := ry
  exact PySem.P.le_str ⟨.bl _, H, I, rfl, q⟩
def rLtS : R2 := fun x y H Q => ∃ i j, x = .str (S i) ∧ y = .str (S j) ∧ Q (.bl (decide (i < j))) H
theorem op_ltS : OpR X (compareOp .Lt) rLtS := by
  intro pins s σ H x y v u Q I rx ry h
  obtain ⟨i, j, rfl, rfl, q⟩ := h
  exact op_lt_str pins s σ H _ _ v u Q I rx ry ⟨S i, S j, rfl, rfl, q⟩
/-- sorted(d), the keys of d texts -/
abbrev keyS (l : List Nat) : Key := Sum.inr (S l)
theorem call_sortedD (hc : X.calm = true) : CallR X (.builtin "sorted") (fun xs H Q => ∃ (d : Addr) (kvs : List (Key × V)) (ws : List (List Nat)), xs = [.ref d] ∧ H d = some (.dK kvs) ∧ kvs.map (·.1) = ws.map keyS ∧ ws.length < 64 ∧
    ∀ (p : Addr) (ws' : List (List Nat)), H p = none → ws'.Perm ws → ws'.Pairwise (fun a b => decide (b < a) = false) → Q (.ref p) (upd H p (.lst (Ts ws')))) := by
  intro pins s σ H xs us Q I r h
  obtain ⟨d, kvs, ws, rfl, hd, hk, h64, q⟩ := h
  obtain ⟨u, rfl, ru⟩ := vals1 r
  cases ru
  obtain ⟨hz, lo, vs, rel, dd⟩ := dk_of I.hok hd
  obtain ⟨ep, hat⟩ := dd.dictAt
  have hkv := KV.keys rel
  have hlv : vs.length = ws.length := by
    have h1 := KV.length rel
    have h2 := congrArg List.length hk
    simp at h2
    omega
  refine sorted_any (PySem.W.kdu_collect (A := X.A.in1) (PySem.W.kdl_dict (knd := mixKind X.prog X.w) (kvs := vs) (ep := ep) lo) (I.ok.hd hc) hat (by rw [hlv]; exact Nat.le_of_lt (small1000 (by omega))) fun h' tk acc kk hacc => ?_)
  have hS : StrsAre acc.toList (ws.map S) := by
    have key : ∀ (l : List Value) (m : List (List Nat)), l.length = m.length → (∀ (j : Nat) v, l[j]? = some v → ∃ c, m[j]? = some c ∧ ∃ u, v = .str (S c) u) → StrsAre l (m.map S) := by
      intro l
      induction l with
      | nil => intro m hl _; cases m with | nil => exact .nil | cons c r => simp at hl
      | cons a r ih =>
        intro m hl hv
        cases m with
        | nil => simp at hl
        | cons c m =>
          obtain ⟨c', e, u, rfl⟩ := hv 0 a rfl
          have e' : c = c' := by simpa using e
          subst e'
          exact .cons _ u (ih m (by simpa using hl) fun j v hj => hv (j + 1) v hj)
    refine key _ _ (by rw [Array.length_toList, hacc.1, hlv]) fun j v hj => ?_
    obtain ⟨k, x, hx, hi⟩ := hacc.2 j v (by simpa using hj)
    have hkj : (ws.map keyS)[j]? = some k := by
      rw [← hk, hkv, List.getElem?_map, hx]; rfl
    rw [List.getElem?_map] at hkj
    cases hw : ws[j]? with
    | none => rw [hw] at hkj; cases hkj
    | some c =>
      rw [hw] at hkj
      have e : keyS c = k := by simpa using hkj
      subst e
      refine ⟨c, rfl, ?_⟩
      rcases keyIs_shape (show keyIs (Sum.inr (S c)) v = true from hi) with ⟨i, t, e1, _⟩ | ⟨y, t, e1, e2⟩
      · cases e1
      · cases e1; exact ⟨t, e2⟩
  have I1 : Inv X pins σ H { s with heap := h', toks := tk } := I.kept kk
  refine ⟨_, hS, by rw [Array.length_toList, hacc.1, hlv]; exact h64, fun h2 vs' ss' e k2 he hS' pm so => ?_⟩
  have es : ss' = (ss'.map fun y => y.cps.toList).map S := by
    rw [List.map_map]
    refine (List.map_id _).symm.trans (List.map_congr_left fun y _ => ?_)
    exact (S_of y).symm
  have pm' : (ss'.map fun y => y.cps.toList).Perm ws := by
    have := pm.map fun y : Str => y.cps.toList
    rw [List.map_map] at this
    have e : ((fun y : Str => y.cps.toList) ∘ S) = id := rfl
    rw [e, List.map_id] at this
    exact this
  have hv : Vals (Ts (ss'.map fun y => y.cps.toList)) vs' := by
    have := vals_of_strs hS'
    rw [es] at this
    simpa [Ts, Function.comp_def] using this
  have hl : (Ts (ss'.map fun y => y.cps.toList)).length ≤ sizeLine := by
    rw [List.length_map, pm'.length_eq]; exact Nat.le_of_lt (small1000 (by omega))
  refine ⟨.ref h'.objs.size, _, I1.laid (o := .lst _) (t' := tk) k2 (Nat.le_refl _) ⟨hl, vs', e, hv, he⟩, rfl, q _ _ I1.fresh pm' (sorted_pw ss' so)⟩
theorem QI.or {iter : Expr} {w1 w2 : TI} (h1 : QI X tg iter w1) (h2 : QI X tg iter w2) : QI X tg iter (fun σ H R => w1 σ H R ∨ w2 σ H R) := ⟨fun pins s σ H R I h => by
  rcases h with h | h
  · exact h1.out pins s σ H R I h
  · exact h2.out pins s σ H R I h⟩
end
theorem SqL.keep {K : PySem.W.Frag} {H H' : Hp} {a p : Addr} {xs : List V} (k : ∀ b o, H b = some o → b ≠ p → H' b = some o) (hp : ∀ o, H p = some o → (∀ ys, o ≠ .lst ys) ∧ ∀ u ys, o ≠ .frz u (.lst ys)) (h : SqL K H a xs) : SqL K H' a xs := by
  rcases h with (h | ⟨o, h⟩) | h
  · exact .inl (.inl (k _ _ h fun e => (hp _ (e ▸ h)).1 _ rfl))
  · exact .inl (.inr ⟨o, k _ _ h fun e => (hp _ (e ▸ h)).2 _ _ rfl⟩)
  · exact .inr h
theorem SqT.keep {K : PySem.W.Frag} {H H' : Hp} {a p : Addr} {xs : List V} (k : ∀ b o, H b = some o → b ≠ p → H' b = some o) (hp : ∀ o, H p = some o → (∀ ys, o ≠ .tup ys) ∧ ∀ u ys, o ≠ .frz u (.tup ys)) (h : SqT K H a xs) : SqT K H' a xs := by
  rcases h with (h | ⟨o, h⟩) | h
  · exact .inl (.inl (k _ _ h fun e => (hp _ (e ▸ h)).1 _ rfl))
  · exact .inl (.inr ⟨o, k _ _ h fun e => (hp _ (e ▸ h)).2 _ _ rfl⟩)
  · exact .inr h
end L2
end

section
set_option Elab.async false
set_option linter.all false
set_option maxRecDepth 100000
/-! lists: !=, insert, [::2]; `is not True`; upper -/
namespace L2
open PySem PySem.Spec PyProof.Rows PySem.SeqAt PySem.MeetsSeq PySem.MeetsSeq3
open AutoSeq1 (wpAny_loadPart')
theorem ne_loopAt (l b : Addr) (items items2 : Array Value) (n n2 : Nat) (dd dd2 : Option Addr) (sl sl2 : Array (Option Value)) (hsz : items.size = items2.size) (e : Nat → Bool) (k : Nat) :
    ∀ i : Nat, items.size - i = k → Meets (Builtin.«list.__eq__.loop» ⟨[.ref l, .ref b, rawInt i, rawInt 3], []⟩)
      (fun A R s => s.heap.get? l = some { cls := .type "list", dict := dd, data := .seq items n, slots := sl } ∧ s.heap.get? b = some { cls := .type "list", dict := dd2, data := .seq items2 n2, slots := sl2 } ∧
        (∀ j (h1 : j < items.size) (h2 : j < items2.size), EqAt A.in1 s items[j] items2[j] (e j)) ∧
        R (.ok (.ret (.bool (!((List.range items.size).drop i).all e)))) s) := by
  induction k with
  | zero =>
    intro i hk prog w A R s h
    obtain ⟨hp, g, d, tk, os⟩ := s; obtain ⟨hl, hb, he, h⟩ := h
    wp_walk using wpAny_loadPart' hl, wpAny_loadPart' hb
    have hi1 : items[((i : Nat) : Int).toNat]? = none := by simp; omega
    have hi2 : items2[((i : Nat) : Int).toNat]? = none := by simp; omega
    have hd : (List.range items.size).drop i = [] := by simp; omega
    rw [hd] at h
    rw [hi1, hi2]
    wp_walk using wpAny_loadPart' hl, wpAny_loadPart' hb
    show R (.ok (.ret (.bool (items.size != items2.size)))) _
    rw [hsz]
    simpa using h
  | succ k ih =>
    intro i hk prog w A R s h
    obtain ⟨hp, g, d, tk, os⟩ := s; obtain ⟨hl, hb, he, h⟩ := h
    wp_walk using wpAny_loadPart' hl, wpAny_loadPart' hb
    have hlt : i < items.size := by omega
    have hlt2 : i < items2.size := by omega
    have hi1 : items[((i : Nat) : Int).toNat]? = some items[i] := by simp [hlt]
    have hi2 : items2[((i : Nat) : Int).toNat]? = some items2[i] := by simp [hlt2]
    have hd : (List.range items.size).drop i = i :: (List.range items.size).drop (i + 1) := by simp [List.drop_eq_getElem_cons, hlt]
    have hc : ((i : Int) + 1) = ((i + 1 : Nat) : Int) := by push_cast; rfl
    rw [hd, List.all_cons] at h
    rw [hi1, hi2]
    refine wpAny_bind (he i hlt hlt2 prog w _ _ ?_)
    cases hb' : e i with
    | true =>
      rw [hb'] at h
      wp_walk
      rw [hc]
      exact ⟨plainId_quiet plain_eq_loop _, codeAny_builtin entry_eq_loop (by
        rw [Around.under_plainId plain_eq_loop _]
        exact ih (i + 1) (by omega) prog w A R _ ⟨hl, hb, he, by simpa using h⟩)⟩
    | false =>
      rw [hb'] at h
      wp_walk using wpAny_loadPart' hl, wpAny_loadPart' hb
      rw [hi1, hi2]
      wp_walk
      simpa using h
theorem list_neAt (l b : Addr) (items items2 : Array Value) (n n2 : Nat) (dd dd2 : Option Addr) (sl sl2 : Array (Option Value)) (hsz : items.size = items2.size) (e : Nat → Bool) :
    Meets (Builtin.«list.__ne__» ⟨[.ref l, .ref b], []⟩)
      (fun A R s => s.heap.get? l = some { cls := .type "list", dict := dd, data := .seq items n, slots := sl } ∧ s.heap.get? b = some { cls := .type "list", dict := dd2, data := .seq items2 n2, slots := sl2 } ∧
        (∀ j (h1 : j < items.size) (h2 : j < items2.size), EqAt A.in1 s items[j] items2[j] (e j)) ∧
        R (.ok (.ret (.bool (!(List.range items.size).all e)))) s) := by
  intro prog w A R s h
  obtain ⟨hp, g, d, tk, os⟩ := s; obtain ⟨hl, hb, he, h⟩ := h
  have f3 := AutoSeq1.sub_list_list
  have hne : ¬ (items.size != items2.size) = true := by simp [hsz]
  wp_walk using wpAny_loadPart' hl, wpAny_loadPart' hb
  exact ⟨plainId_quiet plain_eq_loop _, codeAny_builtin entry_eq_loop (by
    rw [Around.under_plainId plain_eq_loop _]
    exact ne_loopAt l b items items2 n n2 dd dd2 sl sl2 hsz e _ 0 rfl prog w A R _ ⟨hl, hb, he, by simpa using h⟩)⟩
theorem list_ne_lengthsAt (l b : Addr) (items items2 : Array Value) (n n2 : Nat) (dd dd2 : Option Addr) (sl sl2 : Array (Option Value)) (hc0 : (items.size != items2.size) = true) :
    Meets (Builtin.«list.__ne__» ⟨[.ref l, .ref b], []⟩)
      (fun _ R s => s.heap.get? l = some { cls := .type "list", dict := dd, data := .seq items n, slots := sl } ∧ s.heap.get? b = some { cls := .type "list", dict := dd2, data := .seq items2 n2, slots := sl2 } ∧
        R (.ok (.ret (.bool true))) s) :=
  .of_wp fun prog w A R s h => by
    obtain ⟨hp, g, d, tk, os⟩ := s; obtain ⟨hl, hb, h⟩ := h
    have f3 := AutoSeq1.sub_list_list
    wp_walk using wpAny_loadPart' hl, wpAny_loadPart' hb
    exact ⟨_, rfl, h⟩
section
variable {X : Cx}
theorem op_neL (hu : X.A.units < cLine) : OpR X (compareOp .NotEq) (rEqL X.K true) := by
  intro pins s σ H x y v u Q I rx ry h
  obtain ⟨p, q', xs, ys, rfl, rfl, h1, h2, q⟩ := h
  cases rx
  cases ry
  obtain ⟨its, r1, p1, _⟩ := I.list h1
  obtain ⟨its2, r2, p2, _⟩ := I.list h2
  have l1 : its.length = xs.length := by have := r1.length; simpa using this.symm
  have l2 : its2.length = ys.length := by have := r2.length; simpa using this.symm
  obtain ⟨⟨cls, dd, data, sl⟩, ho, hc, n, hd⟩ := id p1.isList
  obtain ⟨⟨cls2, dd2, data2, sl2⟩, ho2, hc2, n2, hd2⟩ := id p2.isList
  simp only at hc hd hc2 hd2
  subst hc hd hc2 hd2
  show wpAny _ _ (richCompare .NotEq (.ref p) (.ref q')) _ _ _
  by_cases hl : xs.length = ys.length
  · refine richCompare_meets_room (op := .NotEq) ⟨_, ho, rfl⟩ ⟨_, ho2, rfl⟩ F.slot_list_ne F.entry_list_ne (F.args_list_ne_2 _ _) (list_neAt p q' its.toArray its2.toArray n n2 dd dd2 sl sl2 (by simp [l1, l2, hl]) fun j => decide (xs[j]? = ys[j]?))
      ⟨ho, ho2, fun j g1 g2 => ?_, ⟨(fun x => nomatch x), .bl _, H, I, ?_, q⟩⟩ hu
    · have g1' : j < xs.length := by simpa [l1] using g1
      have g2' : j < ys.length := by simpa [l2] using g2
      obtain ⟨u1, e1, s1⟩ := r1.get (i := j) (x := .str (S xs[j])) (by simp [g1'])
      obtain ⟨u2, e2, s2⟩ := r2.get (i := j) (x := .str (S ys[j])) (by simp [g2'])
      have f1 : its.toArray[j] = u1 := by
        have := e1; rw [List.getElem?_eq_getElem (by omega)] at this; simpa using this
      have f2 : its2.toArray[j] = u2 := by
        have := e2; rw [List.getElem?_eq_getElem (by omega)] at this; simpa using this
      rw [f1, f2]
      have := eqAt_V (A := X.A.in1) (s := s) s1 s2 rfl rfl
      rw [eqV_S] at this
      simpa [g1', g2'] using this
    · show Value.bool _ = Value.bool _
      rw [show its.toArray.size = xs.length by simp [l1], all_eq_dec xs ys hl]
      rfl
  · refine richCompare_meets_room (op := .NotEq) ⟨_, ho, rfl⟩ ⟨_, ho2, rfl⟩ F.slot_list_ne F.entry_list_ne (F.args_list_ne_2 _ _) (list_ne_lengthsAt p q' its.toArray its2.toArray n n2 dd dd2 sl sl2 (by simp [l1, l2, hl]))
      ⟨ho, ho2, ⟨(fun x => nomatch x), .bl _, H, I, ?_, q⟩⟩ hu
    rw [decide_eq_false fun z => hl (by rw [z])]
    rfl
/-- b is not True -/
theorem op_isnotT : OpR X (compareOp .IsNot) (fun x y H Q => ∃ i j, x = .bl i ∧ y = .bl j ∧ Q (.bl (!(i == j))) H) := by
  intro pins s σ H x y v u Q I rx ry h
  obtain ⟨i, j, rfl, rfl, q⟩ := h
  cases rx
  cases ry
  refine wpAny_isNot_plain rfl ⟨.bl _, H, I, ?_, q⟩
  cases i <;> cases j <;> rfl
theorem fits_small {k : Nat} (h : k ≤ 1000) : ¬ (!Builtin.List.listFitsIndex (k : Int)) = true := by
  have e : Builtin.List.listFitsIndex (k : Int) = true := by
    unfold Builtin.List.listFitsIndex
    have h1 : (k : Int) ≤ 1000 := by omega
    have h2 : (0 : Int) ≤ (k : Int) := by omega
    generalize (k : Int) = z at h1 h2
    simp only [Bool.and_eq_true, decide_eq_true_eq]
    refine ⟨Int.le_trans (by decide) h2, Int.lt_of_le_of_lt h1 (by decide)⟩
  rw [e]; decide
def rInsert : V → List V → Hp → VK → Prop := fun x vs H Q => ∃ (l : Addr) (xs : List V) (k : Nat) (y : V), x = .ref l ∧ vs = [.int k, y] ∧ H l = some (.lst xs) ∧ k ≤ xs.length ∧ xs.length < 1000 ∧ Q .non (upd H l (.lst (xs.take k ++ y :: xs.drop k)))
theorem mt_insert : MtM X "list.insert" rInsert := by
  intro pins s σ H x vs v us Q I rx rv h
  obtain ⟨l, xs, k, y, rfl, rfl, hH, hk, hz, q⟩ := h
  cases rx
  obtain ⟨u, w', rfl, ru, rw'⟩ := vals2 rv
  obtain ⟨t, rfl⟩ := ru
  obtain ⟨z, its, n, r, hl, e⟩ := I.lstM hH
  have hfit : ¬ (!Builtin.List.listFitsIndex (k : Int)) = true := fits_small (by omega)
  have hsz : its.toArray.size ≤ sizeLine := by rw [List.size_toArray, ← hl]; exact Nat.le_of_lt (small1000 (by omega))
  have hzx : ((k : Int) < 0) = False := by simp
  have htn : (k : Int).toNat = k := Int.toNat_natCast k
  generalize (k : Int) = x at hfit hzx htn
  have g := AutoListH.list_insert_list_int_val_1 l its.toArray n x t w' hfit hsz
  refine call_meets F.slot_list_insert ⟨_, e, rfl⟩ F.entry_list_insert (F.args_list_insert_3 _ _ _) g ⟨e, ?_⟩
  refine ⟨.non, _, I.lset (its' := its.take k ++ w' :: its.drop k) hH e ?_ ((r.take k).append (.cons rw' (r.drop k))) ?_, rfl, q⟩
  · have e1 : min x.toNat its.toArray.size = k := by rw [htn, List.size_toArray]; omega
    show (its.toArray.extract 0 (if x < 0 then _ else min x.toNat its.toArray.size)).push w' ++ its.toArray.extract (if x < 0 then _ else min x.toNat its.toArray.size) = _
    rw [if_neg (by rw [hzx]; exact id), e1]
    apply Array.toList_inj.mp
    simp
    exact List.take_of_length_le (by rw [List.length_drop]; omega)
  · rw [List.length_append, List.length_cons, List.length_take, List.length_drop]
    exact Nat.le_of_lt (small1000 (by omega))
def rUpper : V → List V → Hp → VK → Prop := fun x vs H Q => ∃ l, x = .str (S l) ∧ vs = [] ∧ l.length ≤ 1000 ∧ ∀ l', Q (.str (S l')) H
theorem mt_upper : MtR X "str.upper" rUpper := by
  intro pins s σ H x vs v us Q I rx rv h
  obtain ⟨l, rfl, rfl, hz, q⟩ := h
  obtain ⟨t, rfl⟩ := rx
  have hus := rv.zero
  subst hus
  have hfit : Builtin.Str.tooLong (Txt.upper (S l)).length = false := fit_upper (by rw [S_len]; omega)
  refine call_gives F.slot_str_upper (typeIs_str s _ t) F.entry_str_upper (F.args_str_upper_1 _) (gives_str_upper (S l) t hfit) ⟨fit_le hfit, ?_⟩
  exact ⟨.str (S (Txt.upper (S l)).cps.toList), H, I.tok _, ⟨s.toks, rfl⟩, q _⟩
theorem vals_pick {xs : List V} {us : List Value} (r : Vals xs us) : ∀ ix : List Nat, Vals (ix.filterMap (xs[·]?)) (ix.filterMap (us[·]?))
  | [] => .nil
  | i :: ix => by
    rw [List.filterMap_cons, List.filterMap_cons]
    cases e : xs[i]? with
    | none => rw [r.none_of e]; exact vals_pick r ix
    | some x =>
      obtain ⟨u, hu, ru⟩ := r.get e
      rw [hu]
      exact .cons ru (vals_pick r ix)
/-- xs[::2] -/
def stepIx (n : Nat) : List Nat := sliceRange (sliceBounds none none (some 2) n).1 (sliceBounds none none (some 2) n).2.1 (sliceBounds none none (some 2) n).2.2
def stepV {α : Type} (xs : List α) : List α := (stepIx xs.length).filterMap (xs[·]?)
theorem stepV_map {α β : Type} (f : α → β) (xs : List α) : stepV (xs.map f) = (stepV xs).map f := by
  unfold stepV
  rw [List.length_map, List.map_filterMap]
  congr 1
  funext i
  rw [List.getElem?_map]
theorem stepIx_len (n : Nat) : (stepIx n).length ≤ n := by
  unfold stepIx sliceRange sliceBounds
  rw [List.length_map, List.length_range]
  simp
  split <;> omega
theorem stepV_len {α : Type} (xs : List α) : (stepV xs).length ≤ xs.length := Nat.le_trans (List.length_filterMap_le _ _) (stepIx_len _)
theorem stepV_mem {α : Type} {xs : List α} {x : α} (h : x ∈ stepV xs) : x ∈ xs := by
  obtain ⟨i, _, hi⟩ := List.mem_filterMap.mp h
  exact List.mem_of_getElem? hi
def tStep (K : PySem.W.Frag) (te tst : TE) : TE := fun σ H Q => te σ H fun x H1 => tst σ H1 fun y H2 => ∃ (a : Addr) (xs : List V), x = .ref a ∧ y = .int 2 ∧ SqL K H2 a xs ∧
  ∀ p : Addr, H2 p = none → Q (.ref p) (upd H2 p (.lst (stepV xs)))
theorem qe_step {e st : Expr} {te tst : TE} {p2 pos : Pos} (he : QE X e te) (hst : QE X st tst) : QE X (.Subscript e (.Slice none none (some st) p2) pos) (tStep X.K te tst) := ⟨by
  intro pins s σ H Q I h
  refine Subscript_ (thn (he.out pins s σ H _ I h) fun v s1 ⟨x, H1, I1, r1, q1⟩ => ?_)
  refine wpAny_Slice ?_
  rw [evalPart_none, evalPart_some]
  refine wpAny_pure (wpAny_pure (thn (hst.out pins s1 σ H1 _ I1 q1) fun vst s2 ⟨y, H2, I2, r2, a, xs, ex, ey, hS, q⟩ => ?_))
  subst ex ey
  cases r1
  obtain ⟨t2, rfl⟩ := r2
  have I4 : Inv X pins σ H2 { s2 with heap := s2.heap.push { cls := .type "slice", data := .fields #[.none, .none, .int 2 t2] } } := I2.kept (t' := s2.toks) fun b ob z => Heap.get?_push_of_some _ z
  show wpAny (model X.prog X.w) X.A (subscriptTail e (.Slice none none (some st) p2) (.ref a) (.ref s2.heap.objs.size)) (EP X pins σ Q) X.xe { s2 with heap := s2.heap.push { cls := .type "slice", data := .fields #[.none, .none, .int 2 t2] } }
  obtain ⟨its, r, pl, hz⟩ := I4.list hS
  have hlen := r.length
  refine tail_any (ops := [.ref a, .ref s2.heap.objs.size]) pl.isList.typeIs slot_list_getitem.lookup ?_ (by with_unfolding_all rfl)
  refine wpAny_getItem_list_slice pl.isList (Heap.IsSliceOf.new ..) .none .none (.int 2 t2) (by simp) ?_ (by rw [List.size_toArray] <;> omega)
  have hv := vals_pick r (stepIx xs.length)
  have hyl : (stepV xs).length ≤ xs.length := stepV_len xs
  have epk : slicePick its.toArray none none (some 2) = ((stepIx xs.length).filterMap (its[·]?)).toArray := by
    unfold slicePick
    rw [List.size_toArray, ← hlen]
    unfold stepIx
    simp
  rw [epk]
  refine ⟨.ref _, _, I4.laid (t' := s2.toks) (o := .lst (stepV xs)) (fun b ob z => Heap.get?_push_of_some _ z) (Nat.le_refl _) ?_, rfl, q _ (I4.hok.fresh (Nat.le_refl _))⟩
  exact ⟨Nat.le_trans hyl hz, _, 0, hv, Heap.get?_push_size _ rfl⟩⟩
end
end L2
end

section
set_option Elab.async false
set_option linter.all false
set_option maxRecDepth 100000
/-! what signs and boards want: // by a great number, upper and lower of plain texts, a for over a text -/
namespace L2
open PySem PySem.Spec PyProof.Rows
section
variable {X : Cx}
def CDivB (i j : Int) : Prop := 0 < j ∧ j.natAbs.log2 < 9000
theorem op_fdivB : OpR X (binaryOp .FloorDiv) (rI CDivB fun i j => .int (i / j)) := opI fun i j _ _ _ _ _ hc q => by
  have e : i.fdiv j = i / j := Int.fdiv_eq_ediv_of_nonneg _ (Int.le_of_lt hc.1)
  rw [← e] at q
  exact floordiv_int (Int.ne_of_gt hc.1) q (.inl (PyProof.noPylong_of_log2 hc.2))
def rUpA : V → List V → Hp → VK → Prop := fun x vs H Q => ∃ l, x = .str (S l) ∧ vs = [] ∧ l.length ≤ 1000 ∧ (∀ c ∈ l, c < 128) ∧ Q (.str (S (l.map up1))) H
theorem mt_upA : MtR X "str.upper" rUpA := by
  intro pins s σ H x vs v us Q I rx rv h
  obtain ⟨l, rfl, rfl, hz, ha, q⟩ := h
  obtain ⟨t, rfl⟩ := rx
  have hus := rv.zero
  subst hus
  have hfit : Builtin.Str.tooLong (Txt.upper (S l)).length = false := fit_upper (by rw [S_len]; omega)
  refine call_gives F.slot_str_upper (typeIs_str s _ t) F.entry_str_upper (F.args_str_upper_1 _) (gives_str_upper (S l) t hfit) ⟨fit_le hfit, ?_⟩
  have e : Txt.upper (S l) = S (l.map up1) := by rw [upper_ascii (x := S l) ha]; simp [S]
  exact ⟨.str (S (l.map up1)), H, I.tok _, ⟨s.toks, congrArg (fun z => Value.str z s.toks) e⟩, q⟩
def rLoA : V → List V → Hp → VK → Prop := fun x vs H Q => ∃ l, x = .str (S l) ∧ vs = [] ∧ l.length ≤ 1000 ∧ (∀ c ∈ l, c < 128) ∧ Q (.str (S (l.map lo1))) H
theorem mt_loA : MtR X "str.lower" rLoA := by
  intro pins s σ H x vs v us Q I rx rv h
  obtain ⟨l, rfl, rfl, hz, ha, q⟩ := h
  obtain ⟨t, rfl⟩ := rx
  have hus := rv.zero
  subst hus
  have hfit : Builtin.Str.tooLong (Txt.lower (S l)).length = false := fit_lower (by rw [S_len]; omega)
  refine call_gives F.slot_str_lower (typeIs_str s _ t) F.entry_str_lower (F.args_str_lower_1 _) (gives_str_lower (S l) t hfit) ⟨fit_le hfit, ?_⟩
  have e : Txt.lower (S l) = S (l.map lo1) := by rw [lower_ascii (x := S l) ha]; simp [S]
  exact ⟨.str (S (l.map lo1)), H, I.tok _, ⟨s.toks, congrArg (fun z => Value.str z s.toks) e⟩, q⟩
end
theorem for_str {l : List Nat} {g : TG} {tb : TS} {D : Ends} {σ : St} {H : Hp} (Pv : Nat → St → Hp → Prop) (h0 : Pv 0 σ H)
    (hs : ∀ i c σ H, l[i]? = some c → Pv i σ H → g (.str (S [c])) σ H fun σ2 H2 => tb { D with nx := Pv (i + 1), ct := Pv (i + 1), bk := D.nx } σ2 H2) (hd : ∀ σ H, Pv l.length σ H → D.nx σ H) :
    ∃ W : Nat → Nat → St → Hp → Prop, (∃ m, W 0 m σ H) ∧ ∀ i m σ H, W i m σ H →
      ((Its l).stop i H ∧ D.nx σ H) ∨ ((Its l).go i H ∧ ∃ N : St → Hp → Prop, (∀ σ' H', N σ' H' → ∃ m', m' < m ∧ W (i + 1) m' σ' H') ∧ ∀ x H', (Its l).yld i H x H' → g x σ H' fun σ2 H2 => tb { D with nx := N, ct := N, bk := D.nx } σ2 H2) := by
  refine ⟨fun i m σ H => m = l.length - i ∧ i ≤ l.length ∧ Pv i σ H, ⟨l.length, by simp, Nat.zero_le _, h0⟩, ?_⟩
  rintro i m σ H ⟨rfl, hi, p⟩
  by_cases hlt : i < l.length
  · refine .inr ⟨hlt, Pv (i + 1), fun σ' H' p' => ⟨l.length - (i + 1), by omega, rfl, hlt, p'⟩, fun x H' y => ?_⟩
    obtain ⟨e, c, hc, e2⟩ := y
    subst e e2
    exact hs i c σ _ hc p
  · have e : i = l.length := by omega
    subst e
    exact .inl ⟨Nat.le_refl _, hd σ H p⟩
def AL : List Nat := (List.range 26).map (97 + ·)
theorem ints_mem {ds : List Int} {lo hi : Option Int} {v : V} (h : v ∈ cutV (ds.map V.int) lo hi) : ∃ d ∈ ds, v = .int d := by
  unfold cutV at h
  have h2 := List.mem_of_mem_drop (List.mem_of_mem_take h)
  obtain ⟨d, hd, e⟩ := List.mem_map.mp h2
  exact ⟨d, hd, e.symm⟩
theorem at_modA {α : Type} {xs : List α} {n : Nat} (hn : xs.length = n) (h : 0 < n) (c : Int) : ∃ v, atI xs (c % (n : Int)) = some v ∧ v ∈ xs := by
  have h0 : 0 ≤ c % (n : Int) := Int.emod_nonneg _ (by omega)
  have h1 : c % (n : Int) < n := Int.emod_lt_of_pos _ (by omega)
  obtain ⟨k, hk⟩ : ∃ k : Nat, c % (n : Int) = (k : Int) := ⟨(c % (n : Int)).toNat, by omega⟩
  rw [hk]
  have hl : k < xs.length := by omega
  exact ⟨xs[k], atI_nat (by simp [hl]), List.getElem_mem _⟩
end L2
end

section
set_option Elab.async false
set_option linter.all false
set_option maxRecDepth 100000
/-! data: ints, plain texts, None, tuples and lists of these; ==, !=, in; join of a tuple, comprehensions over tuples, range of three -/
namespace L2
open PySem PySem.Spec PyProof.Rows
inductive Dt where
  | non | int (i : Int) | str (l : List Nat) | tup (ds : List Dt) | lst (ds : List Dt)
mutual
def toP : Dt → PyData
  | .non => .none
  | .int i => .int i
  | .str l => .str (S l)
  | .tup ds => .tuple (toPs ds)
  | .lst ds => .list (toPs ds)
def toPs : List Dt → List PyData
  | [] => []
  | d :: ds => toP d :: toPs ds
end
mutual
theorem eqv_D : ∀ d e : Dt, PyData.eqv (toP d) (toP e) = true ↔ d = e
  | .non, .non => by simp [toP, PyData.eqv]
  | .non, .int _ => by simp [toP, PyData.eqv]
  | .non, .str _ => by simp [toP, PyData.eqv]
  | .non, .tup _ => by simp [toP, PyData.eqv]
  | .non, .lst _ => by simp [toP, PyData.eqv]
  | .int _, .non => by simp [toP, PyData.eqv]
  | .int _, .int _ => by simp [toP, PyData.eqv]
  | .int _, .str _ => by simp [toP, PyData.eqv]
  | .int _, .tup _ => by simp [toP, PyData.eqv]
  | .int _, .lst _ => by simp [toP, PyData.eqv]
  | .str _, .non => by simp [toP, PyData.eqv]
  | .str _, .int _ => by simp [toP, PyData.eqv]
  | .str a, .str b => by
    simp only [toP, PyData.eqv, beq_iff_eq, Dt.str.injEq]
    exact ⟨S_inj, fun z => by rw [z]⟩
  | .str _, .tup _ => by simp [toP, PyData.eqv]
  | .str _, .lst _ => by simp [toP, PyData.eqv]
  | .tup _, .non => by simp [toP, PyData.eqv]
  | .tup _, .int _ => by simp [toP, PyData.eqv]
  | .tup _, .str _ => by simp [toP, PyData.eqv]
  | .tup ds, .tup es => by simp only [toP, PyData.eqv, Dt.tup.injEq]; exact eqv_Ds ds es
  | .tup _, .lst _ => by simp [toP, PyData.eqv]
  | .lst _, .non => by simp [toP, PyData.eqv]
  | .lst _, .int _ => by simp [toP, PyData.eqv]
  | .lst _, .str _ => by simp [toP, PyData.eqv]
  | .lst _, .tup _ => by simp [toP, PyData.eqv]
  | .lst ds, .lst es => by simp only [toP, PyData.eqv, Dt.lst.injEq]; exact eqv_Ds ds es
theorem eqv_Ds : ∀ ds es : List Dt, PyData.eqvAll (toPs ds) (toPs es) = true ↔ ds = es
  | [], [] => by simp [toPs, PyData.eqvAll]
  | [], _ :: _ => by simp [toPs, PyData.eqvAll]
  | _ :: _, [] => by simp [toPs, PyData.eqvAll]
  | d :: ds, e :: es => by
    simp only [toPs, PyData.eqvAll, Bool.and_eq_true, List.cons.injEq]
    rw [eqv_D d e, eqv_Ds ds es]
end
open Classical in
theorem eqv_dec (d e : Dt) : PyData.eqv (toP d) (toP e) = decide (d = e) := by
  by_cases h : d = e
  · rw [decide_eq_true h]; exact (eqv_D d e).mpr h
  · rw [decide_eq_false h]
    cases z : PyData.eqv (toP d) (toP e) with
    | false => rfl
    | true => exact absurd ((eqv_D d e).mp z) h
mutual
inductive HasD (K : PySem.W.Frag) (H : Hp) : Nat → Dt → V → Prop
  | non {n} : HasD K H n .non .non
  | int {n} (i : Int) : HasD K H n (.int i) (.int i)
  | str {n} (l : List Nat) (h : ∀ c ∈ l, c < 128) : HasD K H n (.str l) (.str (S l))
  | tup {n a ds xs} (h : SqT K H a xs) (hs : HasDs K H n ds xs) : HasD K H (n + 1) (.tup ds) (.ref a)
  | lst {n a ds xs} (h : SqL K H a xs) (hs : HasDs K H n ds xs) : HasD K H (n + 1) (.lst ds) (.ref a)
inductive HasDs (K : PySem.W.Frag) (H : Hp) : Nat → List Dt → List V → Prop
  | nil {n} : HasDs K H n [] []
  | cons {n d ds x xs} (h : HasD K H n d x) (hs : HasDs K H n ds xs) : HasDs K H n (d :: ds) (x :: xs)
end
theorem strOk_S {l : List Nat} (h : ∀ c ∈ l, c < 128) : PyData.strOk (S l) = true := by
  unfold PyData.strOk
  show l.toArray.all _ = true
  rw [Array.all_eq_true_iff_forall_mem]
  intro x hx
  have := h x (by simpa using hx)
  exact decide_eq_true (by omega)
mutual
theorem HasD.lay {K : PySem.W.Frag} {H : Hp} : ∀ {n : Nat} {d : Dt} {x : V}, HasD K H n d x → (toP d).canLay0 = true ∧ (toP d).depth ≤ n
  | _, _, _, .non => by simp [toP, PyData.canLay0, PyData.depth]
  | _, _, _, .int _ => by simp [toP, PyData.canLay0, PyData.depth]
  | _, _, _, .str l h => by simp only [toP, PyData.canLay0, PyData.depth]; exact ⟨strOk_S h, Nat.zero_le _⟩
  | _, _, _, .tup _ hs => by
    simp only [toP, PyData.canLay0, PyData.depth]
    have := hs.lay
    exact ⟨this.1, Nat.succ_le_succ this.2⟩
  | _, _, _, .lst _ hs => by
    simp only [toP, PyData.canLay0, PyData.depth]
    have := hs.lay
    exact ⟨this.1, Nat.succ_le_succ this.2⟩
theorem HasDs.lay {K : PySem.W.Frag} {H : Hp} : ∀ {n : Nat} {ds : List Dt} {xs : List V}, HasDs K H n ds xs → PyData.canLayAll0 (toPs ds) = true ∧ PyData.depthAll (toPs ds) ≤ n
  | _, _, _, .nil => by simp [toPs, PyData.canLayAll0, PyData.depthAll]
  | _, _, _, .cons h hs => by
    have a := h.lay
    have b := hs.lay
    simp only [toPs, PyData.canLayAll0, PyData.depthAll, Bool.and_eq_true]
    exact ⟨⟨a.1, b.1⟩, Nat.max_le.mpr ⟨a.2, b.2⟩⟩
end
mutual
theorem HasD.same {K : PySem.W.Frag} {H H' : Hp} (sm : Same H H') (st : ∀ a xs, SqT K H a xs → SqT K H' a xs) : ∀ {n : Nat} {d : Dt} {x : V}, HasD K H n d x → HasD K H' n d x
  | _, _, _, .non => .non
  | _, _, _, .int i => .int i
  | _, _, _, .str l h => .str l h
  | _, _, _, .tup h hs => .tup (st _ _ h) (hs.same sm st)
  | _, _, _, .lst h hs => .lst (sm.seq h) (hs.same sm st)
theorem HasDs.same {K : PySem.W.Frag} {H H' : Hp} (sm : Same H H') (st : ∀ a xs, SqT K H a xs → SqT K H' a xs) : ∀ {n : Nat} {ds : List Dt} {xs : List V}, HasDs K H n ds xs → HasDs K H' n ds xs
  | _, _, _, .nil => .nil
  | _, _, _, .cons h hs => .cons (h.same sm st) (hs.same sm st)
end
theorem Same.seqT {K : PySem.W.Frag} {H H' : Hp} {a : Addr} {xs : List V} (e : Same H H') (h : SqT K H a xs) : SqT K H' a xs := by
  rcases h with (h | ⟨o, h⟩) | h
  · exact .inl (.inl (e _ _ h))
  · exact .inl (.inr ⟨o, e _ _ h⟩)
  · exact .inr h
theorem HasD.mv {K : PySem.W.Frag} {H H' : Hp} (sm : Same H H') {n : Nat} {d : Dt} {x : V} (h : HasD K H n d x) : HasD K H' n d x := h.same sm fun _ _ => sm.seqT
theorem HasDs.mv {K : PySem.W.Frag} {H H' : Hp} (sm : Same H H') {n : Nat} {d : List Dt} {x : List V} (h : HasDs K H n d x) : HasDs K H' n d x := h.same sm fun _ _ => sm.seqT
section
variable {X : Cx}
mutual
theorem HasD.reads {pins : List (Addr × Obj)} {σ : St} {H : Hp} {s : Shared} (I : Inv X pins σ H s) : ∀ {n : Nat} {d : Dt} {x : V} {u : Value}, HasD X.K H n d x → RelV x u → ∃ as, Reads s.heap u (toP d) as
  | _, _, _, u, .non, r => by cases r; exact ⟨[], by rw [toP]; exact .none⟩
  | _, _, _, u, .int i, r => by obtain ⟨t, rfl⟩ := r; exact ⟨[], by rw [toP]; exact .int i t⟩
  | _, _, _, u, .str l h, r => by obtain ⟨t, rfl⟩ := r; exact ⟨[], by rw [toP]; exact .str _ t⟩
  | _, _, _, u, .tup h hs, r => by
    cases r
    obtain ⟨its, rv, pl, _⟩ := I.tuple h
    obtain ⟨as, ra⟩ := hs.reads I rv
    obtain ⟨o, ho, hc, n, hd⟩ := pl
    exact ⟨as, by rw [toP]; exact .tuple ho hc hd (by simpa using ra)⟩
  | _, _, _, u, .lst h hs, r => by
    cases r
    obtain ⟨its, rv, pl, _⟩ := I.list h
    obtain ⟨as, ra⟩ := hs.reads I rv
    obtain ⟨o, ho, hc, n, hd⟩ := pl.isList
    exact ⟨_ :: as, by rw [toP]; exact .list ho hc hd (by simpa using ra)⟩
theorem HasDs.reads {pins : List (Addr × Obj)} {σ : St} {H : Hp} {s : Shared} (I : Inv X pins σ H s) : ∀ {n : Nat} {ds : List Dt} {xs : List V} {us : List Value}, HasDs X.K H n ds xs → Vals xs us → ∃ as, ReadsAll s.heap us (toPs ds) as
  | _, _, _, us, .nil, r => by cases r; exact ⟨[], by rw [toPs]; exact .nil⟩
  | _, _, _, us, .cons h hs, r => by
    cases r with
    | cons q t =>
      obtain ⟨as, a⟩ := h.reads I q
      obtain ⟨bs, b⟩ := hs.reads I t
      exact ⟨as ++ bs, by rw [toPs]; exact .cons a b⟩
end
theorem HasD.shaped {K : PySem.W.Frag} {H : Hp} {n : Nat} {d : Dt} {x : V} (h : HasD K H n d x) (hn : n ≤ 64) : SeqAt.shaped (toP d) = true := by
  unfold SeqAt.shaped
  rw [h.lay.1, decide_eq_true (Nat.le_trans h.lay.2 hn)]
  rfl
open Classical in
def rEqD (K : PySem.W.Frag) (neg : Bool) : R2 := fun x y H Q => ∃ n d e, n ≤ 64 ∧ HasD K H n d x ∧ HasD K H n e y ∧ Q (.bl (if neg then !decide (d = e) else decide (d = e))) H
theorem op_eqD (hu : X.A.units + 64 < cLine) : OpR X (compareOp .Eq) (rEqD X.K false) := by
  intro pins s σ H x y v u Q I rx ry h
  obtain ⟨n, d, e, hn, hd, he, q⟩ := h
  obtain ⟨as, ra⟩ := hd.reads I rx
  obtain ⟨bs, rb⟩ := he.reads I ry
  refine SeqAt.compareEq_shaped ra rb (hd.shaped hn) (he.shaped hn) hu ⟨.bl _, H, I, rfl, ?_⟩
  rw [eqv_dec]; exact q
theorem op_neD (hu : X.A.units + 64 < cLine) : OpR X (compareOp .NotEq) (rEqD X.K true) := by
  intro pins s σ H x y v u Q I rx ry h
  obtain ⟨n, d, e, hn, hd, he, q⟩ := h
  obtain ⟨as, ra⟩ := hd.reads I rx
  obtain ⟨bs, rb⟩ := he.reads I ry
  refine SeqAt.compareNe_shaped ra rb (hd.shaped hn) (he.shaped hn) hu ⟨.bl _, H, I, rfl, ?_⟩
  rw [eqv_dec]; exact q
def rJoinT (K : PySem.W.Frag) : V → List V → Hp → VK → Prop := fun x vs H Q => ∃ p ls, x = .str (S []) ∧ vs = [.ref p] ∧ SqT K H p (Ts ls) ∧ ls.flatten.length ≤ 1000 ∧ Q (.str (S ls.flatten)) H
theorem mt_joinT : MtR X "str.join" (rJoinT X.K) := by
  intro pins s σ H x vs v us Q I rx rv h
  obtain ⟨p, ls, rfl, rfl, hq, hz, q⟩ := h
  obtain ⟨t, rfl⟩ := rx
  obtain ⟨u, rfl, ru⟩ := vals1 rv
  cases ru
  obtain ⟨its, r, pl, _⟩ := I.tuple hq
  refine join_tuple pl (ys := ls.map S) (by simpa using strs_of r) ?_ fun t' k => ?_
  · rw [sum_len]; show _ + _ * 0 ≤ _; omega
  · exact ⟨.str (S ls.flatten), H, I.tok k, ⟨t', congrArg (fun z => Value.str z t') (joinNil ls)⟩, q⟩
/-- range of three, its step rising -/
def Itr3 (lo c : Int) (n : Nat) : It := ⟨fun i _ => i < n, fun i H x H' => H' = H ∧ x = .int (lo + i * c), fun i _ => n ≤ i⟩
theorem turn_range3 {P : Program} {w : World} {K : PySem.W.Frag} {tg : Expr} (it : Addr) (lo c : Int) (n : Nat) : Turn P w K tg (Itr3 lo c n) [it] it (fun i h => IsRangeIter h it (lo + (i : Nat) * c) ((n : Int) - (i : Nat)) c) where
  mem := by simp
  obj := fun i h st b hb => by
    have e : b = it := by simpa using hb
    subst e
    exact ⟨_, st, fun v z => by
      have z' : Data.fields _ = Data.cell v := z
      cases z'⟩
  keep := fun i h h' st k => k it (by simp) _ st
  item := by
    intro X hP hw hK hc i pins s σ H E I hf st hg
    subst hP hw hK
    obtain ⟨f0, f1, f2, f3, f4, f5⟩ := hf it (by simp)
    have W := Walks.range (prog := X.prog) (w := X.w) (I.ok.hd hc) it lo c n
    refine W.item i s _ _ hg st fun v h' tk hv st' kk => ?_
    obtain ⟨t, rfl⟩ := hv
    have I1 : Inv X pins σ H { s with heap := h', toks := tk } := I.turned (fun b o hb e => kk b o (by simpa using hb) e) f0 f1 f3 f4 f5
    exact ⟨_, rfl, go_of (s := { s with heap := h', toks := tk }) (n := "range_iterator") st' rfl rfl (by decide) ⟨.int (lo + i * c), H, I1, ⟨t, rfl⟩, ⟨rfl, rfl⟩, st', fun b hb => (hf b hb).1⟩⟩
  done := by
    intro X hP hw hK hc i pins s σ H E I hf st hg
    subst hP hw hK
    obtain ⟨f0, f1, f2, f3, f4, f5⟩ := hf it (by simp)
    exact wpAny_pyNext_range_end (I.ok.hd hc) st (by have : n ≤ i := hg; omega) fun h' eb => ⟨rfl, I.turned (t' := s.toks) (fun b o hb e => eb b o hb e) f0 f1 f3 f4 f5⟩
  self := fun _ _ _ _ _ st h => wpAny_pyIter_rangeiter st h
variable {tg : Expr}
def iRng3 (ta : TA) : TI := fun σ H R => ta σ H fun vs H1 => ∃ r c : Nat, vs = [.int 0, .int ((r * c : Nat) : Int), .int (c : Int)] ∧ 1 ≤ r ∧ r ≤ 9 ∧ 1 ≤ c ∧ c ≤ 9 ∧ R (Itr3 0 c r) H1
theorem small3 : ∀ r c : Fin 10, 1 ≤ r.val → 1 ≤ c.val → Builtin.Range.small 0 ((r.val * c.val : Nat) : Int) (c.val : Int) = true ∧ Builtin.Range.rangeSize 0 ((r.val * c.val : Nat) : Int) (c.val : Int) = (r.val : Int) := by decide +kernel
theorem qi_range3 {a b c : Expr} {ta : TA} {p pos : Pos} (hg : Gl X "range") (hm : X.mg "range" = none) (ha : QA X [a, b, c] ta) (hs : starEach [a, b, c] X.env = [(false, eval a X.env), (false, eval b X.env), (false, eval c X.env)] := by rfl)
    (hs2 : starEach [b, c] X.env = [(false, eval b X.env), (false, eval c X.env)] := by rfl) :
    QI X tg (.Call (.Name "range" p) [a, b, c] [] pos) (iRng3 ta) := ⟨by
  intro pins s σ H R I h
  refine Call_ (ld_blt I hg hm boot_range (PyProof.Rows.callWith_type1 (thn (ha.out pos pins s σ H _ I h) fun us s1 ⟨vs, H1, I1, r1, q1⟩ => ?_) (by rw [hs, hs2]) (by rw [hs2]; rfl)))
  obtain ⟨r, c, e, q1, q2, q3, q4, q⟩ := q1
  subst e
  cases r1 with
  | cons r1 rr =>
    cases rr with
    | cons r2 rr =>
      cases rr with
      | cons r3 rr =>
        cases rr
        obtain ⟨t1, rfl⟩ := r1
        obtain ⟨t2, rfl⟩ := r2
        obtain ⟨t3, rfl⟩ := r3
        obtain ⟨sm, sz⟩ := small3 ⟨r, by omega⟩ ⟨c, by omega⟩ q1 q3
        refine call_range_3 (by omega) ?_ (.inl (PyProof.noPylong_small (by omega)))
        refine wpAny_pyIter_range (IsRange.new ..) sm ?_
        have I2 : Inv X pins σ H1 { s1 with heap := s1.heap.push { cls := .type "range", data := .fields #[.int 0 t1, .int ((r * c : Nat) : Int) t2, .int (c : Int) t3] }, toks := s1.toks } := I1.kept fun b o e => Heap.get?_push_of_some _ e
        refine ⟨(s1.heap.push { cls := .type "range", data := .fields #[.int 0 t1, .int ((r * c : Nat) : Int) t2, .int (c : Int) t3] }).objs.size, [(s1.heap.push { cls := .type "range", data := .fields #[.int 0 t1, .int ((r * c : Nat) : Int) t2, .int (c : Int) t3] }).objs.size], _, _, H1, rfl,
          I2.kept (t' := s1.toks) fun b o e => Heap.get?_push_of_some _ e, turn_range3 _ 0 (c : Int) r, ?_, fun b hb => ?_, q⟩
        · have e1 : (0 : Int) + ((0 : Nat) : Int) * (c : Int) = 0 := by simp
          have e2 : (r : Int) - ((0 : Nat) : Int) = Builtin.Range.rangeSize 0 ((r * c : Nat) : Int) (c : Int) := by rw [sz]; simp
          show IsRangeIter _ _ ((0 : Int) + ((0 : Nat) : Int) * (c : Int)) ((r : Int) - ((0 : Nat) : Int)) (c : Int)
          rw [e1, e2]
          exact Heap.get?_push_size _ rfl
        · have e : b = (s1.heap.push { cls := .type "range", data := .fields #[.int 0 t1, .int ((r * c : Nat) : Int) t2, .int (c : Int) t3] }).objs.size := by simpa using hb
          subst e
          exact I2.fpOk (Nat.le_refl _) (I2.hok.fresh (Nat.le_refl _))⟩
end
theorem comp_range3 {lo c : Int} {n : Nat} {D : Addr} {te : TE} {σ : St} {H : Hp} {R : Hp → Prop} (Pv : Nat → List V → Hp → Prop) (h0 : Pv 0 [] (upd H D (.lst [])))
    (hs : ∀ i ys H, i < n → Pv i ys H → te (some (.int (lo + i * c)) :: σ) H fun y H3 => H3 D = some (.lst ys) ∧ ys.length < sizeLine ∧ Nxt n i (Pv (i + 1) (ys ++ [y]) (upd H3 D (.lst (ys ++ [y])))))
    (hd : ∀ ys H, Pv n ys H → R H) :
    ∃ W : Nat → Nat → List V → Hp → Prop, (∃ m, W 0 m [] (upd H D (.lst []))) ∧
      ∀ i m ys H, W i m ys H → ((Itr3 lo c n).stop i H ∧ R H) ∨ ((Itr3 lo c n).go i H ∧ ∀ x H', (Itr3 lo c n).yld i H x H' → tYes (some x :: σ) H' fun b H2 =>
        if b = true then te (some x :: σ) H2 fun y H3 => H3 D = some (.lst ys) ∧ ys.length < sizeLine ∧ ∃ m', m' < m ∧ W (i + 1) m' (ys ++ [y]) (upd H3 D (.lst (ys ++ [y])))
        else ∃ m', m' < m ∧ W (i + 1) m' ys H2) := by
  refine ⟨fun i m ys H => m = n - i ∧ i ≤ n ∧ Pv i ys H, ⟨n, by simp, Nat.zero_le _, h0⟩, ?_⟩
  rintro i m ys H ⟨rfl, hi, p⟩
  by_cases hlt : i < n
  · refine .inr ⟨hlt, fun x H' y => ?_⟩
    obtain ⟨e, y⟩ := y
    subst e y
    exact hs i ys H' hlt p
  · have e : i = n := by omega
    subst e
    exact .inl ⟨Nat.le_refl _, hd ys H p⟩
theorem comp_tup {K : PySem.W.Frag} {a D : Addr} {xs : List V} {te : TE} {σ : St} {H : Hp} {R : Hp → Prop} (Pv : Nat → List V → Hp → Prop) (h0 : Pv 0 [] (upd H D (.lst []))) (hl : ∀ i ys H, i ≤ xs.length → Pv i ys H → SqT K H a xs)
    (hs : ∀ i x ys H, xs[i]? = some x → Pv i ys H → te (some x :: σ) H fun y H3 => H3 D = some (.lst ys) ∧ ys.length < sizeLine ∧ Nxt xs.length i (Pv (i + 1) (ys ++ [y]) (upd H3 D (.lst (ys ++ [y])))))
    (hd : ∀ ys H, Pv xs.length ys H → R H) :
    ∃ W : Nat → Nat → List V → Hp → Prop, (∃ m, W 0 m [] (upd H D (.lst []))) ∧
      ∀ i m ys H, W i m ys H → ((Itt K a).stop i H ∧ R H) ∨ ((Itt K a).go i H ∧ ∀ x H', (Itt K a).yld i H x H' → tYes (some x :: σ) H' fun b H2 =>
        if b = true then te (some x :: σ) H2 fun y H3 => H3 D = some (.lst ys) ∧ ys.length < sizeLine ∧ ∃ m', m' < m ∧ W (i + 1) m' (ys ++ [y]) (upd H3 D (.lst (ys ++ [y])))
        else ∃ m', m' < m ∧ W (i + 1) m' ys H2) := by
  refine ⟨fun i m ys H => m = xs.length - i ∧ i ≤ xs.length ∧ Pv i ys H, ⟨xs.length, by simp, Nat.zero_le _, h0⟩, ?_⟩
  rintro i m ys H ⟨rfl, hi, p⟩
  have q := hl i ys H hi p
  by_cases hlt : i < xs.length
  · refine .inr ⟨⟨xs, xs[i], q, by simp [hlt]⟩, fun x H' y => ?_⟩
    obtain ⟨e, y⟩ := y
    subst e
    exact hs i x ys H' (y xs q) p
  · have e : i = xs.length := by omega
    subst e
    exact .inl ⟨⟨xs, q, Nat.le_refl _⟩, hd ys H p⟩
end L2
namespace L2
open PySem PySem.Spec PyProof.Rows
section
variable {X : Cx} {x : Str} {pos : Pos}
theorem qe_gS {l : List Nat} (hg : Gl X x) (hm : ∃ t, X.mg x = some (.str (S l) t)) (hd : (x == ("__debug__" : Str)) = false := by decide) : QE X (.Name x pos) (tC (.str (S l))) :=
  let ⟨t, e⟩ := hm; qe_glob hg e ⟨t, rfl⟩ hd
theorem qe_gI {i : Int} (hg : Gl X x) (hm : ∃ t, X.mg x = some (.int i t)) (hd : (x == ("__debug__" : Str)) = false := by decide) : QE X (.Name x pos) (tC (.int i)) :=
  let ⟨t, e⟩ := hm; qe_glob hg e ⟨t, rfl⟩ hd
theorem qg_sub {o i : Expr} {to ti : TE} {t : TSet} (ho : QE X o to) (hi : QE X i ti) (hs : PSet X t)
    (ha : ∀ v, assign (.Subscript o i pos) X.env v = (do
      let ov ← holding [v] (eval o X.env)
      let iv ← holding [v, ov] (eval i X.env)
      standAt pos
      holding [v, ov, iv] (setItem ov iv v)
      release [v, ov, iv] []) := by intro _; rfl) : QG X (.Subscript o i pos) (gSub to ti t) := ⟨pg_sub ho.out hi.out hs ha⟩
end
theorem boot_allX : bootBuiltins "all" = some (.builtin "all") := by decide +kernel
theorem boot_anyX : bootBuiltins "any" = some (.builtin "any") := by decide +kernel
theorem glob_str {K : PySem.W.Frag} {h : Heap} {mg : Str → Option Value} {x : Str} {l : List Nat} {t : Tok} (X : K.In h) (G : h.Ns mainGlobals mg) (a : PySem.W.nsIn K mainGlobals x = some (some (.str (S l) t))) : ∃ t, mg x = some (.str (S l) t) := ⟨t, PySem.W.mg_of X G a⟩
theorem glob_int {K : PySem.W.Frag} {h : Heap} {mg : Str → Option Value} {x : Str} {i : Int} {t : Tok} (X : K.In h) (G : h.Ns mainGlobals mg) (a : PySem.W.nsIn K mainGlobals x = some (some (.int i t))) : ∃ t, mg x = some (.int i t) := ⟨t, PySem.W.mg_of X G a⟩
end L2
namespace L2
open PySem PySem.Spec PyProof.Rows
section
variable {X : Cx}
theorem ix_listK (K : PySem.W.Frag)  (h : X.K = K := by rfl) : IxR X (rIxL K) := by subst h; exact ix_list
theorem ix_tupK (K : PySem.W.Frag)  (h : X.K = K := by rfl) : IxR X (rIxT K) := by subst h; exact ix_tup
theorem sl_listK (K : PySem.W.Frag)  (h : X.K = K := by rfl) : SlR X (rSlL K) := by subst h; exact sl_list
theorem sl_tupK (K : PySem.W.Frag)  (h : X.K = K := by rfl) : SlR X (rSlT K) := by subst h; exact sl_tup
theorem call_len_seqK (K : PySem.W.Frag)  (h : X.K = K := by rfl) : CallR X (.builtin "len") (fun xs H Q => ∃ p ys, xs = [.ref p] ∧ (SqL K H p ys ∨ SqT K H p ys) ∧ Q (.int ys.length) H) := by subst h; exact call_len_seq
theorem call_isinstK (K : PySem.W.Frag)  (h : X.K = K := by rfl) : CallR X (.builtin "isinstance") (rInst K) := by subst h; exact call_isinst
theorem mt_joinK (K : PySem.W.Frag)  (h : X.K = K := by rfl) : MtR X "str.join" (rJoin K) := by subst h; exact mt_join
theorem mt_joinTK (K : PySem.W.Frag)  (h : X.K = K := by rfl) : MtR X "str.join" (rJoinT K) := by subst h; exact mt_joinT
theorem op_in_seqK (K : PySem.W.Frag)  (h : X.K = K := by rfl) : OpR X (compareOp .In) (rIn K false) := by subst h; exact op_in_seq
theorem op_notIn_seqK (K : PySem.W.Frag)  (h : X.K = K := by rfl) : OpR X (compareOp .NotIn) (rIn K true) := by subst h; exact op_notIn_seq
theorem op_eqDK (K : PySem.W.Frag) (hu : X.A.units + 64 < cLine) (h : X.K = K := by rfl) : OpR X (compareOp .Eq) (rEqD K false) := by subst h; exact op_eqD hu
theorem op_neDK (K : PySem.W.Frag) (hu : X.A.units + 64 < cLine) (h : X.K = K := by rfl) : OpR X (compareOp .NotEq) (rEqD K true) := by subst h; exact op_neD hu
theorem call_allK (K : PySem.W.Frag) (hc : X.calm = true) (h : X.K = K := by rfl) : CallR X (.builtin "all") (fun xs H Q => ∃ (p : Addr) (bs : List Bool), xs = [.ref p] ∧ SqL K H p (bs.map V.bl) ∧ Q (.bl (bs.all id)) H) := by subst h; exact call_all hc
theorem call_list_ofK (K : PySem.W.Frag)  (h : X.K = K := by rfl) : CallR X (.type "list") (fun xs H Q => ∃ p ys, xs = [.ref p] ∧ (SqL K H p ys ∨ SqT K H p ys) ∧ ∀ l, H l = none → Q (.ref l) (upd H l (.lst ys))) := by subst h; exact call_list_of
theorem call_tuple_ofK (K : PySem.W.Frag)  (h : X.K = K := by rfl) : CallR X (.type "tuple") (fun xs H Q => ∃ p ys, xs = [.ref p] ∧ ((SqL K H p ys ∧ ∀ l, H l = none → Q (.ref l) (upd H l (.tup ys))) ∨ (SqT K H p ys ∧ Q (.ref p) H))) := by subst h; exact call_tuple_of
theorem qi_listK (K : PySem.W.Frag) {tg l : Expr} {tl : TE} (hl : QE X l tl) (h : X.K = K := by rfl) : QI X tg l (iList K tl) := by subst h; exact qi_list hl
theorem qi_tupK (K : PySem.W.Frag) {tg l : Expr} {tl : TE} (hl : QE X l tl) (h : X.K = K := by rfl) : QI X tg l (iTup K tl) := by subst h; exact qi_tup hl
theorem qe_bmK  {o e : Expr} {es : List Expr} {to : TE} {t : TA} {name : Str} {apos cpos : Pos} {T id : String} {r : V → List V → Hp → VK → Prop} (K : PySem.W.Frag) (pa : PlainAttrs T) (slot : Slot T name id) (hty : typeOf (.builtin id) = pure (.type "method_descriptor")) (hm : MtR X id r) (ho : QE X o to) (ha : QA X (e :: es) t) (hbase : attributeBase o name X.env (eval o X.env) = eval o X.env := by rfl) (hfew : ((backTo cpos (starEach (e :: es) X.env)).all (fun x => !x.1) && (backToKw cpos (keywordEach [] X.env)).all (fun x => x.1.isSome)
      && decide ((e :: es).length + ([] : List Keyword).length + (if ([] : List Keyword).isEmpty then 0 else 1) < 30)) = true := by rfl) (hline : (apos.endLine == cpos.line) = true := by rfl) (hs : starEach (e :: es) X.env = (false, eval e X.env) :: starEach es X.env := by rfl) (hplain : (backTo cpos (starEach es X.env)).any (·.1) = false := by rfl) (h : X.K = K := by rfl) : QE X (.Call (.Attribute o name apos) (e :: es) [] cpos) (tBM K T r to t) := by subst h; exact qe_bm pa slot hty hm ho ha hbase hfew hline hs hplain
theorem qe_bm0K  {o e : Expr} {es : List Expr} {to : TE} {t : TA} {name : Str} {apos cpos : Pos} {T id : String} {r : V → List V → Hp → VK → Prop} (K : PySem.W.Frag) (pa : PlainAttrs T) (slot : Slot T name id) (hty : typeOf (.builtin id) = pure (.type "method_descriptor")) (hm : MtR X id r) (ho : QE X o to) (hbase : attributeBase o name X.env (eval o X.env) = eval o X.env := by rfl) (hline : (apos.endLine == cpos.line) = true := by rfl) (h : X.K = K := by rfl) : QE X (.Call (.Attribute o name apos) [] [] cpos) (tBM0 K T r to) := by subst h; exact qe_bm0 pa slot hty hm ho hbase hline
theorem qe_fldK  {o e value : Expr} {f : Str} {pos pos' tpos : Pos} {ta tv : TE} (K : PySem.W.Frag) (he : QE X e ta) (hb : attributeBase e f X.env (eval e X.env) = eval e X.env) (h : X.K = K := by rfl) : QE X (.Attribute e f pos) (tFld K ta f) := by subst h; exact qe_fld he hb
end
end L2
end

section
set_option Elab.async false
set_option linter.all false
set_option maxRecDepth 100000
/-! partition and rpartition of a text at a point -/
namespace L2
open PySem PySem.Spec PyProof.Rows
def headF (l : List Nat) : List Nat := l.takeWhile fun c => c != 46
def tailF (l : List Nat) : List Nat := (l.reverse.takeWhile fun c => c != 46).reverse
theorem headF_at : ∀ {l : List Nat} {i : Nat}, l[i]? = some 46 → (∀ k, k < i → l[k]? ≠ some 46) → headF l = l.take i
  | [], i, h, _ => by simp at h
  | c :: l, 0, h, _ => by
    have : c = 46 := by simpa using h
    subst this
    simp [headF]
  | c :: l, i + 1, h, hk => by
    have hc : c ≠ 46 := fun e => hk 0 (by omega) (by simp [e])
    have ih := headF_at (l := l) (i := i) (by simpa using h) (fun k hk' => by have := hk (k + 1) (by omega); simpa using this)
    unfold headF at ih ⊢
    rw [List.takeWhile_cons_of_pos (by simpa using hc), ih, List.take_succ_cons]
theorem headF_all {l : List Nat} (h : 46 ∉ l) : headF l = l := by
  unfold headF
  induction l with
  | nil => rfl
  | cons c r ih =>
    have hc : c ≠ 46 := fun e => h (by rw [e]; exact List.mem_cons_self)
    rw [List.takeWhile_cons_of_pos (by simpa using hc), ih fun z => h (List.mem_cons_of_mem _ z)]
theorem tailF_all {l : List Nat} (h : 46 ∉ l) : tailF l = l := by
  have := headF_all (l := l.reverse) (by simpa using h)
  unfold headF at this
  unfold tailF
  rw [this, List.reverse_reverse]
theorem tailF_at {l : List Nat} {i : Nat} (h : l[i]? = some 46) (hk : ∀ k, i < k → l[k]? ≠ some 46) : tailF l = l.drop (i + 1) := by
  have hi : i < l.length := (List.getElem?_eq_some_iff.mp h).1
  have e : headF l.reverse = l.reverse.take (l.length - (i + 1)) := by
    refine headF_at ?_ fun k hk' => ?_
    · rw [List.getElem?_reverse (by omega), show l.length - 1 - (l.length - (i + 1)) = i by omega]; exact h
    · rw [List.getElem?_reverse (by omega)]
      exact hk _ (by omega)
  unfold headF at e
  unfold tailF
  rw [e, List.take_reverse, List.reverse_reverse, show l.length - (l.length - (i + 1)) = i + 1 by omega]
theorem cut_to (l : List Nat) (n : Nat) : cutN l none (some (n : Int)) = l.take n := by
  unfold cutN
  rw [HT.sIx_nat]
  show (l.drop 0).take (min n l.length - 0) = _
  rw [List.drop_zero, Nat.sub_zero]
  by_cases h : n ≤ l.length
  · rw [Nat.min_eq_left h]
  · rw [Nat.min_eq_right (by omega), List.take_of_length_le (Nat.le_refl _), List.take_of_length_le (by omega)]
theorem cut_from (l : List Nat) (n : Nat) : cutN l (some (n : Int)) none = l.drop n := by
  unfold cutN
  rw [HT.sIx_nat]
  show (l.drop (min n l.length)).take (l.length - min n l.length) = _
  rw [List.take_of_length_le (by rw [List.length_drop]; omega)]
  by_cases h : n ≤ l.length
  · rw [Nat.min_eq_left h]
  · rw [Nat.min_eq_right (by omega), List.drop_of_length_le (Nat.le_refl _), List.drop_of_length_le (by omega)]
theorem cut_nn {l : List Nat} {a b : Nat} (h1 : a ≤ b) (h2 : b ≤ l.length) : cutN l (some (a : Int)) (some (b : Int)) = (l.drop a).take (b - a) := by
  unfold cutN
  rw [HT.sIx_nat, HT.sIx_nat, Nat.min_eq_left h2, Nat.min_eq_left (show a ≤ l.length by omega)]
theorem sub_S (l : List Nat) (i j : Nat) : Builtin.Str.strSub (S l) i j = S ((l.take j).drop i) := by
  unfold Builtin.Str.strSub S
  congr 1
  apply Array.toList_inj.mp
  simp [List.drop_take]
section
variable {X : Cx}
theorem part_head (l : List Nat) : (Txt.partition (S l) (S [46])).1 = S (headF l) := by
  rcases partition_head (S l) (S [46]) with ⟨e, h⟩ | ⟨i, e, h, hk⟩
  · rw [e, headF_all fun hm => ?_]
    obtain ⟨i, hi⟩ := List.mem_iff_getElem?.mp hm
    exact h i ((StrLaws.subAt_one (S l) 46 i).mpr hi)
  · rw [e, sub_S, List.drop_zero, headF_at (l := l) ((StrLaws.subAt_one (S l) 46 i).mp h) fun k hk' z => hk k hk' ((StrLaws.subAt_one (S l) 46 k).mpr z)]
theorem rpart_tail (l : List Nat) : (Txt.rpartition (S l) (S [46])).2.2 = S (tailF l) := by
  unfold Txt.rpartition
  rcases StrLaws.last_spec (S l) (S [46]) with ⟨e, h⟩ | ⟨i, e, h, hk⟩
  · rw [e]
    show S l = _
    rw [tailF_all fun hm => ?_]
    obtain ⟨i, hi⟩ := List.mem_iff_getElem?.mp hm
    exact h i ((StrLaws.subAt_one (S l) 46 i).mpr hi)
  · rw [e]
    show Builtin.Str.strSub (S l) (i + 1) l.length = _
    rw [sub_S, List.take_of_length_le (Nat.le_refl _), tailF_at (l := l) ((StrLaws.subAt_one (S l) 46 i).mp h) fun k hk' z => hk k hk' ((StrLaws.subAt_one (S l) 46 k).mpr z)]
def rPart : V → List V → Hp → VK → Prop := fun x vs H Q => ∃ l, x = .str (S l) ∧ vs = [.str (S [46])] ∧ l.length ≤ 1000 ∧ ∀ (p : Addr) (b c : Str), H p = none → Q (.ref p) (upd H p (.tup [.str (S (headF l)), .str b, .str c]))
theorem mt_part : MtR X "str.partition" rPart := by
  intro pins s σ H x vs v us Q I rx rv h
  obtain ⟨l, rfl, rfl, hz, q⟩ := h
  obtain ⟨t, rfl⟩ := rx
  obtain ⟨u, rfl, ru⟩ := vals1 rv
  obtain ⟨t2, rfl⟩ := ru
  have hsz : (S l).length ≤ sizeLine := Nat.le_of_lt (small1000 hz)
  refine call_meets F.slot_str_partition (typeIs_str _ _ _) F.entry_str_partition (F.args_str_partition_2 _ _) (meets_str_partition (S l) (S [46]) t t2 rfl hsz) ?_
  have e := part_head l
  have q' := fun b c => q s.heap.objs.size b c (I.hok.fresh (Nat.le_refl _))
  rw [← e] at q'
  unfold Txt.partition at q'
  revert q'
  cases Builtin.Str.occurrences (S l) (S [46]) 0 (S l).length 1 with
  | nil =>
    intro q'
    refine ⟨.ref s.heap.objs.size, _, I.laid (o := .tup _) (t' := s.toks + 1) (fun b ob z => Heap.get?_push_of_some _ z) (Nat.le_refl _) ?_, rfl, q' Str.empty Str.empty⟩
    exact ⟨by show 3 ≤ sizeLine; decide, _, .cons ⟨_, rfl⟩ (.cons ⟨_, rfl⟩ (.cons ⟨_, rfl⟩ .nil)), ⟨_, Heap.get?_push_size _ rfl, rfl, 0, rfl⟩⟩
  | cons i r =>
    intro q'
    refine ⟨.ref s.heap.objs.size, _, I.laid (o := .tup _) (t' := s.toks + 1 + 1) (fun b ob z => Heap.get?_push_of_some _ z) (Nat.le_refl _) ?_, rfl, q' (S [46]) (Builtin.Str.strSub (S l) (i + (S [46]).length) (S l).length)⟩
    exact ⟨by show 3 ≤ sizeLine; decide, _, .cons ⟨_, rfl⟩ (.cons ⟨_, rfl⟩ (.cons ⟨_, rfl⟩ .nil)), ⟨_, Heap.get?_push_size _ rfl, rfl, 0, rfl⟩⟩
def rRPart : V → List V → Hp → VK → Prop := fun x vs H Q => ∃ l, x = .str (S l) ∧ vs = [.str (S [46])] ∧ l.length ≤ 1000 ∧ ∀ (p : Addr) (a b : Str), H p = none → Q (.ref p) (upd H p (.tup [.str a, .str b, .str (S (tailF l))]))
theorem mt_rpart : MtR X "str.rpartition" rRPart := by
  intro pins s σ H x vs v us Q I rx rv h
  obtain ⟨l, rfl, rfl, hz, q⟩ := h
  obtain ⟨t, rfl⟩ := rx
  obtain ⟨u, rfl, ru⟩ := vals1 rv
  obtain ⟨t2, rfl⟩ := ru
  have hsz : (S l).length ≤ sizeLine := Nat.le_of_lt (small1000 hz)
  refine call_meets F.slot_str_rpartition (typeIs_str _ _ _) F.entry_str_rpartition (F.args_str_rpartition_2 _ _) (meets_str_rpartition (S l) (S [46]) t t2 rfl hsz) ?_
  have e := rpart_tail l
  have q' := fun b c => q s.heap.objs.size b c (I.hok.fresh (Nat.le_refl _))
  rw [← e] at q'
  unfold Txt.rpartition at q'
  revert q'
  cases Builtin.Str.lastOccurrence (S l) (S [46]) 0 (S l).length with
  | none =>
    intro q'
    refine ⟨.ref s.heap.objs.size, _, I.laid (o := .tup _) (t' := s.toks + 1) (fun b ob z => Heap.get?_push_of_some _ z) (Nat.le_refl _) ?_, rfl, q' Str.empty Str.empty⟩
    exact ⟨by show 3 ≤ sizeLine; decide, _, .cons ⟨_, rfl⟩ (.cons ⟨_, rfl⟩ (.cons ⟨_, rfl⟩ .nil)), ⟨_, Heap.get?_push_size _ rfl, rfl, 0, rfl⟩⟩
  | some i =>
    intro q'
    refine ⟨.ref s.heap.objs.size, _, I.laid (o := .tup _) (t' := s.toks + 1 + 1) (fun b ob z => Heap.get?_push_of_some _ z) (Nat.le_refl _) ?_, rfl, q' (Builtin.Str.strSub (S l) 0 i) (S [46])⟩
    exact ⟨by show 3 ≤ sizeLine; decide, _, .cons ⟨_, rfl⟩ (.cons ⟨_, rfl⟩ (.cons ⟨_, rfl⟩ .nil)), ⟨_, Heap.get?_push_size _ rfl, rfl, 0, rfl⟩⟩
end
end L2
end

section
set_option Elab.async false
set_option linter.all false
set_option maxRecDepth 100000
/-! comprehensions whose target is a name or a tuple of names, that may stand in the def's own names too; with tests -/
namespace L2
open PySem PySem.Spec PyProof.Rows
def blkG (X : Cx) (scope : Scope) (cl : List (Str × Addr)) (C : Addr) (N : List Str) (s₀ : Shared) (H₀ : Hp) (fp : List Addr) : Cx :=
  { X with N := N, s₀ := s₀, H₀ := H₀, env := compEnvC scope cl C X.env, outer := X.stack, ex := fp, fn := fun _ => false, pn := [], xe := fun _ _ => False }
structure CompG (X : Cx) (scope : Scope) (ns N2 : List Str) (f : St → St) : Prop where
  kind : scope.kind = .function
  ncell : ∀ y ∈ scope.names, y.2 ≠ .cell
  names : ∀ y ∈ scope.names, y.2 = .local → scope.names.lookup y.1 = some .local
  free : ∀ y ∈ scope.names, y.2 = .free → X.env.kindOf y.1 = some .cell ∨ X.env.kindOf y.1 = some .free
  lenf : ∀ σ : St, (f σ).length = σ.length
  lenN : N2.length = X.N.length
  out : ∀ (σ : St) (i : Nat) (y : Str) (v : V), N2[i]? = some y → (f σ)[i]? = some (some v) → X.N[i]? = some y ∧ σ[i]? = some (some v) ∧ scope.names.lookup y ≠ some .local
/-- a target, in a block whose first k names are its own -/
def PTg (X : Cx) (tg : Expr) (k : Nat) (TP : V → Hp → (St → Prop) → Prop) : Prop :=
  ∀ (pins : List (Addr × Obj)) (s : Shared) (pre rest : St) (H : Hp) (v : V) (u : Value) (Q : St → Prop), pre.length = k → Inv X pins (pre ++ rest) H s → RelV v u → TP v H Q →
    wpAny (model X.prog X.w) X.A (assign tg X.env u) (fun _ s' => ∃ pre', pre'.length = k ∧ Inv X pins (pre' ++ rest) H s' ∧ Q pre') (fun _ _ => False) s
def tCompG (f : St → St) (k : Nat) (wi : TI) (TP : V → Hp → (St → Prop) → Prop) (tt : TT) (te : TE) : TE := fun σ H Q => wi σ H fun J H1 => ∀ D, H1 D = none → ∃ W : Nat → Nat → List V → Hp → Prop, (∃ m, W 0 m [] (upd H1 D (.lst []))) ∧
  ∀ i m ys H, W i m ys H → (J.stop i H ∧ Q (.ref D) H) ∨ (J.go i H ∧ ∀ x H', J.yld i H x H' → TP x H' fun pre => tt (pre ++ f σ) H' fun b H2 =>
    if b = true then te (pre ++ f σ) H2 fun y H3 => H3 D = some (.lst ys) ∧ ys.length < sizeLine ∧ ∃ m', m' < m ∧ W (i + 1) m' (ys ++ [y]) (upd H3 D (.lst (ys ++ [y])))
    else ∃ m', m' < m ∧ W (i + 1) m' ys H2)
theorem pe_compG {X : Cx} {elt iter tg : Expr} {ns N2 : List Str} {f : St → St} {TP : V → Hp → (St → Prop) → Prop} {ifs : List Expr} {scope : Scope} {pos : Pos} {wi : TI} {tt : TT} {te : TE} (hc : X.calm = true) (ok : CompG X scope ns N2 f) (hi : PI X tg iter wi)
    (hg : ∀ cl C s₀ H₀ fp, PTg (blkG X scope cl C (ns ++ N2) s₀ H₀ fp) tg ns.length TP)
    (ht : ∀ cl C s₀ H₀ fp, PTs (blkG X scope cl C (ns ++ N2) s₀ H₀ fp) ifs tt) (he : ∀ cl C s₀ H₀ fp, PE (blkG X scope cl C (ns ++ N2) s₀ H₀ fp) elt te)
    (hs : ∀ x, foldedSetIterable iter X.env x = pure x := by intro _; rfl) : PE X (.ListComp elt [⟨tg, iter, ifs, 0⟩] scope pos) (tCompG f ns.length wi TP tt te) := by
  intro pins s σ H Q I h
  obtain ⟨cl, hcl, hsub, _, hall⟩ := closure_ok (env := X.env) scope.names (fun y hy e => I.ok.has y.1 (ok.free y hy e)) [] (fun _ _ z => by simp at z)
  have hclos : closureFor scope X.env = pure cl := by
    unfold closureFor
    simp only [bind_pure]
    exact hcl
  rw [eval_ListComp]
  refine wpAny_comprehension_free (use := none) (E := X.xe) (cl := cl) rfl hs hclos ok.kind ok.names (thn (hi pins s σ H _ I h) fun v s1 h1 => thn h1 fun itv s2 h2 => ?_)
  obtain ⟨it, fp, tn, J, H2, e, I2, T, st2, f2, R⟩ := h2
  subst e
  obtain ⟨W, ⟨m0, w0⟩, turn⟩ := R s2.heap.objs.size I2.fresh
  refine wpAny_newObj_type (wpAny_newFunctionEnv ok.ncell (by intro y hy; simp at hy) (fun h₁ hns₁ hsb₁ => ?_) ok.kind)
  dsimp only at hns₁ hsb₁ ⊢
  have I3 : Inv X pins σ (upd H2 s2.heap.objs.size (.lst [])) { s2 with heap := s2.heap.push { cls := .type "list", data := .seq ([] : List Value).toArray } } := I2.lnew (t' := s2.toks) (ys := []) (its := []) .nil (Nat.zero_le _)
  generalize hH3 : upd H2 s2.heap.objs.size (HO.lst []) = H3 at *
  generalize hs3 : s2.heap.push { cls := .type "list", data := .seq ([] : List Value).toArray } = hp3 at *
  generalize hD : s2.heap.objs.size = D at *
  generalize hC : hp3.objs.size = C at *
  have hDC : D < C := by rw [← hC, ← hs3, Heap.size_push, hD]; exact Nat.lt_succ_self _
  have old : ∀ b o, hp3.get? b = some o → h₁.get? b = some o := fun b o e => (hsb₁.2 b (by rw [← hC]; exact Nat.ne_of_lt (Heap.lt_size e))).trans (Heap.get?_push_of_some _ e)
  have fpl : ∀ b ∈ fp, b < C := fun b hb => by
    obtain ⟨o, e, _⟩ := T.obj _ _ st2 b hb
    rw [← hC, ← hs3, Heap.size_push]
    exact Nat.lt_succ_of_lt (Heap.lt_size e)
  have f3 : ∀ b ∈ fp, FpOk X pins H3 b := fun b hb => by
    obtain ⟨o, e, _⟩ := T.obj _ _ st2 b hb
    refine ⟨?_, (f2 b hb).2⟩
    rw [← hH3, upd_ne (by rw [← hD]; exact Nat.ne_of_lt (Heap.lt_size e))]
    exact (f2 b hb).1
  have nstk : ∀ b ∈ fp, b ∉ frs X.stack := fun b hb z => by
    obtain ⟨_, g1, g2, _⟩ := f3 b hb
    rcases List.mem_cons.mp (I3.stkSub b z) with q | q
    · exact g1 q
    · exact g2 q
  -- the block's context
  have YOk : (blkG X scope cl C (ns ++ N2) { s2 with heap := hp3 } H3 fp).Ok := by
    refine ⟨I.ok.mod, ?_, I.ok.glob, I.ok.blt, Nat.le_of_eq hC, ?_, ?_, ?_, I.ok.hd, I.ok.frames, .inl rfl, ?_, ?_, ?_, ?_, ?_, ?_, ?_⟩
    · exact ok.kind
    · exact fun a b c h1 h2 => I.ok.inj a b c (hsub a c h1) (hsub b c h2)
    · intro a ha
      refine hall a ?_
      rcases ha with z | z
      · rcases lookup_relabel (env := X.env) z with q | ⟨_, q⟩
        · exact absurd rfl (ok.ncell _ (lookup_mem' q))
        · exact lookup_mem' q
      · rcases lookup_relabel (env := X.env) z with q | ⟨q, _⟩
        · exact lookup_mem' q
        · cases q
    · intro a c hf; cases hf
    · intro b hb
      refine ⟨Nat.ne_of_lt (fpl b hb), fun a c h1 => (f3 b hb).2.2.2.2.1 a c (hsub a c h1)⟩
    · exact I3.bs
    · exact Nat.le_trans I.ok.bsz I3.sz
    · intro b o e hb
      rcases (f3 b hb).2.2.2.1 with z | z
      · exact I.ok.noex b o e z
      · exact absurd (Nat.lt_of_lt_of_le (Heap.lt_size e) (Nat.le_trans I.ok.bsz z)) (Nat.lt_irrefl _)
    · exact nstk
    · exact I3.stack
    · exact I3.stkFree
  have Y0 : Inv (blkG X scope cl C (ns ++ N2) { s2 with heap := hp3 } H3 fp) [] (List.replicate ns.length none ++ f σ) H3 { s2 with heap := h₁, toks := s2.toks + ([] : List (Str × Value)).length } := by
    refine ⟨YOk, rfl, I3.bare, Un.kept old, ⟨_, hns₁, ?_⟩, ?_, ?_, ?_, fun p hp => by simp [blkG] at hp, I3.hok.kept old, ?_⟩
    · intro i y v e1 e2 e3
      by_cases hin : i < ns.length
      · rw [List.getElem?_append_left (by rw [List.length_replicate]; exact hin), List.getElem?_replicate, if_pos hin] at e2
        simp at e2
      · obtain ⟨i, rfl⟩ : ∃ k, i = ns.length + k := ⟨i - ns.length, by omega⟩
        have e1a : (ns ++ N2)[ns.length + i]? = some y := e1
        rw [List.getElem?_append_right (by omega), Nat.add_sub_cancel_left] at e1a
        rw [List.getElem?_append_right (by rw [List.length_replicate]; omega), List.length_replicate, Nat.add_sub_cancel_left] at e2
        obtain ⟨e1', e2', hout⟩ := ok.out σ i y v e1a e2
        have hfree : (y, NameKind.free) ∈ scope.names := by
          have key : ∀ k, (relabel scope X.env).names.lookup y = some k → k ≠ .local → k = .cell ∨ k = .free → (y, NameKind.free) ∈ scope.names := fun k q n hk => by
            rcases lookup_relabel (env := X.env) q with z | ⟨_, z⟩
            · rcases hk with rfl | rfl
              · exact absurd rfl (ok.ncell _ (lookup_mem' z))
              · exact lookup_mem' z
            · exact lookup_mem' z
          rcases e3 with z | z | z
          · rcases lookup_relabel (env := X.env) z with q | ⟨q, _⟩
            · exact absurd q hout
            · cases q
          · exact key _ z (by decide) (.inl rfl)
          · exact key _ z (by decide) (.inr rfl)
        have hk := ok.free _ hfree rfl
        obtain ⟨m, hn, hl⟩ := I3.loc
        obtain ⟨u, r, q⟩ := hl i y v e1' e2' (by rcases hk with z | z; exact .inr (.inl z); exact .inr (.inr z))
        refine ⟨u, r, .inr ⟨?_, ?_⟩⟩
        · rcases e3 with z | z | z
          · rcases lookup_relabel (env := X.env) z with q | ⟨q, _⟩
            · exact absurd q hout
            · cases q
          · exact .inl z
          · exact .inr z
        · rcases q with ⟨z, _⟩ | ⟨_, c, hc', hcell⟩
          · rcases hk with q | q <;> (rw [z] at q; cases q)
          · obtain ⟨c', hc2⟩ := hall y hfree
            have : c' = c := by have := hsub y c' hc2; rw [hc'] at this; exact (Option.some.inj this).symm
            subst this
            obtain ⟨o, ho, hd⟩ := hcell
            exact ⟨c', hc2, o, old _ _ ho, hd⟩
    · intro a c h1
      obtain ⟨v, o, ho, hd⟩ := I3.cell a c (hsub a c h1)
      exact ⟨v, o, old _ _ ho, hd⟩
    · show H3 C = none
      exact I3.hok.fresh (Nat.le_of_eq hC)
    · exact fun a c h1 => I3.freeC a c (hsub a c h1)
    · show (List.replicate ns.length none ++ f σ).length = (ns ++ N2).length
      rw [List.length_append, List.length_append, List.length_replicate, ok.lenf, I.len, ok.lenN]
  -- behind the block
  have back : ∀ (s' : Shared) (v : St) (H' : Hp) (h' : Heap), Inv (blkG X scope cl C (ns ++ N2) { s2 with heap := hp3 } H3 fp) [] v H' s' → Heap.SameBut C s'.heap h' → (∀ b ∈ fp, H' b = none) → Inv X pins σ H' { s' with heap := h' } := by
    intro s' v H' h' I' sb fr
    have neC : ∀ b o, hp3.get? b = some o → b ≠ C := fun b o e => by rw [← hC]; exact Nat.ne_of_lt (Heap.lt_size e)
    have U : Un (frs X.stack) fp H3 H' hp3 s'.heap := I'.base
    refine I3.call' (ch := fp) (H' := H') (s' := { s' with heap := h' }) I'.os ⟨fun b o e n h1 h2 => (sb.2 b (neC b o e)).trans (U.keep b o e n h1 h2), fun b o e n h1 h2 => ?_, U.free, fun b o e h2 => ?_, U.tups, U.frzs, U.tbls⟩ (fun b ob e => ?_) I'.bare fun b hb => ?_
    · obtain ⟨sl, q⟩ := U.slot b o e n h1 h2
      exact ⟨sl, (sb.2 b (neC b o e)).trans q⟩
    · obtain ⟨o', q⟩ := U.there b o e h2
      exact ⟨o', (sb.2 b (neC b o e)).trans q⟩
    · have fC : H' C = none := I'.free
      refine (I'.hok b ob e).stay (fun c w' hc q => (sb.2 c ?_).trans q) (fun _ q => q) fun _ _ q => q
      rintro rfl
      rcases hc with rfl | hc
      · rw [fC] at e; cases e
      · rw [fC] at hc; cases hc
    · obtain ⟨_, g1, _, g3, g4, g5⟩ := f3 b hb
      exact ⟨g3, g1, g4, g5⟩
  have stat : ∀ {H' : Hp}, (∀ b ∈ fp, H' b = none) → ∀ b ∈ fp, FpOk (blkG X scope cl C (ns ++ N2) { s2 with heap := hp3 } H3 fp) [] H' b := fun hn b hb =>
    ⟨hn b hb, Nat.ne_of_lt (fpl b hb), nstk b hb, .inl hb, fun a c h1 => (f3 b hb).2.2.2.2.1 a c (hsub a c h1), fun p hp => by simp [blkG] at hp⟩
  have st₁ : tn 0 h₁ := T.keep _ _ _ st2 fun b _ o e => old b o (by rw [← hs3]; exact Heap.get?_push_of_some _ e)
  have loop : codeAny (model X.prog X.w) X.A (.compLoop (.ListComp elt [⟨tg, iter, ifs, 0⟩] scope pos) 0 (.ref it) (.ref D) (compEnvC scope cl C X.env)) (compPost (model X.prog X.w) X.A X.xe none (EP X pins σ Q) (.ref D) C)
      { s2 with heap := h₁, toks := s2.toks + ([] : List (Str × Value)).length } := by
    refine compLoop_T (fun n s' => ∃ i v ys H', v.length = ns.length ∧ Inv (blkG X scope cl C (ns ++ N2) { s2 with heap := hp3 } H3 fp) [] (v ++ f σ) H' s' ∧ tn i s'.heap ∧ (∀ b ∈ fp, H' b = none) ∧ W i n ys H') ?_ m0 ⟨0, List.replicate ns.length none, [], H3, List.length_replicate, Y0, st₁, fun b hb => (f3 b hb).1, w0⟩
    rintro n s4 ⟨i, v, ys, H4, hv4, I4, st4, fr4, w4⟩
    rcases turn i n ys H4 w4 with ⟨stop, qn⟩ | ⟨go, step⟩
    · refine thn (T.done (blkG X scope cl C (ns ++ N2) { s2 with heap := hp3 } H3 fp) rfl rfl rfl hc i [] s4 (v ++ f σ) H4 _ I4 (stat fr4) st4 stop) fun r s5 ⟨hr, I5⟩ => ?_
      subst hr
      obtain ⟨m, hn, _⟩ := id I5.loc
      exact ⟨m, hn, fun h' sb => ⟨.ref D, H4, back s5 (v ++ f σ) H4 h' I5 sb fr4, rfl, qn⟩⟩
    · refine thn (T.item (blkG X scope cl C (ns ++ N2) { s2 with heap := hp3 } H3 fp) rfl rfl rfl hc i [] s4 (v ++ f σ) H4 _ I4 (stat fr4) st4 go) fun r s5 ⟨u, hr, h5⟩ => ?_
      subst hr
      refine thn h5 fun _ s6 ⟨y, H6, I6, r6, y6, st6, fr6⟩ => ?_
      have I6' := I6.pinned (stat fr6) (T.obj _ _ st6)
      refine thn (hg cl C { s2 with heap := hp3 } H3 fp _ s6 v (f σ) H6 y u _ hv4 I6' r6 (step y H6 y6)) fun _ s7 ⟨pre, hpre, I7', q7⟩ => ?_
      refine thn (ht cl C { s2 with heap := hp3 } H3 fp _ s7 _ H6 _ I7' q7) fun b s8 ⟨H8, I8, q8⟩ => ?_
      have keepIt : ∀ {σ' : St} {H' : Hp} {s' : Shared}, Inv (blkG X scope cl C (ns ++ N2) { s2 with heap := hp3 } H3 fp) ([] ++ pinsAt fp s6.heap) σ' H' s' → tn (i + 1) s'.heap ∧ ∀ b ∈ fp, H' b = none := fun {σ' H' s'} I9 => by
        refine ⟨T.keep _ _ _ st6 fun b hb o e => (I9.pin (b, o) (List.mem_append_right _ (List.mem_append_right _ (mem_pinsAt hb e)))).1, fun b hb => ?_⟩
        obtain ⟨o, e, d⟩ := T.obj _ _ st6 b hb
        exact (I9.pin (b, o) (List.mem_append_right _ (List.mem_append_right _ (mem_pinsAt hb e)))).2.1
      cases b with
      | false =>
        obtain ⟨m', hm, w'⟩ := q8
        obtain ⟨k1, k2⟩ := keepIt I8
        exact ⟨m', hm, i + 1, pre, ys, H8, hpre, I8.unpinned, k1, k2, w'⟩
      | true =>
        have q8' : te (pre ++ f σ) H8 _ := q8
        show wpAny _ _ (eval elt _) _ _ _
        refine thn (he cl C { s2 with heap := hp3 } H3 fp _ s8 _ H8 _ I8 q8') fun z s9 ⟨zv, H9, I9, r9, hD9, hz9, m', hm, w'⟩ => ?_
        refine thn (mt_append (X := blkG X scope cl C (ns ++ N2) { s2 with heap := hp3 } H3 fp) _ s9 _ H9 (.ref D) [zv] (.ref D) [z] (fun _ H' => H' = upd H9 D (.lst (ys ++ [zv]))) I9 rfl (.cons r9 .nil) ⟨D, ys, zv, rfl, rfl, hD9, hz9, rfl⟩) fun _ s10 ⟨_, H10, I10, _, e10⟩ => ?_
        subst e10
        obtain ⟨k1, k2⟩ := keepIt I10
        exact ⟨m', hm, i + 1, pre, ys ++ [zv], _, hpre, I10.unpinned, k1, k2, w'⟩
  exact codeAny_compStart_list loop (T.self X.A 0 _ _ _ st₁ loop)
end L2
namespace L2
open PySem PySem.Spec PyProof.Rows
def hideS (ks : List Nat) : Nat → St → St
  | _, [] => []
  | i, v :: r => (if ks.contains i = true then none else v) :: hideS ks (i + 1) r
theorem hideS_len (ks : List Nat) : ∀ (i : Nat) (σ : St), (hideS ks i σ).length = σ.length
  | _, [] => rfl
  | i, _ :: r => by rw [hideS, List.length_cons, List.length_cons, hideS_len ks (i + 1) r]
theorem hideS_get (ks : List Nat) : ∀ (i : Nat) (σ : St) (j : Nat) (v : V), (hideS ks i σ)[j]? = some (some v) → ks.contains (i + j) = false ∧ σ[j]? = some (some v)
  | _, [], j, v, h => by simp [hideS] at h
  | i, x :: r, 0, v, h => by
    rw [hideS] at h
    cases e : ks.contains i with
    | true => rw [e] at h; simp at h
    | false => rw [e] at h; exact ⟨by first | rfl | exact e, by simpa using h⟩
  | i, x :: r, j + 1, v, h => by
    rw [hideS, List.getElem?_cons_succ] at h
    obtain ⟨a, b⟩ := hideS_get ks (i + 1) r j v h
    exact ⟨by rw [show i + (j + 1) = i + 1 + j by omega]; exact a, by rw [List.getElem?_cons_succ]; exact b⟩
def chkG (sc : Scope) (N : List Str) (scope : Scope) (N2 : List Str) (ks : List Nat) : Bool :=
  scope.kind == .function && scope.names.all (fun y => y.2 != .cell) && scope.names.all (fun y => y.2 != .local || scope.names.lookup y.1 == some .local) &&
  scope.names.all (fun y => y.2 != .free || sc.names.lookup y.1 == some .cell || sc.names.lookup y.1 == some .free) && N2.length == N.length &&
  (List.range N.length).all (fun i => ks.contains i || (N2[i]? == N[i]? && (N[i]?.map fun y => scope.names.lookup y != some .local) == some true))
theorem CompG.of {X : Cx} {scope : Scope} {ns : List Str} (N2 : List Str) (ks : List Nat) (h : chkG X.env.scope X.N scope N2 ks = true) : CompG X scope ns N2 (hideS ks 0) := by
  unfold chkG at h
  simp only [Bool.and_eq_true, List.all_eq_true, Bool.or_eq_true, bne_iff_ne, beq_iff_eq, ne_eq] at h
  obtain ⟨⟨⟨⟨⟨h1, h2⟩, h3⟩, h5⟩, h6⟩, h7⟩ := h
  refine ⟨h1, fun y hy => h2 y hy, fun y hy e => (h3 y hy).resolve_left fun z => z e, fun y hy e => ?_, hideS_len ks 0, h6, fun σ i y v e1 e2 => ?_⟩
  · rcases h5 y hy with (z | z) | z
    · exact absurd e z
    · exact .inl z
    · exact .inr z
  · obtain ⟨a, b⟩ := hideS_get ks 0 σ i v e2
    rw [Nat.zero_add] at a
    have hi : i < X.N.length := by rw [← h6]; exact (List.getElem?_eq_some_iff.mp e1).1
    rcases h7 i (List.mem_range.mpr hi) with z | ⟨z1, z2⟩
    · rw [a] at z; cases z
    · rw [← z1, e1] at z2
      rw [z1] at e1
      exact ⟨e1, b, by simpa using z2⟩
theorem tg_name {X : Cx} {scope : Scope} {cl : List (Str × Addr)} {C : Addr} {N : List Str} {s₀ : Shared} {H₀ : Hp} {fp : List Addr} {x : Str} {pos : Pos} (hN : N.Nodup) (h0 : N[0]? = some x) (hx : scope.names.lookup x = some .local) :
    PTg (blkG X scope cl C N s₀ H₀ fp) (.Name x pos) 1 (fun v _ Q => Q [some v]) := by
  intro pins s pre rest H v u Q hp I r q
  obtain ⟨p0, rfl⟩ := List.length_eq_one_iff.mp hp
  refine thn (pg_name (X := blkG X scope cl C N s₀ H₀ fp) (i := 0) hN h0 (.inl (lookup_relabel_local hx)) (.inr (lookup_relabel_local hx)) pins s _ H v u (fun σ' H' => H' = H ∧ σ' = some v :: rest) I r ⟨rfl, rfl⟩) fun _ s' ⟨σ', H', I', e1, e2⟩ => ?_
  subst e1 e2
  exact ⟨[some v], rfl, I', q⟩
theorem tg_tup2 {X : Cx} {scope : Scope} {cl : List (Str × Addr)} {C : Addr} {N : List Str} {s₀ : Shared} {H₀ : Hp} {fp : List Addr} {x y : Str} {px py pos : Pos} {k : Nat} (K : PySem.W.Frag) (hc : X.calm = true) (hN : N.Nodup) (h0 : N[0]? = some x) (h1 : N[1]? = some y) (hx : scope.names.lookup x = some .local) (hy : scope.names.lookup y = some .local) (hK : X.K = K := by rfl) :
    PTg (blkG X scope cl C N s₀ H₀ fp) (.Tuple [.Name x px, .Name y py] k pos) 2 (fun v H Q => ∃ a p q, v = .ref a ∧ SqT K H a [p, q] ∧ Q [some p, some q]) := by
  subst hK
  intro pins s pre rest H v u Q hp I r q
  obtain ⟨a, p, q', rfl, hq, q⟩ := q
  obtain ⟨p0, p1, rfl⟩ : ∃ p0 p1, pre = [p0, p1] := by
    match pre, hp with
    | [p0, p1], _ => exact ⟨p0, p1, rfl⟩
  have P : PG (blkG X scope cl C N s₀ H₀ fp) (.Tuple [.Name x px, .Name y py] k pos) (gTup X.K 2 (gCons (gName 0) (gCons (gName 1) gNil))) := pg_tup (X := blkG X scope cl C N s₀ H₀ fp) hc (pgs_cons (pg_name (i := 0) hN h0 (.inl (lookup_relabel_local hx)) (.inr (lookup_relabel_local hx))) (pgs_cons (pg_name (i := 1) hN h1 (.inl (lookup_relabel_local hy)) (.inr (lookup_relabel_local hy))) pgs_nil))
  refine thn (P pins s _ H (.ref a) u (fun σ' H' => H' = H ∧ σ' = some p :: some q' :: rest) I r
    ⟨a, [p, q'], rfl, hq, rfl, p, [q'], rfl, q', [], rfl, rfl, rfl, rfl⟩) fun _ s' ⟨σ', H', I', e1, e2⟩ => ?_
  subst e1 e2
  exact ⟨[some p, some q'], rfl, I', q⟩
theorem tg_tup3 {X : Cx} {scope : Scope} {cl : List (Str × Addr)} {C : Addr} {N : List Str} {s₀ : Shared} {H₀ : Hp} {fp : List Addr} {x y z : Str} {px py pz pos : Pos} {k : Nat} (K : PySem.W.Frag) (hc : X.calm = true) (hN : N.Nodup) (h0 : N[0]? = some x) (h1 : N[1]? = some y) (h2 : N[2]? = some z) (hx : scope.names.lookup x = some .local) (hy : scope.names.lookup y = some .local) (hz : scope.names.lookup z = some .local) (hK : X.K = K := by rfl) :
    PTg (blkG X scope cl C N s₀ H₀ fp) (.Tuple [.Name x px, .Name y py, .Name z pz] k pos) 3 (fun v H Q => ∃ a p q r, v = .ref a ∧ SqT K H a [p, q, r] ∧ Q [some p, some q, some r]) := by
  subst hK
  intro pins s pre rest H v u Q hp I r q
  obtain ⟨a, p, q', r', rfl, hq, q⟩ := q
  obtain ⟨p0, p1, p2, rfl⟩ : ∃ p0 p1 p2, pre = [p0, p1, p2] := by
    match pre, hp with
    | [p0, p1, p2], _ => exact ⟨p0, p1, p2, rfl⟩
  have P : PG (blkG X scope cl C N s₀ H₀ fp) (.Tuple [.Name x px, .Name y py, .Name z pz] k pos) (gTup X.K 3 (gCons (gName 0) (gCons (gName 1) (gCons (gName 2) gNil)))) := pg_tup (X := blkG X scope cl C N s₀ H₀ fp) hc (pgs_cons (pg_name (i := 0) hN h0 (.inl (lookup_relabel_local hx)) (.inr (lookup_relabel_local hx))) (pgs_cons (pg_name (i := 1) hN h1 (.inl (lookup_relabel_local hy)) (.inr (lookup_relabel_local hy))) (pgs_cons (pg_name (i := 2) hN h2 (.inl (lookup_relabel_local hz)) (.inr (lookup_relabel_local hz))) pgs_nil)))
  refine thn (P pins s _ H (.ref a) u (fun σ' H' => H' = H ∧ σ' = some p :: some q' :: some r' :: rest) I r
    ⟨a, [p, q', r'], rfl, hq, rfl, p, [q', r'], rfl, q', [r'], rfl, r', [], rfl, rfl, rfl, rfl⟩) fun _ s' ⟨σ', H', I', e1, e2⟩ => ?_
  subst e1 e2
  exact ⟨[some p, some q', some r'], rfl, I', q⟩
theorem qe_compG {X : Cx} {elt iter tg : Expr} {ns N2 : List Str} {f : St → St} {TP : V → Hp → (St → Prop) → Prop} {ifs : List Expr} {scope : Scope} {pos : Pos} {wi : TI} {tt : TT} {te : TE} (hc : X.calm = true) (ok : CompG X scope ns N2 f) (hi : QI X tg iter wi)
    (hg : ∀ cl C s₀ H₀ fp, PTg (blkG X scope cl C (ns ++ N2) s₀ H₀ fp) tg ns.length TP)
    (ht : ∀ cl C s₀ H₀ fp, QTs (blkG X scope cl C (ns ++ N2) s₀ H₀ fp) ifs tt) (he : ∀ cl C s₀ H₀ fp, QE (blkG X scope cl C (ns ++ N2) s₀ H₀ fp) elt te)
    (hs : ∀ x, foldedSetIterable iter X.env x = pure x := by intro _; rfl) : QE X (.ListComp elt [⟨tg, iter, ifs, 0⟩] scope pos) (tCompG f ns.length wi TP tt te) :=
  ⟨pe_compG hc ok hi.out hg (fun cl C s₀ H₀ fp => (ht cl C s₀ H₀ fp).out) (fun cl C s₀ H₀ fp => (he cl C s₀ H₀ fp).out) hs⟩
/-- one turn of a comprehension -/
def TurnG (n i : Nat) (D : Addr) (TP : V → Hp → (St → Prop) → Prop) (f : St → St) (σ : St) (tt : TT) (te : TE) (x : V) (H : Hp) (ys : List V) (P : List V → Hp → Prop) : Prop :=
  TP x H fun pre => tt (pre ++ f σ) H fun b H2 => if b = true then te (pre ++ f σ) H2 fun y H3 => H3 D = some (.lst ys) ∧ ys.length < sizeLine ∧ Nxt n i (P (ys ++ [y]) (upd H3 D (.lst (ys ++ [y])))) else Nxt n i (P ys H2)
theorem compG_list {K : PySem.W.Frag} {a : Addr} {xs : List V} {D : Addr} {f : St → St} {TP : V → Hp → (St → Prop) → Prop} {tt : TT} {te : TE} {σ : St} {H : Hp} {R : Hp → Prop} (Pv : Nat → List V → Hp → Prop) (h0 : Pv 0 [] (upd H D (.lst []))) (hl : ∀ i ys H, i ≤ xs.length → Pv i ys H → SqL K H a xs)
    (hs : ∀ i x ys H, xs[i]? = some x → Pv i ys H → TurnG xs.length i D TP f σ tt te x H ys (Pv (i + 1)))
    (hd : ∀ ys H, Pv xs.length ys H → R H) :
    ∃ W : Nat → Nat → List V → Hp → Prop, (∃ m, W 0 m [] (upd H D (.lst []))) ∧
      ∀ i m ys H, W i m ys H → ((Itl K a).stop i H ∧ R H) ∨ ((Itl K a).go i H ∧ ∀ x H', (Itl K a).yld i H x H' → TP x H' fun pre => tt (pre ++ f σ) H' fun b H2 =>
        if b = true then te (pre ++ f σ) H2 fun y H3 => H3 D = some (.lst ys) ∧ ys.length < sizeLine ∧ ∃ m', m' < m ∧ W (i + 1) m' (ys ++ [y]) (upd H3 D (.lst (ys ++ [y])))
        else ∃ m', m' < m ∧ W (i + 1) m' ys H2) := by
  refine ⟨fun i m ys H => m = xs.length - i ∧ i ≤ xs.length ∧ Pv i ys H, ⟨xs.length, by simp, Nat.zero_le _, h0⟩, ?_⟩
  rintro i m ys H ⟨rfl, hi, p⟩
  have q := hl i ys H hi p
  by_cases hlt : i < xs.length
  · refine .inr ⟨⟨xs, xs[i], q, by simp [hlt]⟩, fun x H' y => ?_⟩
    obtain ⟨e, y⟩ := y
    subst e
    exact hs i x ys H' (y xs q) p
  · have e : i = xs.length := by omega
    subst e
    exact .inl ⟨⟨xs, q, Nat.le_refl _⟩, hd ys H p⟩
theorem compG_tup {K : PySem.W.Frag} {a : Addr} {xs : List V} {D : Addr} {f : St → St} {TP : V → Hp → (St → Prop) → Prop} {tt : TT} {te : TE} {σ : St} {H : Hp} {R : Hp → Prop} (Pv : Nat → List V → Hp → Prop) (h0 : Pv 0 [] (upd H D (.lst []))) (hl : ∀ i ys H, i ≤ xs.length → Pv i ys H → SqT K H a xs)
    (hs : ∀ i x ys H, xs[i]? = some x → Pv i ys H → TurnG xs.length i D TP f σ tt te x H ys (Pv (i + 1)))
    (hd : ∀ ys H, Pv xs.length ys H → R H) :
    ∃ W : Nat → Nat → List V → Hp → Prop, (∃ m, W 0 m [] (upd H D (.lst []))) ∧
      ∀ i m ys H, W i m ys H → ((Itt K a).stop i H ∧ R H) ∨ ((Itt K a).go i H ∧ ∀ x H', (Itt K a).yld i H x H' → TP x H' fun pre => tt (pre ++ f σ) H' fun b H2 =>
        if b = true then te (pre ++ f σ) H2 fun y H3 => H3 D = some (.lst ys) ∧ ys.length < sizeLine ∧ ∃ m', m' < m ∧ W (i + 1) m' (ys ++ [y]) (upd H3 D (.lst (ys ++ [y])))
        else ∃ m', m' < m ∧ W (i + 1) m' ys H2) := by
  refine ⟨fun i m ys H => m = xs.length - i ∧ i ≤ xs.length ∧ Pv i ys H, ⟨xs.length, by simp, Nat.zero_le _, h0⟩, ?_⟩
  rintro i m ys H ⟨rfl, hi, p⟩
  have q := hl i ys H hi p
  by_cases hlt : i < xs.length
  · refine .inr ⟨⟨xs, xs[i], q, by simp [hlt]⟩, fun x H' y => ?_⟩
    obtain ⟨e, y⟩ := y
    subst e
    exact hs i x ys H' (y xs q) p
  · have e : i = xs.length := by omega
    subst e
    exact .inl ⟨⟨xs, q, Nat.le_refl _⟩, hd ys H p⟩
theorem compG_range {lo : Int} {n : Nat} {D : Addr} {f : St → St} {TP : V → Hp → (St → Prop) → Prop} {tt : TT} {te : TE} {σ : St} {H : Hp} {R : Hp → Prop} (Pv : Nat → List V → Hp → Prop) (h0 : Pv 0 [] (upd H D (.lst []))) (hs : ∀ i ys H, i < n → Pv i ys H → TurnG n i D TP f σ tt te (.int (lo + i)) H ys (Pv (i + 1)))
    (hd : ∀ ys H, Pv n ys H → R H) :
    ∃ W : Nat → Nat → List V → Hp → Prop, (∃ m, W 0 m [] (upd H D (.lst []))) ∧
      ∀ i m ys H, W i m ys H → ((Itr lo n).stop i H ∧ R H) ∨ ((Itr lo n).go i H ∧ ∀ x H', (Itr lo n).yld i H x H' → TP x H' fun pre => tt (pre ++ f σ) H' fun b H2 =>
        if b = true then te (pre ++ f σ) H2 fun y H3 => H3 D = some (.lst ys) ∧ ys.length < sizeLine ∧ ∃ m', m' < m ∧ W (i + 1) m' (ys ++ [y]) (upd H3 D (.lst (ys ++ [y])))
        else ∃ m', m' < m ∧ W (i + 1) m' ys H2) := by
  refine ⟨fun i m ys H => m = n - i ∧ i ≤ n ∧ Pv i ys H, ⟨n, by simp, Nat.zero_le _, h0⟩, ?_⟩
  rintro i m ys H ⟨rfl, hi, p⟩
  by_cases hlt : i < n
  · refine .inr ⟨hlt, fun x H' y => ?_⟩
    obtain ⟨e, y⟩ := y
    subst e y
    exact hs i ys H' hlt p
  · have e : i = n := by omega
    subst e
    exact .inl ⟨Nat.le_refl _, hd ys H p⟩
theorem compG_str {l : List Nat} {D : Addr} {f : St → St} {TP : V → Hp → (St → Prop) → Prop} {tt : TT} {te : TE} {σ : St} {H : Hp} {R : Hp → Prop} (Pv : Nat → List V → Hp → Prop) (h0 : Pv 0 [] (upd H D (.lst []))) (hs : ∀ i c ys H, l[i]? = some c → Pv i ys H → TurnG l.length i D TP f σ tt te (.str (S [c])) H ys (Pv (i + 1)))
    (hd : ∀ ys H, Pv l.length ys H → R H) :
    ∃ W : Nat → Nat → List V → Hp → Prop, (∃ m, W 0 m [] (upd H D (.lst []))) ∧
      ∀ i m ys H, W i m ys H → ((Its l).stop i H ∧ R H) ∨ ((Its l).go i H ∧ ∀ x H', (Its l).yld i H x H' → TP x H' fun pre => tt (pre ++ f σ) H' fun b H2 =>
        if b = true then te (pre ++ f σ) H2 fun y H3 => H3 D = some (.lst ys) ∧ ys.length < sizeLine ∧ ∃ m', m' < m ∧ W (i + 1) m' (ys ++ [y]) (upd H3 D (.lst (ys ++ [y])))
        else ∃ m', m' < m ∧ W (i + 1) m' ys H2) := by
  refine ⟨fun i m ys H => m = l.length - i ∧ i ≤ l.length ∧ Pv i ys H, ⟨l.length, by simp, Nat.zero_le _, h0⟩, ?_⟩
  rintro i m ys H ⟨rfl, hi, p⟩
  by_cases hlt : i < l.length
  · refine .inr ⟨hlt, fun x H' y => ?_⟩
    obtain ⟨e, c, hc, e2⟩ := y
    subst e e2
    exact hs i c ys H' hc p
  · have e : i = l.length := by omega
    subst e
    exact .inl ⟨Nat.le_refl _, hd ys H p⟩
theorem compG1_list {K : PySem.W.Frag} {a : Addr} {xs : List V} {D : Addr} {f : St → St} {tt : TT} {te : TE} {σ : St} {H : Hp} {R : Hp → Prop} (Pv : Nat → List V → Hp → Prop) (h0 : Pv 0 [] (upd H D (.lst []))) (hl : ∀ i ys H, i ≤ xs.length → Pv i ys H → SqL K H a xs)
    (hs : ∀ i x ys H, xs[i]? = some x → Pv i ys H → TurnG xs.length i D (fun v _ Q => Q [some v]) f σ tt te x H ys (Pv (i + 1)))
    (hd : ∀ ys H, Pv xs.length ys H → R H) :
    ∃ W : Nat → Nat → List V → Hp → Prop, (∃ m, W 0 m [] (upd H D (.lst []))) ∧
      ∀ i m ys H, W i m ys H → ((Itl K a).stop i H ∧ R H) ∨ ((Itl K a).go i H ∧ ∀ x H', (Itl K a).yld i H x H' → tt ([some x] ++ f σ) H' fun b H2 =>
        if b = true then te ([some x] ++ f σ) H2 fun y H3 => H3 D = some (.lst ys) ∧ ys.length < sizeLine ∧ ∃ m', m' < m ∧ W (i + 1) m' (ys ++ [y]) (upd H3 D (.lst (ys ++ [y])))
        else ∃ m', m' < m ∧ W (i + 1) m' ys H2) := by
  refine ⟨fun i m ys H => m = xs.length - i ∧ i ≤ xs.length ∧ Pv i ys H, ⟨xs.length, by simp, Nat.zero_le _, h0⟩, ?_⟩
  rintro i m ys H ⟨rfl, hi, p⟩
  have q := hl i ys H hi p
  by_cases hlt : i < xs.length
  · refine .inr ⟨⟨xs, xs[i], q, by simp [hlt]⟩, fun x H' y => ?_⟩
    obtain ⟨e, y⟩ := y
    subst e
    exact hs i x ys H' (y xs q) p
  · have e : i = xs.length := by omega
    subst e
    exact .inl ⟨⟨xs, q, Nat.le_refl _⟩, hd ys H p⟩
theorem compG1_tup {K : PySem.W.Frag} {a : Addr} {xs : List V} {D : Addr} {f : St → St} {tt : TT} {te : TE} {σ : St} {H : Hp} {R : Hp → Prop} (Pv : Nat → List V → Hp → Prop) (h0 : Pv 0 [] (upd H D (.lst []))) (hl : ∀ i ys H, i ≤ xs.length → Pv i ys H → SqT K H a xs)
    (hs : ∀ i x ys H, xs[i]? = some x → Pv i ys H → TurnG xs.length i D (fun v _ Q => Q [some v]) f σ tt te x H ys (Pv (i + 1)))
    (hd : ∀ ys H, Pv xs.length ys H → R H) :
    ∃ W : Nat → Nat → List V → Hp → Prop, (∃ m, W 0 m [] (upd H D (.lst []))) ∧
      ∀ i m ys H, W i m ys H → ((Itt K a).stop i H ∧ R H) ∨ ((Itt K a).go i H ∧ ∀ x H', (Itt K a).yld i H x H' → tt ([some x] ++ f σ) H' fun b H2 =>
        if b = true then te ([some x] ++ f σ) H2 fun y H3 => H3 D = some (.lst ys) ∧ ys.length < sizeLine ∧ ∃ m', m' < m ∧ W (i + 1) m' (ys ++ [y]) (upd H3 D (.lst (ys ++ [y])))
        else ∃ m', m' < m ∧ W (i + 1) m' ys H2) := by
  refine ⟨fun i m ys H => m = xs.length - i ∧ i ≤ xs.length ∧ Pv i ys H, ⟨xs.length, by simp, Nat.zero_le _, h0⟩, ?_⟩
  rintro i m ys H ⟨rfl, hi, p⟩
  have q := hl i ys H hi p
  by_cases hlt : i < xs.length
  · refine .inr ⟨⟨xs, xs[i], q, by simp [hlt]⟩, fun x H' y => ?_⟩
    obtain ⟨e, y⟩ := y
    subst e
    exact hs i x ys H' (y xs q) p
  · have e : i = xs.length := by omega
    subst e
    exact .inl ⟨⟨xs, q, Nat.le_refl _⟩, hd ys H p⟩
theorem compG1_range {lo : Int} {n : Nat} {D : Addr} {f : St → St} {tt : TT} {te : TE} {σ : St} {H : Hp} {R : Hp → Prop} (Pv : Nat → List V → Hp → Prop) (h0 : Pv 0 [] (upd H D (.lst []))) (hs : ∀ i ys H, i < n → Pv i ys H → TurnG n i D (fun v _ Q => Q [some v]) f σ tt te (.int (lo + i)) H ys (Pv (i + 1)))
    (hd : ∀ ys H, Pv n ys H → R H) :
    ∃ W : Nat → Nat → List V → Hp → Prop, (∃ m, W 0 m [] (upd H D (.lst []))) ∧
      ∀ i m ys H, W i m ys H → ((Itr lo n).stop i H ∧ R H) ∨ ((Itr lo n).go i H ∧ ∀ x H', (Itr lo n).yld i H x H' → tt ([some x] ++ f σ) H' fun b H2 =>
        if b = true then te ([some x] ++ f σ) H2 fun y H3 => H3 D = some (.lst ys) ∧ ys.length < sizeLine ∧ ∃ m', m' < m ∧ W (i + 1) m' (ys ++ [y]) (upd H3 D (.lst (ys ++ [y])))
        else ∃ m', m' < m ∧ W (i + 1) m' ys H2) := by
  refine ⟨fun i m ys H => m = n - i ∧ i ≤ n ∧ Pv i ys H, ⟨n, by simp, Nat.zero_le _, h0⟩, ?_⟩
  rintro i m ys H ⟨rfl, hi, p⟩
  by_cases hlt : i < n
  · refine .inr ⟨hlt, fun x H' y => ?_⟩
    obtain ⟨e, y⟩ := y
    subst e y
    exact hs i ys H' hlt p
  · have e : i = n := by omega
    subst e
    exact .inl ⟨Nat.le_refl _, hd ys H p⟩
theorem compG1_str {l : List Nat} {D : Addr} {f : St → St} {tt : TT} {te : TE} {σ : St} {H : Hp} {R : Hp → Prop} (Pv : Nat → List V → Hp → Prop) (h0 : Pv 0 [] (upd H D (.lst []))) (hs : ∀ i c ys H, l[i]? = some c → Pv i ys H → TurnG l.length i D (fun v _ Q => Q [some v]) f σ tt te (.str (S [c])) H ys (Pv (i + 1)))
    (hd : ∀ ys H, Pv l.length ys H → R H) :
    ∃ W : Nat → Nat → List V → Hp → Prop, (∃ m, W 0 m [] (upd H D (.lst []))) ∧
      ∀ i m ys H, W i m ys H → ((Its l).stop i H ∧ R H) ∨ ((Its l).go i H ∧ ∀ x H', (Its l).yld i H x H' → tt ([some x] ++ f σ) H' fun b H2 =>
        if b = true then te ([some x] ++ f σ) H2 fun y H3 => H3 D = some (.lst ys) ∧ ys.length < sizeLine ∧ ∃ m', m' < m ∧ W (i + 1) m' (ys ++ [y]) (upd H3 D (.lst (ys ++ [y])))
        else ∃ m', m' < m ∧ W (i + 1) m' ys H2) := by
  refine ⟨fun i m ys H => m = l.length - i ∧ i ≤ l.length ∧ Pv i ys H, ⟨l.length, by simp, Nat.zero_le _, h0⟩, ?_⟩
  rintro i m ys H ⟨rfl, hi, p⟩
  by_cases hlt : i < l.length
  · refine .inr ⟨hlt, fun x H' y => ?_⟩
    obtain ⟨e, c, hc, e2⟩ := y
    subst e e2
    exact hs i c ys H' hc p
  · have e : i = l.length := by omega
    subst e
    exact .inl ⟨Nat.le_refl _, hd ys H p⟩
theorem compG2_list {K : PySem.W.Frag} {a : Addr} {xs : List V} {D : Addr} {f : St → St} {KT : PySem.W.Frag} {tt : TT} {te : TE} {σ : St} {H : Hp} {R : Hp → Prop} (Pv : Nat → List V → Hp → Prop) (h0 : Pv 0 [] (upd H D (.lst []))) (hl : ∀ i ys H, i ≤ xs.length → Pv i ys H → SqL K H a xs)
    (hs : ∀ i x ys H, xs[i]? = some x → Pv i ys H → TurnG xs.length i D (fun v H Q => ∃ a p q, v = .ref a ∧ SqT KT H a [p, q] ∧ Q [some p, some q]) f σ tt te x H ys (Pv (i + 1)))
    (hd : ∀ ys H, Pv xs.length ys H → R H) :
    ∃ W : Nat → Nat → List V → Hp → Prop, (∃ m, W 0 m [] (upd H D (.lst []))) ∧
      ∀ i m ys H, W i m ys H → ((Itl K a).stop i H ∧ R H) ∨ ((Itl K a).go i H ∧ ∀ x H', (Itl K a).yld i H x H' → ∃ a p q, x = .ref a ∧ SqT KT H' a [p, q] ∧ (tt ([some p, some q] ++ f σ) H' fun b H2 =>
        if b = true then te ([some p, some q] ++ f σ) H2 fun y H3 => H3 D = some (.lst ys) ∧ ys.length < sizeLine ∧ ∃ m', m' < m ∧ W (i + 1) m' (ys ++ [y]) (upd H3 D (.lst (ys ++ [y])))
        else ∃ m', m' < m ∧ W (i + 1) m' ys H2)) := by
  refine ⟨fun i m ys H => m = xs.length - i ∧ i ≤ xs.length ∧ Pv i ys H, ⟨xs.length, by simp, Nat.zero_le _, h0⟩, ?_⟩
  rintro i m ys H ⟨rfl, hi, p⟩
  have q := hl i ys H hi p
  by_cases hlt : i < xs.length
  · refine .inr ⟨⟨xs, xs[i], q, by simp [hlt]⟩, fun x H' y => ?_⟩
    obtain ⟨e, y⟩ := y
    subst e
    exact hs i x ys H' (y xs q) p
  · have e : i = xs.length := by omega
    subst e
    exact .inl ⟨⟨xs, q, Nat.le_refl _⟩, hd ys H p⟩
theorem compG2_tup {K : PySem.W.Frag} {a : Addr} {xs : List V} {D : Addr} {f : St → St} {KT : PySem.W.Frag} {tt : TT} {te : TE} {σ : St} {H : Hp} {R : Hp → Prop} (Pv : Nat → List V → Hp → Prop) (h0 : Pv 0 [] (upd H D (.lst []))) (hl : ∀ i ys H, i ≤ xs.length → Pv i ys H → SqT K H a xs)
    (hs : ∀ i x ys H, xs[i]? = some x → Pv i ys H → TurnG xs.length i D (fun v H Q => ∃ a p q, v = .ref a ∧ SqT KT H a [p, q] ∧ Q [some p, some q]) f σ tt te x H ys (Pv (i + 1)))
    (hd : ∀ ys H, Pv xs.length ys H → R H) :
    ∃ W : Nat → Nat → List V → Hp → Prop, (∃ m, W 0 m [] (upd H D (.lst []))) ∧
      ∀ i m ys H, W i m ys H → ((Itt K a).stop i H ∧ R H) ∨ ((Itt K a).go i H ∧ ∀ x H', (Itt K a).yld i H x H' → ∃ a p q, x = .ref a ∧ SqT KT H' a [p, q] ∧ (tt ([some p, some q] ++ f σ) H' fun b H2 =>
        if b = true then te ([some p, some q] ++ f σ) H2 fun y H3 => H3 D = some (.lst ys) ∧ ys.length < sizeLine ∧ ∃ m', m' < m ∧ W (i + 1) m' (ys ++ [y]) (upd H3 D (.lst (ys ++ [y])))
        else ∃ m', m' < m ∧ W (i + 1) m' ys H2)) := by
  refine ⟨fun i m ys H => m = xs.length - i ∧ i ≤ xs.length ∧ Pv i ys H, ⟨xs.length, by simp, Nat.zero_le _, h0⟩, ?_⟩
  rintro i m ys H ⟨rfl, hi, p⟩
  have q := hl i ys H hi p
  by_cases hlt : i < xs.length
  · refine .inr ⟨⟨xs, xs[i], q, by simp [hlt]⟩, fun x H' y => ?_⟩
    obtain ⟨e, y⟩ := y
    subst e
    exact hs i x ys H' (y xs q) p
  · have e : i = xs.length := by omega
    subst e
    exact .inl ⟨⟨xs, q, Nat.le_refl _⟩, hd ys H p⟩
theorem compG2_range {lo : Int} {n : Nat} {D : Addr} {f : St → St} {KT : PySem.W.Frag} {tt : TT} {te : TE} {σ : St} {H : Hp} {R : Hp → Prop} (Pv : Nat → List V → Hp → Prop) (h0 : Pv 0 [] (upd H D (.lst []))) (hs : ∀ i ys H, i < n → Pv i ys H → TurnG n i D (fun v H Q => ∃ a p q, v = .ref a ∧ SqT KT H a [p, q] ∧ Q [some p, some q]) f σ tt te (.int (lo + i)) H ys (Pv (i + 1)))
    (hd : ∀ ys H, Pv n ys H → R H) :
    ∃ W : Nat → Nat → List V → Hp → Prop, (∃ m, W 0 m [] (upd H D (.lst []))) ∧
      ∀ i m ys H, W i m ys H → ((Itr lo n).stop i H ∧ R H) ∨ ((Itr lo n).go i H ∧ ∀ x H', (Itr lo n).yld i H x H' → ∃ a p q, x = .ref a ∧ SqT KT H' a [p, q] ∧ (tt ([some p, some q] ++ f σ) H' fun b H2 =>
        if b = true then te ([some p, some q] ++ f σ) H2 fun y H3 => H3 D = some (.lst ys) ∧ ys.length < sizeLine ∧ ∃ m', m' < m ∧ W (i + 1) m' (ys ++ [y]) (upd H3 D (.lst (ys ++ [y])))
        else ∃ m', m' < m ∧ W (i + 1) m' ys H2)) := by
  refine ⟨fun i m ys H => m = n - i ∧ i ≤ n ∧ Pv i ys H, ⟨n, by simp, Nat.zero_le _, h0⟩, ?_⟩
  rintro i m ys H ⟨rfl, hi, p⟩
  by_cases hlt : i < n
  · refine .inr ⟨hlt, fun x H' y => ?_⟩
    obtain ⟨e, y⟩ := y
    subst e y
    exact hs i ys H' hlt p
  · have e : i = n := by omega
    subst e
    exact .inl ⟨Nat.le_refl _, hd ys H p⟩
theorem compG2_str {l : List Nat} {D : Addr} {f : St → St} {KT : PySem.W.Frag} {tt : TT} {te : TE} {σ : St} {H : Hp} {R : Hp → Prop} (Pv : Nat → List V → Hp → Prop) (h0 : Pv 0 [] (upd H D (.lst []))) (hs : ∀ i c ys H, l[i]? = some c → Pv i ys H → TurnG l.length i D (fun v H Q => ∃ a p q, v = .ref a ∧ SqT KT H a [p, q] ∧ Q [some p, some q]) f σ tt te (.str (S [c])) H ys (Pv (i + 1)))
    (hd : ∀ ys H, Pv l.length ys H → R H) :
    ∃ W : Nat → Nat → List V → Hp → Prop, (∃ m, W 0 m [] (upd H D (.lst []))) ∧
      ∀ i m ys H, W i m ys H → ((Its l).stop i H ∧ R H) ∨ ((Its l).go i H ∧ ∀ x H', (Its l).yld i H x H' → ∃ a p q, x = .ref a ∧ SqT KT H' a [p, q] ∧ (tt ([some p, some q] ++ f σ) H' fun b H2 =>
        if b = true then te ([some p, some q] ++ f σ) H2 fun y H3 => H3 D = some (.lst ys) ∧ ys.length < sizeLine ∧ ∃ m', m' < m ∧ W (i + 1) m' (ys ++ [y]) (upd H3 D (.lst (ys ++ [y])))
        else ∃ m', m' < m ∧ W (i + 1) m' ys H2)) := by
  refine ⟨fun i m ys H => m = l.length - i ∧ i ≤ l.length ∧ Pv i ys H, ⟨l.length, by simp, Nat.zero_le _, h0⟩, ?_⟩
  rintro i m ys H ⟨rfl, hi, p⟩
  by_cases hlt : i < l.length
  · refine .inr ⟨hlt, fun x H' y => ?_⟩
    obtain ⟨e, c, hc, e2⟩ := y
    subst e e2
    exact hs i c ys H' hc p
  · have e : i = l.length := by omega
    subst e
    exact .inl ⟨Nat.le_refl _, hd ys H p⟩
theorem compG3_list {K : PySem.W.Frag} {a : Addr} {xs : List V} {D : Addr} {f : St → St} {KT : PySem.W.Frag} {tt : TT} {te : TE} {σ : St} {H : Hp} {R : Hp → Prop} (Pv : Nat → List V → Hp → Prop) (h0 : Pv 0 [] (upd H D (.lst []))) (hl : ∀ i ys H, i ≤ xs.length → Pv i ys H → SqL K H a xs)
    (hs : ∀ i x ys H, xs[i]? = some x → Pv i ys H → TurnG xs.length i D (fun v H Q => ∃ a p q r, v = .ref a ∧ SqT KT H a [p, q, r] ∧ Q [some p, some q, some r]) f σ tt te x H ys (Pv (i + 1)))
    (hd : ∀ ys H, Pv xs.length ys H → R H) :
    ∃ W : Nat → Nat → List V → Hp → Prop, (∃ m, W 0 m [] (upd H D (.lst []))) ∧
      ∀ i m ys H, W i m ys H → ((Itl K a).stop i H ∧ R H) ∨ ((Itl K a).go i H ∧ ∀ x H', (Itl K a).yld i H x H' → ∃ a p q r, x = .ref a ∧ SqT KT H' a [p, q, r] ∧ (tt ([some p, some q, some r] ++ f σ) H' fun b H2 =>
        if b = true then te ([some p, some q, some r] ++ f σ) H2 fun y H3 => H3 D = some (.lst ys) ∧ ys.length < sizeLine ∧ ∃ m', m' < m ∧ W (i + 1) m' (ys ++ [y]) (upd H3 D (.lst (ys ++ [y])))
        else ∃ m', m' < m ∧ W (i + 1) m' ys H2)) := by
  refine ⟨fun i m ys H => m = xs.length - i ∧ i ≤ xs.length ∧ Pv i ys H, ⟨xs.length, by simp, Nat.zero_le _, h0⟩, ?_⟩
  rintro i m ys H ⟨rfl, hi, p⟩
  have q := hl i ys H hi p
  by_cases hlt : i < xs.length
  · refine .inr ⟨⟨xs, xs[i], q, by simp [hlt]⟩, fun x H' y => ?_⟩
    obtain ⟨e, y⟩ := y
    subst e
    exact hs i x ys H' (y xs q) p
  · have e : i = xs.length := by omega
    subst e
    exact .inl ⟨⟨xs, q, Nat.le_refl _⟩, hd ys H p⟩
theorem compG3_tup {K : PySem.W.Frag} {a : Addr} {xs : List V} {D : Addr} {f : St → St} {KT : PySem.W.Frag} {tt : TT} {te : TE} {σ : St} {H : Hp} {R : Hp → Prop} (Pv : Nat → List V → Hp → Prop) (h0 : Pv 0 [] (upd H D (.lst []))) (hl : ∀ i ys H, i ≤ xs.length → Pv i ys H → SqT K H a xs)
    (hs : ∀ i x ys H, xs[i]? = some x → Pv i ys H → TurnG xs.length i D (fun v H Q => ∃ a p q r, v = .ref a ∧ SqT KT H a [p, q, r] ∧ Q [some p, some q, some r]) f σ tt te x H ys (Pv (i + 1)))
    (hd : ∀ ys H, Pv xs.length ys H → R H) :
    ∃ W : Nat → Nat → List V → Hp → Prop, (∃ m, W 0 m [] (upd H D (.lst []))) ∧
      ∀ i m ys H, W i m ys H → ((Itt K a).stop i H ∧ R H) ∨ ((Itt K a).go i H ∧ ∀ x H', (Itt K a).yld i H x H' → ∃ a p q r, x = .ref a ∧ SqT KT H' a [p, q, r] ∧ (tt ([some p, some q, some r] ++ f σ) H' fun b H2 =>
        if b = true then te ([some p, some q, some r] ++ f σ) H2 fun y H3 => H3 D = some (.lst ys) ∧ ys.length < sizeLine ∧ ∃ m', m' < m ∧ W (i + 1) m' (ys ++ [y]) (upd H3 D (.lst (ys ++ [y])))
        else ∃ m', m' < m ∧ W (i + 1) m' ys H2)) := by
  refine ⟨fun i m ys H => m = xs.length - i ∧ i ≤ xs.length ∧ Pv i ys H, ⟨xs.length, by simp, Nat.zero_le _, h0⟩, ?_⟩
  rintro i m ys H ⟨rfl, hi, p⟩
  have q := hl i ys H hi p
  by_cases hlt : i < xs.length
  · refine .inr ⟨⟨xs, xs[i], q, by simp [hlt]⟩, fun x H' y => ?_⟩
    obtain ⟨e, y⟩ := y
    subst e
    exact hs i x ys H' (y xs q) p
  · have e : i = xs.length := by omega
    subst e
    exact .inl ⟨⟨xs, q, Nat.le_refl _⟩, hd ys H p⟩
theorem compG3_range {lo : Int} {n : Nat} {D : Addr} {f : St → St} {KT : PySem.W.Frag} {tt : TT} {te : TE} {σ : St} {H : Hp} {R : Hp → Prop} (Pv : Nat → List V → Hp → Prop) (h0 : Pv 0 [] (upd H D (.lst []))) (hs : ∀ i ys H, i < n → Pv i ys H → TurnG n i D (fun v H Q => ∃ a p q r, v = .ref a ∧ SqT KT H a [p, q, r] ∧ Q [some p, some q, some r]) f σ tt te (.int (lo + i)) H ys (Pv (i + 1)))
    (hd : ∀ ys H, Pv n ys H → R H) :
    ∃ W : Nat → Nat → List V → Hp → Prop, (∃ m, W 0 m [] (upd H D (.lst []))) ∧
      ∀ i m ys H, W i m ys H → ((Itr lo n).stop i H ∧ R H) ∨ ((Itr lo n).go i H ∧ ∀ x H', (Itr lo n).yld i H x H' → ∃ a p q r, x = .ref a ∧ SqT KT H' a [p, q, r] ∧ (tt ([some p, some q, some r] ++ f σ) H' fun b H2 =>
        if b = true then te ([some p, some q, some r] ++ f σ) H2 fun y H3 => H3 D = some (.lst ys) ∧ ys.length < sizeLine ∧ ∃ m', m' < m ∧ W (i + 1) m' (ys ++ [y]) (upd H3 D (.lst (ys ++ [y])))
        else ∃ m', m' < m ∧ W (i + 1) m' ys H2)) := by
  refine ⟨fun i m ys H => m = n - i ∧ i ≤ n ∧ Pv i ys H, ⟨n, by simp, Nat.zero_le _, h0⟩, ?_⟩
  rintro i m ys H ⟨rfl, hi, p⟩
  by_cases hlt : i < n
  · refine .inr ⟨hlt, fun x H' y => ?_⟩
    obtain ⟨e, y⟩ := y
    subst e y
    exact hs i ys H' hlt p
  · have e : i = n := by omega
    subst e
    exact .inl ⟨Nat.le_refl _, hd ys H p⟩
theorem compG3_str {l : List Nat} {D : Addr} {f : St → St} {KT : PySem.W.Frag} {tt : TT} {te : TE} {σ : St} {H : Hp} {R : Hp → Prop} (Pv : Nat → List V → Hp → Prop) (h0 : Pv 0 [] (upd H D (.lst []))) (hs : ∀ i c ys H, l[i]? = some c → Pv i ys H → TurnG l.length i D (fun v H Q => ∃ a p q r, v = .ref a ∧ SqT KT H a [p, q, r] ∧ Q [some p, some q, some r]) f σ tt te (.str (S [c])) H ys (Pv (i + 1)))
    (hd : ∀ ys H, Pv l.length ys H → R H) :
    ∃ W : Nat → Nat → List V → Hp → Prop, (∃ m, W 0 m [] (upd H D (.lst []))) ∧
      ∀ i m ys H, W i m ys H → ((Its l).stop i H ∧ R H) ∨ ((Its l).go i H ∧ ∀ x H', (Its l).yld i H x H' → ∃ a p q r, x = .ref a ∧ SqT KT H' a [p, q, r] ∧ (tt ([some p, some q, some r] ++ f σ) H' fun b H2 =>
        if b = true then te ([some p, some q, some r] ++ f σ) H2 fun y H3 => H3 D = some (.lst ys) ∧ ys.length < sizeLine ∧ ∃ m', m' < m ∧ W (i + 1) m' (ys ++ [y]) (upd H3 D (.lst (ys ++ [y])))
        else ∃ m', m' < m ∧ W (i + 1) m' ys H2)) := by
  refine ⟨fun i m ys H => m = l.length - i ∧ i ≤ l.length ∧ Pv i ys H, ⟨l.length, by simp, Nat.zero_le _, h0⟩, ?_⟩
  rintro i m ys H ⟨rfl, hi, p⟩
  by_cases hlt : i < l.length
  · refine .inr ⟨hlt, fun x H' y => ?_⟩
    obtain ⟨e, c, hc, e2⟩ := y
    subst e e2
    exact hs i c ys H' hc p
  · have e : i = l.length := by omega
    subst e
    exact .inl ⟨Nat.le_refl _, hd ys H p⟩
theorem turn1 {n i : Nat} {D : Addr} {f : St → St} {σ : St} {te : TE} {x : V} {H : Hp} {ys : List V} {P : List V → Hp → Prop} (h : te ([some x] ++ f σ) H fun y H3 => H3 D = some (.lst ys) ∧ ys.length < sizeLine ∧ Nxt n i (P (ys ++ [y]) (upd H3 D (.lst (ys ++ [y]))))) :
    TurnG n i D (fun v _ Q => Q [some v]) f σ tYes te x H ys P := by
  show (if true = true then (te ([some x] ++ f σ) H fun y H3 => H3 D = some (.lst ys) ∧ ys.length < sizeLine ∧ Nxt n i (P (ys ++ [y]) (upd H3 D (.lst (ys ++ [y]))))) else Nxt n i (P ys H))
  rw [if_pos rfl]
  exact h
theorem turn2 {KT : PySem.W.Frag} {n i : Nat} {D a : Addr} {p q : V} {f : St → St} {σ : St} {te : TE} {x : V} {H : Hp} {ys : List V} {P : List V → Hp → Prop} (hx : x = .ref a) (hS : SqT KT H a [p, q]) (h : te ([some p, some q] ++ f σ) H fun y H3 => H3 D = some (.lst ys) ∧ ys.length < sizeLine ∧ Nxt n i (P (ys ++ [y]) (upd H3 D (.lst (ys ++ [y]))))) :
    TurnG n i D (fun v H Q => ∃ a p q, v = .ref a ∧ SqT KT H a [p, q] ∧ Q [some p, some q]) f σ tYes te x H ys P := by
  refine ⟨a, p, q, hx, hS, ?_⟩
  show (if true = true then (te ([some p, some q] ++ f σ) H fun y H3 => H3 D = some (.lst ys) ∧ ys.length < sizeLine ∧ Nxt n i (P (ys ++ [y]) (upd H3 D (.lst (ys ++ [y]))))) else Nxt n i (P ys H))
  rw [if_pos rfl]
  exact h
theorem turn3 {KT : PySem.W.Frag} {n i : Nat} {D a : Addr} {p q r : V} {f : St → St} {σ : St} {te : TE} {x : V} {H : Hp} {ys : List V} {P : List V → Hp → Prop} (hx : x = .ref a) (hS : SqT KT H a [p, q, r]) (h : te ([some p, some q, some r] ++ f σ) H fun y H3 => H3 D = some (.lst ys) ∧ ys.length < sizeLine ∧ Nxt n i (P (ys ++ [y]) (upd H3 D (.lst (ys ++ [y]))))) :
    TurnG n i D (fun v H Q => ∃ a p q r, v = .ref a ∧ SqT KT H a [p, q, r] ∧ Q [some p, some q, some r]) f σ tYes te x H ys P := by
  refine ⟨a, p, q, r, hx, hS, ?_⟩
  show (if true = true then (te ([some p, some q, some r] ++ f σ) H fun y H3 => H3 D = some (.lst ys) ∧ ys.length < sizeLine ∧ Nxt n i (P (ys ++ [y]) (upd H3 D (.lst (ys ++ [y]))))) else Nxt n i (P ys H))
  rw [if_pos rfl]
  exact h
end L2
end

section
set_option Elab.async false
set_option linter.all false
set_option maxRecDepth 100000
/-! lists of texts: remove, sorted -/
namespace L2
open PySem PySem.Spec PyProof.Rows
section
variable {X : Cx}
def rRemove : V → List V → Hp → VK → Prop := fun x vs H Q => ∃ (l : Addr) (us : List (List Nat)) (w : List Nat), x = .ref l ∧ vs = [.str (S w)] ∧ H l = some (.lst (Ts us)) ∧ w ∈ us ∧ us.length ≤ 1000 ∧ Q .non (upd H l (.lst (Ts (us.erase w))))
def strEq (w : List Nat) (u : Value) : Bool := match u with
  | .str z _ => z.cps.toList == w
  | _ => false
theorem erase_idx {us : List (List Nat)} {w : List Nat} : us.erase w = us.eraseIdx (us.idxOf w) := by
  induction us with
  | nil => rfl
  | cons a r ih =>
    by_cases h : a = w
    · subst h; simp
    · rw [List.erase_cons_tail (by simpa using h), List.idxOf_cons, cond_eq_ite, if_neg (by simpa using h), List.eraseIdx_cons_succ, ih]
theorem mt_remove : MtM X "list.remove" rRemove := by
  intro pins s σ H x vs v us Q I rx rv h
  obtain ⟨l, ls, w, rfl, rfl, hH, hw, hz, q⟩ := h
  cases rx
  obtain ⟨u, rfl, ru⟩ := rv.one
  obtain ⟨t, rfl⟩ := ru
  obtain ⟨z, its, n, r, hl, e⟩ := I.lstM hH
  have hlen : its.length = ls.length := by rw [← hl, List.length_map]
  have hj : ls.idxOf w < ls.length := List.idxOf_lt_length_of_mem hw
  have get : ∀ (m : Nat) (hm : m < its.toArray.size), ∃ (tk : Tok) (hm' : m < ls.length), its.toArray[m] = .str (S ls[m]) tk := fun m hm => by
    have hm' : m < ls.length := by simp at hm; omega
    obtain ⟨u1, e1, s1⟩ := r.get (i := m) (x := .str (S ls[m])) (by simp [hm'])
    obtain ⟨tk, rfl⟩ := s1
    refine ⟨tk, hm', ?_⟩
    rw [List.getElem?_eq_getElem (by omega)] at e1
    simpa using e1
  refine call_meets F.slot_list_remove ⟨_, e, rfl⟩ F.entry_list_remove (F.args_list_remove_2 _ _) (PySem.MeetsSeq.list_remove l its.toArray n (.str (S w) t) (strEq w) (fun y hy => ?_) (ls.idxOf w) (by rw [List.size_toArray]; omega) ?_ (fun m hm hm2 => ?_) (by rw [List.size_toArray, hlen]; exact Nat.le_of_lt (small1000 hz))) ⟨e, ?_⟩
  · obtain ⟨m, hm, rfl⟩ := Array.mem_iff_getElem.mp hy
    obtain ⟨tk, _, e1⟩ := get m hm
    rw [e1]
    exact PySem.SeqRoads2.EqGives.str _ _ _ _
  · obtain ⟨tk, hm', e1⟩ := get (ls.idxOf w) (by rw [List.size_toArray]; omega)
    rw [e1]
    show (ls[ls.idxOf w] == w) = true
    rw [List.getElem_idxOf]
    simp
  · obtain ⟨tk, hm', e1⟩ := get m hm
    rw [e1]
    show (ls[m] == w) = false
    have := List.not_of_lt_findIdx (p := fun a => a == w) (xs := ls) (show m < ls.findIdx (fun a => a == w) from hm2)
    simpa using this
  · refine ⟨.non, _, I.lset (its' := its.eraseIdx (ls.idxOf w)) hH e ?_ ?_ ?_, rfl, q⟩
    · rw [Array.eraseIdxIfInBounds, dif_pos (by rw [List.size_toArray]; omega)]
      simp
    · rw [erase_idx]
      have hv := Vals.eraseIdx (ls.idxOf w) r
      have em : ∀ (xs : List (List Nat)) (i : Nat), Ts (xs.eraseIdx i) = (Ts xs).eraseIdx i := by
        intro xs
        induction xs with
        | nil => intro i; rfl
        | cons a r ih =>
          intro i
          cases i with
          | zero => rfl
          | succ i => rw [List.eraseIdx_cons_succ, Ts, List.map_cons, Ts, List.map_cons, List.eraseIdx_cons_succ]; congr 1; exact ih i
      rw [em]
      exact hv
    · rw [List.length_map]
      exact Nat.le_trans (List.length_erase_le ..) (Nat.le_of_lt (small1000 hz))
def rSortL (K : PySem.W.Frag) : List V → Hp → VK → Prop := fun xs H Q => ∃ (a : Addr) (ws : List (List Nat)), xs = [.ref a] ∧ SqL K H a (Ts ws) ∧ ws.length < 64 ∧ ∀ (p : Addr) (ws' : List (List Nat)), H p = none → ws'.Perm ws → ws'.Pairwise (fun a b => decide (b < a) = false) → Q (.ref p) (upd H p (.lst (Ts ws')))
theorem call_sortedL : CallR X (.builtin "sorted") (rSortL X.K) := by
  intro pins s σ H xs us Q I r h
  obtain ⟨a, ws, rfl, hS, h64, q⟩ := h
  obtain ⟨u, rfl, ru⟩ := vals1 r
  cases ru
  obtain ⟨its, rv, pl, _⟩ := I.list hS
  have hlen : its.length = ws.length := by have := rv.length; simpa using this.symm
  refine sorted_strs pl.isList (strs_of rv) (by omega) fun out ss' a1 a2 a3 => ?_
  obtain ⟨e, he⟩ := sortedAll_at s.heap its out
  have pm' : (ss'.map fun y => y.cps.toList).Perm ws := by
    have := a2.map fun y : Str => y.cps.toList
    rw [List.map_map] at this
    have e : ((fun y : Str => y.cps.toList) ∘ S) = id := rfl
    rw [e, List.map_id] at this
    exact this
  have hv : Vals (Ts (ss'.map fun y => y.cps.toList)) out.toList := by
    have := vals_of_strs a1
    have es : (ss'.map V.str) = Ts (ss'.map fun y => y.cps.toList) := by
      rw [Ts, List.map_map]
      exact List.map_congr_left fun y _ => by simp [Function.comp_def, S_of]
    rw [es] at this
    exact this
  have hl : (Ts (ss'.map fun y => y.cps.toList)).length ≤ sizeLine := by
    rw [List.length_map, pm'.length_eq]; exact Nat.le_of_lt (small1000 (by omega))
  refine ⟨.ref (s.heap.objs.size + 1), _, I.laid (o := .lst _) (t' := s.toks) (fun b o z => sortedAll_old z) (Nat.le_succ _) ⟨hl, out.toList, e, hv, by rw [Array.toArray_toList]; exact he⟩, rfl, q _ _ (I.hok.fresh (Nat.le_succ _)) pm' (sorted_pw ss' a3)⟩
/-- a statement, what holds behind it said by the reader -/
def tCut (t : TS) : TS := fun D σ H => ∃ Iv : St → Hp → Prop, t { D with nx := Iv } σ H ∧ ∀ σ' H', Iv σ' H' → D.nx σ' H'
theorem qs_cut {st : Stmt} {t : TS} (h : QS X st t) : QS X st (tCut t) := ⟨fun pins s σ H D I ⟨Iv, a, b⟩ => by
  refine thn (h.out pins s σ H _ I a) fun f s' q => ?_
  cases f with
  | next => obtain ⟨σ7, H7, I7, n7⟩ := q; exact ⟨σ7, H7, I7, b _ _ n7⟩
  | cont => exact q
  | brk => exact q
  | ret v => exact q⟩
end
end L2
end

section
set_option Elab.async false
set_option linter.all false
set_option maxRecDepth 100000
set_option maxHeartbeats 1000000
/-! isinstance of an own class; list of a text -/
namespace L2
open PySem PySem.Spec PyProof.Rows PySem.W
section
variable {X : Cx}
/-- what isinstance asks of an own class -/
structure InstOk (K : PySem.W.Frag) (C : Addr) : Prop where
  ha : PySem.W.findIn K (.ref C) "__class__" = some (some (.builtin "object.__class__"))
  hn : PySem.W.specialIn K (.builtin "object.__class__") "__get__" = some (some (.builtin "getset_descriptor.__get__"))
  ht : PySem.W.takesIn K (.builtin "object.__class__") = some true
  hm : PySem.W.mroIn K C (.type "object") = some true
  ki : PySem.W.kitOne K (.ref C) (.ref C) = some true
def rInstO (K : PySem.W.Frag) : List V → Hp → VK → Prop := fun xs H Q => ∃ x C t b, xs = [x, .ref C] ∧ TyOf K H x t ∧ PySem.W.kitOne K t (.ref C) = some b ∧ Q (.bl b) H
theorem call_isinstO : CallR X (.builtin "isinstance") (rInstO X.K) := by
  intro pins s σ H xs us Q I r h
  obtain ⟨x, n, t, b, rfl, ty, k, q⟩ := h
  obtain ⟨u, w', rfl, r1, r2⟩ := vals2 r
  cases r2
  exact isinst_ok I r1 ty k fun tk => ⟨.bl b, H, I.tok tk, rfl, q⟩
def rListS : List V → Hp → VK → Prop := fun xs H Q => ∃ l : List Nat, xs = [.str (S l)] ∧ l.length ≤ 1000 ∧ ∀ p, H p = none → Q (.ref p) (upd H p (.lst (Ts (l.map fun c => [c]))))
theorem sign_vals : ∀ (l : List Nat) (us : List Value), us.length = l.length → (∀ (i c : Nat), l[i]? = some c → ∃ t, us[i]? = some (.str (S [c]) t)) → Vals (Ts (l.map fun c => [c])) us
  | [], [], _, _ => .nil
  | [], _ :: _, h, _ => by simp at h
  | _ :: _, [], h, _ => by simp at h
  | c :: l, u :: us, h, k => by
    obtain ⟨t, e⟩ := k 0 c rfl
    have e : u = .str (S [c]) t := Option.some.inj e
    exact .cons ⟨t, e⟩ (sign_vals l us (by simpa using h) fun i d hd => k (i + 1) d hd)
theorem call_listS (hc : X.calm = true) : CallR X (.type "list") rListS := by
  intro pins s σ H xs us Q I r h
  obtain ⟨l, rfl, hl, q⟩ := h
  obtain ⟨u, rfl, ru⟩ := vals1 r
  obtain ⟨t, rfl⟩ := ru
  have hz : l.length ≤ sizeLine := Nat.le_of_lt (small1000 (by omega))
  refine call_list_str (I.ok.hd hc) (S l) t (fun h' tk acc c' hk hD hacc => ?_) (by show l.toArray.size ≤ _; simpa using hz)
  have hsz : acc.size = l.length := by rw [hacc.1]; show l.toArray.size = _; simp
  refine ⟨.ref s.heap.objs.size, _, I.laid (o := .lst (Ts (l.map fun c => [c]))) (t' := tk) hk (Nat.le_refl _) ⟨by rw [List.length_map, List.length_map]; exact hz, acc.toList, c', ?_, by simpa using hD⟩, rfl, q _ (I.hok.fresh (Nat.le_refl _))⟩
  refine sign_vals l acc.toList (by rw [Array.length_toList]; exact hsz) fun i c hc => ?_
  have hi : i < acc.size := by rw [hsz]; exact (List.getElem?_eq_some_iff.mp hc).1
  obtain ⟨c2, t2, e1, e2⟩ := hacc.2 i acc[i] (by simp [hi])
  have e1 : l.toArray[i]? = some c2 := e1
  rw [List.getElem?_toArray, hc] at e1
  have e1 := Option.some.inj e1
  exact ⟨t2, by rw [Array.getElem?_toList, Array.getElem?_eq_getElem hi, e2, e1]; rfl⟩
end
end L2
end

section
set_option Elab.async false
set_option linter.all false
set_option maxRecDepth 100000
set_option maxHeartbeats 1000000
/-! name = [comprehension]: the name is stored while the block still stands -/
namespace L2
open PySem PySem.Spec PyProof.Rows
theorem ps_setG {X : Cx} {ix : Nat} {xn : Str} {pos0 spos : Pos} {elt iter tg : Expr} {ns N2 : List Str} {f : St → St} {TP : V → Hp → (St → Prop) → Prop} {ifs : List Expr} {scope : Scope} {pos : Pos} {wi : TI} {tt : TT} {te : TE} (hN : X.N.Nodup) (hxi : X.N[ix]? = some xn) (hxl : Loc X.env.scope xn) (hc : X.calm = true) (ok : CompG X scope ns N2 f) (hi : PI X tg iter wi)
    (hg : ∀ cl C s₀ H₀ fp, PTg (blkG X scope cl C (ns ++ N2) s₀ H₀ fp) tg ns.length TP)
    (ht : ∀ cl C s₀ H₀ fp, PTs (blkG X scope cl C (ns ++ N2) s₀ H₀ fp) ifs tt) (he : ∀ cl C s₀ H₀ fp, PE (blkG X scope cl C (ns ++ N2) s₀ H₀ fp) elt te)
    (hs : ∀ x, foldedSetIterable iter X.env x = pure x := by intro _; rfl) (hsw : swapsWith (.ListComp elt [⟨tg, iter, ifs, 0⟩] scope pos) (some (.Name xn pos0)) spos.line X.env = pure true := by rfl)
    (hf : X.fn xn = true ∨ X.env.scope.names.lookup xn = some .local := by first | exact .inl rfl | exact .inr rfl | assumption) :
    PS X (.Assign [.Name xn pos0] (.ListComp elt [⟨tg, iter, ifs, 0⟩] scope pos) spos) (tAsg (tCompG f ns.length wi TP tt te) (gName ix)) := by
  intro pins s σ H De I h
  obtain ⟨cl, hcl, hsub, _, hall⟩ := closure_ok (env := X.env) scope.names (fun y hy e => I.ok.has y.1 (ok.free y hy e)) [] (fun _ _ z => by simp at z)
  have hclos : closureFor scope X.env = pure cl := by
    unfold closureFor
    simp only [bind_pure]
    exact hcl
  rw [exec_Assign_Name_used _ _ _ _ hsw]
  refine wpAny_bind (wpAny_standAt (wpAny_bind (wpAny_bind ?_)))
  refine thn (Q := fun _ s' => ∃ σ' H', Inv X pins σ' H' s' ∧ De.nx σ' H') ?_ fun _ s' hq => wpAny_pure (wpAny_pure hq)
  refine wpAny_comprehension_free (use := some (assign (.Name xn pos0) X.env)) (E := X.xe) (cl := cl) rfl hs hclos ok.kind ok.names (thn (hi pins s σ H _ I h) fun v s1 h1 => thn h1 fun itv s2 h2 => ?_)
  obtain ⟨it, fp, tn, J, H2, e, I2, T, st2, f2, R⟩ := h2
  subst e
  obtain ⟨W, ⟨m0, w0⟩, turn⟩ := R s2.heap.objs.size I2.fresh
  refine wpAny_newObj_type (wpAny_newFunctionEnv ok.ncell (by intro y hy; simp at hy) (fun h₁ hns₁ hsb₁ => ?_) ok.kind)
  dsimp only at hns₁ hsb₁ ⊢
  have I3 : Inv X pins σ (upd H2 s2.heap.objs.size (.lst [])) { s2 with heap := s2.heap.push { cls := .type "list", data := .seq ([] : List Value).toArray } } := I2.lnew (t' := s2.toks) (ys := []) (its := []) .nil (Nat.zero_le _)
  generalize hH3 : upd H2 s2.heap.objs.size (HO.lst []) = H3 at *
  generalize hs3 : s2.heap.push { cls := .type "list", data := .seq ([] : List Value).toArray } = hp3 at *
  generalize hD : s2.heap.objs.size = D at *
  generalize hC : hp3.objs.size = C at *
  have hDC : D < C := by rw [← hC, ← hs3, Heap.size_push, hD]; exact Nat.lt_succ_self _
  have old : ∀ b o, hp3.get? b = some o → h₁.get? b = some o := fun b o e => (hsb₁.2 b (by rw [← hC]; exact Nat.ne_of_lt (Heap.lt_size e))).trans (Heap.get?_push_of_some _ e)
  have fpl : ∀ b ∈ fp, b < C := fun b hb => by
    obtain ⟨o, e, _⟩ := T.obj _ _ st2 b hb
    rw [← hC, ← hs3, Heap.size_push]
    exact Nat.lt_succ_of_lt (Heap.lt_size e)
  have f3 : ∀ b ∈ fp, FpOk X pins H3 b := fun b hb => by
    obtain ⟨o, e, _⟩ := T.obj _ _ st2 b hb
    refine ⟨?_, (f2 b hb).2⟩
    rw [← hH3, upd_ne (by rw [← hD]; exact Nat.ne_of_lt (Heap.lt_size e))]
    exact (f2 b hb).1
  have nstk : ∀ b ∈ fp, b ∉ frs X.stack := fun b hb z => by
    obtain ⟨_, g1, g2, _⟩ := f3 b hb
    rcases List.mem_cons.mp (I3.stkSub b z) with q | q
    · exact g1 q
    · exact g2 q
  -- the block's context
  have YOk : (blkG X scope cl C (ns ++ N2) { s2 with heap := hp3 } H3 fp).Ok := by
    refine ⟨I.ok.mod, ?_, I.ok.glob, I.ok.blt, Nat.le_of_eq hC, ?_, ?_, ?_, I.ok.hd, I.ok.frames, .inl rfl, ?_, ?_, ?_, ?_, ?_, ?_, ?_⟩
    · exact ok.kind
    · exact fun a b c h1 h2 => I.ok.inj a b c (hsub a c h1) (hsub b c h2)
    · intro a ha
      refine hall a ?_
      rcases ha with z | z
      · rcases lookup_relabel (env := X.env) z with q | ⟨_, q⟩
        · exact absurd rfl (ok.ncell _ (lookup_mem' q))
        · exact lookup_mem' q
      · rcases lookup_relabel (env := X.env) z with q | ⟨q, _⟩
        · exact lookup_mem' q
        · cases q
    · intro a c hf; cases hf
    · intro b hb
      refine ⟨Nat.ne_of_lt (fpl b hb), fun a c h1 => (f3 b hb).2.2.2.2.1 a c (hsub a c h1)⟩
    · exact I3.bs
    · exact Nat.le_trans I.ok.bsz I3.sz
    · intro b o e hb
      rcases (f3 b hb).2.2.2.1 with z | z
      · exact I.ok.noex b o e z
      · exact absurd (Nat.lt_of_lt_of_le (Heap.lt_size e) (Nat.le_trans I.ok.bsz z)) (Nat.lt_irrefl _)
    · exact nstk
    · exact I3.stack
    · exact I3.stkFree
  have Y0 : Inv (blkG X scope cl C (ns ++ N2) { s2 with heap := hp3 } H3 fp) [] (List.replicate ns.length none ++ f σ) H3 { s2 with heap := h₁, toks := s2.toks + ([] : List (Str × Value)).length } := by
    refine ⟨YOk, rfl, I3.bare, Un.kept old, ⟨_, hns₁, ?_⟩, ?_, ?_, ?_, fun p hp => by simp [blkG] at hp, I3.hok.kept old, ?_⟩
    · intro i y v e1 e2 e3
      by_cases hin : i < ns.length
      · rw [List.getElem?_append_left (by rw [List.length_replicate]; exact hin), List.getElem?_replicate, if_pos hin] at e2
        simp at e2
      · obtain ⟨i, rfl⟩ : ∃ k, i = ns.length + k := ⟨i - ns.length, by omega⟩
        have e1a : (ns ++ N2)[ns.length + i]? = some y := e1
        rw [List.getElem?_append_right (by omega), Nat.add_sub_cancel_left] at e1a
        rw [List.getElem?_append_right (by rw [List.length_replicate]; omega), List.length_replicate, Nat.add_sub_cancel_left] at e2
        obtain ⟨e1', e2', hout⟩ := ok.out σ i y v e1a e2
        have hfree : (y, NameKind.free) ∈ scope.names := by
          have key : ∀ k, (relabel scope X.env).names.lookup y = some k → k ≠ .local → k = .cell ∨ k = .free → (y, NameKind.free) ∈ scope.names := fun k q n hk => by
            rcases lookup_relabel (env := X.env) q with z | ⟨_, z⟩
            · rcases hk with rfl | rfl
              · exact absurd rfl (ok.ncell _ (lookup_mem' z))
              · exact lookup_mem' z
            · exact lookup_mem' z
          rcases e3 with z | z | z
          · rcases lookup_relabel (env := X.env) z with q | ⟨q, _⟩
            · exact absurd q hout
            · cases q
          · exact key _ z (by decide) (.inl rfl)
          · exact key _ z (by decide) (.inr rfl)
        have hk := ok.free _ hfree rfl
        obtain ⟨m, hn, hl⟩ := I3.loc
        obtain ⟨u, r, q⟩ := hl i y v e1' e2' (by rcases hk with z | z; exact .inr (.inl z); exact .inr (.inr z))
        refine ⟨u, r, .inr ⟨?_, ?_⟩⟩
        · rcases e3 with z | z | z
          · rcases lookup_relabel (env := X.env) z with q | ⟨q, _⟩
            · exact absurd q hout
            · cases q
          · exact .inl z
          · exact .inr z
        · rcases q with ⟨z, _⟩ | ⟨_, c, hc', hcell⟩
          · rcases hk with q | q <;> (rw [z] at q; cases q)
          · obtain ⟨c', hc2⟩ := hall y hfree
            have : c' = c := by have := hsub y c' hc2; rw [hc'] at this; exact (Option.some.inj this).symm
            subst this
            obtain ⟨o, ho, hd⟩ := hcell
            exact ⟨c', hc2, o, old _ _ ho, hd⟩
    · intro a c h1
      obtain ⟨v, o, ho, hd⟩ := I3.cell a c (hsub a c h1)
      exact ⟨v, o, old _ _ ho, hd⟩
    · show H3 C = none
      exact I3.hok.fresh (Nat.le_of_eq hC)
    · exact fun a c h1 => I3.freeC a c (hsub a c h1)
    · show (List.replicate ns.length none ++ f σ).length = (ns ++ N2).length
      rw [List.length_append, List.length_append, List.length_replicate, ok.lenf, I.len, ok.lenN]
  -- behind the block
  have back : ∀ (s' : Shared) (v : St) (H' : Hp) (h' : Heap), Inv (blkG X scope cl C (ns ++ N2) { s2 with heap := hp3 } H3 fp) [] v H' s' → Heap.SameBut C s'.heap h' → (∀ b ∈ fp, H' b = none) → Inv X pins σ H' { s' with heap := h' } := by
    intro s' v H' h' I' sb fr
    have neC : ∀ b o, hp3.get? b = some o → b ≠ C := fun b o e => by rw [← hC]; exact Nat.ne_of_lt (Heap.lt_size e)
    have U : Un (frs X.stack) fp H3 H' hp3 s'.heap := I'.base
    refine I3.call' (ch := fp) (H' := H') (s' := { s' with heap := h' }) I'.os ⟨fun b o e n h1 h2 => (sb.2 b (neC b o e)).trans (U.keep b o e n h1 h2), fun b o e n h1 h2 => ?_, U.free, fun b o e h2 => ?_, U.tups, U.frzs, U.tbls⟩ (fun b ob e => ?_) I'.bare fun b hb => ?_
    · obtain ⟨sl, q⟩ := U.slot b o e n h1 h2
      exact ⟨sl, (sb.2 b (neC b o e)).trans q⟩
    · obtain ⟨o', q⟩ := U.there b o e h2
      exact ⟨o', (sb.2 b (neC b o e)).trans q⟩
    · have fC : H' C = none := I'.free
      refine (I'.hok b ob e).stay (fun c w' hc q => (sb.2 c ?_).trans q) (fun _ q => q) fun _ _ q => q
      rintro rfl
      rcases hc with rfl | hc
      · rw [fC] at e; cases e
      · rw [fC] at hc; cases hc
    · obtain ⟨_, g1, _, g3, g4, g5⟩ := f3 b hb
      exact ⟨g3, g1, g4, g5⟩
  have stat : ∀ {H' : Hp}, (∀ b ∈ fp, H' b = none) → ∀ b ∈ fp, FpOk (blkG X scope cl C (ns ++ N2) { s2 with heap := hp3 } H3 fp) [] H' b := fun hn b hb =>
    ⟨hn b hb, Nat.ne_of_lt (fpl b hb), nstk b hb, .inl hb, fun a c h1 => (f3 b hb).2.2.2.2.1 a c (hsub a c h1), fun p hp => by simp [blkG] at hp⟩
  have st₁ : tn 0 h₁ := T.keep _ _ _ st2 fun b _ o e => old b o (by rw [← hs3]; exact Heap.get?_push_of_some _ e)
  have loop : codeAny (model X.prog X.w) X.A (.compLoop (.ListComp elt [⟨tg, iter, ifs, 0⟩] scope pos) 0 (.ref it) (.ref D) (compEnvC scope cl C X.env)) (compPost (model X.prog X.w) X.A X.xe (some (assign (.Name xn pos0) X.env)) (fun _ s' => ∃ σ' H', Inv X pins σ' H' s' ∧ De.nx σ' H') (.ref D) C)
      { s2 with heap := h₁, toks := s2.toks + ([] : List (Str × Value)).length } := by
    refine compLoop_T (fun n s' => ∃ i v ys H', v.length = ns.length ∧ Inv (blkG X scope cl C (ns ++ N2) { s2 with heap := hp3 } H3 fp) [] (v ++ f σ) H' s' ∧ tn i s'.heap ∧ (∀ b ∈ fp, H' b = none) ∧ W i n ys H') ?_ m0 ⟨0, List.replicate ns.length none, [], H3, List.length_replicate, Y0, st₁, fun b hb => (f3 b hb).1, w0⟩
    rintro n s4 ⟨i, v, ys, H4, hv4, I4, st4, fr4, w4⟩
    rcases turn i n ys H4 w4 with ⟨stop, qn⟩ | ⟨go, step⟩
    · refine thn (T.done (blkG X scope cl C (ns ++ N2) { s2 with heap := hp3 } H3 fp) rfl rfl rfl hc i [] s4 (v ++ f σ) H4 _ I4 (stat fr4) st4 stop) fun r s5 ⟨hr, I5⟩ => ?_
      subst hr
      obtain ⟨m, hn, _⟩ := id I5.loc
      have I5' : Inv X pins σ H4 s5 := back s5 (v ++ f σ) H4 s5.heap I5 (Heap.SameBut.refl _ _) fr4
      have fC : FpOk X pins H4 C := ⟨I5.free, (I3.fpOk (H' := H3) (Nat.le_of_eq hC) (I3.hok.fresh (Nat.le_of_eq hC))).2⟩
      refine wpAny_assign_Name (store_ok2 I5' hN hxi hxl (show RelV (.ref D) (.ref D) from rfl) (fun s6 I6 ⟨a, sb6, ha⟩ => ?_) hf)
      have nCa : C ≠ a := by
        rcases ha with z | z
        · rw [z]; exact fC.2.1
        · exact fun y => fC.2.2.2.2.1 _ _ z y.symm
      obtain ⟨o, es, ep, e1, e2⟩ := hn
      refine ⟨m, ⟨o, es, ep, (sb6.2 C nCa).trans e1, e2⟩, fun h' sb => ⟨_, H4, I6.turned (t' := s6.toks) (fun b o hb e => (sb.2 b hb).trans e) fC.1 fC.2.1 fC.2.2.2.1 fC.2.2.2.2.1 fC.2.2.2.2.2, qn⟩⟩
    · refine thn (T.item (blkG X scope cl C (ns ++ N2) { s2 with heap := hp3 } H3 fp) rfl rfl rfl hc i [] s4 (v ++ f σ) H4 _ I4 (stat fr4) st4 go) fun r s5 ⟨u, hr, h5⟩ => ?_
      subst hr
      refine thn h5 fun _ s6 ⟨y, H6, I6, r6, y6, st6, fr6⟩ => ?_
      have I6' := I6.pinned (stat fr6) (T.obj _ _ st6)
      refine thn (hg cl C { s2 with heap := hp3 } H3 fp _ s6 v (f σ) H6 y u _ hv4 I6' r6 (step y H6 y6)) fun _ s7 ⟨pre, hpre, I7', q7⟩ => ?_
      refine thn (ht cl C { s2 with heap := hp3 } H3 fp _ s7 _ H6 _ I7' q7) fun b s8 ⟨H8, I8, q8⟩ => ?_
      have keepIt : ∀ {σ' : St} {H' : Hp} {s' : Shared}, Inv (blkG X scope cl C (ns ++ N2) { s2 with heap := hp3 } H3 fp) ([] ++ pinsAt fp s6.heap) σ' H' s' → tn (i + 1) s'.heap ∧ ∀ b ∈ fp, H' b = none := fun {σ' H' s'} I9 => by
        refine ⟨T.keep _ _ _ st6 fun b hb o e => (I9.pin (b, o) (List.mem_append_right _ (List.mem_append_right _ (mem_pinsAt hb e)))).1, fun b hb => ?_⟩
        obtain ⟨o, e, d⟩ := T.obj _ _ st6 b hb
        exact (I9.pin (b, o) (List.mem_append_right _ (List.mem_append_right _ (mem_pinsAt hb e)))).2.1
      cases b with
      | false =>
        obtain ⟨m', hm, w'⟩ := q8
        obtain ⟨k1, k2⟩ := keepIt I8
        exact ⟨m', hm, i + 1, pre, ys, H8, hpre, I8.unpinned, k1, k2, w'⟩
      | true =>
        have q8' : te (pre ++ f σ) H8 _ := q8
        show wpAny _ _ (eval elt _) _ _ _
        refine thn (he cl C { s2 with heap := hp3 } H3 fp _ s8 _ H8 _ I8 q8') fun z s9 ⟨zv, H9, I9, r9, hD9, hz9, m', hm, w'⟩ => ?_
        refine thn (mt_append (X := blkG X scope cl C (ns ++ N2) { s2 with heap := hp3 } H3 fp) _ s9 _ H9 (.ref D) [zv] (.ref D) [z] (fun _ H' => H' = upd H9 D (.lst (ys ++ [zv]))) I9 rfl (.cons r9 .nil) ⟨D, ys, zv, rfl, rfl, hD9, hz9, rfl⟩) fun _ s10 ⟨_, H10, I10, _, e10⟩ => ?_
        subst e10
        obtain ⟨k1, k2⟩ := keepIt I10
        exact ⟨m', hm, i + 1, pre, ys ++ [zv], _, hpre, I10.unpinned, k1, k2, w'⟩
  exact codeAny_compStart_list loop (T.self X.A 0 _ _ _ st₁ loop)
theorem qs_setG {X : Cx} {ix : Nat} {xn : Str} {pos0 spos : Pos} {elt iter tg : Expr} {ns N2 : List Str} {f : St → St} {TP : V → Hp → (St → Prop) → Prop} {ifs : List Expr} {scope : Scope} {pos : Pos} {wi : TI} {tt : TT} {te : TE} (hN : X.N.Nodup) (hxi : X.N[ix]? = some xn) (hxl : Loc X.env.scope xn) (hc : X.calm = true) (ok : CompG X scope ns N2 f) (hi : QI X tg iter wi)
    (hg : ∀ cl C s₀ H₀ fp, PTg (blkG X scope cl C (ns ++ N2) s₀ H₀ fp) tg ns.length TP)
    (ht : ∀ cl C s₀ H₀ fp, QTs (blkG X scope cl C (ns ++ N2) s₀ H₀ fp) ifs tt) (he : ∀ cl C s₀ H₀ fp, QE (blkG X scope cl C (ns ++ N2) s₀ H₀ fp) elt te)
    (hs : ∀ x, foldedSetIterable iter X.env x = pure x := by intro _; rfl) (hsw : swapsWith (.ListComp elt [⟨tg, iter, ifs, 0⟩] scope pos) (some (.Name xn pos0)) spos.line X.env = pure true := by rfl)
    (hf : X.fn xn = true ∨ X.env.scope.names.lookup xn = some .local := by first | exact .inl rfl | exact .inr rfl | assumption) :
    QS X (.Assign [.Name xn pos0] (.ListComp elt [⟨tg, iter, ifs, 0⟩] scope pos) spos) (tAsg (tCompG f ns.length wi TP tt te) (gName ix)) :=
  ⟨ps_setG hN hxi hxl hc ok hi.out hg (fun a b c d e => (ht a b c d e).out) (fun a b c d e => (he a b c d e).out) hs hsw hf⟩
end L2
end

section
set_option Elab.async false
set_option linter.all false
set_option maxRecDepth 100000
set_option maxHeartbeats 1000000
/-! list(d), the keys of d texts -/
namespace L2
open PySem PySem.Spec PyProof.Rows PySem.W
section
variable {X : Cx}
theorem texts_vals : ∀ (m : List (List Nat)) (l : List Value), l.length = m.length → (∀ (j : Nat) (c : List Nat), m[j]? = some c → ∃ t, l[j]? = some (.str (S c) t)) → Vals (Ts m) l
  | [], [], _, _ => .nil
  | [], _ :: _, h, _ => by simp at h
  | _ :: _, [], h, _ => by simp at h
  | c :: m, a :: l, h, k => by
    obtain ⟨t, e⟩ := k 0 c rfl
    have e' : a = .str (S c) t := by simpa using e
    subst e'
    exact .cons ⟨t, rfl⟩ (texts_vals m l (by simpa using h) fun j c hj => k (j + 1) c hj)
def rListD : List V → Hp → VK → Prop := fun xs H Q => ∃ (d : Addr) (kvs : List (Key × V)) (ws : List (List Nat)), xs = [.ref d] ∧ H d = some (.dK kvs) ∧ kvs.map (·.1) = ws.map keyS ∧ ws.length ≤ 900 ∧ ∀ p : Addr, H p = none → Q (.ref p) (upd H p (.lst (Ts ws)))
theorem call_listD (hc : X.calm = true) : CallR X (.type "list") rListD := by
  intro pins s σ H xs us Q I r h
  obtain ⟨d, kvs, ws, rfl, hd, hk, h64, q⟩ := h
  obtain ⟨u, rfl, ru⟩ := vals1 r
  cases ru
  obtain ⟨hz, lo, vs, rel, dd⟩ := dk_of I.hok hd
  obtain ⟨ep, hat⟩ := dd.dictAt
  have hkv := KV.keys rel
  have hlv : vs.length = ws.length := by
    have h1 := KV.length rel
    have h2 := congrArg List.length hk
    simp at h2
    omega
  refine kdl_call (kdl_dict (knd := mixKind X.prog X.w) (kvs := vs) (ep := ep) lo) (I.ok.hd hc) hat (by rw [hlv]; exact Nat.le_of_lt (small1000 (by omega))) fun h' tk acc c' hk' hD hacc => ?_
  have hv : Vals (Ts ws) acc.toList := by
    refine texts_vals ws _ (by rw [Array.length_toList, hacc.1, hlv]) fun j c hj => ?_
    have hjl : j < acc.size := by
      rw [hacc.1, hlv]
      exact (List.getElem?_eq_some_iff.mp hj).1
    obtain ⟨k, x, hx, hi⟩ := hacc.2 j acc[j] (by simp [hjl])
    have hkj : (ws.map keyS)[j]? = some k := by rw [← hk, hkv, List.getElem?_map, hx]; rfl
    rw [List.getElem?_map, hj] at hkj
    have e : keyS c = k := by simpa using hkj
    subst e
    rcases keyIs_shape (show keyIs (Sum.inr (S c)) acc[j] = true from hi) with ⟨i, t, e1, _⟩ | ⟨y, t, e1, e2⟩
    · cases e1
    · cases e1; exact ⟨t, by rw [Array.getElem?_toList, Array.getElem?_eq_getElem hjl, e2]⟩
  exact ⟨.ref s.heap.objs.size, _, I.laid (o := .lst _) (t' := tk) hk' (Nat.le_refl _) ⟨by rw [List.length_map]; exact Nat.le_of_lt (small1000 (by omega)), acc.toList, c', hv, by simpa using hD⟩, rfl, q _ (I.hok.fresh (Nat.le_refl _))⟩
end
end L2
end

section
set_option Elab.async false
set_option linter.all false
set_option maxRecDepth 100000
set_option maxHeartbeats 4000000
namespace My
open PySem L2
def top (i : Nat) : Stmt := PySem.Challenge.pw_letterrack_k40_cross_letters.main.body.getD i (.Pass ⟨0, 0, 0, 0⟩)
abbrev s__wall : Stmt := top 0
theorem sc__wall : FnScope ["k"] ["k"] (defScope s__wall) := ⟨rfl, rfl, rfl, by decide +kernel, rfl, by decide +kernel, by decide +kernel⟩
abbrev s_is_whole : Stmt := top 6
theorem sc_is_whole : FnScope ["thing"] ["thing"] (defScope s_is_whole) := ⟨rfl, rfl, rfl, by decide +kernel, rfl, by decide +kernel, by decide +kernel⟩
abbrev s_is_sign : Stmt := top 7
theorem sc_is_sign : FnScope ["thing"] ["thing"] (defScope s_is_sign) := ⟨rfl, rfl, rfl, by decide +kernel, rfl, by decide +kernel, by decide +kernel⟩
abbrev s_is_block : Stmt := top 12
theorem sc_is_block : FnScope ["thing", "width"] ["thing"] (defScope s_is_block) := ⟨rfl, rfl, rfl, by decide +kernel, rfl, by decide +kernel, by decide +kernel⟩
abbrev s_are_rows : Stmt := top 13
theorem sc_are_rows : FnScope ["thing"] ["thing"] (defScope s_are_rows) := ⟨rfl, rfl, rfl, by decide +kernel, rfl, by decide +kernel, by decide +kernel⟩
abbrev s_are_marks : Stmt := top 14
theorem sc_are_marks : FnScope ["thing"] ["thing"] (defScope s_are_marks) := ⟨rfl, rfl, rfl, by decide +kernel, rfl, by decide +kernel, by decide +kernel⟩
abbrev s_is_cell_of : Stmt := top 15
theorem sc_is_cell_of : FnScope ["rows", "row", "column"] ["rows", "row", "column"] (defScope s_is_cell_of) := ⟨rfl, rfl, rfl, by decide +kernel, rfl, by decide +kernel, by decide +kernel⟩
abbrev s_is_begin_of : Stmt := top 16
theorem sc_is_begin_of : FnScope ["rows", "thing"] ["rows", "thing"] (defScope s_is_begin_of) := ⟨rfl, rfl, rfl, by decide +kernel, rfl, by decide +kernel, by decide +kernel⟩
abbrev s_is_board : Stmt := top 17
theorem sc_is_board : FnScope ["rows", "marks", "begin"] ["rows", "marks", "begin"] (defScope s_is_board) := ⟨rfl, rfl, rfl, by decide +kernel, rfl, by decide +kernel, by decide +kernel⟩
abbrev s_column_text : Stmt := top 18
theorem sc_column_text : FnScope ["rows", "column"] ["rows", "column"] (defScope s_column_text) := ⟨rfl, rfl, rfl, by decide +kernel, rfl, by decide +kernel, by decide +kernel⟩
abbrev s_Board_init : Stmt := inClass (top 19) 0
theorem sc_Board_init : FnScope ["self", "rows", "marks", "begin"] ["self", "rows", "marks", "begin"] (defScope s_Board_init) := ⟨rfl, rfl, rfl, by decide +kernel, rfl, by decide +kernel, by decide +kernel⟩
abbrev s_Board_at : Stmt := inClass (top 19) 1
theorem sc_Board_at : FnScope ["self", "row", "column"] ["self", "row", "column"] (defScope s_Board_at) := ⟨rfl, rfl, rfl, by decide +kernel, rfl, by decide +kernel, by decide +kernel⟩
abbrev s_Board_is_free : Stmt := inClass (top 19) 2
theorem sc_Board_is_free : FnScope ["self"] ["self"] (defScope s_Board_is_free) := ⟨rfl, rfl, rfl, by decide +kernel, rfl, by decide +kernel, by decide +kernel⟩
abbrev s_Board_run : Stmt := inClass (top 19) 3
theorem sc_Board_run : FnScope ["self", "row", "column", "way", "line", "place", "ahead", "signs", "first"] ["self", "row", "column", "way"] (defScope s_Board_run) := ⟨rfl, rfl, rfl, by decide +kernel, rfl, by decide +kernel, by decide +kernel⟩
abbrev s_Board_turned : Stmt := inClass (top 19) 4
theorem sc_Board_turned : FnScope ["self"] ["self"] (defScope s_Board_turned) := ⟨rfl, rfl, rfl, by decide +kernel, rfl, by decide +kernel, by decide +kernel⟩
abbrev s_Board_laid : Stmt := inClass (top 19) 5
theorem sc_Board_laid : FnScope ["self", "laying", "lines", "row", "column", "sign"] ["self", "laying"] (defScope s_Board_laid) := ⟨rfl, rfl, rfl, by decide +kernel, rfl, by decide +kernel, by decide +kernel⟩
abbrev s_cross_letters : Stmt := top 22
theorem sc_cross_letters : FnScope ["board", "book", "row", "column", "way", "run", "place", "ahead", "behind"] ["board", "book", "row", "column", "way"] (defScope s_cross_letters) := ⟨rfl, rfl, rfl, by decide +kernel, rfl, by decide +kernel, by decide +kernel⟩
abbrev s_is_word : Stmt := top 24
theorem sc_is_word : FnScope ["text"] ["text"] (defScope s_is_word) := ⟨rfl, rfl, rfl, by decide +kernel, rfl, by decide +kernel, by decide +kernel⟩
abbrev s_check_word : Stmt := top 25
theorem sc_check_word : FnScope ["text"] ["text"] (defScope s_check_word) := ⟨rfl, rfl, rfl, by decide +kernel, rfl, by decide +kernel, by decide +kernel⟩
abbrev s_Book_init : Stmt := inClass (top 26) 0
theorem sc_Book_init : FnScope ["self", "words", "word"] ["self", "words"] (defScope s_Book_init) := ⟨rfl, rfl, rfl, by decide +kernel, rfl, by decide +kernel, by decide +kernel⟩
abbrev s_Book_words : Stmt := inClass (top 26) 1
theorem sc_Book_words : FnScope ["self"] ["self"] (defScope s_Book_words) := ⟨rfl, rfl, rfl, by decide +kernel, rfl, by decide +kernel, by decide +kernel⟩
abbrev s_Book_has : Stmt := inClass (top 26) 2
theorem sc_Book_has : FnScope ["self", "text"] ["self", "text"] (defScope s_Book_has) := ⟨rfl, rfl, rfl, by decide +kernel, rfl, by decide +kernel, by decide +kernel⟩
abbrev s_Book_put_in : Stmt := inClass (top 26) 3
theorem sc_Book_put_in : FnScope ["self", "word"] ["self", "word"] (defScope s_Book_put_in) := ⟨rfl, rfl, rfl, by decide +kernel, rfl, by decide +kernel, by decide +kernel⟩
abbrev s_Book_take_out : Stmt := inClass (top 26) 4
theorem sc_Book_take_out : FnScope ["self", "word"] ["self", "word"] (defScope s_Book_take_out) := ⟨rfl, rfl, rfl, by decide +kernel, rfl, by decide +kernel, by decide +kernel⟩
abbrev s_Book_machine : Stmt := inClass (top 26) 5
theorem sc_Book_machine : FnScope ["self"] ["self"] (defScope s_Book_machine) := ⟨rfl, rfl, rfl, by decide +kernel, rfl, by decide +kernel, by decide +kernel⟩
abbrev s_Book_twin : Stmt := inClass (top 26) 6
theorem sc_Book_twin : FnScope ["self"] ["self"] (defScope s_Book_twin) := ⟨rfl, rfl, rfl, by decide +kernel, rfl, by decide +kernel, by decide +kernel⟩
abbrev s_cell_at : Stmt := top 28
theorem sc_cell_at : FnScope ["_law_script", "_law_k"] ["_law_script", "_law_k"] (defScope s_cell_at) := ⟨rfl, rfl, rfl, by decide +kernel, rfl, by decide +kernel, by decide +kernel⟩
abbrev s_next : Stmt := top 29
theorem sc_next : FnScope ["_law_x"] ["_law_x"] (defScope s_next) := ⟨rfl, rfl, rfl, by decide +kernel, rfl, by decide +kernel, by decide +kernel⟩
abbrev s_other : Stmt := top 30
theorem sc_other : FnScope ["_law_x"] ["_law_x"] (defScope s_other) := ⟨rfl, rfl, rfl, by decide +kernel, rfl, by decide +kernel, by decide +kernel⟩
abbrev s_number : Stmt := top 31
theorem sc_number : FnScope ["_law_script", "_law_k", "_law_cell"] ["_law_script", "_law_k"] (defScope s_number) := ⟨rfl, rfl, rfl, by decide +kernel, rfl, by decide +kernel, by decide +kernel⟩
abbrev s_digits : Stmt := top 32
theorem sc_digits : FnScope ["_law_script", "_law_k", "_law_base", "_law_many", "_law_left", "_law_found", "_law_x", "_law_j"] ["_law_script", "_law_k", "_law_base", "_law_many"] (defScope s_digits) := ⟨rfl, rfl, rfl, by decide +kernel, rfl, by decide +kernel, by decide +kernel⟩
abbrev s_letters : Stmt := top 33
theorem sc_letters : FnScope ["_law_script", "_law_k", "_law_letters_here", "_law_row", "_law_found", "_law_digit"] ["_law_script", "_law_k"] (defScope s_letters) := ⟨rfl, rfl, rfl, by decide +kernel, rfl, by decide +kernel, by decide +kernel⟩
abbrev s_words : Stmt := top 34
theorem sc_words : FnScope ["_law_letters_here", "_law_script", "_law_start", "_law_many", "_law_found", "_law_k", "_law_row", "_law_size_here"] ["_law_letters_here", "_law_script", "_law_start", "_law_many"] (defScope s_words) := ⟨rfl, rfl, rfl, by decide +kernel, rfl, by decide +kernel, by decide +kernel⟩
abbrev s_size : Stmt := top 35
theorem sc_size : FnScope ["_law_x"] ["_law_x"] (defScope s_size) := ⟨rfl, rfl, rfl, by decide +kernel, rfl, by decide +kernel, by decide +kernel⟩
abbrev s_board : Stmt := top 36
theorem sc_board : FnScope ["_law_letters_here", "_law_script", "_law_start", "_law_x", "_law_high", "_law_wide", "_law_rows", "_law_marks", "_law_k", "_law_row", "_law_digit", "_law_sign"] ["_law_letters_here", "_law_script", "_law_start", "_law_x"] (defScope s_board) := ⟨rfl, rfl, rfl, by decide +kernel, rfl, by decide +kernel, by decide +kernel⟩
abbrev s_at : Stmt := top 37
theorem sc_at : FnScope ["_law_rows", "_law_row", "_law_column"] ["_law_rows", "_law_row", "_law_column"] (defScope s_at) := ⟨rfl, rfl, rfl, by decide +kernel, rfl, by decide +kernel, by decide +kernel⟩
abbrev s_cross : Stmt := top 38
theorem sc_cross : FnScope ["_law_rows", "_law_row", "_law_column", "_law_way", "_law_letter", "_law_found", "_law_k"] ["_law_rows", "_law_row", "_law_column", "_law_way", "_law_letter"] (defScope s_cross) := ⟨rfl, rfl, rfl, by decide +kernel, rfl, by decide +kernel, by decide +kernel⟩
abbrev s_law : Stmt := top 39
theorem sc_law : FnScope ["_law_script", "_law_letters_here", "_law_some", "_law_x", "_law_words_here", "_law_board_here", "_law_book", "_law_row", "_law_column", "_law_way", "_law_due", "_law_letter", "_law_cross_here", "_law_found"] ["_law_script"] (defScope s_law) := ⟨rfl, rfl, rfl, by decide +kernel, rfl, by decide +kernel, by decide +kernel⟩
-- DEFS _wall|_wall|k is_whole|is_whole|thing is_sign|is_sign|thing is_block|is_block|thing are_rows|are_rows|thing are_marks|are_marks|thing is_cell_of|is_cell_of|rows,row,column is_begin_of|is_begin_of|rows,thing is_board|is_board|rows,marks,begin column_text|column_text|rows,column Board_init|Board.__init__|self,rows,marks,begin Board_at|Board.at|self,row,column Board_is_free|Board.is_free|self Board_run|Board.run|self,row,column,way Board_turned|Board.turned|self Board_laid|Board.laid|self,laying cross_letters|cross_letters|board,book,row,column,way is_word|is_word|text check_word|check_word|text Book_init|Book.__init__|self,words Book_words|Book.words|self Book_has|Book.has|self,text Book_put_in|Book.put_in|self,word Book_take_out|Book.take_out|self,word Book_machine|Book.machine|self Book_twin|Book.twin|self cell_at|_law_cell_at|_law_script,_law_k next|_law_next|_law_x other|_law_other|_law_x number|_law_number|_law_script,_law_k digits|_law_digits|_law_script,_law_k,_law_base,_law_many letters|_law_letters|_law_script,_law_k words|_law_words|_law_letters_here,_law_script,_law_start,_law_many size|_law_size|_law_x board|_law_board|_law_letters_here,_law_script,_law_start,_law_x at|_law_at|_law_rows,_law_row,_law_column cross|_law_cross|_law_rows,_law_row,_law_column,_law_way,_law_letter law|law|_law_script

section
variable {P : Program} {w : World} {K : PySem.W.Frag} {mg : Str → Option Value} {base : Heap}
/-! ### signs -/
def azB (c : Nat) : Bool := decide (97 ≤ c) && decide (c ≤ 122)
def upB (c : Nat) : Bool := decide (65 ≤ c) && decide (c ≤ 90)
def sgB (l : List Nat) : Bool := match l with | [c] => azB c || upB c | _ => false
theorem lt1 (a b : Nat) : ([a] < [b]) ↔ a < b := by simp [List.cons_lt_cons_iff]
theorem dlt1 (a b : Nat) : (!decide ([a] < [b])) = decide (b ≤ a) := by
  by_cases h : a < b
  · rw [decide_eq_true ((lt1 a b).mpr h), decide_eq_false (by omega)]; rfl
  · rw [decide_eq_false (fun z => h ((lt1 a b).mp z)), decide_eq_true (by omega)]; rfl
def NoStr (K : PySem.W.Frag) (H : Hp) (x : V) : Prop := ∃ t, TyOf K H x t ∧ PySem.W.kitOne K t (.type "str") = some false
def spSign (K : PySem.W.Frag) : Sp := fun vs H Q _ => (∃ x, vs = [x] ∧ NoStr K H x ∧ Q (.bl false) H) ∨ (∃ l, vs = [.str (S l)] ∧ l.length ≤ 1000 ∧ Q (.bl (sgB l)) H)
theorem ok_is_sign (D : DefAt K mg "is_sign" s_is_sign ["thing"]) (hlen : mg "len" = none) (hstr : mg "str" = none) (hisi : mg "isinstance" = none) : Def P w K mg base "is_sign" 1 ["thing"] (spSign K) := by
  refine D.qok sc_is_sign (fun vs H Q E h => ?_) (fun f cdv A outer s H vs Q E hr h => ?_)
  · rcases h with ⟨x, rfl, _⟩ | ⟨x, rfl, _⟩ <;> rfl
  · refine ⟨_, qss_cons (qs_if (QW.qt (qw_or (qt_not (qt_val (qe_callB call_isinst (by rfl) hisi PyProof.Rows.boot_isinstance (qa_cons (qv 0) (qa_cons (qe_bltn (v := .ty "str") (by rfl) hstr PyProof.Rows.boot_str rfl) qa_nil)))))
          (qw_or1 (qt_cmpR op_ne (qe_callB call_lenS (by rfl) hlen PySem.boot_len (qa_cons (qv 0) qa_nil)) qe_int (nomark _))))) (qss_one (qs_ret qe_bl)) qss_nil)
      (qss_one (qs_ret (qe_or (qe_chain op_leS op_leS (qe_strS [97] (by decide +kernel)) (qv 0) (qe_strS [122] (by decide +kernel)))
        (qe_one (qe_chain op_leS op_leS (qe_strS [65] (by decide +kernel)) (qv 0) (qe_strS [90] (by decide +kernel))))))), ?_⟩
    rcases h with ⟨x, rfl, ⟨t, ty, hk⟩, q⟩ | ⟨l, rfl, hl, q⟩
    · exact ⟨_, rfl, _, _, _, false, rfl, ty, hk, _, rfl, iteT (iteT q)⟩
    · have hz : l.length ≤ sizeLine := Nat.le_of_lt (small1000 (by omega))
      refine ⟨_, rfl, _, _, _, true, rfl, .str _, (by kernel_rfl), _, rfl, iteF ⟨_, rfl, l, rfl, hz, rfl, _, rfl, ?_⟩⟩
      by_cases h1 : l.length = 1
      · obtain ⟨c, rfl⟩ := List.length_eq_one_iff.mp h1
        refine iteNS rfl ?_
        refine ⟨_, rfl, [97], [c], rfl, rfl, decide (97 ≤ c), by rw [dlt1], ?_⟩
        have q' : Q (.bl (azB c || upB c)) H := q
        have tail : (upB c = (azB c || upB c)) → tChain rLeS rLeS (tC (.str (S [65]))) (tVar 0) (tC (.str (S [90]))) [some (.str (S [c]))] H Q := fun e => by
          refine ⟨_, rfl, [65], [c], rfl, rfl, decide (65 ≤ c), by rw [dlt1], ?_⟩
          rw [← e] at q'
          by_cases h2 : 65 ≤ c
          · rw [decide_eq_true h2]
            refine iteT ⟨[c], [90], rfl, rfl, ?_⟩
            rw [dlt1]
            simpa [upB, h2] using q'
          · rw [decide_eq_false h2]
            refine iteF ?_
            simpa [upB, h2] using q'
        by_cases h2 : 97 ≤ c
        · rw [decide_eq_true h2]
          refine iteT ⟨[c], [122], rfl, rfl, _, rfl, ?_⟩
          rw [dlt1]
          by_cases h3 : c ≤ 122
          · rw [decide_eq_true h3]
            refine iteT ?_
            simpa [azB, h2, h3] using q'
          · rw [decide_eq_false h3]
            exact iteF (tail (by simp [azB, h2, h3]))
        · rw [decide_eq_false h2]
          exact iteF ⟨_, rfl, iteF (tail (by simp [azB, h2]))⟩
      · have e : (!decide (V.int (l.length : Int) = V.int 1)) = true := by
          rw [decide_eq_false]; rfl
          intro z; injection z with z; omega
        rw [e]
        have e2 : sgB l = false := by
          match l, h1 with
          | [], _ => rfl
          | [c], h => exact absurd rfl h
          | _ :: _ :: _, _ => rfl
        rw [e2] at q
        exact iteT q
/-! ### the draws -/
theorem two_at (a b : V) (c : Int) : ∃ v, atI [a, b] (c % 2) = some v ∧ (v = a ∨ v = b) := by
  rcases Int.emod_two_eq c with h | h
  · exact ⟨a, by rw [h]; exact atI_nat (j := 0) rfl, .inl rfl⟩
  · exact ⟨b, by rw [h]; exact atI_nat (j := 1) rfl, .inr rfl⟩
def spCell (K : PySem.W.Frag) : Sp := fun vs H Q _ => ∃ (a : Addr) (ns : List Int) (k : Nat), vs = [.ref a, .int k] ∧ SqL K H a (ns.map V.int) ∧ ∀ v : Int, Q (.int v) H
def spMix : Sp := fun vs H Q _ => ∃ x : Int, vs = [.int x] ∧ 0 ≤ x ∧ x < 1099511627776 ∧ ∀ y : Int, 0 ≤ y → y < 2147483647 → Q (.int y) H
def spNum (K : PySem.W.Frag) : Sp := fun vs H Q _ => ∃ (a : Addr) (ns : List Int) (k : Nat), vs = [.ref a, .int k] ∧ SqL K H a (ns.map V.int) ∧ k ≤ 1000 ∧ ∀ v : Int, Q (.int v) H
def spDig (K : PySem.W.Frag) : Sp := fun vs H Q _ => ∃ (a : Addr) (ns : List Int) (k : Nat) (b : Int) (m : Nat), vs = [.ref a, .int k, .int b, .int m] ∧ SqL K H a (ns.map V.int) ∧ k ≤ 1000 ∧ 0 < b ∧ b < 1000000 ∧ m ≤ 100 ∧
  ∀ (p : Addr) (ds : List Int) (H' : Hp), Same H H' → H p = none → H' p = some (.lst (ds.map V.int)) → ds.length = m → (∀ d ∈ ds, 0 ≤ d ∧ d < b) → Q (.ref p) H'
def isLet (c : Nat) : Prop := 97 ≤ c ∧ c ≤ 122
structure Alph (ls : List Nat) : Prop where
  lo : 2 ≤ ls.length
  hi : ls.length ≤ 26
  az : ∀ c ∈ ls, isLet c
def spLet (K : PySem.W.Frag) : Sp := fun vs H Q _ => ∃ (a : Addr) (ns : List Int) (k : Nat), vs = [.ref a, .int k] ∧ SqL K H a (ns.map V.int) ∧ k ≤ 1000 ∧
  ∀ (ls : List Nat) (H' : Hp), Same H H' → Alph ls → Q (.str (S ls)) H'
structure Word (w : List Nat) : Prop where
  lo : 2 ≤ w.length
  hi : w.length ≤ 9
  az : ∀ c ∈ w, isLet c
structure Row (ds : List Int) : Prop where
  lo : 10 ≤ ds.length
  hi : ds.length ≤ 100
  nn : ∀ d ∈ ds, 0 ≤ d ∧ d < 1000000
def spWordOf (K : PySem.W.Frag) : Sp := fun vs H Q _ => ∃ (p : Addr) (ds : List Int) (ls : List Nat), vs = [.ref p, .str (S ls)] ∧ SqL K H p (ds.map V.int) ∧ Row ds ∧ Alph ls ∧
  ∀ (w : List Nat) (H' : Hp), Same H H' → Word w → Q (.str (S w)) H'
def spWord (K : PySem.W.Frag) : Sp := fun vs H Q _ => ∃ (a : Addr) (ns : List Int) (k : Nat) (ls : List Nat), vs = [.str (S ls), .ref a, .int k] ∧ SqL K H a (ns.map V.int) ∧ k ≤ 1000 ∧ Alph ls ∧
  ∀ (w : List Nat) (H' : Hp), Same H H' → Word w → Q (.str (S w)) H'

theorem ok_cell_at (D : DefAt K mg "_law_cell_at" s_cell_at ["_law_script", "_law_k"]) (hlen : mg "len" = none) : Def P w K mg base "_law_cell_at" 1 ["_law_script", "_law_k"] (spCell K) := by
  refine D.qok sc_cell_at (fun vs H Q E h => ?_) (fun f cdv A outer s H vs Q E hr h => ?_)
  · obtain ⟨a, ns, k, rfl, _⟩ := h
    rfl
  · obtain ⟨a, ns, k, rfl, hS, q⟩ := h
    refine ⟨_, qss_cons (qs_if (qt_cmpR op_lt (qv 1) (qe_callB call_len_seq (by rfl) hlen PySem.boot_len (qa_cons (qv 0) qa_nil)) (nomark _)) (qss_one (qs_ret (qe_ix ix_list (qv 0) (qv 1) (fun _ _ => rfl)))) qss_nil) (qss_one (qs_ret qe_int)), ?_⟩
    refine ⟨_, rfl, _, rfl, a, _, rfl, .inl hS, _, _, rfl, rfl, _, rfl, ?_⟩
    refine ite2 (fun hc => ?_) (fun _ => ?_)
    · have hk : k < ns.length := by
        have := of_decide_eq_true hc
        rw [List.length_map] at this
        omega
      exact ⟨_, rfl, _, rfl, a, _, _, .int ns[k], rfl, rfl, hS, atI_nat (by simp [hk]), q _⟩
    · exact q _
theorem ok_next (D : DefAt K mg "_law_next" s_next ["_law_x"]) : Def P w K mg base "_law_next" 1 ["_law_x"] spMix := by
  refine D.qok sc_next (fun vs H Q E h => ?_) (fun f cdv A outer s H vs Q E hr h => ?_)
  · obtain ⟨x, rfl, _⟩ := h
    rfl
  · obtain ⟨x, rfl, h0, h1, q⟩ := h
    refine ⟨_, qss_one (qs_ret (qe_op op_mod (qe_op op_add (qe_op op_add (qe_op op_mul (qv 0) (qv 0)) (qe_op op_mul qe_int (qv 0))) qe_int) qe_int)), ?_⟩
    refine ⟨_, rfl, _, rfl, _, _, rfl, rfl, .inl ⟨by omega, by omega⟩, _, rfl, _, _, rfl, rfl, .inl ⟨by decide, by decide⟩, _, _, rfl, rfl, _, _, rfl, rfl, _, _, rfl, rfl, (by show (0 : Int) < 2147483647; decide), ?_⟩
    exact q _ (Int.emod_nonneg _ (by decide)) (Int.emod_lt_of_pos _ (by decide))
theorem ok_other (D : DefAt K mg "_law_other" s_other ["_law_x"]) : Def P w K mg base "_law_other" 1 ["_law_x"] spMix := by
  refine D.qok sc_other (fun vs H Q E h => ?_) (fun f cdv A outer s H vs Q E hr h => ?_)
  · obtain ⟨x, rfl, _⟩ := h
    rfl
  · obtain ⟨x, rfl, h0, h1, q⟩ := h
    refine ⟨_, qss_one (qs_ret (qe_op op_mod (qe_op op_add (qe_op op_add (qe_op op_mul (qv 0) (qv 0)) (qe_op op_mul qe_int (qv 0))) qe_int) qe_int)), ?_⟩
    refine ⟨_, rfl, _, rfl, _, _, rfl, rfl, .inl ⟨by omega, by omega⟩, _, rfl, _, _, rfl, rfl, .inl ⟨by decide, by decide⟩, _, _, rfl, rfl, _, _, rfl, rfl, _, _, rfl, rfl, (by show (0 : Int) < 2147483629; decide), ?_⟩
    exact q _ (Int.emod_nonneg _ (by decide)) (Int.lt_trans (Int.emod_lt_of_pos _ (by decide)) (by decide))
theorem ok_number (D : DefAt K mg "_law_number" s_number ["_law_script", "_law_k"]) (D1 : Def P w K mg base "_law_cell_at" 1 ["_law_script", "_law_k"] (spCell K)) (D2 : Def P w K mg base "_law_next" 1 ["_law_x"] spMix) (D3 : Def P w K mg base "_law_other" 1 ["_law_x"] spMix) :
    Def P w K mg base "_law_number" 2 ["_law_script", "_law_k"] (spNum K) := by
  refine D.qok sc_number (fun vs H Q E h => ?_) (fun f cdv A outer s H vs Q E hr h => ?_)
  · obtain ⟨a, ns, k, rfl, _⟩ := h
    rfl
  · obtain ⟨a, ns, k, rfl, hS, hk, q⟩ := h
    refine ⟨_, qss_cons (qs_set (i := 2) sc_number.nd rfl (Or.inl rfl) (qe_own D1 hr rfl (qa_cons (qv 0) (qa_cons (qv 1) qa_nil))))
      (qss_cons (qs_if (qt_cmpR op_eq (qe_op op_mod (qv 2) qe_int) qe_int (nomark _)) (qss_one (qs_ret (qe_op op_fdiv (qv 2) qe_int))) qss_nil)
      (qss_one (qs_ret (qe_own D3 hr rfl (qa_cons (qe_own D2 hr rfl (qa_cons (qe_op op_mod (qe_op op_add (qv 2) (qe_op op_mul (qe_op op_mul qe_int (qv 1)) (qv 1))) qe_int) qa_nil)) qa_nil))))), ?_⟩
    refine ⟨_, rfl, _, rfl, a, ns, k, rfl, hS, fun v => ?_⟩
    refine ⟨_, rfl, _, _, rfl, rfl, (by show (0 : Int) < 2; decide), rfl, _, rfl, ?_⟩
    refine ite2 (fun _ => ?_) (fun _ => ?_)
    · exact ⟨_, rfl, _, _, rfl, rfl, ⟨by decide, by decide⟩, q _⟩
    · refine ⟨_, rfl, _, rfl, _, _, rfl, rfl, .inl ⟨by decide, by decide⟩, _, rfl, _, _, rfl, rfl, .inr ⟨by omega, by omega⟩, _, _, rfl, rfl, _, _, rfl, rfl, (by show (0 : Int) < 2147483647; decide), ?_⟩
      refine ⟨_, rfl, Int.emod_nonneg _ (by decide), Int.lt_trans (Int.emod_lt_of_pos _ (by decide)) (by decide), fun y h1 h2 => ?_⟩
      exact ⟨y, rfl, h1, by omega, fun z _ _ => q z⟩
theorem ok_digits (D : DefAt K mg "_law_digits" s_digits ["_law_script", "_law_k", "_law_base", "_law_many"]) (hrange : mg "range" = none) (D1 : Def P w K mg base "_law_cell_at" 1 ["_law_script", "_law_k"] (spCell K)) (D2 : Def P w K mg base "_law_next" 1 ["_law_x"] spMix)
    (D3 : Def P w K mg base "_law_other" 1 ["_law_x"] spMix) (D4 : Def P w K mg base "_law_number" 2 ["_law_script", "_law_k"] (spNum K)) : Def P w K mg base "_law_digits" 3 ["_law_script", "_law_k", "_law_base", "_law_many"] (spDig K) := by
  refine D.qok sc_digits (fun vs H Q E h => ?_) (fun f cdv A outer s H vs Q E hr h => ?_)
  · obtain ⟨a, ns, k, b, m, rfl, _⟩ := h
    rfl
  · obtain ⟨a, ns, k, b, m, rfl, hS, hk, hb0, hb1, hm, q⟩ := h
    have hr1 : Room 1 _ := hr.mono (by decide)
    have nd := sc_digits.nd
    refine ⟨_, qss_cons (qs_set (i := 4) nd rfl (Or.inl rfl) (qe_own D4 hr rfl (qa_cons (qv 0) (qa_cons (qv 1) qa_nil))))
      (qss_cons (qs_set (i := 5) nd rfl (Or.inl rfl) (qe_lst qa_nil))
      (qss_cons (qs_set (i := 6) nd rfl (Or.inl rfl) (qe_op op_mod (qv 4) qe_int))
      (qss_cons (qs_for PassesOwn.never rfl (qi_range1 rfl hrange (qa_cons (qv 3) qa_nil)) (qg_name (i := 7) nd rfl (Or.inl rfl))
        (qss_cons (qs_set (i := 6) nd rfl (Or.inl rfl) (qe_own D3 hr1 rfl (qa_cons (qe_own D2 hr1 rfl (qa_cons (qe_op op_add (qv 6) (qv 7)) qa_nil)) qa_nil)))
        (qss_cons (qs_expr (qe_bm PySem.F.plainAttrs_list PySem.F.slot_list_append PySem.F.type_list_append mt_append (qv 5)
          (qa_cons (qe_op op_mod (qe_ix ix_list (qe_lst (qa_cons (qv 4) (qa_cons (qv 6) qa_nil))) (qe_op op_mod (qe_own D1 hr1 rfl (qa_cons (qv 0) (qa_cons (qv 1) qa_nil))) qe_int) (fun _ _ => rfl)) (qv 2)) qa_nil)))
        (qss_one (qs_set (i := 4) nd rfl (Or.inl rfl) (qe_op op_fdiv (qv 4) (qv 2)))))))
      (qss_one (qs_ret (qv 5)))))), ?_⟩
    refine ⟨_, rfl, _, rfl, a, ns, k, rfl, hS, hk, fun v => ?_⟩
    refine ⟨by show 0 ≤ sizeLine; decide, fun p hp => ?_⟩
    refine ⟨_, rfl, _, _, rfl, rfl, (by show (0 : Int) < 2147483647; decide), ?_⟩
    refine ⟨_, rfl, _, rfl, by omega, by omega, for_range (n := m) (lo := 0) (fun i σ H2 => ∃ (lf x : Int) (jv : Option V) (ds : List Int), σ = [some (.ref a), some (.int k), some (.int b), some (.int m), some (.int lf), some (.ref p), some (.int x), jv] ∧ Same H H2 ∧
      H2 p = some (.lst (ds.map V.int)) ∧ ds.length = i ∧ (∀ d ∈ ds, 0 ≤ d ∧ d < b) ∧ 0 ≤ x ∧ x < 2147483647)
      ⟨v, _, none, [], rfl, Same.upd hp, upd_same, rfl, fun d hd => by simp at hd, Int.emod_nonneg _ (by decide), Int.emod_lt_of_pos _ (by decide)⟩ ?_ ?_⟩
    · rintro i σ H2 hi ⟨lf, x, jv, ds, rfl, sm, hp2, hl, hd, hx0, hx1⟩
      refine ⟨_, rfl, _, rfl, _, _, rfl, rfl, ?_⟩
      refine ⟨_, rfl, by omega, by omega, fun y h1 h2 => ?_⟩
      refine ⟨y, rfl, h1, by omega, fun z h3 h4 => ?_⟩
      refine ⟨_, rfl, .inl ⟨rfl, _, SqL.of hp2⟩, ?_⟩
      refine ⟨_, rfl, _, rfl, by show 2 ≤ sizeLine; decide, fun t ht => ?_⟩
      have s3 : ∀ o, Same H (upd H2 t o) := fun o => sm.upd' (sm.free ht)
      refine ⟨_, rfl, _, rfl, a, ns, k, rfl, (s3 _).seq hS, fun cv => ?_⟩
      obtain ⟨u, hu, hu2⟩ := two_at (.int lf) (.int z) cv
      obtain ⟨c, rfl⟩ : ∃ c, u = .int c := by rcases hu2 with e | e <;> exact ⟨_, e⟩
      refine ⟨_, _, rfl, rfl, (by show (0 : Int) < 2; decide), t, _, _, _, rfl, rfl, SqL.of upd_same, hu, _, rfl, _, _, rfl, rfl, hb0, ?_⟩
      have npt : p ≠ t := ne_of_none hp2 ht
      refine ⟨p, _, _, rfl, rfl, (by rw [upd_ne npt]; exact hp2), (by rw [List.length_map, hl]; exact small1000 (by omega)), ?_⟩
      refine ⟨_, rfl, _, rfl, _, _, rfl, rfl, ⟨hb0, by omega⟩, ?_⟩
      refine ⟨lf / b, z, _, ds ++ [c % b], rfl, (s3 _).upd' hp, ?_, by simp [hl], ?_, h3, h4⟩
      · rw [upd_same]; simp
      · intro d hd'
        rcases List.mem_append.mp hd' with e | e
        · exact hd d e
        · rw [List.mem_singleton.mp e]
          exact ⟨Int.emod_nonneg _ (by omega), Int.emod_lt_of_pos _ hb0⟩
    · rintro σ H2 ⟨lf, x, jv, ds, rfl, sm, hp2, hl, hd, hx0, hx1⟩
      exact ⟨_, rfl, q p ds H2 sm hp hp2 hl hd⟩
theorem AL_at (d : Int) : atI AL (d % 26) = some (97 + (d % 26).toNat) := by
  have h0 : 0 ≤ d % 26 := Int.emod_nonneg _ (by decide)
  have h1 : d % 26 < 26 := Int.emod_lt_of_pos _ (by decide)
  have e : d % 26 = (((d % 26).toNat : Nat) : Int) := by omega
  rw [e]
  refine atI_nat ?_
  have hl : ((d % 26).toNat : Int).toNat < 26 := by omega
  simp only [AL, List.getElem?_map, Int.toNat_natCast]
  rw [List.getElem?_range (by omega)]
  rfl
theorem some_out : ∀ (F : List Nat) (L : List Nat), L.Nodup → F.length < L.length → ∃ x ∈ L, x ∉ F
  | [], L, _, h => by
    cases L with
    | nil => simp at h
    | cons x r => exact ⟨x, List.mem_cons_self, by simp⟩
  | c :: F, L, nd, h => by
    have hl : F.length < (L.erase c).length := by
      rw [List.length_erase]
      simp only [List.length_cons] at h
      split <;> omega
    obtain ⟨x, h1, h2⟩ := some_out F (L.erase c) (nd.erase c) hl
    obtain ⟨h3, h4⟩ := nd.mem_erase_iff.mp h1
    exact ⟨x, h4, fun z => by rcases List.mem_cons.mp z with e | e; exact h3 e; exact h2 e⟩
theorem out_soon (F : List Nat) (h : F.length < 26) (d : Int) : ∃ j : Nat, (97 + ((d + j) % 26).toNat) ∉ F := by
  obtain ⟨x, h1, h2⟩ := some_out F ((List.range 26).map (97 + ·)) (by decide) (by simpa using h)
  obtain ⟨c, hc, rfl⟩ := List.mem_map.mp h1
  have hc' : c < 26 := List.mem_range.mp hc
  refine ⟨((c - d) % 26).toNat, ?_⟩
  have e : ((d + (((c - d) % 26).toNat : Nat)) % 26).toNat = c := by omega
  rw [e]
  exact h2
theorem cut_len {ds : List Int} {a b : Nat} (h1 : a ≤ b) (h2 : b ≤ ds.length) : (cutV (ds.map V.int) (some (a : Int)) (some (b : Int))).length = b - a := by
  unfold cutV
  rw [HT.sIx_nat, HT.sIx_nat, List.length_take, List.length_drop, List.length_map]
  omega
theorem flat1 (l : List Nat) : (l.map fun c => [c]).flatten = l := by
  induction l with
  | nil => rfl
  | cons c r ih => rw [List.map_cons, List.flatten_cons, ih]; rfl
theorem AL_az : ∀ c ∈ AL, isLet c := fun c hc => by
  obtain ⟨k, hk, rfl⟩ := List.mem_map.mp hc
  have := List.mem_range.mp hk
  exact ⟨by omega, by omega⟩
def sgC (c : Nat) : Prop := sgB [c] = true
theorem sgC.lt {c : Nat} (h : sgC c) : c < 128 := by
  unfold sgC sgB azB upB at h
  simp at h
  omega
theorem sgC_az {c : Nat} (h : isLet c) : sgC c := by simp [sgC, sgB, azB, h.1, h.2]
theorem sgC_up {c : Nat} (h : isLet c) : sgC (c - 32) := by
  have h1 := h.1
  have h2 := h.2
  simp [sgC, sgB, azB, upB]
  omega
theorem cutV_nn {xs : List V} {a b : Nat} (h1 : a ≤ b) (h2 : b ≤ xs.length) : cutV xs (some (a : Int)) (some (b : Int)) = (xs.drop a).take (b - a) := by
  unfold cutV
  rw [HT.sIx_nat, HT.sIx_nat, Nat.min_eq_left h2, Nat.min_eq_left (show a ≤ xs.length by omega)]
abbrev ones (cs : List Nat) : List (List Nat) := cs.map fun c => [c]
structure Blk (r w : Nat) (ls : List (List Nat)) : Prop where
  len : ls.length = r
  wid : ∀ l ∈ ls, l.length = w
def MK : List Nat := [46, 50, 51, 52, 98, 99, 100]
def roC (c : Nat) : Prop := c = 46 ∨ sgC c
def mkC (c : Nat) : Prop := c ∈ MK
structure Brd (r w : Nat) (rows marks : List (List Nat)) (i j : Nat) : Prop where
  r1 : 1 ≤ r
  r9 : r ≤ 9
  w1 : 1 ≤ w
  w9 : w ≤ 9
  br : Blk r w rows
  bm : Blk r w marks
  cr : ∀ l ∈ rows, ∀ c ∈ l, roC c
  cm : ∀ l ∈ marks, ∀ c ∈ l, mkC c
  bi : i < r
  bj : j < w
theorem Ts_snoc (ls : List (List Nat)) (l : List Nat) : Ts ls ++ [V.str (S l)] = Ts (ls ++ [l]) := by simp [Ts]
theorem ones_snoc (cs : List Nat) (c : Nat) : ones cs ++ [[c]] = ones (cs ++ [c]) := by simp [ones]
/-! ### letters in a list, sizes -/
theorem inV_one (c : Nat) (fs : List Nat) : inV (.str (S [c])) (Ts (ones fs)) = decide (c ∈ fs) := by
  unfold inV
  induction fs with
  | nil => rfl
  | cons a r ih =>
    show (eqV (.str (S [a])) (.str (S [c])) || (Ts (ones r)).any fun y => eqV y (.str (S [c]))) = _
    rw [ih]
    by_cases h : a = c
    · subst h
      have : eqV (.str (S [a])) (.str (S [a])) = true := by simp [eqV]
      rw [this]; simp
    · have h' : ¬ c = a := fun z => h z.symm
      have hne : ¬ S [a] = S [c] := fun z => h (by have := S_inj z; injection this)
      have : eqV (.str (S [a])) (.str (S [c])) = false := by simp [eqV, hne]
      rw [this]; simp [h']
theorem flat_ones (fs : List Nat) : (Ts (ones fs)).all flatV = true := by
  rw [List.all_eq_true]
  intro v hv
  obtain ⟨l, _, rfl⟩ := List.mem_map.mp hv
  rfl
def spLetL (K : PySem.W.Frag) : Sp := fun vs H Q _ => ∃ (a : Addr) (ns : List Int) (k : Nat), vs = [.ref a, .int k] ∧ SqL K H a (ns.map V.int) ∧ k ≤ 1000 ∧
  ∀ (p : Addr) (ls : List Nat) (H' : Hp), Same H H' → H' p = some (.lst (Ts (ones ls))) → Alph ls → Q (.ref p) H'
theorem ok_letters (D : DefAt K mg "_law_letters" s_letters ["_law_script", "_law_k"]) (n_list : mg "list" = none)
    (D_digits : Def P w K mg base "_law_digits" 3 ["_law_script", "_law_k", "_law_base", "_law_many"] (spDig K)) : Def P w K mg base "_law_letters" 4 ["_law_script", "_law_k"] (spLetL K) := by
  refine D.qok sc_letters (fun vs H Q E h => ?_) (fun f cdv A outer s H vs Q E hr h => ?_)
  · obtain ⟨a, ns, k, rfl, _⟩ := h
    rfl
  · obtain ⟨a, ns, k, rfl, hS, hk, q⟩ := h
    refine ⟨_, (qss_cons (qs_set (i := 2) sc_letters.nd rfl (Or.inl rfl) (qe_strS AL (by decide +kernel))) (qss_cons (qs_set (i := 3) sc_letters.nd rfl (Or.inl rfl) (qe_own D_digits (hr.mono (by decide)) rfl (qa_cons (qv 0) (qa_cons (qv 1) (qa_cons qe_int (qa_cons qe_int qa_nil)))))) (qss_cons (qs_if (qt_cmpR op_eq (qe_op op_mod (qe_ix ix_list (qv 3) qe_int (fun _ _ => rfl)) qe_int) qe_int (nomark _)) (qss_one (qs_ret (qe_callTy (call_listS rfl) (by rfl) n_list PyProof.Rows.boot_list (qa_cons (qv 2) qa_nil)))) qss_nil) (qss_cons (qs_set (i := 4) sc_letters.nd rfl (Or.inl rfl) (qe_lst qa_nil)) (qss_cons (qs_for PassesOwn.never rfl (qi_list (qe_slice sl_list (qv 3) (qo_some qe_int) (qo_some (qe_op op_add qe_int (qe_op op_mod (qe_op op_fdiv (qe_ix ix_list (qv 3) qe_int (fun _ _ => rfl)) qe_int) qe_int))))) (qg_name (i := 5) sc_letters.nd rfl (Or.inl rfl)) (qss_cons (qs_while PassesOwn.never (qt_cmpR op_in_seq (qe_ix ix_S (qv 2) (qe_op op_mod (qv 5) qe_int) (fun _ _ => rfl)) (qv 4) rfl) (qss_one (qs_set (i := 5) sc_letters.nd rfl (Or.inl rfl) (qe_op op_add (qv 5) qe_int)))) (qss_one (qs_expr (qe_bm PySem.F.plainAttrs_list PySem.F.slot_list_append PySem.F.type_list_append mt_append (qv 4) (qa_cons (qe_ix ix_S (qv 2) (qe_op op_mod (qv 5) qe_int) (fun _ _ => rfl)) qa_nil)))))) (qss_one (qs_ret (qv 4)))))))), ?_⟩
    have hAL : AL.length ≤ sizeLine := by decide
    refine ⟨_, rfl, _, rfl, a, ns, k, 208, 5, rfl, hS, hk, by decide, by decide, by decide, fun p ds H1 sm hp hp1 hl hd => ?_⟩
    have h0 := hd ds[0] (List.getElem_mem _)
    have at0 : atI (ds.map V.int) 0 = some (.int ds[0]) := atI_nat (j := 0) (by simp [hl])
    refine ⟨_, rfl, p, _, 0, _, rfl, rfl, SqL.of hp1, at0, _, _, rfl, rfl, (by show (0 : Int) < 8; decide), rfl, _, rfl, ?_⟩
    refine ite2 (fun _ => ?_) (fun _ => ?_)
    · exact ⟨_, rfl, AL, rfl, by decide, fun p2 hp2 => q p2 AL _ (sm.upd' (sm.free hp2)) upd_same ⟨by decide, by decide, AL_az⟩⟩
    · refine ⟨by show 0 ≤ sizeLine; decide, fun F hF => ?_⟩
      have hp2 : upd H1 F (.lst []) p = some (.lst (ds.map V.int)) := Same.upd hF _ _ hp1
      have sm1 : Same H (upd H1 F (.lst [])) := sm.upd' (sm.free hF)
      refine ⟨_, rfl, _, rfl, _, rfl, p, _, 0, _, rfl, rfl, SqL.of hp2, at0, _, _, rfl, rfl, ⟨by decide, by decide⟩, _, _, rfl, rfl, (by show (0 : Int) < 3; decide), _, _, rfl, rfl, _, rfl, p, _, rfl, SqL.of hp2, fun t ht => ?_⟩
      obtain ⟨r, hr1, hr2⟩ : ∃ r : Nat, (3 : Int) + ds[0] / 8 % 3 = ((3 + r : Nat) : Int) ∧ r < 3 := ⟨(ds[0] / 8 % 3).toNat, by omega, by omega⟩
      rw [hr1]
      have hxl : (cutV (ds.map V.int) (some (1 : Nat)) (some ((3 + r : Nat) : Int))).length = 2 + r := by rw [cut_len (by omega) (by omega)]; omega
      generalize hxs : cutV (ds.map V.int) (some 1) (some ((3 + r : Nat) : Int)) = xs
      have hxl' : xs.length = 2 + r := by rw [← hxs]; exact hxl
      have hxm : ∀ v ∈ xs, ∃ d : Int, v = .int d := fun v hv => by
        rw [← hxs] at hv
        obtain ⟨d, _, e⟩ := ints_mem hv
        exact ⟨d, e⟩
      have nFt : F ≠ t := fun z => by rw [← z, upd_same] at ht; cases ht
      refine ⟨t, rfl, ⟨_, SqL.of upd_same⟩, for_list (K := K) (a := t) (xs := xs) (fun i σ H2 => ∃ (dv : Option V) (fs : List Nat), σ = [some (.ref a), some (.int k), some (.str (S AL)), some (.ref p), some (.ref F), dv] ∧ Same H H2 ∧ H2 t = some (.lst xs) ∧ H2 F = some (.lst (Ts (ones fs))) ∧ fs.length = i ∧ ∀ c ∈ fs, isLet c)
        ⟨none, [], rfl, sm1.upd' (sm1.free ht), upd_same, by rw [upd_ne nFt, upd_same]; rfl, rfl, fun c hc => by simp at hc⟩ (fun i σ H2 _ ⟨_, _, _, _, h2, _⟩ => SqL.of h2) ?_ ?_⟩
      · rintro i y σ H2 hi ⟨dv, fs, rfl, sm2, h2, hF2, hfl, hfa⟩
        have hil : i < xs.length := (List.getElem?_eq_some_iff.mp hi).1
        obtain ⟨d, rfl⟩ := hxm y (List.mem_of_getElem? hi)
        obtain ⟨j0, hj0⟩ := out_soon fs (by omega) d
        refine ⟨fun m σ' H' => H' = H2 ∧ ∃ (e : Int), σ' = [some (.ref a), some (.int k), some (.str (S AL)), some (.ref p), some (.ref F), some (.int e)] ∧ ∃ j : Nat, j ≤ m ∧ (97 + ((e + j) % 26).toNat) ∉ fs, ⟨j0, rfl, d, rfl, j0, Nat.le_refl _, hj0⟩, ?_⟩
        rintro m σ' H' ⟨rfl, e, rfl, j, hjm, hj⟩
        refine ⟨_, rfl, _, rfl, _, _, rfl, rfl, (by show (0 : Int) < 26; decide), AL, _, _, rfl, rfl, hAL, AL_at e, _, rfl, F, _, rfl, .inl (SqL.of hF2), rfl, flat_ones fs, _, rfl, ?_⟩
        simp only [Bool.false_eq_true, if_false]
        rw [inV_one]
        refine ite2 (fun hc => ?_) (fun hc => ?_)
        · have hin : (97 + (e % 26).toNat) ∈ fs := of_decide_eq_true hc
          have hj1 : j ≠ 0 := fun z => by subst z; simp at hj; exact hj hin
          refine ⟨fun σ2 H3 => H3 = H' ∧ σ2 = [some (.ref a), some (.int k), some (.str (S AL)), some (.ref p), some (.ref F), some (.int (e + 1))], ?_, ?_⟩
          · rintro σ2 H3 ⟨rfl, rfl⟩
            refine ⟨m - 1, by omega, rfl, e + 1, rfl, j - 1, by omega, ?_⟩
            have : (e + 1 + ((j - 1 : Nat) : Int)) = e + (j : Int) := by omega
            rw [this]; exact hj
          · exact ⟨_, rfl, _, _, rfl, rfl, rfl, rfl⟩
        · have nFt2 : t ≠ F := nFt.symm
          refine ⟨_, rfl, .inl ⟨rfl, _, SqL.of hF2⟩, _, rfl, _, rfl, _, _, rfl, rfl, (by show (0 : Int) < 26; decide), AL, _, _, rfl, rfl, hAL, AL_at e, F, _, _, rfl, rfl, hF2, by rw [List.length_map, List.length_map]; exact small1000 (by omega), ?_⟩
          refine ⟨_, fs ++ [97 + (e % 26).toNat], rfl, sm2.upd' (sm.free hF), by rw [upd_ne nFt2]; exact h2, by rw [upd_same, Ts_snoc, ones_snoc], by simp [hfl], fun c hc' => ?_⟩
          rcases List.mem_append.mp hc' with z | z
          · exact hfa c z
          · rw [List.mem_singleton.mp z]
            have h1 : e % 26 < 26 := Int.emod_lt_of_pos _ (by decide)
            exact ⟨by omega, by omega⟩
      · rintro σ H2 ⟨dv, fs, rfl, sm2, h2, hF2, hfl, hfa⟩
        exact ⟨_, rfl, q F fs H2 sm2 hF2 ⟨by omega, by omega, hfa⟩⟩
def spSize : Sp := fun vs H Q _ => ∃ c : Int, vs = [.int c] ∧ ∀ (p : Addr) (r k : Nat) (H' : Hp), Same H H' → H p = none → H' p = some (.tup [.int r, .int k]) → 1 ≤ r → r ≤ 9 → 1 ≤ k → k ≤ 9 → Q (.ref p) H'
theorem ok_size (D : DefAt K mg "_law_size" s_size ["_law_x"]) : Def P w K mg base "_law_size" 1 ["_law_x"] spSize := by
  refine D.qok sc_size (fun vs H Q E h => ?_) (fun f cdv A outer s H vs Q E hr h => ?_)
  · obtain ⟨c, rfl, _⟩ := h
    rfl
  · obtain ⟨c, rfl, q⟩ := h
    refine ⟨_, (qss_cons (qs_if (qt_cmpR op_eq (qe_op op_mod (qv 0) qe_int) qe_int (nomark _)) (qss_one (qs_ret (qe_tup (qa_cons (qe_op op_add qe_int (qe_op op_mod (qe_op op_fdiv (qv 0) qe_int) qe_int)) (qa_cons (qe_op op_add qe_int (qe_op op_mod (qe_op op_fdiv (qv 0) qe_int) qe_int)) qa_nil))))) qss_nil) (qss_one (qs_ret (qe_tup (qa_cons (qe_op op_add qe_int (qe_op op_mod (qe_op op_fdiv (qv 0) qe_int) qe_int)) (qa_cons (qe_op op_add qe_int (qe_op op_mod (qe_op op_fdiv (qv 0) qe_int) qe_int)) qa_nil)))))), ?_⟩
    have key : ∀ (a b : Int), 0 ≤ a → a < 9 → 0 ≤ b → b < 9 → ∀ p, H p = none → Q (.ref p) (upd H p (.tup [.int (1 + a), .int (1 + b)])) := fun a b h1 h2 h3 h4 p hp =>
      q p (1 + a).toNat (1 + b).toNat _ (Same.upd hp) hp (by rw [upd_same, show ((1 + a).toNat : Int) = 1 + a by omega, show ((1 + b).toNat : Int) = 1 + b by omega]) (by omega) (by omega) (by omega) (by omega)
    refine ⟨_, rfl, _, _, rfl, rfl, (by show (0 : Int) < 8; decide), rfl, _, rfl, ?_⟩
    refine ite2 (fun _ => ?_) (fun _ => ?_)
    · refine ⟨_, rfl, _, _, rfl, rfl, ⟨by decide, by decide⟩, _, _, rfl, rfl, (by show (0 : Int) < 9; decide), _, _, rfl, rfl, _, rfl, _, _, rfl, rfl, ⟨by decide, by decide⟩, _, _, rfl, rfl, (by show (0 : Int) < 9; decide), _, _, rfl, rfl, by show 2 ≤ sizeLine; decide, fun p hp => ?_⟩
      exact key _ _ (Int.emod_nonneg _ (by decide)) (Int.emod_lt_of_pos _ (by decide)) (Int.emod_nonneg _ (by decide)) (Int.emod_lt_of_pos _ (by decide)) p hp
    · refine ⟨_, rfl, _, _, rfl, rfl, ⟨by decide, by decide⟩, _, _, rfl, rfl, (by show (0 : Int) < 4; decide), _, _, rfl, rfl, _, rfl, _, _, rfl, rfl, ⟨by decide, by decide⟩, _, _, rfl, rfl, (by show (0 : Int) < 5; decide), _, _, rfl, rfl, by show 2 ≤ sizeLine; decide, fun p hp => ?_⟩
      exact key _ _ (Int.emod_nonneg _ (by decide)) (Int.lt_trans (Int.emod_lt_of_pos _ (by decide)) (by decide)) (Int.emod_nonneg _ (by decide)) (Int.lt_trans (Int.emod_lt_of_pos _ (by decide)) (by decide)) p hp

end
end My
end

section
set_option Elab.async false
set_option linter.all false
set_option maxRecDepth 100000
set_option maxHeartbeats 2000000
namespace My
open PySem L2
section
variable {P : Program} {w : World} {K : PySem.W.Frag} {mg : Str → Option Value} {base : Heap}
/-! ### books -/
def spIsWord : Sp := fun vs H Q _ => ∃ l : List Nat, vs = [.str (S l)] ∧ Word l ∧ ∀ H', Same H H' → Q (.bl true) H'
theorem az_dec {c : Nat} (h : isLet c) : decide ([c] < [97]) = false ∧ decide ([122] < [c]) = false := by
  have hlt : ∀ a b : Nat, ([a] < [b]) ↔ a < b := fun a b => by simp [List.cons_lt_cons_iff]
  constructor
  · rw [decide_eq_false]; rw [hlt]; have := h.1; omega
  · rw [decide_eq_false]; rw [hlt]; have := h.2; omega
theorem ok_is_word (D : DefAt K mg "is_word" s_is_word ["text"]) (hlen : mg "len" = none) (hall : mg "all" = none) : Def P w K mg base "is_word" 1 ["text"] spIsWord := by
  refine D.qok sc_is_word (fun vs H Q E h => ?_) (fun f cdv A outer s H vs Q E hr h => ?_)
  · obtain ⟨l, rfl, _⟩ := h
    rfl
  · obtain ⟨l, rfl, hw, q⟩ := h
    have h1 := hw.lo
    have h2 := hw.hi
    have hz : l.length ≤ sizeLine := Nat.le_of_lt (small1000 (by omega))
    refine ⟨_, qss_one (qs_ret (qe_and (qe_chain op_le op_le qe_int (qe_callB call_lenS (by rfl) hlen PySem.boot_len (qa_cons (qv 0) qa_nil)) qe_int)
      (qe_one (qe_callB (call_all rfl) (by rfl) hall (by decide +kernel) (qa_cons (qe_comp rfl (CompOk.of sc_is_word.nd (by kernel_rfl)) (qi_str (qv 0)) (fun _ _ _ _ _ => qts_nil)
        (fun _ _ _ _ _ => qe_chain op_leS op_leS (qe_strS [97] (by decide +kernel)) (qv 0) (qe_strS [122] (by decide +kernel)))) qa_nil))))), ?_⟩
    refine ⟨_, rfl, l, rfl, hz, _, _, rfl, rfl, true, (by simp; omega), ?_⟩
    refine iteT ⟨_, _, rfl, rfl, true, (by simp; omega), ?_⟩
    refine iteT ?_
    refine ⟨_, rfl, l, rfl, fun L hL => comp_str (fun i ys H2 => ys = (List.replicate i true).map V.bl ∧ H2 L = some (.lst ys) ∧ Same H H2) ⟨rfl, upd_same, Same.upd hL⟩ ?_ ?_⟩
    · rintro i c ys H2 hi ⟨rfl, hL2, sm⟩
      have hil : i < l.length := (List.getElem?_eq_some_iff.mp hi).1
      obtain ⟨a1, a2⟩ := az_dec (hw.az c (List.mem_of_getElem? hi))
      refine ⟨_, rfl, [97], [c], rfl, rfl, true, by rw [a1]; rfl, iteT ⟨[c], [122], rfl, rfl, hL2, ?_, Nxt.mk hil ⟨?_, upd_same, sm.upd' hL⟩⟩⟩
      · rw [List.length_map, List.length_replicate]; exact small1000 (by omega)
      · rw [a2, List.replicate_succ', List.map_append]; rfl
    · rintro ys H2 ⟨rfl, hL2, sm⟩
      refine ⟨L, List.replicate l.length true, rfl, SqL.of hL2, ?_⟩
      have e : (List.replicate l.length true).all id = true := by simp
      rw [e]
      exact q H2 sm
def spCheck : Sp := fun vs H Q _ => ∃ l : List Nat, vs = [.str (S l)] ∧ Word l ∧ ∀ H', Same H H' → Q .non H'
theorem ok_check_word (D : DefAt K mg "check_word" s_check_word ["text"]) (D1 : Def P w K mg base "is_word" 1 ["text"] spIsWord) : Def P w K mg base "check_word" 2 ["text"] spCheck := by
  refine D.qok sc_check_word (fun vs H Q E h => ?_) (fun f cdv A outer s H vs Q E hr h => ?_)
  · obtain ⟨l, rfl, _⟩ := h
    rfl
  · obtain ⟨l, rfl, hw, q⟩ := h
    refine ⟨_, qss_one (qs_if (qt_not (qt_val (qe_own D1 hr rfl (qa_cons (qv 0) qa_nil)))) qss_never qss_nil), ?_⟩
    refine ⟨_, rfl, l, rfl, hw, fun H1 s1 => ⟨true, rfl, ?_⟩⟩
    exact iteF (q H1 s1)
/-- what the walk asks of the class as the top has made it -/
structure BookCls (K : PySem.W.Frag) (C : Addr) : Prop where
  cl : Cls K C
  nh : NoAttr K C "held"
def wKv (ws : List (List Nat)) : List (Key × V) := ws.map fun l => (keyS l, V.bl true)
theorem wKv_keys (ws : List (List Nat)) : (wKv ws).map (·.1) = ws.map keyS := by unfold wKv; rw [List.map_map]; rfl
theorem keyS_inj {a b : List Nat} (h : keyS a = keyS b) : a = b := S_inj (Sum.inr.inj h)
theorem bval_in (ws : List (List Nat)) (l : List Nat) : valV (wKv ws) (keyS l) = if l ∈ ws then some (.bl true) else none := by
  induction ws with
  | nil => simp [wKv, valV]
  | cons a r ih =>
    by_cases e : a = l
    · subst e
      have : valV (wKv (a :: r)) (keyS a) = some (.bl true) := valV_pos (p := (keyS a, V.bl true)) rfl
      rw [this]; simp
    · have : valV (wKv (a :: r)) (keyS l) = valV (wKv r) (keyS l) := valV_neg (p := (keyS a, V.bl true)) fun z => e (keyS_inj z)
      rw [this, ih]
      have e' : ¬ l = a := fun z => e z.symm
      simp [e']
theorem put_old {ws : List (List Nat)} {l : List Nat} (h : l ∈ ws) : putK (wKv ws) (keyS l) (.bl true) = wKv ws := by
  have hany : ((wKv ws).any fun kv => decide (kv.1 = keyS l)) = true := by rw [valV_any, bval_in, if_pos h]; rfl
  unfold putK
  rw [if_pos hany]
  refine (List.map_congr_left fun kv hkv => ?_).trans (List.map_id _)
  obtain ⟨a, _, rfl⟩ := List.mem_map.mp hkv
  by_cases e : keyS a = keyS l
  · simp [e]
  · simp [e]
theorem put_new {ws : List (List Nat)} {l : List Nat} (h : l ∉ ws) : putK (wKv ws) (keyS l) (.bl true) = wKv (ws ++ [l]) := by
  rw [putK_new _ (by rw [bval_in, if_neg h])]
  simp [wKv]
/-- a book stands at p, its dict at d has the words ws -/
structure BookAt (C : Addr) (H : Hp) (p d : Addr) (ws : List (List Nat)) : Prop where
  ob : ∃ dx, H p = some (.ins C dx [("held", .ref d)])
  dc : H d = some (.dK (wKv ws))
  nd : ws.Nodup
  az : ∀ l ∈ ws, Word l
def insW (ws : List (List Nat)) (l : List Nat) : List (List Nat) := if l ∈ ws then ws else ws ++ [l]
theorem insW_put (ws : List (List Nat)) (l : List Nat) : putK (wKv ws) (keyS l) (.bl true) = wKv (insW ws l) := by
  unfold insW
  split
  · rename_i h; exact put_old h
  · rename_i h; exact put_new h
theorem insW_nd {ws : List (List Nat)} {l : List Nat} (h : ws.Nodup) : (insW ws l).Nodup := by
  unfold insW
  split
  · exact h
  · rename_i hl; exact nd_snoc h hl
theorem insW_mem {ws : List (List Nat)} {l x : List Nat} : x ∈ insW ws l ↔ x ∈ ws ∨ x = l := by
  unfold insW
  split
  · rename_i h; exact ⟨.inl, fun z => z.elim id fun e => e ▸ h⟩
  · simp
theorem insW_len (ws : List (List Nat)) (l : List Nat) : (insW ws l).length ≤ ws.length + 1 := by
  unfold insW
  split
  · omega
  · simp
def seqAt (K : PySem.W.Frag) (H : Hp) (a : Addr) (ls : List (List Nat)) : Prop := SqL K H a (Ts ls) ∨ SqT K H a (Ts ls)
def spInit (K : PySem.W.Frag) (C : Addr) : Sp := fun vs H Q _ => ∃ (p dx a : Addr) (ls : List (List Nat)), vs = [.ref p, .ref a] ∧ H p = some (.ins C dx []) ∧ seqAt K H a ls ∧ (∀ l ∈ ls, Word l) ∧ ls.length ≤ 200 ∧
  ∀ (d : Addr) (ws : List (List Nat)) (H' : Hp), H d = none → BookAt C H' p d ws → (∀ x, x ∈ ws ↔ x ∈ ls) → ws.length ≤ ls.length → (∀ b o, H b = some o → b ≠ p → H' b = some o) → Q .non H'
theorem scBook : sc_Book_init.nd = sc_Book_init.nd := rfl
theorem ok_init {f C : Addr} {fd : FuncData} (F : Fun K "__init__" "Book.__init__" s_Book_init f fd) (T : BookCls K C) (D1 : Def P w K mg base "check_word" 2 ["text"] spCheck) : FnOk P w K mg base CX0 3 f fd ["self", "words"] (spInit K C) := by
  refine F.qok sc_Book_init (fun vs H Q E h => ?_) (fun cdv A outer s H vs Q E hr h => ?_)
  · obtain ⟨p, dx, a, ls, rfl, _⟩ := h
    rfl
  · obtain ⟨p, dx, a, ls, rfl, hp, hS, hW, hn, k⟩ := h
    have hu := hu_of hr
    have nd := sc_Book_init.nd
    refine ⟨_, qss_cons (qs_fld (qv 0) qe_dnewK rfl) (qss_one (qs_for PassesOwn.never rfl ((qi_list (qv 1)).or (qi_tup (qv 1))) (qg_name (i := 2) nd rfl (Or.inl rfl))
      (qss_cons (qs_expr (qe_own D1 hr rfl (qa_cons (qv 2) qa_nil))) (qss_one (qs_dput hu (qe_fld (qv 0) rfl) (qv 2) qe_bl rfl))))), ?_⟩
    intro d hd
    have npd : p ≠ d := ne_of_none hp hd
    refine ⟨_, rfl, p, C, dx, [], rfl, (by rw [upd_ne npd]; exact hp), T.cl, T.nh, (by show 0 < 1000; decide), ?_⟩
    have hP1 : upd (upd H d (HO.dK [])) p (HO.ins C dx (putF "held" (V.ref d) [])) p = some (.ins C dx [("held", .ref d)]) := upd_same
    have hD1 : upd (upd H d (HO.dK [])) p (HO.ins C dx (putF "held" (V.ref d) [])) d = some (.dK (wKv [])) := by rw [upd_ne npd.symm, upd_same]; rfl
    have kp1 : ∀ b o, H b = some o → b ≠ p → upd (upd H d (HO.dK [])) p (HO.ins C dx (putF "held" (V.ref d) [])) b = some o := fun b o e hb => by rw [upd_ne hb, upd_ne (ne_of_none e hd)]; exact e
    generalize upd (upd H d (HO.dK [])) p (HO.ins C dx (putF "held" (V.ref d) [])) = H1 at hP1 hD1 kp1 ⊢
    have npl : ∀ o, H p = some o → (∀ ys, o ≠ .lst ys) ∧ ∀ u ys, o ≠ .frz u (.lst ys) := fun o e => by
      rw [hp] at e; cases e
      exact ⟨fun _ z => (nomatch z), fun _ _ z => (nomatch z)⟩
    have npt : ∀ o, H p = some o → (∀ ys, o ≠ .tup ys) ∧ ∀ u ys, o ≠ .frz u (.tup ys) := fun o e => by
      rw [hp] at e; cases e
      exact ⟨fun _ z => (nomatch z), fun _ _ z => (nomatch z)⟩
    rcases hS with hS | hS
    · refine .inl ⟨_, rfl, a, rfl, ⟨_, hS.keep kp1 npl⟩, for_list (K := K) (a := a) (xs := Ts ls) (fun i σ H2 => ∃ (v2 : Option V) (ws : List (List Nat)), σ = [some (.ref p), some (.ref a), v2] ∧ H2 p = some (.ins C dx [("held", .ref d)]) ∧ H2 d = some (.dK (wKv ws)) ∧ ws.Nodup ∧
        (∀ x, x ∈ ws ↔ x ∈ ls.take i) ∧ ws.length ≤ i ∧ ∀ b o, H b = some o → b ≠ p → H2 b = some o) ⟨none, [], rfl, hP1, hD1, List.nodup_nil, fun x => by simp, Nat.le_refl _, kp1⟩ (fun i σ H2 _ ⟨_, _, _, _, _, _, _, _, kp⟩ => hS.keep kp npl) ?_ ?_⟩
      · rintro i y σ H2 hi ⟨v2, ws, rfl, hp2, hd2, hnd, hm, hl, kp⟩
        rw [List.getElem?_map] at hi
        obtain ⟨l, hl2, e⟩ := Option.map_eq_some_iff.mp hi
        subst e
        have hil : i < ls.length := (List.getElem?_eq_some_iff.mp hl2).1
        refine ⟨_, rfl, l, rfl, hW l (List.mem_of_getElem? hl2), fun H3 s3 => ?_⟩
        have hd3 := s3 _ _ hd2
        refine ⟨_, rfl, p, C, dx, _, _, rfl, s3 _ _ hp2, T.cl, T.nh, rfl, _, rfl, d, _, rfl, DPut.k (k := keyS l) hd3 (by rw [wKv, List.length_map]; exact small1000 (by omega)), ?_⟩
        refine ⟨_, insW ws l, rfl, by rw [upd_ne npd]; exact s3 _ _ hp2, by rw [upd_same, insW_put], insW_nd hnd, fun x => ?_, Nat.le_trans (insW_len _ _) (by omega), fun b o e hb => ?_⟩
        · rw [insW_mem, hm, List.take_add_one, hl2]; simp
        · rw [upd_ne (ne_of_none e hd)]; exact s3 _ _ (kp b o e hb)
      · rintro σ H2 ⟨v2, ws, rfl, hp2, hd2, hnd, hm, hl, kp⟩
        rw [List.length_map] at hm hl
        rw [List.take_length] at hm
        exact k d ws H2 hd ⟨⟨dx, hp2⟩, hd2, hnd, fun l hl => hW l ((hm l).mp hl)⟩ hm hl kp
    · refine .inr ⟨_, rfl, a, rfl, ⟨_, hS.keep kp1 npt⟩, for_tup (K := K) (a := a) (xs := Ts ls) (fun i σ H2 => ∃ (v2 : Option V) (ws : List (List Nat)), σ = [some (.ref p), some (.ref a), v2] ∧ H2 p = some (.ins C dx [("held", .ref d)]) ∧ H2 d = some (.dK (wKv ws)) ∧ ws.Nodup ∧
        (∀ x, x ∈ ws ↔ x ∈ ls.take i) ∧ ws.length ≤ i ∧ ∀ b o, H b = some o → b ≠ p → H2 b = some o) ⟨none, [], rfl, hP1, hD1, List.nodup_nil, fun x => by simp, Nat.le_refl _, kp1⟩ (fun i σ H2 _ ⟨_, _, _, _, _, _, _, _, kp⟩ => hS.keep kp npt) ?_ ?_⟩
      · rintro i y σ H2 hi ⟨v2, ws, rfl, hp2, hd2, hnd, hm, hl, kp⟩
        rw [List.getElem?_map] at hi
        obtain ⟨l, hl2, e⟩ := Option.map_eq_some_iff.mp hi
        subst e
        have hil : i < ls.length := (List.getElem?_eq_some_iff.mp hl2).1
        refine ⟨_, rfl, l, rfl, hW l (List.mem_of_getElem? hl2), fun H3 s3 => ?_⟩
        have hd3 := s3 _ _ hd2
        refine ⟨_, rfl, p, C, dx, _, _, rfl, s3 _ _ hp2, T.cl, T.nh, rfl, _, rfl, d, _, rfl, DPut.k (k := keyS l) hd3 (by rw [wKv, List.length_map]; exact small1000 (by omega)), ?_⟩
        refine ⟨_, insW ws l, rfl, by rw [upd_ne npd]; exact s3 _ _ hp2, by rw [upd_same, insW_put], insW_nd hnd, fun x => ?_, Nat.le_trans (insW_len _ _) (by omega), fun b o e hb => ?_⟩
        · rw [insW_mem, hm, List.take_add_one, hl2]; simp
        · rw [upd_ne (ne_of_none e hd)]; exact s3 _ _ (kp b o e hb)
      · rintro σ H2 ⟨v2, ws, rfl, hp2, hd2, hnd, hm, hl, kp⟩
        rw [List.length_map] at hm hl
        rw [List.take_length] at hm
        exact k d ws H2 hd ⟨⟨dx, hp2⟩, hd2, hnd, fun l hl => hW l ((hm l).mp hl)⟩ hm hl kp
def spHas (C : Addr) : Sp := fun vs H Q _ => ∃ (p d : Addr) (ws : List (List Nat)) (l : List Nat), vs = [.ref p, .str (S l)] ∧ BookAt C H p d ws ∧ Q (.bl (decide (l ∈ ws))) H
theorem ok_has {f C : Addr} {fd : FuncData} (F : Fun K "has" "Book.has" s_Book_has f fd) (T : BookCls K C) : FnOk P w K mg base CX0 1 f fd ["self", "text"] (spHas C) := by
  refine F.qok sc_Book_has (fun vs H Q E h => ?_) (fun cdv A outer s H vs Q E hr h => ?_)
  · obtain ⟨p, d, ws, l, rfl, _⟩ := h
    rfl
  · obtain ⟨p, d, ws, l, rfl, B, q⟩ := h
    have hu := hu_of hr
    obtain ⟨⟨dx, hp⟩, hd, _, _⟩ := id B
    refine ⟨_, qss_one (qs_ret (qe_cmp (qc_din hu (qv 1) (qe_fld (qv 0) rfl)))), ?_⟩
    refine ⟨_, rfl, _, rfl, p, C, dx, _, _, rfl, hp, T.cl, T.nh, rfl, d, _, rfl, DGet.k (k := keyS l) hd, ?_⟩
    rw [bval_in]
    by_cases h : l ∈ ws
    · rw [if_pos h]; simpa [h] using q
    · rw [if_neg h]; simpa [h] using q
def Rise (ws : List (List Nat)) : Prop := ws.Pairwise (fun a b => decide (b < a) = false)
def spWords (C : Addr) : Sp := fun vs H Q _ => ∃ (p d : Addr) (ws : List (List Nat)), vs = [.ref p] ∧ BookAt C H p d ws ∧ ws.length < 64 ∧
  ∀ (t : Addr) (us : List (List Nat)) (H' : Hp), Same H H' → H t = none → H' t = some (.tup (Ts us)) → us.Perm ws → Rise us → Q (.ref t) H'
theorem ok_words {f C : Addr} {fd : FuncData} (F : Fun K "words" "Book.words" s_Book_words f fd) (T : BookCls K C) (hsorted : mg "sorted" = none) (htup : mg "tuple" = none) : FnOk P w K mg base CX0 1 f fd ["self"] (spWords C) := by
  refine F.qok sc_Book_words (fun vs H Q E h => ?_) (fun cdv A outer s H vs Q E hr h => ?_)
  · obtain ⟨p, d, ws, rfl, _⟩ := h
    rfl
  · obtain ⟨p, d, ws, rfl, B, h64, q⟩ := h
    obtain ⟨⟨dx, hp⟩, hd, _, _⟩ := id B
    refine ⟨_, qss_one (qs_ret (qe_callTy call_tuple_of (by rfl) htup PyProof.Rows.boot_tuple (qa_cons (qe_callB (call_sortedD rfl) (by rfl) hsorted PyProof.Rows.boot_sorted (qa_cons (qe_fld (qv 0) rfl) qa_nil)) qa_nil))), ?_⟩
    refine ⟨_, rfl, p, C, dx, _, _, rfl, hp, T.cl, T.nh, rfl, d, _, ws, rfl, hd, wKv_keys ws, h64, fun t us ht pm rs => ?_⟩
    refine ⟨t, _, rfl, .inl ⟨SqL.of upd_same, fun v hv => ?_⟩⟩
    have s1 : Same H (upd H t (.lst (Ts us))) := Same.upd ht
    exact q v us _ (s1.upd' (s1.free hv)) (s1.free hv) upd_same pm rs
def Up (ws : List (List Nat)) : Prop := ws.Pairwise (fun a b => a < b)
theorem ll_tri {a b : List Nat} (h1 : ¬ a < b) (h2 : a ≠ b) : b < a := by
  by_cases h : b < a
  · exact h
  · exact absurd (List.le_antisymm (List.not_lt.mp h) (List.not_lt.mp h1)) h2
theorem up_ins {ws : List (List Nat)} {w : List Nat} {k : Nat} (h : Up ws) (hl : ∀ x ∈ ws.take k, x < w) (hr : k = ws.length ∨ ∃ y, ws[k]? = some y ∧ w < y) : Up (ws.take k ++ w :: ws.drop k) := by
  have hw : ∀ x ∈ ws.drop k, w < x := by
    rcases hr with e | ⟨y, hy, hwy⟩
    · subst e; simp
    · intro x hx
      obtain ⟨hk, e⟩ := List.getElem?_eq_some_iff.mp hy
      rw [List.drop_eq_getElem_cons hk] at hx
      have hp : (ws.drop k).Pairwise (fun a b => a < b) := h.sublist (List.drop_sublist _ _)
      rw [List.drop_eq_getElem_cons hk, List.pairwise_cons] at hp
      rcases List.mem_cons.mp hx with e2 | e2
      · rw [e2, e]; exact hwy
      · exact List.lt_trans (e ▸ hwy) (hp.1 x e2)
  have h0 : (ws.take k ++ ws.drop k).Pairwise (fun a b => a < b) := by rw [List.take_append_drop]; exact h
  rw [List.pairwise_append] at h0
  refine List.pairwise_append.mpr ⟨h0.1, List.pairwise_cons.mpr ⟨hw, h0.2.1⟩, fun a ha b hb => ?_⟩
  rcases List.mem_cons.mp hb with e | e
  · rw [e]; exact hl a ha
  · exact h0.2.2 a ha b e
theorem ins_mem {ws : List (List Nat)} {w x : List Nat} {k : Nat} : x ∈ ws.take k ++ w :: ws.drop k ↔ x ∈ ws ∨ x = w := by
  rw [List.mem_append, List.mem_cons]
  constructor
  · rintro (h | h | h)
    · exact .inl (List.mem_of_mem_take h)
    · exact .inr h
    · exact .inl (List.mem_of_mem_drop h)
  · rintro (h | h)
    · rw [← List.take_append_drop k ws, List.mem_append] at h
      rcases h with h | h
      · exact .inl h
      · exact .inr (.inr h)
    · exact .inr (.inl h)
theorem up_eq : ∀ {a b : List (List Nat)}, Up a → Up b → (∀ x, x ∈ a ↔ x ∈ b) → a = b
  | [], [], _, _, _ => rfl
  | [], y :: b, _, _, h => by have := (h y).mpr (by simp); simp at this
  | x :: a, [], _, _, h => by have := (h x).mp (by simp); simp at this
  | x :: a, y :: b, ha, hb, h => by
    obtain ⟨ha1, ha2⟩ := List.pairwise_cons.mp ha
    obtain ⟨hb1, hb2⟩ := List.pairwise_cons.mp hb
    have e : x = y := by
      rcases List.mem_cons.mp ((h x).mp (by simp)) with e | e
      · exact e
      · rcases List.mem_cons.mp ((h y).mpr (by simp)) with e2 | e2
        · exact e2.symm
        · exact absurd (List.lt_trans (ha1 y e2) (hb1 x e)) (List.lt_irrefl _)
    subst e
    have e2 : a = b := up_eq ha2 hb2 fun z => by
      constructor
      · intro hz
        rcases List.mem_cons.mp ((h z).mp (List.mem_cons_of_mem _ hz)) with e | e
        · exact absurd (e ▸ ha1 z hz) (List.lt_irrefl _)
        · exact e
      · intro hz
        rcases List.mem_cons.mp ((h z).mpr (List.mem_cons_of_mem _ hz)) with e | e
        · exact absurd (e ▸ hb1 z hz) (List.lt_irrefl _)
        · exact e
    rw [e2]
theorem rise_up {us : List (List Nat)} (h : us.Pairwise (fun a b => decide (b < a) = false)) (nd : us.Nodup) : Up us := by
  refine (List.pairwise_and_iff.mpr ⟨h, nd⟩).imp fun {a b} ⟨h1, h2⟩ => ?_
  exact ll_tri (of_decide_eq_false h1) (Ne.symm h2)
/-- the words, each once, rising -/
theorem inV_ts (x : List Nat) (ws : List (List Nat)) : inV (.str (S x)) (Ts ws) = decide (x ∈ ws) := by
  unfold inV
  induction ws with
  | nil => simp [Ts]
  | cons y ws ih =>
    have e : eqV (.str (S y)) (.str (S x)) = decide (y = x) := by
      show decide (S y = S x) = _
      by_cases h : y = x
      · rw [h]; simp
      · have h2 : S y ≠ S x := fun e => h (S_inj e)
        simp [h, h2]
    show (eqV (.str (S y)) (.str (S x)) || (Ts ws).any _) = _
    rw [e, ih]
    by_cases h : y = x
    · simp [h]
    · have h2 : ¬ x = y := fun e => h e.symm
      simp [h, h2]
theorem flat_ts (ws : List (List Nat)) : (Ts ws).all flatV = true := by
  rw [List.all_eq_true]
  intro v hv
  obtain ⟨l, _, e⟩ := List.mem_map.mp hv
  subst e
  rfl
theorem BookAt.same {C p d : Addr} {H H' : Hp} {ws : List (List Nat)} (B : BookAt C H p d ws) (s : Same H H') : BookAt C H' p d ws := ⟨let ⟨dx, e⟩ := B.ob; ⟨dx, s _ _ e⟩, s _ _ B.dc, B.nd, B.az⟩
theorem cutN_le (l : List Nat) (lo hi : Option Int) : (cutN l lo hi).length ≤ l.length := by unfold cutN; rw [List.length_take, List.length_drop]; omega
def IsT (xs : List V) : Prop := ∃ ws : List (List Nat), xs = Ts ws
theorem IsT.app {xs ys : List V} (h1 : IsT xs) (h2 : IsT ys) : IsT (xs ++ ys) := by
  obtain ⟨a, rfl⟩ := h1
  obtain ⟨b, rfl⟩ := h2
  exact ⟨a ++ b, by simp [Ts]⟩
theorem isT_cut (ws : List (List Nat)) (lo hi : Option Int) : IsT (cutV (Ts ws) lo hi) := by
  unfold cutV Ts
  rw [← List.map_drop, ← List.map_take]
  exact ⟨_, rfl⟩
theorem mk_same {H H' : Hp} {x dx : Addr} {o o' : HO} (h1 : H x = none) (h2 : H dx = none) (kp : ∀ b o2, upd (upd H dx o) x o' b = some o2 → b ≠ x → H' b = some o2) : Same H H' := fun b o2 e => by
  have n1 := ne_of_none e h1
  have n2 := ne_of_none e h2
  exact kp b o2 (by rw [upd_ne n1, upd_ne n2]; exact e) n1
theorem BookAt.other {C p d a : Addr} {H : Hp} {ws : List (List Nat)} {xs : List V} {o : HO} (B : BookAt C H p d ws) (h : H a = some (.lst xs)) : BookAt C (upd H a o) p d ws := by
  obtain ⟨⟨dx, e⟩, e2, n, z⟩ := B
  have n1 : p ≠ a := fun z => by rw [z, h] at e; cases e
  have n2 : d ≠ a := fun z => by rw [z, h] at e2; cases e2
  exact ⟨⟨dx, by rw [upd_ne n1]; exact e⟩, by rw [upd_ne n2]; exact e2, n, z⟩

end
end My
end

section
set_option Elab.async false
set_option linter.all false
set_option maxRecDepth 100000
set_option maxHeartbeats 2000000
namespace My
open PySem L2
section
variable {P : Program} {w : World} {K : PySem.W.Frag} {mg : Str → Option Value} {base : Heap}
/-! ### the drawn words -/
def spWordsL (K : PySem.W.Frag) : Sp := fun vs H Q _ => ∃ (p a : Addr) (ls : List Nat) (ns : List Int) (st m : Nat), vs = [.ref p, .ref a, .int st, .int m] ∧ H p = some (.lst (Ts (ones ls))) ∧ Alph ls ∧ SqL K H a (ns.map V.int) ∧ st + m ≤ 1000 ∧ m ≤ 60 ∧
  ∀ (t : Addr) (ws : List (List Nat)) (H' : Hp), Same H H' → H' t = some (.lst (Ts ws)) → ws.Nodup → (∀ l ∈ ws, Word l) → Rise ws → ws.length ≤ m → Q (.ref t) H'
theorem ok_words_of (D : DefAt K mg "_law_words" s_words ["_law_letters_here", "_law_script", "_law_start", "_law_many"]) (n_len : mg "len" = none) (n_range : mg "range" = none) (n_sorted : mg "sorted" = none) (n_list : mg "list" = none)
    (D_digits : Def P w K mg base "_law_digits" 3 ["_law_script", "_law_k", "_law_base", "_law_many"] (spDig K)) : Def P w K mg base "_law_words" 4 ["_law_letters_here", "_law_script", "_law_start", "_law_many"] (spWordsL K) := by
  refine D.qok sc_words (fun vs H Q E h => ?_) (fun f cdv A outer s H vs Q E hr h => ?_)
  · obtain ⟨p, a, ls, ns, st, m, rfl, _⟩ := h
    rfl
  · obtain ⟨p, a, ls, ns, st, m, rfl, hp, hA, hS, hst, hm, q⟩ := h
    have hu := hu_of hr
    have hlo : (Ts (ones ls)).length = ls.length := by rw [List.length_map, List.length_map]
    refine ⟨_, (qss_cons (qs_set (i := 4) sc_words.nd rfl (Or.inl rfl) qe_dnewK) (qss_cons (qs_for PassesOwn.never rfl (qi_range1 (by rfl) n_range (qa_cons (qv 3) qa_nil)) (qg_name (i := 5) sc_words.nd rfl (Or.inl rfl)) (qss_cons (qs_set (i := 6) sc_words.nd rfl (Or.inl rfl) (qe_own D_digits (hr.mono (by decide)) rfl (qa_cons (qv 1) (qa_cons (qe_op op_add (qv 2) (qv 5)) (qa_cons qe_int (qa_cons qe_int qa_nil)))))) (qss_cons (qs_set (i := 7) sc_words.nd rfl (Or.inl rfl) (qe_ix ix_list (qe_lst (qa_cons qe_int (qa_cons qe_int (qa_cons qe_int (qa_cons qe_int (qa_cons qe_int (qa_cons qe_int (qa_cons qe_int (qa_cons (qe_op op_add qe_int (qe_op op_mod (qe_op op_fdiv (qe_ix ix_list (qv 6) qe_int (fun _ _ => rfl)) qe_int) qe_int)) qa_nil))))))))) (qe_op op_mod (qe_ix ix_list (qv 6) qe_int (fun _ _ => rfl)) qe_int) (fun _ _ => rfl))) (qss_one (qs_dput hu (qv 4) (qe_bm PySem.F.plainAttrs_str PySem.F.slot_str_join PySem.F.type_str_join mt_join (qe_strS [] (by decide +kernel)) (qa_cons (qe_comp rfl (CompOk.of sc_words.nd (by kernel_rfl)) (qi_list (qe_slice sl_list (qv 6) (qo_some qe_int) (qo_some (qe_op op_add qe_int (qv 7))))) (fun _ _ _ _ _ => qts_nil) (fun _ _ _ _ _ => (qe_ix (ix_listK K) (qv 1) (qe_op op_mod (qe_op op_fdiv (qv 0) qe_int) (qe_callB (call_len_seqK K) (by rfl) n_len PySem.boot_len (qa_cons (qv 1) qa_nil))) (fun _ _ => rfl)))) qa_nil)) qe_bl rfl))))) (qss_one (qs_ret (qe_callB call_sortedL (by rfl) n_sorted PyProof.Rows.boot_sorted (qa_cons (qe_callTy (call_listD rfl) (by rfl) n_list PyProof.Rows.boot_list (qa_cons (qv 4) qa_nil)) qa_nil)))))), ?_⟩
    intro d hd
    refine ⟨_, rfl, _, rfl, by omega, by omega, ?_⟩
    rw [Int.toNat_natCast]
    refine for_range (lo := 0) (n := m) (fun i σ H2 => ∃ (v5 v6 v7 : Option V) (ws : List (List Nat)), σ = [some (.ref p), some (.ref a), some (.int st), some (.int m), some (.ref d), v5, v6, v7] ∧ Same H H2 ∧ H2 d = some (.dK (wKv ws)) ∧ ws.Nodup ∧ (∀ l ∈ ws, Word l) ∧ ws.length ≤ i)
      ⟨none, none, none, [], rfl, Same.upd hd, upd_same, List.nodup_nil, fun l h => by simp at h, Nat.le_refl _⟩ ?_ ?_
    · rintro i σ H2 hi ⟨v5, v6, v7, ws, rfl, sm, hd2, nd2, az2, hl2⟩
      have e0 : (st : Int) + (0 + (i : Int)) = ((st + i : Nat) : Int) := by omega
      refine ⟨_, rfl, _, rfl, _, rfl, _, _, rfl, rfl, a, ns, st + i, 520, 10, by show [V.ref a, V.int ((st : Int) + (0 + (i : Int))), V.int 520, V.int 10] = _; rw [e0]; rfl, sm.seq hS, by omega, by decide, by decide, by decide, fun pr ds H3 s3 hpr0 hpr hl hdd => ?_⟩
      have at0 : atI (ds.map V.int) 0 = some (.int ds[0]) := atI_nat (j := 0) (by simp [hl])
      have h0 := hdd ds[0] (List.getElem_mem _)
      refine ⟨_, rfl, pr, _, 0, _, rfl, rfl, SqL.of hpr, at0, _, _, rfl, rfl, ⟨by decide, by decide⟩, _, _, rfl, rfl, (by show (0 : Int) < 8; decide), _, _, rfl, rfl, by show 8 ≤ sizeLine; decide, fun t ht => ?_⟩
      obtain ⟨z, hz1, hz2, hz3⟩ : ∃ z : Nat, atI [V.int 2, V.int 2, V.int 3, V.int 3, V.int 3, V.int 4, V.int 4, V.int (2 + ds[0] / 8 % 8)] (ds[0] % 8) = some (.int z) ∧ 2 ≤ z ∧ z ≤ 9 := by
        have hm : ds[0] % 8 = 0 ∨ ds[0] % 8 = 1 ∨ ds[0] % 8 = 2 ∨ ds[0] % 8 = 3 ∨ ds[0] % 8 = 4 ∨ ds[0] % 8 = 5 ∨ ds[0] % 8 = 6 ∨ ds[0] % 8 = 7 := by omega
        rcases hm with e | e | e | e | e | e | e | e <;> rw [e]
        · exact ⟨2, atI_nat (j := 0) rfl, by decide, by decide⟩
        · exact ⟨2, atI_nat (j := 1) rfl, by decide, by decide⟩
        · exact ⟨3, atI_nat (j := 2) rfl, by decide, by decide⟩
        · exact ⟨3, atI_nat (j := 3) rfl, by decide, by decide⟩
        · exact ⟨3, atI_nat (j := 4) rfl, by decide, by decide⟩
        · exact ⟨4, atI_nat (j := 5) rfl, by decide, by decide⟩
        · exact ⟨4, atI_nat (j := 6) rfl, by decide, by decide⟩
        · refine ⟨(2 + ds[0] / 8 % 8).toNat, ?_, by omega, by omega⟩
          have e2 : (2 + ds[0] / 8 % 8) = (((2 + ds[0] / 8 % 8).toNat : Nat) : Int) := by omega
          rw [← e2]
          exact atI_nat (j := 7) rfl
      have hT : upd H3 t (.lst [V.int 2, V.int 2, V.int 3, V.int 3, V.int 3, V.int 4, V.int 4, V.int (2 + ds[0] / 8 % 8)]) t = some _ := upd_same
      have s1 : Same H3 (upd H3 t (.lst [V.int 2, V.int 2, V.int 3, V.int 3, V.int 3, V.int 4, V.int 4, V.int (2 + ds[0] / 8 % 8)])) := Same.upd ht
      generalize upd H3 t (.lst [V.int 2, V.int 2, V.int 3, V.int 3, V.int 3, V.int 4, V.int 4, V.int (2 + ds[0] / 8 % 8)]) = H4 at hT s1 ⊢
      refine ⟨_, rfl, pr, _, 0, _, rfl, rfl, SqL.of (s1 _ _ hpr), at0, _, _, rfl, rfl, (by show (0 : Int) < 8; decide), t, _, _, _, rfl, rfl, SqL.of hT, hz1, ?_⟩
      have sH4 : Same H H4 := (sm.trans s3).trans s1
      refine ⟨_, rfl, rfl, _, rfl, _, rfl, _, rfl, _, _, rfl, rfl, _, rfl, pr, _, rfl, SqL.of (s1 _ _ hpr), fun u hu' => ?_⟩
      have e1 : (1 : Int) + (z : Int) = ((1 + z : Nat) : Int) := by omega
      rw [e1]
      have hxl : (cutV (ds.map V.int) (some (1 : Nat)) (some ((1 + z : Nat) : Int))).length = z := by rw [cut_len (by omega) (by omega)]; omega
      generalize hxs : cutV (ds.map V.int) (some 1) (some ((1 + z : Nat) : Int)) = xs
      have hxl' : xs.length = z := by rw [← hxs]; exact hxl
      have hxm : ∀ v ∈ xs, ∃ d : Int, v = .int d := fun v hv => by
        rw [← hxs] at hv
        obtain ⟨d, hd, e⟩ := ints_mem hv
        exact ⟨d, e⟩
      have sU : ∀ o, Same H4 (upd H4 u o) := fun o => Same.upd hu'
      refine ⟨u, rfl, ⟨_, SqL.of upd_same⟩, fun L hL => comp_list (K := K) (a := u) (xs := xs) (fun i ys H5 => ∃ cs : List Nat, ys = Ts (cs.map fun c => [c]) ∧ cs.length = i ∧ (∀ c ∈ cs, c ∈ ls) ∧ H5 L = some (.lst ys) ∧ H5 u = some (.lst xs) ∧ Same H4 H5)
        ⟨[], rfl, rfl, fun c hc => by simp at hc, upd_same, by rw [upd_ne (ne_of_none upd_same hL)]; exact upd_same, (sU _).upd' ((sU _).free hL)⟩ (fun i ys H5 _ ⟨_, _, _, _, _, h2, _⟩ => SqL.of h2) ?_ ?_⟩
      · rintro i y ys H5 hi ⟨cs, rfl, hcl, hcm, hL2, hu2, sm2⟩
        have hil : i < xs.length := (List.getElem?_eq_some_iff.mp hi).1
        obtain ⟨d, rfl⟩ := hxm y (List.mem_of_getElem? hi)
        have hlp : (0 : Int) < (ls.length : Int) := by have := hA.lo; omega
        obtain ⟨j, hj1, hj2⟩ : ∃ j : Nat, d / 20 % (ls.length : Int) = (j : Int) ∧ j < ls.length := by
          have h1 : 0 ≤ d / 20 % (ls.length : Int) := Int.emod_nonneg _ (by omega)
          have h2 : d / 20 % (ls.length : Int) < ls.length := Int.emod_lt_of_pos _ hlp
          exact ⟨(d / 20 % (ls.length : Int)).toNat, by omega, by omega⟩
        have hp5 := sm2 _ _ (sH4 _ _ hp)
        refine ⟨_, rfl, _, rfl, _, _, rfl, rfl, ⟨by decide, by decide⟩, _, rfl, p, _, rfl, .inl (SqL.of hp5), _, _, rfl, rfl, by rw [hlo]; exact hlp, p, _, _, .str (S [ls[j]]), rfl, rfl, SqL.of hp5, ?_, hL2, ?_, ?_⟩
        · rw [hlo, hj1]; exact atI_nat (by simp [Ts, ones, hj2])
        · show (Ts (cs.map fun c => [c])).length < sizeLine
          rw [List.length_map, List.length_map]
          exact small1000 (by omega)
        · refine Nxt.mk hil ⟨cs ++ [ls[j]], by simp [Ts], by simp [hcl], fun c hc => ?_, upd_same, ?_, fun b o e => ?_⟩
          · rcases List.mem_append.mp hc with e | e
            · exact hcm c e
            · rw [List.mem_singleton.mp e]; exact List.getElem_mem _
          · rw [upd_ne (ne_of_none upd_same hL)]; exact hu2
          · rw [upd_ne (ne_of_none ((sU _) b o e) hL)]; exact sm2 b o e
      · rintro ys H5 ⟨cs, rfl, hcl, hcm, hL2, hu2, sm2⟩
        refine ⟨L, cs.map fun c => [c], rfl, rfl, SqL.of hL2, by rw [flat1]; omega, ?_⟩
        rw [flat1]
        have hd5 := sm2 _ _ (s1 _ _ (s3 _ _ hd2))
        have hW : Word cs := ⟨by omega, by omega, fun c hc => hA.az c (hcm c hc)⟩
        refine ⟨d, _, rfl, DPut.k (k := keyS cs) hd5 (by rw [wKv, List.length_map]; exact small1000 (by omega)), ?_⟩
        refine ⟨_, _, _, insW ws cs, rfl, (sH4.trans sm2).upd' hd, by rw [upd_same, insW_put], insW_nd nd2, fun l hl => ?_, Nat.le_trans (insW_len _ _) (by omega)⟩
        rcases insW_mem.mp hl with e | e
        · exact az2 l e
        · rw [e]; exact hW
    · rintro σ H2 ⟨v5, v6, v7, ws, rfl, sm, hd2, nd2, az2, hl2⟩
      refine ⟨_, rfl, d, _, ws, rfl, hd2, wKv_keys ws, by omega, fun L hL => ?_⟩
      have s3 : Same H (upd H2 L (.lst (Ts ws))) := sm.upd' (sm.free hL)
      refine ⟨L, ws, rfl, SqL.of upd_same, by omega, fun L2 ws' hL2 pm pw => ?_⟩
      exact q L2 ws' _ (s3.upd' (s3.free hL2)) upd_same (pm.nodup_iff.mpr nd2) (fun l hl => az2 l (pm.mem_iff.mp hl)) pw (by rw [pm.length_eq]; exact hl2)

end
end My
end

section
set_option Elab.async false
set_option linter.all false
set_option maxRecDepth 100000
set_option maxHeartbeats 2000000
namespace My
open PySem L2
section
variable {P : Program} {w : World} {K : PySem.W.Frag} {mg : Str → Option Value} {base : Heap}
/-! ### boards -/
def spWhole : Sp := fun vs H Q _ => ∃ i : Int, vs = [.int i] ∧ Q (.bl true) H
theorem ok_is_whole (D : DefAt K mg "is_whole" s_is_whole ["thing"]) (n_int : mg "int" = none) (n_bool : mg "bool" = none) (n_isinstance : mg "isinstance" = none) : Def P w K mg base "is_whole" 1 ["thing"] spWhole := by
  refine D.qok sc_is_whole (fun vs H Q E h => ?_) (fun f cdv A outer s H vs Q E hr h => ?_)
  · obtain ⟨i, rfl, _⟩ := h
    rfl
  · obtain ⟨i, rfl, q⟩ := h
    refine ⟨_, (qss_one (qs_ret (qe_and (qe_callB call_isinst (by rfl) n_isinstance PyProof.Rows.boot_isinstance (qa_cons (qv 0) (qa_cons (qe_bltn (v := .ty "int") (by rfl) n_int PyProof.Rows.boot_int rfl) qa_nil))) (qe_one (qe_not (qe_callB call_isinst (by rfl) n_isinstance PyProof.Rows.boot_isinstance (qa_cons (qv 0) (qa_cons (qe_bltn (v := .ty "bool") (by rfl) n_bool PyProof.Rows.boot_bool rfl) qa_nil)))))))), ?_⟩
    exact ⟨_, rfl, _, _, _, true, rfl, .int _, (by kernel_rfl), true, rfl, iteT ⟨_, rfl, _, _, _, false, rfl, .int _, (by kernel_rfl), false, rfl, q⟩⟩
theorem Ts_at {ls : List (List Nat)} {i : Nat} {l : List Nat} (h : ls[i]? = some l) : (Ts ls)[i]? = some (.str (S l)) := by simp [Ts, h]
theorem Ts_get {ls : List (List Nat)} {i : Nat} {x : V} (h : (Ts ls)[i]? = some x) : ∃ l, ls[i]? = some l ∧ x = .str (S l) := by
  rw [List.getElem?_map] at h
  obtain ⟨l, h1, h2⟩ := Option.map_eq_some_iff.mp h
  exact ⟨l, h1, h2.symm⟩
theorem all_rep (n : Nat) : ((List.replicate n true).all id) = true := by simp
theorem snoc_rep (n : Nat) : (List.replicate n true).map V.bl ++ [V.bl true] = (List.replicate (n + 1) true).map V.bl := by rw [List.replicate_succ', List.map_append]; rfl
def spBlock : Sp := fun vs H Q _ => ∃ (p : Addr) (ls : List (List Nat)) (r w : Nat), vs = [.ref p] ∧ H p = some (.tup (Ts ls)) ∧ Blk r w ls ∧ 1 ≤ r ∧ r ≤ 9 ∧ 1 ≤ w ∧ w ≤ 9 ∧ ∀ H', Same H H' → Q (.bl true) H'
theorem ok_is_block (D : DefAt K mg "is_block" s_is_block ["thing"]) (n_len : mg "len" = none) (n_tuple : mg "tuple" = none) (n_str : mg "str" = none) (n_all : mg "all" = none) (n_isinstance : mg "isinstance" = none) (g_MOST : ∃ t, mg "MOST" = some (.int 9 t)) : Def P w K mg base "is_block" 1 ["thing"] spBlock := by
  refine D.qok sc_is_block (fun vs H Q E h => ?_) (fun f cdv A outer s H vs Q E hr h => ?_)
  · obtain ⟨p, ls, r, w, rfl, _⟩ := h
    rfl
  · obtain ⟨p, ls, r, w, rfl, hp, hb, r1, r9, w1, w9, q⟩ := h
    have hln : (Ts ls).length = r := by rw [List.length_map, hb.len]
    have h0 : 0 < ls.length := by rw [hb.len]; omega
    refine ⟨_, (qss_cons (qs_if (QW.qt (qw_or (qt_not (qt_val (qe_callB call_isinst (by rfl) n_isinstance PyProof.Rows.boot_isinstance (qa_cons (qv 0) (qa_cons (qe_bltn (v := .ty "tuple") (by rfl) n_tuple PyProof.Rows.boot_tuple rfl) qa_nil))))) (qw_or1 (qt_not (qt_chain op_le op_le qe_int (qe_callB call_len_seq (by rfl) n_len PySem.boot_len (qa_cons (qv 0) qa_nil)) (qe_gI (by rfl) g_MOST)))))) (qss_one (qs_ret qe_bl)) qss_nil) (qss_cons (qs_if (qt_not (qt_val (qe_callB (call_all rfl) (by rfl) n_all boot_allX (qa_cons (qe_comp rfl (CompOk.of sc_is_block.nd (by kernel_rfl)) (qi_tup (qv 0)) (fun _ _ _ _ _ => qts_nil) (fun _ _ _ _ _ => (qe_callB (call_isinstK K) (by rfl) n_isinstance PyProof.Rows.boot_isinstance (qa_cons (qv 0) (qa_cons (qe_bltn (v := .ty "str") (by rfl) n_str PyProof.Rows.boot_str rfl) qa_nil))))) qa_nil)))) (qss_one (qs_ret qe_bl)) qss_nil) (qss_cons (qs_set (i := 1) sc_is_block.nd rfl (Or.inr rfl) (qe_callB call_lenS (by rfl) n_len PySem.boot_len (qa_cons (qe_ix ix_tup (qv 0) qe_int (fun _ _ => rfl)) qa_nil))) (qss_one (qs_ret (qe_and (qe_chain op_le op_le qe_int (qv 1) (qe_gI (by rfl) g_MOST)) (qe_one (qe_callB (call_all rfl) (by rfl) n_all boot_allX (qa_cons (qe_comp rfl (CompOk.of sc_is_block.nd (by kernel_rfl)) (qi_tup (qv 0)) (fun _ _ _ _ _ => qts_nil) (fun _ _ _ _ _ => (qe_cmpR op_eq (qe_callB call_lenS (by rfl) n_len PySem.boot_len (qa_cons (qv 0) qa_nil)) (qv 2) (nomark _)))) qa_nil))))))))), ?_⟩
    refine ⟨_, rfl, _, _, _, true, rfl, .tup hp, (by kernel_rfl), _, rfl, iteF ?_⟩
    refine ⟨_, rfl, p, _, rfl, .inr (SqT.of hp), _, _, rfl, rfl, true, by rw [hln]; simp; omega, iteT ⟨_, _, rfl, rfl, true, by rw [hln]; simp; omega, iteF ?_⟩⟩
    refine ⟨_, rfl, p, rfl, ⟨_, SqT.of hp⟩, fun L hL => comp_tup (xs := Ts ls) (fun i ys H2 => ys = (List.replicate i true).map V.bl ∧ H2 L = some (.lst ys) ∧ Same H H2) ⟨rfl, upd_same, Same.upd hL⟩ (fun i ys H2 _ h => SqT.of (h.2.2 _ _ hp)) ?_ ?_⟩
    · rintro i x ys H2 hi ⟨rfl, hL2, sm⟩
      obtain ⟨l, hl, rfl⟩ := Ts_get hi
      have hil : i < (Ts ls).length := (List.getElem?_eq_some_iff.mp hi).1
      refine ⟨_, rfl, _, _, _, true, rfl, .str _, (by kernel_rfl), hL2, by rw [List.length_map, List.length_replicate]; exact small1000 (by omega), Nxt.mk hil ⟨snoc_rep i, upd_same, sm.upd' hL⟩⟩
    · rintro ys H2 ⟨rfl, hL2, sm⟩
      refine ⟨L, _, rfl, SqL.of hL2, ?_⟩
      rw [all_rep]
      refine ⟨_, rfl, iteF ?_⟩
      have hw0 : ls[0].length = w := hb.wid _ (List.getElem_mem _)
      have hz : ls[0].length ≤ sizeLine := Nat.le_of_lt (small1000 (by omega))
      refine ⟨_, rfl, p, _, _, .str (S ls[0]), rfl, rfl, SqT.of (sm _ _ hp), atI_nat (j := 0) (Ts_at (by simp [h0])), _, rfl, hz, ?_⟩
      refine ⟨_, rfl, _, _, rfl, rfl, true, by rw [hw0]; simp; omega, iteT ⟨_, _, rfl, rfl, true, by rw [hw0]; simp; omega, iteT ?_⟩⟩
      refine ⟨_, rfl, p, rfl, ⟨_, SqT.of (sm _ _ hp)⟩, fun L2 hL3 => comp_tup (xs := Ts ls) (fun i ys H3 => ys = (List.replicate i true).map V.bl ∧ H3 L2 = some (.lst ys) ∧ Same H H3) ⟨rfl, upd_same, sm.upd' (sm.free hL3)⟩ (fun i ys H2 _ h => SqT.of (h.2.2 _ _ hp)) ?_ ?_⟩
      · rintro i x ys H3 hi ⟨rfl, hL4, sm3⟩
        obtain ⟨l, hl, rfl⟩ := Ts_get hi
        have hil : i < (Ts ls).length := (List.getElem?_eq_some_iff.mp hi).1
        have hlw : l.length = w := hb.wid _ (List.mem_of_getElem? hl)
        refine ⟨_, rfl, _, rfl, Nat.le_of_lt (small1000 (by omega)), _, rfl, rfl, hL4, by rw [List.length_map, List.length_replicate]; exact small1000 (by omega), Nxt.mk hil ⟨?_, upd_same, sm3.upd' (sm.free hL3)⟩⟩
        rw [hlw, hw0, decide_eq_true rfl]
        exact snoc_rep i
      · rintro ys H3 ⟨rfl, hL4, sm3⟩
        refine ⟨L2, _, rfl, SqL.of hL4, ?_⟩
        rw [all_rep]
        exact q H3 sm3
theorem flat_len {r w : Nat} {ls : List (List Nat)} (h : Blk r w ls) : ls.flatten.length = r * w := by
  rw [List.length_flatten]
  have : ls.map List.length = List.replicate r w := by
    rw [← h.len, List.eq_replicate_iff]
    exact ⟨by simp, fun b hb => by obtain ⟨l, hl, rfl⟩ := List.mem_map.mp hb; exact h.wid l hl⟩
  rw [this, List.sum_replicate_nat]
def spRows : Sp := fun vs H Q _ => ∃ (p : Addr) (ls : List (List Nat)) (r w : Nat), vs = [.ref p] ∧ H p = some (.tup (Ts ls)) ∧ Blk r w ls ∧ 1 ≤ r ∧ r ≤ 9 ∧ 1 ≤ w ∧ w ≤ 9 ∧ (∀ l ∈ ls, ∀ c ∈ l, roC c) ∧ ∀ H', Same H H' → Q (.bl true) H'
theorem ok_are_rows (D : DefAt K mg "are_rows" s_are_rows ["thing"]) (n_all : mg "all" = none) (g_FREE : ∃ t, mg "FREE" = some (.str (S [46]) t)) (D_is_block : Def P w K mg base "is_block" 1 ["thing"] spBlock) (D_is_sign : Def P w K mg base "is_sign" 1 ["thing"] (spSign K)) : Def P w K mg base "are_rows" 2 ["thing"] spRows := by
  refine D.qok sc_are_rows (fun vs H Q E h => ?_) (fun f cdv A outer s H vs Q E hr h => ?_)
  · obtain ⟨p, ls, r, w, rfl, _⟩ := h
    rfl
  · obtain ⟨p, ls, r, w, rfl, hp, hb, r1, r9, w1, w9, hc, q⟩ := h
    have hrw : r * w ≤ 81 := Nat.mul_le_mul r9 w9
    have hfl := flat_len hb
    refine ⟨_, (qss_one (qs_ret (qe_and (qe_own D_is_block (hr.mono (by decide)) rfl (qa_cons (qv 0) qa_nil)) (qe_one (qe_callB (call_all rfl) (by rfl) n_all boot_allX (qa_cons (qe_comp rfl (CompOk.of sc_are_rows.nd (by kernel_rfl)) (qi_str (qe_bm PySem.F.plainAttrs_str PySem.F.slot_str_join PySem.F.type_str_join mt_joinT (qe_strS [] (by decide +kernel)) (qa_cons (qv 0) qa_nil))) (fun _ _ _ _ _ => qts_nil) (fun _ _ _ _ _ => (qe_or (qe_cmpR op_eqS (qv 0) (qe_gS (by rfl) g_FREE) (nomark _)) (qe_one (qe_own D_is_sign (hr.mono (by decide)) rfl (qa_cons (qv 0) qa_nil)))))) qa_nil)))))), ?_⟩
    refine ⟨_, rfl, p, ls, r, w, rfl, hp, hb, r1, r9, w1, w9, fun H1 s1 => ⟨true, rfl, iteT ?_⟩⟩
    refine ⟨rfl, _, rfl, p, ls, rfl, rfl, SqT.of (s1 _ _ hp), by omega, _, rfl, fun L hL => ?_⟩
    refine comp_str (fun i ys H2 => ys = (List.replicate i true).map V.bl ∧ H2 L = some (.lst ys) ∧ Same H H2) ⟨rfl, upd_same, s1.upd' (s1.free hL)⟩ ?_ ?_
    · rintro i c ys H2 hi ⟨rfl, hL2, sm⟩
      have hil : i < ls.flatten.length := (List.getElem?_eq_some_iff.mp hi).1
      obtain ⟨l, hl, hcl⟩ := List.mem_flatten.mp (List.mem_of_getElem? hi)
      have fin : H2 L = some (.lst ((List.replicate i true).map V.bl)) ∧ ((List.replicate i true).map V.bl).length < sizeLine ∧ Nxt ls.flatten.length i ((List.replicate i true).map V.bl ++ [V.bl true] = (List.replicate (i + 1) true).map V.bl ∧ upd H2 L (.lst ((List.replicate i true).map V.bl ++ [V.bl true])) L = some (.lst ((List.replicate i true).map V.bl ++ [V.bl true])) ∧ Same H (upd H2 L (.lst ((List.replicate i true).map V.bl ++ [V.bl true])))) :=
        ⟨hL2, by rw [List.length_map, List.length_replicate]; exact small1000 (by omega), Nxt.mk hil ⟨snoc_rep i, upd_same, sm.upd' (s1.free hL)⟩⟩
      refine ⟨_, rfl, [c], [46], rfl, rfl, _, rfl, ?_⟩
      rcases hc l hl c hcl with e | e
      · subst e
        rw [decide_eq_true rfl]
        exact iteT fin
      · by_cases h46 : [c] = [46]
        · rw [decide_eq_true h46]; exact iteT fin
        · rw [decide_eq_false h46]
          refine iteF ⟨_, rfl, .inr ⟨[c], rfl, by show 1 ≤ 1000; decide, ?_⟩⟩
          rw [show sgB [c] = true from e]
          exact fin
    · rintro ys H2 ⟨rfl, hL2, sm⟩
      refine ⟨L, _, rfl, SqL.of hL2, ?_⟩
      rw [all_rep]
      exact q H2 sm
def spMarks : Sp := fun vs H Q _ => ∃ (p : Addr) (ls : List (List Nat)) (r w : Nat), vs = [.ref p] ∧ H p = some (.tup (Ts ls)) ∧ Blk r w ls ∧ 1 ≤ r ∧ r ≤ 9 ∧ 1 ≤ w ∧ w ≤ 9 ∧ (∀ l ∈ ls, ∀ c ∈ l, mkC c) ∧ ∀ H', Same H H' → Q (.bl true) H'
theorem ok_are_marks (D : DefAt K mg "are_marks" s_are_marks ["thing"]) (n_all : mg "all" = none) (g_MARKS : ∃ t, mg "MARKS" = some (.str (S MK) t)) (D_is_block : Def P w K mg base "is_block" 1 ["thing"] spBlock) : Def P w K mg base "are_marks" 2 ["thing"] spMarks := by
  refine D.qok sc_are_marks (fun vs H Q E h => ?_) (fun f cdv A outer s H vs Q E hr h => ?_)
  · obtain ⟨p, ls, r, w, rfl, _⟩ := h
    rfl
  · obtain ⟨p, ls, r, w, rfl, hp, hb, r1, r9, w1, w9, hc, q⟩ := h
    have hrw : r * w ≤ 81 := Nat.mul_le_mul r9 w9
    have hfl := flat_len hb
    refine ⟨_, (qss_one (qs_ret (qe_and (qe_own D_is_block (hr.mono (by decide)) rfl (qa_cons (qv 0) qa_nil)) (qe_one (qe_callB (call_all rfl) (by rfl) n_all boot_allX (qa_cons (qe_comp rfl (CompOk.of sc_are_marks.nd (by kernel_rfl)) (qi_str (qe_bm PySem.F.plainAttrs_str PySem.F.slot_str_join PySem.F.type_str_join mt_joinT (qe_strS [] (by decide +kernel)) (qa_cons (qv 0) qa_nil))) (fun _ _ _ _ _ => qts_nil) (fun _ _ _ _ _ => (qe_cmpR op_inS (qv 0) (qe_gS (by rfl) g_MARKS) rfl))) qa_nil)))))), ?_⟩
    refine ⟨_, rfl, p, ls, r, w, rfl, hp, hb, r1, r9, w1, w9, fun H1 s1 => ⟨true, rfl, iteT ?_⟩⟩
    refine ⟨rfl, _, rfl, p, ls, rfl, rfl, SqT.of (s1 _ _ hp), by omega, _, rfl, fun L hL => ?_⟩
    refine comp_str (fun i ys H2 => ys = (List.replicate i true).map V.bl ∧ H2 L = some (.lst ys) ∧ Same H H2) ⟨rfl, upd_same, s1.upd' (s1.free hL)⟩ ?_ ?_
    · rintro i c ys H2 hi ⟨rfl, hL2, sm⟩
      have hil : i < ls.flatten.length := (List.getElem?_eq_some_iff.mp hi).1
      obtain ⟨l, hl, hcl⟩ := List.mem_flatten.mp (List.mem_of_getElem? hi)
      refine ⟨_, rfl, c, MK, rfl, rfl, hL2, by rw [List.length_map, List.length_replicate]; exact small1000 (by omega), Nxt.mk hil ⟨?_, upd_same, sm.upd' (s1.free hL)⟩⟩
      rw [decide_eq_true (show c ∈ MK from hc l hl c hcl)]
      exact snoc_rep i
    · rintro ys H2 ⟨rfl, hL2, sm⟩
      refine ⟨L, _, rfl, SqL.of hL2, ?_⟩
      rw [all_rep]
      exact q H2 sm
def spCellOf (K : PySem.W.Frag) : Sp := fun vs H Q _ => ∃ (p : Addr) (ls : List (List Nat)) (r w : Nat) (i j : Int), vs = [.ref p, .int i, .int j] ∧ SqT K H p (Ts ls) ∧ Blk r w ls ∧ 1 ≤ r ∧ r ≤ 9 ∧ w ≤ 9 ∧ Q (.bl (decide (0 ≤ i ∧ i < r ∧ 0 ≤ j ∧ j < w))) H
theorem ok_is_cell_of (D : DefAt K mg "is_cell_of" s_is_cell_of ["rows", "row", "column"]) (n_len : mg "len" = none) (D_is_whole : Def P w K mg base "is_whole" 1 ["thing"] spWhole) : Def P w K mg base "is_cell_of" 2 ["rows", "row", "column"] (spCellOf K) := by
  refine D.qok sc_is_cell_of (fun vs H Q E h => ?_) (fun f cdv A outer s H vs Q E hr h => ?_)
  · obtain ⟨p, ls, r, w, i, j, rfl, _⟩ := h
    rfl
  · obtain ⟨p, ls, r, w, i, j, rfl, hp, hb, r1, r9, w9, q⟩ := h
    have hln : (Ts ls).length = r := by rw [List.length_map, hb.len]
    have h0 : 0 < ls.length := by rw [hb.len]; omega
    have hw0 : ls[0].length = w := hb.wid _ (List.getElem_mem _)
    refine ⟨_, (qss_cons (qs_if (QW.qt (qw_or (qt_not (qt_val (qe_own D_is_whole (hr.mono (by decide)) rfl (qa_cons (qv 1) qa_nil)))) (qw_or1 (qt_not (qt_val (qe_own D_is_whole (hr.mono (by decide)) rfl (qa_cons (qv 2) qa_nil))))))) (qss_one (qs_ret qe_bl)) qss_nil) (qss_one (qs_ret (qe_and (qe_chain op_le op_lt qe_int (qv 1) (qe_callB call_len_seq (by rfl) n_len PySem.boot_len (qa_cons (qv 0) qa_nil))) (qe_one (qe_chain op_le op_lt qe_int (qv 2) (qe_callB call_lenS (by rfl) n_len PySem.boot_len (qa_cons (qe_ix ix_tup (qv 0) qe_int (fun _ _ => rfl)) qa_nil)))))))), ?_⟩
    refine ⟨_, rfl, i, rfl, _, rfl, iteF ⟨_, rfl, j, rfl, _, rfl, iteF ?_⟩⟩
    refine ⟨_, rfl, _, _, rfl, rfl, _, rfl, ?_⟩
    by_cases h1 : 0 ≤ i
    · rw [decide_eq_true h1]
      refine iteT ⟨_, rfl, p, _, rfl, .inr hp, _, _, rfl, rfl, _, rfl, ?_⟩
      rw [hln]
      by_cases h2 : i < (r : Int)
      · rw [decide_eq_true h2]
        refine iteT ⟨_, rfl, _, _, rfl, rfl, _, rfl, ?_⟩
        by_cases h3 : 0 ≤ j
        · rw [decide_eq_true h3]
          refine iteT ⟨_, rfl, p, _, _, .str (S ls[0]), rfl, rfl, hp, atI_nat (j := 0) (Ts_at (by simp [h0])), _, rfl, Nat.le_of_lt (small1000 (by omega)), _, _, rfl, rfl, ?_⟩
          rw [hw0]
          simpa [h1, h2, h3] using q
        · rw [decide_eq_false h3]
          refine iteF ?_
          simpa [h1, h2, h3] using q
      · rw [decide_eq_false h2]
        refine iteF ?_
        simpa [h1, h2] using q
    · rw [decide_eq_false h1]
      refine iteF ⟨_, rfl, iteF ?_⟩
      simpa [h1] using q
def spBegin (K : PySem.W.Frag) : Sp := fun vs H Q _ => ∃ (p b : Addr) (ls : List (List Nat)) (r w : Nat) (i j : Nat), vs = [.ref p, .ref b] ∧ H p = some (.tup (Ts ls)) ∧ H b = some (.tup [.int i, .int j]) ∧ Blk r w ls ∧ 1 ≤ r ∧ r ≤ 9 ∧ w ≤ 9 ∧ i < r ∧ j < w ∧ Q (.bl true) H
theorem ok_is_begin_of (D : DefAt K mg "is_begin_of" s_is_begin_of ["rows", "thing"]) (n_len : mg "len" = none) (n_tuple : mg "tuple" = none) (n_isinstance : mg "isinstance" = none) (D_is_cell_of : Def P w K mg base "is_cell_of" 2 ["rows", "row", "column"] (spCellOf K)) : Def P w K mg base "is_begin_of" 3 ["rows", "thing"] (spBegin K) := by
  refine D.qok sc_is_begin_of (fun vs H Q E h => ?_) (fun f cdv A outer s H vs Q E hr h => ?_)
  · obtain ⟨p, b, ls, r, w, i, j, rfl, _⟩ := h
    rfl
  · obtain ⟨p, b, ls, r, w, i, j, rfl, hp, hb, hB, r1, r9, w9, hi, hj, q⟩ := h
    refine ⟨_, (qss_one (qs_ret (qe_and (qe_callB call_isinst (by rfl) n_isinstance PyProof.Rows.boot_isinstance (qa_cons (qv 1) (qa_cons (qe_bltn (v := .ty "tuple") (by rfl) n_tuple PyProof.Rows.boot_tuple rfl) qa_nil))) (qe_and (qe_cmpR op_eq (qe_callB call_len_seq (by rfl) n_len PySem.boot_len (qa_cons (qv 1) qa_nil)) qe_int (nomark _)) (qe_one (qe_own D_is_cell_of (hr.mono (by decide)) rfl (qa_cons (qv 0) (qa_cons (qe_ix ix_tup (qv 1) qe_int (fun _ _ => rfl)) (qa_cons (qe_ix ix_tup (qv 1) qe_int (fun _ _ => rfl)) qa_nil))))))))), ?_⟩
    refine ⟨_, rfl, _, _, _, true, rfl, .tup hb, (by kernel_rfl), true, rfl, iteT ?_⟩
    refine ⟨_, rfl, b, _, rfl, .inr (SqT.of hb), rfl, true, rfl, iteT ?_⟩
    refine ⟨_, rfl, _, rfl, b, _, _, .int i, rfl, rfl, SqT.of hb, atI_nat (j := 0) rfl, _, rfl, b, _, _, .int j, rfl, rfl, SqT.of hb, atI_nat (j := 1) rfl, ?_⟩
    refine ⟨p, ls, r, w, i, j, rfl, SqT.of hp, hB, r1, r9, w9, ?_⟩
    rw [decide_eq_true ⟨by omega, by omega, by omega, by omega⟩]
    exact q
def spBoard : Sp := fun vs H Q _ => ∃ (pr pm pb : Addr) (r w : Nat) (rows marks : List (List Nat)) (i j : Nat), vs = [.ref pr, .ref pm, .ref pb] ∧ H pr = some (.tup (Ts rows)) ∧ H pm = some (.tup (Ts marks)) ∧ H pb = some (.tup [.int i, .int j]) ∧ Brd r w rows marks i j ∧ ∀ H', Same H H' → Q (.bl true) H'
theorem ok_is_board (D : DefAt K mg "is_board" s_is_board ["rows", "marks", "begin"]) (n_len : mg "len" = none) (D_are_rows : Def P w K mg base "are_rows" 2 ["thing"] spRows) (D_are_marks : Def P w K mg base "are_marks" 2 ["thing"] spMarks) (D_is_begin_of : Def P w K mg base "is_begin_of" 3 ["rows", "thing"] (spBegin K)) :
    Def P w K mg base "is_board" 4 ["rows", "marks", "begin"] spBoard := by
  refine D.qok sc_is_board (fun vs H Q E h => ?_) (fun f cdv A outer s H vs Q E hr h => ?_)
  · obtain ⟨pr, pm, pb, r, w, rows, marks, i, j, rfl, _⟩ := h
    rfl
  · obtain ⟨pr, pm, pb, r, w, rows, marks, i, j, rfl, hr', hm, hb, B, q⟩ := h
    have l1 : (Ts rows).length = r := by rw [List.length_map, B.br.len]
    have l2 : (Ts marks).length = r := by rw [List.length_map, B.bm.len]
    have h0 : 0 < rows.length := by rw [B.br.len]; exact B.r1
    have h0' : 0 < marks.length := by rw [B.bm.len]; exact B.r1
    have w0 : rows[0].length = w := B.br.wid _ (List.getElem_mem _)
    have w0' : marks[0].length = w := B.bm.wid _ (List.getElem_mem _)
    have w9 := B.w9
    refine ⟨_, (qss_cons (qs_if (QW.qt (qw_or (qt_not (qt_val (qe_own D_are_rows (hr.mono (by decide)) rfl (qa_cons (qv 0) qa_nil)))) (qw_or1 (qt_not (qt_val (qe_own D_are_marks (hr.mono (by decide)) rfl (qa_cons (qv 1) qa_nil))))))) (qss_one (qs_ret qe_bl)) qss_nil) (qss_cons (qs_if (QW.qt (qw_or (qt_cmpR op_ne (qe_callB call_len_seq (by rfl) n_len PySem.boot_len (qa_cons (qv 1) qa_nil)) (qe_callB call_len_seq (by rfl) n_len PySem.boot_len (qa_cons (qv 0) qa_nil)) (nomark _)) (qw_or1 (qt_cmpR op_ne (qe_callB call_lenS (by rfl) n_len PySem.boot_len (qa_cons (qe_ix ix_tup (qv 1) qe_int (fun _ _ => rfl)) qa_nil)) (qe_callB call_lenS (by rfl) n_len PySem.boot_len (qa_cons (qe_ix ix_tup (qv 0) qe_int (fun _ _ => rfl)) qa_nil)) (nomark _))))) (qss_one (qs_ret qe_bl)) qss_nil) (qss_one (qs_ret (qe_own D_is_begin_of (hr.mono (by decide)) rfl (qa_cons (qv 0) (qa_cons (qv 2) qa_nil))))))), ?_⟩
    refine ⟨_, rfl, pr, rows, r, w, rfl, hr', B.br, B.r1, B.r9, B.w1, B.w9, B.cr, fun H1 s1 => ⟨_, rfl, iteF ?_⟩⟩
    refine ⟨_, rfl, pm, marks, r, w, rfl, s1 _ _ hm, B.bm, B.r1, B.r9, B.w1, B.w9, B.cm, fun H2 s2 => ⟨_, rfl, iteF ?_⟩⟩
    have s12 := s1.trans s2
    refine ⟨_, rfl, pm, _, rfl, .inr (SqT.of (s12 _ _ hm)), _, rfl, pr, _, rfl, .inr (SqT.of (s12 _ _ hr')), rfl, _, rfl, ?_⟩
    refine iteNS (by rw [l1, l2]) ?_
    refine ⟨_, rfl, pm, _, _, .str (S marks[0]), rfl, rfl, SqT.of (s12 _ _ hm), atI_nat (j := 0) (Ts_at (by simp [h0'])), _, rfl, Nat.le_of_lt (small1000 (by omega)), _, rfl, pr, _, _, .str (S rows[0]), rfl, rfl, SqT.of (s12 _ _ hr'), atI_nat (j := 0) (Ts_at (by simp [h0])), _, rfl, Nat.le_of_lt (small1000 (by omega)), rfl, _, rfl, ?_⟩
    refine iteNS (by rw [w0, w0']) ?_
    refine ⟨_, rfl, _, rfl, pr, pb, rows, r, w, i, j, rfl, s12 _ _ hr', s12 _ _ hb, B.br, B.r1, B.r9, B.w9, B.bi, B.bj, ?_⟩
    exact q H2 s12
structure BoardCls (K : PySem.W.Frag) (C : Addr) : Prop where
  cl : Cls K C
  nr : NoAttr K C "rows"
  nm : NoAttr K C "marks"
  nb : NoAttr K C "begin"
/-- a board stands at p -/
structure BoardAt (C : Addr) (H : Hp) (p : Addr) (r w : Nat) (rows marks : List (List Nat)) (i j : Nat) : Prop where
  ex : ∃ dx pr pm pb, H p = some (.ins C dx [("rows", .ref pr), ("marks", .ref pm), ("begin", .ref pb)]) ∧ H pr = some (.tup (Ts rows)) ∧ H pm = some (.tup (Ts marks)) ∧ H pb = some (.tup [.int i, .int j])
  ok : Brd r w rows marks i j
theorem BoardAt.mv {C : Addr} {H H' : Hp} {p : Addr} {r w : Nat} {rows marks : List (List Nat)} {i j : Nat} (B : BoardAt C H p r w rows marks i j) (s : Same H H') : BoardAt C H' p r w rows marks i j := by
  obtain ⟨⟨dx, pr, pm, pb, a, b, c, d⟩, o⟩ := B
  exact ⟨⟨dx, pr, pm, pb, s _ _ a, s _ _ b, s _ _ c, s _ _ d⟩, o⟩
def spBInit (C : Addr) : Sp := fun vs H Q _ => ∃ (p dx pr pm pb : Addr) (r w : Nat) (rows marks : List (List Nat)) (i j : Nat), vs = [.ref p, .ref pr, .ref pm, .ref pb] ∧ H p = some (.ins C dx []) ∧ H pr = some (.tup (Ts rows)) ∧ H pm = some (.tup (Ts marks)) ∧ H pb = some (.tup [.int i, .int j]) ∧ Brd r w rows marks i j ∧
  ∀ H', (∀ b o, H b = some o → b ≠ p → H' b = some o) → H' p = some (.ins C dx [("rows", .ref pr), ("marks", .ref pm), ("begin", .ref pb)]) → Q .non H'
theorem ok_board_init {f C : Addr} {fd : FuncData} (F : Fun K "__init__" "Board.__init__" s_Board_init f fd) (T : BoardCls K C) (D_is_board : Def P w K mg base "is_board" 4 ["rows", "marks", "begin"] spBoard) : FnOk P w K mg base CX0 5 f fd ["self", "rows", "marks", "begin"] (spBInit C) := by
  refine F.qok sc_Board_init (fun vs H Q E h => ?_) (fun cdv A outer s H vs Q E hr h => ?_)
  · obtain ⟨p, dx, pr, pm, pb, r, w, rows, marks, i, j, rfl, _⟩ := h
    rfl
  · obtain ⟨p, dx, pr, pm, pb, r, w, rows, marks, i, j, rfl, hp, hr', hm, hb, B, q⟩ := h
    refine ⟨_, (qss_cons (qs_if (qt_not (qt_val (qe_own D_is_board (hr.mono (by decide)) rfl (qa_cons (qv 1) (qa_cons (qv 2) (qa_cons (qv 3) qa_nil)))))) qss_never qss_nil) (qss_cons (qs_fld (qv 0) (qv 1) rfl) (qss_cons (qs_fld (qv 0) (qv 2) rfl) (qss_one (qs_fld (qv 0) (qv 3) rfl))))), ?_⟩
    refine ⟨_, rfl, _, rfl, _, rfl, pr, pm, pb, r, w, rows, marks, i, j, rfl, hr', hm, hb, B, fun H1 s1 => ⟨_, rfl, iteF ?_⟩⟩
    refine ⟨_, rfl, _, rfl, p, C, dx, _, rfl, s1 _ _ hp, T.cl, T.nr, by show 0 < 1000; decide, ?_⟩
    refine ⟨_, rfl, _, rfl, p, C, dx, _, rfl, upd_same, T.cl, T.nm, by show 1 < 1000; decide, ?_⟩
    refine ⟨_, rfl, _, rfl, p, C, dx, _, rfl, upd_same, T.cl, T.nb, by show 2 < 1000; decide, ?_⟩
    refine q _ (fun b o e hne => ?_) ?_
    · rw [upd_ne hne, upd_ne hne, upd_ne hne]; exact s1 _ _ e
    · exact upd_same
/-! ### at, is_free -/
def atC (rows : List (List Nat)) (r w : Nat) (i j : Int) : Nat := if 0 ≤ i ∧ i < r ∧ 0 ≤ j ∧ j < w then (rows.getD i.toNat []).getD j.toNat 0 else 46
/-! ### runs -/
def colOf (rows : List (List Nat)) (j : Nat) : List Nat := rows.map fun l => l.getD j 0
def lineOf (rows : List (List Nat)) (i j : Nat) (way : Int) : List Nat := if way = 0 then rows.getD i [] else colOf rows j
def placeOf (i j : Nat) (way : Int) : Nat := if way = 0 then j else i
def spCol : Sp := fun vs H Q _ => ∃ (p : Addr) (rows : List (List Nat)) (r w j : Nat), vs = [.ref p, .int j] ∧ H p = some (.tup (Ts rows)) ∧ Blk r w rows ∧ r ≤ 9 ∧ w ≤ 9 ∧ j < w ∧ ∀ H', Same H H' → Q (.str (S (colOf rows j))) H'
theorem ok_column_text (D : DefAt K mg "column_text" s_column_text ["rows", "column"]) : Def P w K mg base "column_text" 1 ["rows", "column"] spCol := by
  refine D.qok sc_column_text (fun vs H Q E h => ?_) (fun f cdv A outer s H vs Q E hr h => ?_)
  · obtain ⟨p, rows, r, w, j, rfl, _⟩ := h
    rfl
  · obtain ⟨p, rows, r, w, j, rfl, hp, hb, r9, w9, hj, q⟩ := h
    refine ⟨_, (qss_one (qs_ret (qe_bm PySem.F.plainAttrs_str PySem.F.slot_str_join PySem.F.type_str_join mt_join (qe_strS [] (by decide +kernel)) (qa_cons (qe_comp rfl (CompOk.of sc_column_text.nd (by kernel_rfl)) (qi_tup (qv 0)) (fun _ _ _ _ _ => qts_nil) (fun _ _ _ _ _ => (qe_ix ix_S (qv 0) (qv 2) (fun _ _ => rfl)))) qa_nil)))), ?_⟩
    have hln : (Ts rows).length = r := by rw [List.length_map, hb.len]
    refine ⟨rfl, _, rfl, p, rfl, ⟨_, SqT.of hp⟩, fun L hL => comp_tup (xs := Ts rows) (fun i ys H2 => ys = Ts (ones ((rows.take i).map fun l => l.getD j 0)) ∧ H2 L = some (.lst ys) ∧ Same H H2) ⟨rfl, upd_same, Same.upd hL⟩ (fun i ys H2 _ h => SqT.of (h.2.2 _ _ hp)) ?_ ?_⟩
    · rintro i x ys H2 hi ⟨rfl, hL2, sm⟩
      obtain ⟨l, hl, rfl⟩ := Ts_get hi
      have hil : i < (Ts rows).length := (List.getElem?_eq_some_iff.mp hi).1
      have hlw : l.length = w := hb.wid _ (List.mem_of_getElem? hl)
      refine ⟨_, rfl, _, rfl, l, _, l.getD j 0, rfl, rfl, Nat.le_of_lt (small1000 (by omega)), ?_, hL2, ?_, Nxt.mk hil ⟨?_, upd_same, sm.upd' hL⟩⟩
      · exact atI_nat (by rw [List.getD_eq_getElem?_getD, List.getElem?_eq_getElem (by omega)]; rfl)
      · rw [List.length_map, List.length_map, List.length_map, List.length_take]; exact small1000 (by omega)
      · rw [Ts_snoc, ones_snoc, List.take_add_one, hl]
        simp
    · rintro ys H2 ⟨rfl, hL2, sm⟩
      rw [hln, ← hb.len, List.take_length] at hL2
      refine ⟨L, _, rfl, rfl, SqL.of hL2, ?_, ?_⟩
      · rw [flat1, List.length_map, hb.len]; omega
      · rw [flat1]; exact q H2 sm
theorem lineOf_len {r w : Nat} {rows : List (List Nat)} (hb : Blk r w rows) {i j : Nat} (hi : i < r) {way : Int} : (lineOf rows i j way).length = if way = 0 then w else r := by
  unfold lineOf
  by_cases h : way = 0
  · rw [if_pos h, if_pos h, List.getD_eq_getElem?_getD, List.getElem?_eq_getElem (by rw [hb.len]; exact hi)]
    exact hb.wid _ (List.getElem_mem _)
  · rw [if_neg h, if_neg h]; unfold colOf; rw [List.length_map, hb.len]
structure Run (l : List Nat) (k : Nat) where
  ahead : List Nat
  signs : List Nat
def runOf (l : List Nat) (k : Nat) : Run l k := ⟨tailF (l.take k), tailF (l.take k) ++ headF (l.drop k)⟩
theorem tailF_len (l : List Nat) : (tailF l).length ≤ l.length := by
  unfold tailF
  rw [List.length_reverse]
  exact Nat.le_trans (List.takeWhile_prefix _).length_le (by rw [List.length_reverse]; exact Nat.le_refl _)
theorem headF_len (l : List Nat) : (headF l).length ≤ l.length := (List.takeWhile_prefix _).length_le
/-- what a run is told as -/
def runV (i j : Nat) (way : Int) (l : List Nat) : List V :=
  if way = 0 then [.int i, .int ((j : Int) - (tailF (l.take j)).length), .str (S (tailF (l.take j) ++ headF (l.drop j)))] else [.int ((i : Int) - (tailF (l.take i)).length), .int j, .str (S (tailF (l.take i) ++ headF (l.drop i)))]
def spRun (C : Addr) : Sp := fun vs H Q _ => ∃ (p : Addr) (r w : Nat) (rows marks : List (List Nat)) (bi bj i j : Nat) (way : Int), vs = [.ref p, .int i, .int j, .int way] ∧ BoardAt C H p r w rows marks bi bj ∧ i < r ∧ j < w ∧ (way = 0 ∨ way = 1) ∧
  ∀ (t : Addr) (H' : Hp), Same H H' → H t = none → H' t = some (.tup (runV i j way (lineOf rows i j way))) → Q (.ref t) H'
theorem ok_run {f C : Addr} {fd : FuncData} (F : Fun K "run" "Board.run" s_Board_run f fd) (T : BoardCls K C) (n_len : mg "len" = none) (g_FREE : ∃ t, mg "FREE" = some (.str (S [46]) t)) (D_column_text : Def P w K mg base "column_text" 1 ["rows", "column"] spCol) : FnOk P w K mg base CX0 2 f fd ["self", "row", "column", "way"] (spRun C) := by
  refine F.qok sc_Board_run (fun vs H Q E h => ?_) (fun cdv A outer s H vs Q E hr h => ?_)
  · obtain ⟨p, r, w, rows, marks, bi, bj, i, j, way, rfl, _⟩ := h
    rfl
  · obtain ⟨p, r, w, rows, marks, bi, bj, i, j, way, rfl, B, hi, hj, hway, q⟩ := h
    obtain ⟨⟨dx, pr, pm, pb, hp, hr', hm, hb⟩, O⟩ := B
    have r9 := O.r9
    have w9 := O.w9
    refine ⟨_, (qss_cons (qs_set (i := 4) sc_Board_run.nd rfl (Or.inl rfl) (qe_ifExp (qt_cmpR op_eq (qv 3) qe_int (nomark _)) (qe_ix ix_tup (qe_fld (qv 0) rfl) (qv 1) (fun _ _ => rfl)) (qe_own D_column_text (hr.mono (by decide)) rfl (qa_cons (qe_fld (qv 0) rfl) (qa_cons (qv 2) qa_nil))))) (qss_cons (qs_set (i := 5) sc_Board_run.nd rfl (Or.inl rfl) (qe_ifExp (qt_cmpR op_eq (qv 3) qe_int (nomark _)) (qv 2) (qv 1))) (qss_cons (qs_set (i := 6) sc_Board_run.nd rfl (Or.inl rfl) (qe_ix ix_tup (qe_bm PySem.F.plainAttrs_str PySem.F.slot_str_rpartition PySem.F.type_str_rpartition mt_rpart (qe_slice sl_S (qv 4) qo_none (qo_some (qv 5))) (qa_cons (qe_gS (by rfl) g_FREE) qa_nil)) qe_int (fun _ _ => rfl))) (qss_cons (qs_set (i := 7) sc_Board_run.nd rfl (Or.inl rfl) (qe_op op_addS (qv 6) (qe_ix ix_tup (qe_bm PySem.F.plainAttrs_str PySem.F.slot_str_partition PySem.F.type_str_partition mt_part (qe_slice sl_S (qv 4) (qo_some (qv 5)) qo_none) (qa_cons (qe_gS (by rfl) g_FREE) qa_nil)) qe_int (fun _ _ => rfl)))) (qss_cons (qs_set (i := 8) sc_Board_run.nd rfl (Or.inl rfl) (qe_op op_sub (qv 5) (qe_callB call_lenS (by rfl) n_len PySem.boot_len (qa_cons (qv 6) qa_nil)))) (qss_one (qs_ret (qe_ifExp (qt_cmpR op_eq (qv 3) qe_int (nomark _)) (qe_tup (qa_cons (qv 1) (qa_cons (qv 8) (qa_cons (qv 7) qa_nil)))) (qe_tup (qa_cons (qv 8) (qa_cons (qv 2) (qa_cons (qv 7) qa_nil)))))))))))), ?_⟩
    have hgi : rows[i]? = some (rows.getD i []) := by rw [List.getD_eq_getElem?_getD, List.getElem?_eq_getElem (by rw [O.br.len]; exact hi)]; rfl
    rcases hway with rfl | rfl
    · have hll : (lineOf rows i j 0).length = w := lineOf_len O.br hi
      have el : rows.getD i [] = lineOf rows i j 0 := rfl
      rw [el] at hgi
      have hz : ∀ l : List Nat, l.length ≤ 100 → l.length ≤ sizeLine := fun l h => Nat.le_of_lt (small1000 (by omega))
      refine ⟨_, rfl, rfl, _, rfl, iteT ?_⟩
      refine ⟨_, rfl, p, C, dx, _, _, rfl, hp, T.cl, T.nr, rfl, _, rfl, pr, _, _, _, rfl, rfl, SqT.of hr', atI_nat (Ts_at hgi), ?_⟩
      generalize hL : lineOf rows i j 0 = l at hll hgi ⊢
      refine ⟨_, rfl, rfl, _, rfl, iteT ⟨_, rfl, ?_⟩⟩
      refine ⟨_, rfl, _, rfl, _, rfl, l, rfl, hz _ (by omega), rfl, ?_⟩
      rw [cut_to]
      refine ⟨_, rfl, rfl, by rw [List.length_take]; omega, fun p1 a1 b1 hp1 => ?_⟩
      refine ⟨p1, _, _, _, rfl, rfl, SqT.of upd_same, atI_nat (j := 2) rfl, ?_⟩
      have s1 : Same H (upd H p1 (.tup [.str a1, .str b1, .str (S (tailF (l.take j)))])) := Same.upd hp1
      generalize upd H p1 (.tup [.str a1, .str b1, .str (S (tailF (l.take j)))]) = H1 at s1 ⊢
      have t1 := tailF_len (l.take j)
      have t2 := headF_len (l.drop j)
      rw [List.length_take] at t1
      rw [List.length_drop] at t2
      refine ⟨_, rfl, _, rfl, _, rfl, _, rfl, l, rfl, hz _ (by omega), rfl, ?_⟩
      rw [cut_from]
      refine ⟨_, rfl, rfl, by rw [List.length_drop]; omega, fun p2 b2 c2 hp2 => ?_⟩
      refine ⟨p2, _, _, _, rfl, rfl, SqT.of upd_same, atI_nat (j := 0) rfl, _, _, rfl, rfl, Nat.le_of_lt (small1000 (by omega)), ?_⟩
      have s2 := s1.upd' (o := HO.tup [.str (S (headF (l.drop j))), .str b2, .str c2]) (s1.free hp2)
      generalize upd H1 p2 (HO.tup [.str (S (headF (l.drop j))), .str b2, .str c2]) = H2 at s2 ⊢
      refine ⟨_, rfl, _, rfl, _, rfl, hz _ (by omega), _, _, rfl, rfl, ?_⟩
      refine ⟨_, rfl, rfl, _, rfl, iteT ?_⟩
      refine ⟨_, rfl, _, rfl, _, rfl, by show 3 ≤ sizeLine; decide, fun t ht => ?_⟩
      exact q t _ (s2.upd' (s2.free ht)) (s2.free ht) (by rw [upd_same, hL]; rfl)
    · have hll : (lineOf rows i j 1).length = r := lineOf_len O.br hi
      have el : colOf rows j = lineOf rows i j 1 := rfl
      have hz : ∀ l : List Nat, l.length ≤ 100 → l.length ≤ sizeLine := fun l h => Nat.le_of_lt (small1000 (by omega))
      refine ⟨_, rfl, rfl, _, rfl, iteF ?_⟩
      refine ⟨_, rfl, p, C, dx, _, _, rfl, hp, T.cl, T.nr, rfl, _, rfl, pr, rows, r, w, j, rfl, hr', O.br, r9, w9, hj, fun H0 s0 => ?_⟩
      rw [el]
      generalize hL : lineOf rows i j 1 = l at hll ⊢
      refine ⟨_, rfl, rfl, _, rfl, iteF ⟨_, rfl, ?_⟩⟩
      refine ⟨_, rfl, _, rfl, _, rfl, l, rfl, hz _ (by omega), rfl, ?_⟩
      rw [cut_to]
      refine ⟨_, rfl, rfl, by rw [List.length_take]; omega, fun p1 a1 b1 hp1 => ?_⟩
      refine ⟨p1, _, _, _, rfl, rfl, SqT.of upd_same, atI_nat (j := 2) rfl, ?_⟩
      have s1 : Same H (upd H0 p1 (.tup [.str a1, .str b1, .str (S (tailF (l.take i)))])) := s0.upd' (s0.free hp1)
      generalize upd H0 p1 (.tup [.str a1, .str b1, .str (S (tailF (l.take i)))]) = H1 at s1 ⊢
      have t1 := tailF_len (l.take i)
      have t2 := headF_len (l.drop i)
      rw [List.length_take] at t1
      rw [List.length_drop] at t2
      refine ⟨_, rfl, _, rfl, _, rfl, _, rfl, l, rfl, hz _ (by omega), rfl, ?_⟩
      rw [cut_from]
      refine ⟨_, rfl, rfl, by rw [List.length_drop]; omega, fun p2 b2 c2 hp2 => ?_⟩
      refine ⟨p2, _, _, _, rfl, rfl, SqT.of upd_same, atI_nat (j := 0) rfl, _, _, rfl, rfl, Nat.le_of_lt (small1000 (by omega)), ?_⟩
      have s2 := s1.upd' (o := HO.tup [.str (S (headF (l.drop i))), .str b2, .str c2]) (s1.free hp2)
      generalize upd H1 p2 (HO.tup [.str (S (headF (l.drop i))), .str b2, .str c2]) = H2 at s2 ⊢
      refine ⟨_, rfl, _, rfl, _, rfl, hz _ (by omega), _, _, rfl, rfl, ?_⟩
      refine ⟨_, rfl, rfl, _, rfl, iteF ?_⟩
      refine ⟨_, rfl, _, rfl, _, rfl, by show 3 ≤ sizeLine; decide, fun t ht => ?_⟩
      exact q t _ (s2.upd' (s2.free ht)) (s2.free ht) (by rw [upd_same, hL]; rfl)

end
end My
end

section
set_option Elab.async false
set_option linter.all false
set_option maxRecDepth 100000
set_option maxHeartbeats 2000000
namespace My
open PySem L2
section
variable {P : Program} {w : World} {K : PySem.W.Frag} {mg : Str → Option Value} {base : Heap}
/-! ### layings: cells with their signs -/
abbrev Trip := Nat × Nat × Nat
def rk (t : Trip) : Nat := t.1 * 1000 + t.2.1
def sw (t : Trip) : Trip := (t.2.1, t.1, t.2.2)
def okT (t : Trip) : Prop := t.1 < 9 ∧ t.2.1 < 9 ∧ t.2.2 < 128
def TripAt (H : Hp) (a : Addr) (t : Trip) : Prop := H a = some (.tup [.int t.1, .int t.2.1, .str (S [t.2.2])])
def tO (H : Hp) (a : Addr) : Trip := match H a with
  | some (.tup [.int x, .int y, .str z]) => (x.toNat, y.toNat, z.cps.toList.headD 0)
  | _ => (0, 0, 0)
theorem tO_of {H : Hp} {a : Addr} {t : Trip} (h : TripAt H a t) : tO H a = t := by
  unfold tO
  rw [show H a = _ from h]
  rfl
structure LayL (H : Hp) (as : List Addr) (ts : List Trip) : Prop where
  at_ : ∀ a ∈ as, TripAt H a (tO H a)
  eq : as.map (tO H) = ts
theorem LayL.mvT {H H' : Hp} {as : List Addr} {ts : List Trip} (k : ∀ a xs, H a = some (.tup xs) → H' a = some (.tup xs)) (h : LayL H as ts) : LayL H' as ts := by
  have e : ∀ a ∈ as, tO H' a = tO H a := fun a ha => tO_of (k a _ (h.at_ a ha))
  exact ⟨fun a ha => by rw [e a ha]; exact k a _ (h.at_ a ha), by rw [← h.eq]; exact List.map_congr_left e⟩
theorem LayL.mv {H H' : Hp} {as : List Addr} {ts : List Trip} (k : Same H H') (h : LayL H as ts) : LayL H' as ts := h.mvT fun a xs e => k a _ e
theorem tup_updL {H : Hp} {M : Addr} {ys zs : List V} (hM : H M = some (.lst ys)) : ∀ a xs, H a = some (.tup xs) → upd H M (.lst zs) a = some (.tup xs) := fun a xs e => by
  have ne : a ≠ M := fun z => by rw [z, hM] at e; cases e
  rw [upd_ne ne]; exact e
theorem LayL.snoc {H : Hp} {as : List Addr} {ts : List Trip} {a : Addr} {t : Trip} (h : LayL H as ts) (ha : TripAt H a t) : LayL H (as ++ [a]) (ts ++ [t]) := by
  refine ⟨fun b hb => ?_, by rw [List.map_append, h.eq, List.map_singleton, tO_of ha]⟩
  rcases List.mem_append.mp hb with z | z
  · exact h.at_ b z
  · rw [List.mem_singleton.mp z, tO_of ha]; exact ha
theorem LayL.nil {H : Hp} : LayL H [] [] := ⟨fun a h => by simp at h, rfl⟩
theorem LayL.len {H : Hp} {as : List Addr} {ts : List Trip} (h : LayL H as ts) : as.length = ts.length := by rw [← h.eq, List.length_map]
theorem LayL.get {H : Hp} {as : List Addr} {ts : List Trip} (h : LayL H as ts) {i : Nat} (hi : i < as.length) : ∃ t, ts[i]? = some t ∧ TripAt H as[i] t :=
  ⟨tO H as[i], by rw [← h.eq]; simp [hi], h.at_ _ (List.getElem_mem _)⟩
theorem LayL.perm {H : Hp} {as as' : List Addr} {ts : List Trip} (h : LayL H as ts) (p : as'.Perm as) : LayL H as' (as'.map (tO H)) ∧ (as'.map (tO H)).Perm ts :=
  ⟨⟨fun a ha => h.at_ a (p.mem_iff.mp ha), rfl⟩, by rw [← h.eq]; exact p.map _⟩
/-! ### turned rows, rows with a laying -/
def turnR (rows : List (List Nat)) (w : Nat) : List (List Nat) := (List.range w).map (colOf rows)
theorem turn_blk {r w : Nat} {rows : List (List Nat)} (h : Blk r w rows) : Blk w r (turnR rows w) :=
  ⟨by unfold turnR; rw [List.length_map, List.length_range], fun l hl => by
    obtain ⟨j, _, rfl⟩ := List.mem_map.mp hl
    unfold colOf; rw [List.length_map, h.len]⟩
theorem turn_mem {r w : Nat} {rows : List (List Nat)} (h : Blk r w rows) {Pc : Nat → Prop} (hp : ∀ l ∈ rows, ∀ c ∈ l, Pc c) : ∀ l ∈ turnR rows w, ∀ c ∈ l, Pc c := fun l hl c hc => by
  obtain ⟨j, hj, rfl⟩ := List.mem_map.mp hl
  have hj := List.mem_range.mp hj
  obtain ⟨l', hl', rfl⟩ := List.mem_map.mp hc
  have hw := h.wid l' hl'
  rw [List.getD_eq_getElem?_getD, List.getElem?_eq_getElem (by omega)]
  exact hp l' hl' _ (List.getElem_mem _)
theorem turn_turn {r w : Nat} {rows : List (List Nat)} (h : Blk r w rows) : turnR (turnR rows w) r = rows := by
  apply List.ext_getElem
  · unfold turnR; rw [List.length_map, List.length_range, h.len]
  · intro i h1 h2
    have hw := h.wid rows[i] (List.getElem_mem _)
    rw [show (turnR (turnR rows w) r)[i] = colOf (turnR rows w) i by simp [turnR]]
    unfold colOf turnR
    rw [List.map_map]
    apply List.ext_getElem
    · rw [List.length_map, List.length_range, hw]
    · intro j h3 h4
      rw [List.getElem_map, List.getElem_range]
      show (rows.map fun l => l.getD j 0).getD i 0 = rows[i][j]
      rw [List.getD_eq_getElem?_getD, List.getElem?_eq_getElem (by rw [List.length_map]; exact h2), List.getElem_map]
      show (rows[i]).getD j 0 = _
      rw [List.getD_eq_getElem?_getD, List.getElem?_eq_getElem h4]
      rfl
theorem brd_turn {r w : Nat} {rows marks : List (List Nat)} {bi bj : Nat} (B : Brd r w rows marks bi bj) : Brd w r (turnR rows w) (turnR marks w) bj bi :=
  ⟨B.w1, B.w9, B.r1, B.r9, turn_blk B.br, turn_blk B.bm, turn_mem B.br B.cr, turn_mem B.bm B.cm, B.bj, B.bi⟩
def setAt (R : List (List Nat)) (i j z : Nat) : List (List Nat) := R.set i ((R.getD i []).set j z)
def laidF (R : List (List Nat)) (ts : List Trip) : List (List Nat) := ts.foldl (fun R t => setAt R t.1 t.2.1 t.2.2) R
theorem set_blk {r w : Nat} {R : List (List Nat)} (h : Blk r w R) {i j z : Nat} (hi : i < r) : Blk r w (setAt R i j z) := by
  refine ⟨by unfold setAt; rw [List.length_set, h.len], fun l hl => ?_⟩
  rcases List.mem_or_eq_of_mem_set hl with y | y
  · exact h.wid l y
  · rw [y, List.length_set, List.getD_eq_getElem?_getD, List.getElem?_eq_getElem (by rw [h.len]; exact hi)]
    exact h.wid _ (List.getElem_mem _)
theorem set_mem {r w : Nat} {R : List (List Nat)} (h : Blk r w R) {i j z : Nat} (hi : i < r) {Pc : Nat → Prop} (hp : ∀ l ∈ R, ∀ c ∈ l, Pc c) (hz : Pc z) : ∀ l ∈ setAt R i j z, ∀ c ∈ l, Pc c := fun l hl c hc => by
  rcases List.mem_or_eq_of_mem_set hl with y | y
  · exact hp l y c hc
  · rw [y] at hc
    rcases List.mem_or_eq_of_mem_set hc with u | u
    · rw [List.getD_eq_getElem?_getD, List.getElem?_eq_getElem (by rw [h.len]; exact hi)] at u
      exact hp _ (List.getElem_mem _) c u
    · rw [u]; exact hz
def inB (r w : Nat) (t : Trip) : Prop := t.1 < r ∧ t.2.1 < w ∧ sgC t.2.2
theorem laid_blk {r w : Nat} : ∀ {ts : List Trip} {R : List (List Nat)}, Blk r w R → (∀ t ∈ ts, inB r w t) → Blk r w (laidF R ts)
  | [], _, h, _ => h
  | t :: ts, _, h, k => laid_blk (ts := ts) (set_blk h (k t List.mem_cons_self).1) fun x hx => k x (List.mem_cons_of_mem _ hx)
theorem laid_mem {r w : Nat} : ∀ {ts : List Trip} {R : List (List Nat)}, Blk r w R → (∀ t ∈ ts, inB r w t) → (∀ l ∈ R, ∀ c ∈ l, roC c) → ∀ l ∈ laidF R ts, ∀ c ∈ l, roC c
  | [], _, _, _, g => g
  | t :: ts, _, h, k, g => laid_mem (ts := ts) (set_blk h (k t List.mem_cons_self).1) (fun x hx => k x (List.mem_cons_of_mem _ hx)) (set_mem h (k t List.mem_cons_self).1 g (.inr (k t List.mem_cons_self).2.2))
theorem brd_laid {r w : Nat} {rows marks : List (List Nat)} {bi bj : Nat} (B : Brd r w rows marks bi bj) {ts : List Trip} (k : ∀ t ∈ ts, inB r w t) : Brd r w (laidF rows ts) marks bi bj :=
  ⟨B.r1, B.r9, B.w1, B.w9, laid_blk B.br k, B.bm, laid_mem B.br k B.cr, B.cm, B.bi, B.bj⟩
theorem laid_snoc (R : List (List Nat)) (ts : List Trip) (t : Trip) : laidF R (ts ++ [t]) = setAt (laidF R ts) t.1 t.2.1 t.2.2 := by unfold laidF; rw [List.foldl_append]; rfl
/-- lists of one-sign texts, each of its own -/
structure LinesAt (H0 H : Hp) (ps : List Addr) (R : List (List Nat)) : Prop where
  len : ps.length = R.length
  nd : ps.Nodup
  fr : ∀ p ∈ ps, H0 p = none
  at_ : ∀ (i : Nat) (h : i < ps.length), H ps[i] = some (.lst (Ts (ones (R.getD i []))))
theorem LinesAt.mv {H0 H H' : Hp} {ps : List Addr} {R : List (List Nat)} (h : LinesAt H0 H ps R) (k : ∀ p ∈ ps, H' p = H p) : LinesAt H0 H' ps R :=
  ⟨h.len, h.nd, h.fr, fun i hi => by rw [k _ (List.getElem_mem _)]; exact h.at_ i hi⟩
theorem LinesAt.mvS {H0 H H' : Hp} {ps : List Addr} {R : List (List Nat)} (h : LinesAt H0 H ps R) (k : Same H H') : LinesAt H0 H' ps R :=
  ⟨h.len, h.nd, h.fr, fun i hi => k _ _ (h.at_ i hi)⟩
theorem LinesAt.snoc {H0 H : Hp} {ps : List Addr} {R : List (List Nat)} (h : LinesAt H0 H ps R) {p : Addr} {l : List Nat} (hn : p ∉ ps) (h0 : H0 p = none) (hp : H p = some (.lst (Ts (ones l)))) : LinesAt H0 H (ps ++ [p]) (R ++ [l]) := by
  refine ⟨by simp [h.len], ?_, fun x hx => ?_, fun i hi => ?_⟩
  · rw [List.nodup_append]
    refine ⟨h.nd, by simp, fun a ha b hb => ?_⟩
    rw [List.mem_singleton.mp hb]
    exact fun z => hn (z ▸ ha)
  · rcases List.mem_append.mp hx with z | z
    · exact h.fr x z
    · rw [List.mem_singleton.mp z]; exact h0
  · by_cases c : i < ps.length
    · rw [List.getElem_append_left c, h.at_ i c, List.getD_eq_getElem?_getD, List.getD_eq_getElem?_getD, List.getElem?_append_left (by rw [← h.len]; exact c)]
    · have e : i = ps.length := by simp at hi; omega
      subst e
      rw [List.getElem_append_right (Nat.le_refl _)]
      simp only [Nat.sub_self, List.getElem_singleton]
      rw [hp, List.getD_eq_getElem?_getD, List.getElem?_append_right (by rw [h.len]; exact Nat.le_refl _), h.len]
      simp
theorem LinesAt.set {H0 H : Hp} {ps : List Addr} {R : List (List Nat)} (h : LinesAt H0 H ps R) {i j z : Nat} (hi : i < ps.length) : LinesAt H0 (upd H ps[i] (.lst ((Ts (ones (R.getD i []))).set j (.str (S [z]))))) ps (setAt R i j z) := by
  have e : (Ts (ones (R.getD i []))).set j (.str (S [z])) = Ts (ones ((R.getD i []).set j z)) := by
    show List.set (((R.getD i []).map fun c => [c]).map fun l => V.str (S l)) j (V.str (S [z])) = ((List.set (R.getD i []) j z).map fun c => [c]).map fun l => V.str (S l)
    rw [List.map_set, List.map_set]
  rw [e]
  refine ⟨by unfold setAt; rw [List.length_set]; exact h.len, h.nd, h.fr, fun k hk => ?_⟩
  by_cases c : k = i
  · subst c
    rw [upd_same]
    unfold setAt
    rw [List.getD_eq_getElem?_getD (l := R.set _ _), List.getElem?_set_self (by rw [← h.len]; exact hi)]
    rfl
  · rw [upd_ne (fun z => c ((List.getElem_inj h.nd).mp z)), h.at_ k hk]
    unfold setAt
    rw [List.getD_eq_getElem?_getD (l := R.set _ _), List.getElem?_set_ne (fun z => c z.symm), ← List.getD_eq_getElem?_getD]
def spLaid (C : Addr) : Sp := fun vs H Q _ => ∃ (p t : Addr) (as : List Addr) (ts : List Trip) (r w : Nat) (rows marks : List (List Nat)) (bi bj : Nat), vs = [.ref p, .ref t] ∧ BoardAt C H p r w rows marks bi bj ∧ H t = some (.tup (as.map V.ref)) ∧ LayL H as ts ∧ (∀ t ∈ ts, inB r w t) ∧
  ∀ (p' : Addr) (H' : Hp), Same H H' → BoardAt C H' p' r w (laidF rows ts) marks bi bj → Q (.ref p') H'
theorem ok_laid {f C f0 : Addr} {fd fd0 : FuncData} (F : Fun K "laid" "Board.laid" s_Board_laid f fd) (T : BoardCls K C) (n_list : mg "list" = none) (n_tuple : mg "tuple" = none) (mg_Board : mg "Board" = some (.ref C)) (M_Board : Mk K C f0) (G_Board : FnOk P w K mg base CX0 5 f0 fd0 ["self", "rows", "marks", "begin"] (spBInit C)) (b_Board : Binds K fd0 ["self", "rows", "marks", "begin"] []) :
    FnOk P w K mg base CX0 8 f fd ["self", "laying"] (spLaid C) := by
  refine F.qok sc_Board_laid (fun vs H Q E h => ?_) (fun cdv A outer s H vs Q E hr h => ?_)
  · obtain ⟨p, t, as, ts, r, w, rows, marks, bi, bj, rfl, _⟩ := h
    rfl
  · obtain ⟨p, t, as, ts, r, w, rows, marks, bi, bj, rfl, BA, ht, hL, hin, q⟩ := h
    obtain ⟨⟨dx, pr, pm, pb, hx, hpr, hpm, hpb⟩, B⟩ := BA
    have r9 := B.r9
    have w9 := B.w9
    have hbr := B.br
    refine ⟨_, (qss_cons (qs_setG (ix := 2) (ns := ["row"]) sc_Board_laid.nd rfl (Or.inl rfl) rfl (CompG.of ["self", "laying", "lines", ".3", "column", "sign"] [3] (by kernel_rfl)) (qi_tup (qe_fld (qv 0) rfl)) (fun _ _ _ _ _ => (tg_name (show (["row", "self", "laying", "lines", ".3", "column", "sign"] : List Str).Nodup by decide +kernel) rfl (by rfl))) (fun _ _ _ _ _ => qts_nil) (fun _ _ _ _ _ => (qe_callTy (call_listS rfl) (by rfl) n_list PyProof.Rows.boot_list (qa_cons (qv 0) qa_nil)))) (qss_cons (qs_for PassesOwn.never rfl (qi_tup (qv 1)) (qg_tup rfl (qgs_cons (qg_name (i := 3) sc_Board_laid.nd rfl (Or.inl rfl)) (qgs_cons (qg_name (i := 4) sc_Board_laid.nd rfl (Or.inl rfl)) (qgs_cons (qg_name (i := 5) sc_Board_laid.nd rfl (Or.inl rfl)) qgs_nil)))) (qss_one (qs_asg (qv 5) (qg_sub (qe_ix ix_list (qv 2) (qv 3) (fun _ _ => rfl)) (qv 4) set_list)))) (qss_one (qs_ret (qe_make M_Board G_Board (hr.mono (by decide)) rfl mg_Board b_Board .nil pass0 (qa_cons (qe_callTy call_tuple_of (by rfl) n_tuple PyProof.Rows.boot_tuple (qa_cons (qe_comp rfl (CompOk.of sc_Board_laid.nd (by kernel_rfl)) (qi_list (qv 2)) (fun _ _ _ _ _ => qts_nil) (fun _ _ _ _ _ => (qe_bmK K PySem.F.plainAttrs_str PySem.F.slot_str_join PySem.F.type_str_join (mt_joinK K) (qe_strS [] (by decide +kernel)) (qa_cons (qv 0) qa_nil)))) qa_nil)) (qa_cons (qe_fld (qv 0) rfl) (qa_cons (qe_fld (qv 0) rfl) qa_nil)))))))), ?_⟩
    refine ⟨_, rfl, p, C, dx, _, _, rfl, hx, T.cl, T.nr, rfl, pr, rfl, ⟨_, SqT.of hpr⟩, fun M hM => compG1_tup (f := hideS [3] 0) (tt := tYes) (xs := Ts rows) (fun i ys H2 => ∃ ps : List Addr, ys = ps.map V.ref ∧ H2 M = some (.lst ys) ∧ Same H H2 ∧ LinesAt H H2 ps (rows.take i) ∧ M ∉ ps)
      ⟨[], rfl, upd_same, Same.upd hM, ⟨by simp, List.nodup_nil, fun p h => by simp at h, fun i h => by simp at h⟩, by simp⟩ (fun i ys H2 _ h => by obtain ⟨_, _, _, sm, _⟩ := h; exact SqT.of (sm _ _ hpr)) ?_ ?_⟩
    · rintro i x ys H2 hi ⟨ps, rfl, hM2, sm, hLn, nM⟩
      obtain ⟨l, hl, rfl⟩ := Ts_get hi
      have hil : i < (Ts rows).length := (List.getElem?_eq_some_iff.mp hi).1
      have hlw : l.length = w := hbr.wid _ (List.mem_of_getElem? hl)
      have hln : (Ts rows).length = r := by rw [List.length_map, hbr.len]
      have hpl : ps.length ≤ 9 := by rw [hLn.len, List.length_take, hbr.len]; omega
      refine turn1 ⟨_, rfl, l, rfl, by omega, fun c hc => ?_⟩
      have ncM : M ≠ c := fun z => by rw [← z, hM2] at hc; cases hc
      have ncp : c ∉ ps := fun z => by
        obtain ⟨k, hk, e⟩ := List.mem_iff_getElem.mp z
        have := hLn.at_ k hk
        rw [e, hc] at this
        cases this
      refine ⟨by rw [upd_ne ncM]; exact hM2, by rw [List.length_map]; exact small1000 (by omega), Nxt.mk hil ⟨ps ++ [c], by simp, upd_same, (sm.upd' (sm.free hc)).upd' hM, ?_, ?_⟩⟩
      · rw [show rows.take (i + 1) = rows.take i ++ [l] by rw [List.take_add_one, hl]; rfl]
        refine LinesAt.mv ((hLn.mvS (Same.upd hc)).snoc ncp (sm.free hc) upd_same) fun y hy => upd_ne fun z => ?_
        rcases List.mem_append.mp hy with u | u
        · exact nM (z ▸ u)
        · exact ncM (z.symm.trans (List.mem_singleton.mp u))
      · intro z
        rcases List.mem_append.mp z with u | u
        · exact nM u
        · exact ncM (List.mem_singleton.mp u)
    · rintro ys H2 ⟨ps, rfl, hM2, sm, hLn, nM⟩
      rw [List.take_of_length_le (by rw [List.length_map]; exact Nat.le_refl _)] at hLn
      refine ⟨_, rfl, t, rfl, ⟨_, SqT.of (sm _ _ ht)⟩, for_tup (K := K) (a := t) (xs := as.map V.ref) (fun i σ H3 => ∃ v3 v4 v5 : Option V, σ = [some (.ref p), some (.ref t), some (.ref M), v3, v4, v5] ∧ Same H H3 ∧ H3 M = some (.lst (ps.map V.ref)) ∧ LinesAt H H3 ps (laidF rows (ts.take i)))
        ⟨none, none, none, rfl, sm, hM2, hLn⟩ (fun i σ H3 _ h => by obtain ⟨_, _, _, _, sm, _⟩ := h; exact SqT.of (sm _ _ ht)) ?_ ?_⟩
      · rintro i x σ H3 hx' ⟨v3, v4, v5, rfl, sm3, hM3, hLn3⟩
        rw [List.getElem?_map] at hx'
        have hi : i < as.length := by
          rcases Nat.lt_or_ge i as.length with z | z
          · exact z
          · rw [List.getElem?_eq_none z] at hx'; cases hx'
        rw [List.getElem?_eq_getElem hi] at hx'
        have hx' : V.ref as[i] = x := Option.some.inj hx'
        subst hx'
        obtain ⟨u, eu, hU⟩ := hL.get hi
        have hum := List.mem_of_getElem? eu
        obtain ⟨u1, u2, u3⟩ := hin u hum
        have hb3 : Blk r w (laidF rows (ts.take i)) := laid_blk hbr fun y hy => hin y (List.mem_of_mem_take hy)
        have hpl : ps.length = r := by rw [hLn3.len, hb3.len]
        have hps : u.1 < ps.length := by omega
        refine ⟨as[i], _, rfl, SqT.of (sm3 _ _ hU), rfl, _, _, rfl, _, _, rfl, _, _, rfl, rfl, ?_⟩
        refine ⟨_, rfl, _, rfl, _, rfl, M, _, _, .ref ps[u.1], rfl, rfl, SqL.of hM3, atI_nat (by simp [hps]), _, rfl, ps[u.1], _, _, u.2.1, rfl, rfl, hLn3.at_ u.1 hps, ?_, ?_⟩
        · have : ((laidF rows (ts.take i)).getD u.1 []).length = w := by
            rw [List.getD_eq_getElem?_getD, List.getElem?_eq_getElem (by rw [hb3.len]; exact u1)]
            exact hb3.wid _ (List.getElem_mem _)
          unfold ixN
          rw [List.length_map, List.length_map, this, if_pos (by omega), if_pos (by omega)]
          congr 1
        · refine ⟨_, _, _, rfl, sm3.upd' (hLn3.fr _ (List.getElem_mem _)), ?_, ?_⟩
          · have ne : M ≠ ps[u.1] := fun z => nM (by rw [z]; exact List.getElem_mem _)
            rw [upd_ne ne]; exact hM3
          · rw [show laidF rows (ts.take (i + 1)) = setAt (laidF rows (ts.take i)) u.1 u.2.1 u.2.2 by rw [List.take_add_one, eu]; exact laid_snoc _ _ _]
            exact hLn3.set hps
      · rintro σ H3 ⟨v3, v4, v5, rfl, sm3, hM3, hLn3⟩
        rw [List.take_of_length_le (by rw [List.length_map, hL.len]; exact Nat.le_refl _)] at hLn3
        have B' := brd_laid B hin
        have hpl : ps.length = r := by rw [hLn3.len, B'.br.len]
        refine ⟨_, rfl, M, rfl, ⟨_, SqL.of hM3⟩, fun N hN => comp_list (xs := ps.map V.ref) (fun i ys H4 => ys = Ts ((laidF rows ts).take i) ∧ H4 N = some (.lst ys) ∧ Same H3 H4) ⟨rfl, upd_same, Same.upd hN⟩ (fun i ys H4 _ h => SqL.of (h.2.2 _ _ hM3)) ?_ ?_⟩
        · rintro i x ys H4 hi ⟨rfl, hN4, sm4⟩
          rw [List.getElem?_map] at hi
          have hi' : i < ps.length := by
            rcases Nat.lt_or_ge i ps.length with z | z
            · exact z
            · rw [List.getElem?_eq_none z] at hi; cases hi
          rw [List.getElem?_eq_getElem hi'] at hi
          have hi : V.ref ps[i] = x := Option.some.inj hi
          subst hi
          have hri : i < (laidF rows ts).length := by rw [← hLn3.len]; exact hi'
          have hg : (laidF rows ts).getD i [] = (laidF rows ts)[i] := by rw [List.getD_eq_getElem?_getD, List.getElem?_eq_getElem hri]; rfl
          have hw : (laidF rows ts)[i].length = w := B'.br.wid _ (List.getElem_mem _)
          have hat := hLn3.at_ i hi'
          rw [hg] at hat
          refine ⟨rfl, _, rfl, ps[i], ones (laidF rows ts)[i], rfl, rfl, SqL.of (sm4 _ _ hat), by rw [flat1, hw]; omega, hN4, ?_, Nxt.mk (by rw [List.length_map]; exact hi') ⟨?_, upd_same, sm4.upd' hN⟩⟩
          · rw [List.length_map, List.length_take]; exact small1000 (by omega)
          · rw [flat1, Ts_snoc, List.take_add_one, List.getElem?_eq_getElem hri]; rfl
        · rintro ys H4 ⟨rfl, hN4, sm4⟩
          rw [List.take_of_length_le (by rw [List.length_map, hLn3.len]; exact Nat.le_refl _)] at hN4
          refine ⟨N, _, rfl, .inl ⟨SqL.of hN4, fun l hl => ?_⟩⟩
          have s5 := (sm3.trans sm4).upd' (o := .tup (Ts (laidF rows ts))) ((sm3.trans sm4).free hl)
          refine ⟨_, rfl, p, C, dx, _, _, rfl, s5 _ _ hx, T.cl, T.nm, rfl, _, rfl, p, C, dx, _, _, rfl, s5 _ _ hx, T.cl, T.nb, rfl, fun x dy nx ndx nex => ?_⟩
          have s6 : Same (upd H4 l (.tup (Ts (laidF rows ts)))) (upd (upd (upd H4 l (.tup (Ts (laidF rows ts)))) dy (HO.own x)) x (HO.ins C dy [])) := fun b o e => by rw [upd_ne (ne_of_none e nx), upd_ne (ne_of_none e ndx)]; exact e
          refine ⟨x, dy, l, pm, pb, r, w, laidF rows ts, marks, bi, bj, rfl, upd_same, s6 _ _ upd_same, s6 _ _ (s5 _ _ hpm), s6 _ _ (s5 _ _ hpb), B', fun H5 kp hx5 => ⟨rfl, ?_⟩⟩
          have s7 : Same (upd H4 l (.tup (Ts (laidF rows ts)))) H5 := fun b o e => kp b o (s6 b o e) (ne_of_none e nx)
          exact q x H5 (s5.trans s7) ⟨⟨dy, l, pm, pb, hx5, s7 _ _ upd_same, s7 _ _ (s5 _ _ hpm), s7 _ _ (s5 _ _ hpb)⟩, B'⟩


end
end My
end

section
set_option Elab.async false
set_option linter.all false
set_option maxRecDepth 100000
set_option maxHeartbeats 2000000
namespace My
open PySem L2
section
variable {P : Program} {w : World} {K : PySem.W.Frag} {mg : Str → Option Value} {base : Heap}
theorem tail_low {l : List Nat} {k low : Nat} (h1 : low ≤ k) (hk : k ≤ l.length) (h2 : ∀ m, low ≤ m → m < k → l[m]? ≠ some 46) (h3 : low = 0 ∨ l[low - 1]? = some 46) : tailF (l.take k) = (l.take k).drop low := by
  rcases h3 with e | e
  · subst e
    rw [List.drop_zero]
    refine tailF_all fun hm => ?_
    obtain ⟨m, hm⟩ := List.mem_iff_getElem?.mp hm
    have hmk : m < (l.take k).length := (List.getElem?_eq_some_iff.mp hm).1
    rw [List.length_take] at hmk
    exact h2 m (by omega) (by omega) (by rw [List.getElem?_take, if_pos (by omega)] at hm; exact hm)
  · by_cases h0 : low = 0
    · subst h0
      rw [List.drop_zero]
      refine tailF_all fun hm => ?_
      obtain ⟨m, hm⟩ := List.mem_iff_getElem?.mp hm
      have hmk : m < (l.take k).length := (List.getElem?_eq_some_iff.mp hm).1
      rw [List.length_take] at hmk
      exact h2 m (by omega) (by omega) (by rw [List.getElem?_take, if_pos (by omega)] at hm; exact hm)
    · have := tailF_at (l := l.take k) (i := low - 1) (by rw [List.getElem?_take, if_pos (by omega)]; exact e) (fun m hm z => by
        have hmk : m < (l.take k).length := (List.getElem?_eq_some_iff.mp z).1
        rw [List.length_take] at hmk
        rw [List.getElem?_take, if_pos (by omega)] at z
        exact h2 m (by omega) (by omega) z)
      rw [this, show low - 1 + 1 = low by omega]
theorem head_high {l : List Nat} {k high : Nat} (h1 : k ≤ high) (hk : high ≤ l.length) (h2 : ∀ m, k ≤ m → m < high → l[m]? ≠ some 46) (h3 : high = l.length ∨ l[high]? = some 46) : headF (l.drop k) = (l.drop k).take (high - k) := by
  rcases h3 with e | e
  · rw [List.take_of_length_le (by rw [List.length_drop]; omega)]
    refine headF_all fun hm => ?_
    obtain ⟨m, hm⟩ := List.mem_iff_getElem?.mp hm
    have hmk : m < (l.drop k).length := (List.getElem?_eq_some_iff.mp hm).1
    rw [List.length_drop] at hmk
    rw [List.getElem?_drop] at hm
    exact h2 (k + m) (by omega) (by omega) hm
  · refine headF_at (by rw [List.getElem?_drop, show k + (high - k) = high by omega]; exact e) fun m hm z => ?_
    rw [List.getElem?_drop] at z
    exact h2 (k + m) (by omega) (by omega) z
/-! ### what lies in a line -/
def lnAt (l : List Nat) (m : Int) : Nat := if 0 ≤ m ∧ m < l.length then l.getD m.toNat 0 else 46
theorem lnAt_in {l : List Nat} {m : Nat} (h : m < l.length) : lnAt l (m : Int) = l[m] := by
  unfold lnAt
  rw [if_pos ⟨by omega, by omega⟩, Int.toNat_natCast, List.getD_eq_getElem?_getD, List.getElem?_eq_getElem h]
  rfl
theorem lnAt_out {l : List Nat} {m : Int} (h : ¬ (0 ≤ m ∧ m < l.length)) : lnAt l m = 46 := if_neg h
theorem at_line {r w : Nat} {rows : List (List Nat)} (hb : Blk r w rows) {i j : Nat} (hi : i < r) (hj : j < w) {way : Int} (hw : way = 0 ∨ way = 1) (t : Int) :
    atC rows r w ((i : Int) + t * way) ((j : Int) + t * (1 - way)) = lnAt (lineOf rows i j way) ((placeOf i j way : Nat) + t) := by
  have hll := lineOf_len hb hi (j := j) (way := way)
  rcases hw with rfl | rfl
  · rw [if_pos rfl] at hll
    unfold atC lnAt
    rw [hll]
    have e1 : (i : Int) + t * 0 = i := by omega
    have e2 : (j : Int) + t * (1 - 0) = j + t := by omega
    rw [e1, e2]
    show (if _ then _ else _) = (if 0 ≤ (j : Int) + t ∧ (j : Int) + t < w then _ else _)
    by_cases h : 0 ≤ (j : Int) + t ∧ (j : Int) + t < w
    · rw [if_pos h, if_pos ⟨by omega, by omega, h.1, h.2⟩, Int.toNat_natCast]; rfl
    · rw [if_neg h, if_neg (fun z => h ⟨z.2.2.1, z.2.2.2⟩)]
  · rw [if_neg (by decide)] at hll
    unfold atC lnAt
    rw [hll]
    have e1 : (i : Int) + t * 1 = i + t := by omega
    have e2 : (j : Int) + t * (1 - 1) = j := by omega
    rw [e1, e2]
    show (if _ then _ else _) = (if 0 ≤ (i : Int) + t ∧ (i : Int) + t < r then _ else _)
    by_cases h : 0 ≤ (i : Int) + t ∧ (i : Int) + t < r
    · rw [if_pos h, if_pos ⟨h.1, h.2, by omega, by omega⟩, Int.toNat_natCast]
      show (rows.getD ((i : Int) + t).toNat []).getD j 0 = (rows.map fun l => l.getD j 0).getD ((i : Int) + t).toNat 0
      have hl : ((i : Int) + t).toNat < rows.length := by rw [hb.len]; omega
      rw [List.getD_eq_getElem?_getD (l := rows), List.getD_eq_getElem?_getD (l := rows.map fun l => l.getD j 0), List.getElem?_map, List.getElem?_eq_getElem hl]
      rfl
    · rw [if_neg h, if_neg (fun z => h ⟨z.1, z.2.1⟩)]
theorem at_up {r w : Nat} {rows : List (List Nat)} (hb : Blk r w rows) {i j : Nat} (hi : i < r) (hj : j < w) {way : Int} (hw : way = 0 ∨ way = 1) (t : Int) :
    atC rows r w ((i : Int) - t * way) ((j : Int) - t * (1 - way)) = lnAt (lineOf rows i j way) ((placeOf i j way : Nat) - t) := by
  have := at_line hb hi hj hw (-t)
  rw [show (i : Int) + -t * way = (i : Int) - t * way by rw [Int.neg_mul]; rfl, show (j : Int) + -t * (1 - way) = (j : Int) - t * (1 - way) by rw [Int.neg_mul]; rfl, show ((placeOf i j way : Nat) : Int) + -t = (placeOf i j way : Nat) - t by rfl] at this
  exact this
/-- the run that a letter makes in a line -/
def crossT (l : List Nat) (k c : Nat) : List Nat := (tailF (l.take k)).map PyProof.Rows.lo1 ++ c :: (headF (l.drop (k + 1))).map PyProof.Rows.lo1
def spAtL (K : PySem.W.Frag) : Sp := fun vs H Q _ => ∃ (p : Addr) (rows : List (List Nat)) (r w : Nat) (i j : Int), vs = [.ref p, .int i, .int j] ∧ SqT K H p (Ts rows) ∧ Blk r w rows ∧ 1 ≤ r ∧ r ≤ 9 ∧ w ≤ 9 ∧ Q (.str (S [atC rows r w i j])) H
theorem ok_law_at (D : DefAt K mg "_law_at" s_at ["_law_rows", "_law_row", "_law_column"]) (n_len : mg "len" = none) : Def P w K mg base "_law_at" 1 ["_law_rows", "_law_row", "_law_column"] (spAtL K) := by
  refine D.qok sc_at (fun vs H Q E h => ?_) (fun f cdv A outer s H vs Q E hr h => ?_)
  · obtain ⟨p, rows, r, w, i, j, rfl, _⟩ := h
    rfl
  · obtain ⟨p, rows, r, w, i, j, rfl, hp, hb, r1, r9, w9, q⟩ := h
    have hln : (Ts rows).length = r := by rw [List.length_map, hb.len]
    have h0 : 0 < rows.length := by rw [hb.len]; omega
    have hw0 : rows[0].length = w := hb.wid _ (List.getElem_mem _)
    refine ⟨_, (qss_cons (qs_if (QW.qt (qw_and (qt_chain op_le op_lt qe_int (qv 1) (qe_callB call_len_seq (by rfl) n_len PySem.boot_len (qa_cons (qv 0) qa_nil))) (qw_and1 (qt_chain op_le op_lt qe_int (qv 2) (qe_callB call_lenS (by rfl) n_len PySem.boot_len (qa_cons (qe_ix ix_tup (qv 0) qe_int (fun _ _ => rfl)) qa_nil)))))) (qss_one (qs_ret (qe_ix ix_S (qe_ix ix_tup (qv 0) (qv 1) (fun _ _ => rfl)) (qv 2) (fun _ _ => rfl)))) qss_nil) (qss_one (qs_ret (qe_strS [46] (by decide +kernel))))), ?_⟩
    have out : ¬ (0 ≤ i ∧ i < r ∧ 0 ≤ j ∧ j < w) → Q (.str (S [46])) H := fun z => by
      have e : atC rows r w i j = 46 := if_neg z
      rw [e] at q; exact q
    refine ⟨_, rfl, _, _, rfl, rfl, _, rfl, ?_⟩
    by_cases h1 : 0 ≤ i
    · rw [decide_eq_true h1]
      refine iteT ⟨_, rfl, p, _, rfl, .inr hp, _, _, rfl, rfl, _, rfl, ?_⟩
      rw [hln]
      by_cases h2 : i < (r : Int)
      · rw [decide_eq_true h2]
        refine iteT ⟨_, rfl, _, _, rfl, rfl, _, rfl, ?_⟩
        by_cases h3 : 0 ≤ j
        · rw [decide_eq_true h3]
          refine iteT ⟨_, rfl, p, _, _, .str (S rows[0]), rfl, rfl, hp, atI_nat (j := 0) (Ts_at (by simp [h0])), _, rfl, Nat.le_of_lt (small1000 (by omega)), _, _, rfl, rfl, _, rfl, ?_⟩
          rw [hw0]
          by_cases h4 : j < (w : Int)
          · rw [decide_eq_true h4]
            have e : atC rows r w i j = (rows.getD i.toNat []).getD j.toNat 0 := if_pos ⟨h1, h2, h3, h4⟩
            rw [e] at q
            obtain ⟨i, rfl⟩ : ∃ k : Nat, i = k := ⟨i.toNat, by omega⟩
            obtain ⟨j, rfl⟩ : ∃ k : Nat, j = k := ⟨j.toNat, by omega⟩
            rw [Int.toNat_natCast, Int.toNat_natCast] at q
            have hi : i < rows.length := by rw [hb.len]; omega
            have hgi : rows[i]? = some (rows.getD i []) := by rw [List.getD_eq_getElem?_getD, List.getElem?_eq_getElem hi]; rfl
            have hw : (rows.getD i []).length = w := hb.wid _ (List.mem_of_getElem? hgi)
            have hgj : (rows.getD i [])[j]? = some ((rows.getD i []).getD j 0) := by rw [List.getD_eq_getElem?_getD (l := rows.getD i []), List.getElem?_eq_getElem (by omega)]; rfl
            exact iteT ⟨_, rfl, _, rfl, p, _, _, _, rfl, rfl, hp, atI_nat (Ts_at hgi), _, rfl, _, _, _, rfl, rfl, Nat.le_of_lt (small1000 (by omega)), atI_nat hgj, q⟩
          · rw [decide_eq_false h4]
            exact iteF (out fun z => h4 z.2.2.2)
        · rw [decide_eq_false h3]
          exact iteF ⟨_, rfl, iteF (out fun z => h3 z.2.2.1)⟩
      · rw [decide_eq_false h2]
        exact iteF (iteF (out fun z => h2 z.2.1))
    · rw [decide_eq_false h1]
      exact iteF ⟨_, rfl, iteF (iteF (out fun z => h1 z.1))⟩
theorem line_ro {r w : Nat} {rows : List (List Nat)} (cr : ∀ l ∈ rows, ∀ c ∈ l, roC c) {i j : Nat} {way : Int} (hb : Blk r w rows) (hj : j < w) : ∀ c ∈ lineOf rows i j way, roC c := fun c hc => by
  unfold lineOf at hc
  split at hc
  · rw [List.getD_eq_getElem?_getD] at hc
    cases e : rows[i]? with
    | none => rw [e] at hc; simp at hc
    | some l => rw [e] at hc; exact cr l (List.mem_of_getElem? e) c hc
  · obtain ⟨l, hl, rfl⟩ := List.mem_map.mp hc
    have hjl : j < l.length := by rw [hb.wid l hl]; exact hj
    rw [List.getD_eq_getElem?_getD, List.getElem?_eq_getElem hjl]
    exact cr l hl _ (List.getElem_mem _)
theorem ro_lt {c : Nat} (h : roC c) : c < 128 := by
  rcases h with e | e
  · rw [e]; decide
  · exact e.lt
def spCross : Sp := fun vs H Q _ => ∃ (p : Addr) (rows : List (List Nat)) (r w i j c : Nat) (way : Int), vs = [.ref p, .int i, .int j, .int way, .str (S [c])] ∧ H p = some (.tup (Ts rows)) ∧ Blk r w rows ∧ 1 ≤ r ∧ r ≤ 9 ∧ w ≤ 9 ∧ (∀ l ∈ rows, ∀ c ∈ l, roC c) ∧ i < r ∧ j < w ∧ (way = 0 ∨ way = 1) ∧
  Q (.str (S (crossT (lineOf rows i j way) (placeOf i j way) c))) H
theorem ok_cross (D : DefAt K mg "_law_cross" s_cross ["_law_rows", "_law_row", "_law_column", "_law_way", "_law_letter"]) (D_at : Def P w K mg base "_law_at" 1 ["_law_rows", "_law_row", "_law_column"] (spAtL K)) : Def P w K mg base "_law_cross" 2 ["_law_rows", "_law_row", "_law_column", "_law_way", "_law_letter"] spCross := by
  refine D.qok sc_cross (fun vs H Q E h => ?_) (fun f cdv A outer s H vs Q E hr h => ?_)
  · obtain ⟨p, rows, r, w, i, j, c, way, rfl, _⟩ := h
    rfl
  · obtain ⟨p, rows, r, w, i, j, c, way, rfl, hp, hb, r1, r9, w9, cr, hi, hj, hway, q⟩ := h
    have hll := lineOf_len hb hi (j := j) (way := way)
    have hk : placeOf i j way < (lineOf rows i j way).length := by
      rw [hll]; unfold placeOf
      split <;> assumption
    have hl9 : (lineOf rows i j way).length ≤ 9 := by rw [hll]; split <;> assumption
    have hup := at_up hb hi hj hway
    have hdn := at_line hb hi hj hway
    have hro := line_ro cr (i := i) (way := way) hb hj
    have hlo : ∀ m, lnAt (lineOf rows i j way) m < 128 := fun m => by
      unfold lnAt
      split
      · rename_i h
        rw [List.getD_eq_getElem?_getD, List.getElem?_eq_getElem (by omega)]
        exact ro_lt (hro _ (List.getElem_mem _))
      · decide
    generalize lineOf rows i j way = l at hk hl9 hup hdn hlo q
    generalize placeOf i j way = k at hk hup hdn q
    clear hll hro
    have hz : ∀ n, n ≤ 100 → n ≤ sizeLine := fun n h => Nat.le_of_lt (small1000 (by omega))
    refine ⟨_, (qss_cons (qs_set (i := 5) sc_cross.nd rfl (Or.inl rfl) (qv 4)) (qss_cons (qs_set (i := 6) sc_cross.nd rfl (Or.inl rfl) qe_int) (qss_cons (qs_cut (qs_while PassesOwn.never (qt_cmpR op_neS (qe_own D_at (hr.mono (by decide)) rfl (qa_cons (qv 0) (qa_cons (qe_op op_sub (qv 1) (qe_op op_mul (qv 6) (qv 3))) (qa_cons (qe_op op_sub (qv 2) (qe_op op_mul (qv 6) (qe_op op_sub qe_int (qv 3)))) qa_nil)))) (qe_strS [46] (by decide +kernel)) (nomark _)) (qss_cons (qs_set (i := 5) sc_cross.nd rfl (Or.inl rfl) (qe_op op_addS (qe_bm0 PySem.F.plainAttrs_str PySem.F.slot_str_lower PySem.F.type_str_lower mt_loA (qe_own D_at (hr.mono (by decide)) rfl (qa_cons (qv 0) (qa_cons (qe_op op_sub (qv 1) (qe_op op_mul (qv 6) (qv 3))) (qa_cons (qe_op op_sub (qv 2) (qe_op op_mul (qv 6) (qe_op op_sub qe_int (qv 3)))) qa_nil))))) (qv 5))) (qss_one (qs_set (i := 6) sc_cross.nd rfl (Or.inl rfl) (qe_op op_add (qv 6) qe_int)))))) (qss_cons (qs_set (i := 6) sc_cross.nd rfl (Or.inl rfl) qe_int) (qss_cons (qs_cut (qs_while PassesOwn.never (qt_cmpR op_neS (qe_own D_at (hr.mono (by decide)) rfl (qa_cons (qv 0) (qa_cons (qe_op op_add (qv 1) (qe_op op_mul (qv 6) (qv 3))) (qa_cons (qe_op op_add (qv 2) (qe_op op_mul (qv 6) (qe_op op_sub qe_int (qv 3)))) qa_nil)))) (qe_strS [46] (by decide +kernel)) (nomark _)) (qss_cons (qs_set (i := 5) sc_cross.nd rfl (Or.inl rfl) (qe_op op_addS (qv 5) (qe_bm0 PySem.F.plainAttrs_str PySem.F.slot_str_lower PySem.F.type_str_lower mt_loA (qe_own D_at (hr.mono (by decide)) rfl (qa_cons (qv 0) (qa_cons (qe_op op_add (qv 1) (qe_op op_mul (qv 6) (qv 3))) (qa_cons (qe_op op_add (qv 2) (qe_op op_mul (qv 6) (qe_op op_sub qe_int (qv 3)))) qa_nil))))))) (qss_one (qs_set (i := 6) sc_cross.nd rfl (Or.inl rfl) (qe_op op_add (qv 6) qe_int)))))) (qss_one (qs_ret (qv 5)))))))), ?_⟩
    have hS := SqT.of (K := K) hp
    refine ⟨_, rfl, ?_⟩
    -- the first while
    refine ⟨fun σ H' => H' = H ∧ ∃ v6 : Option V, σ = [some (.ref p), some (.int i), some (.int j), some (.int way), some (.str (S [c])), some (.str (S ((tailF (l.take k)).map PyProof.Rows.lo1 ++ [c]))), v6], ?_, ?_⟩
    · refine ⟨fun m σ H' => H' = H ∧ ∃ t : Nat, t ≤ k ∧ m = k - t ∧ σ = [some (.ref p), some (.int i), some (.int j), some (.int way), some (.str (S [c])), some (.str (S (((l.take k).drop (k - t)).map PyProof.Rows.lo1 ++ [c]))), some (.int ((t : Int) + 1))] ∧ ∀ x, k - t ≤ x → x < k → l[x]? ≠ some 46,
        ⟨k, rfl, 0, by omega, by omega, ?_, fun x h1 h2 => by omega⟩, ?_⟩
      · rw [Nat.sub_zero, List.drop_of_length_le (by rw [List.length_take]; omega)]; rfl
      rintro m σ H' ⟨rfl, t, ht, rfl, rfl, hx⟩
      refine ⟨_, rfl, _, rfl, _, rfl, _, rfl, _, _, rfl, rfl, .inr ⟨by rcases hway with e | e <;> rw [e] <;> decide, by rcases hway with e | e <;> rw [e] <;> decide⟩, _, _, rfl, rfl, _, rfl, _, rfl, _, rfl, _, _, rfl, rfl, _, _, rfl, rfl, .inr ⟨by rcases hway with e | e <;> rw [e] <;> decide, by rcases hway with e | e <;> rw [e] <;> decide⟩, _, _, rfl, rfl, p, rows, r, w, _, _, rfl, hS, hb, r1, r9, w9, _, _, rfl, rfl, _, rfl, ?_⟩
      rw [hup]
      by_cases h0 : lnAt l ((k : Int) - ((t : Int) + 1)) = 46
      · rw [h0, decide_eq_true rfl]
        refine iteF ⟨rfl, some (.int ((t : Int) + 1)), ?_⟩
        have h3 : k - t = 0 ∨ l[k - t - 1]? = some 46 := by
          by_cases hkt : k - t = 0
          · exact .inl hkt
          · refine .inr ?_
            rw [show (k : Int) - ((t : Int) + 1) = ((k - t - 1 : Nat) : Int) by omega, lnAt_in (by omega)] at h0
            rw [List.getElem?_eq_getElem (by omega), h0]
        rw [tail_low (by omega) (by omega) hx h3]
      · rw [decide_eq_false (fun z => h0 (by injection z))]
        have hin : 0 ≤ (k : Int) - ((t : Int) + 1) ∧ (k : Int) - ((t : Int) + 1) < l.length := by
          by_cases z : 0 ≤ (k : Int) - ((t : Int) + 1) ∧ (k : Int) - ((t : Int) + 1) < l.length
          · exact z
          · exact absurd (lnAt_out z) h0
        have hktl : k - t - 1 < l.length := by omega
        have eN : (k : Int) - ((t : Int) + 1) = ((k - t - 1 : Nat) : Int) := by omega
        refine iteT ⟨fun σ2 H3 => H3 = H' ∧ σ2 = [some (.ref p), some (.int i), some (.int j), some (.int way), some (.str (S [c])), some (.str (S (((l.take k).drop (k - (t + 1))).map PyProof.Rows.lo1 ++ [c]))), some (.int (((t + 1 : Nat) : Int) + 1))], ?_, ?_⟩
        · rintro σ2 H3 ⟨rfl, rfl⟩
          refine ⟨k - (t + 1), by omega, rfl, t + 1, by omega, rfl, rfl, fun x h1 h2 => ?_⟩
          by_cases hx2 : x = k - t - 1
          · subst hx2
            rw [List.getElem?_eq_getElem hktl]
            rw [eN, lnAt_in hktl] at h0
            intro z
            exact h0 (Option.some.inj z)
          · exact hx x (by omega) h2
        · refine ⟨_, rfl, _, rfl, _, rfl, _, rfl, _, _, rfl, rfl, .inr ⟨by rcases hway with e | e <;> rw [e] <;> decide, by rcases hway with e | e <;> rw [e] <;> decide⟩, _, _, rfl, rfl, _, rfl, _, rfl, _, rfl, _, _, rfl, rfl, _, _, rfl, rfl, .inr ⟨by rcases hway with e | e <;> rw [e] <;> decide, by rcases hway with e | e <;> rw [e] <;> decide⟩, _, _, rfl, rfl, p, rows, r, w, _, _, rfl, hS, hb, r1, r9, w9, ?_⟩
          rw [hup]
          refine ⟨rfl, _, rfl, rfl, by show 1 ≤ 1000; decide, fun d hd => by rw [List.mem_singleton.mp hd]; exact hlo _, _, rfl, _, _, rfl, rfl, ?_, ?_⟩
          · rw [List.length_map, List.length_append, List.length_map, List.length_drop, List.length_take]
            exact hz _ (by simp; omega)
          · refine ⟨_, rfl, _, _, rfl, rfl, rfl, ?_⟩
            rw [eN, lnAt_in hktl]
            have ed : (l.take k).drop (k - (t + 1)) = l[k - t - 1] :: (l.take k).drop (k - t) := by
              have hlen : k - (t + 1) < (l.take k).length := by rw [List.length_take]; omega
              rw [List.drop_eq_getElem_cons hlen, List.getElem_take, show k - (t + 1) + 1 = k - t by omega]
              congr 1
            rw [ed]
            rfl
    -- the second while
    · rintro σ H' ⟨rfl, v6, rfl⟩
      refine ⟨fun σ H2 => H2 = H' ∧ ∃ v6 : Option V, σ = [some (.ref p), some (.int i), some (.int j), some (.int way), some (.str (S [c])), some (.str (S (crossT l k c))), v6], ?_, ?_⟩
      · refine ⟨fun m σ H2 => H2 = H' ∧ ∃ t : Nat, k + 1 + t ≤ l.length ∧ m = l.length - (k + 1 + t) ∧ σ = [some (.ref p), some (.int i), some (.int j), some (.int way), some (.str (S [c])), some (.str (S (((tailF (l.take k)).map PyProof.Rows.lo1 ++ [c]) ++ ((l.drop (k + 1)).take t).map PyProof.Rows.lo1))), some (.int ((t : Int) + 1))] ∧ ∀ x, k + 1 ≤ x → x < k + 1 + t → l[x]? ≠ some 46,
          ⟨_, rfl, 0, by omega, rfl, ?_, fun x h1 h2 => by omega⟩, ?_⟩
        · rw [List.take_zero, List.map_nil, List.append_nil]; rfl
        rintro m σ H2 ⟨rfl, t, ht, rfl, rfl, hx⟩
        refine ⟨_, rfl, _, rfl, _, rfl, _, rfl, _, _, rfl, rfl, .inr ⟨by rcases hway with e | e <;> rw [e] <;> decide, by rcases hway with e | e <;> rw [e] <;> decide⟩, _, _, rfl, rfl, _, rfl, _, rfl, _, rfl, _, _, rfl, rfl, _, _, rfl, rfl, .inr ⟨by rcases hway with e | e <;> rw [e] <;> decide, by rcases hway with e | e <;> rw [e] <;> decide⟩, _, _, rfl, rfl, p, rows, r, w, _, _, rfl, hS, hb, r1, r9, w9, _, _, rfl, rfl, _, rfl, ?_⟩
        rw [hdn]
        have eN : (k : Int) + ((t : Int) + 1) = ((k + 1 + t : Nat) : Int) := by omega
        by_cases h0 : lnAt l ((k : Int) + ((t : Int) + 1)) = 46
        · rw [h0, decide_eq_true rfl]
          refine iteF ⟨rfl, some (.int ((t : Int) + 1)), ?_⟩
          have h3 : k + 1 + t = l.length ∨ l[k + 1 + t]? = some 46 := by
            by_cases hkt : k + 1 + t = l.length
            · exact .inl hkt
            · refine .inr ?_
              rw [eN, lnAt_in (by omega)] at h0
              rw [List.getElem?_eq_getElem (by omega), h0]
          have e2 := head_high (l := l) (k := k + 1) (high := k + 1 + t) (by omega) ht hx h3
          rw [show k + 1 + t - (k + 1) = t by omega] at e2
          unfold crossT
          rw [e2, List.append_assoc]
          rfl
        · rw [decide_eq_false (fun z => h0 (by injection z))]
          have hin : 0 ≤ (k : Int) + ((t : Int) + 1) ∧ (k : Int) + ((t : Int) + 1) < l.length := by
            by_cases z : 0 ≤ (k : Int) + ((t : Int) + 1) ∧ (k : Int) + ((t : Int) + 1) < l.length
            · exact z
            · exact absurd (lnAt_out z) h0
          have hktl : k + 1 + t < l.length := by omega
          refine iteT ⟨fun σ2 H3 => H3 = H2 ∧ σ2 = [some (.ref p), some (.int i), some (.int j), some (.int way), some (.str (S [c])), some (.str (S (((tailF (l.take k)).map PyProof.Rows.lo1 ++ [c]) ++ ((l.drop (k + 1)).take (t + 1)).map PyProof.Rows.lo1))), some (.int (((t + 1 : Nat) : Int) + 1))], ?_, ?_⟩
          · rintro σ2 H3 ⟨rfl, rfl⟩
            refine ⟨l.length - (k + 1 + (t + 1)), by omega, rfl, t + 1, by omega, rfl, rfl, fun x h1 h2 => ?_⟩
            by_cases hx2 : x = k + 1 + t
            · subst hx2
              rw [List.getElem?_eq_getElem hktl]
              rw [eN, lnAt_in hktl] at h0
              intro z
              exact h0 (Option.some.inj z)
            · exact hx x h1 (by omega)
          · refine ⟨_, rfl, _, rfl, _, rfl, _, rfl, _, rfl, _, _, rfl, rfl, .inr ⟨by rcases hway with e | e <;> rw [e] <;> decide, by rcases hway with e | e <;> rw [e] <;> decide⟩, _, _, rfl, rfl, _, rfl, _, rfl, _, rfl, _, _, rfl, rfl, _, _, rfl, rfl, .inr ⟨by rcases hway with e | e <;> rw [e] <;> decide, by rcases hway with e | e <;> rw [e] <;> decide⟩, _, _, rfl, rfl, p, rows, r, w, _, _, rfl, hS, hb, r1, r9, w9, ?_⟩
            rw [hdn]
            have t1 := tailF_len (l.take k)
            rw [List.length_take] at t1
            refine ⟨rfl, _, rfl, rfl, by show 1 ≤ 1000; decide, fun d hd => by rw [List.mem_singleton.mp hd]; exact hlo _, _, _, rfl, rfl, ?_, ?_⟩
            · rw [List.length_append, List.length_append, List.length_map, List.length_map, List.length_map, List.length_take, List.length_drop]
              exact hz _ (by simp; omega)
            · refine ⟨_, rfl, _, _, rfl, rfl, rfl, ?_⟩
              rw [eN, lnAt_in hktl]
              have ed : (l.drop (k + 1)).take (t + 1) = (l.drop (k + 1)).take t ++ [l[k + 1 + t]] := by
                have hlen : t < (l.drop (k + 1)).length := by rw [List.length_drop]; omega
                rw [List.take_succ, List.getElem?_eq_getElem hlen, List.getElem_drop]
                rfl
              rw [ed, List.map_append, ← List.append_assoc]
              rfl
      · rintro σ H2 ⟨rfl, v6, rfl⟩
        exact ⟨_, rfl, q⟩

end
end My
end

section
set_option Elab.async false
set_option linter.all false
set_option maxRecDepth 100000
set_option maxHeartbeats 2000000
namespace My
open PySem L2
section
variable {P : Program} {w : World} {K : PySem.W.Frag} {mg : Str → Option Value} {base : Heap}
/-! ### the drawn board -/
def pickC (b : Bool) (c : Nat) : Nat := if b = true then 46 else c
theorem pick_at (b : Bool) (c : Nat) : atI [V.str (S [c]), V.str (S [46])] (if b = true then 1 else 0) = some (.str (S [pickC b c])) := by
  cases b
  · exact atI_nat (j := 0) rfl
  · exact atI_nat (j := 1) rfl
theorem pick_ro {b : Bool} {c : Nat} (h : sgC c) : roC (pickC b c) := by
  cases b
  · exact .inr h
  · exact .inl rfl
def spBoardD (K : PySem.W.Frag) (C : Addr) : Sp := fun vs H Q _ => ∃ (p a : Addr) (ls : List Nat) (ns : List Int) (st : Nat) (x : Int), vs = [.ref p, .ref a, .int st, .int x] ∧ H p = some (.lst (Ts (ones ls))) ∧ Alph ls ∧ SqL K H a (ns.map V.int) ∧ st ≤ 900 ∧
  ∀ (b : Addr) (r w : Nat) (rows marks : List (List Nat)) (bi bj : Nat) (H' : Hp), Same H H' → BoardAt C H' b r w rows marks bi bj → Q (.ref b) H'
def MKS : List Nat := [46, 46, 46, 46, 46, 46, 46, 50, 51, 52, 98, 99, 100]
theorem ok_law_board {C f0 : Addr} {fd0 : FuncData} (D : DefAt K mg "_law_board" s_board ["_law_letters_here", "_law_script", "_law_start", "_law_x"]) (n_len : mg "len" = none) (n_range : mg "range" = none) (n_tuple : mg "tuple" = none) (n_int : mg "int" = none)
    (mg_Board : mg "Board" = some (.ref C)) (M_Board : Mk K C f0) (G_Board : FnOk P w K mg base CX0 5 f0 fd0 ["self", "rows", "marks", "begin"] (spBInit C)) (b_Board : Binds K fd0 ["self", "rows", "marks", "begin"] [])
    (D_size : Def P w K mg base "_law_size" 1 ["_law_x"] spSize) (D_digits : Def P w K mg base "_law_digits" 3 ["_law_script", "_law_k", "_law_base", "_law_many"] (spDig K)) : Def P w K mg base "_law_board" 8 ["_law_letters_here", "_law_script", "_law_start", "_law_x"] (spBoardD K C) := by
  refine D.qok sc_board (fun vs H Q E h => ?_) (fun f cdv A outer s H vs Q E hr h => ?_)
  · obtain ⟨p, a, ls, ns, st, x, rfl, _⟩ := h
    rfl
  · obtain ⟨p, a, ls, ns, st, x, rfl, hp, hA, hS, hst, q⟩ := h
    have hlo : (Ts (ones ls)).length = ls.length := by rw [List.length_map, List.length_map]
    have hl1 := hA.lo
    refine ⟨_, (qss_cons (qs_asg (qe_own D_size (hr.mono (by decide)) rfl (qa_cons (qv 3) qa_nil)) (qg_tup rfl (qgs_cons (qg_name (i := 4) sc_board.nd rfl (Or.inl rfl)) (qgs_cons (qg_name (i := 5) sc_board.nd rfl (Or.inl rfl)) qgs_nil)))) (qss_cons (qs_set (i := 6) sc_board.nd rfl (Or.inl rfl) (qe_lst qa_nil)) (qss_cons (qs_set (i := 7) sc_board.nd rfl (Or.inl rfl) (qe_lst qa_nil)) (qss_cons (qs_for PassesOwn.never rfl (qi_range1 (by rfl) n_range (qa_cons (qv 4) qa_nil)) (qg_name (i := 8) sc_board.nd rfl (Or.inl rfl)) (qss_cons (qs_set (i := 9) sc_board.nd rfl (Or.inl rfl) (qe_strS [] (by decide +kernel))) (qss_cons (qs_for PassesOwn.never rfl (qi_list (qe_own D_digits (hr.mono (by decide)) rfl (qa_cons (qv 1) (qa_cons (qe_op op_add (qv 2) (qv 8)) (qa_cons qe_int (qa_cons (qv 5) qa_nil)))))) (qg_name (i := 10) sc_board.nd rfl (Or.inl rfl)) (qss_cons (qs_set (i := 11) sc_board.nd rfl (Or.inl rfl) (qe_ix ix_list (qv 0) (qe_op op_mod (qe_op op_fdiv (qv 10) qe_int) (qe_callB call_len_seq (by rfl) n_len PySem.boot_len (qa_cons (qv 0) qa_nil))) (fun _ _ => rfl))) (qss_cons (qs_cut (qs_if (qt_cmpR op_eq (qe_op op_mod (qe_op op_fdiv (qv 10) qe_int) qe_int) qe_int (nomark _)) (qss_one (qs_set (i := 11) sc_board.nd rfl (Or.inl rfl) (qe_bm0 PySem.F.plainAttrs_str PySem.F.slot_str_upper PySem.F.type_str_upper mt_upA (qv 11)))) qss_nil)) (qss_one (qs_set (i := 9) sc_board.nd rfl (Or.inl rfl) (qe_op op_addS (qv 9) (qe_ix ix_list (qe_lst (qa_cons (qv 11) (qa_cons (qe_strS [46] (by decide +kernel)) qa_nil))) (qe_callTy call_int1 (by rfl) n_int PyProof.Rows.boot_int (qa_cons (qe_or (qe_cmpR op_gt (qe_op op_mod (qv 10) qe_int) qe_int (nomark _)) (qe_one (qe_cmpR op_eq (qe_op op_mod (qe_op op_fdiv (qv 3) qe_int) qe_int) qe_int (nomark _)))) qa_nil)) (fun _ _ => rfl)))))))) (qss_cons (qs_expr (qe_bm PySem.F.plainAttrs_list PySem.F.slot_list_append PySem.F.type_list_append mt_append (qv 6) (qa_cons (qv 9) qa_nil))) (qss_one (qs_expr (qe_bm PySem.F.plainAttrs_list PySem.F.slot_list_append PySem.F.type_list_append mt_append (qv 7) (qa_cons (qe_bm PySem.F.plainAttrs_str PySem.F.slot_str_join PySem.F.type_str_join mt_join (qe_strS [] (by decide +kernel)) (qa_cons (qe_comp rfl (CompOk.of sc_board.nd (by kernel_rfl)) (qi_list (qe_own D_digits (hr.mono (by decide)) rfl (qa_cons (qv 1) (qa_cons (qe_op op_add (qe_op op_add (qv 2) qe_int) (qv 8)) (qa_cons qe_int (qa_cons (qv 5) qa_nil)))))) (fun _ _ _ _ _ => qts_nil) (fun _ _ _ _ _ => (qe_ix ix_S (qe_strS [46, 46, 46, 46, 46, 46, 46, 50, 51, 52, 98, 99, 100] (by decide +kernel)) (qv 0) (fun _ _ => rfl)))) qa_nil)) qa_nil)))))))) (qss_one (qs_ret (qe_make M_Board G_Board (hr.mono (by decide)) rfl mg_Board b_Board .nil pass0 (qa_cons (qe_callTy call_tuple_of (by rfl) n_tuple PyProof.Rows.boot_tuple (qa_cons (qv 6) qa_nil)) (qa_cons (qe_callTy call_tuple_of (by rfl) n_tuple PyProof.Rows.boot_tuple (qa_cons (qv 7) qa_nil)) (qa_cons (qe_tup (qa_cons (qe_op op_mod (qe_op op_fdiv (qv 3) qe_int) (qv 4)) (qa_cons (qe_op op_mod (qe_op op_fdiv (qv 3) qe_int) (qv 5)) qa_nil))) qa_nil)))))))))), ?_⟩
    refine ⟨_, rfl, x, rfl, fun sp r w H1 s1 hsp hsp1 r1 r9 w1 w9 => ?_⟩
    refine ⟨sp, _, rfl, SqT.of hsp1, rfl, _, _, rfl, _, _, rfl, rfl, ?_⟩
    refine ⟨by show 0 ≤ sizeLine; decide, fun R hR => ⟨by show 0 ≤ sizeLine; decide, fun M hM => ?_⟩⟩
    have hR0 := s1.free hR
    have sR : Same H (upd H1 R (HO.lst [])) := s1.upd' hR0
    have hM0 := sR.free hM
    have nRM : R ≠ M := fun z => by rw [← z, upd_same] at hM; cases hM
    have sM : Same H (upd (upd H1 R (HO.lst [])) M (HO.lst [])) := sR.upd' hM0
    refine ⟨_, rfl, _, rfl, by omega, by omega, ?_⟩
    rw [Int.toNat_natCast]
    refine for_range (lo := 0) (n := r) (fun i σ H2 => ∃ (v8 v9 v10 v11 : Option V) (rows marks : List (List Nat)), σ = [some (.ref p), some (.ref a), some (.int st), some (.int x), some (.int r), some (.int w), some (.ref R), some (.ref M), v8, v9, v10, v11] ∧
      Same H H2 ∧ H2 R = some (.lst (Ts rows)) ∧ H2 M = some (.lst (Ts marks)) ∧ rows.length = i ∧ marks.length = i ∧ (∀ l ∈ rows, l.length = w ∧ ∀ c ∈ l, roC c) ∧ ∀ l ∈ marks, l.length = w ∧ ∀ c ∈ l, mkC c)
      ⟨none, none, none, none, [], [], rfl, sM, by rw [upd_ne nRM, upd_same]; rfl, upd_same, rfl, rfl, fun l h => by simp at h, fun l h => by simp at h⟩ ?_ ?_
    · rintro i σ H2 hi ⟨v8, v9, v10, v11, rows, marks, rfl, sm, hR2, hM2, lr, lm, okr, okm⟩
      have e0 : (st : Int) + (0 + (i : Int)) = ((st + i : Nat) : Int) := by omega
      refine ⟨_, rfl, _, rfl, _, rfl, _, _, rfl, rfl, _, rfl, a, ns, st + i, 624, w, by show [V.ref a, V.int ((st : Int) + (0 + (i : Int))), V.int 624, V.int (w : Int)] = _; rw [e0], sm.seq hS, by omega, by decide, by decide, by omega, fun pd ds H3 s3 hpd0 hpd hl hd => ?_⟩
      have sH3 := sm.trans s3
      refine ⟨pd, rfl, ⟨_, SqL.of hpd⟩, for_list (K := K) (a := pd) (xs := ds.map V.int) (fun j σ H4 => ∃ (v10 v11 : Option V) (cs : List Nat), σ = [some (.ref p), some (.ref a), some (.int st), some (.int x), some (.int r), some (.int w), some (.ref R), some (.ref M), some (.int (0 + (i : Int))), some (.str (S cs)), v10, v11] ∧
        Same H3 H4 ∧ cs.length = j ∧ ∀ c ∈ cs, roC c) ⟨v10, v11, [], rfl, Same.refl _, rfl, fun c h => by simp at h⟩ (fun j σ H4 _ h => by obtain ⟨_, _, _, _, sm4, _⟩ := h; exact SqL.of (sm4 _ _ hpd)) ?_ ?_⟩
      · rintro j y σ H4 hj ⟨v10, v11, cs, rfl, s4, lc, okc⟩
        have hjl : j < (ds.map V.int).length := (List.getElem?_eq_some_iff.mp hj).1
        rw [List.length_map] at hjl
        obtain ⟨d, hd1, e⟩ : ∃ d, ds[j]? = some d ∧ V.int d = y := by
          rw [List.getElem?_map] at hj
          obtain ⟨d, h1, h2⟩ := Option.map_eq_some_iff.mp hj
          exact ⟨d, h1, h2⟩
        subst e
        have hp4 := s4 _ _ (sH3 _ _ hp)
        obtain ⟨v, hv, hvm⟩ := at_modA (xs := Ts (ones ls)) (n := ls.length) hlo (by omega) (d / 24)
        obtain ⟨l1, hl1m, rfl⟩ := List.mem_map.mp hvm
        obtain ⟨c, hcm, rfl⟩ := List.mem_map.mp hl1m
        have hc := hA.az c hcm
        refine ⟨_, rfl, _, rfl, _, _, rfl, rfl, ⟨by decide, by decide⟩, _, rfl, p, _, rfl, .inl (SqL.of hp4), _, _, rfl, rfl, by rw [hlo]; show (0 : Int) < (ls.length : Int); omega, p, _, _, .str (S [c]), rfl, rfl, SqL.of hp4, by rw [hlo]; exact hv, ?_⟩
        refine ⟨fun σ' H' => H' = H4 ∧ ∃ z : Nat, sgC z ∧ σ' = [some (.ref p), some (.ref a), some (.int st), some (.int x), some (.int r), some (.int w), some (.ref R), some (.ref M), some (.int (0 + (i : Int))), some (.str (S cs)), some (.int d), some (.str (S [z]))], ?_, ?_⟩
        · refine ⟨_, rfl, _, _, rfl, rfl, ⟨by decide, by decide⟩, _, _, rfl, rfl, (by show (0 : Int) < 8; decide), rfl, _, rfl, ite2 (fun _ => ?_) (fun _ => ⟨rfl, c, sgC_az hc, rfl⟩)⟩
          refine ⟨_, rfl, rfl, [c], rfl, rfl, by show 1 ≤ 1000; decide, fun e he => by rw [List.mem_singleton.mp he]; have := hc.2; omega, ?_⟩
          have eu : [c].map PyProof.Rows.up1 = [c - 32] := by
            rw [List.map_singleton]; unfold PyProof.Rows.up1; rw [if_pos (show 97 ≤ c ∧ c ≤ 122 from hc)]
          rw [eu]
          exact ⟨rfl, _, sgC_up hc, rfl⟩
        · rintro σ' H' ⟨rfl, z, hz, rfl⟩
          refine ⟨_, rfl, _, rfl, by show 2 ≤ sizeLine; decide, fun t ht => ?_⟩
          have s5 := s4.upd' (o := HO.lst [V.str (S [z]), V.str (S [46])]) (s4.free ht)
          refine ⟨_, rfl, _, _, rfl, rfl, (by show (0 : Int) < 3; decide), _, _, rfl, rfl, _, rfl, ?_⟩
          refine ite2 (fun _ => ?_) (fun _ => ?_)
          · refine .inr ⟨_, rfl, t, _, _, _, rfl, rfl, SqL.of upd_same, pick_at _ _, cs, _, rfl, rfl, by rw [lc]; exact Nat.le_of_lt (small1000 (by simp; omega)), ?_⟩
            refine ⟨_, _, _, rfl, s5, by simp [lc], fun e he => ?_⟩
            rcases List.mem_append.mp he with k | k
            · exact okc e k
            · rw [List.mem_singleton.mp k]; exact pick_ro hz
          · refine ⟨_, rfl, _, _, rfl, rfl, ⟨by decide, by decide⟩, _, _, rfl, rfl, (by show (0 : Int) < 6; decide), rfl, ?_⟩
            refine .inr ⟨_, rfl, t, _, _, _, rfl, rfl, SqL.of upd_same, pick_at _ _, cs, _, rfl, rfl, by rw [lc]; exact Nat.le_of_lt (small1000 (by simp; omega)), ?_⟩
            refine ⟨_, _, _, rfl, s5, by simp [lc], fun e he => ?_⟩
            rcases List.mem_append.mp he with k | k
            · exact okc e k
            · rw [List.mem_singleton.mp k]; exact pick_ro hz
      · rintro σ H4 ⟨v10, v11, cs, rfl, s4, lc, okc⟩
        rw [List.length_map, hl] at lc
        have hR4 := s4 _ _ (s3 _ _ hR2)
        have hM4 := s4 _ _ (s3 _ _ hM2)
        have sH4 := sH3.trans s4
        refine ⟨_, rfl, .inl ⟨rfl, _, SqL.of hR4⟩, _, rfl, R, _, _, rfl, rfl, hR4, by rw [List.length_map]; exact small1000 (by omega), ?_⟩
        have s5 : Same H (upd H4 R (HO.lst (Ts rows ++ [V.str (S cs)]))) := sH4.upd' hR0
        have hM5 : upd H4 R (HO.lst (Ts rows ++ [V.str (S cs)])) M = some (.lst (Ts marks)) := by rw [upd_ne nRM.symm]; exact hM4
        have hR5 : upd H4 R (HO.lst (Ts rows ++ [V.str (S cs)])) R = some (.lst (Ts (rows ++ [cs]))) := by rw [upd_same, Ts_snoc]
        generalize upd H4 R (HO.lst (Ts rows ++ [V.str (S cs)])) = H5 at s5 hM5 hR5 ⊢
        have e9 : (st : Int) + 9 + (0 + (i : Int)) = ((st + 9 + i : Nat) : Int) := by omega
        refine ⟨_, rfl, .inl ⟨rfl, _, SqL.of hM5⟩, rfl, _, rfl, _, rfl, _, _, rfl, rfl, _, rfl, _, _, rfl, rfl, _, rfl, a, ns, st + 9 + i, 13, w, by show [V.ref a, V.int ((st : Int) + 9 + (0 + (i : Int))), V.int 13, V.int (w : Int)] = _; rw [e9], s5.seq hS, by omega, by decide, by decide, by omega, fun pe es H6 s6 hpe0 hpe hle hde => ?_⟩
        refine ⟨pe, rfl, ⟨_, SqL.of hpe⟩, fun L hL => comp_list (K := K) (a := pe) (xs := es.map V.int) (fun j ys H7 => ∃ ms : List Nat, ys = Ts (ones ms) ∧ ms.length = j ∧ (∀ c ∈ ms, mkC c) ∧ H7 L = some (.lst ys) ∧ Same H6 H7)
          ⟨[], rfl, rfl, fun c h => by simp at h, upd_same, Same.upd hL⟩ (fun j ys H7 _ h => by obtain ⟨_, _, _, _, _, sm7⟩ := h; exact SqL.of (sm7 _ _ hpe)) ?_ ?_⟩
        · rintro j y ys H7 hj ⟨ms, rfl, lms, okms, hL7, s7⟩
          have hjl : j < (es.map V.int).length := (List.getElem?_eq_some_iff.mp hj).1
          obtain ⟨d, hd1, e⟩ : ∃ d, es[j]? = some d ∧ V.int d = y := by
            rw [List.getElem?_map] at hj
            obtain ⟨d, h1, h2⟩ := Option.map_eq_some_iff.mp hj
            exact ⟨d, h1, h2⟩
          subst e
          obtain ⟨d0, d1⟩ := hde d (List.mem_of_getElem? hd1)
          obtain ⟨n, rfl⟩ : ∃ n : Nat, d = n := ⟨d.toNat, by omega⟩
          have hn : n < MKS.length := by show n < 13; omega
          refine ⟨_, rfl, MKS, _, MKS[n], rfl, rfl, by decide, atI_nat (List.getElem?_eq_getElem hn), hL7, ?_, ?_⟩
          · rw [List.length_map, List.length_map, lms]
            rw [List.length_map] at hjl
            exact small1000 (by omega)
          · refine Nxt.mk hjl ⟨ms ++ [MKS[n]], by rw [Ts_snoc, ones_snoc], by simp [lms], fun c hc => ?_, upd_same, s7.upd' hL⟩
            rcases List.mem_append.mp hc with k | k
            · exact okms c k
            · rw [List.mem_singleton.mp k]
              have : ∀ x ∈ MKS, x ∈ MK := by decide
              exact this _ (List.getElem_mem _)
        · rintro ys H7 ⟨ms, rfl, lms, okms, hL7, s7⟩
          rw [List.length_map, hle] at lms
          refine ⟨L, ones ms, rfl, rfl, SqL.of hL7, by rw [flat1]; omega, ?_⟩
          rw [flat1]
          have hM7 := s7 _ _ (s6 _ _ hM5)
          refine ⟨M, _, _, rfl, rfl, hM7, by rw [List.length_map]; exact small1000 (by omega), ?_⟩
          refine ⟨_, _, _, _, rows ++ [cs], marks ++ [ms], rfl, ((s5.trans s6).trans s7).upd' hM0, by rw [upd_ne nRM]; exact s7 _ _ (s6 _ _ hR5), by rw [upd_same, Ts_snoc], by simp [lr], by simp [lm], fun l hl' => ?_, fun l hl' => ?_⟩
          · rcases List.mem_append.mp hl' with k | k
            · exact okr l k
            · rw [List.mem_singleton.mp k]; exact ⟨lc, okc⟩
          · rcases List.mem_append.mp hl' with k | k
            · exact okm l k
            · rw [List.mem_singleton.mp k]; exact ⟨lms, okms⟩
    · rintro σ H2 ⟨v8, v9, v10, v11, rows, marks, rfl, sm, hR2, hM2, lr, lm, okr, okm⟩
      refine ⟨_, rfl, R, _, rfl, .inl ⟨SqL.of hR2, fun T1 hT1 => ?_⟩⟩
      have k1 : Same H2 (upd H2 T1 (HO.tup (Ts rows))) := Same.upd hT1
      refine ⟨_, rfl, M, _, rfl, .inl ⟨SqL.of (k1 _ _ hM2), fun T2 hT2 => ?_⟩⟩
      have k2 : Same H2 (upd (upd H2 T1 (HO.tup (Ts rows))) T2 (HO.tup (Ts marks))) := k1.upd' (k1.free hT2)
      have hT1' : upd (upd H2 T1 (HO.tup (Ts rows))) T2 (HO.tup (Ts marks)) T1 = some (.tup (Ts rows)) := by
        rw [upd_ne (fun z => by rw [← z, upd_same] at hT2; cases hT2), upd_same]
      have hT2' : upd (upd H2 T1 (HO.tup (Ts rows))) T2 (HO.tup (Ts marks)) T2 = some (.tup (Ts marks)) := upd_same
      generalize upd (upd H2 T1 (HO.tup (Ts rows))) T2 (HO.tup (Ts marks)) = H3 at k2 hT1' hT2' ⊢
      refine ⟨_, rfl, _, _, rfl, rfl, ⟨by decide, by decide⟩, _, rfl, _, _, rfl, rfl, (by show (0 : Int) < (r : Int); omega), _, rfl, _, _, rfl, rfl, ⟨by decide, by decide⟩, _, rfl, _, _, rfl, rfl, (by show (0 : Int) < (w : Int); omega), by show 2 ≤ sizeLine; decide, fun pb hpb => ?_⟩
      have i0 := Int.emod_nonneg (x / 6000) (show (r : Int) ≠ 0 by omega)
      have i1 := Int.emod_lt_of_pos (x / 6000) (show (0 : Int) < (r : Int) by omega)
      have j0 := Int.emod_nonneg (x / 54000) (show (w : Int) ≠ 0 by omega)
      have j1 := Int.emod_lt_of_pos (x / 54000) (show (0 : Int) < (w : Int) by omega)
      obtain ⟨bi, ebi⟩ : ∃ bi : Nat, x / 6000 % (r : Int) = bi := ⟨(x / 6000 % (r : Int)).toNat, by omega⟩
      obtain ⟨bj, ebj⟩ : ∃ bj : Nat, x / 54000 % (w : Int) = bj := ⟨(x / 54000 % (w : Int)).toNat, by omega⟩
      have k4 : Same H3 (upd H3 pb (HO.tup [V.int (x / 6000 % (r : Int)), V.int (x / 54000 % (w : Int))])) := Same.upd hpb
      have hpb4 : upd H3 pb (HO.tup [V.int (x / 6000 % (r : Int)), V.int (x / 54000 % (w : Int))]) pb = some (.tup [.int bi, .int bj]) := by rw [upd_same, ebi, ebj]
      have hT14 := k4 _ _ hT1'
      have hT24 := k4 _ _ hT2'
      have k5 : Same H _ := (sm.trans k2).trans k4
      generalize upd H3 pb (HO.tup [V.int (x / 6000 % (r : Int)), V.int (x / 54000 % (w : Int))]) = H4 at k5 hpb4 hT14 hT24 ⊢
      have B : Brd r w rows marks bi bj := ⟨r1, r9, w1, w9, ⟨lr, fun l h => (okr l h).1⟩, ⟨lm, fun l h => (okm l h).1⟩, fun l h => (okr l h).2, fun l h => (okm l h).2, by omega, by omega⟩
      intro b dx nx ndx nex
      have s2 : Same H4 (upd (upd H4 dx (HO.own b)) b (HO.ins C dx [])) := fun c o e => by rw [upd_ne (ne_of_none e nx), upd_ne (ne_of_none e ndx)]; exact e
      refine ⟨b, dx, T1, T2, pb, r, w, rows, marks, bi, bj, rfl, upd_same, s2 _ _ hT14, s2 _ _ hT24, s2 _ _ hpb4, B, fun H5 kp hx5 => ⟨rfl, ?_⟩⟩
      have s3 : Same H4 H5 := fun c o e => kp c o (s2 c o e) (ne_of_none e nx)
      exact q b r w rows marks bi bj H5 (k5.trans s3) ⟨⟨dx, T1, T2, pb, hx5, s3 _ _ hT14, s3 _ _ hT24, s3 _ _ hpb4⟩, B⟩

end
end My
end

section
set_option Elab.async false
set_option linter.all false
set_option maxRecDepth 100000
set_option maxHeartbeats 2000000
namespace My
open PySem L2
section
variable {P : Program} {w : World} {K : PySem.W.Frag} {mg : Str → Option Value} {base : Heap}
/-! ### cross letters -/
theorem col_set {r w : Nat} {R : List (List Nat)} (hb : Blk r w R) {i j z : Nat} (hi : i < r) (hj : j < w) : colOf (setAt R i j z) j = (colOf R j).set i z := by
  apply List.ext_getElem?
  intro m
  have hil : i < R.length := by rw [hb.len]; exact hi
  have hrow : (R.getD i []).length = w := by rw [List.getD_eq_getElem?_getD, List.getElem?_eq_getElem hil]; exact hb.wid _ (List.getElem_mem _)
  unfold colOf setAt
  rw [List.getElem?_map, List.getElem?_set, List.getElem?_set, List.getElem?_map]
  by_cases hm : i = m
  · subst hm
    rw [if_pos rfl, if_pos rfl, if_pos hil, if_pos (by rw [List.length_map]; exact hil)]
    show some (((R.getD i []).set j z).getD j 0) = some z
    rw [List.getD_eq_getElem?_getD, List.getElem?_set, if_pos rfl, if_pos (by omega)]
    rfl
  · rw [if_neg hm, if_neg hm]
theorem line_set {r w : Nat} {R : List (List Nat)} (hb : Blk r w R) {i j z : Nat} (hi : i < r) (hj : j < w) {way : Int} : lineOf (setAt R i j z) i j way = (lineOf R i j way).set (placeOf i j way) z := by
  unfold lineOf placeOf
  by_cases h : way = 0
  · rw [if_pos h, if_pos h, if_pos h]
    have hil : i < R.length := by rw [hb.len]; exact hi
    unfold setAt
    rw [List.getD_eq_getElem?_getD, List.getElem?_set, if_pos rfl, if_pos hil]
    rfl
  · rw [if_neg h, if_neg h, if_neg h]
    exact col_set hb hi hj
theorem run_parts {l : List Nat} {k : Nat} (hk : k < l.length) : tailF ((l.set k 97).take k) = tailF (l.take k) ∧ headF ((l.set k 97).drop k) = 97 :: headF (l.drop (k + 1)) := by
  constructor
  · rw [List.take_set, List.set_eq_of_length_le (by rw [List.length_take]; omega)]
  · have hl : k < (l.set k 97).length := by rw [List.length_set]; exact hk
    rw [List.drop_eq_getElem_cons hl, List.getElem_set_self, List.drop_set_of_lt (by omega)]
    rfl
def crossL (ws : List (List Nat)) (l : List Nat) (k : Nat) : List Nat := if (crossT l k 97).length = 1 then AL else AL.filter fun c => decide (crossT l k c ∈ ws)
def spCL (C CB : Addr) : Sp := fun vs H Q _ => ∃ (pb pk d : Addr) (ws : List (List Nat)) (r w : Nat) (rows marks : List (List Nat)) (bi bj i j : Nat) (way : Int), vs = [.ref pb, .ref pk, .int i, .int j, .int way] ∧ BoardAt C H pb r w rows marks bi bj ∧ BookAt CB H pk d ws ∧ i < r ∧ j < w ∧ (way = 0 ∨ way = 1) ∧
  ∀ H', Same H H' → Q (.str (S (crossL ws (lineOf rows i j way) (placeOf i j way)))) H'
theorem runV_at {i j k : Nat} {way : Int} {l : List Nat} (hw : way = 0 ∨ way = 1) (hk : placeOf i j way = k) : atI (runV i j way l) 2 = some (.str (S (tailF (l.take k) ++ headF (l.drop k)))) ∧ (way = 0 → atI (runV i j way l) 1 = some (.int ((k : Int) - (tailF (l.take k)).length))) ∧ (way = 1 → atI (runV i j way l) 0 = some (.int ((k : Int) - (tailF (l.take k)).length))) := by
  subst hk
  rcases hw with rfl | rfl
  · exact ⟨atI_nat (j := 2) rfl, fun _ => atI_nat (j := 1) rfl, fun z => by omega⟩
  · exact ⟨atI_nat (j := 2) rfl, fun z => by omega, fun _ => atI_nat (j := 0) rfl⟩
theorem headF_mem {l : List Nat} {c : Nat} (h : c ∈ headF l) : c ∈ l := (List.takeWhile_prefix _).subset h
theorem tailF_mem {l : List Nat} {c : Nat} (h : c ∈ tailF l) : c ∈ l := by
  unfold tailF at h
  rw [List.mem_reverse] at h
  exact List.mem_reverse.mp ((List.takeWhile_prefix _).subset h)
theorem ok_cross_letters {C CB f1 f2 f3 : Addr} {fd1 fd2 fd3 : FuncData} (D : DefAt K mg "cross_letters" s_cross_letters ["board", "book", "row", "column", "way"]) (n_len : mg "len" = none) (g_LETTERS : ∃ t, mg "LETTERS" = some (.str (S AL) t)) (T_Board : BoardCls K C) (T_Book : BookCls K CB)
    (m_Board_laid : Meth K C "laid" f1) (G_Board_laid : FnOk P w K mg base CX0 8 f1 fd1 ["self", "laying"] (spLaid C)) (b_Board_laid : Binds K fd1 ["self", "laying"] [])
    (m_Board_run : Meth K C "run" f2) (G_Board_run : FnOk P w K mg base CX0 2 f2 fd2 ["self", "row", "column", "way"] (spRun C)) (b_Board_run : Binds K fd2 ["self", "row", "column", "way"] [])
    (m_Book_has : Meth K CB "has" f3) (G_Book_has : FnOk P w K mg base CX0 1 f3 fd3 ["self", "text"] (spHas CB)) (b_Book_has : Binds K fd3 ["self", "text"] []) : Def P w K mg base "cross_letters" 10 ["board", "book", "row", "column", "way"] (spCL C CB) := by
  refine D.qok sc_cross_letters (fun vs H Q E h => ?_) (fun f cdv A outer s H vs Q E hr h => ?_)
  · obtain ⟨pb, pk, d, ws, r, w, rows, marks, bi, bj, i, j, way, rfl, _⟩ := h
    rfl
  · obtain ⟨pb, pk, d, ws, r, w, rows, marks, bi, bj, i, j, way, rfl, B, BK, hi, hj, hway, q⟩ := h
    obtain ⟨dx, _, _, _, ex, _⟩ := id B.ex
    have r9 := B.ok.r9
    have w9 := B.ok.w9
    have hll := lineOf_len B.ok.br hi (j := j) (way := way)
    have hk : placeOf i j way < (lineOf rows i j way).length := by
      rw [hll]; unfold placeOf
      split <;> assumption
    have hl9 : (lineOf rows i j way).length ≤ 9 := by rw [hll]; split <;> assumption
    have hro := line_ro B.ok.cr (i := i) (way := way) B.ok.br hj
    have hz : ∀ n, n ≤ 100 → n ≤ sizeLine := fun n h => Nat.le_of_lt (small1000 (by omega))
    refine ⟨_, (qss_cons (qs_set (i := 5) sc_cross_letters.nd rfl (Or.inl rfl) (qe_meth (qe_meth (qv 0) T_Board.cl m_Board_laid G_Board_laid (hr.mono (by decide)) b_Board_laid .nil pass0 (qa_cons (qe_tup (qa_cons (qe_tup (qa_cons (qv 2) (qa_cons (qv 3) (qa_cons (qe_strS [97] (by decide +kernel)) qa_nil)))) qa_nil)) qa_nil)) T_Board.cl m_Board_run G_Board_run (hr.mono (by decide)) b_Board_run .nil pass0 (qa_cons (qv 2) (qa_cons (qv 3) (qa_cons (qv 4) qa_nil))))) (qss_cons (qs_if (qt_cmpR op_eq (qe_callB call_lenS (by rfl) n_len PySem.boot_len (qa_cons (qe_ix ix_tup (qv 5) qe_int (fun _ _ => rfl)) qa_nil)) qe_int (nomark _)) (qss_one (qs_ret (qe_gS (by rfl) g_LETTERS))) qss_nil) (qss_cons (qs_cut (qs_set (i := 6) sc_cross_letters.nd rfl (Or.inl rfl) (qe_ifExp (qt_cmpR op_eq (qv 4) qe_int (nomark _)) (qe_op op_sub (qv 3) (qe_ix ix_tup (qv 5) qe_int (fun _ _ => rfl))) (qe_op op_sub (qv 2) (qe_ix ix_tup (qv 5) qe_int (fun _ _ => rfl)))))) (qss_cons (qs_set (i := 7) sc_cross_letters.nd rfl (Or.inr rfl) (qe_bm0 PySem.F.plainAttrs_str PySem.F.slot_str_lower PySem.F.type_str_lower mt_loA (qe_slice sl_S (qe_ix ix_tup (qv 5) qe_int (fun _ _ => rfl)) qo_none (qo_some (qv 6))))) (qss_cons (qs_set (i := 8) sc_cross_letters.nd rfl (Or.inr rfl) (qe_bm0 PySem.F.plainAttrs_str PySem.F.slot_str_lower PySem.F.type_str_lower mt_loA (qe_slice sl_S (qe_ix ix_tup (qv 5) qe_int (fun _ _ => rfl)) (qo_some (qe_op op_add (qv 6) qe_int)) qo_none))) (qss_one (qs_ret (qe_bm PySem.F.plainAttrs_str PySem.F.slot_str_join PySem.F.type_str_join mt_join (qe_strS [] (by decide +kernel)) (qa_cons (qe_compG (ns := ["letter"]) rfl (CompG.of ["board", "book", "row", "column", "way", "run", "place", "ahead", "behind"] [] (by kernel_rfl)) (qi_str (qe_gS (by rfl) g_LETTERS)) (fun _ _ _ _ _ => (tg_name (show (["letter", "board", "book", "row", "column", "way", "run", "place", "ahead", "behind"] : List Str).Nodup by decide +kernel) rfl (by rfl))) (fun _ _ _ _ _ => (qts_one (qt_val (qe_meth (qv 2) T_Book.cl m_Book_has G_Book_has (hr.mono (by decide)) b_Book_has .nil pass0 (qa_cons (qe_op op_addS (qe_op op_addS (qv 8) (qv 0)) (qv 9)) qa_nil))))) (fun _ _ _ _ _ => (qv 0))) qa_nil))))))))), ?_⟩
    refine ⟨_, rfl, pb, dx, _, rfl, ex, rfl, _, rfl, _, rfl, by show 3 ≤ sizeLine; decide, fun t1 ht1 => ⟨by show 1 ≤ sizeLine; decide, fun t2 ht2 => ?_⟩⟩
    have s1 : Same H (upd H t1 (HO.tup [V.int i, V.int j, V.str (S [97])])) := Same.upd ht1
    have s2 := s1.upd' (o := HO.tup [V.ref t1]) (s1.free ht2)
    have n12 : t1 ≠ t2 := fun z => by rw [← z, upd_same] at ht2; cases ht2
    have h1 : upd (upd H t1 (HO.tup [V.int i, V.int j, V.str (S [97])])) t2 (HO.tup [V.ref t1]) t1 = some (.tup [.int i, .int j, .str (S [97])]) := by rw [upd_ne n12, upd_same]
    have h2 : upd (upd H t1 (HO.tup [V.int i, V.int j, V.str (S [97])])) t2 (HO.tup [V.ref t1]) t2 = some (.tup [.ref t1]) := upd_same
    generalize upd (upd H t1 (HO.tup [V.int i, V.int j, V.str (S [97])])) t2 (HO.tup [V.ref t1]) = H2 at s2 h1 h2 ⊢
    refine ⟨pb, t2, [t1], [(i, j, 97)], r, w, rows, marks, bi, bj, rfl, B.mv s2, h2, LayL.nil.snoc (t := (i, j, 97)) h1, fun t ht => by rw [List.mem_singleton.mp ht]; exact ⟨hi, hj, by show sgB [97] = true; decide⟩, fun x1 H3 s3 B3 => ?_⟩
    have el : laidF rows [(i, j, 97)] = setAt rows i j 97 := rfl
    rw [el] at B3
    obtain ⟨dx1, _, _, _, ex1, _⟩ := id B3.ex
    refine ⟨x1, dx1, _, rfl, ex1, rfl, _, rfl, _, rfl, _, rfl, x1, r, w, setAt rows i j 97, marks, bi, bj, i, j, way, rfl, B3, hi, hj, hway, fun t H4 s4 ht ht4 => ?_⟩
    have sH4 := (s2.trans s3).trans s4
    rw [line_set B.ok.br hi hj] at ht4
    generalize lineOf rows i j way = l at hk hl9 hro q ht4
    generalize hK : placeOf i j way = k at hk q ht4
    obtain ⟨pa, pc⟩ := run_parts hk
    obtain ⟨va, vb, vc⟩ := runV_at (l := l.set k 97) hway hK
    rw [pa, pc] at va
    rw [pa] at vb vc
    have t1l := tailF_len (l.take k)
    rw [List.length_take] at t1l
    have t2l := headF_len (l.drop (k + 1))
    rw [List.length_drop] at t2l
    have hta : ∀ c ∈ tailF (l.take k), c < 128 := fun c hc => ro_lt (hro c (List.mem_of_mem_take (tailF_mem hc)))
    have hha : ∀ c ∈ headF (l.drop (k + 1)), c < 128 := fun c hc => ro_lt (hro c (List.mem_of_mem_drop (headF_mem hc)))
    have hcl : ∀ c, (crossT l k c).length = (tailF (l.take k)).length + 1 + (headF (l.drop (k + 1))).length := fun c => by
      unfold crossT
      rw [List.length_append, List.length_map, List.length_cons, List.length_map]; omega
    have ecr : ∀ c, crossT l k c = (tailF (l.take k)).map PyProof.Rows.lo1 ++ [c] ++ (headF (l.drop (k + 1))).map PyProof.Rows.lo1 := fun c => by unfold crossT; rw [List.append_assoc]; rfl
    generalize hX : tailF (l.take k) = X at va vb vc t1l hta hcl ecr
    generalize hY : headF (l.drop (k + 1)) = Y at va t2l hha hcl ecr
    generalize runV i j way (l.set k 97) = rv at va vb vc ht4
    have hS4 := SqT.of (K := K) ht4
    refine ⟨_, rfl, t, _, _, _, rfl, rfl, hS4, va, _, rfl, hz _ (by rw [List.length_append, List.length_cons]; omega), rfl, _, rfl, ?_⟩
    by_cases h1 : X.length + 1 + Y.length = 1
    · have e : decide (V.int ((X ++ 97 :: Y).length : Nat) = V.int 1) = true := decide_eq_true (by rw [List.length_append, List.length_cons, show X.length + (Y.length + 1) = 1 by omega]; rfl)
      rw [e]
      refine iteT ?_
      have := q H4 sH4
      unfold crossL at this
      rw [if_pos (by rw [hcl]; exact h1)] at this
      exact this
    · have e : decide (V.int ((X ++ 97 :: Y).length : Nat) = V.int 1) = false := decide_eq_false (fun z => by
        injection z with z
        rw [List.length_append, List.length_cons] at z
        omega)
      rw [e]
      refine iteF ?_
      have hq := q H4
      refine ⟨fun σ H' => H' = H4 ∧ σ = [some (.ref pb), some (.ref pk), some (.int i), some (.int j), some (.int way), some (.ref t), some (.int (X.length : Nat)), none, none], ?_, ?_⟩
      · rcases hway with rfl | rfl
        · refine ⟨_, rfl, rfl, _, rfl, iteT ⟨_, rfl, _, rfl, t, _, _, _, rfl, rfl, hS4, vb rfl, _, _, rfl, rfl, rfl, ?_⟩⟩
          have : (j : Int) - ((k : Int) - (X.length : Int)) = (X.length : Int) := by rw [← hK]; show (j : Int) - ((j : Int) - _) = _; omega
          exact congrArg (fun v : Int => ([some (V.ref pb), some (V.ref pk), some (V.int i), some (V.int j), some (V.int 0), some (V.ref t), some (V.int v), none, none] : St)) this
        · refine ⟨_, rfl, rfl, _, rfl, iteF ⟨_, rfl, _, rfl, t, _, _, _, rfl, rfl, hS4, vc rfl, _, _, rfl, rfl, rfl, ?_⟩⟩
          have : (i : Int) - ((k : Int) - (X.length : Int)) = (X.length : Int) := by rw [← hK]; show (i : Int) - ((i : Int) - _) = _; omega
          exact congrArg (fun v : Int => ([some (V.ref pb), some (V.ref pk), some (V.int i), some (V.int j), some (V.int 1), some (V.ref t), some (V.int v), none, none] : St)) this
      rintro σ H' ⟨rfl, rfl⟩
      refine ⟨_, rfl, t, _, _, _, rfl, rfl, hS4, va, _, rfl, _, rfl, _, rfl, hz _ (by rw [List.length_append, List.length_cons]; omega), rfl, ?_⟩
      rw [cut_to, List.take_left' rfl]
      refine ⟨X, rfl, rfl, by omega, hta, ?_⟩
      have e1 : (X.length : Int) + 1 = ((X.length + 1 : Nat) : Int) := by omega
      refine ⟨_, rfl, t, _, _, _, rfl, rfl, hS4, va, _, rfl, _, _, rfl, rfl, _, rfl, _, rfl, hz _ (by rw [List.length_append, List.length_cons]; omega), rfl, ?_⟩
      rw [e1, cut_from, show (X ++ 97 :: Y).drop (X.length + 1) = Y by rw [List.drop_append, Nat.add_sub_cancel_left, List.drop_of_length_le (by omega)]; rfl]
      refine ⟨Y, rfl, rfl, by omega, hha, ?_⟩
      have BK4 := BK.same sH4
      refine ⟨rfl, AL, rfl, fun L hL => compG1_str (f := hideS [] 0) (tt := tB (tMeth CB "has" (spHas CB) [] E0 (tVar 2) (tCons (tOp rAddS (tOp rAddS (tVar 8) (tVar 0)) (tVar 9)) tNil))) (te := tVar 0) (fun n ys H5 => ys = Ts (ones ((AL.take n).filter fun c => decide (crossT l k c ∈ ws))) ∧ H5 L = some (.lst ys) ∧ Same H' H5) ⟨rfl, upd_same, Same.upd hL⟩ ?_ ?_⟩
      · rintro n c ys H5 hn ⟨rfl, hL5, s5⟩
        have hnl : n < AL.length := (List.getElem?_eq_some_iff.mp hn).1
        have hn26 : n < 26 := hnl
        have BK5 := BK4.same s5
        obtain ⟨dk, ek⟩ := BK5.ob
        refine ⟨_, rfl, pk, dk, _, rfl, ek, rfl, _, rfl, _, rfl, _, _, rfl, rfl, hz _ (by rw [List.length_map]; simp; omega), _, rfl, _, _, rfl, rfl, hz _ (by rw [List.length_append, List.length_map, List.length_map]; simp; omega), pk, d, ws, _, rfl, BK5, _, rfl, ?_⟩
        rw [← ecr]
        by_cases hc : crossT l k c ∈ ws
        · rw [decide_eq_true hc]
          refine iteT ⟨_, rfl, hL5, ?_, Nxt.mk hnl ⟨?_, upd_same, s5.upd' hL⟩⟩
          · rw [List.length_map, List.length_map]
            exact small1000 (Nat.le_trans (List.length_filter_le _ _) (by rw [List.length_take]; omega))
          · rw [List.take_add_one, hn, List.filter_append, Ts_snoc, ones_snoc]
            simp [hc]
        · rw [decide_eq_false hc]
          refine iteF (Nxt.mk hnl ⟨?_, hL5, s5⟩)
          rw [List.take_add_one, hn, List.filter_append]
          simp [hc]
      · rintro ys H5 ⟨rfl, hL5, s5⟩
        rw [List.take_length] at hL5
        refine ⟨L, _, rfl, rfl, SqL.of hL5, ?_, ?_⟩
        · rw [flat1]
          exact Nat.le_trans (List.length_filter_le _ _) (by decide)
        · rw [flat1]
          have := q H5 (sH4.trans s5)
          unfold crossL at this
          rw [if_neg (by rw [hcl]; exact h1)] at this
          exact this

end
end My
end

section
set_option Elab.async false
set_option linter.all false
set_option maxRecDepth 100000
set_option maxHeartbeats 2000000
namespace My
open PySem L2
section
variable {P : Program} {w : World} {K : PySem.W.Frag} {mg : Str → Option Value} {base : Heap}
/-! ### the law -/
theorem HasDs.ofT {H : Hp} : ∀ {ls : List (List Nat)}, (∀ l ∈ ls, ∀ c ∈ l, c < 128) → HasDs K H 0 (ls.map Dt.str) (Ts ls)
  | [], _ => .nil
  | l :: ls, h => .cons (.str l (h l List.mem_cons_self)) (HasDs.ofT fun l' hl' => h l' (List.mem_cons_of_mem _ hl'))
theorem hasT {H : Hp} {a : Addr} {ls : List (List Nat)} (h : SqT K H a (Ts ls)) (ha : ∀ l ∈ ls, ∀ c ∈ l, c < 128) : HasD K H 1 (.tup (ls.map Dt.str)) (.ref a) := .tup h (HasDs.ofT ha)
theorem twice_of (b : Bool) : ∃ n : Nat, n ≤ 2 ∧ (2 : Int) * (if b = true then 1 else 0) = n := by
  cases b
  · exact ⟨0, by decide, rfl⟩
  · exact ⟨2, by decide, rfl⟩
theorem due_eq {ws ws2 : List (List Nat)} (h : ∀ x, x ∈ ws2 ↔ x ∈ ws) (l : List Nat) (k : Nat) : crossL ws2 l k = AL.filter fun c => decide ((crossT l k c).length = 1) || decide (crossT l k c ∈ ws) := by
  have hc : ∀ c, (crossT l k c).length = (crossT l k 97).length := fun c => by simp [crossT]
  unfold crossL
  by_cases h1 : (crossT l k 97).length = 1
  · rw [if_pos h1]
    refine (List.filter_eq_self.mpr fun c _ => ?_).symm
    rw [decide_eq_true (show (crossT l k c).length = 1 by rw [hc]; exact h1)]; rfl
  · rw [if_neg h1]
    refine List.filter_congr fun c _ => ?_
    rw [decide_eq_false (show ¬ (crossT l k c).length = 1 by rw [hc]; exact h1)]
    simp [h]
theorem ok_law {C CB f g0 g1 : Addr} {fd fe0 fe1 : FuncData} (F : Fun K "law" "law" s_law f fd) (n_len : mg "len" = none) (n_range : mg "range" = none) (n_tuple : mg "tuple" = none) (n_int : mg "int" = none) (n_str : mg "str" = none) (n_isinstance : mg "isinstance" = none)
    (T_Board : BoardCls K C) (T_Book : BookCls K CB) (mg_Book : mg "Book" = some (.ref CB)) (M_Book : Mk K CB g0) (G_Book : FnOk P w K mg base CX0 3 g0 fe0 ["self", "words"] (spInit K CB)) (b_Book : Binds K fe0 ["self", "words"] [])
    (m_Book_words : Meth K CB "words" g1) (G_Book_words : FnOk P w K mg base CX0 1 g1 fe1 ["self"] (spWords CB)) (b_Book_words : Binds K fe1 ["self"] [])
    (D_letters : Def P w K mg base "_law_letters" 4 ["_law_script", "_law_k"] (spLetL K)) (D_number : Def P w K mg base "_law_number" 2 ["_law_script", "_law_k"] (spNum K))
    (D_words : Def P w K mg base "_law_words" 4 ["_law_letters_here", "_law_script", "_law_start", "_law_many"] (spWordsL K)) (D_board : Def P w K mg base "_law_board" 8 ["_law_letters_here", "_law_script", "_law_start", "_law_x"] (spBoardD K C))
    (D_cross : Def P w K mg base "_law_cross" 2 ["_law_rows", "_law_row", "_law_column", "_law_way", "_law_letter"] spCross) (D_cross_letters : Def P w K mg base "cross_letters" 10 ["board", "book", "row", "column", "way"] (spCL C CB)) : FnOk P w K mg base CX0 12 f fd ["_law_script"] (spLaw K) := by
  refine F.qok sc_law (fun vs H Q E h => ?_) (fun cdv A outer s H vs Q E hr h => ?_)
  · obtain ⟨a, ns, rfl, _⟩ := h
    rfl
  · obtain ⟨a, ns, rfl, hS, hn, q⟩ := h
    refine ⟨_, (qss_cons (qs_set (i := 1) sc_law.nd rfl (Or.inl rfl) (qe_strS AL (by decide +kernel))) (qss_cons (qs_set (i := 2) sc_law.nd rfl (Or.inl rfl) (qe_own D_letters (hr.mono (by decide)) rfl (qa_cons (qv 0) (qa_cons qe_int qa_nil)))) (qss_cons (qs_set (i := 3) sc_law.nd rfl (Or.inl rfl) (qe_own D_number (hr.mono (by decide)) rfl (qa_cons (qv 0) (qa_cons qe_int qa_nil)))) (qss_cons (qs_set (i := 4) sc_law.nd rfl (Or.inl rfl) (qe_own D_words (hr.mono (by decide)) rfl (qa_cons (qv 2) (qa_cons (qv 0) (qa_cons qe_int (qa_cons (qe_op op_add qe_int (qe_op op_mod (qv 3) qe_int)) qa_nil)))))) (qss_cons (qs_set (i := 5) sc_law.nd rfl (Or.inl rfl) (qe_own D_board (hr.mono (by decide)) rfl (qa_cons (qv 2) (qa_cons (qv 0) (qa_cons qe_int (qa_cons (qe_own D_number (hr.mono (by decide)) rfl (qa_cons (qv 0) (qa_cons qe_int qa_nil))) qa_nil)))))) (qss_cons (qs_set (i := 6) sc_law.nd rfl (Or.inl rfl) (qe_make M_Book G_Book (hr.mono (by decide)) rfl mg_Book b_Book .nil pass0 (qa_cons (qv 4) qa_nil))) (qss_cons (qs_for PassesOwn.never rfl (qi_range1 (by rfl) n_range (qa_cons (qe_callB call_len_seq (by rfl) n_len PySem.boot_len (qa_cons (qe_fld (qv 5) rfl) qa_nil)) qa_nil)) (qg_name (i := 7) sc_law.nd rfl (Or.inl rfl)) (qss_one (qs_for PassesOwn.never rfl (qi_range1 (by rfl) n_range (qa_cons (qe_callB call_lenS (by rfl) n_len PySem.boot_len (qa_cons (qe_ix ix_tup (qe_fld (qv 5) rfl) qe_int (fun _ _ => rfl)) qa_nil)) qa_nil)) (qg_name (i := 8) sc_law.nd rfl (Or.inl rfl)) (qss_one (qs_for PassesOwn.never rfl (qi_range1 (by rfl) n_range (qa_cons (qe_op op_mul qe_int (qe_callTy call_int1 (by rfl) n_int PyProof.Rows.boot_int (qa_cons (qe_cmpR op_eqS (qe_ix ix_S (qe_ix ix_tup (qe_fld (qv 5) rfl) (qv 7) (fun _ _ => rfl)) (qv 8) (fun _ _ => rfl)) (qe_strS [46] (by decide +kernel)) (nomark _)) qa_nil))) qa_nil)) (qg_name (i := 9) sc_law.nd rfl (Or.inl rfl)) (qss_cons (qs_set (i := 10) sc_law.nd rfl (Or.inl rfl) (qe_strS [] (by decide +kernel))) (qss_cons (qs_for PassesOwn.never rfl (qi_str (qv 1)) (qg_name (i := 11) sc_law.nd rfl (Or.inl rfl)) (qss_cons (qs_set (i := 12) sc_law.nd rfl (Or.inl rfl) (qe_own D_cross (hr.mono (by decide)) rfl (qa_cons (qe_fld (qv 5) rfl) (qa_cons (qv 7) (qa_cons (qv 8) (qa_cons (qv 9) (qa_cons (qv 11) qa_nil))))))) (qss_one (qs_if (QW.qt (qw_or (qt_cmpR op_eq (qe_callB call_lenS (by rfl) n_len PySem.boot_len (qa_cons (qv 12) qa_nil)) qe_int (nomark _)) (qw_or1 (qt_cmpR op_in_seq (qv 12) (qv 4) rfl)))) (qss_one (qs_set (i := 10) sc_law.nd rfl (Or.inl rfl) (qe_op op_addS (qv 10) (qv 11)))) qss_nil)))) (qss_cons (qs_set (i := 13) sc_law.nd rfl (Or.inl rfl) (qe_own D_cross_letters (hr.mono (by decide)) rfl (qa_cons (qv 5) (qa_cons (qv 6) (qa_cons (qv 7) (qa_cons (qv 8) (qa_cons (qv 9) qa_nil))))))) (qss_one (qs_if (QW.qt (qw_or (qt_not (qt_val (qe_callB call_isinst (by rfl) n_isinstance PyProof.Rows.boot_isinstance (qa_cons (qv 13) (qa_cons (qe_bltn (v := .ty "str") (by rfl) n_str PyProof.Rows.boot_str rfl) qa_nil))))) (qw_or1 (qt_cmpR op_neS (qv 13) (qv 10) (nomark _))))) (qss_one (qs_ret qe_bl)) qss_nil)))))))))) (qss_one (qs_ret (qe_cmpR (op_eqD hr.units) (qe_meth0 (qv 6) T_Book.cl m_Book_words G_Book_words (hr.mono (by decide)) b_Book_words .nil pass0) (qe_callTy call_tuple_of (by rfl) n_tuple PyProof.Rows.boot_tuple (qa_cons (qv 4) qa_nil)) (nomark _))))))))))), ?_⟩
    refine ⟨_, rfl, a, ns, 0, rfl, hS, by decide, fun pl ls H1 s1 hpl hA => ?_⟩
    refine ⟨_, rfl, a, ns, 1, rfl, s1.seq hS, by decide, fun x => ?_⟩
    obtain ⟨m, hm, hm20⟩ : ∃ m : Nat, 3 + x % 18 = (m : Int) ∧ m ≤ 20 := ⟨(3 + x % 18).toNat, by omega, by omega⟩
    refine ⟨_, rfl, _, rfl, _, rfl, _, _, rfl, rfl, (by show (0 : Int) < 18; decide), _, _, rfl, rfl, pl, a, ls, ns, 2, m, by show [V.ref pl, V.ref a, V.int 2, V.int (3 + x % 18)] = _; rw [hm]; rfl, hpl, hA, s1.seq hS, by omega, by omega, fun pw ws H2 s2 hpw nd az rs hlen => ?_⟩
    have sH2 := s1.trans s2
    refine ⟨_, rfl, _, rfl, _, rfl, a, ns, 23, rfl, sH2.seq hS, by decide, fun y => ⟨pl, a, ls, ns, 24, y, rfl, s2 _ _ hpl, hA, sH2.seq hS, by decide, fun b r w rows marks bi bj H3 s3 B => ?_⟩⟩
    have hpw3 := s3 _ _ hpw
    refine ⟨_, rfl, fun k dk nk ndk nek => ?_⟩
    have s4 : Same H3 (upd (upd H3 dk (HO.own k)) k (HO.ins CB dk [])) := fun c o e => by rw [upd_ne (ne_of_none e nk), upd_ne (ne_of_none e ndk)]; exact e
    refine ⟨k, dk, pw, ws, rfl, upd_same, .inl (SqL.of (s4 _ _ hpw3)), az, by omega, fun d ws2 H4 hd BK hmem hlen2 kp => ⟨rfl, ?_⟩⟩
    have s34 : Same H3 H4 := fun c o e => kp c o (s4 c o e) (ne_of_none e nk)
    have B4 := B.mv s34
    have hpw4 := s34 _ _ hpw3
    obtain ⟨dx, pr, _, _, hb, hrr, _, _⟩ := B4.ex
    have r1 := B.ok.r1
    have r9 := B.ok.r9
    have w9 := B.ok.w9
    have hb' := B.ok.br
    have hln : (Ts rows).length = r := by rw [List.length_map, hb'.len]
    have h0 : 0 < rows.length := by rw [hb'.len]; omega
    have hw0 : rows[0].length = w := hb'.wid _ (List.getElem_mem _)
    have hz : ∀ n, n ≤ 100 → n ≤ sizeLine := fun n h => Nat.le_of_lt (small1000 (by omega))
    refine ⟨_, rfl, b, C, dx, _, _, rfl, hb, T_Board.cl, T_Board.nr, rfl, pr, _, rfl, .inr (SqT.of hrr), _, rfl, by rw [hln]; omega, by rw [hln]; omega, ?_⟩
    rw [hln, Int.toNat_natCast]
    refine for_range (lo := 0) (n := r) (fun i σ H' => ∃ v7 v8 v9 v10 v11 v12 v13 : Option V, σ = [some (.ref a), some (.str (S AL)), some (.ref pl), some (.int x), some (.ref pw), some (.ref b), some (.ref k), v7, v8, v9, v10, v11, v12, v13] ∧ Same H4 H')
      ⟨none, none, none, none, none, none, none, rfl, Same.refl _⟩ ?_ ?_
    · rintro i σ H5 hi ⟨v7, v8, v9, v10, v11, v12, v13, rfl, s5⟩
      have hri : i < rows.length := by rw [hb'.len]; exact hi
      have hwi : rows[i].length = w := hb'.wid _ (List.getElem_mem _)
      refine ⟨_, rfl, b, C, dx, _, _, rfl, s5 _ _ hb, T_Board.cl, T_Board.nr, rfl, pr, _, _, .str (S rows[0]), rfl, rfl, SqT.of (s5 _ _ hrr), atI_nat (j := 0) (Ts_at (by simp [h0])), _, rfl, hz _ (by omega), _, rfl, by rw [hw0]; omega, by rw [hw0]; omega, ?_⟩
      rw [hw0, Int.toNat_natCast]
      refine for_range (lo := 0) (n := w) (fun j σ H' => ∃ v8 v9 v10 v11 v12 v13 : Option V, σ = [some (.ref a), some (.str (S AL)), some (.ref pl), some (.int x), some (.ref pw), some (.ref b), some (.ref k), some (.int (0 + (i : Int))), v8, v9, v10, v11, v12, v13] ∧ Same H4 H')
        ⟨v8, v9, v10, v11, v12, v13, rfl, s5⟩ ?_ ?_
      · rintro j σ H6 hj ⟨v8, v9, v10, v11, v12, v13, rfl, s6⟩
        have hji : j < rows[i].length := by omega
        obtain ⟨nW, hnW, eW⟩ := twice_of (decide ([rows[i][j]] = [46]))
        refine ⟨_, rfl, b, C, dx, _, _, rfl, s6 _ _ hb, T_Board.cl, T_Board.nr, rfl, _, rfl, pr, _, _, .str (S rows[i]), rfl, rfl, SqT.of (s6 _ _ hrr), by rw [Int.zero_add]; exact atI_nat (Ts_at (by simp [hri])), _, rfl, rows[i], _, rows[i][j], rfl, rfl, hz _ (by omega), by rw [Int.zero_add]; exact atI_nat (by simp [hji]), [rows[i][j]], [46], rfl, rfl, .inr ⟨_, rfl, _, _, rfl, rfl, .inl ⟨by decide, by decide⟩, _, rfl, by rw [eW]; omega, by rw [eW]; omega, ?_⟩⟩
        rw [eW, Int.toNat_natCast]
        refine for_range (lo := 0) (n := nW) (fun t σ H' => ∃ v9 v10 v11 v12 v13 : Option V, σ = [some (.ref a), some (.str (S AL)), some (.ref pl), some (.int x), some (.ref pw), some (.ref b), some (.ref k), some (.int (0 + (i : Int))), some (.int (0 + (j : Int))), v9, v10, v11, v12, v13] ∧ Same H4 H')
          ⟨v9, v10, v11, v12, v13, rfl, s6⟩ ?_ ?_
        · rintro t σ H7 ht ⟨v9, v10, v11, v12, v13, rfl, s7⟩
          have hway : (t : Int) = 0 ∨ (t : Int) = 1 := by omega
          have B7 := B4.mv s7
          have BK7 := BK.same s7
          have hll := lineOf_len hb' hi (j := j) (way := (t : Int))
          have hkl : placeOf i j (t : Int) < (lineOf rows i j (t : Int)).length := by
            rw [hll]; unfold placeOf
            split <;> assumption
          have hl9 : (lineOf rows i j (t : Int)).length ≤ 9 := by rw [hll]; split <;> assumption
          have hcl : ∀ c, (crossT (lineOf rows i j (t : Int)) (placeOf i j (t : Int)) c).length ≤ 20 := fun c => by
            unfold crossT
            have a1 := tailF_len ((lineOf rows i j (t : Int)).take (placeOf i j (t : Int)))
            have a2 := headF_len ((lineOf rows i j (t : Int)).drop (placeOf i j (t : Int) + 1))
            rw [List.length_take] at a1
            rw [List.length_drop] at a2
            rw [List.length_append, List.length_map, List.length_cons, List.length_map]; omega
          refine ⟨_, rfl, AL, rfl, for_str (fun n σ H' => ∃ v11 v12 v13 : Option V, H' = H7 ∧ σ = [some (.ref a), some (.str (S AL)), some (.ref pl), some (.int x), some (.ref pw), some (.ref b), some (.ref k), some (.int (0 + (i : Int))), some (.int (0 + (j : Int))), some (.int (0 + (t : Int))), some (.str (S ((AL.take n).filter fun c => decide ((crossT (lineOf rows i j (t : Int)) (placeOf i j (t : Int)) c).length = 1) || decide (crossT (lineOf rows i j (t : Int)) (placeOf i j (t : Int)) c ∈ ws)))), v11, v12, v13])
            ⟨v11, v12, v13, rfl, rfl⟩ ?_ ?_⟩
          · rintro n c σ H' hc ⟨v11, v12, v13, rfl, rfl⟩
            have hnl : n < AL.length := (List.getElem?_eq_some_iff.mp hc).1
            have hfl : ((AL.take n).filter fun c => decide ((crossT (lineOf rows i j (t : Int)) (placeOf i j (t : Int)) c).length = 1) || decide (crossT (lineOf rows i j (t : Int)) (placeOf i j (t : Int)) c ∈ ws)).length ≤ 26 :=
              Nat.le_trans (List.length_filter_le _ _) (by rw [List.length_take]; exact Nat.le_trans (Nat.min_le_right _ _) (by decide))
            refine ⟨_, rfl, b, C, dx, _, _, rfl, s7 _ _ hb, T_Board.cl, T_Board.nr, rfl, _, rfl, _, rfl, _, rfl, _, rfl, pr, rows, r, w, i, j, c, (t : Int), by show [V.ref pr, V.int (0 + (i : Int)), V.int (0 + (j : Int)), V.int (0 + (t : Int)), V.str (S [c])] = _; rw [Int.zero_add, Int.zero_add, Int.zero_add], s7 _ _ hrr, hb', r1, r9, w9, B.ok.cr, hi, hj, hway, ?_⟩
            generalize hX : crossT (lineOf rows i j (t : Int)) (placeOf i j (t : Int)) c = X
            have hXl : X.length ≤ 20 := by rw [← hX]; exact hcl c
            refine ⟨_, rfl, _, rfl, hz _ (by omega), rfl, _, rfl, ?_⟩
            by_cases h1 : X.length = 1
            · rw [decide_eq_true (show V.int ((X.length : Nat) : Int) = V.int 1 by rw [h1]; rfl)]
              refine iteT ⟨_, rfl, _, rfl, _, _, rfl, rfl, hz _ (by simp; omega), ?_⟩
              refine ⟨some (.str (S [c])), some (.str (S X)), v13, rfl, ?_⟩
              rw [List.take_add_one, hc, List.filter_append]
              simp [hX, h1]
            · rw [decide_eq_false (show ¬ V.int ((X.length : Nat) : Int) = V.int 1 from fun z => h1 (by injection z with z; omega))]
              refine iteF ⟨_, rfl, _, rfl, pw, _, rfl, .inl (SqL.of (s7 _ _ hpw4)), rfl, flat_ts ws, _, rfl, ?_⟩
              simp only [Bool.false_eq_true, if_false]
              rw [inV_ts]
              by_cases h2 : X ∈ ws
              · rw [decide_eq_true h2]
                refine iteT ⟨_, rfl, _, rfl, _, _, rfl, rfl, hz _ (by simp; omega), ?_⟩
                refine ⟨some (.str (S [c])), some (.str (S X)), v13, rfl, ?_⟩
                rw [List.take_add_one, hc, List.filter_append]
                simp [hX, h2]
              · rw [decide_eq_false h2]
                refine iteF ⟨some (.str (S [c])), some (.str (S X)), v13, rfl, ?_⟩
                rw [List.take_add_one, hc, List.filter_append]
                simp [hX, h1, h2]
          · rintro σ H' ⟨v11, v12, v13, rfl, rfl⟩
            rw [List.take_length]
            refine ⟨_, rfl, _, rfl, _, rfl, _, rfl, _, rfl, b, k, d, ws2, r, w, rows, marks, bi, bj, i, j, (t : Int), by show [V.ref b, V.ref k, V.int (0 + (i : Int)), V.int (0 + (j : Int)), V.int (0 + (t : Int))] = _; rw [Int.zero_add, Int.zero_add, Int.zero_add], B7, BK7, hi, hj, hway, fun H8 s8 => ?_⟩
            rw [due_eq hmem]
            refine ⟨_, rfl, _, _, _, true, rfl, .str _, (by kernel_rfl), _, rfl, iteF ⟨_, rfl, _, rfl, _, _, rfl, rfl, _, rfl, iteNS rfl ?_⟩⟩
            exact ⟨_, _, _, _, _, rfl, s7.trans s8⟩
        · rintro σ H7 ⟨v9, v10, v11, v12, v13, rfl, s7⟩
          exact ⟨_, _, _, _, _, _, rfl, s7⟩
      · rintro σ H6 ⟨v8, v9, v10, v11, v12, v13, rfl, s6⟩
        exact ⟨_, _, _, _, _, _, _, rfl, s6⟩
    · rintro σ H5 ⟨v7, v8, v9, v10, v11, v12, v13, rfl, s5⟩
      have BK5 := BK.same s5
      obtain ⟨dk5, ek⟩ := BK5.ob
      refine ⟨_, rfl, k, dk5, _, rfl, ek, rfl, k, d, ws2, rfl, BK5, by omega, fun t us H6 s6 ht0 ht pm rs' => ?_⟩
      refine ⟨_, rfl, pw, _, rfl, .inl ⟨SqL.of (s6 _ _ (s5 _ _ hpw4)), fun t2 ht2 => ?_⟩⟩
      have s7 : Same H6 (upd H6 t2 (HO.tup (Ts ws))) := Same.upd ht2
      have eu : us = ws := up_eq (rise_up rs' (pm.nodup_iff.mpr BK5.nd)) (rise_up rs nd) fun y => by rw [pm.mem_iff]; exact hmem y
      subst eu
      have ha : ∀ l ∈ us, ∀ c ∈ l, c < 128 := fun l hl c hc => by have := ((az l hl).az c hc).2; omega
      refine ⟨1, .tup (us.map Dt.str), .tup (us.map Dt.str), by decide, hasT (SqT.of (s7 _ _ ht)) ha, hasT (SqT.of upd_same) ha, ?_⟩
      simp only [Bool.false_eq_true, if_false, decide_true]
      exact q _

end
end My
end

set_option Elab.async false
set_option linter.all false
set_option maxRecDepth 100000
set_option maxHeartbeats 2000000
namespace My
open PySem L2
section
variable {P : Program} {w : World} {K : PySem.W.Frag} {mg : Str → Option Value} {base : Heap}
structure BoardFacts (K : PySem.W.Frag) (mg : Str → Option Value) (C f0 f1 f2 : Addr) (fd0 fd1 fd2 : FuncData) : Prop where
  T : BoardCls K C
  mgC : mg "Board" = some (.ref C)
  M : Mk K C f0
  F0 : Fun K "__init__" "Board.__init__" s_Board_init f0 fd0
  b0 : Binds K fd0 ["self", "rows", "marks", "begin"] []
  F1 : Fun K "run" "Board.run" s_Board_run f1 fd1
  b1 : Binds K fd1 ["self", "row", "column", "way"] []
  m1 : Meth K C "run" f1
  F2 : Fun K "laid" "Board.laid" s_Board_laid f2 fd2
  b2 : Binds K fd2 ["self", "laying"] []
  m2 : Meth K C "laid" f2
theorem Board_mk {h : Heap} {C f0 f1 f2 : Addr} (X : K.In h) (G : h.Ns mainGlobals mg)
    {od0 an0 od1 an1 od2 an2 : Option Addr} {sl0 sl1 sl2 : Array (Option Value)} {oc0 kV0 dc0 pm0 cd0 ct0 oc1 kV1 dc1 pm1 cd1 ct1 oc2 kV2 dc2 pm2 cd2 ct2 : Value}
    (aC : PySem.W.nsIn K mainGlobals "Board" = some (some (.ref C)))
    (a0 : PySem.W.findIn K (.ref C) "__init__" = some (some (.ref f0))) (i0 : PySem.W.isFn K (.ref f0) = true) (l0 : K.lookup f0 = some ⟨oc0, od0, .func (PySem.W.fnOf "__init__" "Board.__init__" (defArgs s_Board_init) (defBody s_Board_init) (defScope s_Board_init) .none kV0 dc0 pm0 an0 cd0 ct0), sl0⟩) (c0 : PySem.W.codeIn K cd0 "Board.__init__" = true) (k0 : PySem.W.keepIn K (.ref f0) = true)
    (a1 : PySem.W.findIn K (.ref C) "run" = some (some (.ref f1))) (i1 : PySem.W.isFn K (.ref f1) = true) (l1 : K.lookup f1 = some ⟨oc1, od1, .func (PySem.W.fnOf "run" "Board.run" (defArgs s_Board_run) (defBody s_Board_run) (defScope s_Board_run) .none kV1 dc1 pm1 an1 cd1 ct1), sl1⟩) (c1 : PySem.W.codeIn K cd1 "Board.run" = true) (k1 : PySem.W.keepIn K (.ref f1) = true)
    (a2 : PySem.W.findIn K (.ref C) "laid" = some (some (.ref f2))) (i2 : PySem.W.isFn K (.ref f2) = true) (l2 : K.lookup f2 = some ⟨oc2, od2, .func (PySem.W.fnOf "laid" "Board.laid" (defArgs s_Board_laid) (defBody s_Board_laid) (defScope s_Board_laid) .none kV2 dc2 pm2 an2 cd2 ct2), sl2⟩) (c2 : PySem.W.codeIn K cd2 "Board.laid" = true) (k2 : PySem.W.keepIn K (.ref f2) = true)
    (pg : PySem.W.plainGet K C Str.empty = true) (hd : PySem.W.hasDictIn K C = true) (po : PySem.W.plainOver K C = true) (sa : PySem.W.findIn K (.ref C) "__setattr__" = some (some (.builtin "object.__setattr__"))) (mk : PySem.W.makesIn K C = true) (kc : PySem.W.keepIn K (.ref C) = true) (nf0 : PySem.W.findIn K (.ref C) "rows" = some none) (nf1 : PySem.W.findIn K (.ref C) "marks" = some none) (nf2 : PySem.W.findIn K (.ref C) "begin" = some none) : ∃ C f0 f1 f2 fd0 fd1 fd2, BoardFacts K mg C f0 f1 f2 fd0 fd1 fd2 := by
  have F0 := fun_mk (st := s_Board_init) l0 c0 k0
  have F1 := fun_mk (st := s_Board_run) l1 c1 k1
  have F2 := fun_mk (st := s_Board_laid) l2 c2 k2
  exact ⟨C, f0, f1, f2, _, _, _, ⟨⟨pg, hd, po, sa⟩, nf0, nf1, nf2⟩, PySem.W.mg_of X G aC, ⟨mk, a0, i0, kc⟩, F0, F0.binds (ps := ["self", "rows", "marks", "begin"]) (fun _ _ _ _ _ _ us hl => match us, hl with | [_, _, _, _], _ => rfl), F1, F1.binds (ps := ["self", "row", "column", "way"]) (fun _ _ _ _ _ _ us hl => match us, hl with | [_, _, _, _], _ => rfl), ⟨a1, i1, k1⟩, F2, F2.binds (ps := ["self", "laying"]) (fun _ _ _ _ _ _ us hl => match us, hl with | [_, _], _ => rfl), ⟨a2, i2, k2⟩⟩
structure BookFacts (K : PySem.W.Frag) (mg : Str → Option Value) (C f0 f1 f2 : Addr) (fd0 fd1 fd2 : FuncData) : Prop where
  T : BookCls K C
  mgC : mg "Book" = some (.ref C)
  M : Mk K C f0
  F0 : Fun K "__init__" "Book.__init__" s_Book_init f0 fd0
  b0 : Binds K fd0 ["self", "words"] []
  F1 : Fun K "has" "Book.has" s_Book_has f1 fd1
  b1 : Binds K fd1 ["self", "text"] []
  m1 : Meth K C "has" f1
  F2 : Fun K "words" "Book.words" s_Book_words f2 fd2
  b2 : Binds K fd2 ["self"] []
  m2 : Meth K C "words" f2
theorem Book_mk {h : Heap} {C f0 f1 f2 : Addr} (X : K.In h) (G : h.Ns mainGlobals mg)
    {od0 an0 od1 an1 od2 an2 : Option Addr} {sl0 sl1 sl2 : Array (Option Value)} {oc0 kV0 dc0 pm0 cd0 ct0 oc1 kV1 dc1 pm1 cd1 ct1 oc2 kV2 dc2 pm2 cd2 ct2 : Value}
    (aC : PySem.W.nsIn K mainGlobals "Book" = some (some (.ref C)))
    (a0 : PySem.W.findIn K (.ref C) "__init__" = some (some (.ref f0))) (i0 : PySem.W.isFn K (.ref f0) = true) (l0 : K.lookup f0 = some ⟨oc0, od0, .func (PySem.W.fnOf "__init__" "Book.__init__" (defArgs s_Book_init) (defBody s_Book_init) (defScope s_Book_init) .none kV0 dc0 pm0 an0 cd0 ct0), sl0⟩) (c0 : PySem.W.codeIn K cd0 "Book.__init__" = true) (k0 : PySem.W.keepIn K (.ref f0) = true)
    (a1 : PySem.W.findIn K (.ref C) "has" = some (some (.ref f1))) (i1 : PySem.W.isFn K (.ref f1) = true) (l1 : K.lookup f1 = some ⟨oc1, od1, .func (PySem.W.fnOf "has" "Book.has" (defArgs s_Book_has) (defBody s_Book_has) (defScope s_Book_has) .none kV1 dc1 pm1 an1 cd1 ct1), sl1⟩) (c1 : PySem.W.codeIn K cd1 "Book.has" = true) (k1 : PySem.W.keepIn K (.ref f1) = true)
    (a2 : PySem.W.findIn K (.ref C) "words" = some (some (.ref f2))) (i2 : PySem.W.isFn K (.ref f2) = true) (l2 : K.lookup f2 = some ⟨oc2, od2, .func (PySem.W.fnOf "words" "Book.words" (defArgs s_Book_words) (defBody s_Book_words) (defScope s_Book_words) .none kV2 dc2 pm2 an2 cd2 ct2), sl2⟩) (c2 : PySem.W.codeIn K cd2 "Book.words" = true) (k2 : PySem.W.keepIn K (.ref f2) = true)
    (pg : PySem.W.plainGet K C Str.empty = true) (hd : PySem.W.hasDictIn K C = true) (po : PySem.W.plainOver K C = true) (sa : PySem.W.findIn K (.ref C) "__setattr__" = some (some (.builtin "object.__setattr__"))) (mk : PySem.W.makesIn K C = true) (kc : PySem.W.keepIn K (.ref C) = true) (nf0 : PySem.W.findIn K (.ref C) "held" = some none) : ∃ C f0 f1 f2 fd0 fd1 fd2, BookFacts K mg C f0 f1 f2 fd0 fd1 fd2 := by
  have F0 := fun_mk (st := s_Book_init) l0 c0 k0
  have F1 := fun_mk (st := s_Book_has) l1 c1 k1
  have F2 := fun_mk (st := s_Book_words) l2 c2 k2
  exact ⟨C, f0, f1, f2, _, _, _, ⟨⟨pg, hd, po, sa⟩, nf0⟩, PySem.W.mg_of X G aC, ⟨mk, a0, i0, kc⟩, F0, F0.binds (ps := ["self", "words"]) (fun _ _ _ _ _ _ us hl => match us, hl with | [_, _], _ => rfl), F1, F1.binds (ps := ["self", "text"]) (fun _ _ _ _ _ _ us hl => match us, hl with | [_, _], _ => rfl), ⟨a1, i1, k1⟩, F2, F2.binds (ps := ["self"]) (fun _ _ _ _ _ _ us hl => match us, hl with | [_], _ => rfl), ⟨a2, i2, k2⟩⟩
theorem law_all (n_len : mg "len" = none) (n_range : mg "range" = none) (n_sorted : mg "sorted" = none) (n_tuple : mg "tuple" = none) (n_list : mg "list" = none) (n_isinstance : mg "isinstance" = none) (n_bool : mg "bool" = none) (n_int : mg "int" = none) (n_str : mg "str" = none) (n_all : mg "all" = none)
    (g_FREE : ∃ t, mg "FREE" = some (.str (S [46]) t)) (g_MARKS : ∃ t, mg "MARKS" = some (.str (S MK) t)) (g_MOST : ∃ t, mg "MOST" = some (.int 9 t)) (g_LETTERS : ∃ t, mg "LETTERS" = some (.str (S AL) t)) (d_is_whole : DefAt K mg "is_whole" s_is_whole ["thing"]) (d_is_sign : DefAt K mg "is_sign" s_is_sign ["thing"]) (d_is_block : DefAt K mg "is_block" s_is_block ["thing"]) (d_are_rows : DefAt K mg "are_rows" s_are_rows ["thing"]) (d_are_marks : DefAt K mg "are_marks" s_are_marks ["thing"]) (d_is_cell_of : DefAt K mg "is_cell_of" s_is_cell_of ["rows", "row", "column"]) (d_is_begin_of : DefAt K mg "is_begin_of" s_is_begin_of ["rows", "thing"]) (d_is_board : DefAt K mg "is_board" s_is_board ["rows", "marks", "begin"]) (d_column_text : DefAt K mg "column_text" s_column_text ["rows", "column"]) (d_cross_letters : DefAt K mg "cross_letters" s_cross_letters ["board", "book", "row", "column", "way"]) (d_is_word : DefAt K mg "is_word" s_is_word ["text"]) (d_check_word : DefAt K mg "check_word" s_check_word ["text"]) (d_cell_at : DefAt K mg "_law_cell_at" s_cell_at ["_law_script", "_law_k"]) (d_next : DefAt K mg "_law_next" s_next ["_law_x"]) (d_other : DefAt K mg "_law_other" s_other ["_law_x"]) (d_number : DefAt K mg "_law_number" s_number ["_law_script", "_law_k"]) (d_digits : DefAt K mg "_law_digits" s_digits ["_law_script", "_law_k", "_law_base", "_law_many"]) (d_letters : DefAt K mg "_law_letters" s_letters ["_law_script", "_law_k"]) (d_words : DefAt K mg "_law_words" s_words ["_law_letters_here", "_law_script", "_law_start", "_law_many"]) (d_size : DefAt K mg "_law_size" s_size ["_law_x"]) (d_board : DefAt K mg "_law_board" s_board ["_law_letters_here", "_law_script", "_law_start", "_law_x"]) (d_at : DefAt K mg "_law_at" s_at ["_law_rows", "_law_row", "_law_column"]) (d_cross : DefAt K mg "_law_cross" s_cross ["_law_rows", "_law_row", "_law_column", "_law_way", "_law_letter"]) {C_Board fBoard0 fBoard1 fBoard2 : Addr} {fdBoard0 fdBoard1 fdBoard2 : FuncData} (B_Board : BoardFacts K mg C_Board fBoard0 fBoard1 fBoard2 fdBoard0 fdBoard1 fdBoard2) {C_Book fBook0 fBook1 fBook2 : Addr} {fdBook0 fdBook1 fdBook2 : FuncData} (B_Book : BookFacts K mg C_Book fBook0 fBook1 fBook2 fdBook0 fdBook1 fdBook2)
    {f : Addr} {fd : FuncData} (F : Fun K "law" "law" s_law f fd) : FnOk P w K mg base CX0 20 f fd ["_law_script"] (spLaw K) := by
  have c1 := ok_cell_at (P := P) (w := w) (base := base) d_cell_at n_len
  have c2 := ok_next (P := P) (w := w) (base := base) d_next
  have c3 := ok_other (P := P) (w := w) (base := base) d_other
  have c4 := ok_number d_number c1 c2 c3
  have c5 := ok_digits d_digits n_range c1 c2 c3 c4
  have c6 := ok_letters d_letters n_list c5
  have c7 := ok_words_of d_words n_len n_range n_sorted n_list c5
  have c8 := ok_size (P := P) (w := w) (base := base) d_size
  have p1 := ok_is_sign (P := P) (w := w) (base := base) d_is_sign n_len n_str n_isinstance
  have p2 := ok_is_whole (P := P) (w := w) (base := base) d_is_whole n_int n_bool n_isinstance
  have p3 := ok_is_block (P := P) (w := w) (base := base) d_is_block n_len n_tuple n_str n_all n_isinstance g_MOST
  have p4 := ok_are_rows d_are_rows n_all g_FREE p3 p1
  have p5 := ok_are_marks d_are_marks n_all g_MARKS p3
  have p6 := ok_is_cell_of d_is_cell_of n_len p2
  have p7 := ok_is_begin_of d_is_begin_of n_len n_tuple n_isinstance p6
  have p8 := ok_is_board d_is_board n_len p4 p5 p7
  have p9 := ok_column_text (P := P) (w := w) (base := base) d_column_text
  have g0 := ok_board_init B_Board.F0 B_Board.T p8
  have g1 := ok_run B_Board.F1 B_Board.T n_len g_FREE p9
  have g2 := ok_laid B_Board.F2 B_Board.T n_list n_tuple B_Board.mgC B_Board.M g0 B_Board.b0
  have w1 := ok_is_word (P := P) (w := w) (base := base) d_is_word n_len n_all
  have w2 := ok_check_word d_check_word w1
  have k0 := ok_init B_Book.F0 B_Book.T w2
  have k1 := ok_has (P := P) (w := w) (mg := mg) (base := base) B_Book.F1 B_Book.T
  have k2 := ok_words (P := P) (w := w) (base := base) B_Book.F2 B_Book.T n_sorted n_tuple
  have x1 := ok_law_at (P := P) (w := w) (base := base) d_at n_len
  have x2 := ok_cross d_cross x1
  have x3 := ok_law_board d_board n_len n_range n_tuple n_int B_Board.mgC B_Board.M g0 B_Board.b0 c8 c5
  have x4 := ok_cross_letters d_cross_letters n_len g_LETTERS B_Board.T B_Book.T B_Board.m2 g2 B_Board.b2 B_Board.m1 g1 B_Board.b1 B_Book.m1 k1 B_Book.b1
  exact (ok_law F n_len n_range n_tuple n_int n_str n_isinstance B_Board.T B_Book.T B_Book.mgC B_Book.M k0 B_Book.b0 B_Book.m2 k2 B_Book.b2 c6 c4 c7 x3 x2 x4).mono (by decide)
end
end My
open PySem PySem.W PyProof.Rows
set_option maxRecDepth 100000 in
set_option maxHeartbeats 0 in
theorem PySem.Challenge.cw_letterrack_k40_cross_letters_holds : PySem.Challenge.rw_letterrack_k40_cross_letters.Holds := by
  w_on; o_law; k_head; (case hw => w_witness2)
  k_fill
  refine L2.walkLaw (x := "_law_script") (l := PySem.Challenge.rw_letterrack_k40_cross_letters) rfl rfl (fun w h Y => PySem.W.kIn_of Y) ?F
  case F =>
    intro w mg fa h KX G hmg
    have n_len : mg "len" = none := by
      refine' PySem.W.mg_none_of KX G ?z
      (case z => k_is)
    have n_range : mg "range" = none := by
      refine' PySem.W.mg_none_of KX G ?z
      (case z => k_is)
    have n_sorted : mg "sorted" = none := by
      refine' PySem.W.mg_none_of KX G ?z
      (case z => k_is)
    have n_tuple : mg "tuple" = none := by
      refine' PySem.W.mg_none_of KX G ?z
      (case z => k_is)
    have n_list : mg "list" = none := by
      refine' PySem.W.mg_none_of KX G ?z
      (case z => k_is)
    have n_isinstance : mg "isinstance" = none := by
      refine' PySem.W.mg_none_of KX G ?z
      (case z => k_is)
    have n_bool : mg "bool" = none := by
      refine' PySem.W.mg_none_of KX G ?z
      (case z => k_is)
    have n_int : mg "int" = none := by
      refine' PySem.W.mg_none_of KX G ?z
      (case z => k_is)
    have n_str : mg "str" = none := by
      refine' PySem.W.mg_none_of KX G ?z
      (case z => k_is)
    have n_all : mg "all" = none := by
      refine' PySem.W.mg_none_of KX G ?z
      (case z => k_is)
    have g_FREE : ∃ t, mg "FREE" = some (.str (L2.S [46]) t) := by
      refine' L2.glob_str KX G ?z
      (case z => k_is)
    have g_MARKS : ∃ t, mg "MARKS" = some (.str (L2.S My.MK) t) := by
      refine' L2.glob_str KX G ?z
      (case z => k_is)
    have g_MOST : ∃ t, mg "MOST" = some (.int 9 t) := by
      refine' L2.glob_int KX G ?z
      (case z => k_is)
    have g_LETTERS : ∃ t, mg "LETTERS" = some (.str (L2.S L2.AL) t) := by
      refine' L2.glob_str KX G ?z
      (case z => k_is)
    have d_is_whole : L2.DefAt (L2.KOf KX) mg "is_whole" My.s_is_whole ["thing"] := by
      dsimp only [L2.KOf]
      refine' L2.defat_mk KX G ?a ?l ?c ?k ?b
      (case a => k_is); (case l => k_is); (case c => k_is); (case k => k_is)
      (case b => exact fun _ _ _ _ _ _ us hl => match us, hl with | [_], _ => rfl)
    have d_is_sign : L2.DefAt (L2.KOf KX) mg "is_sign" My.s_is_sign ["thing"] := by
      dsimp only [L2.KOf]
      refine' L2.defat_mk KX G ?a ?l ?c ?k ?b
      (case a => k_is); (case l => k_is); (case c => k_is); (case k => k_is)
      (case b => exact fun _ _ _ _ _ _ us hl => match us, hl with | [_], _ => rfl)
    have d_is_block : L2.DefAt (L2.KOf KX) mg "is_block" My.s_is_block ["thing"] := by
      dsimp only [L2.KOf]
      refine' L2.defat_mk KX G ?a ?l ?c ?k ?b
      (case a => k_is); (case l => k_is); (case c => k_is); (case k => k_is)
      (case b => exact fun _ _ _ _ _ _ us hl => match us, hl with | [_], _ => rfl)
    have d_are_rows : L2.DefAt (L2.KOf KX) mg "are_rows" My.s_are_rows ["thing"] := by
      dsimp only [L2.KOf]
      refine' L2.defat_mk KX G ?a ?l ?c ?k ?b
      (case a => k_is); (case l => k_is); (case c => k_is); (case k => k_is)
      (case b => exact fun _ _ _ _ _ _ us hl => match us, hl with | [_], _ => rfl)
    have d_are_marks : L2.DefAt (L2.KOf KX) mg "are_marks" My.s_are_marks ["thing"] := by
      dsimp only [L2.KOf]
      refine' L2.defat_mk KX G ?a ?l ?c ?k ?b
      (case a => k_is); (case l => k_is); (case c => k_is); (case k => k_is)
      (case b => exact fun _ _ _ _ _ _ us hl => match us, hl with | [_], _ => rfl)
    have d_is_cell_of : L2.DefAt (L2.KOf KX) mg "is_cell_of" My.s_is_cell_of ["rows", "row", "column"] := by
      dsimp only [L2.KOf]
      refine' L2.defat_mk KX G ?a ?l ?c ?k ?b
      (case a => k_is); (case l => k_is); (case c => k_is); (case k => k_is)
      (case b => exact fun _ _ _ _ _ _ us hl => match us, hl with | [_, _, _], _ => rfl)
    have d_is_begin_of : L2.DefAt (L2.KOf KX) mg "is_begin_of" My.s_is_begin_of ["rows", "thing"] := by
      dsimp only [L2.KOf]
      refine' L2.defat_mk KX G ?a ?l ?c ?k ?b
      (case a => k_is); (case l => k_is); (case c => k_is); (case k => k_is)
      (case b => exact fun _ _ _ _ _ _ us hl => match us, hl with | [_, _], _ => rfl)
    have d_is_board : L2.DefAt (L2.KOf KX) mg "is_board" My.s_is_board ["rows", "marks", "begin"] := by
      dsimp only [L2.KOf]
      refine' L2.defat_mk KX G ?a ?l ?c ?k ?b
      (case a => k_is); (case l => k_is); (case c => k_is); (case k => k_is)
      (case b => exact fun _ _ _ _ _ _ us hl => match us, hl with | [_, _, _], _ => rfl)
    have d_column_text : L2.DefAt (L2.KOf KX) mg "column_text" My.s_column_text ["rows", "column"] := by
      dsimp only [L2.KOf]
      refine' L2.defat_mk KX G ?a ?l ?c ?k ?b
      (case a => k_is); (case l => k_is); (case c => k_is); (case k => k_is)
      (case b => exact fun _ _ _ _ _ _ us hl => match us, hl with | [_, _], _ => rfl)
    have d_cross_letters : L2.DefAt (L2.KOf KX) mg "cross_letters" My.s_cross_letters ["board", "book", "row", "column", "way"] := by
      dsimp only [L2.KOf]
      refine' L2.defat_mk KX G ?a ?l ?c ?k ?b
      (case a => k_is); (case l => k_is); (case c => k_is); (case k => k_is)
      (case b => exact fun _ _ _ _ _ _ us hl => match us, hl with | [_, _, _, _, _], _ => rfl)
    have d_is_word : L2.DefAt (L2.KOf KX) mg "is_word" My.s_is_word ["text"] := by
      dsimp only [L2.KOf]
      refine' L2.defat_mk KX G ?a ?l ?c ?k ?b
      (case a => k_is); (case l => k_is); (case c => k_is); (case k => k_is)
      (case b => exact fun _ _ _ _ _ _ us hl => match us, hl with | [_], _ => rfl)
    have d_check_word : L2.DefAt (L2.KOf KX) mg "check_word" My.s_check_word ["text"] := by
      dsimp only [L2.KOf]
      refine' L2.defat_mk KX G ?a ?l ?c ?k ?b
      (case a => k_is); (case l => k_is); (case c => k_is); (case k => k_is)
      (case b => exact fun _ _ _ _ _ _ us hl => match us, hl with | [_], _ => rfl)
    have d_cell_at : L2.DefAt (L2.KOf KX) mg "_law_cell_at" My.s_cell_at ["_law_script", "_law_k"] := by
      dsimp only [L2.KOf]
      refine' L2.defat_mk KX G ?a ?l ?c ?k ?b
      (case a => k_is); (case l => k_is); (case c => k_is); (case k => k_is)
      (case b => exact fun _ _ _ _ _ _ us hl => match us, hl with | [_, _], _ => rfl)
    have d_next : L2.DefAt (L2.KOf KX) mg "_law_next" My.s_next ["_law_x"] := by
      dsimp only [L2.KOf]
      refine' L2.defat_mk KX G ?a ?l ?c ?k ?b
      (case a => k_is); (case l => k_is); (case c => k_is); (case k => k_is)
      (case b => exact fun _ _ _ _ _ _ us hl => match us, hl with | [_], _ => rfl)
    have d_other : L2.DefAt (L2.KOf KX) mg "_law_other" My.s_other ["_law_x"] := by
      dsimp only [L2.KOf]
      refine' L2.defat_mk KX G ?a ?l ?c ?k ?b
      (case a => k_is); (case l => k_is); (case c => k_is); (case k => k_is)
      (case b => exact fun _ _ _ _ _ _ us hl => match us, hl with | [_], _ => rfl)
    have d_number : L2.DefAt (L2.KOf KX) mg "_law_number" My.s_number ["_law_script", "_law_k"] := by
      dsimp only [L2.KOf]
      refine' L2.defat_mk KX G ?a ?l ?c ?k ?b
      (case a => k_is); (case l => k_is); (case c => k_is); (case k => k_is)
      (case b => exact fun _ _ _ _ _ _ us hl => match us, hl with | [_, _], _ => rfl)
    have d_digits : L2.DefAt (L2.KOf KX) mg "_law_digits" My.s_digits ["_law_script", "_law_k", "_law_base", "_law_many"] := by
      dsimp only [L2.KOf]
      refine' L2.defat_mk KX G ?a ?l ?c ?k ?b
      (case a => k_is); (case l => k_is); (case c => k_is); (case k => k_is)
      (case b => exact fun _ _ _ _ _ _ us hl => match us, hl with | [_, _, _, _], _ => rfl)
    have d_letters : L2.DefAt (L2.KOf KX) mg "_law_letters" My.s_letters ["_law_script", "_law_k"] := by
      dsimp only [L2.KOf]
      refine' L2.defat_mk KX G ?a ?l ?c ?k ?b
      (case a => k_is); (case l => k_is); (case c => k_is); (case k => k_is)
      (case b => exact fun _ _ _ _ _ _ us hl => match us, hl with | [_, _], _ => rfl)
    have d_words : L2.DefAt (L2.KOf KX) mg "_law_words" My.s_words ["_law_letters_here", "_law_script", "_law_start", "_law_many"] := by
      dsimp only [L2.KOf]
      refine' L2.defat_mk KX G ?a ?l ?c ?k ?b
      (case a => k_is); (case l => k_is); (case c => k_is); (case k => k_is)
      (case b => exact fun _ _ _ _ _ _ us hl => match us, hl with | [_, _, _, _], _ => rfl)
    have d_size : L2.DefAt (L2.KOf KX) mg "_law_size" My.s_size ["_law_x"] := by
      dsimp only [L2.KOf]
      refine' L2.defat_mk KX G ?a ?l ?c ?k ?b
      (case a => k_is); (case l => k_is); (case c => k_is); (case k => k_is)
      (case b => exact fun _ _ _ _ _ _ us hl => match us, hl with | [_], _ => rfl)
    have d_board : L2.DefAt (L2.KOf KX) mg "_law_board" My.s_board ["_law_letters_here", "_law_script", "_law_start", "_law_x"] := by
      dsimp only [L2.KOf]
      refine' L2.defat_mk KX G ?a ?l ?c ?k ?b
      (case a => k_is); (case l => k_is); (case c => k_is); (case k => k_is)
      (case b => exact fun _ _ _ _ _ _ us hl => match us, hl with | [_, _, _, _], _ => rfl)
    have d_at : L2.DefAt (L2.KOf KX) mg "_law_at" My.s_at ["_law_rows", "_law_row", "_law_column"] := by
      dsimp only [L2.KOf]
      refine' L2.defat_mk KX G ?a ?l ?c ?k ?b
      (case a => k_is); (case l => k_is); (case c => k_is); (case k => k_is)
      (case b => exact fun _ _ _ _ _ _ us hl => match us, hl with | [_, _, _], _ => rfl)
    have d_cross : L2.DefAt (L2.KOf KX) mg "_law_cross" My.s_cross ["_law_rows", "_law_row", "_law_column", "_law_way", "_law_letter"] := by
      dsimp only [L2.KOf]
      refine' L2.defat_mk KX G ?a ?l ?c ?k ?b
      (case a => k_is); (case l => k_is); (case c => k_is); (case k => k_is)
      (case b => exact fun _ _ _ _ _ _ us hl => match us, hl with | [_, _, _, _, _], _ => rfl)
    have xbf_Board : ∃ C f0 f1 f2 fd0 fd1 fd2, My.BoardFacts (L2.KOf KX) mg C f0 f1 f2 fd0 fd1 fd2 := by
      dsimp only [L2.KOf]
      refine' My.Board_mk KX G ?aC ?a0 ?i0 ?l0 ?c0 ?k0 ?a1 ?i1 ?l1 ?c1 ?k1 ?a2 ?i2 ?l2 ?c2 ?k2 ?pg ?hd ?po ?sa ?mk ?kc ?nf0 ?nf1 ?nf2
      (case aC => k_is)
      (case a0 => k_is)
      (case i0 => k_is)
      (case l0 => k_is)
      (case c0 => k_is)
      (case k0 => k_is)
      (case a1 => k_is)
      (case i1 => k_is)
      (case l1 => k_is)
      (case c1 => k_is)
      (case k1 => k_is)
      (case a2 => k_is)
      (case i2 => k_is)
      (case l2 => k_is)
      (case c2 => k_is)
      (case k2 => k_is)
      (case pg => k_is)
      (case hd => k_is)
      (case po => k_is)
      (case sa => k_is)
      (case mk => k_is)
      (case kc => k_is)
      (case nf0 => k_is)
      (case nf1 => k_is)
      (case nf2 => k_is)
    obtain ⟨_, _, _, _, _, _, _, bf_Board⟩ := xbf_Board
    have xbf_Book : ∃ C f0 f1 f2 fd0 fd1 fd2, My.BookFacts (L2.KOf KX) mg C f0 f1 f2 fd0 fd1 fd2 := by
      dsimp only [L2.KOf]
      refine' My.Book_mk KX G ?aC ?a0 ?i0 ?l0 ?c0 ?k0 ?a1 ?i1 ?l1 ?c1 ?k1 ?a2 ?i2 ?l2 ?c2 ?k2 ?pg ?hd ?po ?sa ?mk ?kc ?nf0
      (case aC => k_is)
      (case a0 => k_is)
      (case i0 => k_is)
      (case l0 => k_is)
      (case c0 => k_is)
      (case k0 => k_is)
      (case a1 => k_is)
      (case i1 => k_is)
      (case l1 => k_is)
      (case c1 => k_is)
      (case k1 => k_is)
      (case a2 => k_is)
      (case i2 => k_is)
      (case l2 => k_is)
      (case c2 => k_is)
      (case k2 => k_is)
      (case pg => k_is)
      (case hd => k_is)
      (case po => k_is)
      (case sa => k_is)
      (case mk => k_is)
      (case kc => k_is)
      (case nf0 => k_is)
    obtain ⟨_, _, _, _, _, _, _, bf_Book⟩ := xbf_Book
    have lw : ∃ fd : FuncData, L2.Fun (L2.KOf KX) "law" "law" My.s_law fa fd ∧ ∀ (s : Shared) (v : Value), BindsTo s fd ⟨[v], []⟩ [("_law_script", v)] := by
      dsimp only [L2.KOf]
      refine' L2.law_at KX G hmg ?a ?l ?c ?k ?b
      (case a => k_is); (case l => k_is); (case c => k_is); (case k => k_is)
      (case b => exact fun _ _ _ _ _ _ _ => rfl)
    obtain ⟨fd, F, hb⟩ := lw
    exact ⟨fd, hb, fun base _ _ => My.law_all n_len n_range n_sorted n_tuple n_list n_isinstance n_bool n_int n_str n_all g_FREE g_MARKS g_MOST g_LETTERS d_is_whole d_is_sign d_is_block d_are_rows d_are_marks d_is_cell_of d_is_begin_of d_is_board d_column_text d_cross_letters d_is_word d_check_word d_cell_at d_next d_other d_number d_digits d_letters d_words d_size d_board d_at d_cross bf_Board bf_Book F⟩
