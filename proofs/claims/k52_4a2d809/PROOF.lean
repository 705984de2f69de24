import PyProof.Rows.All
import Wide.All
import OpenK.AllK
import Wide.FinOn
import Lean
import PyProof.EqAt
import PyProof.EqKinds
import PyProof.TupleCall
import KE.KRevIter
import PyProof.JoinWalk
import PyProof.CollectIter
import KE.KDictSum
import KE.KSortTup
import PyProof.ListMulRoad
import PyProof.Rows.SeqMore
import PyProof.FactsAll.tuple_2
import PyProof.WalkInts
import PyProof.SeqI3
import KE.KIntText
import KE.KEqDict
import KE.KDictOf
import PyProof.Rows.SetFrom
import KE.KBoundM
import KE.KMinKey
import PySem.Challenge.RW_letterrack_k52_the_best_leave
section
set_option Elab.async false
set_option linter.all false
set_option maxRecDepth 100000
namespace L2
open PySem PySem.Spec PyProof.Rows

abbrev Key := Sum Int Str
def keyIs : Key → Value → Bool
  | .inl k, v => Value.isInt k v
  | .inr x, v => Value.isStrOf x v
def keyH (w : World) : Key → Int
  | .inl k => hashInt k
  | .inr x => hashStr w x
theorem keyIs_shape : ∀ {k : Key} {v : Value}, keyIs k v = true → (∃ i t, k = Sum.inl i ∧ v = Value.int i t) ∨ (∃ x t, k = Sum.inr x ∧ v = Value.str x t)
  | .inl i, v, h => by
    obtain ⟨t, e⟩ := Value.isInt_shape (k := i) (v := v) h
    exact .inl ⟨i, t, rfl, e⟩
  | .inr x, v, h => by
    obtain ⟨t, e⟩ := Value.isStrOf_shape (x := x) (v := v) h
    exact .inr ⟨x, t, rfl, e⟩
theorem keyIs_int (i : Int) (t : Tok) : keyIs (.inl i) (.int i t) = true := by simp [keyIs, Value.isInt]
theorem keyIs_str (x : Str) (t : Tok) : keyIs (.inr x) (.str x t) = true := by simp [keyIs, Value.isStrOf]
theorem key_ll (a b : Int) : decide ((Sum.inl a : Key) = Sum.inl b) = (a == b) := by
  by_cases e : a = b
  · subst e; simp
  · have h : ¬ (Sum.inl a : Key) = Sum.inl b := fun q => e (Sum.inl.inj q)
    rw [decide_eq_false h]
    exact (beq_eq_false_iff_ne.mpr e).symm
theorem key_rr (a b : Str) : decide ((Sum.inr a : Key) = Sum.inr b) = decide (a = b) := by
  by_cases e : a = b
  · subst e; simp
  · have h : ¬ (Sum.inr a : Key) = Sum.inr b := fun q => e (Sum.inr.inj q)
    rw [decide_eq_false h, decide_eq_false e]
theorem key_lr (a : Int) (b : Str) : decide ((Sum.inl a : Key) = Sum.inr b) = false := decide_eq_false (fun q => nomatch q)
theorem key_rl (a : Str) (b : Int) : decide ((Sum.inr a : Key) = Sum.inl b) = false := decide_eq_false (fun q => nomatch q)

def mixKind (prog : Program) (w : World) : PySem.KeyKind prog w Key where
  is := keyIs
  hash := keyH w
  inj := fun v a b ha hb => by
    rcases keyIs_shape ha with ⟨i, t, rfl, rfl⟩ | ⟨x, t, rfl, rfl⟩
    · rcases keyIs_shape hb with ⟨j, u, rfl, e⟩ | ⟨y, u, rfl, e⟩
      · injection e with e1 _; rw [e1]
      · exact nomatch e
    · rcases keyIs_shape hb with ⟨j, u, rfl, e⟩ | ⟨y, u, rfl, e⟩
      · exact nomatch e
      · injection e with e1 _; rw [e1]
  byValue := fun k v h => by
    rcases keyIs_shape h with ⟨i, t, rfl, rfl⟩ | ⟨x, t, rfl, rfl⟩ <;> rfl
  pyHash := fun hv h => by
    rcases keyIs_shape hv with ⟨i, t, rfl, rfl⟩ | ⟨x, t, rfl, rfl⟩
    · exact wpAny_pyHash_int h
    · exact wpAny_pyHash_str h
  eqBool := fun hu hv h => by
    rcases keyIs_shape hu with ⟨i, t, rfl, rfl⟩ | ⟨x, t, rfl, rfl⟩
    · rcases keyIs_shape hv with ⟨j, u, rfl, rfl⟩ | ⟨y, u, rfl, rfl⟩
      · rw [key_ll] at h; exact wpAny_eqBool_int h
      · rw [key_lr] at h; exact SeqAt.EqAt.int_str i t y u _ _ _ _ h
    · rcases keyIs_shape hv with ⟨j, u, rfl, rfl⟩ | ⟨y, u, rfl, rfl⟩
      · rw [key_rl] at h; exact SeqAt.EqAt.str_int x t j u _ _ _ _ h
      · rw [key_rr] at h; exact wpAny_eqBool_str h
  «strs» := fun k x t v h => by
    rcases keyIs_shape h with ⟨i, u, rfl, e⟩ | ⟨y, u, rfl, e⟩
    · exact nomatch e
    · injection e with e1 _
      subst e1
      cases v <;> rfl

theorem mixKind_int (prog : Program) (w : World) (i : Int) (t : Tok) : (mixKind prog w).is (.inl i) (.int i t) = true := keyIs_int i t
theorem mixKind_str (prog : Program) (w : World) (x : Str) (t : Tok) : (mixKind prog w).is (.inr x) (.str x t) = true := keyIs_str x t
end L2

namespace L2
open PySem PySem.Spec PyProof.Rows

inductive V where
  | non | bl (b : Bool) | int (i : Int) | str (x : Str) | byt (b : Array UInt8) | flt (b : UInt64) | ref (a : Addr) | ty (n : String)
  deriving DecidableEq

def RelV : V → Value → Prop
  | .non, u => u = Value.none
  | .bl b, u => u = Value.bool b
  | .int i, u => ∃ t, u = Value.int i t
  | .str x, u => ∃ t, u = Value.str x t
  | .byt b, u => ∃ t, u = Value.bytes b t
  | .flt b, u => ∃ t, u = Value.float b t
  | .ref a, u => u = Value.ref a
  | .ty n, u => u = Value.type n

abbrev Vals : List V → List Value → Prop := Paired RelV
theorem Vals.length {xs : List V} {us : List Value} (r : Vals xs us) : xs.length = us.length := Paired.length r
theorem Vals.get : ∀ {xs : List V} {us : List Value} {i : Nat} {x : V}, Vals xs us → xs[i]? = some x → ∃ u, us[i]? = some u ∧ RelV x u
  | _, _, _, _, .nil, e => by simp at e
  | _, _, 0, _, .cons r _, e => by simp at e; subst e; exact ⟨_, rfl, r⟩
  | _, _, i + 1, x, .cons _ t, e => by
    obtain ⟨u, h1, h2⟩ := Vals.get (i := i) (x := x) t (by simpa using e)
    exact ⟨u, by simpa using h1, h2⟩
theorem Vals.append : ∀ {xs ys : List V} {us ws : List Value}, Vals xs us → Vals ys ws → Vals (xs ++ ys) (us ++ ws)
  | _, _, _, _, .nil, s => s
  | _, _, _, _, .cons r t, s => .cons r (Vals.append t s)
theorem Vals.take : ∀ {xs : List V} {us : List Value} (n : Nat), Vals xs us → Vals (xs.take n) (us.take n)
  | _, _, 0, _ => .nil
  | _, _, _ + 1, .nil => .nil
  | _, _, n + 1, .cons r t => .cons r (Vals.take n t)
theorem Vals.drop : ∀ {xs : List V} {us : List Value} (n : Nat), Vals xs us → Vals (xs.drop n) (us.drop n)
  | _, _, 0, r => r
  | _, _, _ + 1, .nil => .nil
  | _, _, n + 1, .cons _ t => Vals.drop n t
def RelO : Option V → Option Value → Prop
  | some v, some u => RelV v u
  | none, none => True
  | _, _ => False
def KV {κ : Type} : List (κ × V) → List (κ × Value) → Prop := Paired fun (p : κ × V) (q : κ × Value) => p.1 = q.1 ∧ RelV p.2 q.2

def kV : Key → V
  | .inl i => .int i
  | .inr x => .str x

inductive HO where
  /-- a list -/
  | lst (xs : List V)
  /-- a tuple (never changes) -/
  | tup (xs : List V)
  /-- a dict whose keys are ints and texts; one whose keys are tuples of ints and texts (the empty one is both) -/
  | dK (kvs : List (Key × V)) | dT (kvs : List (List Key × V))
  /-- a set of ints: its members, its size -/
  | set (S : Int → Bool) (n : Nat)
  /-- an instance of the class at C, its dict at dx, its attributes -/
  | ins (C dx : Addr) (fs : List (Str × V))
  /-- the dict of the instance at x -/
  | own (x : Addr)
  /-- the dict of an exception -/
  | xd (fs : List (Str × V))
  /-- a bound method, f of x -/
  | met (f x : Addr)
  /-- a range object lo, lo + 1, .. below hi -/
  | rng (lo hi : Int)
  /-- a thing that is known to the object (the script; a dict while a loop walks it): read, never written while it is so -/
  | frz (o : Obj) (u : HO)
  /-- a code object's table -/
  | tbl (ps : Array Value)
  /-- any other thing, by what is true of its one object (a def of one's own: SetO a S n := HO.ext fun h => ..) -/
  | ext (φ : Heap → Prop)

abbrev Hp := Addr → Option HO
def upd (H : Hp) (a : Addr) (o : HO) : Hp := fun b => if b = a then some o else H b
theorem upd_same {H : Hp} {a : Addr} {o : HO} : upd H a o a = some o := by unfold upd; rw [if_pos rfl]
theorem upd_ne {H : Hp} {a b : Addr} {o : HO} (h : b ≠ a) : upd H a o b = H b := by unfold upd; rw [if_neg h]
theorem ne_of {H : Hp} {a b : Addr} {o u : HO} (h : H a = some o) (h' : H b = some u) (d : o ≠ u) : a ≠ b := by
  intro e; subst e; rw [h] at h'; exact d (Option.some.inj h')
theorem ne_of_none {H : Hp} {a b : Addr} {o : HO} (h : H a = some o) (h' : H b = none) : a ≠ b := by
  intro e; subst e; rw [h] at h'; cases h'

section
variable (P : Program) (w : World)
def ObjOk (H : Hp) (h : Heap) (a : Addr) : HO → Prop
  | .lst xs => xs.length ≤ sizeLine ∧ ∃ (its : List Value) (n : Nat), Vals xs its ∧ h.get? a = some { cls := .type "list", data := .seq its.toArray n }
  | .tup xs => xs.length ≤ sizeLine ∧ ∃ its : List Value, Vals xs its ∧ IsTup h a its.toArray
  | .dK kvs => kvs.length ≤ sizeLine ∧ (a == sysModules) = false ∧ ∃ vs, KV kvs vs ∧ h.DictOf (mixKind P w) a vs
  | .dT kvs => kvs.length ≤ sizeLine ∧ (a == sysModules) = false ∧ ∃ xs : List (List Key × Addr × Value),
      Paired (fun (p : List Key × V) (q : List Key × Addr × Value) => p.1 = q.1 ∧ H q.2.1 = some (.tup (p.1.map kV)) ∧ RelV p.2 q.2.2) kvs xs ∧
      ∃ o es ep, h.get? a = some o ∧ o.ExactDict ∧ o.data = .dict es ep ∧ es.toList = xs.map (entryOfKey (tupleKind (mixKind P w))) ∧ (xs.map (·.1)).Nodup
  | .set S n => h.SetOf (intKind P w) a S n
  | .ins C dx fs => H dx = some (.own a) ∧ fs.length ≤ 1000 ∧ dx ≠ a ∧ h.get? a = some (PySem.W.instObj C dx) ∧
      ∃ mA, h.Ns1 dx mA ∧ (∀ f, RelO (fs.lookup f) (mA f)) ∧ PySem.Within mA (fs.map (·.1))
  | .own _ => ∃ o, h.get? a = some o
  | .xd fs => ∃ mA, h.Ns1 a mA ∧ ∀ f, RelO (fs.lookup f) (mA f)
  | .rng lo hi => ∃ t u v, h.get? a = some { cls := .type "range", data := .fields #[.int lo t, .int hi u, .int 1 v] }
  | .frz o u => h.get? a = some o ∧ ObjOk H h a u
  | .tbl ps => h.get? a = some { cls := .none, data := .fields ps }
  | .met f x => h.get? a = some (PySem.W.methodObj (.ref f) (.ref x))
  | .ext φ => φ h ∧ (∃ o, h.get? a = some o) ∧ ∀ h1 h2 : Heap, φ h1 → (∀ o, h1.get? a = some o → h2.get? a = some o) → φ h2
def HOk (H : Hp) (h : Heap) : Prop := ∀ a o, H a = some o → ObjOk P w H h a o
end

section
variable {P : Program} {w : World} {H H' : Hp} {h h' : Heap} {a : Addr} {o : HO}
theorem ObjOk.lt (x : ObjOk P w H h a o) : a < h.objs.size := by
  cases o with
  | lst xs => obtain ⟨_, _, _, _, e⟩ := x; exact Heap.lt_size e
  | tup xs => obtain ⟨_, _, _, p⟩ := x; exact p.lt
  | dK kvs => obtain ⟨_, _, _, _, o, _, _, e, _⟩ := x; exact Heap.lt_size e
  | dT kvs => obtain ⟨_, _, _, _, o, _, _, e, _⟩ := x; exact Heap.lt_size e
  | set S n => obtain ⟨o, _, _, _, e, _⟩ := x; exact Heap.lt_size e
  | ins C dx fs => obtain ⟨_, _, _, e, _⟩ := x; exact Heap.lt_size e
  | own y => obtain ⟨_, e⟩ := x; exact Heap.lt_size e
  | xd fs => obtain ⟨_, ⟨_, _, _, e, _⟩, _⟩ := x; exact Heap.lt_size e
  | rng lo hi => obtain ⟨_, _, _, e⟩ := x; exact Heap.lt_size e
  | frz ob u => obtain ⟨e, _⟩ := x; exact Heap.lt_size e
  | tbl ps => exact Heap.lt_size (show h.get? a = some _ from x)
  | met f y => exact Heap.lt_size (show h.get? a = some _ from x)
  | ext φ => obtain ⟨_, ⟨_, e⟩, _⟩ := x; exact Heap.lt_size e
theorem Paired.mapP {α β : Type} {F G : α → β → Prop} : ∀ {l₁ : List α} {l₂ : List β}, Paired F l₁ l₂ → (∀ a b, F a b → G a b) → Paired G l₁ l₂
  | _, _, .nil, _ => .nil
  | _, _, .cons r t, f => .cons (f _ _ r) (Paired.mapP t f)
theorem ObjOk.stay (x : ObjOk P w H h a o) (k : ∀ b u, (b = a ∨ H b = some (.own a)) → h.get? b = some u → h'.get? b = some u)
    (ho : ∀ b, H b = some (.own a) → H' b = some (.own a)) (ht : ∀ b xs, H b = some (.tup xs) → H' b = some (.tup xs)) : ObjOk P w H' h' a o := by
  induction o with
  | lst xs => obtain ⟨z, its, n, r, e⟩ := x; exact ⟨z, its, n, r, k _ _ (.inl rfl) e⟩
  | tup xs => obtain ⟨z, its, r, ob, e, c⟩ := x; exact ⟨z, its, r, ob, k _ _ (.inl rfl) e, c⟩
  | dK kvs => obtain ⟨z, y, vs, r, ob, es, ep, e, c⟩ := x; exact ⟨z, y, vs, r, ob, es, ep, k _ _ (.inl rfl) e, c⟩
  | dT kvs =>
    obtain ⟨z, y, xs, r, ob, es, ep, e, c⟩ := x
    exact ⟨z, y, xs, Paired.mapP r fun p q z => ⟨z.1, ht _ _ z.2.1, z.2.2⟩, ob, es, ep, k _ _ (.inl rfl) e, c⟩
  | set S n => obtain ⟨ob, es, ep, t, e, c⟩ := x; exact ⟨ob, es, ep, t, k _ _ (.inl rfl) e, c⟩
  | ins C dx fs =>
    obtain ⟨d, z, ne, e, mA, ⟨od, es, ep, e2, c⟩, r⟩ := x
    exact ⟨ho _ d, z, ne, k _ _ (.inl rfl) e, mA, ⟨od, es, ep, k _ _ (.inr d) e2, c⟩, r⟩
  | own y => obtain ⟨ob, e⟩ := x; exact ⟨ob, k _ _ (.inl rfl) e⟩
  | xd fs => obtain ⟨mA, ⟨od, es, ep, e, c⟩, r⟩ := x; exact ⟨mA, ⟨od, es, ep, k _ _ (.inl rfl) e, c⟩, r⟩
  | rng lo hi => obtain ⟨t, u, v, e⟩ := x; exact ⟨t, u, v, k _ _ (.inl rfl) e⟩
  | frz ob u ih => obtain ⟨e, q⟩ := x; exact ⟨k _ _ (.inl rfl) e, ih q⟩
  | tbl ps =>
    have e : h.get? a = some { cls := .none, data := .fields ps } := x
    show h'.get? a = some { cls := .none, data := .fields ps }
    exact k a _ (.inl rfl) e
  | met f y =>
    have e : h.get? a = some (PySem.W.methodObj (.ref f) (.ref y)) := x
    show h'.get? a = some (PySem.W.methodObj (.ref f) (.ref y))
    exact k a _ (.inl rfl) e
  | ext φ => obtain ⟨p, ⟨o, e⟩, st⟩ := x; exact ⟨st _ _ p fun o q => k _ _ (.inl rfl) q, ⟨o, k _ _ (.inl rfl) e⟩, st⟩
theorem HOk.lt (x : HOk P w H h) (e : H a = some o) : a < h.objs.size := (x a o e).lt
theorem HOk.fresh (x : HOk P w H h) (e : h.objs.size ≤ a) : H a = none := by
  cases q : H a with
  | none => rfl
  | some u => exact absurd (Nat.lt_of_lt_of_le (x.lt q) e) (Nat.lt_irrefl _)
theorem HOk.kept (x : HOk P w H h) (k : ∀ b u, h.get? b = some u → h'.get? b = some u) : HOk P w H h' := fun a o e =>
  (x a o e).stay (fun b u _ q => k b u q) (fun _ q => q) fun _ _ q => q
theorem HOk.laid (x : HOk P w H h) (k : ∀ b u, h.get? b = some u → h'.get? b = some u) (hp : h.objs.size ≤ a) (new : ObjOk P w (upd H a o) h' a o) : HOk P w (upd H a o) h' := fun b u e => by
  have hn := x.fresh hp
  by_cases hb : b = a
  · subst hb; rw [upd_same] at e; cases e; exact new
  · rw [upd_ne hb] at e
    exact (x b u e).stay (fun c v _ q => k c v q) (fun c q => by rw [upd_ne (ne_of_none q hn)]; exact q) fun c xs q => by rw [upd_ne (ne_of_none q hn)]; exact q
end

def Rd (H : Hp) (a : Addr) (u : HO) : Prop := H a = some u ∨ ∃ o, H a = some (.frz o u)
theorem Rd.ok {P : Program} {w : World} {H : Hp} {h : Heap} {a : Addr} {u : HO} (r : Rd H a u) (x : HOk P w H h) : ObjOk P w H h a u := by
  rcases r with r | ⟨o, r⟩
  · exact x a u r
  · obtain ⟨_, q⟩ := x a _ r
    exact q
def Mut : Option HO → Prop
  | some (.lst _) => True
  | some (.dK _) => True
  | some (.dT _) => True
  | some (.set _ _) => True
  | some (.ins _ _ _) => True
  | some (.ext _) => True
  | _ => False
section
variable {P : Program} {w : World} {H : Hp} {h h' : Heap} {x e : Addr} {o' : HO}
theorem HOk.write (ok : HOk P w H h) (mu : Mut (H x)) (he : e = x ∨ H e = some (.own x)) (k : ∀ b u, b ≠ e → h.get? b = some u → h'.get? b = some u) (heo : ∃ u, h'.get? e = some u)
    (new : ObjOk P w (upd H x o') h' x o') : HOk P w (upd H x o') h' := fun b u q => by
  have nown : ∀ c y, H c = some (.own y) → c ≠ x := fun c y r z => by subst z; rw [r] at mu; exact mu
  have ntup : ∀ c xs, H c = some (.tup xs) → c ≠ x := fun c xs r z => by subst z; rw [r] at mu; exact mu
  by_cases hb : b = x
  · subst hb; rw [upd_same] at q; cases q; exact new
  · rw [upd_ne hb] at q
    by_cases hbe : b = e
    · have q' : H b = some (.own x) := by
        rcases he with z | z
        · exact absurd (hbe.trans z) hb
        · rw [hbe]; exact z
      rw [q] at q'; cases q'
      obtain ⟨v, hv⟩ := heo
      exact ⟨v, by rw [hbe]; exact hv⟩
    · refine (ok b u q).stay (fun c v hc r => k c v ?_ r) (fun c r => by rw [upd_ne (nown c b r)]; exact r) fun c xs r => by rw [upd_ne (ntup c xs r)]; exact r
      rcases hc with rfl | hc
      · exact hbe
      · rintro rfl
        rcases he with z | z
        · exact nown c b hc z
        · rw [hc] at z; cases z; exact hb rfl
end

structure Un (fs ex : List Addr) (H H' : Hp) (h h' : Heap) : Prop where
  keep : ∀ b o, h.get? b = some o → H b = none → b ∉ fs → b ∉ ex → h'.get? b = some o
  slot : ∀ b o, h.get? b = some o → H b = none → b ∈ fs → b ∉ ex → ∃ sl, h'.get? b = some { o with slots := sl }
  free : ∀ b o, h.get? b = some o → H b = none → b ∉ ex → H' b = none
  there : ∀ b o, h.get? b = some o → b ∉ ex → ∃ o', h'.get? b = some o'
  tups : ∀ b xs, H b = some (.tup xs) → H' b = some (.tup xs)
  frzs : ∀ b o u, H b = some (.frz o u) → H' b = some (.frz o u)
  tbls : ∀ b ps, H b = some (.tbl ps) → ∃ more, H' b = some (.tbl (ps ++ more))
section
variable {fs fs' ex ex' : List Addr} {H H1 H2 : Hp} {h h1 h2 h' : Heap} {a x e : Addr} {o : HO}
theorem Un.any (u : Un fs ex H H1 h h1) {b : Addr} {ob : Obj} (q : h.get? b = some ob) (n : H b = none) (hx : b ∉ ex) : ∃ sl, h1.get? b = some { ob with slots := sl } := by
  by_cases hb : b ∈ fs
  · exact u.slot b ob q n hb hx
  · exact ⟨ob.slots, u.keep b ob q n hb hx⟩
theorem Un.kept (k : ∀ b u, h.get? b = some u → h'.get? b = some u) : Un fs ex H H h h' :=
  ⟨fun b ob q _ _ _ => k b ob q, fun b ob q _ _ _ => ⟨ob.slots, k b ob q⟩, fun _ _ _ n _ => n, fun b ob q _ => ⟨ob, k b ob q⟩, fun _ _ q => q, fun _ _ _ q => q, fun _ ps q => ⟨#[], by rw [q]; simp⟩⟩
theorem Un.refl : Un fs ex H H h h := Un.kept fun _ _ q => q
theorem Un.laid (k : ∀ b u, h.get? b = some u → h'.get? b = some u) (hp : h.objs.size ≤ a) (hn : H a = none) : Un fs ex H (upd H a o) h h' where
  keep := fun b u q _ _ _ => k b u q
  slot := fun b u q _ _ _ => ⟨u.slots, k b u q⟩
  free := fun b u q n _ => by rw [upd_ne (Nat.ne_of_lt (Nat.lt_of_lt_of_le (Heap.lt_size q) hp))]; exact n
  there := fun b u q _ => ⟨u, k b u q⟩
  tups := fun b xs q => by rw [upd_ne (ne_of_none q hn)]; exact q
  frzs := fun b u xs q => by rw [upd_ne (ne_of_none q hn)]; exact q
  tbls := fun b ps q => ⟨#[], by rw [upd_ne (ne_of_none q hn), q]; simp⟩
theorem Un.write (mu : Mut (H x)) (he : e = x ∨ H e = some (.own x)) (k : ∀ b u, b ≠ e → h.get? b = some u → h'.get? b = some u) (heo : ∃ u, h'.get? e = some u) : Un fs ex H (upd H x o) h h' := by
  have hx : ∀ b, H b = none → b ≠ x := fun b n z => by subst z; rw [n] at mu; exact mu
  have hb : ∀ b, H b = none → b ≠ e := fun b n z => by
    subst z
    rcases he with r | r
    · exact hx b n r
    · rw [n] at r; cases r
  have hm : ∀ b u, H b = some u → ¬ Mut (some u) → b ≠ x := fun b u q nm z => by subst z; rw [q] at mu; exact nm mu
  refine ⟨fun b u q n _ _ => k b u (hb b n) q, fun b u q n _ _ => ⟨u.slots, k b u (hb b n) q⟩, fun b u q n _ => by rw [upd_ne (hx b n)]; exact n, fun b u q _ => ?_,
    fun b xs q => by rw [upd_ne (hm b _ q fun z => z)]; exact q, fun b u xs q => by rw [upd_ne (hm b _ q fun z => z)]; exact q, fun b ps q => ⟨#[], by rw [upd_ne (hm b _ q fun z => z), q]; simp⟩⟩
  by_cases hbe : b = e
  · subst hbe; exact heo
  · exact ⟨u, k b u hbe q⟩
end

def trk (h : Heap) (H : Hp) : List Addr := (List.range h.objs.size).filter fun a => (H a).isSome
def hidT (h : Heap) (H : Hp) : Heap := PySem.W.hideAll h (trk h H)
theorem hidT_size (h : Heap) (H : Hp) : (hidT h H).objs.size = h.objs.size := PySem.W.hideAll_size _ _
theorem hidT_get {h : Heap} {H : Hp} {b : Addr} {o : Obj} (e : h.get? b = some o) (n : H b = none) : (hidT h H).get? b = some o :=
  PySem.W.hideAll_get _ e fun hm => by
    have q : (H b).isSome = true := (List.mem_filter.mp hm).2
    rw [n] at q; simp at q
theorem of_hidT {h : Heap} {H : Hp} {b : Addr} {o : Obj} (e : (hidT h H).get? b = some o) : h.get? b = some o ∧ H b = none := by
  have e' : h.get? b = some o := PySem.W.of_hideAll (trk h H) e
  refine ⟨e', ?_⟩
  cases q : H b with
  | none => rfl
  | some x =>
    have hm : b ∈ trk h H := List.mem_filter.mpr ⟨List.mem_range.mpr (Heap.lt_size e'), by simp [q]⟩
    have z : (hidT h H).get? b = none := PySem.W.hideAll_none (trk h H) hm
    rw [z] at e; cases e

end L2

namespace L2
open PySem PySem.Spec PyProof.Rows

structure Mod (K : PySem.W.Frag) (mg : Str → Option Value) (base : Heap) : Prop where
  kin : K.In base
  glob : base.Ns mainGlobals mg
  blt : ∃ mb, base.Ns builtinsNs mb ∧ ∀ x : Str, x ≠ "__name__" → mb x = bootBuiltins x
  nolimit : base.NoLimit

structure Cx where
  prog : Program
  w : World
  K : PySem.W.Frag
  mg : Str → Option Value
  base : Heap
  A : Around
  N : List Str
  s₀ : Shared
  H₀ : Hp
  env : Env
  outer : List Env
  stack : List Env
  ex : List Addr
  fn : Str → Bool
  calm : Bool
  pn : List (Addr × Obj)
  xe : Value → Shared → Prop
def frs (l : List Env) : List Addr := l.filterMap (·.frame)
abbrev Cx.fs (X : Cx) : List Addr := frs X.outer

def Vis (sc : Scope) (x : Str) : Prop := sc.names.lookup x = some .local ∨ sc.names.lookup x = some .cell ∨ sc.names.lookup x = some .free
def Loc (sc : Scope) (x : Str) : Prop := sc.names.lookup x = some .local ∨ sc.names.lookup x = some .cell
def Look (env : Env) (h : Heap) (m : Str → Option Value) (x : Str) (u : Value) : Prop :=
  (env.kindOf x = some .local ∧ m x = some u) ∨ ((env.kindOf x = some .cell ∨ env.kindOf x = some .free) ∧ ∃ c, env.cells.lookup x = some c ∧ h.IsCell c (some u))

structure Cx.Ok (X : Cx) : Prop where
  mod : Mod X.K X.mg X.base
  kind : X.env.scope.kind = .function
  glob : X.env.globals = mainGlobals
  blt : X.env.builtins = builtinsNs
  above : X.s₀.heap.objs.size ≤ X.env.locals
  inj : ∀ x y c, X.env.cells.lookup x = some c → X.env.cells.lookup y = some c → x = y
  has : ∀ x, (X.env.kindOf x = some .cell ∨ X.env.kindOf x = some .free) → ∃ c, X.env.cells.lookup x = some c
  cab : ∀ x c, X.fn x = true → X.env.cells.lookup x = some c → X.s₀.heap.objs.size ≤ c
  hd : X.calm = true → X.A.handled = none
  frames : X.A.frames = some X.stack
  stk : X.stack = X.outer ∨ (X.stack = X.env :: X.outer ∧ X.env.frame = some X.env.locals)
  exf : ∀ b ∈ X.ex, b ≠ X.env.locals ∧ ∀ x c, X.env.cells.lookup x = some c → c ≠ b
  bs : ∀ b o, X.base.get? b = some o → X.s₀.heap.get? b = some o ∧ X.H₀ b = none
  bsz : X.base.objs.size ≤ X.s₀.heap.objs.size
  noex : ∀ b o, X.base.get? b = some o → b ∉ X.ex
  exfs : ∀ b ∈ X.ex, b ∉ X.fs
  funs : X.s₀.heap.FunFrames X.base X.outer
  frf : ∀ b ∈ X.fs, X.H₀ b = none

structure Inv (X : Cx) (pins : List (Addr × Obj)) (σ : List (Option V)) (H : Hp) (s : Shared) : Prop where
  ok : X.Ok
  os : s.os = X.s₀.os
  bare : AllBare s.gens
  base : Un X.fs X.ex X.H₀ H X.s₀.heap s.heap
  loc : ∃ m, s.heap.Ns X.env.locals m ∧ ∀ (i : Nat) (x : Str) (v : V), X.N[i]? = some x → σ[i]? = some (some v) → Vis X.env.scope x → ∃ u, RelV v u ∧ Look X.env s.heap m x u
  cell : ∀ x c, X.env.cells.lookup x = some c → ∃ v, s.heap.IsCell c v
  free : H X.env.locals = none
  freeC : ∀ x c, X.env.cells.lookup x = some c → H c = none
  pin : ∀ p ∈ X.pn ++ pins, s.heap.get? p.1 = some p.2 ∧ H p.1 = none ∧ p.1 ≠ X.env.locals ∧ p.1 ∉ X.fs ∧ ∀ v, p.2.data ≠ .cell v
  hok : HOk X.prog X.w H s.heap
  len : σ.length = X.N.length

section
variable {X : Cx} {pins : List (Addr × Obj)} {σ : List (Option V)} {H H' : Hp} {s : Shared} {h' : Heap}

theorem Cx.Ok.nofr (ok : X.Ok) {b : Addr} {o : Obj} (e : X.base.get? b = some o) : b ∉ X.fs := fun hb => by
  have := (ok.funs.mem hb).1
  rw [e] at this; cases this
theorem Inv.bs (I : Inv X pins σ H s) : ∀ b o, X.base.get? b = some o → s.heap.get? b = some o ∧ H b = none := fun b o e =>
  ⟨I.base.keep b o (I.ok.bs b o e).1 (I.ok.bs b o e).2 (I.ok.nofr e) (I.ok.noex b o e), I.base.free b o (I.ok.bs b o e).1 (I.ok.bs b o e).2 (I.ok.noex b o e)⟩
theorem Inv.bk (I : Inv X pins σ H s) : ∀ b o, X.base.get? b = some o → s.heap.get? b = some o := fun b o e => (I.bs b o e).1
theorem Inv.mod (I : Inv X pins σ H s) : Mod X.K X.mg X.base := I.ok.mod
theorem Inv.kIn (I : Inv X pins σ H s) : X.K.In s.heap := I.ok.mod.kin.keeps I.bk
theorem Inv.lt (I : Inv X pins σ H s) : X.env.locals < s.heap.objs.size := let ⟨_, hn, _⟩ := I.loc; hn.lt
theorem Inv.sz (I : Inv X pins σ H s) : X.s₀.heap.objs.size ≤ s.heap.objs.size := Nat.le_trans I.ok.above (Nat.le_of_lt I.lt)
theorem Inv.nofs (I : Inv X pins σ H s) {a : Addr} (h : s.heap.objs.size ≤ a) : a ∉ X.fs := fun hb => by
  obtain ⟨_, o, ho, _⟩ := I.ok.funs.mem hb
  exact absurd (Nat.lt_of_lt_of_le (Heap.lt_size ho) (Nat.le_trans I.sz h)) (Nat.lt_irrefl _)
theorem Inv.cne (I : Inv X pins σ H s) : ∀ x c, X.env.cells.lookup x = some c → c ≠ X.env.locals := fun x c e z => by
  obtain ⟨v, o, ho, hd⟩ := I.cell x c e
  obtain ⟨m, ⟨o', es, ep, ho', hd', _⟩, _⟩ := I.loc
  rw [z, ho'] at ho; cases ho; rw [hd'] at hd; cases hd
theorem Inv.funs (I : Inv X pins σ H s) : s.heap.FunFrames X.base X.outer := by
  have all : ∀ (l : List Env), (∀ b ∈ frs l, b ∈ X.fs) → X.s₀.heap.FunFrames X.base l → s.heap.FunFrames X.base l := by
    intro l
    induction l with
    | nil => intro _ _; trivial
    | cons env r ih =>
      intro hs hl
      obtain ⟨hk, ⟨L, o, hf, hn, ho, hd⟩, hr⟩ := hl
      have hL : L ∈ X.fs := hs L (by unfold frs; rw [List.filterMap_cons, hf]; exact List.mem_cons_self)
      obtain ⟨sl, e⟩ := I.base.slot L o ho (I.ok.frf L hL) hL fun z => I.ok.exfs L z hL
      exact ⟨hk, ⟨L, _, hf, hn, e, hd⟩, ih (fun b hb => hs b (by unfold frs; rw [List.filterMap_cons, hf]; exact List.mem_cons_of_mem _ hb)) hr⟩
  exact all X.outer (fun _ hb => hb) I.ok.funs

theorem Inv.stack (I : Inv X pins σ H s) : s.heap.FunFrames X.base X.stack := by
  rcases I.ok.stk with e | ⟨e, hf⟩
  · rw [e]; exact I.funs
  · rw [e]
    obtain ⟨m, hn, _⟩ := I.loc
    refine .cons (by rw [I.ok.kind]; decide) hf hn ?_ I.funs
    exact Heap.get?_none_of_le (Nat.le_trans I.ok.bsz I.ok.above)
theorem Inv.stkSub (I : Inv X pins σ H s) : ∀ b ∈ frs X.stack, b ∈ X.env.locals :: X.fs := fun b hb => by
  rcases I.ok.stk with e | ⟨e, hf⟩
  · rw [e] at hb; exact List.mem_cons_of_mem _ hb
  · rw [e] at hb
    unfold frs at hb
    rw [List.filterMap_cons, hf] at hb
    exact hb
theorem Inv.stkFree (I : Inv X pins σ H s) : ∀ b ∈ frs X.stack, H b = none := fun b hb => by
  rcases List.mem_cons.mp (I.stkSub b hb) with e | hb
  · rw [e]; exact I.free
  · obtain ⟨_, o, ho, _⟩ := I.ok.funs.mem hb
    exact I.base.free b o ho (I.ok.frf b hb) fun z => I.ok.exfs b z hb

theorem Inv.step {g' : Array GenState} {t' : Nat} {d' : Drawn} {ch : List Addr} (I : Inv X pins σ H s)
    (hch : ∀ b ∈ ch, (b ∈ X.ex ∨ X.s₀.heap.objs.size ≤ b) ∧ b ≠ X.env.locals ∧ (∀ x c, X.env.cells.lookup x = some c → c ≠ b) ∧ ∀ p ∈ X.pn ++ pins, p.1 ≠ b)
    (keep : ∀ b o, b ≠ X.env.locals → b ∉ X.fs → b ∉ ch → s.heap.get? b = some o → H b = none → h'.get? b = some o)
    (slot : ∀ b o, b ≠ X.env.locals → b ∈ X.fs → b ∉ ch → s.heap.get? b = some o → H b = none → ∃ sl, h'.get? b = some { o with slots := sl }) (free : ∀ b o, b ∉ ch → s.heap.get? b = some o → H b = none → H' b = none)
    (there : ∀ b o, b ∉ ch → s.heap.get? b = some o → ∃ o', h'.get? b = some o')
    (tups : ∀ b xs, H b = some (.tup xs) → H' b = some (.tup xs)) (frzs : ∀ b o u, H b = some (.frz o u) → H' b = some (.frz o u)) (tbls : ∀ b ps, H b = some (.tbl ps) → ∃ more, H' b = some (.tbl (ps ++ more)))
    (ns : ∀ m, s.heap.Ns X.env.locals m → h'.Ns X.env.locals m) (hok : HOk X.prog X.w H' h') (hg : AllBare g') :
    Inv X pins σ H' { s with heap := h', gens := g', drawn := d', toks := t' } := by
  have neL : ∀ b o, X.s₀.heap.get? b = some o → b ≠ X.env.locals := fun b o e => Nat.ne_of_lt (Nat.lt_of_lt_of_le (Heap.lt_size e) I.ok.above)
  have neC : ∀ b o, X.s₀.heap.get? b = some o → b ∉ X.ex → b ∉ ch := fun b o e hx hb => by
    rcases (hch b hb).1 with z | z
    · exact hx z
    · exact absurd (Nat.lt_of_lt_of_le (Heap.lt_size e) z) (Nat.lt_irrefl _)
  have cellK : ∀ x c, X.env.cells.lookup x = some c → ∀ v, s.heap.IsCell c v → h'.IsCell c v := fun x c e v ⟨o, ho, hd⟩ => by
    have nch : c ∉ ch := fun z => (hch c z).2.2.1 x c e rfl
    by_cases hc : c ∈ X.fs
    · obtain ⟨sl, q⟩ := slot c o (I.cne x c e) hc nch ho (I.freeC x c e)
      exact ⟨_, q, hd⟩
    · exact ⟨o, keep c o (I.cne x c e) hc nch ho (I.freeC x c e), hd⟩
  refine ⟨I.ok, I.os, hg, ⟨fun b o e n hb hx => ?_, fun b o e n hb hx => ?_, fun b o e n hx => ?_, fun b o e hx => ?_, fun b xs e => tups b xs (I.base.tups b xs e), fun b o xs e => frzs b o xs (I.base.frzs b o xs e), fun b ps e => ?_⟩, ?_, fun x c e => ?_, ?_, fun x c e => ?_, fun p hp => ?_, hok, I.len⟩
  · exact keep b o (neL b o e) hb (neC b o e hx) (I.base.keep b o e n hb hx) (I.base.free b o e n hx)
  · obtain ⟨sl, e1⟩ := I.base.slot b o e n hb hx
    obtain ⟨sl', e2⟩ := slot b _ (neL b o e) hb (neC b o e hx) e1 (I.base.free b o e n hx)
    exact ⟨sl', e2⟩
  · obtain ⟨o', e1⟩ := I.base.there b o e hx
    exact free b o' (neC b o e hx) e1 (I.base.free b o e n hx)
  · obtain ⟨o', e1⟩ := I.base.there b o e hx
    exact there b o' (neC b o e hx) e1
  · obtain ⟨m1, e1⟩ := I.base.tbls b ps e
    obtain ⟨m2, e2⟩ := tbls b _ e1
    exact ⟨m1 ++ m2, by rw [e2, Array.append_assoc]⟩
  · obtain ⟨m, hn, hl⟩ := I.loc
    refine ⟨m, ns m hn, fun i x v e1 e2 e3 => ?_⟩
    obtain ⟨u, r, l⟩ := hl i x v e1 e2 e3
    refine ⟨u, r, ?_⟩
    rcases l with l | ⟨k, c, e, z⟩
    · exact .inl l
    · exact .inr ⟨k, c, e, cellK x c e _ z⟩
  · obtain ⟨v, z⟩ := I.cell x c e
    exact ⟨v, cellK x c e v z⟩
  · obtain ⟨m, ⟨o, _, _, ho, _⟩, _⟩ := I.loc
    exact free _ o (fun z => (hch _ z).2.1 rfl) ho I.free
  · obtain ⟨v, o, ho, hd⟩ := I.cell x c e
    exact free c o (fun z => (hch c z).2.2.1 x c e rfl) ho (I.freeC x c e)
  · obtain ⟨e, n, ne, nf, d⟩ := I.pin p hp
    have nch : p.1 ∉ ch := fun z => (hch p.1 z).2.2.2 p hp rfl
    exact ⟨keep p.1 p.2 ne nf nch e n, free p.1 p.2 nch e n, ne, nf, d⟩
theorem Inv.un {t' : Nat} (I : Inv X pins σ H s) (u : Un X.fs [] H H' s.heap h') (hok : HOk X.prog X.w H' h') : Inv X pins σ H' { s with heap := h', toks := t' } := by
  obtain ⟨m, ⟨o, es, ep, ho, r⟩, _⟩ := id I.loc
  obtain ⟨sl, hL⟩ := u.any ho I.free (by simp)
  exact I.step (g' := s.gens) (d' := s.drawn) (ch := []) (fun _ z => nomatch z) (fun b o _ hb _ e n => u.keep b o e n hb (by simp)) (fun b o _ hb _ e n => u.slot b o e n hb (by simp)) (fun b o _ e n => u.free b o e n (by simp)) (fun b o _ e => u.there b o e (by simp)) u.tups u.frzs u.tbls (fun m' hm => by
    obtain ⟨o', es', ep', ho', r'⟩ := hm
    rw [ho] at ho'; cases ho'
    exact ⟨_, es', ep', hL, r'⟩) hok I.bare
theorem Inv.call {g' : Array GenState} {t' : Nat} {d' : Drawn} {ch : List Addr} (I : Inv X pins σ H s) (u : Un (frs X.stack) ch H H' s.heap h') (hok : HOk X.prog X.w H' h') (hg : AllBare g')
    (hch : ∀ b ∈ ch, (b ∈ X.ex ∨ X.s₀.heap.objs.size ≤ b) ∧ b ≠ X.env.locals ∧ (∀ x c, X.env.cells.lookup x = some c → c ≠ b) ∧ ∀ p ∈ X.pn ++ pins, p.1 ≠ b) :
    Inv X pins σ H' { s with heap := h', gens := g', drawn := d', toks := t' } := by
  obtain ⟨m, ⟨o, es, ep, ho, r⟩, _⟩ := id I.loc
  obtain ⟨sl, hL⟩ := u.any ho I.free fun z => (hch _ z).2.1 rfl
  exact I.step (ch := ch) hch (fun b o hL hb hc e n => u.keep b o e n (fun z => (List.mem_cons.mp (I.stkSub b z)).elim hL hb) hc) (fun b o _ _ hc e n => u.any e n hc) (fun b o hc e n => u.free b o e n hc) (fun b o hc e => u.there b o e hc) u.tups u.frzs u.tbls (fun m' hm => by
    obtain ⟨o', es', ep', ho', r'⟩ := hm
    rw [ho] at ho'; cases ho'
    exact ⟨_, es', ep', hL, r'⟩) hok hg
theorem Inv.turned {t' : Nat} {it : Addr} (I : Inv X pins σ H s) (k : ∀ b o, b ≠ it → s.heap.get? b = some o → h'.get? b = some o) (hn : H it = none) (hL : it ≠ X.env.locals)
    (h1 : it ∈ X.ex ∨ X.s₀.heap.objs.size ≤ it) (h2 : ∀ x c, X.env.cells.lookup x = some c → c ≠ it) (h3 : ∀ p ∈ X.pn ++ pins, p.1 ≠ it) : Inv X pins σ H { s with heap := h', toks := t' } := by
  have nit : ∀ b u, H b = some u → b ≠ it := fun b u e z => by rw [z, hn] at e; cases e
  refine I.step (g' := s.gens) (d' := s.drawn) (ch := [it]) (fun b hb => ?_) (fun b o _ _ hc e _ => k b o (fun z => hc (by simp [z])) e) (fun b o _ _ hc e _ => ⟨o.slots, k b o (fun z => hc (by simp [z])) e⟩) (fun _ _ _ _ n => n)
    (fun b o hc e => ⟨o, k b o (fun z => hc (by simp [z])) e⟩) (fun _ _ e => e) (fun _ _ _ e => e) (fun b ps e => ⟨#[], by rw [e]; simp⟩) (fun m hm => ?_) (fun b u e => ?_) I.bare
  · have e : b = it := by simpa using hb
    subst e
    exact ⟨h1, hL, h2, h3⟩
  · obtain ⟨o, es, ep, ho, r⟩ := hm
    exact ⟨o, es, ep, k _ o (Ne.symm hL) ho, r⟩
  · refine (I.hok b u e).stay (fun c v hc q => k c v ?_ q) (fun _ q => q) fun _ _ q => q
    rcases hc with z | z
    · rw [z]; exact nit b u e
    · exact nit c _ z
theorem Inv.tok (I : Inv X pins σ H s) (t : Nat) : Inv X pins σ H { s with toks := t } := I.un (h' := s.heap) (t' := t) Un.refl I.hok
theorem Inv.kept {t' : Nat} (I : Inv X pins σ H s) (k : ∀ b u, s.heap.get? b = some u → h'.get? b = some u) : Inv X pins σ H { s with heap := h', toks := t' } := I.un (Un.kept k) (I.hok.kept k)
theorem Inv.laid {a : Addr} {o : HO} {t' : Nat} (I : Inv X pins σ H s) (k : ∀ b u, s.heap.get? b = some u → h'.get? b = some u) (hp : s.heap.objs.size ≤ a) (new : ObjOk X.prog X.w (upd H a o) h' a o) :
    Inv X pins σ (upd H a o) { s with heap := h', toks := t' } := I.un (Un.laid k hp (I.hok.fresh hp)) (I.hok.laid k hp new)
theorem Inv.write {x e : Addr} {o : HO} {t' : Nat} (I : Inv X pins σ H s) (mu : Mut (H x)) (he : e = x ∨ H e = some (.own x)) (k : ∀ b u, b ≠ e → s.heap.get? b = some u → h'.get? b = some u) (heo : ∃ u, h'.get? e = some u)
    (new : ObjOk X.prog X.w (upd H x o) h' x o) : Inv X pins σ (upd H x o) { s with heap := h', toks := t' } := I.un (Un.write mu he k heo) (I.hok.write mu he k heo new)
theorem Inv.pins_of {pins' : List (Addr × Obj)} (I : Inv X pins σ H s) (h : ∀ p ∈ pins', s.heap.get? p.1 = some p.2 ∧ H p.1 = none ∧ p.1 ≠ X.env.locals ∧ p.1 ∉ X.fs ∧ ∀ v, p.2.data ≠ .cell v) : Inv X pins' σ H s :=
  ⟨I.ok, I.os, I.bare, I.base, I.loc, I.cell, I.free, I.freeC, fun p hp => (List.mem_append.mp hp).elim (fun z => I.pin p (List.mem_append_left _ z)) (h p), I.hok, I.len⟩

theorem nodup_ix {N : List Str} (hN : N.Nodup) {i j : Nat} {x : Str} (a : N[i]? = some x) (b : N[j]? = some x) : i = j := by
  obtain ⟨h1, e1⟩ := List.getElem?_eq_some_iff.mp a
  obtain ⟨h2, e2⟩ := List.getElem?_eq_some_iff.mp b
  exact (List.getElem_inj hN).mp (e1.trans e2.symm)

theorem store_ok2 {M : Model} {A : Around} {E : Value → Shared → Prop} {i : Nat} {x : Str} {v : V} {u : Value} {Q : Unit → Shared → Prop} (I : Inv X pins σ H s) (hN : X.N.Nodup) (hi : X.N[i]? = some x) (hx : Loc X.env.scope x) (r : RelV v u)
    (h : ∀ s', Inv X pins (σ.set i (some v)) H s' → (∃ a, Heap.SameBut a s.heap s'.heap ∧ (a = X.env.locals ∨ X.env.cells.lookup x = some a)) → Q () s') (hf : X.fn x = true ∨ X.env.scope.names.lookup x = some .local := by first | exact .inl rfl | exact .inr rfl | assumption) : wpAny M A (storeName X.env x u) Q E s := by
  obtain ⟨m, hn, hl⟩ := id I.loc
  have hcls : (X.env.scope.kind == .class || (X.env.scope.kind == .module && X.env.locals != X.env.globals)) = false := by rw [I.ok.kind]; rfl
  have hiσ : i < σ.length := by rw [I.len]; exact (List.getElem?_eq_some_iff.mp hi).1
  have cne := I.cne
  have tracked : ∀ {a : Addr} {h' : Heap}, (∃ o, s.heap.get? a = some o ∧ H a = none) → Heap.SameBut a s.heap h' → HOk X.prog X.w H h' := fun {a h'} ha hs b ob e => by
    obtain ⟨_, _, hfree⟩ := ha
    refine (I.hok b ob e).stay (fun c w' hc q => (hs.2 c ?_).trans q) (fun _ q => q) fun _ _ q => q
    rintro rfl
    rcases hc with rfl | hc
    · rw [hfree] at e; cases e
    · rw [hfree] at hc; cases hc
  rcases hx with hk | hk
  · refine wpAny_storeName_local hk hn (fun h' hn' hs => ?_) hcls
    obtain ⟨oL, _, _, hoL, _⟩ := id hn
    refine h _ ⟨I.ok, I.os, I.bare, ⟨fun b o e n hb hx => ?_, fun b o e n hb hx => ?_, I.base.free, fun b o e hx => ?_, I.base.tups, I.base.frzs, I.base.tbls⟩, ⟨_, hn', fun j y v' e1 e2 e3 => ?_⟩, fun y c e => ?_, I.free, I.freeC, fun p hp => ?_, tracked ⟨oL, hoL, I.free⟩ hs, by simpa using I.len⟩ ⟨_, hs, .inl rfl⟩
    · exact (hs.2 b (Nat.ne_of_lt (Nat.lt_of_lt_of_le (Heap.lt_size e) I.ok.above))).trans (I.base.keep b o e n hb hx)
    · obtain ⟨sl, e1⟩ := I.base.slot b o e n hb hx
      exact ⟨sl, (hs.2 b (Nat.ne_of_lt (Nat.lt_of_lt_of_le (Heap.lt_size e) I.ok.above))).trans e1⟩
    · obtain ⟨o', e1⟩ := I.base.there b o e hx
      exact ⟨o', (hs.2 b (Nat.ne_of_lt (Nat.lt_of_lt_of_le (Heap.lt_size e) I.ok.above))).trans e1⟩
    · by_cases hj : j = i
      · subst hj
        rw [hi] at e1; cases e1
        rw [List.getElem?_set_self hiσ] at e2
        cases e2
        exact ⟨u, r, .inl ⟨hk, by simp⟩⟩
      · rw [List.getElem?_set_ne (Ne.symm hj)] at e2
        obtain ⟨u', r', q⟩ := hl j y v' e1 e2 e3
        refine ⟨u', r', ?_⟩
        rcases q with ⟨k, e⟩ | ⟨k, c, e, z⟩
        · refine .inl ⟨k, ?_⟩
          have : y ≠ x := fun e => hj (nodup_ix hN e1 (e ▸ hi))
          simp [this, e]
        · exact .inr ⟨k, c, e, z.sameBut hs (cne y c e)⟩
    · obtain ⟨w', z⟩ := I.cell y c e
      exact ⟨w', z.sameBut hs (cne y c e)⟩
    · obtain ⟨e, n, ne, nf, d⟩ := I.pin p hp
      exact ⟨(hs.2 p.1 ne).trans e, n, ne, nf, d⟩
  · have hfn : X.fn x = true := by
      rcases hf with z | z
      · exact z
      · rw [z] at hk; cases hk
    obtain ⟨c, hc⟩ := I.ok.has x (.inl hk)
    obtain ⟨w', z⟩ := I.cell x c hc
    refine wpAny_storeName_cell I.ok.kind hk hc z (fun h' hc' hs => ?_)
    obtain ⟨oc, hoc, hocd⟩ := id z
    refine h { s with heap := h' } ⟨I.ok, I.os, I.bare, ⟨fun b o e n hb hx => ?_, fun b o e n hb hx => ?_, I.base.free, fun b o e hx => ?_, I.base.tups, I.base.frzs, I.base.tbls⟩, ⟨m, hn.sameBut hs (Ne.symm (cne x c hc)), fun j y v' e1 e2 e3 => ?_⟩, fun y c' e => ?_, I.free, I.freeC, fun p hp => ?_, tracked ⟨oc, hoc, I.freeC x c hc⟩ hs, by simpa using I.len⟩ ⟨c, hs, .inr hc⟩
    · exact (hs.2 b (Nat.ne_of_lt (Nat.lt_of_lt_of_le (Heap.lt_size e) (I.ok.cab x c hfn hc)))).trans (I.base.keep b o e n hb hx)
    · obtain ⟨sl, e1⟩ := I.base.slot b o e n hb hx
      exact ⟨sl, (hs.2 b (Nat.ne_of_lt (Nat.lt_of_lt_of_le (Heap.lt_size e) (I.ok.cab x c hfn hc)))).trans e1⟩
    · obtain ⟨o', e1⟩ := I.base.there b o e hx
      exact ⟨o', (hs.2 b (Nat.ne_of_lt (Nat.lt_of_lt_of_le (Heap.lt_size e) (I.ok.cab x c hfn hc)))).trans e1⟩
    · by_cases hj : j = i
      · subst hj
        rw [hi] at e1; cases e1
        rw [List.getElem?_set_self hiσ] at e2
        cases e2
        exact ⟨u, r, .inr ⟨.inl hk, c, hc, hc'⟩⟩
      · rw [List.getElem?_set_ne (Ne.symm hj)] at e2
        obtain ⟨u', r', q⟩ := hl j y v' e1 e2 e3
        refine ⟨u', r', ?_⟩
        rcases q with q | ⟨k, c', e, z'⟩
        · exact .inl q
        · refine .inr ⟨k, c', e, z'.sameBut hs ?_⟩
          rintro rfl
          exact hj (nodup_ix hN e1 (I.ok.inj _ _ _ e hc ▸ hi))
    · by_cases hcc : c' = c
      · subst hcc; exact ⟨_, hc'⟩
      · obtain ⟨w2, z2⟩ := I.cell y c' e
        exact ⟨w2, z2.sameBut hs hcc⟩
    · obtain ⟨e, n, ne, nf, d⟩ := I.pin p hp
      refine ⟨(hs.2 p.1 ?_).trans e, n, ne, nf, d⟩
      intro q
      rw [q, hoc] at e
      have q' : oc = p.2 := Option.some.inj e
      exact d w' (by rw [← q']; exact hocd)
theorem store_ok {M : Model} {A : Around} {E : Value → Shared → Prop} {i : Nat} {x : Str} {v : V} {u : Value} {Q : Unit → Shared → Prop} (I : Inv X pins σ H s) (hN : X.N.Nodup) (hi : X.N[i]? = some x) (hx : Loc X.env.scope x) (r : RelV v u)
    (h : ∀ s', Inv X pins (σ.set i (some v)) H s' → Q () s') (hf : X.fn x = true ∨ X.env.scope.names.lookup x = some .local := by first | exact .inl rfl | exact .inr rfl | assumption) : wpAny M A (storeName X.env x u) Q E s :=
  store_ok2 I hN hi hx r (fun s' I' _ => h s' I') hf
theorem Inv.call' {s' : Shared} {ch : List Addr} (I : Inv X pins σ H s) (ho : s'.os = s.os) (u : Un (frs X.stack) ch H H' s.heap s'.heap) (hok : HOk X.prog X.w H' s'.heap) (hg : AllBare s'.gens)
    (hch : ∀ b ∈ ch, (b ∈ X.ex ∨ X.s₀.heap.objs.size ≤ b) ∧ b ≠ X.env.locals ∧ (∀ x c, X.env.cells.lookup x = some c → c ≠ b) ∧ ∀ p ∈ X.pn ++ pins, p.1 ≠ b) : Inv X pins σ H' s' := by
  obtain ⟨h', g', d', t', o'⟩ := s'
  have e : o' = s.os := ho
  subst e
  exact I.call (g' := g') (t' := t') (d' := d') u hok hg hch
end

abbrev XK := Value → Option Addr → Hp → Prop
abbrev St := List (Option V)
abbrev VK := V → Hp → Prop
abbrev TE := St → Hp → VK → Prop
abbrev TT := St → Hp → (Bool → Hp → Prop) → Prop
abbrev TA := St → Hp → (List V → Hp → Prop) → Prop
structure Ends where
  nx : St → Hp → Prop
  rt : VK
  bk : St → Hp → Prop := fun _ _ => False
  ct : St → Hp → Prop := fun _ _ => False
abbrev TS := Ends → St → Hp → Prop

def EP (X : Cx) (pins : List (Addr × Obj)) (σ : St) (Q : VK) (u : Value) (s' : Shared) : Prop := ∃ v H', Inv X pins σ H' s' ∧ RelV v u ∧ Q v H'
def TP (X : Cx) (pins : List (Addr × Obj)) (σ : St) (Q : Bool → Hp → Prop) (b : Bool) (s' : Shared) : Prop := ∃ H', Inv X pins σ H' s' ∧ Q b H'
def AP (X : Cx) (pins : List (Addr × Obj)) (σ : St) (Q : List V → Hp → Prop) (us : List Value) (s' : Shared) : Prop := ∃ vs H', Inv X pins σ H' s' ∧ Vals vs us ∧ Q vs H'
def SP (X : Cx) (pins : List (Addr × Obj)) (D : Ends) (f : Flow) (s' : Shared) : Prop :=
  match f with
  | .next => ∃ σ' H', Inv X pins σ' H' s' ∧ D.nx σ' H'
  | .brk => ∃ σ' H', Inv X pins σ' H' s' ∧ D.bk σ' H'
  | .cont => ∃ σ' H', Inv X pins σ' H' s' ∧ D.ct σ' H'
  | .ret u => ∃ v σ' H', Inv X pins σ' H' s' ∧ RelV v u ∧ D.rt v H'

def PE (X : Cx) (e : Expr) (t : TE) : Prop :=
  ∀ (pins : List (Addr × Obj)) (s : Shared) (σ : St) (H : Hp) (Q : VK), Inv X pins σ H s → t σ H Q → wpAny (model X.prog X.w) X.A (eval e X.env) (EP X pins σ Q) X.xe s
def PT (X : Cx) (e : Expr) (t : TT) : Prop :=
  ∀ (pins : List (Addr × Obj)) (s : Shared) (σ : St) (H : Hp) (Q : Bool → Hp → Prop), Inv X pins σ H s → t σ H Q → wpAny (model X.prog X.w) X.A (isTrue e X.env (eval e X.env)) (TP X pins σ Q) X.xe s
def PW (X : Cx) (e : Expr) (t : TT) : Prop :=
  ∀ (whole : Sem Value) (pins : List (Addr × Obj)) (s : Shared) (σ : St) (H : Hp) (Q : Bool → Hp → Prop), Inv X pins σ H s → t σ H Q → wpAny (model X.prog X.w) X.A (isTrue e X.env whole) (TP X pins σ Q) X.xe s
theorem PW.pt {X : Cx} {e : Expr} {t : TT} (h : PW X e t) : PT X e t := h _
def PA (X : Cx) (es : List Expr) (t : TA) : Prop :=
  ∀ (pos : Pos) (pins : List (Addr × Obj)) (s : Shared) (σ : St) (H : Hp) (Q : List V → Hp → Prop), Inv X pins σ H s → t σ H Q → wpAny (model X.prog X.w) X.A (spliced (backTo pos (starEach es X.env))) (AP X pins σ Q) X.xe s
def PS (X : Cx) (st : Stmt) (t : TS) : Prop :=
  ∀ (pins : List (Addr × Obj)) (s : Shared) (σ : St) (H : Hp) (D : Ends), Inv X pins σ H s → t D σ H → wpAny (model X.prog X.w) X.A (exec st X.env) (SP X pins D) X.xe s
def PSs (X : Cx) (st : List Stmt) (t : TS) : Prop :=
  ∀ (pins : List (Addr × Obj)) (s : Shared) (σ : St) (H : Hp) (D : Ends), Inv X pins σ H s → t D σ H → wpAny (model X.prog X.w) X.A (execs st X.env) (SP X pins D) X.xe s
theorem thn {α : Type} {t : Sem α} {Q Q' : α → Shared → Prop} {M : Model} {A : Around} {E : Value → Shared → Prop} {s : Shared} (h : wpAny M A t Q E s) (hQ : ∀ a s, Q a s → Q' a s) : wpAny M A t Q' E s := wpAny_mono h hQ fun _ _ x => x
end L2

namespace L2
open PySem PySem.Spec PyProof.Rows
section
variable {X : Cx}

def tVar (i : Nat) : TE := fun σ H Q => ∃ v, σ[i]? = some (some v) ∧ Q v H
def tC (v : V) : TE := fun _ H Q => Q v H
theorem pe_var {i : Nat} {x : Str} {pos : Pos} (hN : X.N[i]? = some x) (hv : Vis X.env.scope x) (hd : (x == ("__debug__" : Str)) = false := by decide) (hcd : (x == ("__classdict__" : Str)) = false := by decide) : PE X (.Name x pos) (tVar i) := by
  intro pins s σ H Q I h
  obtain ⟨v, e, h⟩ := h
  obtain ⟨m, hn, hl⟩ := I.loc
  obtain ⟨u, r, l⟩ := hl i x v hN e hv
  have fin : EP X pins σ Q u s := ⟨v, H, I, r, h⟩
  rcases l with ⟨hk, hm⟩ | ⟨hk, c, hc, hcell⟩
  · exact wpAny_Name (wpAny_loadName_local I.ok.kind hk hn hm fin) hd
  · rcases hk with hk | hk
    · exact wpAny_Name (wpAny_loadName_cell I.ok.kind hk hc hcell fin) hd
    · exact wpAny_Name (wpAny_loadName_free I.ok.kind hk hc hcell fin hcd) hd
theorem pe_int {i j pos} : PE X (.Constant (.int i) j pos) (tC (.int i)) := fun _ _ _ H _ I h => wpAny_Constant_int ⟨.int i, H, I.tok _, ⟨_, rfl⟩, h⟩
theorem pe_bl {b j pos} : PE X (.Constant (.bool b) j pos) (tC (.bl b)) := fun _ _ _ H _ I h => Constant_bool ⟨.bl b, H, I, rfl, h⟩
theorem pe_str {x j pos} : PE X (.Constant (.str x) j pos) (tC (.str x)) := fun _ _ _ H _ I h => Calls.Constant_str ⟨.str x, H, I.tok _, ⟨_, rfl⟩, h⟩

def Gl (X : Cx) (x : Str) : Prop := X.env.kindOf x = some .globalImplicit
theorem ld_glob {E : Value → Shared → Prop} {pins : List (Addr × Obj)} {s : Shared} {σ : St} {H : Hp} {x : Str} {u : Value} {pos : Pos} {Q : Value → Shared → Prop} (I : Inv X pins σ H s) (hg : Gl X x) (hm : X.mg x = some u) (h : Q u s)
    (hd : (x == ("__debug__" : Str)) = false := by decide) : wpAny (model X.prog X.w) X.A (eval (.Name x pos) X.env) Q E s :=
  Calls.Name_function_global I.ok.kind hg (Calls.loadGlobal_global (by rw [I.ok.glob]; exact I.mod.glob.keeps I.bk) hm h) hd
theorem ld_blt {E : Value → Shared → Prop} {pins : List (Addr × Obj)} {s : Shared} {σ : St} {H : Hp} {x : Str} {u : Value} {pos : Pos} {Q : Value → Shared → Prop} (I : Inv X pins σ H s) (hg : Gl X x) (hm : X.mg x = none) (hv : bootBuiltins x = some u) (h : Q u s)
    (hn : x ≠ "__name__" := by decide) (hd : (x == ("__debug__" : Str)) = false := by decide) : wpAny (model X.prog X.w) X.A (eval (.Name x pos) X.env) Q E s := by
  obtain ⟨mb, h1, h2⟩ := I.mod.blt
  exact Calls.Name_function_global I.ok.kind hg (Calls.loadGlobal_builtin (by rw [I.ok.glob]; exact I.mod.glob.keeps I.bk) hm (by rw [I.ok.blt]; exact h1.keeps I.bk) ((h2 x hn).trans hv) h) hd
theorem pe_bltn {x : Str} {v : V} {u : Value} {pos : Pos} (hg : Gl X x) (hm : X.mg x = none) (hv : bootBuiltins x = some u) (r : RelV v u) (hn : x ≠ "__name__" := by decide) (hd : (x == ("__debug__" : Str)) = false := by decide) : PE X (.Name x pos) (tC v) :=
  fun _ _ _ H _ I h => ld_blt I hg hm hv ⟨v, H, I, r, h⟩ hn hd

variable {a b : Expr} {ta tb : TE} {pos : Pos}
def PC (X : Cx) (op : CmpOp) (a b : Expr) (t : TE) : Prop :=
  ∀ (pins : List (Addr × Obj)) (s : Shared) (σ : St) (H : Hp) (Q : VK), Inv X pins σ H s → t σ H Q →
    wpAny (model X.prog X.w) X.A (eval a X.env) (fun v s₁ => wpAny (model X.prog X.w) X.A (eval b X.env) (fun u s₂ => wpAny (model X.prog X.w) X.A (compareOp op v u) (EP X pins σ Q) X.xe s₂) X.xe s₁) X.xe s
def tB (t : TE) : TT := fun σ H Q => t σ H fun x H1 => ∃ c, x = .bl c ∧ Q c H1
theorem pt_val {e : Expr} {t : TE} (h : PE X e t) (he : ∀ whole, isTrue e X.env whole = (do let v ← whole; standAt e.pos; holding [v] (truthy v)) := by intro _; rfl) : PT X e (tB t) := by
  intro pins s σ H Q I hw
  refine isTrue_plain (thn (h pins s σ H _ I hw) fun v s1 ⟨x, H1, I1, r1, q1⟩ => ?_) (he _)
  obtain ⟨d, rfl, q⟩ := q1
  cases r1
  exact wpAny_truthy_bool ⟨H1, I1, q⟩

variable {tA tB' : TT} {rest : List Expr}
def tAnd (t u : TT) : TT := fun σ H Q => t σ H fun c H1 => if c = true then u σ H1 Q else Q false H1
def tOr (t u : TT) : TT := fun σ H Q => t σ H fun c H1 => if c = true then Q true H1 else u σ H1 Q
def tNot (t : TT) : TT := fun σ H Q => t σ H fun c H1 => Q (!c) H1
theorem pw_and1 (ha : PT X a tA) : PW X (.BoolOp .And [a] pos) tA := by
  intro wh pins s σ H Q I h
  refine isTrue_and (thn (ha pins s σ H Q I h) fun c s1 e => ?_)
  cases c with
  | true => exact isTrue_and_nil e
  | false => exact e
theorem pw_or1 (ha : PT X a tA) : PW X (.BoolOp .Or [a] pos) tA := by
  intro wh pins s σ H Q I h
  refine isTrue_or (thn (ha pins s σ H Q I h) fun c s1 e => ?_)
  cases c with
  | false => exact isTrue_or_nil e
  | true => exact e
theorem pw_and (ha : PT X a tA) (hb : PW X (.BoolOp .And (b :: rest) pos) tB') : PW X (.BoolOp .And (a :: b :: rest) pos) (tAnd tA tB') := by
  intro wh pins s σ H Q I h
  refine isTrue_and (thn (ha pins s σ H _ I h) fun c s1 ⟨H1, I1, q1⟩ => ?_)
  cases c with
  | true => exact hb wh pins s1 σ H1 Q I1 q1
  | false => exact ⟨H1, I1, q1⟩
theorem pw_or (ha : PT X a tA) (hb : PW X (.BoolOp .Or (b :: rest) pos) tB') : PW X (.BoolOp .Or (a :: b :: rest) pos) (tOr tA tB') := by
  intro wh pins s σ H Q I h
  refine isTrue_or (thn (ha pins s σ H _ I h) fun c s1 ⟨H1, I1, q1⟩ => ?_)
  cases c with
  | true => exact ⟨H1, I1, q1⟩
  | false => exact hb wh pins s1 σ H1 Q I1 q1
theorem pt_not (ha : PT X a tA) : PT X (.UnaryOp .Not a pos) (tNot tA) := by
  intro pins s σ H Q I h
  exact isTrue_not (ha pins s σ H (fun c H1 => Q (!c) H1) I h)
end
end L2

namespace L2
open PySem PySem.Spec PyProof.Rows

def SqL (K : PySem.W.Frag) (H : Hp) (a : Addr) (xs : List V) : Prop :=
  Rd H a (.lst xs) ∨
    ∃ (o : Obj) (its : Array Value) (n : Nat), K.lookup a = some o ∧ o.cls = .type "list" ∧ o.dict = none ∧ o.data = .seq its n ∧ its.size ≤ sizeLine ∧ Vals xs its.toList
def SqT (K : PySem.W.Frag) (H : Hp) (a : Addr) (xs : List V) : Prop :=
  Rd H a (.tup xs) ∨
    ∃ (o : Obj) (its : Array Value) (n : Nat), K.lookup a = some o ∧ o.cls = .type "tuple" ∧ o.data = .seq its n ∧ its.size ≤ sizeLine ∧ Vals xs its.toList
def absV : Value → Option V
  | .none => some .non
  | .bool b => some (.bl b)
  | .int i _ => some (.int i)
  | .str x _ => some (.str x)
  | .bytes b _ => some (.byt b)
  | .float b _ => some (.flt b)
  | .ref a => some (.ref a)
  | .type n => some (.ty n)
  | _ => none
theorem RelV.abs {x : V} {u : Value} (r : RelV x u) : absV u = some x := by
  cases x with
  | non => cases r; rfl
  | bl _ => cases r; rfl
  | int _ => obtain ⟨t, rfl⟩ := r; rfl
  | str _ => obtain ⟨t, rfl⟩ := r; rfl
  | byt _ => obtain ⟨t, rfl⟩ := r; rfl
  | flt _ => obtain ⟨t, rfl⟩ := r; rfl
  | ref _ => cases r; rfl
  | ty _ => cases r; rfl
theorem RelV.inj {x y : V} {u : Value} (r : RelV x u) (q : RelV y u) : x = y := Option.some.inj (r.abs.symm.trans q.abs)
theorem Vals.inj : ∀ {xs ys : List V} {us : List Value}, Vals xs us → Vals ys us → xs = ys
  | _, _, _, .nil, .nil => rfl
  | _, _, _, .cons r t, .cons r' t' => by rw [r.inj r', Vals.inj t t']
section
variable {X : Cx} {pins : List (Addr × Obj)} {σ : St} {H : Hp} {s : Shared} {a : Addr} {xs ys : List V}
theorem SqL.of {K : PySem.W.Frag} (h : H a = some (.lst xs)) : SqL K H a xs := .inl (.inl h)
theorem SqT.of {K : PySem.W.Frag} (h : H a = some (.tup xs)) : SqT K H a xs := .inl (.inl h)
theorem Inv.list (I : Inv X pins σ H s) (h : SqL X.K H a xs) : ∃ its : List Value, Vals xs its ∧ PlainL s.heap a its.toArray ∧ xs.length ≤ sizeLine := by
  rcases h with h | ⟨o, its, n, hk, hc, hd, hs, hz, r⟩
  · obtain ⟨z, its, n, r, e⟩ := h.ok I.hok
    exact ⟨its, r, ⟨_, n, e, rfl, rfl, rfl⟩, z⟩
  · refine ⟨its.toList, r, ⟨o, n, I.kIn a o hk, hc, hd, by simpa using hs⟩, ?_⟩
    have e := r.length
    simp only [Array.length_toList] at e
    omega
theorem Inv.tuple (I : Inv X pins σ H s) (h : SqT X.K H a xs) : ∃ its : List Value, Vals xs its ∧ IsTup s.heap a its.toArray ∧ xs.length ≤ sizeLine := by
  rcases h with h | ⟨o, its, n, hk, hc, hs, hz, r⟩
  · obtain ⟨z, its, r, p⟩ := h.ok I.hok
    exact ⟨its, r, p, z⟩
  · refine ⟨its.toList, r, ⟨o, I.kIn a o hk, hc, n, by simpa using hs⟩, ?_⟩
    have e := r.length
    simp only [Array.length_toList] at e
    omega
theorem Inv.list_inj (I : Inv X pins σ H s) (h : SqL X.K H a xs) (h' : SqL X.K H a ys) : xs = ys := by
  obtain ⟨its, r, ⟨o, n, e, _, _, d⟩, _⟩ := I.list h
  obtain ⟨its', r', ⟨o', n', e', _, _, d'⟩, _⟩ := I.list h'
  rw [e] at e'; cases e'
  rw [d] at d'
  injection d' with d1 _
  have : its = its' := by simpa using congrArg Array.toList d1
  subst this
  exact r.inj r'
end

abbrev Cx.wish (X : Cx) (E : Value → Shared → Prop) : Cx := { X with xe := E }
abbrev Cx.nox (X : Cx) : Cx := X.wish fun _ _ => False
theorem Cx.Ok.wish {X : Cx} (ok : X.Ok) (E : Value → Shared → Prop) : (X.wish E).Ok :=
  ⟨ok.mod, ok.kind, ok.glob, ok.blt, ok.above, ok.inj, ok.has, ok.cab, ok.hd, ok.frames, ok.stk, ok.exf, ok.bs, ok.bsz, ok.noex, ok.exfs, ok.funs, ok.frf⟩
theorem Cx.Ok.unwish {X : Cx} {E : Value → Shared → Prop} (ok : (X.wish E).Ok) : X.Ok :=
  ⟨ok.mod, ok.kind, ok.glob, ok.blt, ok.above, ok.inj, ok.has, ok.cab, ok.hd, ok.frames, ok.stk, ok.exf, ok.bs, ok.bsz, ok.noex, ok.exfs, ok.funs, ok.frf⟩
section
variable {X : Cx} {pins : List (Addr × Obj)} {σ : St} {H : Hp} {s : Shared} {E : Value → Shared → Prop}
theorem Inv.wish (I : Inv X pins σ H s) (E : Value → Shared → Prop) : Inv (X.wish E) pins σ H s := ⟨I.ok.wish E, I.os, I.bare, I.base, I.loc, I.cell, I.free, I.freeC, I.pin, I.hok, I.len⟩
theorem Inv.unwish (I : Inv (X.wish E) pins σ H s) : Inv X pins σ H s := ⟨I.ok.unwish, I.os, I.bare, I.base, I.loc, I.cell, I.free, I.freeC, I.pin, I.hok, I.len⟩
theorem SP.unwish {D : Ends} {f : Flow} {s' : Shared} (h : SP (X.wish E) pins D f s') : SP X pins D f s' := by
  cases f with
  | next => obtain ⟨σ', H', I, q⟩ := h; exact ⟨σ', H', I.unwish, q⟩
  | brk => obtain ⟨σ', H', I, q⟩ := h; exact ⟨σ', H', I.unwish, q⟩
  | cont => obtain ⟨σ', H', I, q⟩ := h; exact ⟨σ', H', I.unwish, q⟩
  | ret u => obtain ⟨v, σ', H', I, r, q⟩ := h; exact ⟨v, σ', H', I.unwish, r, q⟩
theorem PSs.nox {st : List Stmt} {t : TS} (h : PSs X.nox st t) : PSs X st t := fun pins s σ H D I hw =>
  wpAny_mono (h pins s σ H D (I.wish _) hw) (fun _ _ q => q.unwish) fun _ _ z => False.elim z
end

section
variable {X : Cx} {st : Stmt} {rest : List Stmt} {t u : TS} {e : Expr} {te : TE} {pos : Pos}
def tNext : TS := fun D σ H => D.nx σ H
def tSeq (t u : TS) : TS := fun D σ H => t { D with nx := u D } σ H
theorem pss_nil : PSs X [] tNext := fun _ _ σ H _ I h => wpAny_execs_nil ⟨σ, H, I, h⟩
theorem pss_cons (h1 : PS X st t) (h2 : PSs X rest u) : PSs X (st :: rest) (tSeq t u) := by
  intro pins s σ H D I h
  refine wpAny_execs_cons (thn (h1 pins s σ H { D with nx := u D } I h) fun f s1 q => ?_)
  cases f with
  | next =>
    obtain ⟨σ', H', I', q⟩ := q
    exact h2 pins s1 σ' H' D I' q
  | ret v => exact q
  | brk => exact q
  | cont => exact q
theorem pss_one (h1 : PS X st t) : PSs X [st] t := by
  intro pins s σ H D I h
  refine wpAny_execs_cons (thn (h1 pins s σ H D I h) fun f s1 q => ?_)
  cases f with
  | next => exact wpAny_execs_nil q
  | ret v => exact q
  | brk => exact q
  | cont => exact q
theorem Inv.quiet {pins : List (Addr × Obj)} {σ : St} {H : Hp} {s : Shared} (I : Inv X pins σ H s) : interactive X.env = false := by simp [interactive, I.ok.kind]
def tDrop (te : TE) : TS := fun D σ H => te σ H fun _ H1 => D.nx σ H1
theorem ps_expr (he : PE X e te) (hs : swapsWith e none pos.line X.env = pure false := by rfl) : PS X (.Expr e pos) (tDrop te) := by
  intro pins s σ H D I h
  exact wpAny_Expr_any (thn (he pins s σ H _ I h) fun v s1 ⟨x, H1, I1, r1, q1⟩ => ⟨σ, H1, I1, q1⟩) I.quiet hs
def tRet (te : TE) : TS := fun D σ H => te σ H D.rt
theorem ps_ret (he : PE X e te) : PS X (.Return (some e) pos) (tRet te) := by
  intro pins s σ H D I h
  exact wpAny_Return_some (thn (he pins s σ H _ I h) fun v s1 ⟨x, H1, I1, r1, q1⟩ => ⟨x, σ, H1, I1, r1, q1⟩)
def tIfS (c : TT) (t u : TS) : TS := fun D σ H => c σ H fun b H1 => if b = true then t D σ H1 else u D σ H1
theorem ps_if {c : Expr} {a b : List Stmt} {tc : TT} (hc : PT X c tc) (ha : PSs X a t) (hb : PSs X b u) : PS X (.If c a b pos) (tIfS tc t u) := by
  intro pins s σ H D I h
  refine wpAny_If (thn (hc pins s σ H _ I h) fun d s1 ⟨H1, I1, q1⟩ => ?_)
  cases d with
  | true => exact ha pins s1 σ H1 D I1 q1
  | false => exact hb pins s1 σ H1 D I1 q1
end

abbrev TG := V → St → Hp → (St → Hp → Prop) → Prop
abbrev TGs := List V → St → Hp → (St → Hp → Prop) → Prop
def PG (X : Cx) (target : Expr) (t : TG) : Prop :=
  ∀ (pins : List (Addr × Obj)) (s : Shared) (σ : St) (H : Hp) (v : V) (u : Value) (Q : St → Hp → Prop), Inv X pins σ H s → RelV v u → t v σ H Q →
    wpAny (model X.prog X.w) X.A (assign target X.env u) (fun _ s' => ∃ σ' H', Inv X pins σ' H' s' ∧ Q σ' H') X.xe s
def PGs (X : Cx) (ts : List Expr) (t : TGs) : Prop :=
  ∀ (pins : List (Addr × Obj)) (s : Shared) (σ : St) (H : Hp) (vs : List V) (us : List Value) (Q : St → Hp → Prop), Inv X pins σ H s → Vals vs us → t vs σ H Q →
    wpAny (model X.prog X.w) X.A (assignInOrder ((assignEach ts X.env).map (·.2)) us) (fun _ s' => ∃ σ' H', Inv X pins σ' H' s' ∧ Q σ' H') X.xe s
section
variable {X : Cx} {pos : Pos}
def gName (i : Nat) : TG := fun v σ H Q => Q (σ.set i (some v)) H
theorem pg_name {i : Nat} {x : Str} (hN : X.N.Nodup) (hi : X.N[i]? = some x) (hx : Loc X.env.scope x) (hf : X.fn x = true ∨ X.env.scope.names.lookup x = some .local := by first | exact .inl rfl | exact .inr rfl | assumption) : PG X (.Name x pos) (gName i) := by
  intro pins s σ H v u Q I r h
  exact wpAny_assign_Name (store_ok I hN hi hx r (fun s' I' => ⟨_, H, I', h⟩) hf)
def tAsg (te : TE) (g : TG) : TS := fun D σ H => te σ H fun x H1 => g x σ H1 D.nx
theorem ps_set {i : Nat} {x : Str} {e : Expr} {te : TE} {pos' : Pos} (hN : X.N.Nodup) (hi : X.N[i]? = some x) (hx : Loc X.env.scope x) (he : PE X e te) (hs : swapsWith e (some (.Name x pos')) pos.line X.env = pure false := by rfl) (hf : X.fn x = true ∨ X.env.scope.names.lookup x = some .local := by first | exact .inl rfl | exact .inr rfl | assumption) :
    PS X (.Assign [.Name x pos'] e pos) (tAsg te (gName i)) := by
  intro pins s σ H D I h
  refine wpAny_Assign_Name (thn (he pins s σ H _ I h) fun v s1 ⟨y, H1, I1, r1, q1⟩ => ?_) hs
  exact store_ok I1 hN hi hx r1 (fun s2 I2 => ⟨_, H1, I2, q1⟩) hf
end

section
variable {X : Cx} {pos : Pos}
end

structure It where
  go : Nat → Hp → Prop
  yld : Nat → Hp → V → Hp → Prop
  stop : Nat → Hp → Prop
def FpOk (X : Cx) (pins : List (Addr × Obj)) (H : Hp) (b : Addr) : Prop :=
  H b = none ∧ b ≠ X.env.locals ∧ b ∉ X.fs ∧ (b ∈ X.ex ∨ X.s₀.heap.objs.size ≤ b) ∧ (∀ x c, X.env.cells.lookup x = some c → c ≠ b) ∧ ∀ p ∈ X.pn ++ pins, p.1 ≠ b
theorem Inv.fpOk {X : Cx} {pins : List (Addr × Obj)} {σ : St} {H H' : Hp} {s : Shared} {b : Addr} (I : Inv X pins σ H s) (hb : s.heap.objs.size ≤ b) (hn : H' b = none) : FpOk X pins H' b := by
  refine ⟨hn, Nat.ne_of_gt (Nat.lt_of_lt_of_le I.lt hb), I.nofs hb, .inr (Nat.le_trans I.sz hb), fun x c e z => ?_, fun p hp z => ?_⟩
  · obtain ⟨v, q⟩ := I.cell x c e
    exact absurd (Nat.lt_of_lt_of_le q.lt (by rw [z]; exact hb)) (Nat.lt_irrefl _)
  · exact absurd (Nat.lt_of_lt_of_le (Heap.lt_size (I.pin p hp).1) (by rw [z]; exact hb)) (Nat.lt_irrefl _)
structure Turn (P : Program) (w : World) (K : PySem.W.Frag) (tg : Expr) (J : It) (fp : List Addr) (it : Addr) (tn : Nat → Heap → Prop) : Prop where
  mem : it ∈ fp
  obj : ∀ i h, tn i h → ∀ b ∈ fp, ∃ o, h.get? b = some o ∧ ∀ v, o.data ≠ .cell v
  keep : ∀ i h h', tn i h → (∀ b ∈ fp, ∀ o, h.get? b = some o → h'.get? b = some o) → tn i h'
  item : ∀ (X : Cx), X.prog = P → X.w = w → X.K = K → X.calm = true → ∀ (i : Nat) (pins : List (Addr × Obj)) (s : Shared) (σ : St) (H : Hp) (E : Value → Shared → Prop), Inv X pins σ H s → (∀ b ∈ fp, FpOk X pins H b) → tn i s.heap → J.go i H →
    wpAny (model P w) X.A (pyNext (.ref it)) (fun r s1 => ∃ u, r = some u ∧
      wpAny (model P w) X.A (letOwnedTupleGo tg (.ref it) u) (fun _ s2 => ∃ x H', Inv X pins σ H' s2 ∧ RelV x u ∧ J.yld i H x H' ∧ tn (i + 1) s2.heap ∧ ∀ b ∈ fp, H' b = none) E s1) E s
  done : ∀ (X : Cx), X.prog = P → X.w = w → X.K = K → X.calm = true → ∀ (i : Nat) (pins : List (Addr × Obj)) (s : Shared) (σ : St) (H : Hp) (E : Value → Shared → Prop), Inv X pins σ H s → (∀ b ∈ fp, FpOk X pins H b) → tn i s.heap → J.stop i H →
    wpAny (model P w) X.A (pyNext (.ref it)) (fun r s1 => r = none ∧ Inv X pins σ H s1) E s
  self : ∀ (A : Around) (i : Nat) (s : Shared) (Q : Value → Shared → Prop) (E : Value → Shared → Prop), tn i s.heap → Q (.ref it) s → wpAny (model P w) A (pyIter (.ref it)) Q E s
abbrev TI := St → Hp → (It → Hp → Prop) → Prop
def PIE (X : Cx) (pins : List (Addr × Obj)) (σ : St) (tg : Expr) (R : It → Hp → Prop) (itv : Value) (s2 : Shared) : Prop :=
  ∃ (it : Addr) (fp : List Addr) (tn : Nat → Heap → Prop) (J : It) (H' : Hp), itv = .ref it ∧ Inv X pins σ H' s2 ∧ Turn X.prog X.w X.K tg J fp it tn ∧ tn 0 s2.heap ∧ (∀ b ∈ fp, FpOk X pins H' b) ∧ R J H'
def PI (X : Cx) (tg iter : Expr) (wi : TI) : Prop :=
  ∀ (pins : List (Addr × Obj)) (s : Shared) (σ : St) (H : Hp) (R : It → Hp → Prop), Inv X pins σ H s → wi σ H R →
    wpAny (model X.prog X.w) X.A (eval iter X.env) (fun v s1 => wpAny (model X.prog X.w) X.A (pyIter v) (PIE X pins σ tg R) X.xe s1) X.xe s

theorem go_of {M : Model} {A : Around} {E : Value → Shared → Prop} {s : Shared} {tg : Expr} {it : Addr} {u : Value} {o : Obj} {n : String} {vs : Array Value} {Q : Unit → Shared → Prop} (ho : s.heap.get? it = some o) (hc : o.cls = .type n) (hd : o.data = .fields vs)
    (hn : ["enumerate", "zip", "dict_itemiterator", "dict_reverseitemiterator", "odict_iterator", "itertools.zip_longest", "itertools.pairwise"].contains n = false) (hQ : Q () s) : wpAny M A (letOwnedTupleGo tg (.ref it) u) Q E s := by
  unfold letOwnedTupleGo
  cases tg <;> first
    | exact wpAny_pure hQ
    | (cases u <;> first
        | exact wpAny_pure hQ
        | (refine wpAny_bind (wpAny_load ho ?_)
           rw [hc, hd]
           show wpAny M A (if (["enumerate", "zip", "dict_itemiterator", "dict_reverseitemiterator", "odict_iterator", "itertools.zip_longest", "itertools.pairwise"].contains n && vs[0]? == some (rawInt _)) = true then _ else _) Q E s
           rw [if_neg (by intro h; rw [hn, Bool.false_and] at h; cases h)]
           exact wpAny_pure hQ))

def Itl (K : PySem.W.Frag) (a : Addr) : It :=
  ⟨fun i H => ∃ xs x, SqL K H a xs ∧ xs[i]? = some x, fun i H x H' => H' = H ∧ ∀ xs, SqL K H a xs → xs[i]? = some x, fun i H => ∃ xs, SqL K H a xs ∧ xs.length ≤ i⟩
def Itr (lo : Int) (n : Nat) : It := ⟨fun i _ => i < n, fun i H x H' => H' = H ∧ x = .int (lo + i), fun i _ => n ≤ i⟩
theorem turn_list {P : Program} {w : World} {K : PySem.W.Frag} {tg : Expr} (a it : Addr) : Turn P w K tg (Itl K a) [it] it (fun i h => h.IsListIter it a i) where
  mem := by simp
  obj := fun i h st b hb => by
    have e : b = it := by simpa using hb
    subst e
    obtain ⟨o, e, c, d⟩ := st
    exact ⟨o, e, fun v z => by rw [d] at z; cases z⟩
  keep := fun i h h' st k => st.at fun o e => k it (by simp) o e
  item := by
    intro X hP hw hK hc i pins s σ H E I hf st hg
    subst hP hw hK
    obtain ⟨xs, x, hq, hx⟩ := hg
    obtain ⟨its, rv, p, hz⟩ := I.list hq
    obtain ⟨u, hu, ru⟩ := rv.get hx
    obtain ⟨f0, f1, f2, f3, f4, f5⟩ := hf it (by simp)
    refine wpAny_pyNext_list_item st p.isList (x := u) (by simpa using hu) fun h' st' sb => ?_
    have I1 : Inv X pins σ H { s with heap := h' } := I.turned (t' := s.toks) (fun b o hb e => (sb.2 b hb).trans e) f0 f1 f3 f4 f5
    obtain ⟨o, e, c, d⟩ := id st'
    exact ⟨u, rfl, go_of (s := { s with heap := h' }) e c d (by decide) ⟨x, H, I1, ru, ⟨rfl, fun ys hy => by rw [I.list_inj hy hq]; exact hx⟩, st', fun b hb => (hf b hb).1⟩⟩
  done := by
    intro X hP hw hK hc i pins s σ H E I hf st hg
    subst hP hw hK
    obtain ⟨xs, hq, hx⟩ := hg
    obtain ⟨its, rv, p, hz⟩ := I.list hq
    obtain ⟨f0, f1, f2, f3, f4, f5⟩ := hf it (by simp)
    have hl := rv.length
    exact wpAny_pyNext_list_end (I.ok.hd hc) st p.isList (by simp; omega) fun h' eb => ⟨rfl, I.turned (t' := s.toks) (fun b o hb e => eb b o hb e) f0 f1 f3 f4 f5⟩
  self := fun _ _ _ _ _ st h => wpAny_pyIter_listiter st h
theorem turn_range {P : Program} {w : World} {K : PySem.W.Frag} {tg : Expr} (it : Addr) (lo : Int) (n : Nat) : Turn P w K tg (Itr lo n) [it] it (fun i h => IsRangeIter h it (lo + (i : Nat) * 1) ((n : Int) - (i : Nat)) 1) where
  mem := by simp
  obj := fun i h st b hb => by
    have e : b = it := by simpa using hb
    subst e
    exact ⟨_, st, fun v z => by
      have z' : Data.fields _ = Data.cell v := z
      cases z'⟩
  keep := fun i h h' st k => k it (by simp) _ st
  item := by
    intro X hP hw hK hc i pins s σ H E I hf st hg
    subst hP hw hK
    obtain ⟨f0, f1, f2, f3, f4, f5⟩ := hf it (by simp)
    have W := Walks.range (prog := X.prog) (w := X.w) (I.ok.hd hc) it lo 1 n
    refine W.item i s _ _ hg st fun v h' tk hv st' kk => ?_
    obtain ⟨t, rfl⟩ := hv
    have I1 : Inv X pins σ H { s with heap := h', toks := tk } := I.turned (fun b o hb e => kk b o (by simpa using hb) e) f0 f1 f3 f4 f5
    refine ⟨_, rfl, go_of (s := { s with heap := h', toks := tk }) (n := "range_iterator") st' rfl rfl (by decide) ⟨.int (lo + i), H, I1, ⟨t, ?_⟩, ⟨rfl, rfl⟩, st', fun b hb => (hf b hb).1⟩⟩
    rw [Int.mul_one]
  done := by
    intro X hP hw hK hc i pins s σ H E I hf st hg
    subst hP hw hK
    obtain ⟨f0, f1, f2, f3, f4, f5⟩ := hf it (by simp)
    exact wpAny_pyNext_range_end (I.ok.hd hc) st (by have : n ≤ i := hg; omega) fun h' eb => ⟨rfl, I.turned (t' := s.toks) (fun b o hb e => eb b o hb e) f0 f1 f3 f4 f5⟩
  self := fun _ _ _ _ _ st h => wpAny_pyIter_rangeiter st h
end L2

namespace L2
open PySem PySem.Spec PyProof.Rows
section
variable {X : Cx} {tg : Expr}
def iList (K : PySem.W.Frag) (tl : TE) : TI := fun σ H R => tl σ H fun x H1 => ∃ a, x = .ref a ∧ (∃ xs, SqL K H1 a xs) ∧ R (Itl K a) H1
theorem pi_list {l : Expr} {tl : TE} (hl : PE X l tl) : PI X tg l (iList X.K tl) := by
  intro pins s σ H R I h
  refine thn (hl pins s σ H _ I h) fun v s1 ⟨x, H1, I1, r1, q1⟩ => ?_
  obtain ⟨a, e, ⟨xs, hq⟩, q⟩ := q1
  subst e
  cases r1
  obtain ⟨its, rv, p, hz⟩ := I1.list hq
  refine wpAny_pyIter_list p.isList ?_
  refine ⟨s1.heap.objs.size, [s1.heap.objs.size], _, _, H1, rfl, I1.kept (t' := s1.toks) fun b o e => Heap.get?_push_of_some _ e, turn_list a _, ⟨_, Heap.get?_push_size _ rfl, rfl, rfl⟩, fun b hb => ?_, q⟩
  have e : b = s1.heap.objs.size := by simpa using hb
  subst e
  exact I1.fpOk (Nat.le_refl _) (I1.hok.fresh (Nat.le_refl _))
theorem range_it {pins : List (Addr × Obj)} {σ : St} {H : Hp} {s : Shared} {R : It → Hp → Prop} {E : Value → Shared → Prop} {lo hi : Int} {t u v : Tok} {tk : Nat} (I : Inv X pins σ H s) (h1 : -(2 ^ 62) ≤ lo) (h2 : lo < 2 ^ 62) (h3 : -(2 ^ 62) ≤ hi) (h4 : hi < 2 ^ 62)
    (q : R (Itr lo (hi - lo).toNat) H) : wpAny (model X.prog X.w) X.A (pyIter (.ref s.heap.objs.size)) (PIE X pins σ tg R) E { s with heap := s.heap.push { cls := .type "range", data := .fields #[.int lo t, .int hi u, .int 1 v] }, toks := tk } := by
  refine wpAny_pyIter_range (IsRange.new ..) (small_one h1 h2 h3 h4) ?_
  have I1 : Inv X pins σ H { s with heap := s.heap.push { cls := .type "range", data := .fields #[.int lo t, .int hi u, .int 1 v] }, toks := tk } := I.kept fun b o e => Heap.get?_push_of_some _ e
  refine ⟨(s.heap.push { cls := .type "range", data := .fields #[.int lo t, .int hi u, .int 1 v] }).objs.size, [(s.heap.push { cls := .type "range", data := .fields #[.int lo t, .int hi u, .int 1 v] }).objs.size], _, _, H, rfl,
    I1.kept (t' := tk) fun b o e => Heap.get?_push_of_some _ e, turn_range _ lo (hi - lo).toNat, ?_, fun b hb => ?_, q⟩
  · have e1 : lo + ((0 : Nat) : Int) * 1 = lo := by simp
    have e2 : (((hi - lo).toNat : Nat) : Int) - ((0 : Nat) : Int) = Builtin.Range.rangeSize lo hi 1 := by rw [rangeSize_one]; split <;> omega
    show IsRangeIter _ _ (lo + ((0 : Nat) : Int) * 1) ((((hi - lo).toNat : Nat) : Int) - ((0 : Nat) : Int)) 1
    rw [e1, e2]
    exact Heap.get?_push_size _ rfl
  · have e : b = (s.heap.push { cls := .type "range", data := .fields #[.int lo t, .int hi u, .int 1 v] }).objs.size := by simpa using hb
    subst e
    exact I1.fpOk (Nat.le_refl _) (I1.hok.fresh (Nat.le_refl _))
def iRng1 (ta : TA) : TI := fun σ H R => ta σ H fun vs H1 => ∃ j : Int, vs = [.int j] ∧ -(2 ^ 62) ≤ j ∧ j < 2 ^ 62 ∧ R (Itr 0 j.toNat) H1
theorem pi_range1 {a : Expr} {ta : TA} {p pos : Pos} (hg : Gl X "range") (hm : X.mg "range" = none) (ha : PA X [a] ta) (hs : starEach [a] X.env = [(false, eval a X.env)] := by rfl) : PI X tg (.Call (.Name "range" p) [a] [] pos) (iRng1 ta) := by
  intro pins s σ H R I h
  refine Call_ (ld_blt I hg hm boot_range (PyProof.Rows.callWith_type1 (thn (ha pos pins s σ H _ I h) fun us s1 ⟨vs, H1, I1, r1, q1⟩ => ?_) hs rfl))
  obtain ⟨j, e, q1, q2, q⟩ := q1
  subst e
  cases r1 with
  | cons r rr =>
    cases rr
    obtain ⟨t, rfl⟩ := r
    exact call_range_1 (range_it I1 (by omega) (by omega) q1 q2 (by simpa using q))
def tFor (wi : TI) (g : TG) (tb : TS) : TS := fun D σ H => wi σ H fun J H1 => ∃ W : Nat → Nat → St → Hp → Prop, (∃ m, W 0 m σ H1) ∧ ∀ i m σ H, W i m σ H →
  (J.stop i H ∧ D.nx σ H) ∨ (J.go i H ∧ ∃ N : St → Hp → Prop, (∀ σ' H', N σ' H' → ∃ m', m' < m ∧ W (i + 1) m' σ' H') ∧ ∀ x H', J.yld i H x H' → g x σ H' fun σ2 H2 => tb { D with nx := N, ct := N, bk := D.nx } σ2 H2)
def pinsAt (fp : List Addr) (h : Heap) : List (Addr × Obj) := fp.filterMap fun b => (h.get? b).map fun o => (b, o)
theorem mem_pinsAt {fp : List Addr} {h : Heap} {b : Addr} {o : Obj} (hb : b ∈ fp) (e : h.get? b = some o) : (b, o) ∈ pinsAt fp h := List.mem_filterMap.mpr ⟨b, hb, by rw [e]; rfl⟩
theorem of_pinsAt {fp : List Addr} {h : Heap} {p : Addr × Obj} (hp : p ∈ pinsAt fp h) : p.1 ∈ fp ∧ h.get? p.1 = some p.2 := by
  obtain ⟨b, hb, e⟩ := List.mem_filterMap.mp hp
  cases q : h.get? b with
  | none => rw [q] at e; cases e
  | some o =>
    rw [q] at e
    have e' : (b, o) = p := Option.some.inj e
    subst e'
    exact ⟨hb, q⟩
theorem Inv.pinned {pins : List (Addr × Obj)} {σ : St} {H : Hp} {s : Shared} {fp : List Addr} (I : Inv X pins σ H s) (hf : ∀ b ∈ fp, FpOk X pins H b) (ho : ∀ b ∈ fp, ∃ o, s.heap.get? b = some o ∧ ∀ v, o.data ≠ .cell v) : Inv X (pins ++ pinsAt fp s.heap) σ H s :=
  I.pins_of fun p hp => (List.mem_append.mp hp).elim (fun z => I.pin p (List.mem_append_right _ z)) fun z => by
    obtain ⟨hb, e⟩ := of_pinsAt z
    obtain ⟨f0, f1, f2, _⟩ := hf p.1 hb
    obtain ⟨o, e', d⟩ := ho p.1 hb
    rw [e] at e'; cases e'
    exact ⟨e, f0, f1, f2, d⟩
theorem Inv.unpinned {pins pl : List (Addr × Obj)} {σ : St} {H : Hp} {s : Shared} (I : Inv X (pins ++ pl) σ H s) : Inv X pins σ H s := I.pins_of fun p hp => I.pin p (List.mem_append_right _ (List.mem_append_left _ hp))
theorem ps_for {iter : Expr} {body : List Stmt} {wi : TI} {g : TG} {tb : TS} {pos : Pos} (hp : PassesOwn (model X.prog X.w) X.A X.env X.xe) (hc : X.calm = true) (hi : PI X tg iter wi) (hg : PG X tg g) (hb : PSs X body tb)
    (hs : ∀ x, foldedSetIterable iter X.env x = pure x := by intro _; rfl) : PS X (.For tg iter body [] pos) (tFor wi g tb) := by
  intro pins s σ H D I h
  refine wpAny_For (thn (hi pins s σ H _ I h) fun v s1 h1 => thn h1 fun itv s2 h2 => ?_) hs
  obtain ⟨it, fp, tn, J, H2, e, I2, T, st2, f2, W, ⟨m0, w0⟩, turn⟩ := h2
  subst e
  -- what stays true of the iterator's objects through the loop
  have stat : ∀ {H' : Hp}, (∀ b ∈ fp, H' b = none) → ∀ b ∈ fp, FpOk X pins H' b := fun hn b hb => ⟨hn b hb, (f2 b hb).2⟩
  refine codeAny_forLoop_any (fun n s' => ∃ i σ' H', Inv X pins σ' H' s' ∧ tn i s'.heap ∧ (∀ b ∈ fp, H' b = none) ∧ W i n σ' H') ?_ m0 ⟨0, σ, H2, I2, st2, fun b hb => (f2 b hb).1, w0⟩
  rintro n s3 ⟨i, σ3, H3, I3, st3, fr3, w3⟩
  rcases turn i n σ3 H3 w3 with ⟨stop, qn⟩ | ⟨go, N, hN, step⟩
  · refine wpAny_passesOwn hp (thn (T.done X rfl rfl rfl hc i pins s3 σ3 H3 X.xe I3 (stat fr3) st3 stop) fun r s4 ⟨hr, I4⟩ => ?_)
    subst hr
    exact wpAny_execs_nil ⟨σ3, H3, I4, qn⟩
  · refine wpAny_passesOwn hp (thn (T.item X rfl rfl rfl hc i pins s3 σ3 H3 X.xe I3 (stat fr3) st3 go) fun r s4 ⟨u, hr, h4⟩ => ?_)
    subst hr
    refine wpAny_passesOwn hp (thn h4 fun _ s5 ⟨x, H5, I5, r5, y5, st5, fr5⟩ => ?_)
    have I5' := I5.pinned (stat fr5) (T.obj _ _ st5)
    refine wpAny_passesOwn hp (thn (hg _ s5 σ3 H5 x u _ I5' r5 (step x H5 y5)) fun _ s6 ⟨σ6, H6, I6, q6⟩ => ?_)
    refine wpAny_passesOwn hp (thn (hb _ s6 σ6 H6 _ I6 q6) fun f s7 q7 => ?_)
    have again : ∀ {σ7 : St} {H7 : Hp}, Inv X (pins ++ pinsAt fp s5.heap) σ7 H7 s7 → N σ7 H7 → ∃ m, m < n ∧ ∃ i σ' H', Inv X pins σ' H' s7 ∧ tn i s7.heap ∧ (∀ b ∈ fp, H' b = none) ∧ W i m σ' H' := fun {σ7 H7} I7 n7 => by
      obtain ⟨m', hm, w7⟩ := hN σ7 H7 n7
      refine ⟨m', hm, i + 1, σ7, H7, I7.unpinned, T.keep _ _ _ st5 fun b hb o e => (I7.pin (b, o) (List.mem_append_right _ (List.mem_append_right _ (mem_pinsAt hb e)))).1, fun b hb => ?_, w7⟩
      obtain ⟨o, e, d⟩ := T.obj _ _ st5 b hb
      exact (I7.pin (b, o) (List.mem_append_right _ (List.mem_append_right _ (mem_pinsAt hb e)))).2.1
    cases f with
    | next => obtain ⟨σ7, H7, I7, n7⟩ := q7; exact again I7 n7
    | cont => obtain ⟨σ7, H7, I7, n7⟩ := q7; exact again I7 n7
    | brk => obtain ⟨σ7, H7, I7, q7⟩ := q7; exact ⟨σ7, H7, I7.unpinned, q7⟩
    | ret v => obtain ⟨x7, σ7, H7, I7, r7, q7⟩ := q7; exact ⟨x7, σ7, H7, I7.unpinned, r7, q7⟩
end

theorem for_list {K : PySem.W.Frag} {a : Addr} {xs : List V} {g : TG} {tb : TS} {D : Ends} {σ : St} {H : Hp} (Pv : Nat → St → Hp → Prop) (h0 : Pv 0 σ H) (hl : ∀ i σ H, i ≤ xs.length → Pv i σ H → SqL K H a xs)
    (hs : ∀ i x σ H, xs[i]? = some x → Pv i σ H → g x σ H fun σ2 H2 => tb { D with nx := Pv (i + 1), ct := Pv (i + 1), bk := D.nx } σ2 H2) (hd : ∀ σ H, Pv xs.length σ H → D.nx σ H) :
    ∃ W : Nat → Nat → St → Hp → Prop, (∃ m, W 0 m σ H) ∧ ∀ i m σ H, W i m σ H →
      ((Itl K a).stop i H ∧ D.nx σ H) ∨ ((Itl K a).go i H ∧ ∃ N : St → Hp → Prop, (∀ σ' H', N σ' H' → ∃ m', m' < m ∧ W (i + 1) m' σ' H') ∧ ∀ x H', (Itl K a).yld i H x H' → g x σ H' fun σ2 H2 => tb { D with nx := N, ct := N, bk := D.nx } σ2 H2) := by
  refine ⟨fun i m σ H => m = xs.length - i ∧ i ≤ xs.length ∧ Pv i σ H, ⟨xs.length, by simp, Nat.zero_le _, h0⟩, ?_⟩
  rintro i m σ H ⟨rfl, hi, p⟩
  have q := hl i σ H hi p
  by_cases hlt : i < xs.length
  · refine .inr ⟨⟨xs, xs[i], q, by simp [hlt]⟩, Pv (i + 1), fun σ' H' p' => ⟨xs.length - (i + 1), by omega, rfl, hlt, p'⟩, fun x H' y => ?_⟩
    obtain ⟨e, y⟩ := y
    subst e
    exact hs i x σ _ (y xs q) p
  · have e : i = xs.length := by omega
    subst e
    exact .inl ⟨⟨xs, q, Nat.le_refl _⟩, hd σ H p⟩
theorem for_range {lo : Int} {n : Nat} {g : TG} {tb : TS} {D : Ends} {σ : St} {H : Hp} (Pv : Nat → St → Hp → Prop) (h0 : Pv 0 σ H)
    (hs : ∀ i σ H, i < n → Pv i σ H → g (.int (lo + i)) σ H fun σ2 H2 => tb { D with nx := Pv (i + 1), ct := Pv (i + 1), bk := D.nx } σ2 H2) (hd : ∀ σ H, Pv n σ H → D.nx σ H) :
    ∃ W : Nat → Nat → St → Hp → Prop, (∃ m, W 0 m σ H) ∧ ∀ i m σ H, W i m σ H →
      ((Itr lo n).stop i H ∧ D.nx σ H) ∨ ((Itr lo n).go i H ∧ ∃ N : St → Hp → Prop, (∀ σ' H', N σ' H' → ∃ m', m' < m ∧ W (i + 1) m' σ' H') ∧ ∀ x H', (Itr lo n).yld i H x H' → g x σ H' fun σ2 H2 => tb { D with nx := N, ct := N, bk := D.nx } σ2 H2) := by
  refine ⟨fun i m σ H => m = n - i ∧ i ≤ n ∧ Pv i σ H, ⟨n, by simp, Nat.zero_le _, h0⟩, ?_⟩
  rintro i m σ H ⟨rfl, hi, p⟩
  by_cases hlt : i < n
  · refine .inr ⟨hlt, Pv (i + 1), fun σ' H' p' => ⟨n - (i + 1), by omega, rfl, hlt, p'⟩, fun x H' y => ?_⟩
    obtain ⟨e, y⟩ := y
    subst e y
    exact hs i σ _ hlt p
  · have e : i = n := by omega
    subst e
    exact .inl ⟨Nat.le_refl _, hd σ H p⟩
end L2

namespace L2
open PySem PySem.Spec PyProof.Rows

abbrev R2 := V → V → Hp → VK → Prop
def OpR (X : Cx) (f : Value → Value → Sem Value) (r : R2) : Prop :=
  ∀ (pins : List (Addr × Obj)) (s : Shared) (σ : St) (H : Hp) (x y : V) (v u : Value) (Q : VK), Inv X pins σ H s → RelV x v → RelV y u → r x y H Q →
    wpAny (model X.prog X.w) X.A (f v u) (EP X pins σ Q) X.xe s
def UnR (X : Cx) (f : Value → Sem Value) (r : V → Hp → VK → Prop) : Prop :=
  ∀ (pins : List (Addr × Obj)) (s : Shared) (σ : St) (H : Hp) (x : V) (v : Value) (Q : VK), Inv X pins σ H s → RelV x v → r x H Q →
    wpAny (model X.prog X.w) X.A (f v) (EP X pins σ Q) X.xe s
def CallR (X : Cx) (f : Value) (r : List V → Hp → VK → Prop) : Prop :=
  ∀ (pins : List (Addr × Obj)) (s : Shared) (σ : St) (H : Hp) (xs : List V) (us : List Value) (Q : VK), Inv X pins σ H s → Vals xs us → r xs H Q →
    wpAny (model X.prog X.w) X.A (call f us) (EP X pins σ Q) X.xe s
def tOp (r : R2) (ta tb : TE) : TE := fun σ H Q => ta σ H fun x H1 => tb σ H1 fun y H2 => r x y H2 Q
def tUn (r : V → Hp → VK → Prop) (ta : TE) : TE := fun σ H Q => ta σ H fun x H1 => r x H1 Q
def rI (C : Int → Int → Prop) (g : Int → Int → V) : R2 := fun x y H Q => ∃ i j, x = .int i ∧ y = .int j ∧ C i j ∧ Q (g i j) H
def rI0 (g : Int → Int → V) : R2 := fun x y H Q => ∃ i j, x = .int i ∧ y = .int j ∧ Q (g i j) H
def rU (g : Int → V) : V → Hp → VK → Prop := fun x H Q => ∃ i, x = .int i ∧ Q (g i) H

section
variable {X : Cx} {a b c : Expr} {ta tb tc : TE} {pos : Pos}

theorem binT (ha : PE X a ta) (hb : PE X b tb) {pins : List (Addr × Obj)} {s : Shared} {σ : St} {H : Hp} {R : V → V → Hp → Prop} (I : Inv X pins σ H s)
    (h : ta σ H fun x H1 => tb σ H1 fun y H2 => R x y H2) {Q : Value → Shared → Prop} {f : Value → Value → Sem Value}
    (hf : ∀ v u s2 x y H2, Inv X pins σ H2 s2 → RelV x v → RelV y u → R x y H2 → wpAny (model X.prog X.w) X.A (f v u) Q X.xe s2) :
    wpAny (model X.prog X.w) X.A (eval a X.env) (fun v s₁ => wpAny (model X.prog X.w) X.A (eval b X.env) (fun u s₂ => wpAny (model X.prog X.w) X.A (f v u) Q X.xe s₂) X.xe s₁) X.xe s := by
  refine thn (ha pins s σ H _ I h) fun v s1 ⟨x, H1, I1, r1, q1⟩ => ?_
  refine thn (hb pins s1 σ H1 _ I1 q1) fun u s2 ⟨y, H2, I2, r2, q2⟩ => ?_
  exact hf v u s2 x y H2 I2 r1 r2 q2

theorem pe_op {op : Operator} {r : R2} (ho : OpR X (binaryOp op) r) (ha : PE X a ta) (hb : PE X b tb) : PE X (.BinOp a op b pos) (tOp r ta tb) := by
  intro pins s σ H Q I h
  exact wpAny_BinOp (binT ha hb I h fun v u s2 x y H2 I2 rx ry q => ho pins s2 σ H2 x y v u Q I2 rx ry q)
theorem pe_un {op : UnaryOp} {r : V → Hp → VK → Prop} (ho : UnR X (unaryOp op) r) (ha : PE X a ta) : PE X (.UnaryOp op a pos) (tUn r ta) := by
  intro pins s σ H Q I h
  exact UnaryOp_ (thn (ha pins s σ H _ I h) fun v s1 ⟨x, H1, I1, r1, q1⟩ => ho pins s1 σ H1 x v Q I1 r1 q1)
theorem opI {f : Value → Value → Sem Value} {C : Int → Int → Prop} {g : Int → Int → Int}
    (rule : ∀ (i j : Int) (t u : Tok) (s : Shared) (Q : Value → Shared → Prop) (E : Value → Shared → Prop), C i j → Q (.int (g i j) s.toks) { s with toks := s.toks + 1 } → wpAny (model X.prog X.w) X.A (f (.int i t) (.int j u)) Q E s) :
    OpR X f (rI C fun i j => .int (g i j)) := by
  intro pins s σ H x y v u Q I rx ry h
  obtain ⟨i, j, rfl, rfl, hc, q⟩ := h
  obtain ⟨t, rfl⟩ := rx
  obtain ⟨t', rfl⟩ := ry
  exact rule i j t t' s _ _ hc ⟨.int (g i j), H, I.tok _, ⟨_, rfl⟩, q⟩
theorem opI0 {f : Value → Value → Sem Value} {g : Int → Int → Int}
    (rule : ∀ (i j : Int) (t u : Tok) (s : Shared) (Q : Value → Shared → Prop) (E : Value → Shared → Prop), Q (.int (g i j) s.toks) { s with toks := s.toks + 1 } → wpAny (model X.prog X.w) X.A (f (.int i t) (.int j u)) Q E s) :
    OpR X f (rI0 fun i j => .int (g i j)) := by
  intro pins s σ H x y v u Q I rx ry h
  obtain ⟨i, j, rfl, rfl, q⟩ := h
  obtain ⟨t, rfl⟩ := rx
  obtain ⟨t', rfl⟩ := ry
  exact rule i j t t' s _ _ ⟨.int (g i j), H, I.tok _, ⟨_, rfl⟩, q⟩
theorem opB0 {f : Value → Value → Sem Value} {g : Int → Int → Bool}
    (rule : ∀ (i j : Int) (t u : Tok) (s : Shared) (Q : Value → Shared → Prop) (E : Value → Shared → Prop), Q (.bool (g i j)) s → wpAny (model X.prog X.w) X.A (f (.int i t) (.int j u)) Q E s) :
    OpR X f (rI0 fun i j => .bl (g i j)) := by
  intro pins s σ H x y v u Q I rx ry h
  obtain ⟨i, j, rfl, rfl, q⟩ := h
  obtain ⟨t, rfl⟩ := rx
  obtain ⟨t', rfl⟩ := ry
  exact rule i j t t' s _ _ ⟨.bl (g i j), H, I, rfl, q⟩

def CDiv (i j : Int) : Prop := 0 < j ∧ j < 1073741824
def CPow (i j : Int) : Prop := 0 ≤ j ∧ j ≤ 1000000 ∧ i.natAbs < 2 ^ 64
def CMul (i j : Int) : Prop := (-(2 ^ 64) < i ∧ i < 2 ^ 64) ∨ (-(2 ^ 64) < j ∧ j < 2 ^ 64)
theorem CMul.ok {i j : Int} (h : CMul i j) : IntMulOk i j := by
  rcases h with ⟨h1, h2⟩ | ⟨h1, h2⟩
  · exact .of_left (intBits_le_64 h1 h2)
  · exact .of_right (intBits_le_64 h1 h2)
theorem op_add : OpR X (binaryOp .Add) (rI0 fun i j => .int (i + j)) := opI0 fun _ _ _ _ _ _ _ q => add_int q
theorem op_sub : OpR X (binaryOp .Sub) (rI0 fun i j => .int (i - j)) := opI0 fun _ _ _ _ _ _ _ q => sub_int q
theorem op_mul : OpR X (binaryOp .Mult) (rI CMul fun i j => .int (i * j)) := opI fun _ _ _ _ _ _ _ hc q => mul_int q hc.ok
theorem op_fdiv : OpR X (binaryOp .FloorDiv) (rI CDiv fun i j => .int (i / j)) := opI fun i j _ _ _ _ _ hc q => by
  have h1 : (0 : Int) < j := hc.1
  have h2 : j < 1073741824 := hc.2
  exact floordiv_int (by omega) (by rw [Int.fdiv_eq_ediv_of_nonneg i (by omega)]; exact q) (.inl (PyProof.noPylong_small (by omega)))
theorem op_mod : OpR X (binaryOp .Mod) (rI (fun _ j => 0 < j) fun i j => .int (i % j)) := opI fun i j _ _ _ _ _ hc q => by
  have h1 : (0 : Int) < j := hc
  exact mod_int' (by omega) (by rw [Int.fmod_eq_emod_of_nonneg i (by omega)]; exact q)
theorem op_pow : OpR X (binaryOp .Pow) (rI CPow fun i j => .int (i ^ j.toNat)) := opI fun _ _ _ _ _ _ _ hc q => pow_int_small hc.1 hc.2.1 hc.2.2 q
theorem unI {f : Value → Sem Value} {g : Int → Int}
    (rule : ∀ (i : Int) (t : Tok) (s : Shared) (Q : Value → Shared → Prop) (E : Value → Shared → Prop), Q (.int (g i) s.toks) { s with toks := s.toks + 1 } → wpAny (model X.prog X.w) X.A (f (.int i t)) Q E s) :
    UnR X f (rU fun i => .int (g i)) := by
  intro pins s σ H x v Q I rx h
  obtain ⟨i, rfl, q⟩ := h
  obtain ⟨t, rfl⟩ := rx
  exact rule i t s _ _ ⟨.int (g i), H, I.tok _, ⟨_, rfl⟩, q⟩
theorem un_neg : UnR X (unaryOp .USub) (rU fun i => .int (-i)) := unI fun _ _ _ _ _ q => neg_int q
end

def scal : V → V → Bool
  | .non, .non => true | .non, .int _ => true | .int _, .non => true | .non, .bl _ => true | .bl _, .non => true | .non, .str _ => true | .str _, .non => true
  | .int _, .int _ => true | .bl _, .bl _ => true | .str _, .str _ => true | .byt _, .byt _ => true
  | .int _, .str _ => true | .str _, .int _ => true | .bl _, .str _ => true | .str _, .bl _ => true
  | _, _ => false
def rEq : R2 := fun x y H Q => scal x y = true ∧ Q (.bl (decide (x = y))) H
def rNe : R2 := fun x y H Q => scal x y = true ∧ Q (.bl (!decide (x = y))) H

theorem dec_int {i j : Int} : decide (V.int i = V.int j) = (i == j) := by
  rw [Bool.eq_iff_iff]
  simp
theorem dec_bl {i j : Bool} : decide (V.bl i = V.bl j) = (i == j) := by
  rw [Bool.eq_iff_iff]
  simp
theorem dec_str {i j : Str} : decide (V.str i = V.str j) = (i == j) := by
  rw [Bool.eq_iff_iff]
  simp
theorem dec_byt {i j : Array UInt8} : decide (V.byt i = V.byt j) = (i.toList == j.toList) := by
  rw [Bool.eq_iff_iff]
  cases i
  cases j
  simp

section
variable {X : Cx} {a b c : Expr} {ta tb tc : TE} {pos : Pos}
theorem fin_bl {pins : List (Addr × Obj)} {σ : St} {H : Hp} {s : Shared} {Q : VK} {k k' : Bool} (I : Inv X pins σ H s) (q : Q (.bl k) H) (e : k = k') : EP X pins σ Q (.bool k') s := by
  subst e
  exact ⟨.bl k, H, I, rfl, q⟩
theorem op_eq : OpR X (compareOp .Eq) rEq := by
  intro pins s σ H x y v u Q I rx ry h
  obtain ⟨hs, q⟩ := h
  cases x with
  | non =>
    cases rx
    cases y with
    | non => cases ry; exact PySem.EqNone.eq_none_none (fin_bl I q (by simp))
    | bl j => cases ry; exact PySem.EqNone.eq_none_bool (fin_bl I q (by simp))
    | int j => obtain ⟨t', rfl⟩ := ry; exact PySem.EqNone.eq_none_int (fin_bl I q (by simp))
    | str j => obtain ⟨t', rfl⟩ := ry; exact PySem.EqNone.eq_none_str (fin_bl I q (by simp))
    | _ => exact absurd (show false = true from hs) Bool.false_ne_true
  | bl i =>
    cases rx
    cases y with
    | non => cases ry; exact PySem.EqNone.eq_bool_none (fin_bl I q (by simp))
    | bl j => cases ry; exact eq_bool (fin_bl I q dec_bl)
    | str j => obtain ⟨t', rfl⟩ := ry; exact PySem.EqMixed.eq_bool_str (fin_bl I q (by simp))
    | _ => exact absurd (show false = true from hs) Bool.false_ne_true
  | int i =>
    obtain ⟨t, rfl⟩ := rx
    cases y with
    | non => cases ry; exact PySem.EqNone.eq_int_none (fin_bl I q (by simp))
    | int j => obtain ⟨t', rfl⟩ := ry; exact eq_int (fin_bl I q dec_int)
    | str j => obtain ⟨t', rfl⟩ := ry; exact PySem.EqMixed.eq_int_str (fin_bl I q (by simp))
    | _ => exact absurd (show false = true from hs) Bool.false_ne_true
  | str i =>
    obtain ⟨t, rfl⟩ := rx
    cases y with
    | non => cases ry; exact PySem.EqNone.eq_str_none (fin_bl I q (by simp))
    | bl j => cases ry; exact PySem.EqMixed.eq_str_bool (fin_bl I q (by simp))
    | int j => obtain ⟨t', rfl⟩ := ry; exact PySem.EqMixed.eq_str_int (fin_bl I q (by simp))
    | str j => obtain ⟨t', rfl⟩ := ry; exact eq_str (fin_bl I q dec_str)
    | _ => exact absurd (show false = true from hs) Bool.false_ne_true
  | byt i =>
    obtain ⟨t, rfl⟩ := rx
    cases y with
    | byt j => obtain ⟨t', rfl⟩ := ry; exact PySem.W.eq_bytes (fin_bl I q dec_byt)
    | _ => exact absurd (show false = true from hs) Bool.false_ne_true
  | _ => cases y <;> exact absurd (show false = true from hs) Bool.false_ne_true
theorem op_ne : OpR X (compareOp .NotEq) rNe := by
  intro pins s σ H x y v u Q I rx ry h
  obtain ⟨hs, q⟩ := h
  cases x with
  | non =>
    cases rx
    cases y with
    | non => cases ry; exact PySem.EqNone.ne_none_none (fin_bl I q (by simp))
    | bl j => cases ry; exact PySem.EqNone.ne_none_bool (fin_bl I q (by simp))
    | int j => obtain ⟨t', rfl⟩ := ry; exact PySem.EqNone.ne_none_int (fin_bl I q (by simp))
    | str j => obtain ⟨t', rfl⟩ := ry; exact PySem.EqNone.ne_none_str (fin_bl I q (by simp))
    | _ => exact absurd (show false = true from hs) Bool.false_ne_true
  | bl i =>
    cases rx
    cases y with
    | non => cases ry; exact PySem.EqNone.ne_bool_none (fin_bl I q (by simp))
    | bl j => cases ry; exact ne_bool (fin_bl I q (congrArg not dec_bl))
    | str j => obtain ⟨t', rfl⟩ := ry; exact PySem.EqMixed.ne_bool_str (fin_bl I q (by simp))
    | _ => exact absurd (show false = true from hs) Bool.false_ne_true
  | int i =>
    obtain ⟨t, rfl⟩ := rx
    cases y with
    | non => cases ry; exact PySem.EqNone.ne_int_none (fin_bl I q (by simp))
    | int j => obtain ⟨t', rfl⟩ := ry; exact ne_int (fin_bl I q (congrArg not dec_int))
    | str j => obtain ⟨t', rfl⟩ := ry; exact PySem.EqMixed.ne_int_str (fin_bl I q (by simp))
    | _ => exact absurd (show false = true from hs) Bool.false_ne_true
  | str i =>
    obtain ⟨t, rfl⟩ := rx
    cases y with
    | non => cases ry; exact PySem.EqNone.ne_str_none (fin_bl I q (by simp))
    | bl j => cases ry; exact PySem.EqMixed.ne_str_bool (fin_bl I q (by simp))
    | int j => obtain ⟨t', rfl⟩ := ry; exact PySem.EqMixed.ne_str_int (fin_bl I q (by simp))
    | str j => obtain ⟨t', rfl⟩ := ry; exact ne_str (fin_bl I q (congrArg not dec_str))
    | _ => exact absurd (show false = true from hs) Bool.false_ne_true
  | byt i =>
    obtain ⟨t, rfl⟩ := rx
    cases y with
    | byt j => obtain ⟨t', rfl⟩ := ry; exact PySem.W.ne_bytes (fin_bl I q (congrArg not dec_byt))
    | _ => exact absurd (show false = true from hs) Bool.false_ne_true
  | _ => cases y <;> exact absurd (show false = true from hs) Bool.false_ne_true

theorem op_lt : OpR X (compareOp .Lt) (rI0 fun i j => .bl (decide (i < j))) := opB0 fun _ _ _ _ _ _ _ q => lt_int q
theorem op_gt : OpR X (compareOp .Gt) (rI0 fun i j => .bl (decide (j < i))) := opB0 fun _ _ _ _ _ _ _ q => gt_int q
theorem op_lt_str : OpR X (compareOp .Lt) (fun x y H Q => ∃ i j, x = .str i ∧ y = .str j ∧ Q (.bl (decide (i.cps.toList < j.cps.toList))) H) := by
  intro pins s σ H x y v u Q I rx ry h
  obtain ⟨i, j, rfl, rfl, q⟩ := h
  obtain ⟨t, rfl⟩ := rx
  obtain ⟨t', rfl⟩ := ry
  exact lt_str (fin_bl I q rfl)
theorem op_in_str : OpR X (compareOp .In) (fun x y H Q => ∃ i j, x = .str i ∧ y = .str j ∧ Q (.bl (!(Builtin.Str.occurrences j i 0 j.length 1).isEmpty)) H) := by
  intro pins s σ H x y v u Q I rx ry h
  obtain ⟨i, j, rfl, rfl, q⟩ := h
  obtain ⟨t, rfl⟩ := rx
  obtain ⟨t', rfl⟩ := ry
  exact in_str (fin_bl I q rfl)

theorem nomark (b : Expr) {op : CmpOp} (h : op ≠ .In := by decide) (h2 : op ≠ .NotIn := by decide) : behindInMarks op b = false := by
  have e1 : (op == CmpOp.In) = false := by cases op <;> first | rfl | exact absurd rfl h
  have e2 : (op == CmpOp.NotIn) = false := by cases op <;> first | rfl | exact absurd rfl h2
  cases b <;> simp [behindInMarks, e1, e2]
def tTest (t : TE) : TT := fun σ H Q => t σ H fun x H' => ∃ k, x = .bl k ∧ Q k H'
theorem pt_cmpR {op : CmpOp} {r : R2} (ho : OpR X (compareOp op) r) (ha : PE X a ta) (hb : PE X b tb) (hm : behindInMarks op b = false) : PT X (.Compare a [op] [b] pos) (tTest (tOp r ta tb)) := by
  intro pins s σ H Q I h
  refine wpAny_isTrue_Compare1 (thn (ha pins s σ H _ I h) fun v s1 ⟨x, H1, I1, r1, q1⟩ => thn (hb pins s1 σ H1 _ I1 q1) fun u s2 ⟨y, H2, I2, r2, q2⟩ =>
    thn (ho pins s2 σ H2 x y v u _ I2 r1 r2 q2) fun c s3 ⟨z, H3, I3, r3, k, e, q3⟩ => ?_) hm
  subst e
  cases r3
  exact wpAny_truthy_bool ⟨H3, I3, q3⟩
theorem line63 : (sizeLine : Nat) < 2 ^ 63 := by rw [sizeLine_eq]; decide
theorem op_add_str : OpR X (binaryOp .Add) (fun x y H Q => ∃ i j, x = .str i ∧ y = .str j ∧ i.length + j.length ≤ sizeLine ∧ Q (.str (i ++ j)) H) := by
  intro pins s σ H x y v u Q I rx ry h
  obtain ⟨i, j, rfl, rfl, hz, q⟩ := h
  obtain ⟨t, rfl⟩ := rx
  obtain ⟨t', rfl⟩ := ry
  exact add_str (fun t' tk => ⟨.str (i ++ j), H, I.tok _, ⟨_, rfl⟩, q⟩) hz
theorem vals1 {x : V} {us : List Value} (r : Vals [x] us) : ∃ u, us = [u] ∧ RelV x u := by
  cases r with
  | cons r1 r2 => cases r2; exact ⟨_, rfl, r1⟩
theorem vals2 {x y : V} {us : List Value} (r : Vals [x, y] us) : ∃ u w', us = [u, w'] ∧ RelV x u ∧ RelV y w' := by
  cases r with
  | cons r1 r2 =>
    cases r2 with
    | cons r3 r4 => cases r4; exact ⟨_, _, rfl, r1, r3⟩
end
end L2

namespace L2
open PySem PySem.Spec PyProof.Rows

structure ObjM (h : Heap) (x dx C : Addr) (mA : Str → Option Value) : Prop where
  obj : h.get? x = some (PySem.W.instObj C dx)
  ns : h.Ns1 dx mA
  ne : dx ≠ x

theorem lookIn_ns {h : Heap} {dx : Addr} {mA : Str → Option Value} (n : h.Ns1 dx mA) : ∃ od, h.get? dx = some od ∧ ∀ name, PySem.W.lookIn name od = some (mA name) := by
  obtain ⟨o, es, ep, ho, hd, hk, _, hm⟩ := n
  refine ⟨o, ho, fun name => ?_⟩
  have e := hm name
  unfold nsFind findBy at e
  rw [← Array.find?_toList] at e
  unfold PySem.W.lookIn
  rw [hd]
  dsimp only
  split
  · rename_i y q
    rw [q] at e
    exact congrArg some e
  · rename_i q
    rw [q] at e
    have a : es.toList.any (·.refKey) = false := by
      rw [List.any_eq_false]
      intro y hy
      obtain ⟨z, t, hkey⟩ := hk y (Array.mem_toList_iff.mp hy)
      simp [DictEntry.refKey, hkey]
    have a' : ¬ es.toList.any (·.refKey) = true := by rw [a]; exact Bool.false_ne_true
    rw [if_neg a']
    exact congrArg some e

theorem ObjM.look {h : Heap} {x dx C : Addr} {mA : Str → Option Value} (I : ObjM h x dx C mA) : ∃ od, PySem.W.InstAt h x (PySem.W.instObj C dx) C (some od) ∧ ∀ name, PySem.W.lookIn name od = some (mA name) :=
  let ⟨od, ho, hl⟩ := lookIn_ns I.ns
  ⟨od, ⟨I.obj, rfl, rfl, ho⟩, hl⟩

section
variable {prog : Program} {w : World} {A : Around} {E : Value → Shared → Prop} {s : Shared} {K : PySem.W.Frag} {x dx C f : Addr} {mA : Str → Option Value} {name : Str} {v : Value}

theorem get_map {expr : Bool} {Q : Value → Shared → Prop} (X : K.In s.heap) (I : ObjM s.heap x dx C mA) (hg : PySem.W.plainGet K C name = true) (hh : PySem.W.hasDictIn K C = true)
    (ha : PySem.W.findIn K (.ref C) name = some none) (hv : mA name = some v) (hv' : PySem.W.handedIn v = true) (h : Q v { s with toks := s.toks + 1 }) :
    wpAny (model prog w) A (getAttr (.ref x) name expr) Q E s := by
  obtain ⟨od, J, hl⟩ := I.look
  exact PySem.W.get_value X J (PySem.W.plainGet_of hg).1 (PySem.W.findObj_own hh ha rfl (by rw [hl, hv])) hv' h

theorem get_meth {pl : Sem Bool} {Q : Value × List Value → Shared → Prop} (X : K.In s.heap) (I : ObjM s.heap x dx C mA) (hg : PySem.W.plainGet K C name = true)
    (hf : PySem.W.findIn K (.ref C) name = some (some (.ref f))) (ht : PySem.W.isFn K (.ref f) = true) (hv : mA name = none) (h : Q (.ref f, [.ref x]) s) :
    wpAny (model prog w) A (getMethod (.ref x) name pl) Q E s := by
  obtain ⟨od, J, hl⟩ := I.look
  exact PySem.W.method_fn X J (PySem.W.plainGet_of hg).1 (PySem.W.plainGet_of hg).2 hf (beq_iff_eq.mp ht) (by show (PySem.W.lookIn name od).map (·.isSome) = some false; rw [hl, hv]; rfl) h

theorem set_map {ns : List Str} {Q : Unit → Shared → Prop} (X : K.In s.heap) (I : ObjM s.heap x dx C mA)
    (hs : PySem.W.findIn K (.ref C) "__setattr__" = some (some (.builtin "object.__setattr__"))) (hp : PySem.W.plainOver K C = true) (ht : PySem.W.takerIn K C name = some none) (hh : PySem.W.hasDictIn K C = true)
    (hw : PySem.Within mA ns) (hsz : ns.length ≤ sizeLine)
    (h : ∀ h', ObjM h' x dx C (fun y => if y = name then some v else mA y) → Heap.SameBut dx s.heap h' → Q () { s with heap := h', toks := s.toks + 2 }) :
    wpAny (model prog w) A (setAttr (.ref x) name v) Q E s := by
  obtain ⟨od, J, hl⟩ := I.look
  refine PySem.W.set_plain X J hs (PySem.W.osa_open (s := { s with toks := s.toks + 1 }) (r := none) X J hp ht fun b => ?_)
  obtain ⟨cd, hc, hd'⟩ := PySem.W.any_some hh
  have hx : s.heap.get? x = some ⟨.ref C, some dx, .plain, #[]⟩ := I.obj
  refine wpAny_bind (wpAny_pure (wpAny_bind (wpAny_bind (wpAny_loadPart hx (wpAny_bind (PySem.W.Looks.here (s := { s with toks := s.toks + 1 }) (PySem.W.looks_clsIn X hc) ?_))))))
  rw [hd']
  refine wpAny_pure (a := some dx) (wpAny_bind (wpAny_pure (wpAny_bind ?_)))
  refine wpAny_nsSet1 (s := { s with toks := s.toks + 1 }) I.ns fun h' hn2 hs2 => ?_
  obtain ⟨oD, esD, epD, hoD, hdD, hcD⟩ := hn2.count (PySem.Within.cons name v hw)
  refine wpAny_bind (wpAny_lookBehind hoD (by rw [hdD]; exact pastItsLine_dict (Nat.le_trans hcD (by rw [List.length_cons]; omega))) ?_)
  exact wpAny_pure (h _ ⟨(hs2.2 _ (Ne.symm I.ne)).trans I.obj, hn2, I.ne⟩ hs2)

theorem make_map {R : Result → Shared → Prop} {vs : List Value} {kw : List (Str × Value)} (X : K.In s.heap) (hm : PySem.W.makesIn K C = true)
    (hi : PySem.W.findIn K (.ref C) "__init__" = some (some (.ref f))) (hf : PySem.W.typeIn K (.ref f) = some (.type "function"))
    (h : codeAny (model prog w) (A.under (.builtin "type.__call__" ⟨.ref C :: vs, kw⟩)) (.call (.ref f) ⟨.ref (s.heap.objs.size + 1) :: vs, kw⟩) (PySem.W.InitBack (s.heap.objs.size + 1) R)
      { s with heap := (s.heap.push PySem.W.emptyDict).push (PySem.W.instObj C s.heap.objs.size) }) :
    codeAny (model prog w) A (.call (.ref C) ⟨vs, kw⟩) R s := by
  obtain ⟨hh, g, d, t, os⟩ := s
  exact PySem.W.make_core (PySem.W.makes_of X hm) (PySem.W.looks_findIn X hi) (fun self => PySem.W.bind_fn X self hf) (.inl rfl) h
end

def putF (f : Str) (v : V) : List (Str × V) → List (Str × V)
  | [] => [(f, v)]
  | (g, x) :: r => if g = f then (g, v) :: r else (g, x) :: putF f v r
theorem lookup_putF (f g : Str) (v : V) : ∀ fs : List (Str × V), (putF f v fs).lookup g = if g = f then some v else fs.lookup g
  | [] => by
    show List.lookup g [(f, v)] = _
    by_cases h : g = f
    · have hb : (g == f) = true := beq_iff_eq.mpr h
      simp only [List.lookup, hb, if_pos h]
    · have hb : (g == f) = false := beq_eq_false_iff_ne.mpr h
      simp only [List.lookup, hb, if_neg h]
  | (k, x) :: r => by
    have ih := lookup_putF f g v r
    rw [show putF f v ((k, x) :: r) = (if k = f then (k, v) :: r else (k, x) :: putF f v r) from rfl]
    by_cases hk : k = f
    · rw [if_pos hk]
      by_cases h : g = k
      · have hb : (g == k) = true := beq_iff_eq.mpr h
        simp only [List.lookup, hb, if_pos (h.trans hk)]
      · have hb : (g == k) = false := beq_eq_false_iff_ne.mpr h
        simp only [List.lookup, hb, if_neg (fun e : g = f => h (e.trans hk.symm))]
    · rw [if_neg hk]
      by_cases h : g = k
      · have hb : (g == k) = true := beq_iff_eq.mpr h
        simp only [List.lookup, hb, if_neg (fun e : g = f => hk (h.symm.trans e))]
      · have hb : (g == k) = false := beq_eq_false_iff_ne.mpr h
        simp only [List.lookup, hb]
        exact ih
theorem keys_putF (f : Str) (v : V) : ∀ fs : List (Str × V), f ∈ (putF f v fs).map (·.1) ∧ ∀ g, g ∈ fs.map (·.1) → g ∈ (putF f v fs).map (·.1)
  | [] => ⟨by simp [putF], fun g h => by simp at h⟩
  | (k, x) :: r => by
    obtain ⟨i1, i2⟩ := keys_putF f v r
    rw [show putF f v ((k, x) :: r) = (if k = f then (k, v) :: r else (k, x) :: putF f v r) from rfl]
    by_cases hk : k = f
    · rw [if_pos hk]
      subst hk
      exact ⟨by simp, fun g h => by simpa using h⟩
    · rw [if_neg hk]
      refine ⟨?_, fun g h => ?_⟩
      · rw [List.map_cons]
        exact List.mem_cons_of_mem _ i1
      · rw [List.map_cons] at h ⊢
        rcases List.mem_cons.mp h with e | e
        · exact List.mem_cons.mpr (.inl e)
        · exact List.mem_cons_of_mem _ (i2 g e)
theorem length_putF (f : Str) (v : V) : ∀ fs : List (Str × V), (putF f v fs).length ≤ fs.length + 1
  | [] => by simp [putF]
  | (k, x) :: r => by
    have ih := length_putF f v r
    rw [show putF f v ((k, x) :: r) = (if k = f then (k, v) :: r else (k, x) :: putF f v r) from rfl]
    by_cases hk : k = f
    · rw [if_pos hk, List.length_cons, List.length_cons]; omega
    · rw [if_neg hk, List.length_cons, List.length_cons]; omega

theorem RelO.some_of {v : V} {o : Option Value} (r : RelO (some v) o) : ∃ u, o = some u ∧ RelV v u := by
  cases o with
  | none => exact (show False from r).elim
  | some u => exact ⟨u, rfl, r⟩
theorem RelO.none_of {o : Option Value} (r : RelO none o) : o = none := by
  cases o with
  | none => rfl
  | some u => exact (show False from r).elim
theorem handed_of {v : V} {u : Value} (r : RelV v u) : PySem.W.handedIn u = true := by
  cases v with
  | non => cases (show u = Value.none from r); rfl
  | bl b => cases (show u = Value.bool b from r); rfl
  | int i => obtain ⟨t, e⟩ := (show ∃ t, u = Value.int i t from r); cases e; rfl
  | str x => obtain ⟨t, e⟩ := (show ∃ t, u = Value.str x t from r); cases e; rfl
  | byt b => obtain ⟨t, e⟩ := (show ∃ t, u = Value.bytes b t from r); cases e; rfl
  | flt b => obtain ⟨t, e⟩ := (show ∃ t, u = Value.float b t from r); cases e; rfl
  | ref a => cases (show u = Value.ref a from r); rfl
  | ty n => cases (show u = Value.type n from r); rfl

section
variable {P : Program} {w : World} {H H' : Hp} {h h' : Heap} {a C dx : Addr} {fs fs' : List (Str × V)}
theorem ins_get (hok : HOk P w H h) (e : H a = some (.ins C dx fs)) : ∃ mA, ObjM h a dx C mA ∧ (∀ f, RelO (fs.lookup f) (mA f)) ∧ PySem.Within mA (fs.map (·.1)) ∧ fs.length ≤ 1000 ∧ H dx = some (.own a) := by
  obtain ⟨d, z, ne, ob, mA, n, r, q⟩ := (show ObjOk P w H h a (.ins C dx fs) from hok a _ e)
  exact ⟨mA, ⟨ob, n, ne⟩, r, q, z, d⟩
end

structure Cls (K : PySem.W.Frag) (C : Addr) : Prop where
  pg : PySem.W.plainGet K C Str.empty = true
  hd : PySem.W.hasDictIn K C = true
  po : PySem.W.plainOver K C = true
  sa : PySem.W.findIn K (.ref C) "__setattr__" = some (some (.builtin "object.__setattr__"))
theorem Cls.get {K : PySem.W.Frag} {C : Addr} (c : Cls K C) (f : Str) : PySem.W.plainGet K C f = true := c.pg
def NoAttr (K : PySem.W.Frag) (C : Addr) (f : Str) : Prop := PySem.W.findIn K (.ref C) f = some none
theorem NoAttr.taker {K : PySem.W.Frag} {C : Addr} {f : Str} (n : NoAttr K C f) : PySem.W.takerIn K C f = some none := by
  unfold PySem.W.takerIn
  rw [show PySem.W.findIn K (.ref C) f = some none from n]
  rfl
structure Con (K : PySem.W.Frag) (C : Addr) (f : Str) (v : V) (u : Value) : Prop where
  at_ : PySem.W.findIn K (.ref C) f = some (some u)
  rel : RelV v u
  get : PySem.W.specialIn K u "__get__" = some none
  cp : PySem.W.copiedNames.contains f = false
structure Meth (K : PySem.W.Frag) (C : Addr) (m : Str) (f : Addr) : Prop where
  at_ : PySem.W.findIn K (.ref C) m = some (some (.ref f))
  fn : PySem.W.isFn K (.ref f) = true
  kp : PySem.W.keepIn K (.ref f) = true

section
variable {X : Cx} {pins : List (Addr × Obj)} {σ : St} {H : Hp} {s : Shared} {a C dx : Addr} {fs : List (Str × V)} {f : Str} {v : V} {A : Around} {E : Value → Shared → Prop}

theorem getattr_ok {b : Bool} {Q : Value → Shared → Prop} (I : Inv X pins σ H s) (e : H a = some (.ins C dx fs)) (c : Cls X.K C) (n : NoAttr X.K C f) (l : fs.lookup f = some v)
    (h : ∀ u s', Inv X pins σ H s' → RelV v u → Q u s') : wpAny (model X.prog X.w) A (getAttr (.ref a) f b) Q E s := by
  obtain ⟨mA, O, r, _, _, _⟩ := ins_get I.hok e
  obtain ⟨u, hu, ru⟩ := RelO.some_of (v := v) (o := mA f) (by rw [← l]; exact r f)
  exact get_map I.kIn O (c.get f) c.hd n hu (handed_of ru) (h u _ (I.tok _) ru)

theorem getmeth_ok {m : Str} {g : Addr} {pl : Sem Bool} {Q : Value × List Value → Shared → Prop} (I : Inv X pins σ H s) (e : H a = some (.ins C dx fs)) (c : Cls X.K C) (k : Meth X.K C m g) (l : fs.lookup m = none)
    (h : Q (.ref g, [.ref a]) s) : wpAny (model X.prog X.w) A (getMethod (.ref a) m pl) Q E s := by
  obtain ⟨mA, O, r, _, _, _⟩ := ins_get I.hok e
  have hn : mA m = none := RelO.none_of (by rw [← l]; exact r m)
  exact get_meth I.kIn O (c.get m) k.at_ k.fn hn h

theorem setattr_ok {y : V} {u : Value} {Q : Unit → Shared → Prop} (I : Inv X pins σ H s) (e : H a = some (.ins C dx fs)) (c : Cls X.K C) (n : NoAttr X.K C f) (hl : fs.length < 1000) (ry : RelV y u)
    (h : ∀ s', Inv X pins σ (upd H a (.ins C dx (putF f y fs))) s' → Q () s') : wpAny (model X.prog X.w) A (setAttr (.ref a) f u) Q E s := by
  obtain ⟨mA, O, r, wi, _, ho⟩ := ins_get I.hok e
  have hz : (fs.map (·.1)).length ≤ sizeLine := by rw [List.length_map, sizeLine_eq]; omega
  refine set_map I.kIn O c.sa c.po n.taker c.hd wi hz fun h' O' sb => h _ ?_
  have hd : ∃ o, h'.get? dx = some o := let ⟨o, _, _, e', _⟩ := O'.ns; ⟨o, e'⟩
  refine I.write (x := a) (e := dx) (by rw [e]; exact True.intro) (.inr ho) (fun b q hb z => (sb.2 b hb).trans z) hd ?_
  refine ⟨by rw [upd_ne O.ne]; exact ho, ?_, O.ne, O'.obj, _, O'.ns, fun g => ?_, fun g hg => ?_⟩
  · have := length_putF f y fs; omega
  · show RelO ((putF f y fs).lookup g) (if g = f then some u else mA g)
    rw [lookup_putF]
    by_cases q : g = f
    · rw [if_pos q, if_pos q]; exact ry
    · rw [if_neg q, if_neg q]; exact r g
  · by_cases q : g = f
    · rw [q]; exact (keys_putF f y fs).1
    · refine (keys_putF f y fs).2 g (wi g fun z => hg ?_)
      show (if g = f then some u else mA g) = none
      rw [if_neg q]; exact z

theorem Inv.made (I : Inv X pins σ H s) : Inv X pins σ (upd (upd H s.heap.objs.size (.own (s.heap.objs.size + 1))) (s.heap.objs.size + 1) (.ins C s.heap.objs.size []))
    { s with heap := (s.heap.push PySem.W.emptyDict).push (PySem.W.instObj C s.heap.objs.size) } := by
  have e1 : (s.heap.push PySem.W.emptyDict).get? s.heap.objs.size = some PySem.W.emptyDict := Heap.get?_push_size s.heap rfl
  have e2 : ((s.heap.push PySem.W.emptyDict).push (PySem.W.instObj C s.heap.objs.size)).get? (s.heap.objs.size + 1) = some (PySem.W.instObj C s.heap.objs.size) := by
    have := Heap.get?_push_size (s.heap.push PySem.W.emptyDict) (o := PySem.W.instObj C s.heap.objs.size) rfl
    rwa [Heap.size_push] at this
  have e3 : (s.heap.push PySem.W.emptyDict).Ns s.heap.objs.size (fun _ => none) := ⟨PySem.W.emptyDict, #[], _, e1, rfl, (fun e he => absurd he (by simp)), fun _ => rfl⟩
  have I1 := I.laid (a := s.heap.objs.size) (o := .own (s.heap.objs.size + 1)) (h' := s.heap.push PySem.W.emptyDict) (t' := s.toks) (fun b u q => Heap.get?_push_of_some _ q) (Nat.le_refl _) ⟨_, e1⟩
  refine I1.laid (a := s.heap.objs.size + 1) (o := .ins C s.heap.objs.size []) (t' := s.toks) (fun b u q => Heap.get?_push_of_some _ q) (Nat.le_of_eq (Heap.size_push _ _)) ?_
  have ne : s.heap.objs.size ≠ s.heap.objs.size + 1 := Nat.ne_of_lt (Nat.lt_succ_self _)
  refine ⟨by rw [upd_ne ne, upd_same], Nat.zero_le _, ne, e2, fun _ => none, (Heap.Ns1.of_empty e3).at fun o q => Heap.get?_push_of_some _ q, fun _ => True.intro, fun y hy => absurd rfl hy⟩

theorem attr_of {prog : Program} {w : World} {env : Env} {e : Expr} {f : Str} {pos : Pos} {s : Shared} {Q : Value → Shared → Prop} (hb : attributeBase e f env (eval e env) = eval e env)
    (h : wpAny (model prog w) A (eval e env) (fun o s₁ => wpAny (model prog w) A (getAttr o f true) Q E s₁) E s) : wpAny (model prog w) A (eval (.Attribute e f pos) env) Q E s :=
  Attribute_any_ h (by rw [arm_eval_Attribute, hb])
end

def tFld (K : PySem.W.Frag) (ta : TE) (f : Str) : TE := fun σ H Q => ta σ H fun x H1 => ∃ a C dx fs v, x = .ref a ∧ H1 a = some (.ins C dx fs) ∧ Cls K C ∧ NoAttr K C f ∧ fs.lookup f = some v ∧ Q v H1
def sFld (K : PySem.W.Frag) (ta tv : TE) (f : Str) : TS := fun D σ H => tv σ H fun y H1 => ta σ H1 fun x H2 => ∃ a C dx fs, x = .ref a ∧ H2 a = some (.ins C dx fs) ∧ Cls K C ∧ NoAttr K C f ∧ fs.length < 1000 ∧
  D.nx σ (upd H2 a (.ins C dx (putF f y fs)))
section
variable {X : Cx} {o e value : Expr} {f : Str} {pos pos' tpos : Pos} {ta tv : TE}
theorem pe_fld (he : PE X e ta) (hb : attributeBase e f X.env (eval e X.env) = eval e X.env) : PE X (.Attribute e f pos) (tFld X.K ta f) := by
  intro pins s σ H Q I h
  refine attr_of hb (thn (he pins s σ H _ I h) fun u s1 ⟨x, H1, I1, rx, a, C, dx, fs, v, ex, ea, c, n, l, q⟩ => ?_)
  subst ex
  obtain rfl : u = Value.ref a := rx
  exact getattr_ok I1 ea c n l fun u' s2 I2 ru => ⟨v, H1, I2, ru, q⟩
theorem ps_fld (ha : PE X o ta) (hv : PE X value tv) (hs : swapsWith value (some (.Attribute o f pos')) pos.line X.env = pure false) : PS X (.Assign [.Attribute o f pos'] value pos) (sFld X.K ta tv f) := by
  intro pins s σ H D I h
  refine plainObj_wpAny_Assign_Attribute (thn (hv pins s σ H _ I h) fun u s1 ⟨y, H1, I1, ry, q⟩ => thn (ha pins s1 σ H1 _ I1 q) fun ov s2 ⟨x, H2, I2, rx, a, C, dx, fs, ex, ea, c, n, l, q2⟩ => ?_) hs
  subst ex
  obtain rfl : ov = Value.ref a := rx
  exact setattr_ok I2 ea c n l ry fun s3 I3 => ⟨σ, _, I3, q2⟩
end

section
variable {X : Cx} {pins : List (Addr × Obj)} {σ : St} {H : Hp} {s : Shared} {A : Around} {E : Value → Shared → Prop} {Q : Value → Shared → Prop} {c : Value} {b : Bool}
inductive TyOf (K : PySem.W.Frag) (H : Hp) : V → Value → Prop where
  | non : TyOf K H .non (.type "NoneType")
  | bl (x : Bool) : TyOf K H (.bl x) (.type "bool")
  | int (i : Int) : TyOf K H (.int i) (.type "int")
  | str (x : Str) : TyOf K H (.str x) (.type "str")
  | flt (x : UInt64) : TyOf K H (.flt x) (.type "float")
  | lst {a : Addr} {xs : List V} (e : H a = some (.lst xs)) : TyOf K H (.ref a) (.type "list")
  | frz {a : Addr} {o : Obj} {xs : List V} (e : H a = some (.frz o (.lst xs))) : TyOf K H (.ref a) (.type "list")
  | tup {a : Addr} {xs : List V} (e : H a = some (.tup xs)) : TyOf K H (.ref a) (.type "tuple")
  | dK {a : Addr} {kvs : List (Key × V)} (e : H a = some (.dK kvs)) : TyOf K H (.ref a) (.type "dict")
  | dT {a : Addr} {kvs : List (List Key × V)} (e : H a = some (.dT kvs)) : TyOf K H (.ref a) (.type "dict")
  | ins {a C dx : Addr} {fs : List (Str × V)} (e : H a = some (.ins C dx fs)) (cl : Cls K C) (ha : PySem.W.findIn K (.ref C) "__class__" = some (some (.builtin "object.__class__")))
      (hn : PySem.W.specialIn K (.builtin "object.__class__") "__get__" = some (some (.builtin "getset_descriptor.__get__"))) (htk : PySem.W.takesIn K (.builtin "object.__class__") = some true)
      (hm : PySem.W.mroIn K C (.type "object") = some true) : TyOf K H (.ref a) (.ref C)
theorem isinst_ok {x : V} {u t : Value} (I : Inv X pins σ H s) (rx : RelV x u) (ty : TyOf X.K H x t) (e : PySem.W.kitOne X.K t c = some b) (h : ∀ tk, Q (.bool b) { s with toks := tk }) :
    wpAny (model X.prog X.w) A (call (.builtin "isinstance") [u, c]) Q E s := by
  cases ty with
  | non => cases (show u = Value.none from rx); exact PySem.W.kia_one PySem.W.kitx_none I.kIn True.intro e (fun z => nomatch z) h
  | bl y => cases (show u = Value.bool y from rx); exact PySem.W.kia_one PySem.W.kitx_bool I.kIn True.intro e (fun z => nomatch z) h
  | int i => obtain ⟨t, q⟩ := (show ∃ t, u = Value.int i t from rx); cases q; exact PySem.W.kia_one PySem.W.kitx_int I.kIn True.intro e (fun z => nomatch z) h
  | str y => obtain ⟨t, q⟩ := (show ∃ t, u = Value.str y t from rx); cases q; exact PySem.W.kia_one PySem.W.kitx_str I.kIn True.intro e (fun z => nomatch z) h
  | flt y => obtain ⟨t, q⟩ := (show ∃ t, u = Value.float y t from rx); cases q; exact PySem.W.kia_one PySem.W.kitx_float I.kIn True.intro e (fun z => nomatch z) h
  | @lst a xs ea =>
    cases (show u = Value.ref a from rx)
    obtain ⟨_, _, n, _, h1⟩ := (show ObjOk X.prog X.w H s.heap a (.lst xs) from I.hok a _ ea)
    exact PySem.W.kia_one PySem.W.kitx_list I.kIn ⟨_, h1, rfl⟩ e (fun z => nomatch z) h
  | @frz a ob xs ea =>
    cases (show u = Value.ref a from rx)
    obtain ⟨_, _, _, n, _, h1⟩ := (show ObjOk X.prog X.w H s.heap a (.frz ob (.lst xs)) from I.hok a _ ea)
    exact PySem.W.kia_one PySem.W.kitx_list I.kIn ⟨_, h1, rfl⟩ e (fun z => nomatch z) h
  | @tup a xs ea =>
    cases (show u = Value.ref a from rx)
    obtain ⟨_, _, _, p⟩ := (show ObjOk X.prog X.w H s.heap a (.tup xs) from I.hok a _ ea)
    obtain ⟨o, h1, h2, _⟩ := p
    exact PySem.W.kia_one PySem.W.kitx_tuple I.kIn ⟨o, h1, h2⟩ e (fun z => nomatch z) h
  | @dK a kvs ea =>
    cases (show u = Value.ref a from rx)
    obtain ⟨_, _, vs, _, p⟩ := (show ObjOk X.prog X.w H s.heap a (.dK kvs) from I.hok a _ ea)
    obtain ⟨o, es, ep, h1, h2, _⟩ := p
    exact PySem.W.kia_one PySem.W.kitx_dict I.kIn ⟨o, h1, h2.1⟩ e (fun z => nomatch z) h
  | @dT a kvs ea =>
    cases (show u = Value.ref a from rx)
    obtain ⟨_, _, xs, _, o, es, ep, h1, h2, _⟩ := (show ObjOk X.prog X.w H s.heap a (.dT kvs) from I.hok a _ ea)
    exact PySem.W.kia_one PySem.W.kitx_dict I.kIn ⟨o, h1, h2.1⟩ e (fun z => nomatch z) h
  | @ins a C dx fs ea cl ha hn htk hm =>
    cases (show u = Value.ref a from rx)
    obtain ⟨mA, O, _⟩ := ins_get I.hok ea
    obtain ⟨od, J, _⟩ := O.look
    exact PySem.W.kia_one (PySem.W.kitx_own (cl.get _) cl.hd ha hn htk hm) I.kIn J e (fun z => nomatch z) h
end
end L2

namespace L2
open PySem PySem.Spec PyProof.Rows

structure Room (k : Nat) (A : Around) : Prop where
  hd : A.handled = none
  dp : A.depth + 3 * k + 5 < recursionLimit
  un : A.units + 16 * k + 200 < cLine
theorem Room.mono {j k : Nat} {A : Around} (r : Room k A) (h : j ≤ k) : Room j A := ⟨r.hd, by have := r.dp; omega, by have := r.un; omega⟩
theorem Room.deeper {k : Nat} {A : Around} (r : Room (k + 1) A) (env : Env) : Room k (A.deeper env) :=
  ⟨r.hd, by have := r.dp; show A.depth + 1 + 3 * k + 5 < _; omega, by have := r.un; show A.units + 3 + 16 * k + 200 < _; omega⟩
theorem Room.in1 {k : Nat} {A : Around} (r : Room (k + 1) A) : Room k A.in1 :=
  ⟨r.hd, by have := r.dp; show A.depth + 3 * k + 5 < _; omega, by have := r.un; show A.units + 1 + 16 * k + 200 < _; omega⟩
theorem make_depth {A : Around} {C : Addr} {us : List Value} {kw : List (Str × Value)} : (A.under (.builtin "type.__call__" ⟨.ref C :: us, kw⟩)).depth = A.depth + 1 := by
  first | rfl | simp [Around.under, Code.weight, Code.isCreation, Code.isGuard, Code.isCaller, Code.frames, Code.isFrame, guardIds]
theorem make_units {A : Around} {C : Addr} {us : List Value} {kw : List (Str × Value)} : (A.under (.builtin "type.__call__" ⟨.ref C :: us, kw⟩)).units = A.units + 1 := by
  first | rfl | simp [Around.under, Code.cUnits, Code.frames, Code.isFrame]
theorem Room.make {k : Nat} {A : Around} (r : Room (k + 1) A) (C : Addr) (us : List Value) (kw : List (Str × Value)) : Room k (A.under (.builtin "type.__call__" ⟨.ref C :: us, kw⟩)) :=
  ⟨r.hd, by have := r.dp; rw [make_depth]; omega, by have := r.un; rw [make_units]; omega⟩
theorem Room.depth {k : Nat} {A : Around} (r : Room k A) : A.depth < recursionLimit := by have := r.dp; omega
theorem Room.units {k : Nat} {A : Around} (r : Room k A) : A.units + 64 < cLine := by have := r.un; omega
def tNil : TA := fun _ H Q => Q [] H
def tCons (ta : TE) (tr : TA) : TA := fun σ H Q => ta σ H fun x H1 => tr σ H1 fun xs H2 => Q (x :: xs) H2
section
variable {X : Cx} {e : Expr} {es : List Expr} {te : TE} {t : TA} {pos : Pos}
theorem pa_nil : PA X [] tNil := fun _ _ _ _ H Q I h => Calls.spliced_nil ⟨[], H, I, .nil, h⟩
theorem pa_cons (ha : PE X e te) (hr : PA X es t) (hs : starEach (e :: es) X.env = (false, eval e X.env) :: starEach es X.env := by rfl) : PA X (e :: es) (tCons te t) := by
  intro pos pins s σ H Q I h
  rw [hs]
  show wpAny _ _ (spliced ((false, eval e X.env) :: backTo pos (starEach es X.env))) _ _ s
  refine Calls.spliced_cons (thn (ha pins s σ H _ I h) fun u s1 ⟨x, H1, I1, r1, q1⟩ => ?_)
  exact thn (hr pos pins s1 σ H1 _ I1 q1) fun us s2 ⟨xs, H2, I2, r2, q2⟩ => ⟨x :: xs, H2, I2, .cons r1 r2, q2⟩

def tLst (t : TA) : TE := fun σ H Q => t σ H fun xs H1 => xs.length ≤ sizeLine ∧ ∀ p, H1 p = none → Q (.ref p) (upd H1 p (.lst xs))
theorem pe_lst (h : PA X es t) : PE X (.List es pos) (tLst t) := by
  intro pins s σ H Q I hq
  refine wpAny_List_spliced (thn (h pos pins s σ H _ I hq) fun us s1 ⟨xs, H1, I1, r, z, q⟩ => ⟨by rw [← r.length]; exact z, ?_⟩)
  have hf : H1 s1.heap.objs.size = none := I1.hok.fresh (Nat.le_refl _)
  refine ⟨.ref s1.heap.objs.size, upd H1 s1.heap.objs.size (.lst xs), I1.laid (t' := s1.toks) (fun b u e => Heap.get?_push_of_some _ e) (Nat.le_refl _) ?_, rfl, q _ hf⟩
  exact ⟨z, us, 0, r, Heap.get?_push_size _ rfl⟩
end

abbrev Sp := List V → Hp → VK → XK → Prop
abbrev CXT := List Env → Hp → Shared → XK → Value → Shared → Prop

structure Env0 (P : Program) (w : World) (K : PySem.W.Frag) (mg : Str → Option Value) (base : Heap) (A : Around) (outer : List Env) (s : Shared) (H : Hp) : Prop where
  frames : A.frames = some outer
  mod : Mod K mg base
  bs : ∀ b o, base.get? b = some o → s.heap.get? b = some o ∧ H b = none
  bsz : base.objs.size ≤ s.heap.objs.size
  funs : s.heap.FunFrames base outer
  frf : ∀ b ∈ frs outer, H b = none
  hok : HOk P w H s.heap
  bare : AllBare s.gens
def CE (outer : List Env) (P : Program) (w : World) (H : Hp) (s : Shared) (Q : VK) (u : Value) (s' : Shared) : Prop :=
  ∃ v H', s'.os = s.os ∧ AllBare s'.gens ∧ Un (frs outer) [] H H' s.heap s'.heap ∧ HOk P w H' s'.heap ∧ RelV v u ∧ Q v H'
def CR (CX : CXT) (outer : List Env) (P : Program) (w : World) (H : Hp) (s : Shared) (Q : VK) (E : XK) (r : Result) (s' : Shared) : Prop :=
  match r with
  | .ok (.ret u) => CE outer P w H s Q u s'
  | .ok _ => False
  | .error e => CX outer H s E e s'
structure FnOk (P : Program) (w : World) (K : PySem.W.Frag) (mg : Str → Option Value) (base : Heap) (CX : CXT) (k : Nat) (f : Addr) (fd : FuncData) (ps : List Str) (sp : Sp) : Prop where
  len : ∀ vs H Q E, sp vs H Q E → vs.length = ps.length
  run : ∀ (A : Around) (outer : List Env) (s : Shared) (H : Hp) (args : Args) (us : List Value) (vs : List V) (Q : VK) (E : XK), Room k A → Env0 P w K mg base A outer s H → BindsTo s fd args (ps.zip us) → Vals vs us → sp vs H Q E →
    codeAny (model P w) A (.call (.ref f) args) (CR CX outer P w H s Q E) s
theorem FnOk.mono {P : Program} {w : World} {K : PySem.W.Frag} {mg : Str → Option Value} {base : Heap} {CX : CXT} {j k : Nat} {f : Addr} {fd : FuncData} {ps : List Str} {sp : Sp} (F : FnOk P w K mg base CX j f fd ps sp) (h : j ≤ k) :
    FnOk P w K mg base CX k f fd ps sp := ⟨F.len, fun A outer s H args us vs Q E hr => F.run A outer s H args us vs Q E (hr.mono h)⟩
theorem Env0.make {P : Program} {w : World} {K : PySem.W.Frag} {mg : Str → Option Value} {base : Heap} {A : Around} {outer : List Env} {s : Shared} {H : Hp} (e : Env0 P w K mg base A outer s H) (C : Addr) (us : List Value) (kw : List (Str × Value)) :
    Env0 P w K mg base (A.under (.builtin "type.__call__" ⟨.ref C :: us, kw⟩)) outer s H := ⟨by first | exact e.frames | (simpa [Around.under, Code.envs, Code.isFrame, pushEnvs] using e.frames), e.mod, e.bs, e.bsz, e.funs, e.frf, e.hok, e.bare⟩
section
variable {X : Cx} {pins : List (Addr × Obj)} {σ : St} {H : Hp} {s s' : Shared}
theorem Inv.env0 (I : Inv X pins σ H s) : Env0 X.prog X.w X.K X.mg X.base X.A X.stack s H :=
  ⟨I.ok.frames, I.ok.mod, I.bs, Nat.le_trans I.ok.bsz I.sz, I.stack, I.stkFree, I.hok, I.bare⟩
theorem Inv.after {Q : VK} {u : Value} (I : Inv X pins σ H s) (h : CE X.stack X.prog X.w H s Q u s') : EP X pins σ Q u s' := by
  obtain ⟨v, H', os, bare, un, hok, r, q⟩ := h
  obtain ⟨hh, g, d, t, os'⟩ := s'
  obtain rfl : os' = s.os := os
  exact ⟨v, H', I.call (h' := hh) (g' := g) (d' := d) (t' := t) (ch := []) un hok bare (fun b z => absurd z (by simp)), r, q⟩
end

def tCall (sp : Sp) (dvs : List V) (E : XK) (t : TA) : TE := fun σ H Q => t σ H fun vs H1 => sp (vs ++ dvs) H1 Q E
def tMeth (C : Addr) (m : Str) (sp : Sp) (dvs : List V) (E : XK) (ta : TE) (t : TA) : TE := fun σ H Q => ta σ H fun x H1 => ∃ a dx fs, x = .ref a ∧ H1 a = some (.ins C dx fs) ∧ fs.lookup m = none ∧
  t σ H1 fun vs H2 => sp (x :: (vs ++ dvs)) H2 Q E
def tMake (C : Addr) (sp : Sp) (dvs : List V) (E : XK) (t : TA) : TE := fun σ H Q => t σ H fun vs H1 => ∀ x dx, H1 x = none → H1 dx = none → dx ≠ x →
  sp (.ref x :: (vs ++ dvs)) (upd (upd H1 dx (.own x)) x (.ins C dx [])) (fun v H2 => v = .non ∧ Q (.ref x) H2) E

def Binds (K : PySem.W.Frag) (fd : FuncData) (ps : List Str) (ds : List Value) : Prop :=
  ∀ (s : Shared) (us : List Value), K.In s.heap → (us ++ ds).length = ps.length → BindsTo s fd ⟨us, []⟩ (ps.zip (us ++ ds))
theorem Binds.all {K : PySem.W.Frag} {fd : FuncData} {ps : List Str} (h : ∀ us : List Value, us.length = ps.length → bindArgs fd ⟨us, []⟩ = pure (ps.zip us)) : Binds K fd ps [] := fun s us _ hl => by
  rw [List.append_nil] at hl ⊢
  exact .of_eq (h us hl)

def Passes (CX : CXT) (X : Cx) (E : XK) : Prop := ∀ (pins : List (Addr × Obj)) (σ : St) (H : Hp) (s : Shared) (e : Value) (s' : Shared), Inv X pins σ H s → CX X.stack H s E e s' → X.xe e s'

section
variable {X : Cx} {CX : CXT} {k : Nat} {f C : Addr} {fd : FuncData} {ps : List Str} {sp : Sp} {dvs : List V} {ds : List Value} {E : XK} {x m : Str} {p pos apos : Pos} {e o : Expr} {es : List Expr} {ta : TE} {t : TA}

theorem run_fn {pins : List (Addr × Obj)} {σ : St} {H : Hp} {s : Shared} {Q : VK} {us : List Value} {vs : List V} (F : FnOk X.prog X.w X.K X.mg X.base CX k f fd ps sp) (hr : Room k X.A) (hb : Binds X.K fd ps ds) (hd : Vals dvs ds) (hx : Passes CX X E)
    (I : Inv X pins σ H s) (r : Vals vs us) (h : sp (vs ++ dvs) H Q E) : wpAny (model X.prog X.w) X.A (call (.ref f) us) (EP X pins σ Q) X.xe s := by
  have r2 : Vals (vs ++ dvs) (us ++ ds) := r.append hd
  have hl : (us ++ ds).length = ps.length := by rw [← r2.length]; exact F.len _ _ _ _ h
  refine wpAny_call (codeAny_mono (F.run X.A X.stack s H ⟨us, []⟩ (us ++ ds) (vs ++ dvs) Q E hr I.env0 (hb s us I.kIn hl) r2 h) fun r s' hq => ?_)
  cases r with
  | error e => exact hx pins σ H s e s' I hq
  | ok fl =>
    cases fl with
    | ret u => exact I.after hq
    | next => exact False.elim hq
    | brk => exact False.elim hq
    | cont => exact False.elim hq

theorem pe_call (F : FnOk X.prog X.w X.K X.mg X.base CX k f fd ps sp) (hr : Room k X.A) (hg : Gl X x) (hm : X.mg x = some (.ref f)) (hk : PySem.W.keepIn X.K (.ref f) = true) (hb : Binds X.K fd ps ds) (hd : Vals dvs ds) (hx : Passes CX X E)
    (ha : PA X (e :: es) t) (hdb : (x == ("__debug__" : Str)) = false := by decide) (he : starEach (e :: es) X.env = (false, eval e X.env) :: starEach es X.env := by rfl) (hpl : (backTo pos (starEach es X.env)).any (·.1) = false := by rfl) :
    PE X (.Call (.Name x p) (e :: es) [] pos) (tCall sp dvs E t) := by
  intro pins s σ H Q I h
  refine wpAny_Call_Name_kw (ld_glob I hg hm ?_ hdb)
  refine PySem.W.callWith_K (h₀ := X.base) I.ok.mod.kin hk (thn (ha pos pins s σ H _ I h) fun us s1 ⟨vs, H1, I1, r, q⟩ => ⟨I1.kIn, ?_⟩) he hpl
  exact run_fn F hr hb hd hx I1 r q
theorem pe_meth {pl : Sem Bool} (he : PE X o ta) (c : Cls X.K C) (hm : Meth X.K C m f) (F : FnOk X.prog X.w X.K X.mg X.base CX k f fd ps sp) (hr : Room k X.A) (hb : Binds X.K fd ps ds) (hd : Vals dvs ds) (hx : Passes CX X E) (ha : PA X (e :: es) t)
    (hst : starEach (e :: es) X.env = (false, eval e X.env) :: starEach es X.env := by rfl) (hpl : (backTo pos (starEach es X.env)).any (·.1) = false := by rfl)
    (ht : eval (.Call (.Attribute o m apos) (e :: es) [] pos) X.env = (do
      let ov ← eval o X.env
      standAt apos.atName
      let (f, first) ← holding [ov] (getMethod ov m pl)
      callWith pos f first (backTo pos (starEach (e :: es) X.env)) (backToKw pos (keywordEach [] X.env))) := by rfl) :
    PE X (.Call (.Attribute o m apos) (e :: es) [] pos) (tMeth C m sp dvs E ta t) := by
  intro pins s σ H Q I h
  refine PySem.W.methodCall_KW (pl := pl) (thn (he pins s σ H _ I h) fun u s1 ⟨x, H1, I1, rx, a, dx, fs, ex, ea, l, q⟩ => ?_) ht
  subst ex
  obtain rfl : u = Value.ref a := rx
  refine getmeth_ok I1 ea c hm l ?_
  refine PySem.W.callWith_K (first := [.ref a]) (h₀ := X.base) I.ok.mod.kin hm.kp (thn (ha pos pins s1 σ H1 _ I1 q) fun us s2 ⟨vs, H2, I2, r, q2⟩ => ⟨I2.kIn, ?_⟩) hst hpl
  exact run_fn (us := .ref a :: us) (vs := .ref a :: vs) F hr hb hd hx I2 (.cons rfl r) q2
structure Mk (K : PySem.W.Frag) (C f : Addr) : Prop where
  makes : PySem.W.makesIn K C = true
  init : PySem.W.findIn K (.ref C) "__init__" = some (some (.ref f))
  fn : PySem.W.isFn K (.ref f) = true
  kp : PySem.W.keepIn K (.ref C) = true

theorem run_make {pins : List (Addr × Obj)} {σ : St} {H : Hp} {s : Shared} {Q : VK} {us : List Value} {vs : List V} (M : Mk X.K C f) (F : FnOk X.prog X.w X.K X.mg X.base CX k f fd ps sp) (hr : Room (k + 1) X.A) (hb : Binds X.K fd ps ds) (hd : Vals dvs ds)
    (hx : Passes CX X E) (I : Inv X pins σ H s) (r : Vals vs us)
    (h : ∀ x dx, H x = none → H dx = none → dx ≠ x → sp (.ref x :: (vs ++ dvs)) (upd (upd H dx (.own x)) x (.ins C dx [])) (fun v H2 => v = .non ∧ Q (.ref x) H2) E) :
    wpAny (model X.prog X.w) X.A (call (.ref C) us) (EP X pins σ Q) X.xe s := by
  have hq := h (s.heap.objs.size + 1) s.heap.objs.size (I.hok.fresh (Nat.le_succ _)) (I.hok.fresh (Nat.le_refl _)) (Nat.ne_of_lt (Nat.lt_succ_self _))
  have I2 := Inv.made (C := C) I
  have r2 : Vals (V.ref (s.heap.objs.size + 1) :: (vs ++ dvs)) (Value.ref (s.heap.objs.size + 1) :: (us ++ ds)) := .cons rfl (r.append hd)
  have hl : (Value.ref (s.heap.objs.size + 1) :: us ++ ds).length = ps.length := by
    have e := r2.length
    rw [F.len _ _ _ _ hq] at e
    exact e.symm
  refine wpAny_call (make_map (f := f) I.kIn M.makes M.init (beq_iff_eq.mp M.fn) (codeAny_mono (F.run _ X.stack _ _ ⟨Value.ref (s.heap.objs.size + 1) :: us, []⟩ (Value.ref (s.heap.objs.size + 1) :: (us ++ ds)) _ _ E (hr.make C us [])
    (I2.env0.make C us []) (hb _ (Value.ref (s.heap.objs.size + 1) :: us) I2.kIn hl) r2 hq) fun r s' hq' => ?_))
  cases r with
  | error e => exact hx pins σ _ _ e s' I2 hq'
  | ok fl =>
    cases fl with
    | ret u =>
      obtain ⟨v, H', I3, rv, ev, q3⟩ := I2.after hq'
      subst ev
      exact ⟨rv, ⟨V.ref (s.heap.objs.size + 1), H', I3, rfl, q3⟩⟩
    | next => exact False.elim hq'
    | brk => exact False.elim hq'
    | cont => exact False.elim hq'
theorem pe_make (M : Mk X.K C f) (F : FnOk X.prog X.w X.K X.mg X.base CX k f fd ps sp) (hr : Room (k + 1) X.A) (hg : Gl X x) (hm : X.mg x = some (.ref C)) (hb : Binds X.K fd ps ds) (hd : Vals dvs ds) (hx : Passes CX X E)
    (ha : PA X (e :: es) t) (hdb : (x == ("__debug__" : Str)) = false := by decide) (he : starEach (e :: es) X.env = (false, eval e X.env) :: starEach es X.env := by rfl) (hpl : (backTo pos (starEach es X.env)).any (·.1) = false := by rfl) :
    PE X (.Call (.Name x p) (e :: es) [] pos) (tMake C sp dvs E t) := by
  intro pins s σ H Q I h
  refine wpAny_Call_Name_kw (ld_glob I hg hm ?_ hdb)
  refine PySem.W.callWith_K (h₀ := X.base) I.ok.mod.kin M.kp (thn (ha pos pins s σ H _ I h) fun us s1 ⟨vs, H1, I1, r, q⟩ => ⟨I1.kIn, ?_⟩) he hpl
  exact run_make M F hr hb hd hx I1 r q
end

def PK (X : Cx) (kws : List Keyword) (t : TA) : Prop :=
  ∀ (pos : Pos) (pins : List (Addr × Obj)) (s : Shared) (σ : St) (H : Hp) (Q : List V → Hp → Prop), Inv X pins σ H s → t σ H Q → wpAny (model X.prog X.w) X.A (evalAll ((backToKw pos (keywordEach kws X.env)).map (·.2))) (AP X pins σ Q) X.xe s
section
variable {X : Cx} {CX : CXT} {k : Nat} {f C : Addr} {fd : FuncData} {ps ks : List Str} {sp : Sp} {E : XK} {x m : Str} {p pos apos kpos : Pos} {e o : Expr} {es : List Expr} {kws : List Keyword} {te ta : TE} {t tk : TA} {nm : Option Str}
theorem pk_nil : PK X [] tNil := fun _ _ _ _ H Q I h => wpAny_evalAll_nil ⟨[], H, I, .nil, h⟩
theorem pk_cons (ha : PE X e te) (hr : PK X kws t) : PK X (⟨nm, e, kpos⟩ :: kws) (tCons te t) := by
  intro pos pins s σ H Q I h
  show wpAny _ _ (evalAll ((do let v ← eval e X.env; standAt pos; pure v) :: (backToKw pos (keywordEach kws X.env)).map (·.2))) _ _ s
  refine wpAny_evalAll_cons (wpAny_bind (thn (ha pins s σ H _ I h) fun u s1 ⟨x, H1, I1, r1, q1⟩ => wpAny_bind (wpAny_standAt (wpAny_pure ?_))))
  exact thn (hr pos pins s1 σ H1 _ I1 q1) fun us s2 ⟨xs, H2, I2, r2, q2⟩ => ⟨x :: xs, H2, I2, .cons r1 r2, q2⟩

structure KBinds (K : PySem.W.Frag) (fd : FuncData) (ps ks : List Str) (g : List Value → List Value → List Value) (gV : List V → List V → List V) : Prop where
  to : ∀ (s : Shared) (us ws : List Value), K.In s.heap → (g us ws).length = ps.length → BindsTo s fd ⟨us, ks.zip ws⟩ (ps.zip (g us ws))
  rel : ∀ {vs : List V} {us : List Value} {zs : List V} {ws : List Value}, Vals vs us → Vals zs ws → Vals (gV vs zs) (g us ws)
variable {g : List Value → List Value → List Value} {gV : List V → List V → List V}
end

structure FnScope (N P : List Str) (sc : Scope) : Prop where
  kind : sc.kind = .function
  co : sc.isCoroutine = false
  gen : sc.isGenerator = false
  nd : N.Nodup
  pre : N.take P.length = P
  par : ∀ x ∈ P, sc.names.lookup x = some .local ∨ sc.names.lookup x = some .cell
  nofree : ∀ y ∈ sc.names, y.2 ≠ .free

theorem bindL_out {kindOf : Str → Option NameKind} {x : Str} : ∀ {binds : List (Str × Value)} {m : Str → Option Value}, (∀ v, (x, v) ∉ binds) → bindL kindOf binds m x = m x
  | [], _, _ => rfl
  | (n, v) :: r, m, h => by
    unfold bindL
    rw [bindL_out fun w hw => h w (List.mem_cons_of_mem _ hw)]
    split
    · have : x ≠ n := by rintro rfl; exact h v List.mem_cons_self
      simp [this]
    · rfl
theorem bindC_out {kindOf : Str → Option NameKind} {x : Str} : ∀ {binds : List (Str × Value)} {m : Str → Option Value}, (∀ v, (x, v) ∉ binds) → bindC kindOf binds m x = m x
  | [], _, _ => rfl
  | (n, v) :: r, m, h => by
    unfold bindC
    rw [bindC_out fun w hw => h w (List.mem_cons_of_mem _ hw)]
    split
    · rfl
    · have : x ≠ n := by rintro rfl; exact h v List.mem_cons_self
      simp [this]
theorem bindL_get {kindOf : Str → Option NameKind} {x : Str} {v : Value} : ∀ {P : List Str} {vs : List Value} {i : Nat} {m : Str → Option Value}, P.Nodup → P[i]? = some x → vs[i]? = some v → kindOf x = some .local →
    bindL kindOf (P.zip vs) m x = some v
  | [], _, _, _, _, h, _, _ => by simp at h
  | _ :: _, [], _, _, _, _, h, _ => by simp at h
  | p :: P, w :: vs, 0, m, nd, h1, h2, hk => by
    simp at h1 h2; subst h1; subst h2
    show bindL kindOf ((p, w) :: P.zip vs) m p = _
    unfold bindL
    rw [bindL_out fun v hv => (List.nodup_cons.mp nd).1 (List.of_mem_zip hv).1, if_pos hk]
    simp
  | p :: P, w :: vs, i + 1, m, nd, h1, h2, hk => by
    show bindL kindOf ((p, w) :: P.zip vs) m x = _
    unfold bindL
    exact bindL_get (i := i) (List.nodup_cons.mp nd).2 (by simpa using h1) (by simpa using h2) hk
theorem bindC_get {kindOf : Str → Option NameKind} {x : Str} {v : Value} : ∀ {P : List Str} {vs : List Value} {i : Nat} {m : Str → Option Value}, P.Nodup → P[i]? = some x → vs[i]? = some v → kindOf x ≠ some .local →
    bindC kindOf (P.zip vs) m x = some v
  | [], _, _, _, _, h, _, _ => by simp at h
  | _ :: _, [], _, _, _, _, h, _ => by simp at h
  | p :: P, w :: vs, 0, m, nd, h1, h2, hk => by
    simp at h1 h2; subst h1; subst h2
    show bindC kindOf ((p, w) :: P.zip vs) m p = _
    unfold bindC
    rw [bindC_out fun v hv => (List.nodup_cons.mp nd).1 (List.of_mem_zip hv).1, if_neg hk]
    simp
  | p :: P, w :: vs, i + 1, m, nd, h1, h2, hk => by
    show bindC kindOf ((p, w) :: P.zip vs) m x = _
    unfold bindC
    exact bindC_get (i := i) (List.nodup_cons.mp nd).2 (by simpa using h1) (by simpa using h2) hk

def start (N : List Str) (vs : List V) : St := vs.map some ++ List.replicate (N.length - vs.length) none

def cxOf (CX : CXT) (P : Program) (w : World) (K : PySem.W.Frag) (mg : Str → Option Value) (base : Heap) (N : List Str) (qual : Str) (scope : Scope) (f : Addr) (cd : Value) (A : Around) (outer : List Env) (s : Shared) (H : Hp) (E : XK) : Cx where
  prog := P
  w := w
  K := K
  mg := mg
  base := base
  A := A.deeper (envOfC qual scope s.heap.objs.size f cd)
  N := N
  s₀ := s
  H₀ := H
  env := envOfC qual scope s.heap.objs.size f cd
  outer := outer
  stack := envOfC qual scope s.heap.objs.size f cd :: outer
  ex := []
  calm := true
  fn := fun _ => true
  pn := []
  xe := fun e s' => wpAny (model P w) (A.deeper (envOfC qual scope s.heap.objs.size f cd)) (leaving (envOfC qual scope s.heap.objs.size f cd) e) (fun _ s'' => CX outer H s E e s'') (fun e' s'' => CX outer H s E e' s'') s'

theorem cell_has {sc : Scope} {n : Nat} {x : Str} (h : sc.names.lookup x = some .cell) : ∃ c, (cellsFrom n sc.names []).lookup x = some c := by
  have q := PySem.W.cellsFrom_some sc.names n [] (.inl h)
  exact Option.isSome_iff_exists.mp q

theorem inv_start {CX : CXT} {P : Program} {w : World} {K : PySem.W.Frag} {mg : Str → Option Value} {base : Heap} {N ps : List Str} {qual : Str} {scope : Scope} {f : Addr} {cd : Value} {A : Around} {outer : List Env} {s s1 : Shared} {H : Hp} {E : XK} {us : List Value} {vs : List V}
    (S : FnScope N ps scope) (hd : A.handled = none) (e0 : Env0 P w K mg base A outer s H) (hl : vs.length = ps.length) (r : Vals vs us)
    (x : InCallC s s.heap.objs.size (bindL (envOfC qual scope s.heap.objs.size f cd).kindOf (ps.zip us) fun _ => none) (cellsFrom (s.heap.objs.size + 1) scope.names []) (bindC (envOfC qual scope s.heap.objs.size f cd).kindOf (ps.zip us) fun _ => none) s1) :
    Inv (cxOf CX P w K mg base N qual scope f cd A outer s H E) [] (start N vs) H s1 := by
  have hpl : ps.length ≤ N.length := by have := congrArg List.length S.pre; rw [List.length_take] at this; omega
  obtain ⟨h1, tk, rfl, hk⟩ := x.done
  have noA : ∀ b : Addr, b ∉ (cxOf CX P w K mg base N qual scope f cd A outer s H E).ex := fun b z => absurd (show b ∈ ([] : List Addr) from z) (by simp)
  refine ⟨⟨e0.mod, S.kind, rfl, rfl, Nat.le_refl _, fun y z c h1 h2 => ?_, fun y hy => ?_, fun y c _ h => ?_, fun _ => hd, Around.frames_deeper e0.frames, .inr ⟨rfl, rfl⟩, fun b z => absurd z (noA b), e0.bs, e0.bsz, fun b _ _ => noA b, fun b z => absurd z (noA b), e0.funs, e0.frf⟩,
    rfl, e0.bare, Un.kept hk, ⟨_, x.toInCall.ns, fun i y v h1 h2 h3 => ?_⟩, fun y c h => ⟨_, x.cell y c h⟩, e0.hok.fresh (Nat.le_refl _), fun y c h => ?_, fun p hp => absurd (show p ∈ ([] : List (Addr × Obj)) from hp) (by simp), e0.hok.kept hk, ?_⟩
  · exact name_of_addr x.apart (PySem.mem_of_lookup h1) (PySem.mem_of_lookup h2)
  · have hy : scope.names.lookup y = some .cell ∨ scope.names.lookup y = some .free := hy
    rcases hy with hy | hy
    · exact cell_has hy
    · exact absurd rfl (S.nofree _ (PySem.mem_of_lookup hy))
  · exact Nat.le_of_lt (x.above y c (PySem.mem_of_lookup h))
  · have hi : i < vs.length := by
      unfold start at h2
      by_cases hi : i < vs.length
      · exact hi
      · rw [List.getElem?_append_right (by simpa using hi)] at h2
        rw [List.getElem?_replicate] at h2
        split at h2 <;> cases h2
    have ha : vs[i]? = some v := by
      unfold start at h2
      rw [List.getElem?_append_left (by simpa using hi), List.getElem?_map] at h2
      cases e : vs[i]? with
      | none => rw [e] at h2; cases h2
      | some a => rw [e] at h2; cases h2; rfl
    obtain ⟨u, hu, rv⟩ := r.get ha
    have hp : ps[i]? = some y := by
      rw [← S.pre, List.getElem?_take_of_lt (by omega)]; exact h1
    have ndP : ps.Nodup := by rw [← S.pre]; exact S.nd.sublist (List.take_sublist _ _)
    refine ⟨u, rv, ?_⟩
    rcases S.par y (List.mem_of_getElem? hp) with k | k
    · exact .inl ⟨k, bindL_get ndP hp hu k⟩
    · obtain ⟨c, e⟩ := cell_has (n := s.heap.objs.size + 1) k
      refine .inr ⟨.inl k, c, e, ?_⟩
      have q := x.cell y c e
      rw [bindC_get ndP hp hu (by show scope.names.lookup y ≠ _; rw [k]; decide)] at q
      exact q
  · exact e0.hok.fresh (Nat.le_of_lt (x.above y c (PySem.mem_of_lookup h)))
  · unfold start
    show _ = N.length
    rw [List.length_append, List.length_map, List.length_replicate]
    omega

theorem fn_of {CX : CXT} {P : Program} {w : World} {K : PySem.W.Frag} {mg : Str → Option Value} {base : Heap} {k : Nat} {f : Addr} {name qual : Str} {params : Arguments} {body : List Stmt} {scope : Scope} {dV kV doc pm cdv ct oc : Value} {an od : Option Addr}
    {osl : Array (Option Value)} {N ps : List Str} {sp : Sp} (lk : K.lookup f = some ⟨oc, od, .func (PySem.W.fnOf name qual params body scope dV kV doc pm an cdv ct), osl⟩) (hcd : PySem.W.codeIn K cdv qual = true) (S : FnScope N ps scope)
    (len : ∀ vs H Q E, sp vs H Q E → vs.length = ps.length)
    (hbody : ∀ (A : Around) (outer : List Env) (s : Shared) (H : Hp) (vs : List V) (Q : VK) (E : XK), Room k (A.deeper (envOfC qual scope s.heap.objs.size f cdv)) → sp vs H Q E →
      ∃ t, PSs (cxOf CX P w K mg base N qual scope f cdv A outer s H E) body t ∧ t { nx := fun _ H' => Q .non H', rt := Q } (start N vs) H) :
    FnOk P w K mg base CX (k + 1) f (PySem.W.fnOf name qual params body scope dV kV doc pm an cdv ct) ps sp := by
  refine ⟨len, fun A outer s H args us vs Q E hr e0 hb r hsp => ?_⟩
  have hl := len _ _ _ _ hsp
  have KX : K.In s.heap := e0.mod.kin.keeps fun b o e => (e0.bs b o e).1
  have lim : s.heap.NoLimit := e0.mod.nolimit.keeps fun b o e => (e0.bs b o e).1
  have hkind : ∀ y ∈ ps.zip us, scope.names.lookup y.1 = some .local ∨ (scope.names.lookup y.1 = some .cell ∧ ((cellsFrom (s.heap.objs.size + 1) scope.names []).lookup y.1).isSome = true) := fun ⟨n, v⟩ hy => by
    rcases S.par n (List.of_mem_zip hy).1 with q | q
    · exact .inl q
    · exact .inr ⟨q, PySem.W.cellsFrom_some _ _ _ (.inl q)⟩
  refine codeAny_call_function hr.depth (KX _ _ lk) rfl S.co S.gen rfl (PySem.W.codeRec_of KX hcd) (hb _ _ _ _ ?_)
  refine wpAny_newFunctionEnv_cells S.kind hkind fun env he s1 x => ?_
  subst he
  refine ⟨lim.keeps x.toInCall.keep, codeAny_func ?_⟩
  obtain ⟨t, ht, hq⟩ := hbody A outer s H vs Q E (hr.deeper _) hsp
  have I : Inv (cxOf CX P w K mg base N qual scope f cdv A outer s H E) [] (start N vs) H s1 := inv_start S hr.hd e0 hl r x
  refine wpAny_mono (ht [] s1 (start N vs) H _ I hq) (fun fl s' hs => ?_) fun e s' hs => hs
  have fin : ∀ {σ' : St} {H' : Hp} {v : V} {u : Value}, Inv (cxOf CX P w K mg base N qual scope f cdv A outer s H E) [] σ' H' s' → RelV v u → Q v H' → CE outer P w H s Q u s' :=
    fun {σ' H' v u} J rv q => ⟨v, H', J.os, J.bare, J.base, J.hok, rv, q⟩
  cases fl with
  | ret u =>
    obtain ⟨v, σ', H', J, rv, q⟩ := hs
    exact fin J rv q
  | next =>
    obtain ⟨σ', H', J, q⟩ := hs
    exact fin (v := V.non) (u := Value.none) J rfl q
  | brk =>
    obtain ⟨_, _, _, q⟩ := hs
    exact False.elim q
  | cont =>
    obtain ⟨_, _, _, q⟩ := hs
    exact False.elim q
end L2

namespace L2
open PySem PySem.Spec PyProof.Rows
section
variable {X : Cx} {x : Str} {p pos : Pos} {e : Expr} {es : List Expr} {t : TA} {id T : String} {r : List V → Hp → VK → Prop}

def tCB (r : List V → Hp → VK → Prop) (t : TA) : TE := fun σ H Q => t σ H fun vs H1 => r vs H1 Q
theorem pe_callB (hc : CallR X (.builtin id) r) (hg : Gl X x) (hm : X.mg x = none) (hv : bootBuiltins x = some (.builtin id)) (ha : PA X (e :: es) t) (hn : x ≠ "__name__" := by decide) (hdb : (x == ("__debug__" : Str)) = false := by decide)
    (he : starEach (e :: es) X.env = (false, eval e X.env) :: starEach es X.env := by rfl) (hpl : (backTo pos (starEach es X.env)).any (·.1) = false := by rfl) : PE X (.Call (.Name x p) (e :: es) [] pos) (tCB r t) := by
  intro pins s σ H Q I h
  refine wpAny_Call_Name_kw (ld_blt I hg hm hv ?_ hn hdb)
  exact PyProof.Rows.callWith_builtin1 (thn (ha pos pins s σ H _ I h) fun us s1 ⟨vs, H1, I1, r1, q1⟩ => hc pins s1 σ H1 vs us Q I1 r1 q1) he hpl
theorem pe_callTy (hc : CallR X (.type T) r) (hg : Gl X x) (hm : X.mg x = none) (hv : bootBuiltins x = some (.type T)) (ha : PA X (e :: es) t) (hn : x ≠ "__name__" := by decide) (hdb : (x == ("__debug__" : Str)) = false := by decide)
    (he : starEach (e :: es) X.env = (false, eval e X.env) :: starEach es X.env := by rfl) (hpl : (backTo pos (starEach es X.env)).any (·.1) = false := by rfl) : PE X (.Call (.Name x p) (e :: es) [] pos) (tCB r t) := by
  intro pins s σ H Q I h
  refine wpAny_Call_Name_kw (ld_blt I hg hm hv ?_ hn hdb)
  exact PyProof.Rows.callWith_type1 (thn (ha pos pins s σ H _ I h) fun us s1 ⟨vs, H1, I1, r1, q1⟩ => hc pins s1 σ H1 vs us Q I1 r1 q1) he hpl
end
end L2

namespace HT
open PySem PyProof.Rows

section
open PySem.SeqAt
open PySem.AutoSeq1 (wpAny_loadPart')
open PySem.MeetsSeq PySem.MeetsSeq2 PySem.MeetsSeq3

end

section
variable {prog : Program} {w : World} {A : Around} {E : Value → Shared → Prop} {s : Shared}

def sIx (n d : Nat) : Option Int → Nat
  | none => d
  | some v => if v < 0 then (v + (n : Int)).toNat else min v.toNat n
theorem sIx_none (n d : Nat) : sIx n d none = d := rfl
theorem sIx_nat (n d k : Nat) : sIx n d (some (k : Int)) = min k n := by
  show (if (k : Int) < 0 then ((k : Int) + (n : Int)).toNat else min (k : Int).toNat n) = min k n
  rw [if_neg (by omega), Int.toNat_natCast]
theorem sIx_le (n d : Nat) (hd : d ≤ n) (o : Option Int) : sIx n d o ≤ n := by
  cases o with
  | none => exact hd
  | some v =>
    show (if v < 0 then (v + (n : Int)).toNat else min v.toNat n) ≤ n
    by_cases hv : v < 0
    · rw [if_pos hv]; omega
    · rw [if_neg hv]; exact Nat.min_le_right _ _
theorem clip_eq (v : Int) (n d : Nat) : (if v < 0 then max (v + (n : Int)) 0 else min v (n : Int)) = ((sIx n d (some v) : Nat) : Int) := by
  show (if v < 0 then max (v + (n : Int)) 0 else min v (n : Int)) = (((if v < 0 then (v + (n : Int)).toNat else min v.toNat n) : Nat) : Int)
  by_cases hv : v < 0
  · simp only [if_pos hv]; omega
  · simp only [if_neg hv]; omega
end
end HT

namespace L2
open PySem PySem.Spec PyProof.Rows

abbrev TO := St → Hp → (Option Int → Hp → Prop) → Prop
def PO (X : Cx) (e : Option Expr) (t : TO) : Prop :=
  ∀ (pins : List (Addr × Obj)) (s : Shared) (σ : St) (H : Hp) (Q : Option Int → Hp → Prop), Inv X pins σ H s → t σ H Q →
    wpAny (model X.prog X.w) X.A (evalPart e X.env) (fun u s' => ∃ o H', Inv X pins σ H' s' ∧ IsPart u o ∧ Q o H') X.xe s
def tNoPart : TO := fun _ H Q => Q none H
def tPart (t : TE) : TO := fun σ H Q => t σ H fun x H1 => ∃ i, x = .int i ∧ Q (some i) H1

section
variable {X : Cx} {e : Expr} {te : TE} {lo hi : Option Expr} {tl th : TO} {pos p2 : Pos}

theorem po_none : PO X none tNoPart := by
  intro pins s σ H Q I h
  rw [evalPart_none]
  exact wpAny_pure ⟨none, H, I, .none, h⟩
theorem po_some (h : PE X e te) : PO X (some e) (tPart te) := by
  intro pins s σ H Q I hw
  rw [evalPart_some]
  refine thn (h pins s σ H _ I hw) fun u s1 ⟨x, H1, I1, r1, q1⟩ => ?_
  obtain ⟨i, rfl, q⟩ := q1
  obtain ⟨t, rfl⟩ := r1
  exact ⟨some i, H1, I1, .int i t, q⟩

def SlR (X : Cx) (r : V → Option Int → Option Int → Hp → VK → Prop) : Prop :=
  ∀ (pins : List (Addr × Obj)) (s : Shared) (σ : St) (H : Hp) (x : V) (v vl vu : Value) (lo hi : Option Int) (sl : Addr) (Q : VK), Inv X pins σ H s → RelV x v → s.heap.IsSliceOf sl vl vu .none → IsPart vl lo → IsPart vu hi → r x lo hi H Q →
    ∃ T id, typeLookup (.type T) "__getitem__" = pure (some (.builtin id)) ∧ s.TypeIs v T ∧ wpAny (model X.prog X.w) X.A (getItem v (.ref sl)) (EP X pins σ Q) X.xe s
def tSl (r : V → Option Int → Option Int → Hp → VK → Prop) (te : TE) (tl th : TO) : TE := fun σ H Q => te σ H fun x H1 => tl σ H1 fun l H2 => th σ H2 fun u H3 => r x l u H3 Q
theorem pe_slice {r : V → Option Int → Option Int → Hp → VK → Prop} (hr : SlR X r) (he : PE X e te) (hl : PO X lo tl) (hu : PO X hi th) : PE X (.Subscript e (.Slice lo hi none p2) pos) (tSl r te tl th) := by
  intro pins s σ H Q I h
  refine Subscript_ (thn (he pins s σ H _ I h) fun v s1 ⟨x, H1, I1, r1, q1⟩ => ?_)
  refine wpAny_Slice (thn (hl pins s1 σ H1 _ I1 q1) fun vl s2 ⟨l, H2, I2, pl, q2⟩ => thn (hu pins s2 σ H2 _ I2 q2) fun vu s3 ⟨u, H3, I3, pu, q3⟩ => ?_)
  rw [evalPart_none]
  refine wpAny_pure ?_
  have I4 : Inv X pins σ H3 { s3 with heap := s3.heap.push { cls := .type "slice", data := .fields #[vl, vu, .none] } } := I3.kept (t' := s3.toks) fun b ob q => Heap.get?_push_of_some _ q
  obtain ⟨T, id, hT, ht, hg⟩ := hr pins { s3 with heap := s3.heap.push { cls := .type "slice", data := .fields #[vl, vu, .none] } } σ H3 x v vl vu l u s3.heap.objs.size Q I4 r1 (Heap.IsSliceOf.new ..) pl pu q3
  show wpAny (model X.prog X.w) X.A (subscriptTail e (.Slice lo hi none p2) v (.ref s3.heap.objs.size)) (EP X pins σ Q) X.xe { s3 with heap := s3.heap.push { cls := .type "slice", data := .fields #[vl, vu, .none] } }
  exact tail_any (ops := [.ref s3.heap.objs.size, v]) ht hT hg (by with_unfolding_all rfl)

def cutV (xs : List V) (lo hi : Option Int) : List V := (xs.drop (HT.sIx xs.length 0 lo)).take (HT.sIx xs.length xs.length hi - HT.sIx xs.length 0 lo)
theorem cutV_length (xs : List V) (lo hi : Option Int) : (cutV xs lo hi).length ≤ xs.length := by
  unfold cutV
  rw [List.length_take, List.length_drop]
  omega
end
end L2

namespace L2
open PySem PySem.Spec PyProof.Rows

def ixN (n : Nat) (i : Int) : Option Nat := if 0 ≤ i then (if i < n then some i.toNat else none) else if -(n : Int) ≤ i then some (i + n).toNat else none
def atI {α : Type} (xs : List α) (i : Int) : Option α := (ixN xs.length i).bind fun j => xs[j]?
theorem ixN_seq {n : Nat} {i : Int} {j : Nat} (h : ixN n i = some j) : seqIndex? i n = some j ∧ j < n ∧ -(n : Int) ≤ i ∧ i < n := by
  unfold ixN at h
  by_cases h0 : 0 ≤ i
  · rw [if_pos h0] at h
    by_cases h1 : i < n
    · rw [if_pos h1] at h
      have e : i.toNat = j := Option.some.inj h
      exact ⟨by rw [seqIndex_of h0 h1, e], by omega, by omega, h1⟩
    · rw [if_neg h1] at h; cases h
  · rw [if_neg h0] at h
    by_cases h1 : -(n : Int) ≤ i
    · rw [if_pos h1] at h
      have e : (i + n).toNat = j := Option.some.inj h
      exact ⟨by rw [seqIndex_neg (by omega) h1, e], by omega, h1, by omega⟩
    · rw [if_neg h1] at h; cases h
theorem atI_get {α : Type} {xs : List α} {i : Int} {v : α} (h : atI xs i = some v) : ∃ j, seqIndex? i xs.length = some j ∧ xs[j]? = some v ∧ j < xs.length ∧ -(xs.length : Int) ≤ i ∧ i < xs.length := by
  unfold atI at h
  cases e : ixN xs.length i with
  | none => rw [e] at h; cases h
  | some j =>
    rw [e] at h
    obtain ⟨h1, h2, h3, h4⟩ := ixN_seq e
    exact ⟨j, h1, h, h2, h3, h4⟩
theorem atI_nat {α : Type} {xs : List α} {j : Nat} {v : α} (h : xs[j]? = some v) : atI xs (j : Int) = some v := by
  have hj : j < xs.length := (List.getElem?_eq_some_iff.mp h).1
  have e : ixN xs.length (j : Int) = some j := by
    unfold ixN
    rw [if_pos (by omega), if_pos (by omega)]; simp
  unfold atI; rw [e]; exact h
def PlainIx (b : Expr) : Prop := ∀ o i, subscripted b false o i = operate [o, i] (getItem o i)
def IxR (X : Cx) (r : R2) : Prop :=
  ∀ (value slice : Expr) (pins : List (Addr × Obj)) (s : Shared) (σ : St) (H : Hp) (x y : V) (v u : Value) (Q : VK), Inv X pins σ H s → RelV x v → RelV y u → r x y H Q →
    subscripted slice false v u = operate [v, u] (getItem v u) → wpAny (model X.prog X.w) X.A (subscriptTail value slice v u) (EP X pins σ Q) X.xe s
def MtR (X : Cx) (id : String) (r : V → List V → Hp → VK → Prop) : Prop :=
  ∀ (pins : List (Addr × Obj)) (s : Shared) (σ : St) (H : Hp) (x : V) (xs : List V) (v : Value) (us : List Value) (Q : VK), Inv X pins σ H s → RelV x v → Vals xs us → r x xs H Q →
    wpAny (model X.prog X.w) X.A (call (.builtin id) (v :: us)) (EP X pins σ Q) X.xe s
section
variable {X : Cx} {a b : Expr} {ta tb : TE} {pos : Pos}
theorem pe_ix {r : R2} (hr : IxR X r) (ha : PE X a ta) (hb : PE X b tb) (hs : PlainIx b) : PE X (.Subscript a b pos) (tOp r ta tb) := by
  intro pins s σ H Q I h
  exact Subscript_ (binT ha hb I h fun v u s2 x y H2 I2 rx ry q => hr a b pins s2 σ H2 x y v u Q I2 rx ry q (hs _ _))

def rIxL (K : PySem.W.Frag) : R2 := fun x y H Q => ∃ p xs i v, x = .ref p ∧ y = .int i ∧ SqL K H p xs ∧ atI xs i = some v ∧ Q v H
def rIxS : R2 := fun x y H Q => ∃ z i c, x = .str z ∧ y = .int i ∧ z.length ≤ sizeLine ∧ atI z.cps.toList i = some c ∧ Q (.str ⟨#[c]⟩) H
theorem ix_list : IxR X (rIxL X.K) := by
  intro value slice pins s σ H x y v u Q I rx ry h hs
  obtain ⟨p, xs, i, z, rfl, rfl, hq, he, q⟩ := h
  cases rx
  obtain ⟨t, rfl⟩ := ry
  obtain ⟨its, r, pl, hz⟩ := I.list hq
  obtain ⟨j, h1, h2, h3, h4, h5⟩ := atI_get he
  obtain ⟨w, ew, rw'⟩ := r.get h2
  have hl := r.length
  have hn := line63
  have fin : EP X pins σ Q w s := ⟨z, H, I, rw', q⟩
  by_cases h0 : 0 ≤ i
  · have hj : i.toNat = j := by
      rw [seqIndex_of h0 h5] at h1
      exact Option.some.inj h1
    exact item_listR pl.isList h0 (by omega) (by rw [hj]; simpa using ew) fin hs
  · have hj : (i + (its.toArray.size : Int)).toNat = j := by
      rw [seqIndex_neg (by omega) h4] at h1
      rw [List.size_toArray, ← hl]
      exact Option.some.inj h1
    exact subscriptTail_builtinR (x := w) pl.isList.typeIs slot_list_getitem.lookup
      (wpAny_getItem_list_neg (Q := fun r s' => r = w ∧ EP X pins σ Q r s') pl.isList (by omega) (by rw [List.size_toArray] <;> omega) (by omega) (by rw [hj]; simpa using ew) ⟨rfl, fin⟩) hs
theorem ix_str : IxR X rIxS := by
  intro value slice pins s σ H x y v u Q I rx ry h hs
  obtain ⟨z, i, c, rfl, rfl, hz, he, q⟩ := h
  obtain ⟨t, rfl⟩ := rx
  obtain ⟨t', rfl⟩ := ry
  obtain ⟨j, h1, h2, h3, h4, h5⟩ := atI_get he
  have hl : z.cps.toList.length = z.length := by simp [Str.length]
  rw [hl] at h1 h4 h5
  have hn := line63
  exact tail_any (typeIs_str s z t) slot_str_getitem.lookup (getItem_str (c := c) (by
    have e1 : decide (i < -(2 ^ 63 : Int)) = false := decide_eq_false (by omega)
    have e2 : decide (i ≥ 2 ^ 63) = false := decide_eq_false (by omega)
    rw [e1, e2, Bool.or_false]) (by rw [h1]; simpa using h2) ⟨.str ⟨#[c]⟩, H, I.tok _, ⟨_, rfl⟩, q⟩) hs
theorem slice_bounds (lo hi : Option Int) (n : Nat) : (sliceBounds lo hi none n).1 = ((HT.sIx n 0 lo : Nat) : Int) ∧ (sliceBounds lo hi none n).2.1 = ((HT.sIx n n hi : Nat) : Int) ∧ (sliceBounds lo hi none n).2.2 = 1 := by
  refine ⟨?_, ?_, rfl⟩
  · cases lo with
    | none => simp [sliceBounds, HT.sIx]
    | some i =>
      simp only [sliceBounds, HT.sIx, Option.getD_none, show (1 : Int) > 0 by decide, if_true]
      by_cases h : i < 0
      · simp only [h, if_true] <;> omega
      · simp only [h, if_false] <;> omega
  · cases hi with
    | none => simp [sliceBounds, HT.sIx]
    | some i =>
      simp only [sliceBounds, HT.sIx, Option.getD_none, show (1 : Int) > 0 by decide, if_true]
      by_cases h : i < 0
      · simp only [h, if_true] <;> omega
      · simp only [h, if_false] <;> omega
theorem slicePick_cut (its : List Value) (lo hi : Option Int) : slicePick its.toArray lo hi none = ((its.drop (HT.sIx its.length 0 lo)).take (HT.sIx its.length its.length hi - HT.sIx its.length 0 lo)).toArray := by
  obtain ⟨h1, h2, h3⟩ := slice_bounds lo hi its.toArray.size
  unfold slicePick
  rw [h1, h2, h3]
  simp only [sliceRange_one, pick_run, List.size_toArray] <;> rfl
def rSlL (K : PySem.W.Frag) : V → Option Int → Option Int → Hp → VK → Prop := fun x lo hi H Q => ∃ a xs, x = .ref a ∧ SqL K H a xs ∧ ∀ p, H p = none → Q (.ref p) (upd H p (.lst (cutV xs lo hi)))
theorem sl_list : SlR X (rSlL X.K) := by
  intro pins s σ H x v vl vu lo hi sl Q I rx hs pl pu h
  obtain ⟨a, xs, rfl, hx, q⟩ := h
  cases rx
  obtain ⟨its, r, ht, hz⟩ := I.list hx
  have hlen := r.length
  refine ⟨"list", _, slot_list_getitem.lookup, ht.isList.typeIs, ?_⟩
  refine wpAny_getItem_list_slice ht.isList hs pl pu .none (by simp) ?_ (by rw [List.size_toArray] <;> omega)
  rw [slicePick_cut, ← hlen]
  refine ⟨.ref s.heap.objs.size, _, I.laid (t' := s.toks) (o := .lst (cutV xs lo hi)) (fun b ob q => Heap.get?_push_of_some _ q) (Nat.le_refl _) ?_, rfl, q _ (I.hok.fresh (Nat.le_refl _))⟩
  exact ⟨Nat.le_trans (cutV_length xs lo hi) hz, _, 0, (r.drop (HT.sIx xs.length 0 lo)).take (HT.sIx xs.length xs.length hi - HT.sIx xs.length 0 lo), Heap.get?_push_size _ rfl⟩

def flatV : V → Bool
  | .non => true
  | .bl _ => true
  | .int _ => true
  | .str _ => true
  | _ => false
def eqV : V → V → Bool
  | .non, .non => true
  | .bl a, .bl b => a == b
  | .bl a, .int b => (if a then 1 else 0) == b
  | .int a, .bl b => a == (if b then 1 else 0)
  | .int a, .int b => a == b
  | .str a, .str b => a == b
  | _, _ => false
theorem eqAt_V {A : Around} {s : Shared} {y x : V} {u v : Value} (ry : RelV y u) (rx : RelV x v) (fy : flatV y = true) (fx : flatV x = true) : SeqAt.EqAt A s u v (eqV y x) := by
  cases y with
  | non =>
    cases ry
    cases x with
    | non => cases rx; exact SeqAt.EqAt.same _
    | bl b => cases rx; exact SeqAt.EqAt.none_bool b
    | int b => obtain ⟨t, rfl⟩ := rx; exact SeqAt.EqAt.none_int b t
    | str b => obtain ⟨t, rfl⟩ := rx; exact SeqAt.EqAt.none_str b t
    | _ => exact absurd (show false = true from fx) Bool.false_ne_true
  | bl a =>
    cases ry
    cases x with
    | non => cases rx; exact SeqAt.EqAt.bool_none a
    | bl b => cases rx; exact SeqAt.EqAt.bool_bool a b
    | int b => obtain ⟨t, rfl⟩ := rx; exact SeqAt.EqAt.bool_int a b t
    | str b => obtain ⟨t, rfl⟩ := rx; exact SeqAt.EqAt.bool_str a b t
    | _ => exact absurd (show false = true from fx) Bool.false_ne_true
  | int a =>
    obtain ⟨t', rfl⟩ := ry
    cases x with
    | non => cases rx; exact SeqAt.EqAt.int_none a t'
    | bl b => cases rx; exact SeqAt.EqAt.int_bool a t' b
    | int b => obtain ⟨t, rfl⟩ := rx; exact SeqAt.EqAt.int_int a t' b t
    | str b => obtain ⟨t, rfl⟩ := rx; exact SeqAt.EqAt.int_str a t' b t
    | _ => exact absurd (show false = true from fx) Bool.false_ne_true
  | str a =>
    obtain ⟨t', rfl⟩ := ry
    cases x with
    | non => cases rx; exact SeqAt.EqAt.str_none a t'
    | bl b => cases rx; exact SeqAt.EqAt.str_bool a t' b
    | int b => obtain ⟨t, rfl⟩ := rx; exact SeqAt.EqAt.str_int a t' b t
    | str b => obtain ⟨t, rfl⟩ := rx; exact SeqAt.EqAt.str_str a t' b t
    | _ => exact absurd (show false = true from fx) Bool.false_ne_true
  | _ => exact absurd (show false = true from fy) Bool.false_ne_true
def eqU (x : V) (u : Value) : Bool := match u with
  | .none => eqV .non x
  | .bool b => eqV (.bl b) x
  | .int i _ => eqV (.int i) x
  | .str z _ => eqV (.str z) x
  | _ => false
theorem eqU_of {x y : V} {u : Value} (r : RelV y u) (f : flatV y = true) : eqU x u = eqV y x := by
  cases y with
  | non => cases r; rfl
  | bl b => cases r; rfl
  | int i => obtain ⟨t, rfl⟩ := r; rfl
  | str z => obtain ⟨t, rfl⟩ := r; rfl
  | _ => exact absurd (show false = true from f) Bool.false_ne_true
theorem any_eqU {x : V} : ∀ {xs : List V} {us : List Value}, Vals xs us → xs.all flatV = true → us.any (eqU x) = xs.any fun y => eqV y x
  | _, _, .nil, _ => rfl
  | y :: xs, u :: us, .cons r t, f => by
    rw [List.all_cons, Bool.and_eq_true] at f
    rw [List.any_cons, List.any_cons, eqU_of r f.1, any_eqU t f.2]
theorem mem_eqAt {A : Around} {s : Shared} {x : V} {v : Value} (rx : RelV x v) (fx : flatV x = true) : ∀ {xs : List V} {us : List Value}, Vals xs us → xs.all flatV = true → ∀ u ∈ us, SeqAt.EqAt A s u v (eqU x u)
  | _, _, .nil, _ => fun u hu => by cases hu
  | y :: xs, u :: us, .cons r t, f => fun u' hu => by
    rw [List.all_cons, Bool.and_eq_true] at f
    rcases List.mem_cons.mp hu with rfl | hu
    · rw [eqU_of r f.1]; exact eqAt_V r rx f.1 fx
    · exact mem_eqAt rx fx t f.2 u' hu
def inV (x : V) (xs : List V) : Bool := xs.any fun y => eqV y x
def rIn (K : PySem.W.Frag) (neg : Bool) : R2 := fun x y H Q => ∃ p xs, y = .ref p ∧ (SqL K H p xs ∨ SqT K H p xs) ∧ flatV x = true ∧ xs.all flatV = true ∧ Q (.bl (if neg then !inV x xs else inV x xs)) H
theorem op_notIn_seq : OpR X (compareOp .NotIn) (rIn X.K true) := by
  intro pins s σ H x y v u Q I rx ry h
  obtain ⟨p, xs, rfl, hq, fx, fs, q⟩ := h
  cases ry
  rcases hq with hq | hq
  · obtain ⟨its, r, pl, hz⟩ := I.list hq
    refine SeqAt.notIn_listAt (eqU x) pl.isList (fun w hw => mem_eqAt rx fx r fs w (by simpa using hw)) ⟨.bl _, H, I, rfl, ?_⟩
    rw [show its.toArray.any (eqU x) = its.any (eqU x) by simp, any_eqU r fs]
    exact q
  · obtain ⟨its, r, pl, hz⟩ := I.tuple hq
    refine SeqAt.notIn_tupleAt (eqU x) pl (fun w hw => mem_eqAt rx fx r fs w (by simpa using hw)) ⟨.bl _, H, I, rfl, ?_⟩
    rw [show its.toArray.any (eqU x) = its.any (eqU x) by simp, any_eqU r fs]
    exact q
theorem call_len_seq : CallR X (.builtin "len") (fun xs H Q => ∃ p ys, xs = [.ref p] ∧ (SqL X.K H p ys ∨ SqT X.K H p ys) ∧ Q (.int ys.length) H) := by
  intro pins s σ H xs us Q I r h
  obtain ⟨p, ys, rfl, hq, q⟩ := h
  obtain ⟨u, rfl, rx⟩ := vals1 r
  cases rx
  have hn := line63
  rcases hq with hq | hq
  · obtain ⟨its, r', pl, hz⟩ := I.list hq
    have hlen := r'.length
    exact Calls.call_len_list pl.isList (by simp only [List.size_toArray] <;> omega) ⟨.int ys.length, H, I.tok _, ⟨s.toks + 1, by rw [List.size_toArray, hlen]⟩, q⟩
  · obtain ⟨its, r', pl, hz⟩ := I.tuple hq
    have hlen := r'.length
    exact len_tuple pl (by simp only [List.size_toArray] <;> omega) ⟨.int ys.length, H, I.tok _, ⟨s.toks + 1, by rw [List.size_toArray, hlen]⟩, q⟩
theorem call_len_str : CallR X (.builtin "len") (fun xs H Q => ∃ z, xs = [.str z] ∧ z.length ≤ sizeLine ∧ Q (.int z.length) H) := by
  intro pins s σ H xs us Q I r h
  obtain ⟨z, rfl, hz, q⟩ := h
  obtain ⟨u, rfl, t, rfl⟩ := vals1 r
  have hn := line63
  exact len_str (by omega) ⟨.int z.length, H, I.tok _, ⟨_, rfl⟩, q⟩
theorem call_tuple_of : CallR X (.type "tuple") (fun xs H Q => ∃ p ys, xs = [.ref p] ∧ ((SqL X.K H p ys ∧ ∀ l, H l = none → Q (.ref l) (upd H l (.tup ys))) ∨ (SqT X.K H p ys ∧ Q (.ref p) H))) := by
  intro pins s σ H xs us Q I r h
  obtain ⟨p, ys, rfl, h⟩ := h
  obtain ⟨u, rfl, rx⟩ := vals1 r
  cases rx
  rcases h with ⟨hq, q⟩ | ⟨hq, q⟩
  · obtain ⟨its, r', pl, hz⟩ := I.list hq
    have hlen := r'.length
    refine call_tuple_list pl.isList (fun h' kp => ?_) (by simp only [List.size_toArray] <;> omega)
    have I1 : Inv X pins σ H { s with heap := h' } := I.kept (t' := s.toks) kp
    have I2 : Inv X pins σ (upd H h'.objs.size (.tup ys)) { s with heap := h'.push { cls := .type "tuple", data := .seq its.toArray } } :=
      I1.laid (t' := s.toks) (fun b o e => Heap.get?_push_of_some _ e) (Nat.le_refl _) (show ObjOk X.prog X.w _ _ _ (.tup ys) from ⟨hz, its, r', IsTup.new _ _⟩)
    exact ⟨.ref h'.objs.size, _, I2, rfl, q _ (I1.hok.fresh (Nat.le_refl _))⟩
  · obtain ⟨its, r', pl, hz⟩ := I.tuple hq
    exact call_tuple_same pl ⟨.ref p, H, I, rfl, q⟩

def tyV (K : PySem.W.Frag) (T : String) (x : V) (H : Hp) : Prop := match x with
  | .str _ => T = "str"
  | .int _ => T = "int"
  | .ref p => (T = "list" ∧ ∃ xs, SqL K H p xs) ∨ (T = "tuple" ∧ ∃ o, K.lookup p = some o ∧ o.cls = .type "tuple" ∧ o.dict = none) ∨
      (T = "dict" ∧ ((∃ kvs, H p = some (.dK kvs)) ∨ ∃ kvs, H p = some (.dT kvs))) ∨ (T = "set" ∧ ∃ S n, H p = some (.set S n))
  | _ => False
theorem tyV_is {pins : List (Addr × Obj)} {σ : St} {H : Hp} {s : Shared} {T : String} {x : V} {v : Value} (I : Inv X pins σ H s) (r : RelV x v) (ty : tyV X.K T x H) :
    s.TypeIs v T ∧ ∀ a, v = .ref a → ∃ ob, s.heap.get? a = some ob ∧ ob.dict = none := by
  cases x with
  | str z =>
    obtain ⟨t, rfl⟩ := r
    cases (show T = "str" from ty)
    exact ⟨typeIs_str s z t, fun _ e => nomatch e⟩
  | int i =>
    obtain ⟨t, rfl⟩ := r
    cases (show T = "int" from ty)
    exact ⟨typeIs_int s i t, fun _ e => nomatch e⟩
  | ref p =>
    cases r
    rcases ty with ⟨rfl, xs, hq⟩ | ⟨rfl, o, hk, hc, hd⟩ | ⟨rfl, hk⟩ | ⟨rfl, S, n, hk⟩
    · obtain ⟨its, _, pl, _⟩ := I.list hq
      refine ⟨pl.isList.typeIs, fun a e => ?_⟩
      cases e
      obtain ⟨o, n, e, c, hd, _⟩ := pl
      exact ⟨o, e, hd⟩
    · refine ⟨⟨o, I.kIn p o hk, hc⟩, fun a e => ?_⟩
      cases e
      exact ⟨o, I.kIn _ o hk, hd⟩
    · have z : ∃ o, s.heap.get? p = some o ∧ o.ExactDict := by
        rcases hk with ⟨kvs, hk⟩ | ⟨kvs, hk⟩
        · obtain ⟨_, _, _, _, o, _, _, e, ex, _⟩ := I.hok p _ hk
          exact ⟨o, e, ex⟩
        · obtain ⟨_, _, _, _, o, _, _, e, ex, _⟩ := I.hok p _ hk
          exact ⟨o, e, ex⟩
      obtain ⟨o, e, ex⟩ := z
      refine ⟨⟨o, e, ex.1⟩, fun a e2 => ?_⟩
      cases e2
      exact ⟨o, e, ex.2.1⟩
    · obtain ⟨o, _, _, _, e, ex, _⟩ := I.hok p _ hk
      refine ⟨⟨o, e, ex.1⟩, fun a e2 => ?_⟩
      cases e2
      exact ⟨o, e, ex.2.1⟩
  | _ => exact False.elim ty
def tBM (K : PySem.W.Frag) (T : String) (r : V → List V → Hp → VK → Prop) (to : TE) (t : TA) : TE := fun σ H Q => to σ H fun x H1 => tyV K T x H1 ∧ t σ H1 fun xs H2 => r x xs H2 Q
variable {o e : Expr} {es : List Expr} {to : TE} {t : TA} {name : Str} {apos cpos : Pos} {T id : String} {r : V → List V → Hp → VK → Prop}
theorem pe_bm (pa : PlainAttrs T) (slot : Slot T name id) (hty : typeOf (.builtin id) = pure (.type "method_descriptor")) (hm : MtR X id r) (ho : PE X o to) (ha : PA X (e :: es) t)
    (hbase : attributeBase o name X.env (eval o X.env) = eval o X.env := by rfl)
    (hfew : ((backTo cpos (starEach (e :: es) X.env)).all (fun x => !x.1) && (backToKw cpos (keywordEach [] X.env)).all (fun x => x.1.isSome)
      && decide ((e :: es).length + ([] : List Keyword).length + (if ([] : List Keyword).isEmpty then 0 else 1) < 30)) = true := by rfl)
    (hline : (apos.endLine == cpos.line) = true := by rfl) (hs : starEach (e :: es) X.env = (false, eval e X.env) :: starEach es X.env := by rfl) (hplain : (backTo cpos (starEach es X.env)).any (·.1) = false := by rfl) :
    PE X (.Call (.Attribute o name apos) (e :: es) [] cpos) (tBM X.K T r to t) := by
  intro pins s σ H Q I h
  refine wpAny_Call_method_late hbase hfew hline rfl (thn (ho pins s σ H _ I h) fun v s1 ⟨x, H1, I1, r1, ty, q1⟩ => ?_)
  obtain ⟨h1, h2⟩ := tyV_is I1 r1 ty
  refine ⟨T, id, pa, slot, hty, h1, h2, ?_⟩
  have hA := ha cpos pins s1 σ H1 _ I1 q1
  rw [hs] at hA ⊢
  refine Calls.callWith_builtin (by show (false || (backTo cpos (starEach es X.env)).any (·.1)) = false; rw [hplain] <;> rfl) (Calls.evalArgs_plain ?_)
  exact thn hA fun us s2 ⟨vs, H2, I2, r2, q2⟩ => hm pins s2 σ H2 x vs v us Q I2 r1 r2 q2
end
end L2

namespace L2
open PySem PySem.Spec PyProof.Rows

def MtM (X : Cx) (id : String) (r : V → List V → Hp → VK → Prop) : Prop :=
  ∀ (pins : List (Addr × Obj)) (s : Shared) (σ : St) (H : Hp) (x : V) (xs : List V) (v : Value) (us : List Value) (Q : VK), Inv X pins σ H s → RelV x v → Vals xs us → r x xs H Q →
    wpAny (model X.prog X.w) X.A (call (.builtin id) (v :: us)) (EP X pins σ Q) X.xe s

theorem Vals.one : ∀ {x : V} {us : List Value}, Vals [x] us → ∃ u, us = [u] ∧ RelV x u
  | _, _, .cons r .nil => ⟨_, rfl, r⟩
section
variable {X : Cx} {pins : List (Addr × Obj)} {σ : St} {H : Hp} {s : Shared} {l b : Addr} {xs ys zs : List V}

theorem Inv.lset {its its' : List Value} {n : Nat} {f : Array Value → Array Value} {t' : Nat} (I : Inv X pins σ H s) (hH : H l = some (.lst xs))
    (e : s.heap.get? l = some { cls := .type "list", data := .seq its.toArray n }) (hf : f its.toArray = its'.toArray) (hv : Vals ys its') (hz : ys.length ≤ sizeLine) :
    Inv X pins σ (upd H l (.lst ys)) { s with heap := s.heap.update l (Obj.mapSeq f), toks := t' } := by
  have q := PySem.IsL.update e f
  rw [hf] at q
  refine I.write (x := l) (e := l) (by rw [hH]; exact trivial) (.inl rfl) (fun b' u hb hu => (Heap.get?_update_other s.heap (Obj.mapSeq f) (Ne.symm hb)).trans hu) ⟨_, q⟩ ?_
  exact ⟨hz, its', _, hv, q⟩
theorem Inv.lnew {its : List Value} {t' : Nat} (I : Inv X pins σ H s) (hv : Vals ys its) (hz : ys.length ≤ sizeLine) :
    Inv X pins σ (upd H s.heap.objs.size (.lst ys)) { s with heap := s.heap.push { cls := .type "list", data := .seq its.toArray }, toks := t' } :=
  I.laid (fun _ _ q => Heap.get?_push_of_some _ q) (Nat.le_refl _) ⟨hz, its, 0, hv, Heap.get?_push_size _ rfl⟩
theorem Inv.fresh (I : Inv X pins σ H s) : H s.heap.objs.size = none := I.hok.fresh (Nat.le_refl _)
theorem Inv.lstM (I : Inv X pins σ H s) (hH : H l = some (.lst xs)) : xs.length ≤ sizeLine ∧ ∃ (its : List Value) (n : Nat), Vals xs its ∧ xs.length = its.length ∧ s.heap.get? l = some { cls := .type "list", data := .seq its.toArray n } := by
  obtain ⟨z, its, n, r, e⟩ := I.hok l _ hH
  exact ⟨z, its, n, r, r.length, e⟩

end

section
variable {X : Cx}

def rAppend : V → List V → Hp → VK → Prop := fun x vs H Q => ∃ l xs y, x = .ref l ∧ vs = [y] ∧ H l = some (.lst xs) ∧ xs.length < sizeLine ∧ Q .non (upd H l (.lst (xs ++ [y])))
theorem mt_append : MtM X "list.append" rAppend := by
  intro pins s σ H x vs v us Q I rx rv h
  obtain ⟨l, xs, y, rfl, rfl, hH, hz, q⟩ := h
  cases rx
  obtain ⟨u, rfl, ru⟩ := rv.one
  obtain ⟨z, its, n, r, hl, e⟩ := I.lstM hH
  refine call_meets F.slot_list_append ⟨_, e, rfl⟩ F.entry_list_append (F.args_list_append_2 _ _) (PySem.list_append l its.toArray n u (by rw [List.size_toArray]; omega)) ⟨e, ?_⟩
  refine ⟨.non, _, I.lset (its' := its ++ [u]) hH e (by simp) (r.append (.cons ru .nil)) ?_, rfl, q⟩
  rw [List.length_append, List.length_singleton]
  omega

def rCat : R2 := fun x y H Q => ∃ l b xs zs, x = .ref l ∧ y = .ref b ∧ H l = some (.lst xs) ∧ H b = some (.lst zs) ∧ xs.length + zs.length ≤ sizeLine ∧ ∀ p, H p = none → Q (.ref p) (upd H p (.lst (xs ++ zs)))
theorem op_cat : OpR X (binaryOp .Add) rCat := by
  intro pins s σ H x y v u Q I rx ry h
  obtain ⟨l, b, xs, zs, rfl, rfl, hH, hB, hz, q⟩ := h
  cases rx
  cases ry
  obtain ⟨z, its, n, r, hl, e⟩ := I.lstM hH
  obtain ⟨z2, its2, n2, r2, hl2, e2⟩ := I.lstM hB
  refine PySem.P.add_list e e2 ?_ (by rw [List.size_toArray, List.size_toArray]; omega)
  have ea : its.toArray ++ its2.toArray = (its ++ its2).toArray := by simp
  rw [ea]
  exact ⟨.ref _, _, I.lnew (t' := s.toks) (r.append r2) (by rw [List.length_append]; omega), rfl, q _ I.fresh⟩
end

section
variable {prog : Program} {w : World} {A : Around} {E : Value → Shared → Prop} {s : Shared}
end

section
variable {X : Cx}
end
end L2

namespace L2
open PySem PySem.Spec PyProof.Rows

section
variable {κ : Type} [DecidableEq κ]
def valV (kvs : List (κ × V)) (k : κ) : Option V := (kvs.find? fun kv => decide (kv.1 = k)).map (·.2)
def putK (kvs : List (κ × V)) (k : κ) (v : V) : List (κ × V) :=
  if (kvs.any fun kv => decide (kv.1 = k)) = true then kvs.map (fun kv => if kv.1 = k then (kv.1, v) else kv) else kvs ++ [(k, v)]
theorem valV_pos {p : κ × V} {r : List (κ × V)} {k : κ} (e : p.1 = k) : valV (p :: r) k = some p.2 := by simp [valV, List.find?_cons, e]
theorem valV_neg {p : κ × V} {r : List (κ × V)} {k : κ} (e : ¬ p.1 = k) : valV (p :: r) k = valV r k := by simp [valV, List.find?_cons, e]
theorem valV_any (k : κ) : ∀ kvs : List (κ × V), (kvs.any fun kv => decide (kv.1 = k)) = (valV kvs k).isSome
  | [] => rfl
  | p :: r => by
    rw [List.any_cons]
    by_cases e : p.1 = k
    · simp only [valV_pos e, decide_eq_true e, Bool.true_or, Option.isSome_some]
    · rw [valV_neg e, decide_eq_false e, Bool.false_or]; exact valV_any k r
theorem length_putK (kvs : List (κ × V)) (k : κ) (v : V) : (putK kvs k v).length ≤ kvs.length + 1 := by
  unfold putK
  split
  · rw [List.length_map]; omega
  · rw [List.length_append, List.length_cons, List.length_nil]; omega
theorem RelO.isSome_eq {o : Option V} {u : Option Value} (r : RelO o u) : o.isSome = u.isSome := by
  cases o with
  | none => cases u with
    | none => rfl
    | some _ => exact (show False from r).elim
  | some _ => cases u with
    | none => exact (show False from r).elim
    | some _ => rfl
theorem RelO.getD {o : Option V} {u : Option Value} {d : V} {d' : Value} (r : RelO o u) (rd : RelV d d') : RelV (o.getD d) (u.getD d') := by
  cases o with
  | none => cases u with
    | none => exact rd
    | some _ => exact (show False from r).elim
  | some _ => cases u with
    | none => exact (show False from r).elim
    | some _ => exact r

theorem KV.val {kvs : List (κ × V)} {vs : List (κ × Value)} (r : KV kvs vs) (k : κ) : RelO (valV kvs k) (valueAt vs k) := by
  unfold KV at r
  induction r with
  | nil => exact True.intro
  | @cons p q ps qs h t ih =>
    obtain ⟨h1, h2⟩ := h
    by_cases e : p.1 = k
    · have e' : q.1 = k := h1.symm.trans e
      have b : valueAt (q :: qs) k = some q.2 := by simp [valueAt, List.find?_cons, e']
      rw [valV_pos e, b]; exact h2
    · have e' : ¬ q.1 = k := fun z => e (h1.trans z)
      have b : valueAt (q :: qs) k = valueAt qs k := by simp [valueAt, List.find?_cons, e']
      rw [valV_neg e, b]; exact ih
theorem KV.any {kvs : List (κ × V)} {vs : List (κ × Value)} (r : KV kvs vs) (k : κ) : (kvs.any fun kv => decide (kv.1 = k)) = vs.any fun kv => decide (kv.1 = k) := by
  unfold KV at r
  induction r with
  | nil => rfl
  | cons h t ih => rw [List.any_cons, List.any_cons, ih, h.1]
theorem KV.repl {kvs : List (κ × V)} {vs : List (κ × Value)} (r : KV kvs vs) (k : κ) {y : V} {u : Value} (ry : RelV y u) :
    KV (kvs.map fun kv => if kv.1 = k then (kv.1, y) else kv) (vs.map fun kv => if kv.1 = k then (kv.1, u) else kv) := by
  unfold KV at r ⊢
  induction r with
  | nil => exact .nil
  | @cons p q ps qs h t ih =>
    rw [List.map_cons, List.map_cons]
    refine .cons ?_ ih
    obtain ⟨h1, h2⟩ := h
    by_cases e : p.1 = k
    · rw [if_pos e, if_pos (h1.symm.trans e)]; exact ⟨h1, ry⟩
    · rw [if_neg e, if_neg (fun z => e (h1.trans z))]; exact ⟨h1, h2⟩
theorem KV.put {kvs : List (κ × V)} {vs : List (κ × Value)} (r : KV kvs vs) (k : κ) {y : V} {u : Value} (ry : RelV y u) : KV (putK kvs k y) (stored vs k u) := by
  unfold putK stored
  rw [r.any k]
  by_cases e : (vs.any fun kv => decide (kv.1 = k)) = true
  · rw [if_pos e, if_pos e]; exact r.repl k ry
  · rw [if_neg e, if_neg e]; exact Paired.snoc r ⟨rfl, ry⟩
theorem KV.length {kvs : List (κ × V)} {vs : List (κ × Value)} (r : KV kvs vs) : kvs.length = vs.length := Paired.length r
end


theorem kV_is {P : Program} {w : World} {k : Key} {u : Value} (r : RelV (kV k) u) : (mixKind P w).is k u = true := by
  cases k with
  | inl i => obtain ⟨t, e⟩ := (show ∃ t, u = Value.int i t from r); subst e; exact mixKind_int P w i t
  | inr x => obtain ⟨t, e⟩ := (show ∃ t, u = Value.str x t from r); subst e; exact mixKind_str P w x t
theorem items_are {P : Program} {w : World} : ∀ {ks : List Key} {us : List Value}, Vals (ks.map kV) us → ItemsAre (mixKind P w) ks us
  | [], _, r => by rw [List.map_nil] at r; cases r; exact .nil
  | k :: ks, _, r => by
    rw [List.map_cons] at r
    cases r with
    | cons h t => exact .cons (kV_is h) (items_are t)

abbrev KT (H : Hp) : List (List Key × V) → List (List Key × Addr × Value) → Prop := Paired fun p q => p.1 = q.1 ∧ H q.2.1 = some (.tup (p.1.map kV)) ∧ RelV p.2 q.2.2
theorem KT.val {H : Hp} {kvs : List (List Key × V)} {xs : List (List Key × Addr × Value)} (r : KT H kvs xs) (k : List Key) : RelO (valV kvs k) ((atKey xs k).map (·.2)) := by
  induction r with
  | nil => exact True.intro
  | @cons p q ps qs h t ih =>
    obtain ⟨h1, _, h2⟩ := h
    by_cases e : p.1 = k
    · have e' : q.1 = k := h1.symm.trans e
      have b : atKey (q :: qs) k = some q.2 := by simp [atKey, List.find?_cons, e']
      rw [valV_pos e, b]; exact h2
    · have e' : ¬ q.1 = k := fun z => e (h1.trans z)
      have b : atKey (q :: qs) k = atKey qs k := by simp [atKey, List.find?_cons, e']
      rw [valV_neg e, b]; exact ih
theorem KT.repl {H : Hp} {kvs : List (List Key × V)} {xs : List (List Key × Addr × Value)} (r : KT H kvs xs) (k : List Key) {y : V} {u : Value} (ry : RelV y u) :
    KT H (kvs.map fun kv => if kv.1 = k then (kv.1, y) else kv) (xs.map (putAt k u)) := by
  induction r with
  | nil => exact .nil
  | @cons p q ps qs h t ih =>
    rw [List.map_cons, List.map_cons]
    refine .cons ?_ ih
    obtain ⟨h1, h2, h3⟩ := h
    unfold putAt
    by_cases e : p.1 = k
    · rw [if_pos e, if_pos (h1.symm.trans e)]; exact ⟨h1, h2, ry⟩
    · rw [if_neg e, if_neg (fun z => e (h1.trans z))]; exact ⟨h1, h2, h3⟩
theorem KT.put {H : Hp} {kvs : List (List Key × V)} {xs : List (List Key × Addr × Value)} (r : KT H kvs xs) (k : List Key) {b : Addr} {y : V} {u : Value} (hb : H b = some (.tup (k.map kV))) (ry : RelV y u) :
    KT H (putK kvs k y) (storedH xs k b u) := by
  have e : (kvs.any fun kv => decide (kv.1 = k)) = (atKey xs k).isSome := by
    rw [valV_any, (r.val k).isSome_eq, Option.isSome_map]
  unfold putK storedH
  rw [e]
  by_cases q : (atKey xs k).isSome = true
  · rw [if_pos q, if_pos q]; exact r.repl k ry
  · rw [if_neg q, if_neg q]; exact Paired.snoc r ⟨rfl, hb, ry⟩
theorem KT.keeps {H H' : Hp} {kvs : List (List Key × V)} {xs : List (List Key × Addr × Value)} (r : KT H kvs xs) (ht : ∀ b ys, H b = some (.tup ys) → H' b = some (.tup ys)) : KT H' kvs xs :=
  Paired.mapP r fun _ _ z => ⟨z.1, ht _ _ z.2.1, z.2.2⟩

section
variable {P : Program} {w : World} {H : Hp} {h : Heap} {a : Addr}
theorem rd_of {u : HO} (ok : HOk P w H h) (e : Rd H a u) : ObjOk P w H h a u := e.ok ok
theorem dk_rd {kvs : List (Key × V)} (ok : HOk P w H h) (e : Rd H a (.dK kvs)) : kvs.length ≤ sizeLine ∧ (a == sysModules) = false ∧ ∃ vs, KV kvs vs ∧ h.DictOf (mixKind P w) a vs :=
  show ObjOk P w H h a (.dK kvs) from rd_of ok e
theorem dk_of {kvs : List (Key × V)} (ok : HOk P w H h) (e : H a = some (.dK kvs)) : kvs.length ≤ sizeLine ∧ (a == sysModules) = false ∧ ∃ vs, KV kvs vs ∧ h.DictOf (mixKind P w) a vs := dk_rd ok (.inl e)
theorem key_of {ks : List Key} (ok : HOk P w H h) (e : H a = some (.tup (ks.map kV))) : (tupleKind (mixKind P w)).is h ks a := by
  obtain ⟨_, its, r, o, h1, h2, n, h3⟩ := (show ObjOk P w H h a (.tup (ks.map kV)) from ok a _ e)
  exact ⟨o, its.toArray, n, h1, h2, h3, by simpa using items_are r⟩
theorem dt_rd {kvs : List (List Key × V)} (ok : HOk P w H h) (e : Rd H a (.dT kvs)) : kvs.length ≤ sizeLine ∧ (a == sysModules) = false ∧
    ∃ xs, KT H kvs xs ∧ h.DictOfH (tupleKind (mixKind P w)) a xs := by
  obtain ⟨z, y, xs, r, o, es, ep, h1, h2, h3, h4, h5⟩ := (show ObjOk P w H h a (.dT kvs) from rd_of ok e)
  refine ⟨z, y, xs, r, o, es, ep, h1, h2, h3, h4, fun x hx => ?_, h5⟩
  have all : ∀ {l : List (List Key × V)} {m : List (List Key × Addr × Value)}, KT H l m → ∀ x ∈ m, (tupleKind (mixKind P w)).is h x.1 x.2.1 := by
    intro l m q
    induction q with
    | nil => intro x hx; exact nomatch hx
    | @cons p q ps qs hq t ih =>
      intro x hx
      rcases List.mem_cons.mp hx with e | hx
      · subst e
        exact key_of ok (by rw [← hq.1]; exact hq.2.1)
      · exact ih x hx
  exact all r x hx
theorem dt_of {kvs : List (List Key × V)} (ok : HOk P w H h) (e : H a = some (.dT kvs)) : kvs.length ≤ sizeLine ∧ (a == sysModules) = false ∧
    ∃ xs, KT H kvs xs ∧ h.DictOfH (tupleKind (mixKind P w)) a xs := dt_rd ok (.inl e)
end

def DGet (H : Hp) (a : Addr) (y : V) (r : Option V) : Prop :=
  (∃ kvs k, Rd H a (.dK kvs) ∧ y = kV k ∧ r = valV kvs k) ∨ ∃ kvs k b, Rd H a (.dT kvs) ∧ y = .ref b ∧ H b = some (.tup (k.map kV)) ∧ r = valV kvs k
def DPut (H : Hp) (a : Addr) (y v : V) (H' : Hp) : Prop :=
  (∃ kvs k, H a = some (.dK kvs) ∧ y = kV k ∧ kvs.length < sizeLine ∧ H' = upd H a (.dK (putK kvs k v))) ∨
  ∃ kvs k b, H a = some (.dT kvs) ∧ y = .ref b ∧ H b = some (.tup (k.map kV)) ∧ kvs.length < sizeLine ∧ H' = upd H a (.dT (putK kvs k v))
theorem DGet.k {H : Hp} {a : Addr} {kvs : List (Key × V)} {k : Key} (e : H a = some (.dK kvs)) : DGet H a (kV k) (valV kvs k) := .inl ⟨kvs, k, .inl e, rfl, rfl⟩
theorem DPut.k {H : Hp} {a : Addr} {kvs : List (Key × V)} {k : Key} {v : V} (e : H a = some (.dK kvs)) (hl : kvs.length < sizeLine) : DPut H a (kV k) v (upd H a (.dK (putK kvs k v))) := .inl ⟨kvs, k, e, rfl, hl, rfl⟩
section
variable {X : Cx} {pins : List (Addr × Obj)} {σ : St} {H : Hp} {s : Shared} {a : Addr} {y v : V} {u r : Value} {o : Option V} {A : Around} {E : Value → Shared → Prop}

theorem Inv.big (I : Inv X pins σ H s) : sysModules < s.heap.objs.size := by
  have h : mainGlobals < s.heap.objs.size := (I.mod.glob.keeps I.bk).lt
  exact Nat.lt_trans (by decide) h

theorem d_write {h' : Heap} {t' : Nat} {ob : HO} (I : Inv X pins σ H s) (mu : Mut (H a)) (hs : Heap.SameBut a s.heap h') (he : ∃ q, h'.get? a = some q) (new : ObjOk X.prog X.w (upd H a ob) h' a ob) :
    Inv X pins σ (upd H a ob) { s with heap := h', toks := t' } :=
  I.write (x := a) (e := a) mu (.inl rfl) (fun b q hb z => (hs.2 b hb).trans z) he new
theorem dk_new {P : Program} {w : World} {H' : Hp} {h' : Heap} {kvs : List (Key × V)} {vs : List (Key × Value)} (z : kvs.length ≤ sizeLine) (hd : (a == sysModules) = false) (rel : KV kvs vs) (dd : h'.DictOf (mixKind P w) a vs) :
    ObjOk P w H' h' a (.dK kvs) := ⟨z, hd, vs, rel, dd⟩
theorem d_setItem {H' : Hp} {Q : Unit → Shared → Prop} (hu : A.units + 1 < cLine) (I : Inv X pins σ H s) (g : DPut H a y v H') (ry : RelV y u) (rv : RelV v r) (h : ∀ s', Inv X pins σ H' s' → Q () s') :
    wpAny (model X.prog X.w) A (setItem (.ref a) u r) Q E s := by
  rcases g with ⟨kvs, k, e, ey, l, eH⟩ | ⟨kvs, k, b, e, ey, eb, l, eH⟩
  · subst ey eH
    obtain ⟨z, hd, vs, rel, dd⟩ := dk_of I.hok e
    have hz : vs.length ≤ sizeLine := by rw [← rel.length]; exact z
    have hl : (putK kvs k v).length ≤ sizeLine := by have := length_putK kvs k v; omega
    refine wpAny_setItem_pairs (hsz := hz) (kV_is ry) dd fun h' dd' hs => h _ ?_
    have he : ∃ q, h'.get? a = some q := let ⟨q, _, _, hq, _⟩ := dd'; ⟨q, hq⟩
    exact d_write I (by rw [e]; exact True.intro) hs he (dk_new hl hd (rel.put k rv) dd')
  · subst ey eH
    cases (show u = Value.ref b from ry)
    obtain ⟨z, hd, xs, rel, dd⟩ := dt_of I.hok e
    have hz : xs.length ≤ sizeLine := by rw [← Paired.length rel]; exact z
    have hl : (putK kvs k v).length ≤ sizeLine := by have := length_putK kvs k v; omega
    refine wpAny_setItem_heap (hsz := hz) (tupleKind_room_in1 hu) (key_of I.hok eb) dd fun h' dd' hs => h _ ?_
    obtain ⟨q, es, ep, hq, h2, h3, h4, _, h5⟩ := dd'
    refine d_write I (by rw [e]; exact True.intro) hs ⟨q, hq⟩ ⟨hl, hd, _, (rel.put k eb rv).keeps fun c ys ec => ?_, q, es, ep, hq, h2, h3, h4, h5⟩
    rw [upd_ne (ne_of ec e (fun z => nomatch z))]
    exact ec
end

section
variable {X : Cx} {pins : List (Addr × Obj)} {σ : St} {H : Hp} {s : Shared} {a : Addr} {kvs : List (Key × V)} {k : Key} {u : Value} {A : Around} {E : Value → Shared → Prop}
theorem d_len {Q : Value → Shared → Prop} (I : Inv X pins σ H s) (e : Rd H a (.dK kvs)) (h : ∀ t s', Inv X pins σ H s' → Q (.int kvs.length t) s') : wpAny (model X.prog X.w) A (call (.builtin "len") [.ref a]) Q E s := by
  obtain ⟨z, hd, vs, rel, dd⟩ := dk_rd I.hok e
  refine call_len_dict hd dd (by rw [← rel.length]; rw [sizeLine_eq] at z; omega) ?_
  rw [← rel.length]
  exact h _ _ (I.tok _)
end


def sDPut (td ty tv : TE) : TS := fun D σ H => tv σ H fun v H1 => td σ H1 fun x H2 => ty σ H2 fun y H3 => ∃ a H4, x = .ref a ∧ DPut H3 a y v H4 ∧ D.nx σ H4
section
variable {X : Cx} {o i e value : Expr} {pos pos' tpos : Pos} {td ty tv : TE}
theorem ps_dput (hu : X.A.units + 1 < cLine) (ho : PE X o td) (hi : PE X i ty) (hv : PE X value tv) (hs : swapsWith value (some (.Subscript o i pos')) pos.line X.env = pure false) :
    PS X (.Assign [.Subscript o i pos'] value pos) (sDPut td ty tv) := by
  intro pins s σ H D I h
  refine wpAny_Assign_Subscript (thn (hv pins s σ H _ I h) fun r s1 ⟨v, H1, I1, rv, q1⟩ => thn (ho pins s1 σ H1 _ I1 q1) fun u s2 ⟨x, H2, I2, rx, q2⟩ => thn (hi pins s2 σ H2 _ I2 q2) fun iv s3 ⟨y, H3, I3, ry, a, H4, ex, g, q3⟩ => ?_) hs
  subst ex
  obtain rfl : u = Value.ref a := rx
  exact d_setItem hu I3 g ry rv fun s4 I4 => ⟨σ, H4, I4, q3⟩
end


theorem dk_empty {P : Program} {w : World} {H : Hp} (h : Heap) (hb : sysModules < h.objs.size) : ObjOk P w H (h.push { cls := .type "dict", data := .dict #[] }) h.objs.size (.dK []) :=
  ⟨Nat.zero_le _, beq_eq_false_iff_ne.mpr (Ne.symm (Nat.ne_of_lt hb)), [], .nil, Heap.DictOf.new h⟩
def tDNewK : TE := fun _ H Q => ∀ p, H p = none → Q (.ref p) (upd H p (.dK []))
section
variable {X : Cx} {pos : Pos}
theorem pe_dnewK : PE X (.Dict [] [] pos) tDNewK := fun pins s σ H Q I h =>
  wpAny_Dict_empty ⟨.ref s.heap.objs.size, _, I.laid (a := s.heap.objs.size) (o := .dK []) (t' := s.toks) (fun _ _ q => Heap.get?_push_of_some _ q) (Nat.le_refl _) (dk_empty s.heap I.big), rfl, h _ (I.hok.fresh (Nat.le_refl _))⟩
end

structure M1 (X : Cx) (o : Expr) (m : Str) (apos : Pos) (e : Expr) (cpos : Pos) : Prop where
  base : attributeBase o m X.env (eval o X.env) = eval o X.env
  few : ((backTo cpos (starEach [e] X.env)).all (fun x => !x.1) && (backToKw cpos (keywordEach [] X.env)).all (fun x => x.1.isSome)
    && decide (([e] : List Expr).length + ([] : List Keyword).length + (if ([] : List Keyword).isEmpty then 0 else 1) < 30)) = true
  line : (apos.endLine == cpos.line) = true
  trees : backTo cpos (starEach [e] X.env) = [(false, eval e X.env)]
structure M2 (X : Cx) (o : Expr) (m : Str) (apos : Pos) (e f : Expr) (cpos : Pos) : Prop where
  base : attributeBase o m X.env (eval o X.env) = eval o X.env
  few : ((backTo cpos (starEach [e, f] X.env)).all (fun x => !x.1) && (backToKw cpos (keywordEach [] X.env)).all (fun x => x.1.isSome)
    && decide (([e, f] : List Expr).length + ([] : List Keyword).length + (if ([] : List Keyword).isEmpty then 0 else 1) < 30)) = true
  line : (apos.endLine == cpos.line) = true
  trees : backTo cpos (starEach [e, f] X.env) = [(false, eval e X.env), (false, eval f X.env)]

def IsD (H : Hp) (a : Addr) : Prop := (∃ kvs, Rd H a (.dK kvs)) ∨ ∃ kvs, Rd H a (.dT kvs)
theorem isD_at {X : Cx} {pins : List (Addr × Obj)} {σ : St} {H : Hp} {s : Shared} {a : Addr} (I : Inv X pins σ H s) (d : IsD H a) :
    s.TypeIs (.ref a) "dict" ∧ (∀ b, Value.ref a = .ref b → ∃ ob, s.heap.get? b = some ob ∧ ob.dict = none) ∧ (a == sysModules) = false := by
  rcases d with ⟨kvs, e⟩ | ⟨kvs, e⟩
  · obtain ⟨_, hd, vs, _, dd⟩ := dk_rd I.hok e
    refine ⟨dd.typeIs, fun b q => ?_, hd⟩
    cases q
    obtain ⟨ob, _, _, h1, h2, _⟩ := dd
    exact ⟨ob, h1, h2.2.1⟩
  · obtain ⟨_, hd, xs, _, dd⟩ := dt_rd I.hok e
    refine ⟨dd.typeIs, fun b q => ?_, hd⟩
    cases q
    obtain ⟨ob, _, _, h1, h2, _⟩ := dd
    exact ⟨ob, h1, h2.2.1⟩

section
variable {X : Cx} {pins : List (Addr × Obj)} {σ : St} {H : Hp} {s : Shared} {a : Addr} {y d : V} {u r : Value} {o : Option V} {A : Around} {E : Value → Shared → Prop}
theorem d_get2 {Q : Value → Shared → Prop} (hu : A.units + 1 < cLine) (I : Inv X pins σ H s) (g : DGet H a y o) (ry : RelV y u) (rd : RelV d r) (h : ∀ w' s', Inv X pins σ H s' → RelV (o.getD d) w' → Q w' s') :
    wpAny (model X.prog X.w) A (call (.builtin "dict.get") [.ref a, u, r]) Q E s := by
  rcases g with ⟨kvs, k, e, ey, l⟩ | ⟨kvs, k, b, e, ey, eb, l⟩
  · subst ey
    obtain ⟨z, hd, vs, rel, dd⟩ := dk_rd I.hok e
    refine call_meetsIn PySem.F.slot_dict_get dd.typeIs PySem.F.entry_dict_get (PySem.F.args_dict_get_3 _ _ _) (meets_dict_get_default (mixKind X.prog X.w) a (kV_is ry) hd r) ⟨_, dd.mapOf, h _ _ (I.tok _) ?_⟩
    rw [l]
    exact (rel.val k).getD rd
  · subst ey
    cases (show u = Value.ref b from ry)
    obtain ⟨z, hd, xs, rel, dd⟩ := dt_rd I.hok e
    refine call_meetsIn PySem.F.slot_dict_get dd.typeIs PySem.F.entry_dict_get (PySem.F.args_dict_get_3 _ _ _) (meetsH_dict_get_default (tupleKind (mixKind X.prog X.w)) a b hd r) ⟨tupleKind_room_in1 hu, k, xs, key_of I.hok eb, dd, h _ _ (I.tok _) ?_⟩
    rw [l]
    exact (rel.val k).getD rd
end

def tDGet2 (td ty tx : TE) : TE := fun σ H Q => td σ H fun x H1 => ∃ a, x = .ref a ∧ IsD H1 a ∧ ty σ H1 fun y H2 => tx σ H2 fun z H3 => ∃ o, DGet H3 a y o ∧ Q (o.getD z) H3
section
variable {X : Cx} {o e f : Expr} {apos cpos : Pos} {td ty tx : TE}
theorem pe_dget2 (hu : X.A.units + 1 < cLine) (ho : PE X o td) (he : PE X e ty) (hf : PE X f tx) (m : M2 X o "get" apos e f cpos) : PE X (.Call (.Attribute o "get" apos) [e, f] [] cpos) (tDGet2 td ty tx) := by
  intro pins s σ H Q I h
  refine wpAny_Call_method m.base m.few m.line PySem.F.plainAttrs_dict PySem.F.slot_dict_get PySem.F.type_dict_get (thn (ho pins s σ H _ I h) fun u s1 ⟨x, H1, I1, rx, a, ex, d, q1⟩ => ?_)
  subst ex
  obtain rfl : u = Value.ref a := rx
  obtain ⟨t1, t2, _⟩ := isD_at I1 d
  refine ⟨t1, t2, ?_⟩
  rw [m.trees]
  refine Calls.callWith_builtin rfl (Calls.evalArgs_plain (Calls.spliced_cons (thn (he pins s1 σ H1 _ I1 q1) fun iv s2 ⟨y, H2, I2, ry, q2⟩ =>
    Calls.spliced_cons (thn (hf pins s2 σ H2 _ I2 q2) fun fv s3 ⟨z, H3, I3, rz, ov, g, q3⟩ => Calls.spliced_nil ?_))))
  exact d_get2 hu I3 g ry rz fun w' s4 I4 rw' => ⟨_, H3, I4, rw', q3⟩
end

section
variable {X : Cx} {pins : List (Addr × Obj)} {σ : St} {H : Hp} {s : Shared} {a : Addr} {kvs : List (Key × V)} {A : Around} {E : Value → Shared → Prop}
end


section
variable {X : Cx} {pins : List (Addr × Obj)} {σ : St} {H : Hp} {s : Shared} {a : Addr} {y : V} {u : Value} {A : Around} {E : Value → Shared → Prop}
end
end L2


namespace Att
open PySem PySem.W PySem.Calls PyProof.Rows

theorem ints_of_wellAll {P : Params} {h : Heap} : ∀ (ns : List Int) (vs : List Value), WellAll P h vs (ns.map WData.int) → IntsAre vs ns := by
  intro ns
  induction ns with
  | nil =>
    intro vs w
    rw [List.map_nil] at w
    cases w
    exact .nil
  | cons n ns ih =>
    intro vs w
    rw [List.map_cons] at w
    cases w with
    | cons a b =>
      cases a
      exact .cons _ _ (ih _ b)

theorem script_of {l : OpenLaw} {n : Nat} (hn : l.most = some n) {P : Params} {h : Heap} {args : List WData} {vals : List Value}
    (hpre : l.row.toRowW.claim.pre args = true) (hwl : WellAll P h vals args) :
    ∃ a vs ns, vals = [Value.ref a] ∧ args = [WData.list (ns.map WData.int)] ∧ h.get? a = some { cls := .type "list", data := .seq vs.toArray } ∧ IntsAre vs ns ∧ ns.length ≤ n := by
  have hsh : WShape.hasAll [] args [.list .int] = true := (pre_splitW hpre).1
  have hc : l.pre.holds [] { args := args } = true := (pre_splitW hpre).2
  obtain ⟨d, r, rfl, h1, h2⟩ := hasAllW_cons hsh
  obtain rfl := hasAllW_nil h2
  obtain ⟨xs, rfl, h3⟩ := hasW_list h1
  obtain ⟨ns, rfl⟩ := items_int h3
  have hlen : ns.length ≤ n := by
    unfold OpenLaw.pre at hc
    have h4 : (WTm.not (.lt (.lit (.int (n : Int))) (.len (.arg 0)))).holds [] { args := [.list (ns.map .int)] } = true := by
      have h4 := (holds_andW hc).1
      rw [hn] at h4
      exact h4
    have h5 := condW_of h4 (w_not (w_lt w_lit (w_len_list (w_arg rfl))))
    rw [List.length_map] at h5
    refine Nat.le_of_not_lt fun q => ?_
    have q' : (n : Int) < ((ns.length : Nat) : Int) := by omega
    first
      | (rw [decide_eq_true q'] at h5; exact absurd h5 (by decide))
      | (simp at h5; omega)
  cases hwl with
  | cons w1 w2 =>
    cases w2
    cases w1 with
    | list ho hall => exact ⟨_, _, ns, rfl, rfl, ho, ints_of_wellAll ns _ hall, hlen⟩

theorem post_true (l : OpenLaw) (args : List WData) : l.row.toRowW.claim.post args (.bool true) args = true :=
  postW_of (r := l.row.toRowW) (X := (true == true))
    (show WShape.has [] (.bool true) .bool = true by first | rfl | decide | simp [WShape.has, WShape.arms, WShape.armsAll])
    (show (WTm.eq .res (.lit (.bool true))).value [] { args := args, res := some (.bool true), after := args } = some (.bool (true == true)) from w_eq_bool (w_res rfl) w_lit) rfl

theorem attach_call {l : OpenLaw} {n : Nat} {q : Program} {loose : List Str} {XP : (Str → Option Value) → Heap → Prop} {YP : World → Heap → Prop} {d : DefRec}
    (hn : l.most = some n) (hdf : d.params.defaults = [])
    (call : ∀ (w : World) (s₀ s₁ : Shared) (mg mb : Str → Option Value) (fa : Addr) (o : Obj) (pm cd doc : Value) (a : Addr) (vs : List Value) (ns : List Int),
      Ground q loose [] XP w s₀ mg mb s₁.heap → YP w s₁.heap →
      s₁.heap.get? fa = some o → o.data = .func (docDef d.name d.params d.body d.scope pm cd doc) → s₁.heap.CodeRec cd d.name → mg d.name = some (.ref fa) →
      s₁.heap.get? a = some { cls := .type "list", data := .seq vs.toArray } → IntsAre vs ns → ns.length ≤ n → s₁.gens = #[] →
      codeAny (model l.prog w) callerA (.call (.ref fa) ⟨[.ref a], []⟩) (fun r s' => r = .ok (.ret (.bool true)) ∧ OldK s₁.heap s'.heap ∧ s'.os = s₁.os ∧ AllBare s'.gens) s₁) :
    WalkO q loose XP YP l.row.toRowW d [] (fun f vs => PySem.call f vs) := by
  intro w s₀ s₁ mg mb G Y fa o pm cd doc dV kV ho hd hcd hD hmg hg args vals as hpre hlay hrd hwl hlo
  obtain rfl : dV = .none := Dflts.none hD hdf
  obtain rfl : kV = .none := Dflts.noKw hD
  obtain ⟨a, vs, ns, rfl, rfl, hobj, hints, hlen⟩ := script_of hn hpre hwl
  refine enter_call (codeAny_mono (call w s₀ s₁ mg mb fa o pm cd doc a vs ns G Y ho (fd_plain hd) hcd hmg hobj hints hlen hg) fun r s' hq => ?_)
  obtain ⟨rfl, h2, h3, h4⟩ := hq
  exact ⟨.inl ⟨.bool true, .bool true, [], rfl, fun _ => rfl, .bool true, post_true l _, fun _ => ⟨List.Pairwise.nil, fun _ hm => (nomatch hm)⟩⟩, h2, h3, h4⟩

section
variable {prog : Program} {w : World} {A : Around} {E : Value → Shared → Prop} {s : Shared} {K : Frag}

end
end Att

namespace L2
open PySem PySem.Spec PyProof.Rows

theorem vals_ints : ∀ {vs : List Value} {ns : List Int}, IntsAre vs ns → Vals (ns.map V.int) vs
  | _, _, .nil => .nil
  | _, _, .cons n t h => .cons ⟨t, rfl⟩ (vals_ints h)

def Only (H : Hp) : Prop := ∀ b, H b = none ∨ ∃ o xs, H b = some (.frz o (.lst xs))

theorem law_call {P : Program} {w : World} {K : PySem.W.Frag} {mg mb : Str → Option Value} {CX : CXT} {k : Nat} {fa a : Addr} {fd : FuncData} {x : Str} {sp : Sp} {s₁ : Shared} {vs : List Value} {ns : List Int}
    (KX : K.In s₁.heap) (hns : s₁.heap.Ns mainGlobals mg) (hb : s₁.heap.Ns builtinsNs mb) (hbb : ∀ x : Str, x ≠ "__name__" → mb x = bootBuiltins x) (hlim : s₁.heap.NoLimit) (hg : s₁.gens = #[])
    (ha : s₁.heap.get? a = some { cls := .type "list", data := .seq vs.toArray }) (hi : IntsAre vs ns) (hl : ns.length ≤ sizeLine) (hr : Room k callerA)
    (F : ∀ base : Heap, K.In base → base.Ns mainGlobals mg → FnOk P w K mg base CX k fa fd [x] sp) (hbind : ∀ (s : Shared) (u : Value), BindsTo s fd ⟨[u], []⟩ [(x, u)])
    (hsp : ∀ H : Hp, Only H → SqL K H a (ns.map V.int) → sp [.ref a] H (fun v _ => v = .bl true) fun _ _ _ => False)
    (hCX : ∀ H e s', CX [] H s₁ (fun _ _ _ => False) e s' → False) :
    codeAny (model P w) callerA (.call (.ref fa) ⟨[.ref a], []⟩) (fun r s' => r = .ok (.ret (.bool true)) ∧ OldK s₁.heap s'.heap ∧ s'.os = s₁.os ∧ AllBare s'.gens) s₁ := by
  have rv := vals_ints hi
  have lenV := hi.length
  -- from an abstract heap in which nothing but the script may be tracked
  have core : ∀ H : Hp, Only H → SqL K H a (ns.map V.int) → HOk P w H s₁.heap → (∀ b, H b ≠ none → b = a) → (H a ≠ none → K.lookup a = none) →
      codeAny (model P w) callerA (.call (.ref fa) ⟨[.ref a], []⟩) (fun r s' => r = .ok (.ret (.bool true)) ∧ OldK s₁.heap s'.heap ∧ s'.os = s₁.os ∧ AllBare s'.gens) s₁ := by
    intro H hO hS hok hA hK
    have base_of : ∀ {b : Addr} {o : Obj}, s₁.heap.get? b = some o → H b = none → (hidT s₁.heap H).get? b = some o := fun e n => hidT_get e n
    have noA : ∀ {b : Addr} {o : Obj} {es : Array DictEntry} {ep : Nat}, s₁.heap.get? b = some o → o.data = .dict es ep → H b = none := fun {b o es ep} e d => by
      cases q : H b with
      | none => rfl
      | some u =>
        have e' : b = a := hA b (by rw [q]; simp)
        subst e'
        rw [ha] at e; cases e
        have d' : Data.seq vs.toArray _ = Data.dict es ep := d
        cases d'
    have nsK : ∀ {b : Addr} {m : Str → Option Value}, s₁.heap.Ns b m → (hidT s₁.heap H).Ns b m := fun {b m} ⟨o, es, ep, e, d, r⟩ => ⟨o, es, ep, base_of e (noA e d), d, r⟩
    have hKb : K.In (hidT s₁.heap H) := fun b o e => base_of (KX b o e) (by
      cases q : H b with
      | none => rfl
      | some u =>
        have e' : b = a := hA b (by rw [q]; simp)
        subst e'
        rw [hK (by rw [q]; simp)] at e; cases e)
    have hM : Mod K mg (hidT s₁.heap H) := ⟨hKb, nsK hns, ⟨mb, nsK hb, hbb⟩, let ⟨mc, h1, h2⟩ := hlim; ⟨mc, nsK h1, h2⟩⟩
    have e0 : Env0 P w K mg (hidT s₁.heap H) callerA [] s₁ H := ⟨rfl, hM, fun b o e => of_hidT e, Nat.le_of_eq (hidT_size _ _), trivial, fun b hb => absurd (show b ∈ ([] : List Addr) from hb) (by simp), hok, .of_eq hg⟩
    refine codeAny_mono ((F _ hKb (nsK hns)).run callerA [] s₁ H ⟨[.ref a], []⟩ [.ref a] [.ref a] _ _ hr e0 (hbind s₁ (.ref a)) (.cons rfl .nil) (hsp H hO hS)) fun r s' h => ?_
    cases r with
    | error e => exact (hCX H e s' h).elim
    | ok fl =>
      cases fl with
      | next => exact False.elim h
      | brk => exact False.elim h
      | cont => exact False.elim h
      | ret u =>
        obtain ⟨v, H', os, bare, un, hok', r', q⟩ := h
        have q' : v = .bl true := q
        subst q'
        obtain rfl : u = Value.bool true := r'
        refine ⟨rfl, OldK.of_keep fun b o e => ?_, os, bare⟩
        cases q : H b with
        | none => exact un.keep b o e q (by intro z; exact absurd (show b ∈ ([] : List Addr) from z) (by simp)) (by simp)
        | some u =>
          rcases hO b with z | ⟨ob, xs, z⟩
          · rw [q] at z; cases z
          · have z2 := un.frzs b ob _ z
            obtain ⟨e1, _⟩ := hok b _ z
            obtain ⟨e2, _⟩ := hok' b _ z2
            rw [e] at e1; cases e1
            exact e2
  cases hk : K.lookup a with
  | some o =>
    -- the script is one of the module's own objects
    have e := KX a o hk
    rw [ha] at e
    cases e
    refine core (fun _ => none) (fun _ => .inl rfl) (.inr ⟨_, vs.toArray, _, hk, rfl, rfl, rfl, by rw [List.size_toArray, lenV]; exact hl, by simpa using rv⟩) (fun b u z => by have z' : (none : Option HO) = some u := z; cases z') (fun b z => absurd rfl z) fun z => absurd rfl z
  | none =>
    refine core (fun b => if b = a then some (.frz { cls := .type "list", data := .seq vs.toArray } (.lst (ns.map V.int))) else none) (fun b => ?_) (.inl (.inr ⟨{ cls := .type "list", data := .seq vs.toArray }, if_pos rfl⟩)) (fun b u z => ?_) (fun b z => ?_) fun _ => hk
    · by_cases hb : b = a
      · exact .inr ⟨_, _, if_pos hb⟩
      · exact .inl (if_neg hb)
    · by_cases hb : b = a
      · have z' := (if_pos hb).symm.trans z
        cases z'
        subst hb
        exact ⟨ha, by rw [List.length_map]; exact hl, vs, _, rv, ha⟩
      · have z' := (if_neg hb).symm.trans z
        cases z'
    · by_cases hb : b = a
      · exact hb
      · exact absurd (if_neg hb) z
end L2

namespace L2
open PySem PySem.Spec PyProof.Rows

abbrev KOf {K : PySem.W.Frag} {h : Heap} (_ : K.In h) : PySem.W.Frag := K

theorem walk_of {l : PySem.W.OpenLaw} {n k : Nat} {q : Program} {loose : List Str} {XP : (Str → Option Value) → Heap → Prop} {YP : World → Heap → Prop} {d : DefRec} {K : Params → PySem.W.Frag} {CX : World → CXT} {sp : World → Sp} {x : Str}
    (hn : l.most = some n) (hn2 : n ≤ sizeLine) (hdf : d.params.defaults = []) (hr : Room k callerA)
    (hY : ∀ (w : World) (h : Heap), YP w h → (K w.params).In h)
    (F : ∀ (w : World) (mg : Str → Option Value) (fa : Addr) (h : Heap), (K w.params).In h → h.Ns mainGlobals mg → mg d.name = some (.ref fa) →
      ∃ fd : FuncData, (∀ (s : Shared) (u : Value), BindsTo s fd ⟨[u], []⟩ [(x, u)]) ∧
        ∀ base : Heap, (K w.params).In base → base.Ns mainGlobals mg → FnOk l.prog w (K w.params) mg base (CX w) k fa fd [x] (sp w))
    (hsp : ∀ (w : World) (H : Hp) (a : Addr) (ns : List Int), ns.length ≤ n → Only H → SqL (K w.params) H a (ns.map V.int) → sp w [.ref a] H (fun v _ => v = .bl true) fun _ _ _ => False)
    (hCX : ∀ (w : World) (H : Hp) (s : Shared) (e : Value) (s' : Shared), CX w [] H s (fun _ _ _ => False) e s' → False) :
    PySem.W.WalkO q loose XP YP l.row.toRowW d [] (fun f vs => PySem.call f vs) := by
  refine Att.attach_call hn hdf fun w s₀ s₁ mg mb fa o pm cd doc a vs ns G Y ho hd hcd hmg hobj hints hlen hg => ?_
  have KX := hY w _ Y
  obtain ⟨fd, hb, hF⟩ := F w mg fa _ KX G.T.g hmg
  exact law_call KX G.T.g G.T.b G.T.builtins G.T.nolimit hg hobj hints (Nat.le_trans hlen hn2) hr hF hb (fun H hO hS => hsp w H a ns hlen hO hS) fun H e s' => hCX w H s₁ e s'
end L2


namespace L2
open PySem PySem.Spec PyProof.Rows

def inClass (s : Stmt) (j : Nat) : Stmt := match s with
  | .ClassDef _ _ _ body _ _ _ _ _ _ _ => body.getD j (.Pass ⟨0, 0, 0, 0⟩)
  | _ => .Pass ⟨0, 0, 0, 0⟩
def defArgs (s : Stmt) : Arguments := match s with
  | .FunctionDef _ a _ _ _ _ _ _ _ _ => a
  | _ => { posonlyargs := [], args := [], vararg := none, kwonlyargs := [], kw_defaults := [], kwarg := none, defaults := [] }
def defBody (s : Stmt) : List Stmt := match s with
  | .FunctionDef _ _ b _ _ _ _ _ _ _ => b
  | _ => []
def defScope (s : Stmt) : Scope := match s with
  | .FunctionDef _ _ _ _ _ _ sc _ _ _ => sc
  | _ => { kind := .function, names := [], isGenerator := false, isCoroutine := false }

abbrev CX0 : CXT := fun _ _ _ _ _ _ => False
abbrev E0 : XK := fun _ _ _ => False
theorem pass0 {X : Cx} : Passes CX0 X E0 := fun _ _ _ _ _ _ _ h => h.elim

structure Fun (K : PySem.W.Frag) (x qual : Str) (st : Stmt) (f : Addr) (fd : FuncData) : Prop where
  ex : ∃ (oc : Value) (od : Option Addr) (kV doc pm : Value) (an : Option Addr) (cdv ct : Value) (osl : Array (Option Value)),
    fd = PySem.W.fnOf x qual (defArgs st) (defBody st) (defScope st) .none kV doc pm an cdv ct ∧ K.lookup f = some ⟨oc, od, .func fd, osl⟩ ∧ PySem.W.codeIn K cdv qual = true
  kp : PySem.W.keepIn K (.ref f) = true
section
variable {P : Program} {w : World} {K : PySem.W.Frag} {mg : Str → Option Value} {base : Heap}
theorem Fun.ok {x qual : Str} {st : Stmt} {f : Addr} {fd : FuncData} {N ps : List Str} {k : Nat} {sp : Sp} (F : Fun K x qual st f fd) (S : FnScope N ps (defScope st)) (len : ∀ vs H Q E, sp vs H Q E → vs.length = ps.length)
    (hbody : ∀ (cdv : Value) (A : Around) (outer : List Env) (s : Shared) (H : Hp) (vs : List V) (Q : VK) (E : XK), Room k (A.deeper (envOfC qual (defScope st) s.heap.objs.size f cdv)) → sp vs H Q E →
      ∃ t, PSs (cxOf CX0 P w K mg base N qual (defScope st) f cdv A outer s H E).nox (defBody st) t ∧ t { nx := fun _ H' => Q .non H', rt := Q } (start N vs) H) : FnOk P w K mg base CX0 (k + 1) f fd ps sp := by
  obtain ⟨oc, od, kV, doc, pm, an, cdv, ct, osl, rfl, lk, hcd⟩ := F.ex
  refine fn_of lk hcd S len fun A outer s H vs Q E hr hsp => ?_
  obtain ⟨t, h, q⟩ := hbody cdv A outer s H vs Q E hr hsp
  exact ⟨t, h.nox, q⟩
theorem Fun.binds {x qual : Str} {st : Stmt} {f : Addr} {fd : FuncData} {ps : List Str} (F : Fun K x qual st f fd)
    (h : ∀ (kV doc pm : Value) (an : Option Addr) (cdv ct : Value) (us : List Value), us.length = ps.length → bindArgs (PySem.W.fnOf x qual (defArgs st) (defBody st) (defScope st) .none kV doc pm an cdv ct) ⟨us, []⟩ = pure (ps.zip us)) : Binds K fd ps [] := by
  obtain ⟨oc, od, kV, doc, pm, an, cdv, ct, osl, rfl, lk, hcd⟩ := F.ex
  exact .all (h kV doc pm an cdv ct)
theorem fun_mk {x qual : Str} {st : Stmt} {f : Addr} {oc : Value} {od an : Option Addr} {osl : Array (Option Value)} {kV doc pm cdv ct : Value} (l : K.lookup f = some ⟨oc, od, .func (PySem.W.fnOf x qual (defArgs st) (defBody st) (defScope st) .none kV doc pm an cdv ct), osl⟩)
    (c : PySem.W.codeIn K cdv qual = true) (k : PySem.W.keepIn K (.ref f) = true) : Fun K x qual st f (PySem.W.fnOf x qual (defArgs st) (defBody st) (defScope st) .none kV doc pm an cdv ct) := ⟨⟨oc, od, kV, doc, pm, an, cdv, ct, osl, rfl, l, c⟩, k⟩
end
theorem hu_of {A : Around} {k : Nat} (hr : Room k A) : A.units + 1 < cLine := Nat.lt_of_le_of_lt (Nat.add_le_add_left (by decide : 1 ≤ 64) _) hr.units
theorem small1000 {n : Nat} (h : n ≤ 1000) : n < sizeLine := Nat.lt_of_le_of_lt h (by decide)

section
variable {X : Cx}
theorem pv (i : Nat) {x : Str} {pos : Pos} (hN : X.N[i]? = some x := by rfl) (hv : Vis X.env.scope x := by first | exact Or.inl rfl | exact Or.inr (Or.inl rfl) | exact Or.inr (Or.inr rfl)) (hd : (x == ("__debug__" : Str)) = false := by decide)
    (hcd : (x == ("__classdict__" : Str)) = false := by decide) : PE X (.Name x pos) (tVar i) := pe_var hN hv hd hcd
end

theorem iteF {A B : Prop} (h : B) : if false = true then A else B := by
  rw [if_neg Bool.false_ne_true]
  exact h
theorem iteT {A B : Prop} (h : A) : if true = true then A else B := by
  rw [if_pos rfl]
  exact h
theorem ite2 {c A B : Prop} [Decidable c] (h1 : c → A) (h2 : ¬ c → B) : if c then A else B := by
  by_cases h : c
  · rw [if_pos h]
    exact h1 h
  · rw [if_neg h]
    exact h2 h
def Same (H H' : Hp) : Prop := ∀ b o, H b = some o → H' b = some o
theorem Same.refl (H : Hp) : Same H H := fun _ _ h => h
theorem Same.trans {H H1 H2 : Hp} (a : Same H H1) (b : Same H1 H2) : Same H H2 := fun c o h => b c o (a c o h)
theorem Same.seq {K : PySem.W.Frag} {H H' : Hp} {a : Addr} {xs : List V} (e : Same H H') (h : SqL K H a xs) : SqL K H' a xs := by
  rcases h with (h | ⟨o, h⟩) | h
  · exact .inl (.inl (e _ _ h))
  · exact .inl (.inr ⟨o, e _ _ h⟩)
  · exact .inr h

end L2

namespace L2
open PySem PySem.Spec PyProof.Rows
section
variable {X : Cx}
theorem call_lenD : CallR X (.builtin "len") (fun xs H Q => ∃ a kvs, xs = [V.ref a] ∧ H a = some (.dK kvs) ∧ Q (.int kvs.length) H) := by
  intro pins s σ H xs us Q I r h
  obtain ⟨a, kvs, rfl, ha, q⟩ := h
  obtain ⟨u, rfl, ru⟩ := vals1 r
  cases ru
  exact d_len I (.inl ha) fun t s' I' => ⟨.int kvs.length, H, I', ⟨t, rfl⟩, q⟩
end
section
variable {κ : Type} [DecidableEq κ]
end
end L2
end

section
set_option Elab.async false
set_option linter.all false
set_option maxRecDepth 100000
namespace L2
open PySem PySem.Spec PyProof.Rows

def blk (X : Cx) (scope : Scope) (cl : List (Str × Addr)) (C : Addr) (x : Str) (s₀ : Shared) (H₀ : Hp) (fp : List Addr) : Cx :=
  { X with N := x :: X.N, s₀ := s₀, H₀ := H₀, env := compEnvC scope cl C X.env, outer := X.stack, ex := fp, fn := fun _ => false, pn := [], xe := fun _ _ => False }

structure CompOk (X : Cx) (scope : Scope) (x : Str) : Prop where
  kind : scope.kind = .function
  ncell : ∀ y ∈ scope.names, y.2 ≠ .cell
  names : ∀ y ∈ scope.names, y.2 = .local → scope.names.lookup y.1 = some .local
  hx : scope.names.lookup x = some .local
  free : ∀ y ∈ scope.names, y.2 = .free → X.env.kindOf y.1 = some .cell ∨ X.env.kindOf y.1 = some .free
  out : ∀ y ∈ X.N, scope.names.lookup y ≠ some .local
  nd : X.N.Nodup

def compChk (sc : Scope) (N : List Str) (scope : Scope) (x : Str) : Bool :=
  scope.kind == .function && scope.names.all (fun y => y.2 != .cell) && scope.names.all (fun y => y.2 != .local || scope.names.lookup y.1 == some .local) && scope.names.lookup x == some .local &&
  scope.names.all (fun y => y.2 != .free || sc.names.lookup y.1 == some .cell || sc.names.lookup y.1 == some .free) && N.all (fun y => scope.names.lookup y != some .local)
theorem CompOk.of {X : Cx} {scope : Scope} {x : Str} (hN : X.N.Nodup) (h : compChk X.env.scope X.N scope x = true) : CompOk X scope x := by
  unfold compChk at h
  simp only [Bool.and_eq_true, List.all_eq_true, Bool.or_eq_true, bne_iff_ne, beq_iff_eq, ne_eq] at h
  obtain ⟨⟨⟨⟨⟨h1, h2⟩, h3⟩, h4⟩, h5⟩, h6⟩ := h
  refine ⟨h1, fun y hy => h2 y hy, fun y hy e => (h3 y hy).resolve_left fun z => z e, h4, fun y hy e => ?_, fun y hy => h6 y hy, hN⟩
  rcases h5 y hy with (z | z) | z
  · exact absurd e z
  · exact .inl z
  · exact .inr z

theorem lookup_mem' {α : Type} : ∀ {l : List (Str × α)} {x : Str} {a : α}, l.lookup x = some a → (x, a) ∈ l
  | [], _, _, h => by simp at h
  | (y, b) :: r, x, a, h => by
    rw [List.lookup_cons] at h
    split at h
    · rename_i e
      have e' : x = y := by simpa using e
      cases h; subst e'
      exact List.mem_cons_self
    · exact List.mem_cons_of_mem _ (lookup_mem' h)

theorem closure_ok {env : Env} : ∀ (names : List (Str × NameKind)), (∀ y ∈ names, y.2 = .free → ∃ c, env.cells.lookup y.1 = some c) → ∀ acc : List (Str × Addr), (∀ n c, acc.lookup n = some c → env.cells.lookup n = some c) →
    ∃ cl, (forIn names acc (fun (p : Str × NameKind) (cs : List (Str × Addr)) => if (p.2 == NameKind.free) = true then (do let a ← cellOf env p.1; pure (ForInStep.yield ((p.1, a) :: cs))) else (pure (ForInStep.yield cs) : Sem _)) : Sem (List (Str × Addr))) = pure cl ∧
      (∀ n c, cl.lookup n = some c → env.cells.lookup n = some c) ∧ (∀ n, (∃ c, acc.lookup n = some c) → ∃ c, cl.lookup n = some c) ∧ ∀ n, (n, NameKind.free) ∈ names → ∃ c, cl.lookup n = some c
  | [], _, acc, ha => ⟨acc, by simp, ha, fun _ h => h, fun _ h => by simp at h⟩
  | (n, k) :: r, hf, acc, ha => by
    have hr : ∀ y ∈ r, y.2 = .free → ∃ c, env.cells.lookup y.1 = some c := fun y hy => hf y (List.mem_cons_of_mem _ hy)
    by_cases hk : k = .free
    · subst hk
      obtain ⟨c, hc⟩ := hf (n, .free) List.mem_cons_self rfl
      obtain ⟨cl, e, h1, h2, h3⟩ := closure_ok r hr ((n, c) :: acc) (fun n' c' h => by
        rw [List.lookup_cons] at h
        split at h
        · rename_i q
          have q' : n' = n := by simpa using q
          cases h; subst q'; exact hc
        · exact ha n' c' h)
      refine ⟨cl, ?_, h1, fun n' h => h2 n' ?_, fun n' h => ?_⟩
      · rw [List.forIn_cons]
        simp only [beq_self_eq_true, if_true]
        have e2 : cellOf env n = pure c := by unfold cellOf; rw [hc]
        rw [e2]
        simp only [pure_bind]
        exact e
      · obtain ⟨c', hc'⟩ := h
        rw [List.lookup_cons]
        split
        · exact ⟨c, rfl⟩
        · exact ⟨c', hc'⟩
      · rcases List.mem_cons.mp h with q | q
        · refine h2 n' ⟨c, ?_⟩
          cases q
          rw [List.lookup_cons, beq_self_eq_true]
        · exact h3 n' q
    · have hb : (k == NameKind.free) = false := by simpa using hk
      obtain ⟨cl, e, h1, h2, h3⟩ := closure_ok r hr acc ha
      refine ⟨cl, ?_, h1, h2, fun n' h => ?_⟩
      · rw [List.forIn_cons]
        simp only [hb, Bool.false_eq_true, if_false, pure_bind]
        exact e
      · rcases List.mem_cons.mp h with q | q
        · cases q; exact absurd rfl hk
        · exact h3 n' q

theorem lookup_relabel {env : Env} : ∀ {names : List (Str × NameKind)} {x : Str} {k : NameKind},
    (names.map fun (n, k) => if (k == NameKind.free && env.scope.kind == .function && env.kindOf n == some .cell) then (n, NameKind.cell) else (n, k)).lookup x = some k → names.lookup x = some k ∨ (k = .cell ∧ names.lookup x = some .free)
  | [], _, _, h => by simp at h
  | (n, j) :: r, x, k, h => by
    have ih := @lookup_relabel env r x k
    have h' : List.lookup x ((if (j == NameKind.free && env.scope.kind == .function && env.kindOf n == some .cell) = true then (n, NameKind.cell) else (n, j)) :: _) = some k := h
    by_cases hc : (j == NameKind.free && env.scope.kind == .function && env.kindOf n == some .cell) = true
    · rw [if_pos hc] at h'
      cases hx : x == n with
      | true =>
        simp only [List.lookup_cons, hx] at h' ⊢
        cases h'
        have : j = .free := by simp at hc; exact hc.1.1
        exact .inr ⟨rfl, by rw [this]⟩
      | false => simp only [List.lookup_cons, hx] at h' ⊢; exact ih h'
    · rw [if_neg hc] at h'
      cases hx : x == n with
      | true => simp only [List.lookup_cons, hx] at h' ⊢; exact .inl h'
      | false => simp only [List.lookup_cons, hx] at h' ⊢; exact ih h'

theorem compLoop_T {prog : Program} {w : World} {A : Around} {R : Result → Shared → Prop} {s : Shared} {elt target iter : Expr} {ifs : List Expr} {scope : Scope} {pos : Pos} {it acc : Value} {env : Env} (I : Nat → Shared → Prop)
    (turn : ∀ n s, I n s → wpAny (model prog w) A (pyNext it) (fun r s₁ => match r with
      | none => R (.ok .next) s₁
      | some v => wpAny (model prog w) A (letOwnedTupleGo target it v) (fun _ s₀ => wpAny (model prog w) A (assign target env v) (fun _ s₂ =>
          wpAny (model prog w) A (forIn ifs true fun c r => if r = true then do let ok ← isTrue c env (eval c env); pure (ForInStep.yield ok) else pure (ForInStep.yield r)) (fun ok s₃ =>
            if ok = true then wpAny (model prog w) A (eval elt env) (fun x s₄ =>
              wpAny (model prog w) A (call (.builtin "list.append") [acc, x]) (fun _ s₅ => ∃ m, m < n ∧ I m s₅) (fun _ _ => False) s₄) (fun _ _ => False) s₃
            else ∃ m, m < n ∧ I m s₃) (fun _ _ => False) s₂) (fun _ _ => False) s₀) (fun _ _ => False) s₁) (fun _ _ => False) s)
    (n : Nat) (h : I n s) :
    codeAny (model prog w) A (.compLoop (.ListComp elt [⟨target, iter, ifs, 0⟩] scope pos) 0 it acc env) R s := by
  refine codeAny_loop rfl I (fun n s hI => ?_) n h
  show wpAny _ A ((compTurn (.ListComp elt [⟨target, iter, ifs, 0⟩] scope pos) 0 it acc env).onRaise (fun x => do noteFrame x env; theTreesLotGoes x)) _ _ s
  refine wpAny_noted ?_
  rw [compTurn_list]
  refine wpAny_bind (wpAny_standAt (wpAny_bind (wpAny_mono (turn n s hI) (fun r s₁ h₁ => ?_) fun _ _ h' => h'.elim)))
  cases r with
  | none => exact wpAny_pure h₁
  | some v =>
    refine wpAny_bind (wpAny_mono h₁ (fun _ s₀ h₀ => ?_) fun _ _ h' => h'.elim)
    refine wpAny_bind (wpAny_mono h₀ (fun _ s₂ h₂ => wpAny_bind (wpAny_mono h₂ (fun ok s₃ h₃ => ?_) fun _ _ h' => h'.elim)) fun _ _ h' => h'.elim)
    cases ok with
    | false => exact wpAny_pure ⟨rfl, h₃⟩
    | true =>
      exact wpAny_bind (wpAny_bind (wpAny_mono h₃ (fun x s₄ h₄ => wpAny_bind (wpAny_mono h₄ (fun _ s₅ h₅ => wpAny_pure (wpAny_pure ⟨rfl, h₅⟩)) fun _ _ h' => h'.elim)) fun _ _ h' => h'.elim))

def PTs (X : Cx) (ifs : List Expr) (t : TT) : Prop :=
  ∀ (pins : List (Addr × Obj)) (s : Shared) (σ : St) (H : Hp) (Q : Bool → Hp → Prop), Inv X pins σ H s → t σ H Q →
    wpAny (model X.prog X.w) X.A (forIn ifs true fun c r => if r = true then do let ok ← isTrue c X.env (eval c X.env); pure (ForInStep.yield ok) else pure (ForInStep.yield r)) (TP X pins σ Q) X.xe s
def tYes : TT := fun _ H Q => Q true H
theorem pts_nil {X : Cx} : PTs X [] tYes := fun _ _ _ H _ I h => wpAny_tests_nil ⟨H, I, h⟩
theorem pts_one {X : Cx} {c : Expr} {t : TT} (h : PT X c t) : PTs X [c] t := fun pins s σ H Q I q => wpAny_tests_one (h pins s σ H Q I q)

def tComp (wi : TI) (tt : TT) (te : TE) : TE := fun σ H Q => wi σ H fun J H1 => ∀ D, H1 D = none → ∃ W : Nat → Nat → List V → Hp → Prop, (∃ m, W 0 m [] (upd H1 D (.lst []))) ∧
  ∀ i m ys H, W i m ys H → (J.stop i H ∧ Q (.ref D) H) ∨ (J.go i H ∧ ∀ x H', J.yld i H x H' → tt (some x :: σ) H' fun b H2 =>
    if b = true then te (some x :: σ) H2 fun y H3 => H3 D = some (.lst ys) ∧ ys.length < sizeLine ∧ ∃ m', m' < m ∧ W (i + 1) m' (ys ++ [y]) (upd H3 D (.lst (ys ++ [y])))
    else ∃ m', m' < m ∧ W (i + 1) m' ys H2)

theorem pe_comp {X : Cx} {elt iter : Expr} {x : Str} {px : Pos} {ifs : List Expr} {scope : Scope} {pos : Pos} {wi : TI} {tt : TT} {te : TE} (hc : X.calm = true) (ok : CompOk X scope x) (hi : PI X (.Name x px) iter wi)
    (ht : ∀ cl C s₀ H₀ fp, PTs (blk X scope cl C x s₀ H₀ fp) ifs tt) (he : ∀ cl C s₀ H₀ fp, PE (blk X scope cl C x s₀ H₀ fp) elt te)
    (hs : ∀ x, foldedSetIterable iter X.env x = pure x := by intro _; rfl) : PE X (.ListComp elt [⟨.Name x px, iter, ifs, 0⟩] scope pos) (tComp wi tt te) := by
  intro pins s σ H Q I h
  obtain ⟨cl, hcl, hsub, _, hall⟩ := closure_ok (env := X.env) scope.names (fun y hy e => I.ok.has y.1 (ok.free y hy e)) [] (fun _ _ z => by simp at z)
  have hclos : closureFor scope X.env = pure cl := by
    unfold closureFor
    simp only [bind_pure]
    exact hcl
  rw [eval_ListComp]
  refine wpAny_comprehension_free (use := none) (E := X.xe) (cl := cl) rfl hs hclos ok.kind ok.names (thn (hi pins s σ H _ I h) fun v s1 h1 => thn h1 fun itv s2 h2 => ?_)
  obtain ⟨it, fp, tn, J, H2, e, I2, T, st2, f2, R⟩ := h2
  subst e
  obtain ⟨W, ⟨m0, w0⟩, turn⟩ := R s2.heap.objs.size I2.fresh
  refine wpAny_newObj_type (wpAny_newFunctionEnv ok.ncell (by intro y hy; simp at hy) (fun h₁ hns₁ hsb₁ => ?_) ok.kind)
  dsimp only at hns₁ hsb₁ ⊢
  have I3 : Inv X pins σ (upd H2 s2.heap.objs.size (.lst [])) { s2 with heap := s2.heap.push { cls := .type "list", data := .seq ([] : List Value).toArray } } := I2.lnew (t' := s2.toks) (ys := []) (its := []) .nil (Nat.zero_le _)
  generalize hH3 : upd H2 s2.heap.objs.size (HO.lst []) = H3 at *
  generalize hs3 : s2.heap.push { cls := .type "list", data := .seq ([] : List Value).toArray } = hp3 at *
  generalize hD : s2.heap.objs.size = D at *
  generalize hC : hp3.objs.size = C at *
  have hDC : D < C := by rw [← hC, ← hs3, Heap.size_push, hD]; exact Nat.lt_succ_self _
  have old : ∀ b o, hp3.get? b = some o → h₁.get? b = some o := fun b o e => (hsb₁.2 b (by rw [← hC]; exact Nat.ne_of_lt (Heap.lt_size e))).trans (Heap.get?_push_of_some _ e)
  have fpl : ∀ b ∈ fp, b < C := fun b hb => by
    obtain ⟨o, e, _⟩ := T.obj _ _ st2 b hb
    rw [← hC, ← hs3, Heap.size_push]
    exact Nat.lt_succ_of_lt (Heap.lt_size e)
  have f3 : ∀ b ∈ fp, FpOk X pins H3 b := fun b hb => by
    obtain ⟨o, e, _⟩ := T.obj _ _ st2 b hb
    refine ⟨?_, (f2 b hb).2⟩
    rw [← hH3, upd_ne (by rw [← hD]; exact Nat.ne_of_lt (Heap.lt_size e))]
    exact (f2 b hb).1
  have nstk : ∀ b ∈ fp, b ∉ frs X.stack := fun b hb z => by
    obtain ⟨_, g1, g2, _⟩ := f3 b hb
    rcases List.mem_cons.mp (I3.stkSub b z) with q | q
    · exact g1 q
    · exact g2 q
  -- the block's context
  have YOk : (blk X scope cl C x { s2 with heap := hp3 } H3 fp).Ok := by
    refine ⟨I.ok.mod, ?_, I.ok.glob, I.ok.blt, Nat.le_of_eq hC, ?_, ?_, ?_, I.ok.hd, I.ok.frames, .inl rfl, ?_, ?_, ?_, ?_, ?_, ?_, ?_⟩
    · exact ok.kind
    · exact fun a b c h1 h2 => I.ok.inj a b c (hsub a c h1) (hsub b c h2)
    · intro a ha
      refine hall a ?_
      rcases ha with z | z
      · rcases lookup_relabel (env := X.env) z with q | ⟨_, q⟩
        · exact absurd rfl (ok.ncell _ (lookup_mem' q))
        · exact lookup_mem' q
      · rcases lookup_relabel (env := X.env) z with q | ⟨q, _⟩
        · exact lookup_mem' q
        · cases q
    · intro a c hf; cases hf
    · intro b hb
      refine ⟨Nat.ne_of_lt (fpl b hb), fun a c h1 => (f3 b hb).2.2.2.2.1 a c (hsub a c h1)⟩
    · exact I3.bs
    · exact Nat.le_trans I.ok.bsz I3.sz
    · intro b o e hb
      rcases (f3 b hb).2.2.2.1 with z | z
      · exact I.ok.noex b o e z
      · exact absurd (Nat.lt_of_lt_of_le (Heap.lt_size e) (Nat.le_trans I.ok.bsz z)) (Nat.lt_irrefl _)
    · exact nstk
    · exact I3.stack
    · exact I3.stkFree
  have Y0 : Inv (blk X scope cl C x { s2 with heap := hp3 } H3 fp) [] (none :: σ) H3 { s2 with heap := h₁, toks := s2.toks + ([] : List (Str × Value)).length } := by
    refine ⟨YOk, rfl, I3.bare, Un.kept old, ⟨_, hns₁, ?_⟩, ?_, ?_, ?_, fun p hp => by simp [blk] at hp, I3.hok.kept old, ?_⟩
    · intro i y v e1 e2 e3
      cases i with
      | zero => simp at e2
      | succ i =>
        have e1' : X.N[i]? = some y := by simpa [blk] using e1
        have e2' : σ[i]? = some (some v) := by simpa using e2
        have hy : y ∈ X.N := List.mem_of_getElem? e1'
        have hfree : (y, NameKind.free) ∈ scope.names := by
          have key : ∀ k, (relabel scope X.env).names.lookup y = some k → k ≠ .local → k = .cell ∨ k = .free → (y, NameKind.free) ∈ scope.names := fun k q n hk => by
            rcases lookup_relabel (env := X.env) q with z | ⟨_, z⟩
            · rcases hk with rfl | rfl
              · exact absurd rfl (ok.ncell _ (lookup_mem' z))
              · exact lookup_mem' z
            · exact lookup_mem' z
          rcases e3 with z | z | z
          · rcases lookup_relabel (env := X.env) z with q | ⟨q, _⟩
            · exact absurd q (ok.out y hy)
            · cases q
          · exact key _ z (by decide) (.inl rfl)
          · exact key _ z (by decide) (.inr rfl)
        have hk := ok.free _ hfree rfl
        obtain ⟨m, hn, hl⟩ := I3.loc
        obtain ⟨u, r, q⟩ := hl i y v e1' e2' (by rcases hk with z | z; exact .inr (.inl z); exact .inr (.inr z))
        refine ⟨u, r, .inr ⟨?_, ?_⟩⟩
        · rcases e3 with z | z | z
          · rcases lookup_relabel (env := X.env) z with q | ⟨q, _⟩
            · exact absurd q (ok.out y hy)
            · cases q
          · exact .inl z
          · exact .inr z
        · rcases q with ⟨z, _⟩ | ⟨_, c, hc', hcell⟩
          · rcases hk with q | q <;> (rw [z] at q; cases q)
          · obtain ⟨c', hc2⟩ := hall y hfree
            have : c' = c := by have := hsub y c' hc2; rw [hc'] at this; exact (Option.some.inj this).symm
            subst this
            obtain ⟨o, ho, hd⟩ := hcell
            exact ⟨c', hc2, o, old _ _ ho, hd⟩
    · intro a c h1
      obtain ⟨v, o, ho, hd⟩ := I3.cell a c (hsub a c h1)
      exact ⟨v, o, old _ _ ho, hd⟩
    · show H3 C = none
      exact I3.hok.fresh (Nat.le_of_eq hC)
    · exact fun a c h1 => I3.freeC a c (hsub a c h1)
    · show (none :: σ).length = (x :: X.N).length
      rw [List.length_cons, List.length_cons, I.len]
  -- behind the block
  have back : ∀ (s' : Shared) (v : Option V) (H' : Hp) (h' : Heap), Inv (blk X scope cl C x { s2 with heap := hp3 } H3 fp) [] (v :: σ) H' s' → Heap.SameBut C s'.heap h' → (∀ b ∈ fp, H' b = none) → Inv X pins σ H' { s' with heap := h' } := by
    intro s' v H' h' I' sb fr
    have neC : ∀ b o, hp3.get? b = some o → b ≠ C := fun b o e => by rw [← hC]; exact Nat.ne_of_lt (Heap.lt_size e)
    have U : Un (frs X.stack) fp H3 H' hp3 s'.heap := I'.base
    refine I3.call' (ch := fp) (H' := H') (s' := { s' with heap := h' }) I'.os ⟨fun b o e n h1 h2 => (sb.2 b (neC b o e)).trans (U.keep b o e n h1 h2), fun b o e n h1 h2 => ?_, U.free, fun b o e h2 => ?_, U.tups, U.frzs, U.tbls⟩ (fun b ob e => ?_) I'.bare fun b hb => ?_
    · obtain ⟨sl, q⟩ := U.slot b o e n h1 h2
      exact ⟨sl, (sb.2 b (neC b o e)).trans q⟩
    · obtain ⟨o', q⟩ := U.there b o e h2
      exact ⟨o', (sb.2 b (neC b o e)).trans q⟩
    · have fC : H' C = none := I'.free
      refine (I'.hok b ob e).stay (fun c w' hc q => (sb.2 c ?_).trans q) (fun _ q => q) fun _ _ q => q
      rintro rfl
      rcases hc with rfl | hc
      · rw [fC] at e; cases e
      · rw [fC] at hc; cases hc
    · obtain ⟨_, g1, _, g3, g4, g5⟩ := f3 b hb
      exact ⟨g3, g1, g4, g5⟩
  have stat : ∀ {H' : Hp}, (∀ b ∈ fp, H' b = none) → ∀ b ∈ fp, FpOk (blk X scope cl C x { s2 with heap := hp3 } H3 fp) [] H' b := fun hn b hb =>
    ⟨hn b hb, Nat.ne_of_lt (fpl b hb), nstk b hb, .inl hb, fun a c h1 => (f3 b hb).2.2.2.2.1 a c (hsub a c h1), fun p hp => by simp [blk] at hp⟩
  have st₁ : tn 0 h₁ := T.keep _ _ _ st2 fun b _ o e => old b o (by rw [← hs3]; exact Heap.get?_push_of_some _ e)
  have loop : codeAny (model X.prog X.w) X.A (.compLoop (.ListComp elt [⟨.Name x px, iter, ifs, 0⟩] scope pos) 0 (.ref it) (.ref D) (compEnvC scope cl C X.env)) (compPost (model X.prog X.w) X.A X.xe none (EP X pins σ Q) (.ref D) C)
      { s2 with heap := h₁, toks := s2.toks + ([] : List (Str × Value)).length } := by
    refine compLoop_T (fun n s' => ∃ i v ys H', Inv (blk X scope cl C x { s2 with heap := hp3 } H3 fp) [] (v :: σ) H' s' ∧ tn i s'.heap ∧ (∀ b ∈ fp, H' b = none) ∧ W i n ys H') ?_ m0 ⟨0, none, [], H3, Y0, st₁, fun b hb => (f3 b hb).1, w0⟩
    rintro n s4 ⟨i, v, ys, H4, I4, st4, fr4, w4⟩
    rcases turn i n ys H4 w4 with ⟨stop, qn⟩ | ⟨go, step⟩
    · refine thn (T.done (blk X scope cl C x { s2 with heap := hp3 } H3 fp) rfl rfl rfl hc i [] s4 (v :: σ) H4 _ I4 (stat fr4) st4 stop) fun r s5 ⟨hr, I5⟩ => ?_
      subst hr
      obtain ⟨m, hn, _⟩ := id I5.loc
      exact ⟨m, hn, fun h' sb => ⟨.ref D, H4, back s5 v H4 h' I5 sb fr4, rfl, qn⟩⟩
    · refine thn (T.item (blk X scope cl C x { s2 with heap := hp3 } H3 fp) rfl rfl rfl hc i [] s4 (v :: σ) H4 _ I4 (stat fr4) st4 go) fun r s5 ⟨u, hr, h5⟩ => ?_
      subst hr
      refine thn h5 fun _ s6 ⟨y, H6, I6, r6, y6, st6, fr6⟩ => ?_
      have I6' := I6.pinned (stat fr6) (T.obj _ _ st6)
      refine wpAny_assign_Name (store_ok (X := blk X scope cl C x { s2 with heap := hp3 } H3 fp) (i := 0) I6' ?_ rfl (.inl (lookup_relabel_local ok.hx)) r6 (fun s7 I7 => ?_) (.inr (lookup_relabel_local ok.hx)))
      · show (x :: X.N).Nodup
        exact List.nodup_cons.mpr ⟨fun z => ok.out x z ok.hx, ok.nd⟩
      have I7' : Inv (blk X scope cl C x { s2 with heap := hp3 } H3 fp) _ (some y :: σ) H6 s7 := I7
      refine thn (ht cl C { s2 with heap := hp3 } H3 fp _ s7 _ H6 _ I7' (step y H6 y6)) fun b s8 ⟨H8, I8, q8⟩ => ?_
      have keepIt : ∀ {σ' : St} {H' : Hp} {s' : Shared}, Inv (blk X scope cl C x { s2 with heap := hp3 } H3 fp) ([] ++ pinsAt fp s6.heap) σ' H' s' → tn (i + 1) s'.heap ∧ ∀ b ∈ fp, H' b = none := fun {σ' H' s'} I9 => by
        refine ⟨T.keep _ _ _ st6 fun b hb o e => (I9.pin (b, o) (List.mem_append_right _ (List.mem_append_right _ (mem_pinsAt hb e)))).1, fun b hb => ?_⟩
        obtain ⟨o, e, d⟩ := T.obj _ _ st6 b hb
        exact (I9.pin (b, o) (List.mem_append_right _ (List.mem_append_right _ (mem_pinsAt hb e)))).2.1
      cases b with
      | false =>
        obtain ⟨m', hm, w'⟩ := q8
        obtain ⟨k1, k2⟩ := keepIt I8
        exact ⟨m', hm, i + 1, some y, ys, H8, I8.unpinned, k1, k2, w'⟩
      | true =>
        have q8' : te (some y :: σ) H8 _ := q8
        show wpAny _ _ (eval elt _) _ _ _
        refine thn (he cl C { s2 with heap := hp3 } H3 fp _ s8 _ H8 _ I8 q8') fun z s9 ⟨zv, H9, I9, r9, hD9, hz9, m', hm, w'⟩ => ?_
        refine thn (mt_append (X := blk X scope cl C x { s2 with heap := hp3 } H3 fp) _ s9 _ H9 (.ref D) [zv] (.ref D) [z] (fun _ H' => H' = upd H9 D (.lst (ys ++ [zv]))) I9 rfl (.cons r9 .nil) ⟨D, ys, zv, rfl, rfl, hD9, hz9, rfl⟩) fun _ s10 ⟨_, H10, I10, _, e10⟩ => ?_
        subst e10
        obtain ⟨k1, k2⟩ := keepIt I10
        exact ⟨m', hm, i + 1, some y, ys ++ [zv], _, I10.unpinned, k1, k2, w'⟩
  exact codeAny_compStart_list loop (T.self X.A 0 _ _ _ st₁ loop)
end L2
namespace L2
open PySem PySem.Spec PyProof.Rows
def Nxt (n i : Nat) (P : Prop) : Prop := ∃ m', m' < n - i ∧ m' = n - (i + 1) ∧ i + 1 ≤ n ∧ P
theorem Nxt.mk {n i : Nat} {P : Prop} (h : i < n) (p : P) : Nxt n i P := ⟨_, by omega, rfl, h, p⟩
theorem comp_range {lo : Int} {n : Nat} {D : Addr} {te : TE} {σ : St} {H : Hp} {R : Hp → Prop} (Pv : Nat → List V → Hp → Prop) (h0 : Pv 0 [] (upd H D (.lst [])))
    (hs : ∀ i ys H, i < n → Pv i ys H → te (some (.int (lo + i)) :: σ) H fun y H3 => H3 D = some (.lst ys) ∧ ys.length < sizeLine ∧ Nxt n i (Pv (i + 1) (ys ++ [y]) (upd H3 D (.lst (ys ++ [y])))))
    (hd : ∀ ys H, Pv n ys H → R H) :
    ∃ W : Nat → Nat → List V → Hp → Prop, (∃ m, W 0 m [] (upd H D (.lst []))) ∧
      ∀ i m ys H, W i m ys H → ((Itr lo n).stop i H ∧ R H) ∨ ((Itr lo n).go i H ∧ ∀ x H', (Itr lo n).yld i H x H' → tYes (some x :: σ) H' fun b H2 =>
        if b = true then te (some x :: σ) H2 fun y H3 => H3 D = some (.lst ys) ∧ ys.length < sizeLine ∧ ∃ m', m' < m ∧ W (i + 1) m' (ys ++ [y]) (upd H3 D (.lst (ys ++ [y])))
        else ∃ m', m' < m ∧ W (i + 1) m' ys H2) := by
  refine ⟨fun i m ys H => m = n - i ∧ i ≤ n ∧ Pv i ys H, ⟨n, by simp, Nat.zero_le _, h0⟩, ?_⟩
  rintro i m ys H ⟨rfl, hi, p⟩
  by_cases hlt : i < n
  · refine .inr ⟨hlt, fun x H' y => ?_⟩
    obtain ⟨e, y⟩ := y
    subst e y
    exact hs i ys H' hlt p
  · have e : i = n := by omega
    subst e
    exact .inl ⟨Nat.le_refl _, hd ys H p⟩
end L2
end

section
set_option Elab.async false
set_option linter.all false
set_option maxRecDepth 100000
namespace L2
open PySem PySem.Spec PyProof.Rows

def S (l : List Nat) : Str := ⟨l.toArray⟩
theorem S_cps (l : List Nat) : (S l).cps.toList = l := rfl
theorem S_len (l : List Nat) : (S l).length = l.length := rfl
theorem S_inj {a b : List Nat} (h : S a = S b) : a = b := congrArg (fun s : Str => s.cps.toList) h
theorem S_of (z : Str) : S z.cps.toList = z := by cases z; rfl
theorem S_app (a b : List Nat) : S a ++ S b = S (a ++ b) := by
  show (⟨a.toArray ++ b.toArray⟩ : Str) = ⟨(a ++ b).toArray⟩
  simp
theorem S_dec (a b : List Nat) : decide (V.str (S a) = V.str (S b)) = decide (a = b) := by
  by_cases e : a = b
  · subst e; simp
  · rw [decide_eq_false e, decide_eq_false]
    intro z
    injection z with z
    exact e (S_inj z)

section
variable {X : Cx} {a b c e o : Expr} {ta tb tc te to : TE} {pos : Pos}

theorem pe_strS (l : List Nat) {x : Str} {j pos} (h : x = S l) : PE X (.Constant (.str x) j pos) (tC (.str (S l))) := by rw [h]; exact pe_str

def rAddS : R2 := fun x y H Q => ∃ i j, x = .str (S i) ∧ y = .str (S j) ∧ i.length + j.length ≤ sizeLine ∧ Q (.str (S (i ++ j))) H
theorem op_addS : OpR X (binaryOp .Add) rAddS := by
  intro pins s σ H x y v u Q I rx ry h
  obtain ⟨i, j, rfl, rfl, hz, q⟩ := h
  exact op_add_str pins s σ H _ _ v u Q I rx ry ⟨S i, S j, rfl, rfl, hz, by rw [S_app]; exact q⟩

def rIxS' : R2 := fun x y H Q => ∃ l i c, x = .str (S l) ∧ y = .int i ∧ l.length ≤ sizeLine ∧ atI l i = some c ∧ Q (.str (S [c])) H
theorem ix_S : IxR X rIxS' := by
  intro value slice pins s σ H x y v u Q I rx ry h hs
  obtain ⟨l, i, c, rfl, rfl, hz, hc, q⟩ := h
  exact ix_str value slice pins s σ H _ _ v u Q I rx ry ⟨S l, i, c, rfl, rfl, hz, hc, q⟩ hs

def rLenS : List V → Hp → VK → Prop := fun xs H Q => ∃ l, xs = [.str (S l)] ∧ l.length ≤ sizeLine ∧ Q (.int l.length) H
theorem call_lenS : CallR X (.builtin "len") rLenS := by
  intro pins s σ H xs us Q I r h
  obtain ⟨l, rfl, hz, q⟩ := h
  exact call_len_str pins s σ H _ us Q I r ⟨S l, rfl, hz, q⟩

def rNeS : R2 := fun x y H Q => ∃ i j, x = .str (S i) ∧ y = .str (S j) ∧ Q (.bl (!decide (i = j))) H
theorem op_neS : OpR X (compareOp .NotEq) rNeS := by
  intro pins s σ H x y v u Q I rx ry h
  obtain ⟨i, j, rfl, rfl, q⟩ := h
  exact op_ne pins s σ H _ _ v u Q I rx ry ⟨rfl, by rw [S_dec]; exact q⟩

def rInS : R2 := fun x y H Q => ∃ c l, x = .str (S [c]) ∧ y = .str (S l) ∧ Q (.bl (decide (c ∈ l))) H
theorem op_inS : OpR X (compareOp .In) rInS := by
  intro pins s σ H x y v u Q I rx ry h
  obtain ⟨c, l, rfl, rfl, q⟩ := h
  exact op_in_str pins s σ H _ _ v u Q I rx ry ⟨S [c], S l, rfl, rfl, by
    have e := StrLaws.found_one (S l) c
    rw [S_cps] at e
    rw [show (S [c]) = (⟨#[c]⟩ : Str) from rfl, e]; exact q⟩

def cutN (l : List Nat) (lo hi : Option Int) : List Nat := (l.drop (HT.sIx l.length 0 lo)).take (HT.sIx l.length l.length hi - HT.sIx l.length 0 lo)
theorem idx_gen (lo hi : Option Int) (n : Nat) : Builtin.Str.strSliceIndices lo hi 1 n = (List.range (HT.sIx n n hi - HT.sIx n 0 lo)).map (fun k => HT.sIx n 0 lo + k) := by
  have clip : ∀ (v : Int) (d : Nat), max (0 : Int) (min (if v < 0 then v + (n : Int) else v) (n : Int)) = ((HT.sIx n d (some v) : Nat) : Int) := fun v d => by
    rw [← HT.clip_eq]; split <;> omega
  have key : ∀ a b : Nat, sliceRange (a : Int) (b : Int) 1 = (List.range (b - a)).map (fun k => a + k) := fun a b => by
    simp only [sliceRange, show ((1 : Int) > 0) = True from by simp, if_true]
    by_cases hlt : (a : Int) < b
    · have e3 : (((b : Int) - a + 1 - 1) / 1).toNat = b - a := by first | omega | (simp; done) | (simp; omega)
      simp only [hlt, if_true, e3]
      refine List.map_congr_left fun k _ => ?_
      omega
    · have : b - a = 0 := by omega
      simp [hlt, this]
  unfold Builtin.Str.strSliceIndices
  simp only [show ((1 : Int) > 0) = True from by simp, if_true]
  cases lo with
  | none =>
    cases hi with
    | none => exact key 0 n
    | some j => dsimp only; rw [clip j n]; exact key 0 _
  | some i =>
    cases hi with
    | none => dsimp only; rw [clip i 0]; exact key _ n
    | some j => dsimp only; rw [clip i 0, clip j n]; exact key _ _
theorem slice_gen (l : List Nat) (lo hi : Option Int) : Txt.slice (S l) lo hi = S (cutN l lo hi) := by
  have hle : HT.sIx l.length l.length hi ≤ l.length := HT.sIx_le _ _ (Nat.le_refl _) _
  have key : ((Builtin.Str.strSliceIndices lo hi 1 (S l).length).filterMap ((S l).cps[·]?)) = cutN l lo hi := by
    rw [idx_gen]
    have h := StrLaws.picks l (HT.sIx l.length l.length hi - HT.sIx l.length 0 lo) (HT.sIx l.length 0 lo)
    unfold cutN
    by_cases hc : HT.sIx l.length 0 lo ≤ HT.sIx l.length l.length hi
    · have h2 := h (by omega)
      rw [S_len]
      simpa [S] using h2
    · have e : HT.sIx l.length l.length hi - HT.sIx l.length 0 lo = 0 := by omega
      rw [S_len, e]; simp
  unfold Txt.slice
  split
  · rename_i hc
    have hlen : (Builtin.Str.strSliceIndices lo hi 1 (S l).length).length = l.length := by
      simp at hc
      simpa [S_len] using hc
    have hl2 : HT.sIx l.length l.length hi - HT.sIx l.length 0 lo = l.length := by rw [idx_gen, S_len] at hlen; simpa using hlen
    have h0 : HT.sIx l.length 0 lo = 0 ∨ l.length = 0 := by omega
    have e : cutN l lo hi = l := by
      unfold cutN
      rw [hl2]
      rcases h0 with z | z
      · rw [z]; simp
      · have : l = [] := List.length_eq_zero_iff.mp z
        subst this; simp
    rw [e]
  · rw [key]; rfl
def rSlS : V → Option Int → Option Int → Hp → VK → Prop := fun x lo hi H Q => ∃ l, x = .str (S l) ∧ l.length ≤ sizeLine ∧ Q (.str (S (cutN l lo hi))) H
theorem part_of {v : Value} {o : Option Int} (p : IsPart v o) : ∃ l : Option (Int × Tok), v = partValue l ∧ l.map (·.1) = o := by
  cases p with
  | none => exact ⟨none, rfl, rfl⟩
  | int i t => exact ⟨some (i, t), rfl, rfl⟩
theorem sl_S : SlR X rSlS := by
  intro pins s σ H x v vl vu lo hi sl Q I rx hs pl pu h
  obtain ⟨l, rfl, hz, q⟩ := h
  obtain ⟨t, rfl⟩ := rx
  obtain ⟨p1, rfl, rfl⟩ := part_of pl
  obtain ⟨p2, rfl, rfl⟩ := part_of pu
  refine ⟨"str", _, F.slot_str_getitem.lookup, typeIs_str _ _ _, ?_⟩
  refine wpAny_getItem_str_slice (l := p1) (u := p2) (st := none) hs rfl ?_
  have e := slice_gen l (p1.map (·.1)) (p2.map (·.1))
  have hle : (Txt.slice (S l) (p1.map (·.1)) (p2.map (·.1))).length ≤ sizeLine := Nat.le_trans (Txt.slice_le _ _ _) hz
  refine post_val_or_str ⟨hle, fun t' k => ?_⟩
  have e' : (if ((Option.map (fun x : Int × Tok => x.1) none).getD 1 == 1 && (slicePicked (S l) p1 p2 none).length == (S l).length) = true then S l else ⟨((slicePicked (S l) p1 p2 none).filterMap ((S l).cps[·]?)).toArray⟩) = S (cutN l (p1.map (·.1)) (p2.map (·.1))) := e
  exact ⟨.str (S (cutN l (p1.map (·.1)) (p2.map (·.1)))), H, I.tok _, ⟨t', congrArg (fun z => Value.str z t') e'⟩, q⟩

abbrev Ts (ls : List (List Nat)) : List V := ls.map fun l => V.str (S l)
def rInst (K : PySem.W.Frag) : List V → Hp → VK → Prop := fun xs H Q => ∃ x n t b, xs = [x, .ty n] ∧ TyOf K H x t ∧ PySem.W.kitOne K t (.type n) = some b ∧ Q (.bl b) H
theorem call_isinst : CallR X (.builtin "isinstance") (rInst X.K) := by
  intro pins s σ H xs us Q I r h
  obtain ⟨x, n, t, b, rfl, ty, k, q⟩ := h
  obtain ⟨u, w', rfl, r1, r2⟩ := vals2 r
  cases r2
  exact isinst_ok I r1 ty k fun tk => ⟨.bl b, H, I.tok tk, rfl, q⟩

theorem joinNil (ls : List (List Nat)) : Txt.join (S []) (ls.map S) = S ls.flatten := by
  unfold Txt.join Builtin.Str.glued
  have key : ∀ (ls : List (List Nat)) (acc : Array Nat), ((ls.map S).foldl (fun acc p => acc ++ (S []).cps ++ p.cps) acc).toList = acc.toList ++ ls.flatten := by
    intro ls
    induction ls with
    | nil => intro acc; simp
    | cons l r ih => intro acc; rw [List.map_cons, List.foldl_cons, ih]; simp [S]
  unfold S
  congr 1
  apply Array.toList_inj.mp
  cases ls with
  | nil => rfl
  | cons l r =>
    have := key r (S l).cps
    have e : (List.map S (l :: r)).drop 1 = List.map S r := rfl
    show (((List.map S (l :: r)).drop 1).foldl _ (S l).cps).toList = _
    rw [e]
    exact this.trans (by simp [S])
def rJoin (K : PySem.W.Frag) : V → List V → Hp → VK → Prop := fun x vs H Q => ∃ p ls, x = .str (S []) ∧ vs = [.ref p] ∧ SqL K H p (Ts ls) ∧ ls.flatten.length ≤ 1000 ∧ Q (.str (S ls.flatten)) H
theorem strs_of : ∀ {ls : List (List Nat)} {us : List Value}, Vals (Ts ls) us → StrsAre us (ls.map S)
  | [], _, .nil => .nil
  | l :: r, _, .cons q t => by
    obtain ⟨t', rfl⟩ := q
    exact .cons (S l) t' (strs_of t)
theorem sum_len (ls : List (List Nat)) : ((ls.map S).map (·.length)).sum = ls.flatten.length := by
  induction ls with
  | nil => rfl
  | cons l r ih => rw [List.map_cons, List.map_cons, List.sum_cons, ih, List.flatten_cons, List.length_append, S_len]
theorem mt_join : MtR X "str.join" (rJoin X.K) := by
  intro pins s σ H x vs v us Q I rx rv h
  obtain ⟨p, ls, rfl, rfl, hq, hz, q⟩ := h
  obtain ⟨t, rfl⟩ := rx
  obtain ⟨u, rfl, ru⟩ := vals1 rv
  cases ru
  obtain ⟨its, r, pl, _⟩ := I.list hq
  refine join_list pl.isList (ys := ls.map S) (by simpa using strs_of r) ?_ fun t' k => ?_
  · rw [sum_len]; show _ + _ * 0 ≤ _; omega
  · exact ⟨.str (S ls.flatten), H, I.tok k, ⟨t', congrArg (fun z => Value.str z t') (joinNil ls)⟩, q⟩
end
end L2
end

section
set_option Elab.async false
set_option linter.all false
set_option maxRecDepth 100000
namespace L2
open PySem PySem.Spec PyProof.Rows

structure DefAt (K : PySem.W.Frag) (mg : Str → Option Value) (name : Str) (st : Stmt) (ps : List Str) : Prop where
  ex : ∃ f fd, Fun K name name st f fd ∧ Binds K fd ps [] ∧ mg name = some (.ref f)
structure Def (P : Program) (w : World) (K : PySem.W.Frag) (mg : Str → Option Value) (base : Heap) (name : Str) (k : Nat) (ps : List Str) (sp : Sp) : Prop where
  ex : ∃ f fd, FnOk P w K mg base CX0 k f fd ps sp ∧ Binds K fd ps [] ∧ mg name = some (.ref f) ∧ PySem.W.keepIn K (.ref f) = true
theorem DefAt.ok {P : Program} {w : World} {K : PySem.W.Frag} {mg : Str → Option Value} {base : Heap} {name : Str} {st : Stmt} {N ps : List Str} {k : Nat} {sp : Sp} (D : DefAt K mg name st ps) (S : FnScope N ps (defScope st)) (len : ∀ vs H Q E, sp vs H Q E → vs.length = ps.length)
    (hbody : ∀ (f : Addr) (cdv : Value) (A : Around) (outer : List Env) (s : Shared) (H : Hp) (vs : List V) (Q : VK) (E : XK), Room k (A.deeper (envOfC name (defScope st) s.heap.objs.size f cdv)) → sp vs H Q E →
      ∃ t, PSs (cxOf CX0 P w K mg base N name (defScope st) f cdv A outer s H E).nox (defBody st) t ∧ t { nx := fun _ H' => Q .non H', rt := Q } (start N vs) H) : Def P w K mg base name (k + 1) ps sp := by
  obtain ⟨f, fd, F, b, g⟩ := D.ex
  exact ⟨f, fd, F.ok S len (hbody f), b, g, F.kp⟩
section
variable {X : Cx} {x : Str} {p pos : Pos} {e : Expr} {es : List Expr} {t : TA}
theorem pe_own {k : Nat} {ps : List Str} {sp : Sp} (D : Def X.prog X.w X.K X.mg X.base x k ps sp) (hr : Room k X.A) (hg : Gl X x) (ha : PA X (e :: es) t) (hdb : (x == ("__debug__" : Str)) = false := by decide)
    (hs : starEach (e :: es) X.env = (false, eval e X.env) :: starEach es X.env := by rfl) (hpl : (backTo pos (starEach es X.env)).any (·.1) = false := by rfl) :
    PE X (.Call (.Name x p) (e :: es) [] pos) (tCall sp [] E0 t) := by
  obtain ⟨f, fd, G, b, g, kp⟩ := D.ex
  exact pe_call G hr hg g kp b .nil pass0 ha hdb hs hpl
end
theorem Same.upd {H : Hp} {p : Addr} {o : HO} (h : H p = none) : Same H (upd H p o) := fun b o' e => by rw [upd_ne (ne_of_none e h)]; exact e
theorem Same.upd' {H H' : Hp} {p : Addr} {o : HO} (s : Same H H') (h : H p = none) : Same H (L2.upd H' p o) := fun b o' e => by rw [upd_ne (ne_of_none e h)]; exact s b o' e
end L2
namespace L2
open PySem PySem.Spec PyProof.Rows
section
variable {X : Cx} {e : Expr} {es : List Expr} {te : TE} {t : TA}
end
end L2
namespace L2
open PySem PySem.Spec PyProof.Rows
end L2
namespace L2
open PySem PySem.Spec PyProof.Rows
theorem defat_mk {K : PySem.W.Frag} {h : Heap} {mg : Str → Option Value} {name : Str} {st : Stmt} {ps : List Str} {f : Addr} {oc : Value} {od an : Option Addr} {osl : Array (Option Value)} {kV doc pm cdv ct : Value} (X : K.In h) (G : h.Ns mainGlobals mg)
    (a : PySem.W.nsIn K mainGlobals name = some (some (.ref f))) (l : K.lookup f = some ⟨oc, od, .func (PySem.W.fnOf name name (defArgs st) (defBody st) (defScope st) .none kV doc pm an cdv ct), osl⟩)
    (c : PySem.W.codeIn K cdv name = true) (k : PySem.W.keepIn K (.ref f) = true)
    (hb : ∀ (kV doc pm : Value) (an : Option Addr) (cdv ct : Value) (us : List Value), us.length = ps.length → bindArgs (PySem.W.fnOf name name (defArgs st) (defBody st) (defScope st) .none kV doc pm an cdv ct) ⟨us, []⟩ = pure (ps.zip us)) : DefAt K mg name st ps :=
  ⟨f, _, fun_mk l c k, (fun_mk l c k).binds hb, PySem.W.mg_of X G a⟩
theorem law_at {K : PySem.W.Frag} {h : Heap} {mg : Str → Option Value} {st : Stmt} {x : Str} {f fa : Addr} {oc : Value} {od an : Option Addr} {osl : Array (Option Value)} {kV doc pm cdv ct : Value} (X : K.In h) (G : h.Ns mainGlobals mg) (hfa : mg "law" = some (.ref fa))
    (a : PySem.W.nsIn K mainGlobals "law" = some (some (.ref f))) (l : K.lookup f = some ⟨oc, od, .func (PySem.W.fnOf "law" "law" (defArgs st) (defBody st) (defScope st) .none kV doc pm an cdv ct), osl⟩)
    (c : PySem.W.codeIn K cdv "law" = true) (k : PySem.W.keepIn K (.ref f) = true)
    (hb : ∀ (kV doc pm : Value) (an : Option Addr) (cdv ct v : Value), bindArgs (PySem.W.fnOf "law" "law" (defArgs st) (defBody st) (defScope st) .none kV doc pm an cdv ct) ⟨[v], []⟩ = pure [(x, v)]) :
    ∃ fd : FuncData, Fun K "law" "law" st fa fd ∧ ∀ (s : Shared) (v : Value), BindsTo s fd ⟨[v], []⟩ [(x, v)] := by
  have e := hfa.symm.trans (PySem.W.mg_of X G a)
  cases e
  exact ⟨_, fun_mk l c k, fun s v => .of_eq (hb kV doc pm an cdv ct v)⟩
def spLaw (K : PySem.W.Frag) : Sp := fun vs H Q _ => ∃ (a : Addr) (ns : List Int), vs = [.ref a] ∧ SqL K H a (ns.map V.int) ∧ ns.length ≤ 63 ∧ ∀ H', Q (.bl true) H'
theorem walkLaw {x : Str} {l : PySem.W.OpenLaw} {q : Program} {loose : List Str} {XP : (Str → Option Value) → Heap → Prop} {YP : World → Heap → Prop} {d : DefRec} {K : Params → PySem.W.Frag} (hn : l.most = some 63) (hdf : d.params.defaults = [])
    (hY : ∀ (w : World) (h : Heap), YP w h → (K w.params).In h)
    (F : ∀ (w : World) (mg : Str → Option Value) (fa : Addr) (h : Heap), (K w.params).In h → h.Ns mainGlobals mg → mg d.name = some (.ref fa) →
      ∃ fd : FuncData, (∀ (s : Shared) (u : Value), BindsTo s fd ⟨[u], []⟩ [(x, u)]) ∧ ∀ base : Heap, (K w.params).In base → base.Ns mainGlobals mg → FnOk l.prog w (K w.params) mg base CX0 20 fa fd [x] (spLaw (K w.params))) :
    PySem.W.WalkO q loose XP YP l.row.toRowW d [] (fun f vs => PySem.call f vs) :=
  L2.walk_of (n := 63) (k := 20) (x := x) (CX := fun _ => CX0) (sp := fun w => spLaw (K w.params)) hn (by decide) hdf ⟨rfl, by decide, by decide⟩ hY F (fun _ _ a ns hl _ hS => ⟨a, ns, rfl, hS, hl, fun _ => rfl⟩) fun _ _ _ _ _ z => z
end L2
end

section
set_option Elab.async false
set_option linter.all false
set_option maxRecDepth 100000
namespace L2
open PySem PySem.Spec PyProof.Rows
namespace RV
section
variable {prog : Program} {w : World} {A : Around} {E : Value → Shared → Prop} {s : Shared}
end
end RV
end L2
end

section
set_option Elab.async false
set_option linter.all false
set_option maxRecDepth 100000
namespace L2
open PySem PySem.Spec PyProof.Rows
section
variable {X : Cx} {o e st : Expr} {to te tst : TE} {apos cpos rpos pos p p2 : Pos}
theorem fm_map {α β : Type} {f : α → Option β} {g : α → β} : ∀ l : List α, (∀ k ∈ l, f k = some (g k)) → l.filterMap f = l.map g
  | [], _ => rfl
  | a :: r, h => by
    rw [List.filterMap_cons, h a List.mem_cons_self, List.map_cons, fm_map r fun k hk => h k (List.mem_cons_of_mem _ hk)]
def tRevS (te tst : TE) : TE := fun σ H Q => te σ H fun x H1 => tst σ H1 fun y H2 => ∃ l, x = .str (S l) ∧ y = .int (-1) ∧ l.length ≤ sizeLine ∧ Q (.str (S l.reverse)) H2
theorem pe_revS (he : PE X e te) (hst : PE X st tst) : PE X (.Subscript e (.Slice none none (some st) p2) pos) (tRevS te tst) := by
  intro pins s σ H Q I h
  refine Subscript_ (thn (he pins s σ H _ I h) fun v s1 ⟨x, H1, I1, r1, q1⟩ => ?_)
  refine wpAny_Slice ?_
  rw [evalPart_none, evalPart_some]
  refine wpAny_pure (wpAny_pure (thn (hst pins s1 σ H1 _ I1 q1) fun vst s2 ⟨y, H2, I2, r2, l, ex, ey, hz, q⟩ => ?_))
  subst ex ey
  obtain ⟨t, rfl⟩ := r1
  obtain ⟨t2, rfl⟩ := r2
  have I4 : Inv X pins σ H2 { s2 with heap := s2.heap.push { cls := .type "slice", data := .fields #[.none, .none, .int (-1) t2] } } := I2.kept (t' := s2.toks) fun b ob z => Heap.get?_push_of_some _ z
  show wpAny (model X.prog X.w) X.A (subscriptTail e (.Slice none none (some st) p2) (.str (S l) t) (.ref s2.heap.objs.size)) (EP X pins σ Q) X.xe { s2 with heap := s2.heap.push { cls := .type "slice", data := .fields #[.none, .none, .int (-1) t2] } }
  refine tail_any (ops := [.ref s2.heap.objs.size, .str (S l) t]) (typeIs_str _ _ _) PySem.F.slot_str_getitem.lookup ?_ (by with_unfolding_all rfl)
  refine wpAny_getItem_str_slice (l := none) (u := none) (st := some (-1, t2)) ⟨_, Heap.get?_push_size _ rfl, rfl, rfl⟩ rfl ?_
  have ep : slicePicked (S l) none none (some (-1, t2)) = (List.range l.length).map fun k => l.length - 1 - k := picked_rev l.length
  have er : ((slicePicked (S l) none none (some (-1, t2))).filterMap ((S l).cps[·]?)) = l.reverse := by
    rw [ep]
    refine List.ext_getElem? fun j => ?_
    have hm : ((List.range l.length).map fun k => l.length - 1 - k).filterMap ((S l).cps[·]?) = (List.range l.length).map fun k => l.getD (l.length - 1 - k) 0 := by
      rw [List.filterMap_map]
      refine fm_map _ fun k hk => ?_
      have hk' := List.mem_range.mp hk
      show (l.toArray)[l.length - 1 - k]? = some (l.getD (l.length - 1 - k) 0)
      simp [List.getD, show l.length - 1 - k < l.length by omega]
    rw [hm, List.getElem?_map]
    by_cases hj : j < l.length
    · rw [List.getElem?_range hj, List.getElem?_reverse hj]
      simp [List.getD, show l.length - 1 - j < l.length by omega]
    · rw [List.getElem?_eq_none (by simpa using hj), List.getElem?_eq_none (by simpa using hj)]; rfl
  unfold sliceMade
  rw [if_neg (by simp)]
  rw [er]
  refine ⟨?_, .str (S l.reverse), H2, I4.tok _, ⟨_, rfl⟩, q⟩
  show l.reverse.toArray.size ≤ sizeLine
  simpa using hz
end
end L2
end

section
set_option Elab.async false
set_option linter.all false
set_option maxRecDepth 100000
namespace L2
open PySem PySem.Spec PyProof.Rows
structure QE (X : Cx) (e : Expr) (t : TE) : Prop where
  out : PE X e t
structure QT (X : Cx) (e : Expr) (t : TT) : Prop where
  out : PT X e t
structure QW (X : Cx) (e : Expr) (t : TT) : Prop where
  out : PW X e t
structure QA (X : Cx) (es : List Expr) (t : TA) : Prop where
  out : PA X es t
structure QS (X : Cx) (st : Stmt) (t : TS) : Prop where
  out : PS X st t
structure QSs (X : Cx) (st : List Stmt) (t : TS) : Prop where
  out : PSs X st t
structure QG (X : Cx) (e : Expr) (t : TG) : Prop where
  out : PG X e t
structure QGs (X : Cx) (es : List Expr) (t : TGs) : Prop where
  out : PGs X es t
structure QI (X : Cx) (tg iter : Expr) (wi : TI) : Prop where
  out : PI X tg iter wi
structure QO (X : Cx) (e : Option Expr) (t : TO) : Prop where
  out : PO X e t
structure QC (X : Cx) (op : CmpOp) (a b : Expr) (t : TE) : Prop where
  out : PC X op a b t
structure QTs (X : Cx) (ifs : List Expr) (t : TT) : Prop where
  out : PTs X ifs t
theorem QW.qt {X : Cx} {e : Expr} {t : TT} (h : QW X e t) : QT X e t := ⟨h.out.pt⟩
section
variable {X : Cx} {st : Stmt} {rest : List Stmt} {t u : TS} {e : Expr} {te : TE} {pos : Pos}
theorem qss_nil  : QSs X [] tNext :=
  ⟨pss_nil⟩
end
section
variable {X : Cx} {st : Stmt} {rest : List Stmt} {t u : TS} {e : Expr} {te : TE} {pos : Pos}
theorem qss_cons (h1 : QS X st t) (h2 : QSs X rest u) : QSs X (st :: rest) (tSeq t u) :=
  ⟨pss_cons h1.out h2.out⟩
end
section
variable {X : Cx} {st : Stmt} {rest : List Stmt} {t u : TS} {e : Expr} {te : TE} {pos : Pos}
theorem qss_one (h1 : QS X st t) : QSs X [st] t :=
  ⟨pss_one h1.out⟩
end
section
variable {X : Cx} {st : Stmt} {rest : List Stmt} {t u : TS} {e : Expr} {te : TE} {pos : Pos}
theorem qs_if {c : Expr} {a b : List Stmt} {tc : TT} (hc : QT X c tc) (ha : QSs X a t) (hb : QSs X b u) : QS X (.If c a b pos) (tIfS tc t u) :=
  ⟨ps_if hc.out ha.out hb.out⟩
end
section
variable {X : Cx} {st : Stmt} {rest : List Stmt} {t u : TS} {e : Expr} {te : TE} {pos : Pos}
theorem qs_ret (he : QE X e te) : QS X (.Return (some e) pos) (tRet te) :=
  ⟨ps_ret he.out⟩
end
section
variable {X : Cx} {st : Stmt} {rest : List Stmt} {t u : TS} {e : Expr} {te : TE} {pos : Pos}
end
section
variable {X : Cx} {st : Stmt} {rest : List Stmt} {t u : TS} {e : Expr} {te : TE} {pos : Pos}
theorem qs_expr (he : QE X e te) (hs : swapsWith e none pos.line X.env = pure false := by rfl) : QS X (.Expr e pos) (tDrop te) :=
  ⟨ps_expr he.out hs⟩
end
section
variable {X : Cx} {tg : Expr}
theorem qs_for {iter : Expr} {body : List Stmt} {wi : TI} {g : TG} {tb : TS} {pos : Pos} (hp : PassesOwn (model X.prog X.w) X.A X.env X.xe) (hc : X.calm = true) (hi : QI X tg iter wi) (hg : QG X tg g) (hb : QSs X body tb) (hs : ∀ x, foldedSetIterable iter X.env x = pure x := by intro _; rfl) : QS X (.For tg iter body [] pos) (tFor wi g tb) :=
  ⟨ps_for hp hc hi.out hg.out hb.out hs⟩
end
section
variable {X : Cx} {st : Stmt} {rest : List Stmt} {t u : TS} {e : Expr} {te : TE} {pos : Pos}
end
section
variable {X : Cx} {pos : Pos}
theorem qs_set {i : Nat} {x : Str} {e : Expr} {te : TE} {pos' : Pos} (hN : X.N.Nodup) (hi : X.N[i]? = some x) (hx : Loc X.env.scope x) (he : QE X e te) (hs : swapsWith e (some (.Name x pos')) pos.line X.env = pure false := by rfl) (hf : X.fn x = true ∨ X.env.scope.names.lookup x = some .local := by first | exact .inl rfl | exact .inr rfl | assumption) : QS X (.Assign [.Name x pos'] e pos) (tAsg te (gName i)) :=
  ⟨ps_set hN hi hx he.out hs hf⟩
end
section
variable {X : Cx} {st : Stmt} {rest : List Stmt} {t u : TS} {e : Expr} {te : TE} {pos : Pos}
end
section
variable {X : Cx} {st : Stmt} {rest : List Stmt} {t u : TS} {e : Expr} {te : TE} {pos : Pos}
end
section
variable {X : Cx} {st : Stmt} {rest : List Stmt} {t u : TS} {e : Expr} {te : TE} {pos : Pos}
end
section
variable {X : Cx} {o e value : Expr} {f : Str} {pos pos' tpos : Pos} {ta tv : TE}
theorem qs_fld (ha : QE X o ta) (hv : QE X value tv) (hs : swapsWith value (some (.Attribute o f pos')) pos.line X.env = pure false) : QS X (.Assign [.Attribute o f pos'] value pos) (sFld X.K ta tv f) :=
  ⟨ps_fld ha.out hv.out hs⟩
end
section
variable {X : Cx} {pos : Pos}
end
section
variable {X : Cx} {pos : Pos}
theorem qg_name {i : Nat} {x : Str} (hN : X.N.Nodup) (hi : X.N[i]? = some x) (hx : Loc X.env.scope x) (hf : X.fn x = true ∨ X.env.scope.names.lookup x = some .local := by first | exact .inl rfl | exact .inr rfl | assumption) : QG X (.Name x pos) (gName i) :=
  ⟨pg_name hN hi hx hf⟩
end
section
variable {X : Cx} {pos : Pos}
end
section
variable {X : Cx} {pos : Pos}
end
section
variable {X : Cx} {pos : Pos}
end
section
variable {X : Cx} 
theorem qe_int {i j pos} : QE X (.Constant (.int i) j pos) (tC (.int i)) :=
  ⟨pe_int⟩
end
section
variable {X : Cx} 
theorem qe_bl {b j pos} : QE X (.Constant (.bool b) j pos) (tC (.bl b)) :=
  ⟨pe_bl⟩
end
section
variable {X : Cx} 
end
section
variable {X : Cx} {a b c : Expr} {ta tb tc : TE} {pos : Pos}
theorem qe_op {op : Operator} {r : R2} (ho : OpR X (binaryOp op) r) (ha : QE X a ta) (hb : QE X b tb) : QE X (.BinOp a op b pos) (tOp r ta tb) :=
  ⟨pe_op ho ha.out hb.out⟩
end
section
variable {X : Cx} {a b c : Expr} {ta tb tc : TE} {pos : Pos}
theorem qe_un {op : UnaryOp} {r : V → Hp → VK → Prop} (ho : UnR X (unaryOp op) r) (ha : QE X a ta) : QE X (.UnaryOp op a pos) (tUn r ta) :=
  ⟨pe_un ho ha.out⟩
end
section
variable {X : Cx} {a b c : Expr} {ta tb tc : TE} {pos : Pos}
end
section
variable {X : Cx} {a b c : Expr} {ta tb tc : TE} {pos : Pos}
theorem qt_cmpR {op : CmpOp} {r : R2} (ho : OpR X (compareOp op) r) (ha : QE X a ta) (hb : QE X b tb) (hm : behindInMarks op b = false) : QT X (.Compare a [op] [b] pos) (tTest (tOp r ta tb)) :=
  ⟨pt_cmpR ho ha.out hb.out hm⟩
end
section
variable {X : Cx} {a b c : Expr} {ta tb tc : TE} {pos : Pos}
end
section
variable {X : Cx} {a b c : Expr} {ta tb tc : TE} {pos : Pos}
end
section
variable {X : Cx} {a b : Expr} {ta tb : TE} {pos : Pos} {tA tB' : TT} {rest : List Expr}
theorem qt_val {e : Expr} {t : TE} (h : QE X e t) (he : ∀ whole, isTrue e X.env whole = (do let v ← whole; standAt e.pos; holding [v] (truthy v)) := by intro _; rfl) : QT X e (tB t) :=
  ⟨pt_val h.out he⟩
end
section
variable {X : Cx} {a b c : Expr} {ta tb tc : TE} {pos : Pos}
end
section
variable {X : Cx} {a b : Expr} {ta tb : TE} {pos : Pos} {tA tB' : TT} {rest : List Expr}
theorem qt_not (ha : QT X a tA) : QT X (.UnaryOp .Not a pos) (tNot tA) :=
  ⟨pt_not ha.out⟩
end
section
variable {X : Cx} {a b : Expr} {ta tb : TE} {pos : Pos} {tA tB' : TT} {rest : List Expr}
theorem qw_and (ha : QT X a tA) (hb : QW X (.BoolOp .And (b :: rest) pos) tB') : QW X (.BoolOp .And (a :: b :: rest) pos) (tAnd tA tB') :=
  ⟨pw_and ha.out hb.out⟩
end
section
variable {X : Cx} {a b : Expr} {ta tb : TE} {pos : Pos} {tA tB' : TT} {rest : List Expr}
theorem qw_and1 (ha : QT X a tA) : QW X (.BoolOp .And [a] pos) tA :=
  ⟨pw_and1 ha.out⟩
end
section
variable {X : Cx} {a b : Expr} {ta tb : TE} {pos : Pos} {tA tB' : TT} {rest : List Expr}
theorem qw_or (ha : QT X a tA) (hb : QW X (.BoolOp .Or (b :: rest) pos) tB') : QW X (.BoolOp .Or (a :: b :: rest) pos) (tOr tA tB') :=
  ⟨pw_or ha.out hb.out⟩
end
section
variable {X : Cx} {a b : Expr} {ta tb : TE} {pos : Pos} {tA tB' : TT} {rest : List Expr}
theorem qw_or1 (ha : QT X a tA) : QW X (.BoolOp .Or [a] pos) tA :=
  ⟨pw_or1 ha.out⟩
end
section
variable {X : Cx} {a b : Expr} {ta tb : TE} {pos : Pos} {tA tB' : TT} {rest : List Expr}
end
section
variable {X : Cx} {a b : Expr} {ta tb : TE} {pos : Pos} {tA tB' : TT} {rest : List Expr}
end
section
variable {X : Cx} {a b : Expr} {ta tb : TE} {pos : Pos} {tA tB' : TT} {rest : List Expr}
end
section
variable {X : Cx} {a b : Expr} {ta tb : TE} {pos : Pos} {tA tB' : TT} {rest : List Expr}
end
section
variable {X : Cx} {a b : Expr} {ta tb : TE} {pos : Pos} {tA tB' : TT} {rest : List Expr}
end
section
variable {X : Cx} {a b c : Expr} {ta tb tc : TE} {pos : Pos}
theorem qe_ix {r : R2} (hr : IxR X r) (ha : QE X a ta) (hb : QE X b tb) (hs : PlainIx b) : QE X (.Subscript a b pos) (tOp r ta tb) :=
  ⟨pe_ix hr ha.out hb.out hs⟩
end
section
variable {X : Cx} {e : Expr} {te : TE} {lo hi : Option Expr} {tl th : TO} {pos p2 : Pos}
theorem qe_slice {r : V → Option Int → Option Int → Hp → VK → Prop} (hr : SlR X r) (he : QE X e te) (hl : QO X lo tl) (hu : QO X hi th) : QE X (.Subscript e (.Slice lo hi none p2) pos) (tSl r te tl th) :=
  ⟨pe_slice hr he.out hl.out hu.out⟩
end
section
variable {X : Cx} {e : Expr} {te : TE} {lo hi : Option Expr} {tl th : TO} {pos p2 : Pos}
theorem qo_none  : QO X none tNoPart :=
  ⟨po_none⟩
end
section
variable {X : Cx} {e : Expr} {te : TE} {lo hi : Option Expr} {tl th : TO} {pos p2 : Pos}
theorem qo_some (h : QE X e te) : QO X (some e) (tPart te) :=
  ⟨po_some h.out⟩
end
section
variable {X : Cx} {e : Expr} {es : List Expr} {te : TE} {t : TA} {pos : Pos}
theorem qe_lst (h : QA X es t) : QE X (.List es pos) (tLst t) :=
  ⟨pe_lst h.out⟩
end
section
variable {X : Cx} {e : Expr} {es : List Expr} {te : TE} {t : TA} {pos : Pos}
end
section
variable {X : Cx} {e : Expr} {es : List Expr} {te : TE} {t : TA} {pos : Pos}
theorem qa_nil  : QA X [] tNil :=
  ⟨pa_nil⟩
end
section
variable {X : Cx} {e : Expr} {es : List Expr} {te : TE} {t : TA} {pos : Pos}
theorem qa_cons (ha : QE X e te) (hr : QA X es t) (hs : starEach (e :: es) X.env = (false, eval e X.env) :: starEach es X.env := by rfl) : QA X (e :: es) (tCons te t) :=
  ⟨pa_cons ha.out hr.out hs⟩
end
section
variable {X : Cx} {x : Str} {p pos : Pos} {e : Expr} {es : List Expr} {t : TA} {id T : String} {r : List V → Hp → VK → Prop}
theorem qe_callB (hc : CallR X (.builtin id) r) (hg : Gl X x) (hm : X.mg x = none) (hv : bootBuiltins x = some (.builtin id)) (ha : QA X (e :: es) t) (hn : x ≠ "__name__" := by decide) (hdb : (x == ("__debug__" : Str)) = false := by decide) (he : starEach (e :: es) X.env = (false, eval e X.env) :: starEach es X.env := by rfl) (hpl : (backTo pos (starEach es X.env)).any (·.1) = false := by rfl) : QE X (.Call (.Name x p) (e :: es) [] pos) (tCB r t) :=
  ⟨pe_callB hc hg hm hv ha.out hn hdb he hpl⟩
end
section
variable {X : Cx} {x : Str} {p pos : Pos} {e : Expr} {es : List Expr} {t : TA} {id T : String} {r : List V → Hp → VK → Prop}
theorem qe_callTy (hc : CallR X (.type T) r) (hg : Gl X x) (hm : X.mg x = none) (hv : bootBuiltins x = some (.type T)) (ha : QA X (e :: es) t) (hn : x ≠ "__name__" := by decide) (hdb : (x == ("__debug__" : Str)) = false := by decide) (he : starEach (e :: es) X.env = (false, eval e X.env) :: starEach es X.env := by rfl) (hpl : (backTo pos (starEach es X.env)).any (·.1) = false := by rfl) : QE X (.Call (.Name x p) (e :: es) [] pos) (tCB r t) :=
  ⟨pe_callTy hc hg hm hv ha.out hn hdb he hpl⟩
end
section
variable {X : Cx} {x : Str} {p pos : Pos} {e : Expr} {es : List Expr} {t : TA} {id T : String} {r : List V → Hp → VK → Prop}
end
section
variable {X : Cx} {o e : Expr} {es : List Expr} {to : TE} {t : TA} {name : Str} {apos cpos : Pos} {T id : String} {r : V → List V → Hp → VK → Prop}
theorem qe_bm (pa : PlainAttrs T) (slot : Slot T name id) (hty : typeOf (.builtin id) = pure (.type "method_descriptor")) (hm : MtR X id r) (ho : QE X o to) (ha : QA X (e :: es) t) (hbase : attributeBase o name X.env (eval o X.env) = eval o X.env := by rfl) (hfew : ((backTo cpos (starEach (e :: es) X.env)).all (fun x => !x.1) && (backToKw cpos (keywordEach [] X.env)).all (fun x => x.1.isSome)
      && decide ((e :: es).length + ([] : List Keyword).length + (if ([] : List Keyword).isEmpty then 0 else 1) < 30)) = true := by rfl) (hline : (apos.endLine == cpos.line) = true := by rfl) (hs : starEach (e :: es) X.env = (false, eval e X.env) :: starEach es X.env := by rfl) (hplain : (backTo cpos (starEach es X.env)).any (·.1) = false := by rfl) : QE X (.Call (.Attribute o name apos) (e :: es) [] cpos) (tBM X.K T r to t) :=
  ⟨pe_bm pa slot hty hm ho.out ha.out hbase hfew hline hs hplain⟩
end
section
variable {X : Cx} {o e : Expr} {es : List Expr} {to : TE} {t : TA} {name : Str} {apos cpos : Pos} {T id : String} {r : V → List V → Hp → VK → Prop}
end
section
variable {X : Cx} 
theorem qe_bltn {x : Str} {v : V} {u : Value} {pos : Pos} (hg : Gl X x) (hm : X.mg x = none) (hv : bootBuiltins x = some u) (r : RelV v u) (hn : x ≠ "__name__" := by decide) (hd : (x == ("__debug__" : Str)) = false := by decide) : QE X (.Name x pos) (tC v) :=
  ⟨pe_bltn hg hm hv r hn hd⟩
end
section
variable {X : Cx} 
end
section
variable {X : Cx} {tg : Expr}
theorem qi_list {l : Expr} {tl : TE} (hl : QE X l tl) : QI X tg l (iList X.K tl) :=
  ⟨pi_list hl.out⟩
end
section
variable {X : Cx} {tg : Expr}
end
section
variable {X : Cx} {tg : Expr}
theorem qi_range1 {a : Expr} {ta : TA} {p pos : Pos} (hg : Gl X "range") (hm : X.mg "range" = none) (ha : QA X [a] ta) (hs : starEach [a] X.env = [(false, eval a X.env)] := by rfl) : QI X tg (.Call (.Name "range" p) [a] [] pos) (iRng1 ta) :=
  ⟨pi_range1 hg hm ha.out hs⟩
end
section
variable {X : Cx} {tg : Expr}
end
section
variable {X : Cx} {o e value : Expr} {f : Str} {pos pos' tpos : Pos} {ta tv : TE}
theorem qe_fld (he : QE X e ta) (hb : attributeBase e f X.env (eval e X.env) = eval e X.env) : QE X (.Attribute e f pos) (tFld X.K ta f) :=
  ⟨pe_fld he.out hb⟩
end
section
variable {X : Cx} {CX : CXT} {k : Nat} {f C : Addr} {fd : FuncData} {ps : List Str} {sp : Sp} {dvs : List V} {ds : List Value} {E : XK} {x m : Str} {p pos apos : Pos} {e o : Expr} {es : List Expr} {ta : TE} {t : TA}
theorem qe_meth {pl : Sem Bool} (he : QE X o ta) (c : Cls X.K C) (hm : Meth X.K C m f) (F : FnOk X.prog X.w X.K X.mg X.base CX k f fd ps sp) (hr : Room k X.A) (hb : Binds X.K fd ps ds) (hd : Vals dvs ds) (hx : Passes CX X E) (ha : QA X (e :: es) t) (hst : starEach (e :: es) X.env = (false, eval e X.env) :: starEach es X.env := by rfl) (hpl : (backTo pos (starEach es X.env)).any (·.1) = false := by rfl) (ht : eval (.Call (.Attribute o m apos) (e :: es) [] pos) X.env = (do
      let ov ← eval o X.env
      standAt apos.atName
      let (f, first) ← holding [ov] (getMethod ov m pl)
      callWith pos f first (backTo pos (starEach (e :: es) X.env)) (backToKw pos (keywordEach [] X.env))) := by rfl) : QE X (.Call (.Attribute o m apos) (e :: es) [] pos) (tMeth C m sp dvs E ta t) :=
  ⟨pe_meth he.out c hm F hr hb hd hx ha.out hst hpl ht⟩
end
section
variable {X : Cx} {CX : CXT} {k : Nat} {f C : Addr} {fd : FuncData} {ps : List Str} {sp : Sp} {dvs : List V} {ds : List Value} {E : XK} {x m : Str} {p pos apos : Pos} {e o : Expr} {es : List Expr} {ta : TE} {t : TA}
end
section
variable {X : Cx} {CX : CXT} {k : Nat} {f C : Addr} {fd : FuncData} {ps : List Str} {sp : Sp} {dvs : List V} {ds : List Value} {E : XK} {x m : Str} {p pos apos : Pos} {e o : Expr} {es : List Expr} {ta : TE} {t : TA}
theorem qe_make (M : Mk X.K C f) (F : FnOk X.prog X.w X.K X.mg X.base CX k f fd ps sp) (hr : Room (k + 1) X.A) (hg : Gl X x) (hm : X.mg x = some (.ref C)) (hb : Binds X.K fd ps ds) (hd : Vals dvs ds) (hx : Passes CX X E) (ha : QA X (e :: es) t) (hdb : (x == ("__debug__" : Str)) = false := by decide) (he : starEach (e :: es) X.env = (false, eval e X.env) :: starEach es X.env := by rfl) (hpl : (backTo pos (starEach es X.env)).any (·.1) = false := by rfl) : QE X (.Call (.Name x p) (e :: es) [] pos) (tMake C sp dvs E t) :=
  ⟨pe_make M F hr hg hm hb hd hx ha.out hdb he hpl⟩
end
section
variable {X : Cx} {CX : CXT} {k : Nat} {f C : Addr} {fd : FuncData} {ps : List Str} {sp : Sp} {dvs : List V} {ds : List Value} {E : XK} {x m : Str} {p pos apos : Pos} {e o : Expr} {es : List Expr} {ta : TE} {t : TA}
end
section
variable {X : Cx} {o i value : Expr} {td ty tv : TE} {pos pos' : Pos}
theorem qe_dnewK  : QE X (.Dict [] [] pos) tDNewK :=
  ⟨pe_dnewK⟩
end
section
variable {X : Cx} {o i value : Expr} {td ty tv : TE} {pos pos' : Pos}
end
section
variable {X : Cx} {o i value : Expr} {td ty tv : TE} {pos pos' : Pos}
end
section
variable {X : Cx} {o e : Expr} {td ty : TE} {apos cpos : Pos}
end
section
variable {X : Cx} {o i value : Expr} {td ty tv : TE} {pos pos' : Pos}
theorem qs_dput (hu : X.A.units + 1 < cLine) (ho : QE X o td) (hi : QE X i ty) (hv : QE X value tv) (hs : swapsWith value (some (.Subscript o i pos')) pos.line X.env = pure false) : QS X (.Assign [.Subscript o i pos'] value pos) (sDPut td ty tv) :=
  ⟨ps_dput hu ho.out hi.out hv.out hs⟩
end
section
variable {X : Cx} {a b : Expr} {ta tb : TE} {pos : Pos} {tA tB' : TT} {rest : List Expr}
end
section
variable {X : Cx} {a b : Expr} {ta tb : TE} {pos : Pos} {tA tB' : TT} {rest : List Expr}
end
section
variable {X : Cx} 
theorem qv (i : Nat) {x : Str} {pos : Pos} (hN : X.N[i]? = some x := by rfl) (hv : Vis X.env.scope x := by first | exact Or.inl rfl | exact Or.inr (Or.inl rfl) | exact Or.inr (Or.inr rfl)) (hd : (x == ("__debug__" : Str)) = false := by decide) (hcd : (x == ("__classdict__" : Str)) = false := by decide) : QE X (.Name x pos) (tVar i) :=
  ⟨pv i hN hv hd hcd⟩
end
section
variable {X : Cx} 
theorem qts_nil {X : Cx} : QTs X [] tYes :=
  ⟨pts_nil⟩
end
section
variable {X : Cx} 
theorem qts_one {X : Cx} {c : Expr} {t : TT} (h : QT X c t) : QTs X [c] t :=
  ⟨pts_one h.out⟩
end
section
variable {X : Cx} 
theorem qe_strS (l : List Nat) {x : Str} {j pos} (h : x = S l) : QE X (.Constant (.str x) j pos) (tC (.str (S l))) :=
  ⟨pe_strS l h⟩
end
section
variable {X : Cx} {e : Expr} {es : List Expr} {te : TE} {t : TA} {pos : Pos}
end
section
variable {X : Cx} {x : Str} {p pos : Pos} {e : Expr} {es : List Expr} {t : TA}
theorem qe_own {k : Nat} {ps : List Str} {sp : Sp} (D : Def X.prog X.w X.K X.mg X.base x k ps sp) (hr : Room k X.A) (hg : Gl X x) (ha : QA X (e :: es) t) (hdb : (x == ("__debug__" : Str)) = false := by decide) (hs : starEach (e :: es) X.env = (false, eval e X.env) :: starEach es X.env := by rfl) (hpl : (backTo pos (starEach es X.env)).any (·.1) = false := by rfl) : QE X (.Call (.Name x p) (e :: es) [] pos) (tCall sp [] E0 t) :=
  ⟨pe_own D hr hg ha.out hdb hs hpl⟩
end
section
variable {X : Cx} {o e st : Expr} {to te tst : TE} {apos cpos rpos pos p p2 : Pos}
end
section
variable {X : Cx} {o e st : Expr} {to te tst : TE} {apos cpos rpos pos p p2 : Pos}
theorem qe_revS (he : QE X e te) (hst : QE X st tst) : QE X (.Subscript e (.Slice none none (some st) p2) pos) (tRevS te tst) :=
  ⟨pe_revS he.out hst.out⟩
end
theorem qe_comp {X : Cx} {elt iter : Expr} {x : Str} {px : Pos} {ifs : List Expr} {scope : Scope} {pos : Pos} {wi : TI} {tt : TT} {te : TE} (hc : X.calm = true) (ok : CompOk X scope x) (hi : QI X (.Name x px) iter wi)
    (ht : ∀ cl C s₀ H₀ fp, QTs (blk X scope cl C x s₀ H₀ fp) ifs tt) (he : ∀ cl C s₀ H₀ fp, QE (blk X scope cl C x s₀ H₀ fp) elt te)
    (hs : ∀ x, foldedSetIterable iter X.env x = pure x := by intro _; rfl) : QE X (.ListComp elt [⟨.Name x px, iter, ifs, 0⟩] scope pos) (tComp wi tt te) :=
  ⟨pe_comp hc ok hi.out (fun cl C s₀ H₀ fp => (ht cl C s₀ H₀ fp).out) (fun cl C s₀ H₀ fp => (he cl C s₀ H₀ fp).out) hs⟩
theorem DefAt.qok {P : Program} {w : World} {K : PySem.W.Frag} {mg : Str → Option Value} {base : Heap} {name : Str} {st : Stmt} {N ps : List Str} {k : Nat} {sp : Sp} (D : DefAt K mg name st ps) (S : FnScope N ps (defScope st)) (len : ∀ vs H Q E, sp vs H Q E → vs.length = ps.length)
    (hbody : ∀ (f : Addr) (cdv : Value) (A : Around) (outer : List Env) (s : Shared) (H : Hp) (vs : List V) (Q : VK) (E : XK), Room k (A.deeper (envOfC name (defScope st) s.heap.objs.size f cdv)) → sp vs H Q E →
      ∃ t, QSs (cxOf CX0 P w K mg base N name (defScope st) f cdv A outer s H E).nox (defBody st) t ∧ t { nx := fun _ H' => Q .non H', rt := Q } (start N vs) H) : Def P w K mg base name (k + 1) ps sp :=
  D.ok S len fun f cdv A outer s H vs Q E hr h => let ⟨t, a, b⟩ := hbody f cdv A outer s H vs Q E hr h; ⟨t, a.out, b⟩
theorem Fun.qok {P : Program} {w : World} {K : PySem.W.Frag} {mg : Str → Option Value} {base : Heap} {x qual : Str} {st : Stmt} {f : Addr} {fd : FuncData} {N ps : List Str} {k : Nat} {sp : Sp} (F : Fun K x qual st f fd) (S : FnScope N ps (defScope st)) (len : ∀ vs H Q E, sp vs H Q E → vs.length = ps.length)
    (hbody : ∀ (cdv : Value) (A : Around) (outer : List Env) (s : Shared) (H : Hp) (vs : List V) (Q : VK) (E : XK), Room k (A.deeper (envOfC qual (defScope st) s.heap.objs.size f cdv)) → sp vs H Q E →
      ∃ t, QSs (cxOf CX0 P w K mg base N qual (defScope st) f cdv A outer s H E).nox (defBody st) t ∧ t { nx := fun _ H' => Q .non H', rt := Q } (start N vs) H) : FnOk P w K mg base CX0 (k + 1) f fd ps sp :=
  F.ok S len fun cdv A outer s H vs Q E hr h => let ⟨t, a, b⟩ := hbody cdv A outer s H vs Q E hr h; ⟨t, a.out, b⟩
end L2
end

section
set_option Elab.async false
set_option linter.all false
set_option maxRecDepth 100000
namespace L2
open PySem PySem.Spec PyProof.Rows
section
variable {prog : Program} {w : World} {A : Around} {E : Value → Shared → Prop} {s : Shared}
theorem sorted_any {v : Value} {Q : Value → Shared → Prop} (hcol : wpAny (model prog w) A.in1 (collect v) (fun vs s1 => ∃ ss, StrsAre vs ss ∧ vs.length < 64 ∧
      ∀ (h' : Heap) (vs' : List Value) (ss' : List Str) (e : Nat), (∀ b o, s1.heap.get? b = some o → h'.get? b = some o) → h'.get? s1.heap.objs.size = some (seqObj "list" vs'.toArray e) → StrsAre vs' ss' → ss'.Perm ss → sortedS ss' = true →
        Q (.ref s1.heap.objs.size) { s1 with heap := h' }) E s) : wpAny (model prog w) A (call (.builtin "sorted") [v]) Q E s := by
  refine Calls.call_function_entry kind_sorted plain_sorted entry_sorted (args_sorted1 _) ?_
  unfold Builtin.«sorted»
  refine wpAny_bind (m := checkCount "sorted" 1 1 _) (wpAny_pure ?_)
  refine wpAny_bind (thn hcol fun vs s1 ⟨ss, hS, h64, h⟩ => ?_)
  refine wpAny_bind (wpAny_newList ?_)
  have hoL : (s1.heap.push (seqObj "list" vs.toArray 0)).get? s1.heap.objs.size = some (seqObj "list" vs.toArray 0) := Heap.get?_push_size _ rfl
  refine wpAny_bind (wpAny_holding (wpAny_call_entry slot_list_sort (s := { s1 with heap := s1.heap.push (seqObj "list" vs.toArray 0) }) ⟨_, hoL, rfl⟩ entry_list_sort
    (list_sort_treeK (s := { s1 with heap := s1.heap.push (seqObj "list" vs.toArray 0) }) strKind_oneLt hoL hS.keysOf (fun v₁ v₂ rest e => keyKind_strs (by rw [← e]; exact hS)) h64 fun st' hp hs => ⟨_, rfl, ?_⟩) (args_list_sort _)))
  obtain ⟨ss', h1, h2, h3⟩ := sorted_out_str hS hp hs
  obtain ⟨e, he⟩ := sortedHeap_at (vs := vs) (out := (arrOf st').map (·.2)) hoL
  refine wpAny_pure ⟨_, rfl, h _ ((arrOf st').map (·.2)).toList ss' e (fun b o z => ?_) (by rw [Array.toArray_toList]; exact he) h1 h2 h3⟩
  have hb : b < s1.heap.objs.size := Heap.lt_size z
  rw [sortedHeap_old (Nat.ne_of_lt hb) (by rw [Heap.size_push]; exact Nat.lt_succ_of_lt hb)]
  exact Heap.get?_push_of_some _ z
end
theorem signs_of {x : Str} {vs : Array Value} (h : ItemsOf (SignAt x) vs x.cps.size) : StrsAre vs.toList (x.cps.toList.map fun c => (⟨#[c]⟩ : Str)) := by
  have key : ∀ (l : List Value) (m : List Nat), l.length = m.length → (∀ (j : Nat) v, l[j]? = some v → ∃ c u, m[j]? = some c ∧ v = .str ⟨#[c]⟩ u) → StrsAre l (m.map fun c => (⟨#[c]⟩ : Str)) := by
    intro l
    induction l with
    | nil =>
      intro m hl _
      cases m with
      | nil => exact .nil
      | cons c r => simp at hl
    | cons a r ih =>
      intro m hl hv
      cases m with
      | nil => simp at hl
      | cons c m =>
        obtain ⟨c', u, e, rfl⟩ := hv 0 a rfl
        have e' : c = c' := by simpa using e
        subst e'
        exact .cons _ u (ih m (by simpa using hl) fun j v hj => hv (j + 1) v hj)
  refine key _ _ (by simpa using h.1) fun j v hj => ?_
  obtain ⟨c, u, e1, e2⟩ := h.2 j v (by simpa using hj)
  exact ⟨c, u, by simpa using e1, e2⟩
section
variable {X : Cx}
theorem vals_of_strs : ∀ {ss : List Str} {us : List Value}, StrsAre us ss → Vals (ss.map V.str) us
  | _, _, .nil => .nil
  | _, _, .cons x t r => .cons ⟨t, rfl⟩ (vals_of_strs r)
end
end L2
end

section
set_option Elab.async false
set_option linter.all false
set_option maxRecDepth 100000
namespace L2
open PySem PySem.Spec PyProof.Rows
def Its (l : List Nat) : It := ⟨fun i _ => i < l.length, fun i H x H' => H' = H ∧ ∃ c, l[i]? = some c ∧ x = .str (S [c]), fun i _ => l.length ≤ i⟩
theorem turn_str {P : Program} {w : World} {K : PySem.W.Frag} {tg : Expr} {ty : String} (hty : ty = "str_ascii_iterator" ∨ ty = "str_iterator") (l : List Nat) (t : Tok) (it : Addr) :
    Turn P w K tg (Its l) [it] it (fun i h => i ≤ l.length ∧ h.IsStrIter it ty (S l) t i) where
  mem := by simp
  obj := fun i h st b hb => by
    have e : b = it := by simpa using hb
    subst e
    obtain ⟨_, o, e, c, d⟩ := st
    exact ⟨o, e, fun v z => by rw [d] at z; cases z⟩
  keep := fun i h h' st k => ⟨st.1, let ⟨o, ho, r⟩ := st.2; ⟨o, k it (by simp) o ho, r⟩⟩
  item := by
    intro X hP hw hK hc i pins s σ H E I hf st hg
    subst hP hw hK
    obtain ⟨f0, f1, f2, f3, f4, f5⟩ := hf it (by simp)
    have hg' : i < (S l).cps.size := hg
    have fin : ∀ (v : Value) (h' : Heap) (tk : Nat), SignAt (S l) i v → h'.IsStrIter it ty (S l) t (i + 1) → (∀ b o, b ∉ [it] → s.heap.get? b = some o → h'.get? b = some o) →
        ∃ u, some v = some u ∧ wpAny (model X.prog X.w) X.A (letOwnedTupleGo tg (.ref it) u) (fun _ s2 => ∃ x H', Inv X pins σ H' s2 ∧ RelV x u ∧ (Its l).yld i H x H' ∧ (i + 1 ≤ l.length ∧ s2.heap.IsStrIter it ty (S l) t (i + 1)) ∧ ∀ b ∈ [it], H' b = none) E { s with heap := h', toks := tk } := by
      intro v h' tk hv st' kk
      obtain ⟨c, u, hc', rfl⟩ := hv
      have I1 : Inv X pins σ H { s with heap := h', toks := tk } := I.turned (fun b o hb e => kk b o (by simpa using hb) e) f0 f1 f3 f4 f5
      obtain ⟨o, e, c2, d2⟩ := id st'
      refine ⟨_, rfl, go_of (s := { s with heap := h', toks := tk }) e c2 d2 (by rcases hty with rfl | rfl <;> decide) ⟨.str (S [c]), H, I1, ⟨u, rfl⟩, ⟨rfl, c, by simpa [S] using hc', rfl⟩, ⟨hg, st'⟩, fun b hb => (hf b hb).1⟩⟩
    rcases hty with rfl | rfl
    · exact (Walks.strAscii (prog := X.prog) (w := X.w) (I.ok.hd hc) it (S l) t).item i s _ _ hg' st.2 fun v h' tk hv st' kk => fin v h' tk hv st' kk
    · exact (Walks.strWide (prog := X.prog) (w := X.w) (I.ok.hd hc) it (S l) t).item i s _ _ hg' st.2 fun v h' tk hv st' kk => fin v h' tk hv st' kk
  done := by
    intro X hP hw hK hc i pins s σ H E I hf st hg
    subst hP hw hK
    obtain ⟨f0, f1, f2, f3, f4, f5⟩ := hf it (by simp)
    have hi : i = (S l).cps.size := Nat.le_antisymm st.1 hg
    have st' := st.2
    rw [hi] at st'
    rcases hty with rfl | rfl
    · exact (Walks.strAscii (prog := X.prog) (w := X.w) (I.ok.hd hc) it (S l) t).done s _ _ st' fun h' tk kk => ⟨rfl, I.turned (fun b o hb e => kk b o (by simpa using hb) e) f0 f1 f3 f4 f5⟩
    · exact (Walks.strWide (prog := X.prog) (w := X.w) (I.ok.hd hc) it (S l) t).done s _ _ st' fun h' tk kk => ⟨rfl, I.turned (fun b o hb e => kk b o (by simpa using hb) e) f0 f1 f3 f4 f5⟩
  self := fun A i s Q E st h => by
    rcases hty with rfl | rfl
    · exact wpAny_pyIter_striter_ascii st.2 h
    · exact wpAny_pyIter_striter_wide st.2 h
theorem nlt_trans {a b c : List Nat} (h1 : ¬ b < a) (h2 : ¬ c < b) : ¬ c < a := by
  have h1' : a ≤ b := h1
  have h2' : b ≤ c := h2
  exact List.le_trans h1' h2'
theorem rising_pw : ∀ (r : List Str) (p : Str), risingS p r = true → (∀ x ∈ r, ¬ x.cps.toList < p.cps.toList) ∧ (r.map fun y => y.cps.toList).Pairwise (fun a b => decide (b < a) = false)
  | [], _, _ => ⟨fun _ h => by simp at h, List.Pairwise.nil⟩
  | y :: r, p, h => by
    rw [risingS, Bool.and_eq_true] at h
    have h0 : ¬ y.cps.toList < p.cps.toList := by
      have := h.1
      simpa [ltCps_eq] using this
    obtain ⟨h1, h2⟩ := rising_pw r y h.2
    refine ⟨fun x hx => ?_, ?_⟩
    · rcases List.mem_cons.mp hx with e | e
      · rw [e]; exact h0
      · exact nlt_trans h0 (h1 x e)
    · rw [List.map_cons]
      refine List.Pairwise.cons (fun b hb => ?_) h2
      obtain ⟨x, hx, rfl⟩ := List.mem_map.mp hb
      exact decide_eq_false (h1 x hx)
theorem sorted_pw (ss : List Str) (h : sortedS ss = true) : (ss.map fun y => y.cps.toList).Pairwise (fun a b => decide (b < a) = false) := by
  cases ss with
  | nil => exact List.Pairwise.nil
  | cons x r =>
    obtain ⟨h1, h2⟩ := rising_pw r x h
    rw [List.map_cons]
    refine List.Pairwise.cons (fun b hb => ?_) h2
    obtain ⟨y, hy, rfl⟩ := List.mem_map.mp hb
    exact decide_eq_false (h1 y hy)
section
variable {X : Cx} {tg : Expr}
def iStr (tl : TE) : TI := fun σ H R => tl σ H fun x H1 => ∃ l, x = .str (S l) ∧ R (Its l) H1
theorem qi_str {l : Expr} {tl : TE} (hl : QE X l tl) : QI X tg l (iStr tl) := ⟨by
  intro pins s σ H R I h
  refine thn (hl.out pins s σ H _ I h) fun v s1 ⟨x, H1, I1, r1, q1⟩ => ?_
  obtain ⟨l, e, q⟩ := q1
  subst e
  obtain ⟨t, rfl⟩ := r1
  refine wpAny_pyIter_strU ?_
  have hty : strIterType (S l) = "str_ascii_iterator" ∨ strIterType (S l) = "str_iterator" := by unfold strIterType; split <;> simp
  refine ⟨s1.heap.objs.size, [s1.heap.objs.size], _, _, H1, rfl, I1.kept (t' := s1.toks) fun b o e => Heap.get?_push_of_some _ e, turn_str hty l t _, ⟨Nat.zero_le _, _, Heap.get?_push_size _ rfl, rfl, rfl⟩, fun b hb => ?_, q⟩
  have e : b = s1.heap.objs.size := by simpa using hb
  subst e
  exact I1.fpOk (Nat.le_refl _) (I1.hok.fresh (Nat.le_refl _))⟩
def rLtS : R2 := fun x y H Q => ∃ i j, x = .str (S i) ∧ y = .str (S j) ∧ Q (.bl (decide (i < j))) H
theorem op_ltS : OpR X (compareOp .Lt) rLtS := by
  intro pins s σ H x y v u Q I rx ry h
  obtain ⟨i, j, rfl, rfl, q⟩ := h
  exact op_lt_str pins s σ H _ _ v u Q I rx ry ⟨S i, S j, rfl, rfl, q⟩
abbrev keyS (l : List Nat) : Key := Sum.inr (S l)
end
end L2
end

section
set_option Elab.async false
set_option linter.all false
set_option maxRecDepth 100000
set_option maxHeartbeats 2000000
namespace L2
open PySem PySem.Spec PyProof.Rows PySem.W
def rSortSP : List V → Hp → VK → Prop := fun xs H Q => ∃ l, xs = [.str (S l)] ∧ l.length < 64 ∧ ∀ (p : Addr) (ls' : List Nat), H p = none → ls'.Perm l → (ls'.map fun c => [c]).Pairwise (fun a b => decide (b < a) = false) → Q (.ref p) (upd H p (.lst (Ts (ls'.map fun c => [c]))))
section
variable {X : Cx}
theorem call_sortedSP (hc : X.calm = true) : CallR X (.builtin "sorted") rSortSP := by
  intro pins s σ H xs us Q I r h
  obtain ⟨l, rfl, h64, q⟩ := h
  obtain ⟨u, rfl, ru⟩ := vals1 r
  obtain ⟨t, rfl⟩ := ru
  have hz : (S l).cps.size ≤ sizeLine := by show l.length ≤ sizeLine; exact Nat.le_of_lt (small1000 (by omega))
  refine sorted_any (wpAny_collect_str (A := X.A.in1) (I.ok.hd hc) (S l) t (fun s1 acc k1 k2 k3 k4 hacc => ?_) hz)
  have hS := signs_of hacc
  refine ⟨_, hS, ?_, fun h' vs' ss' e kk he hS' pm srt => ?_⟩
  · rw [Array.length_toList, hacc.1]; exact h64
  have I1 : Inv X pins σ H s1 := by
    have I5 := I.kept (h' := s1.heap) (t' := s1.toks) k1
    obtain ⟨h', g', d', t'', o'⟩ := s1
    simp only at k2 k3 k4
    subst k2 k3 k4
    exact I5
  -- the letters behind
  have pm' : (ss'.map fun y => y.cps.toList.headD 0).Perm l := by
    have := pm.map fun y : Str => y.cps.toList.headD 0
    rw [List.map_map] at this
    have e : ((fun y : Str => y.cps.toList.headD 0) ∘ fun c => (⟨#[c]⟩ : Str)) = id := rfl
    rw [e, List.map_id, S_cps] at this
    exact this
  have es : ss' = (ss'.map fun y => y.cps.toList.headD 0).map fun c => (⟨#[c]⟩ : Str) := by
    rw [List.map_map]
    refine (List.map_id _).symm.trans (List.map_congr_left fun y hy => ?_)
    obtain ⟨c, _, rfl⟩ := List.mem_map.mp (pm.mem_iff.mp hy)
    rfl
  have hn : H s1.heap.objs.size = none := I1.fresh
  have hv : Vals (Ts ((ss'.map fun y => y.cps.toList.headD 0).map fun c => [c])) vs' := by
    have := vals_of_strs hS'
    rw [es] at this
    simpa [Ts, S, Function.comp_def] using this
  have hl : (Ts ((ss'.map fun y => y.cps.toList.headD 0).map fun c => [c])).length ≤ sizeLine := by
    rw [List.length_map, List.length_map, pm'.length_eq]; exact Nat.le_of_lt (small1000 (by omega))
  refine ⟨.ref s1.heap.objs.size, _, I1.laid (o := .lst _) (t' := s1.toks) kk (Nat.le_refl _) ⟨hl, vs', e, hv, he⟩, rfl, q _ _ hn pm' ?_⟩
  have pw := sorted_pw ss' srt
  rw [es, List.map_map] at pw
  exact pw
end
end L2
end

section
set_option Elab.async false
set_option linter.all false
set_option maxRecDepth 100000
namespace L2
open PySem PySem.Spec PyProof.Rows PySem.SeqAt PySem.MeetsSeq PySem.MeetsSeq3
open AutoSeq1 (wpAny_loadPart')
section
variable {X : Cx}
end
end L2
end

section
set_option Elab.async false
set_option linter.all false
set_option maxRecDepth 100000
namespace L2
open PySem PySem.Spec PyProof.Rows
section
variable {X : Cx}
def CDivB (i j : Int) : Prop := 0 < j ∧ j.natAbs.log2 < 9000
theorem op_fdivB : OpR X (binaryOp .FloorDiv) (rI CDivB fun i j => .int (i / j)) := opI fun i j _ _ _ _ _ hc q => by
  have e : i.fdiv j = i / j := Int.fdiv_eq_ediv_of_nonneg _ (Int.le_of_lt hc.1)
  rw [← e] at q
  exact floordiv_int (Int.ne_of_gt hc.1) q (.inl (PyProof.noPylong_of_log2 hc.2))
end
theorem for_str {l : List Nat} {g : TG} {tb : TS} {D : Ends} {σ : St} {H : Hp} (Pv : Nat → St → Hp → Prop) (h0 : Pv 0 σ H)
    (hs : ∀ i c σ H, l[i]? = some c → Pv i σ H → g (.str (S [c])) σ H fun σ2 H2 => tb { D with nx := Pv (i + 1), ct := Pv (i + 1), bk := D.nx } σ2 H2) (hd : ∀ σ H, Pv l.length σ H → D.nx σ H) :
    ∃ W : Nat → Nat → St → Hp → Prop, (∃ m, W 0 m σ H) ∧ ∀ i m σ H, W i m σ H →
      ((Its l).stop i H ∧ D.nx σ H) ∨ ((Its l).go i H ∧ ∃ N : St → Hp → Prop, (∀ σ' H', N σ' H' → ∃ m', m' < m ∧ W (i + 1) m' σ' H') ∧ ∀ x H', (Its l).yld i H x H' → g x σ H' fun σ2 H2 => tb { D with nx := N, ct := N, bk := D.nx } σ2 H2) := by
  refine ⟨fun i m σ H => m = l.length - i ∧ i ≤ l.length ∧ Pv i σ H, ⟨l.length, by simp, Nat.zero_le _, h0⟩, ?_⟩
  rintro i m σ H ⟨rfl, hi, p⟩
  by_cases hlt : i < l.length
  · refine .inr ⟨hlt, Pv (i + 1), fun σ' H' p' => ⟨l.length - (i + 1), by omega, rfl, hlt, p'⟩, fun x H' y => ?_⟩
    obtain ⟨e, c, hc, e2⟩ := y
    subst e e2
    exact hs i c σ _ hc p
  · have e : i = l.length := by omega
    subst e
    exact .inl ⟨Nat.le_refl _, hd σ H p⟩
def AL : List Nat := (List.range 26).map (97 + ·)
theorem at_modA {α : Type} {xs : List α} {n : Nat} (hn : xs.length = n) (h : 0 < n) (c : Int) : ∃ v, atI xs (c % (n : Int)) = some v ∧ v ∈ xs := by
  have h0 : 0 ≤ c % (n : Int) := Int.emod_nonneg _ (by omega)
  have h1 : c % (n : Int) < n := Int.emod_lt_of_pos _ (by omega)
  obtain ⟨k, hk⟩ : ∃ k : Nat, c % (n : Int) = (k : Int) := ⟨(c % (n : Int)).toNat, by omega⟩
  rw [hk]
  have hl : k < xs.length := by omega
  exact ⟨xs[k], atI_nat (by simp [hl]), List.getElem_mem _⟩
end L2
end

section
set_option Elab.async false
set_option linter.all false
set_option maxRecDepth 100000
namespace L2
open PySem PySem.Spec PyProof.Rows
inductive Dt where
  | non | int (i : Int) | str (l : List Nat) | tup (ds : List Dt) | lst (ds : List Dt)
mutual
def toP : Dt → PyData
  | .non => .none
  | .int i => .int i
  | .str l => .str (S l)
  | .tup ds => .tuple (toPs ds)
  | .lst ds => .list (toPs ds)
def toPs : List Dt → List PyData
  | [] => []
  | d :: ds => toP d :: toPs ds
end
mutual
theorem eqv_D : ∀ d e : Dt, PyData.eqv (toP d) (toP e) = true ↔ d = e
  | .non, .non => by simp [toP, PyData.eqv]
  | .non, .int _ => by simp [toP, PyData.eqv]
  | .non, .str _ => by simp [toP, PyData.eqv]
  | .non, .tup _ => by simp [toP, PyData.eqv]
  | .non, .lst _ => by simp [toP, PyData.eqv]
  | .int _, .non => by simp [toP, PyData.eqv]
  | .int _, .int _ => by simp [toP, PyData.eqv]
  | .int _, .str _ => by simp [toP, PyData.eqv]
  | .int _, .tup _ => by simp [toP, PyData.eqv]
  | .int _, .lst _ => by simp [toP, PyData.eqv]
  | .str _, .non => by simp [toP, PyData.eqv]
  | .str _, .int _ => by simp [toP, PyData.eqv]
  | .str a, .str b => by
    simp only [toP, PyData.eqv, beq_iff_eq, Dt.str.injEq]
    exact ⟨S_inj, fun z => by rw [z]⟩
  | .str _, .tup _ => by simp [toP, PyData.eqv]
  | .str _, .lst _ => by simp [toP, PyData.eqv]
  | .tup _, .non => by simp [toP, PyData.eqv]
  | .tup _, .int _ => by simp [toP, PyData.eqv]
  | .tup _, .str _ => by simp [toP, PyData.eqv]
  | .tup ds, .tup es => by simp only [toP, PyData.eqv, Dt.tup.injEq]; exact eqv_Ds ds es
  | .tup _, .lst _ => by simp [toP, PyData.eqv]
  | .lst _, .non => by simp [toP, PyData.eqv]
  | .lst _, .int _ => by simp [toP, PyData.eqv]
  | .lst _, .str _ => by simp [toP, PyData.eqv]
  | .lst _, .tup _ => by simp [toP, PyData.eqv]
  | .lst ds, .lst es => by simp only [toP, PyData.eqv, Dt.lst.injEq]; exact eqv_Ds ds es
theorem eqv_Ds : ∀ ds es : List Dt, PyData.eqvAll (toPs ds) (toPs es) = true ↔ ds = es
  | [], [] => by simp [toPs, PyData.eqvAll]
  | [], _ :: _ => by simp [toPs, PyData.eqvAll]
  | _ :: _, [] => by simp [toPs, PyData.eqvAll]
  | d :: ds, e :: es => by
    simp only [toPs, PyData.eqvAll, Bool.and_eq_true, List.cons.injEq]
    rw [eqv_D d e, eqv_Ds ds es]
end
mutual
inductive HasD (K : PySem.W.Frag) (H : Hp) : Nat → Dt → V → Prop
  | non {n} : HasD K H n .non .non
  | int {n} (i : Int) : HasD K H n (.int i) (.int i)
  | str {n} (l : List Nat) (h : ∀ c ∈ l, c < 128) : HasD K H n (.str l) (.str (S l))
  | tup {n a ds xs} (h : SqT K H a xs) (hs : HasDs K H n ds xs) : HasD K H (n + 1) (.tup ds) (.ref a)
  | lst {n a ds xs} (h : SqL K H a xs) (hs : HasDs K H n ds xs) : HasD K H (n + 1) (.lst ds) (.ref a)
inductive HasDs (K : PySem.W.Frag) (H : Hp) : Nat → List Dt → List V → Prop
  | nil {n} : HasDs K H n [] []
  | cons {n d ds x xs} (h : HasD K H n d x) (hs : HasDs K H n ds xs) : HasDs K H n (d :: ds) (x :: xs)
end
theorem strOk_S {l : List Nat} (h : ∀ c ∈ l, c < 128) : PyData.strOk (S l) = true := by
  unfold PyData.strOk
  show l.toArray.all _ = true
  rw [Array.all_eq_true_iff_forall_mem]
  intro x hx
  have := h x (by simpa using hx)
  exact decide_eq_true (by omega)
mutual
theorem HasD.lay {K : PySem.W.Frag} {H : Hp} : ∀ {n : Nat} {d : Dt} {x : V}, HasD K H n d x → (toP d).canLay0 = true ∧ (toP d).depth ≤ n
  | _, _, _, .non => by simp [toP, PyData.canLay0, PyData.depth]
  | _, _, _, .int _ => by simp [toP, PyData.canLay0, PyData.depth]
  | _, _, _, .str l h => by simp only [toP, PyData.canLay0, PyData.depth]; exact ⟨strOk_S h, Nat.zero_le _⟩
  | _, _, _, .tup _ hs => by
    simp only [toP, PyData.canLay0, PyData.depth]
    have := hs.lay
    exact ⟨this.1, Nat.succ_le_succ this.2⟩
  | _, _, _, .lst _ hs => by
    simp only [toP, PyData.canLay0, PyData.depth]
    have := hs.lay
    exact ⟨this.1, Nat.succ_le_succ this.2⟩
theorem HasDs.lay {K : PySem.W.Frag} {H : Hp} : ∀ {n : Nat} {ds : List Dt} {xs : List V}, HasDs K H n ds xs → PyData.canLayAll0 (toPs ds) = true ∧ PyData.depthAll (toPs ds) ≤ n
  | _, _, _, .nil => by simp [toPs, PyData.canLayAll0, PyData.depthAll]
  | _, _, _, .cons h hs => by
    have a := h.lay
    have b := hs.lay
    simp only [toPs, PyData.canLayAll0, PyData.depthAll, Bool.and_eq_true]
    exact ⟨⟨a.1, b.1⟩, Nat.max_le.mpr ⟨a.2, b.2⟩⟩
end
mutual
theorem HasD.same {K : PySem.W.Frag} {H H' : Hp} (sm : Same H H') (st : ∀ a xs, SqT K H a xs → SqT K H' a xs) : ∀ {n : Nat} {d : Dt} {x : V}, HasD K H n d x → HasD K H' n d x
  | _, _, _, .non => .non
  | _, _, _, .int i => .int i
  | _, _, _, .str l h => .str l h
  | _, _, _, .tup h hs => .tup (st _ _ h) (hs.same sm st)
  | _, _, _, .lst h hs => .lst (sm.seq h) (hs.same sm st)
theorem HasDs.same {K : PySem.W.Frag} {H H' : Hp} (sm : Same H H') (st : ∀ a xs, SqT K H a xs → SqT K H' a xs) : ∀ {n : Nat} {ds : List Dt} {xs : List V}, HasDs K H n ds xs → HasDs K H' n ds xs
  | _, _, _, .nil => .nil
  | _, _, _, .cons h hs => .cons (h.same sm st) (hs.same sm st)
end
section
variable {X : Cx}
mutual
theorem HasD.reads {pins : List (Addr × Obj)} {σ : St} {H : Hp} {s : Shared} (I : Inv X pins σ H s) : ∀ {n : Nat} {d : Dt} {x : V} {u : Value}, HasD X.K H n d x → RelV x u → ∃ as, Reads s.heap u (toP d) as
  | _, _, _, u, .non, r => by cases r; exact ⟨[], by rw [toP]; exact .none⟩
  | _, _, _, u, .int i, r => by obtain ⟨t, rfl⟩ := r; exact ⟨[], by rw [toP]; exact .int i t⟩
  | _, _, _, u, .str l h, r => by obtain ⟨t, rfl⟩ := r; exact ⟨[], by rw [toP]; exact .str _ t⟩
  | _, _, _, u, .tup h hs, r => by
    cases r
    obtain ⟨its, rv, pl, _⟩ := I.tuple h
    obtain ⟨as, ra⟩ := hs.reads I rv
    obtain ⟨o, ho, hc, n, hd⟩ := pl
    exact ⟨as, by rw [toP]; exact .tuple ho hc hd (by simpa using ra)⟩
  | _, _, _, u, .lst h hs, r => by
    cases r
    obtain ⟨its, rv, pl, _⟩ := I.list h
    obtain ⟨as, ra⟩ := hs.reads I rv
    obtain ⟨o, ho, hc, n, hd⟩ := pl.isList
    exact ⟨_ :: as, by rw [toP]; exact .list ho hc hd (by simpa using ra)⟩
theorem HasDs.reads {pins : List (Addr × Obj)} {σ : St} {H : Hp} {s : Shared} (I : Inv X pins σ H s) : ∀ {n : Nat} {ds : List Dt} {xs : List V} {us : List Value}, HasDs X.K H n ds xs → Vals xs us → ∃ as, ReadsAll s.heap us (toPs ds) as
  | _, _, _, us, .nil, r => by cases r; exact ⟨[], by rw [toPs]; exact .nil⟩
  | _, _, _, us, .cons h hs, r => by
    cases r with
    | cons q t =>
      obtain ⟨as, a⟩ := h.reads I q
      obtain ⟨bs, b⟩ := hs.reads I t
      exact ⟨as ++ bs, by rw [toPs]; exact .cons a b⟩
end
variable {tg : Expr}
end
end L2
namespace L2
open PySem PySem.Spec PyProof.Rows
section
variable {X : Cx} {x : Str} {pos : Pos}
end
end L2
namespace L2
open PySem PySem.Spec PyProof.Rows
section
variable {X : Cx}
theorem qe_bmK  {o e : Expr} {es : List Expr} {to : TE} {t : TA} {name : Str} {apos cpos : Pos} {T id : String} {r : V → List V → Hp → VK → Prop} (K : PySem.W.Frag) (pa : PlainAttrs T) (slot : Slot T name id) (hty : typeOf (.builtin id) = pure (.type "method_descriptor")) (hm : MtR X id r) (ho : QE X o to) (ha : QA X (e :: es) t) (hbase : attributeBase o name X.env (eval o X.env) = eval o X.env := by rfl) (hfew : ((backTo cpos (starEach (e :: es) X.env)).all (fun x => !x.1) && (backToKw cpos (keywordEach [] X.env)).all (fun x => x.1.isSome)
      && decide ((e :: es).length + ([] : List Keyword).length + (if ([] : List Keyword).isEmpty then 0 else 1) < 30)) = true := by rfl) (hline : (apos.endLine == cpos.line) = true := by rfl) (hs : starEach (e :: es) X.env = (false, eval e X.env) :: starEach es X.env := by rfl) (hplain : (backTo cpos (starEach es X.env)).any (·.1) = false := by rfl) (h : X.K = K := by rfl) : QE X (.Call (.Attribute o name apos) (e :: es) [] cpos) (tBM K T r to t) := by subst h; exact qe_bm pa slot hty hm ho ha hbase hfew hline hs hplain
end
end L2
end

section
set_option Elab.async false
set_option linter.all false
set_option maxRecDepth 100000
namespace L2
open PySem PySem.Spec PyProof.Rows
section
variable {X : Cx}
end
end L2
end

section
set_option Elab.async false
set_option linter.all false
set_option maxRecDepth 100000
namespace L2
open PySem PySem.Spec PyProof.Rows
def blkG (X : Cx) (scope : Scope) (cl : List (Str × Addr)) (C : Addr) (N : List Str) (s₀ : Shared) (H₀ : Hp) (fp : List Addr) : Cx :=
  { X with N := N, s₀ := s₀, H₀ := H₀, env := compEnvC scope cl C X.env, outer := X.stack, ex := fp, fn := fun _ => false, pn := [], xe := fun _ _ => False }
structure CompG (X : Cx) (scope : Scope) (ns N2 : List Str) (f : St → St) : Prop where
  kind : scope.kind = .function
  ncell : ∀ y ∈ scope.names, y.2 ≠ .cell
  names : ∀ y ∈ scope.names, y.2 = .local → scope.names.lookup y.1 = some .local
  free : ∀ y ∈ scope.names, y.2 = .free → X.env.kindOf y.1 = some .cell ∨ X.env.kindOf y.1 = some .free
  lenf : ∀ σ : St, (f σ).length = σ.length
  lenN : N2.length = X.N.length
  out : ∀ (σ : St) (i : Nat) (y : Str) (v : V), N2[i]? = some y → (f σ)[i]? = some (some v) → X.N[i]? = some y ∧ σ[i]? = some (some v) ∧ scope.names.lookup y ≠ some .local
def PTg (X : Cx) (tg : Expr) (k : Nat) (TP : V → Hp → (St → Prop) → Prop) : Prop :=
  ∀ (pins : List (Addr × Obj)) (s : Shared) (pre rest : St) (H : Hp) (v : V) (u : Value) (Q : St → Prop), pre.length = k → Inv X pins (pre ++ rest) H s → RelV v u → TP v H Q →
    wpAny (model X.prog X.w) X.A (assign tg X.env u) (fun _ s' => ∃ pre', pre'.length = k ∧ Inv X pins (pre' ++ rest) H s' ∧ Q pre') (fun _ _ => False) s
def tCompG (f : St → St) (k : Nat) (wi : TI) (TP : V → Hp → (St → Prop) → Prop) (tt : TT) (te : TE) : TE := fun σ H Q => wi σ H fun J H1 => ∀ D, H1 D = none → ∃ W : Nat → Nat → List V → Hp → Prop, (∃ m, W 0 m [] (upd H1 D (.lst []))) ∧
  ∀ i m ys H, W i m ys H → (J.stop i H ∧ Q (.ref D) H) ∨ (J.go i H ∧ ∀ x H', J.yld i H x H' → TP x H' fun pre => tt (pre ++ f σ) H' fun b H2 =>
    if b = true then te (pre ++ f σ) H2 fun y H3 => H3 D = some (.lst ys) ∧ ys.length < sizeLine ∧ ∃ m', m' < m ∧ W (i + 1) m' (ys ++ [y]) (upd H3 D (.lst (ys ++ [y])))
    else ∃ m', m' < m ∧ W (i + 1) m' ys H2)
theorem pe_compG {X : Cx} {elt iter tg : Expr} {ns N2 : List Str} {f : St → St} {TP : V → Hp → (St → Prop) → Prop} {ifs : List Expr} {scope : Scope} {pos : Pos} {wi : TI} {tt : TT} {te : TE} (hc : X.calm = true) (ok : CompG X scope ns N2 f) (hi : PI X tg iter wi)
    (hg : ∀ cl C s₀ H₀ fp, PTg (blkG X scope cl C (ns ++ N2) s₀ H₀ fp) tg ns.length TP)
    (ht : ∀ cl C s₀ H₀ fp, PTs (blkG X scope cl C (ns ++ N2) s₀ H₀ fp) ifs tt) (he : ∀ cl C s₀ H₀ fp, PE (blkG X scope cl C (ns ++ N2) s₀ H₀ fp) elt te)
    (hs : ∀ x, foldedSetIterable iter X.env x = pure x := by intro _; rfl) : PE X (.ListComp elt [⟨tg, iter, ifs, 0⟩] scope pos) (tCompG f ns.length wi TP tt te) := by
  intro pins s σ H Q I h
  obtain ⟨cl, hcl, hsub, _, hall⟩ := closure_ok (env := X.env) scope.names (fun y hy e => I.ok.has y.1 (ok.free y hy e)) [] (fun _ _ z => by simp at z)
  have hclos : closureFor scope X.env = pure cl := by
    unfold closureFor
    simp only [bind_pure]
    exact hcl
  rw [eval_ListComp]
  refine wpAny_comprehension_free (use := none) (E := X.xe) (cl := cl) rfl hs hclos ok.kind ok.names (thn (hi pins s σ H _ I h) fun v s1 h1 => thn h1 fun itv s2 h2 => ?_)
  obtain ⟨it, fp, tn, J, H2, e, I2, T, st2, f2, R⟩ := h2
  subst e
  obtain ⟨W, ⟨m0, w0⟩, turn⟩ := R s2.heap.objs.size I2.fresh
  refine wpAny_newObj_type (wpAny_newFunctionEnv ok.ncell (by intro y hy; simp at hy) (fun h₁ hns₁ hsb₁ => ?_) ok.kind)
  dsimp only at hns₁ hsb₁ ⊢
  have I3 : Inv X pins σ (upd H2 s2.heap.objs.size (.lst [])) { s2 with heap := s2.heap.push { cls := .type "list", data := .seq ([] : List Value).toArray } } := I2.lnew (t' := s2.toks) (ys := []) (its := []) .nil (Nat.zero_le _)
  generalize hH3 : upd H2 s2.heap.objs.size (HO.lst []) = H3 at *
  generalize hs3 : s2.heap.push { cls := .type "list", data := .seq ([] : List Value).toArray } = hp3 at *
  generalize hD : s2.heap.objs.size = D at *
  generalize hC : hp3.objs.size = C at *
  have hDC : D < C := by rw [← hC, ← hs3, Heap.size_push, hD]; exact Nat.lt_succ_self _
  have old : ∀ b o, hp3.get? b = some o → h₁.get? b = some o := fun b o e => (hsb₁.2 b (by rw [← hC]; exact Nat.ne_of_lt (Heap.lt_size e))).trans (Heap.get?_push_of_some _ e)
  have fpl : ∀ b ∈ fp, b < C := fun b hb => by
    obtain ⟨o, e, _⟩ := T.obj _ _ st2 b hb
    rw [← hC, ← hs3, Heap.size_push]
    exact Nat.lt_succ_of_lt (Heap.lt_size e)
  have f3 : ∀ b ∈ fp, FpOk X pins H3 b := fun b hb => by
    obtain ⟨o, e, _⟩ := T.obj _ _ st2 b hb
    refine ⟨?_, (f2 b hb).2⟩
    rw [← hH3, upd_ne (by rw [← hD]; exact Nat.ne_of_lt (Heap.lt_size e))]
    exact (f2 b hb).1
  have nstk : ∀ b ∈ fp, b ∉ frs X.stack := fun b hb z => by
    obtain ⟨_, g1, g2, _⟩ := f3 b hb
    rcases List.mem_cons.mp (I3.stkSub b z) with q | q
    · exact g1 q
    · exact g2 q
  -- the block's context
  have YOk : (blkG X scope cl C (ns ++ N2) { s2 with heap := hp3 } H3 fp).Ok := by
    refine ⟨I.ok.mod, ?_, I.ok.glob, I.ok.blt, Nat.le_of_eq hC, ?_, ?_, ?_, I.ok.hd, I.ok.frames, .inl rfl, ?_, ?_, ?_, ?_, ?_, ?_, ?_⟩
    · exact ok.kind
    · exact fun a b c h1 h2 => I.ok.inj a b c (hsub a c h1) (hsub b c h2)
    · intro a ha
      refine hall a ?_
      rcases ha with z | z
      · rcases lookup_relabel (env := X.env) z with q | ⟨_, q⟩
        · exact absurd rfl (ok.ncell _ (lookup_mem' q))
        · exact lookup_mem' q
      · rcases lookup_relabel (env := X.env) z with q | ⟨q, _⟩
        · exact lookup_mem' q
        · cases q
    · intro a c hf; cases hf
    · intro b hb
      refine ⟨Nat.ne_of_lt (fpl b hb), fun a c h1 => (f3 b hb).2.2.2.2.1 a c (hsub a c h1)⟩
    · exact I3.bs
    · exact Nat.le_trans I.ok.bsz I3.sz
    · intro b o e hb
      rcases (f3 b hb).2.2.2.1 with z | z
      · exact I.ok.noex b o e z
      · exact absurd (Nat.lt_of_lt_of_le (Heap.lt_size e) (Nat.le_trans I.ok.bsz z)) (Nat.lt_irrefl _)
    · exact nstk
    · exact I3.stack
    · exact I3.stkFree
  have Y0 : Inv (blkG X scope cl C (ns ++ N2) { s2 with heap := hp3 } H3 fp) [] (List.replicate ns.length none ++ f σ) H3 { s2 with heap := h₁, toks := s2.toks + ([] : List (Str × Value)).length } := by
    refine ⟨YOk, rfl, I3.bare, Un.kept old, ⟨_, hns₁, ?_⟩, ?_, ?_, ?_, fun p hp => by simp [blkG] at hp, I3.hok.kept old, ?_⟩
    · intro i y v e1 e2 e3
      by_cases hin : i < ns.length
      · rw [List.getElem?_append_left (by rw [List.length_replicate]; exact hin), List.getElem?_replicate, if_pos hin] at e2
        simp at e2
      · obtain ⟨i, rfl⟩ : ∃ k, i = ns.length + k := ⟨i - ns.length, by omega⟩
        have e1a : (ns ++ N2)[ns.length + i]? = some y := e1
        rw [List.getElem?_append_right (by omega), Nat.add_sub_cancel_left] at e1a
        rw [List.getElem?_append_right (by rw [List.length_replicate]; omega), List.length_replicate, Nat.add_sub_cancel_left] at e2
        obtain ⟨e1', e2', hout⟩ := ok.out σ i y v e1a e2
        have hfree : (y, NameKind.free) ∈ scope.names := by
          have key : ∀ k, (relabel scope X.env).names.lookup y = some k → k ≠ .local → k = .cell ∨ k = .free → (y, NameKind.free) ∈ scope.names := fun k q n hk => by
            rcases lookup_relabel (env := X.env) q with z | ⟨_, z⟩
            · rcases hk with rfl | rfl
              · exact absurd rfl (ok.ncell _ (lookup_mem' z))
              · exact lookup_mem' z
            · exact lookup_mem' z
          rcases e3 with z | z | z
          · rcases lookup_relabel (env := X.env) z with q | ⟨q, _⟩
            · exact absurd q hout
            · cases q
          · exact key _ z (by decide) (.inl rfl)
          · exact key _ z (by decide) (.inr rfl)
        have hk := ok.free _ hfree rfl
        obtain ⟨m, hn, hl⟩ := I3.loc
        obtain ⟨u, r, q⟩ := hl i y v e1' e2' (by rcases hk with z | z; exact .inr (.inl z); exact .inr (.inr z))
        refine ⟨u, r, .inr ⟨?_, ?_⟩⟩
        · rcases e3 with z | z | z
          · rcases lookup_relabel (env := X.env) z with q | ⟨q, _⟩
            · exact absurd q hout
            · cases q
          · exact .inl z
          · exact .inr z
        · rcases q with ⟨z, _⟩ | ⟨_, c, hc', hcell⟩
          · rcases hk with q | q <;> (rw [z] at q; cases q)
          · obtain ⟨c', hc2⟩ := hall y hfree
            have : c' = c := by have := hsub y c' hc2; rw [hc'] at this; exact (Option.some.inj this).symm
            subst this
            obtain ⟨o, ho, hd⟩ := hcell
            exact ⟨c', hc2, o, old _ _ ho, hd⟩
    · intro a c h1
      obtain ⟨v, o, ho, hd⟩ := I3.cell a c (hsub a c h1)
      exact ⟨v, o, old _ _ ho, hd⟩
    · show H3 C = none
      exact I3.hok.fresh (Nat.le_of_eq hC)
    · exact fun a c h1 => I3.freeC a c (hsub a c h1)
    · show (List.replicate ns.length none ++ f σ).length = (ns ++ N2).length
      rw [List.length_append, List.length_append, List.length_replicate, ok.lenf, I.len, ok.lenN]
  -- behind the block
  have back : ∀ (s' : Shared) (v : St) (H' : Hp) (h' : Heap), Inv (blkG X scope cl C (ns ++ N2) { s2 with heap := hp3 } H3 fp) [] v H' s' → Heap.SameBut C s'.heap h' → (∀ b ∈ fp, H' b = none) → Inv X pins σ H' { s' with heap := h' } := by
    intro s' v H' h' I' sb fr
    have neC : ∀ b o, hp3.get? b = some o → b ≠ C := fun b o e => by rw [← hC]; exact Nat.ne_of_lt (Heap.lt_size e)
    have U : Un (frs X.stack) fp H3 H' hp3 s'.heap := I'.base
    refine I3.call' (ch := fp) (H' := H') (s' := { s' with heap := h' }) I'.os ⟨fun b o e n h1 h2 => (sb.2 b (neC b o e)).trans (U.keep b o e n h1 h2), fun b o e n h1 h2 => ?_, U.free, fun b o e h2 => ?_, U.tups, U.frzs, U.tbls⟩ (fun b ob e => ?_) I'.bare fun b hb => ?_
    · obtain ⟨sl, q⟩ := U.slot b o e n h1 h2
      exact ⟨sl, (sb.2 b (neC b o e)).trans q⟩
    · obtain ⟨o', q⟩ := U.there b o e h2
      exact ⟨o', (sb.2 b (neC b o e)).trans q⟩
    · have fC : H' C = none := I'.free
      refine (I'.hok b ob e).stay (fun c w' hc q => (sb.2 c ?_).trans q) (fun _ q => q) fun _ _ q => q
      rintro rfl
      rcases hc with rfl | hc
      · rw [fC] at e; cases e
      · rw [fC] at hc; cases hc
    · obtain ⟨_, g1, _, g3, g4, g5⟩ := f3 b hb
      exact ⟨g3, g1, g4, g5⟩
  have stat : ∀ {H' : Hp}, (∀ b ∈ fp, H' b = none) → ∀ b ∈ fp, FpOk (blkG X scope cl C (ns ++ N2) { s2 with heap := hp3 } H3 fp) [] H' b := fun hn b hb =>
    ⟨hn b hb, Nat.ne_of_lt (fpl b hb), nstk b hb, .inl hb, fun a c h1 => (f3 b hb).2.2.2.2.1 a c (hsub a c h1), fun p hp => by simp [blkG] at hp⟩
  have st₁ : tn 0 h₁ := T.keep _ _ _ st2 fun b _ o e => old b o (by rw [← hs3]; exact Heap.get?_push_of_some _ e)
  have loop : codeAny (model X.prog X.w) X.A (.compLoop (.ListComp elt [⟨tg, iter, ifs, 0⟩] scope pos) 0 (.ref it) (.ref D) (compEnvC scope cl C X.env)) (compPost (model X.prog X.w) X.A X.xe none (EP X pins σ Q) (.ref D) C)
      { s2 with heap := h₁, toks := s2.toks + ([] : List (Str × Value)).length } := by
    refine compLoop_T (fun n s' => ∃ i v ys H', v.length = ns.length ∧ Inv (blkG X scope cl C (ns ++ N2) { s2 with heap := hp3 } H3 fp) [] (v ++ f σ) H' s' ∧ tn i s'.heap ∧ (∀ b ∈ fp, H' b = none) ∧ W i n ys H') ?_ m0 ⟨0, List.replicate ns.length none, [], H3, List.length_replicate, Y0, st₁, fun b hb => (f3 b hb).1, w0⟩
    rintro n s4 ⟨i, v, ys, H4, hv4, I4, st4, fr4, w4⟩
    rcases turn i n ys H4 w4 with ⟨stop, qn⟩ | ⟨go, step⟩
    · refine thn (T.done (blkG X scope cl C (ns ++ N2) { s2 with heap := hp3 } H3 fp) rfl rfl rfl hc i [] s4 (v ++ f σ) H4 _ I4 (stat fr4) st4 stop) fun r s5 ⟨hr, I5⟩ => ?_
      subst hr
      obtain ⟨m, hn, _⟩ := id I5.loc
      exact ⟨m, hn, fun h' sb => ⟨.ref D, H4, back s5 (v ++ f σ) H4 h' I5 sb fr4, rfl, qn⟩⟩
    · refine thn (T.item (blkG X scope cl C (ns ++ N2) { s2 with heap := hp3 } H3 fp) rfl rfl rfl hc i [] s4 (v ++ f σ) H4 _ I4 (stat fr4) st4 go) fun r s5 ⟨u, hr, h5⟩ => ?_
      subst hr
      refine thn h5 fun _ s6 ⟨y, H6, I6, r6, y6, st6, fr6⟩ => ?_
      have I6' := I6.pinned (stat fr6) (T.obj _ _ st6)
      refine thn (hg cl C { s2 with heap := hp3 } H3 fp _ s6 v (f σ) H6 y u _ hv4 I6' r6 (step y H6 y6)) fun _ s7 ⟨pre, hpre, I7', q7⟩ => ?_
      refine thn (ht cl C { s2 with heap := hp3 } H3 fp _ s7 _ H6 _ I7' q7) fun b s8 ⟨H8, I8, q8⟩ => ?_
      have keepIt : ∀ {σ' : St} {H' : Hp} {s' : Shared}, Inv (blkG X scope cl C (ns ++ N2) { s2 with heap := hp3 } H3 fp) ([] ++ pinsAt fp s6.heap) σ' H' s' → tn (i + 1) s'.heap ∧ ∀ b ∈ fp, H' b = none := fun {σ' H' s'} I9 => by
        refine ⟨T.keep _ _ _ st6 fun b hb o e => (I9.pin (b, o) (List.mem_append_right _ (List.mem_append_right _ (mem_pinsAt hb e)))).1, fun b hb => ?_⟩
        obtain ⟨o, e, d⟩ := T.obj _ _ st6 b hb
        exact (I9.pin (b, o) (List.mem_append_right _ (List.mem_append_right _ (mem_pinsAt hb e)))).2.1
      cases b with
      | false =>
        obtain ⟨m', hm, w'⟩ := q8
        obtain ⟨k1, k2⟩ := keepIt I8
        exact ⟨m', hm, i + 1, pre, ys, H8, hpre, I8.unpinned, k1, k2, w'⟩
      | true =>
        have q8' : te (pre ++ f σ) H8 _ := q8
        show wpAny _ _ (eval elt _) _ _ _
        refine thn (he cl C { s2 with heap := hp3 } H3 fp _ s8 _ H8 _ I8 q8') fun z s9 ⟨zv, H9, I9, r9, hD9, hz9, m', hm, w'⟩ => ?_
        refine thn (mt_append (X := blkG X scope cl C (ns ++ N2) { s2 with heap := hp3 } H3 fp) _ s9 _ H9 (.ref D) [zv] (.ref D) [z] (fun _ H' => H' = upd H9 D (.lst (ys ++ [zv]))) I9 rfl (.cons r9 .nil) ⟨D, ys, zv, rfl, rfl, hD9, hz9, rfl⟩) fun _ s10 ⟨_, H10, I10, _, e10⟩ => ?_
        subst e10
        obtain ⟨k1, k2⟩ := keepIt I10
        exact ⟨m', hm, i + 1, pre, ys ++ [zv], _, hpre, I10.unpinned, k1, k2, w'⟩
  exact codeAny_compStart_list loop (T.self X.A 0 _ _ _ st₁ loop)
end L2
namespace L2
open PySem PySem.Spec PyProof.Rows
def hideS (ks : List Nat) : Nat → St → St
  | _, [] => []
  | i, v :: r => (if ks.contains i = true then none else v) :: hideS ks (i + 1) r
theorem hideS_len (ks : List Nat) : ∀ (i : Nat) (σ : St), (hideS ks i σ).length = σ.length
  | _, [] => rfl
  | i, _ :: r => by rw [hideS, List.length_cons, List.length_cons, hideS_len ks (i + 1) r]
theorem hideS_get (ks : List Nat) : ∀ (i : Nat) (σ : St) (j : Nat) (v : V), (hideS ks i σ)[j]? = some (some v) → ks.contains (i + j) = false ∧ σ[j]? = some (some v)
  | _, [], j, v, h => by simp [hideS] at h
  | i, x :: r, 0, v, h => by
    rw [hideS] at h
    cases e : ks.contains i with
    | true => rw [e] at h; simp at h
    | false => rw [e] at h; exact ⟨by first | rfl | exact e, by simpa using h⟩
  | i, x :: r, j + 1, v, h => by
    rw [hideS, List.getElem?_cons_succ] at h
    obtain ⟨a, b⟩ := hideS_get ks (i + 1) r j v h
    exact ⟨by rw [show i + (j + 1) = i + 1 + j by omega]; exact a, by rw [List.getElem?_cons_succ]; exact b⟩
def chkG (sc : Scope) (N : List Str) (scope : Scope) (N2 : List Str) (ks : List Nat) : Bool :=
  scope.kind == .function && scope.names.all (fun y => y.2 != .cell) && scope.names.all (fun y => y.2 != .local || scope.names.lookup y.1 == some .local) &&
  scope.names.all (fun y => y.2 != .free || sc.names.lookup y.1 == some .cell || sc.names.lookup y.1 == some .free) && N2.length == N.length &&
  (List.range N.length).all (fun i => ks.contains i || (N2[i]? == N[i]? && (N[i]?.map fun y => scope.names.lookup y != some .local) == some true))
theorem CompG.of {X : Cx} {scope : Scope} {ns : List Str} (N2 : List Str) (ks : List Nat) (h : chkG X.env.scope X.N scope N2 ks = true) : CompG X scope ns N2 (hideS ks 0) := by
  unfold chkG at h
  simp only [Bool.and_eq_true, List.all_eq_true, Bool.or_eq_true, bne_iff_ne, beq_iff_eq, ne_eq] at h
  obtain ⟨⟨⟨⟨⟨h1, h2⟩, h3⟩, h5⟩, h6⟩, h7⟩ := h
  refine ⟨h1, fun y hy => h2 y hy, fun y hy e => (h3 y hy).resolve_left fun z => z e, fun y hy e => ?_, hideS_len ks 0, h6, fun σ i y v e1 e2 => ?_⟩
  · rcases h5 y hy with (z | z) | z
    · exact absurd e z
    · exact .inl z
    · exact .inr z
  · obtain ⟨a, b⟩ := hideS_get ks 0 σ i v e2
    rw [Nat.zero_add] at a
    have hi : i < X.N.length := by rw [← h6]; exact (List.getElem?_eq_some_iff.mp e1).1
    rcases h7 i (List.mem_range.mpr hi) with z | ⟨z1, z2⟩
    · rw [a] at z; cases z
    · rw [← z1, e1] at z2
      rw [z1] at e1
      exact ⟨e1, b, by simpa using z2⟩
theorem tg_name {X : Cx} {scope : Scope} {cl : List (Str × Addr)} {C : Addr} {N : List Str} {s₀ : Shared} {H₀ : Hp} {fp : List Addr} {x : Str} {pos : Pos} (hN : N.Nodup) (h0 : N[0]? = some x) (hx : scope.names.lookup x = some .local) :
    PTg (blkG X scope cl C N s₀ H₀ fp) (.Name x pos) 1 (fun v _ Q => Q [some v]) := by
  intro pins s pre rest H v u Q hp I r q
  obtain ⟨p0, rfl⟩ := List.length_eq_one_iff.mp hp
  refine thn (pg_name (X := blkG X scope cl C N s₀ H₀ fp) (i := 0) hN h0 (.inl (lookup_relabel_local hx)) (.inr (lookup_relabel_local hx)) pins s _ H v u (fun σ' H' => H' = H ∧ σ' = some v :: rest) I r ⟨rfl, rfl⟩) fun _ s' ⟨σ', H', I', e1, e2⟩ => ?_
  subst e1 e2
  exact ⟨[some v], rfl, I', q⟩
theorem qe_compG {X : Cx} {elt iter tg : Expr} {ns N2 : List Str} {f : St → St} {TP : V → Hp → (St → Prop) → Prop} {ifs : List Expr} {scope : Scope} {pos : Pos} {wi : TI} {tt : TT} {te : TE} (hc : X.calm = true) (ok : CompG X scope ns N2 f) (hi : QI X tg iter wi)
    (hg : ∀ cl C s₀ H₀ fp, PTg (blkG X scope cl C (ns ++ N2) s₀ H₀ fp) tg ns.length TP)
    (ht : ∀ cl C s₀ H₀ fp, QTs (blkG X scope cl C (ns ++ N2) s₀ H₀ fp) ifs tt) (he : ∀ cl C s₀ H₀ fp, QE (blkG X scope cl C (ns ++ N2) s₀ H₀ fp) elt te)
    (hs : ∀ x, foldedSetIterable iter X.env x = pure x := by intro _; rfl) : QE X (.ListComp elt [⟨tg, iter, ifs, 0⟩] scope pos) (tCompG f ns.length wi TP tt te) :=
  ⟨pe_compG hc ok hi.out hg (fun cl C s₀ H₀ fp => (ht cl C s₀ H₀ fp).out) (fun cl C s₀ H₀ fp => (he cl C s₀ H₀ fp).out) hs⟩
def TurnG (n i : Nat) (D : Addr) (TP : V → Hp → (St → Prop) → Prop) (f : St → St) (σ : St) (tt : TT) (te : TE) (x : V) (H : Hp) (ys : List V) (P : List V → Hp → Prop) : Prop :=
  TP x H fun pre => tt (pre ++ f σ) H fun b H2 => if b = true then te (pre ++ f σ) H2 fun y H3 => H3 D = some (.lst ys) ∧ ys.length < sizeLine ∧ Nxt n i (P (ys ++ [y]) (upd H3 D (.lst (ys ++ [y])))) else Nxt n i (P ys H2)
theorem compG1_list {K : PySem.W.Frag} {a : Addr} {xs : List V} {D : Addr} {f : St → St} {tt : TT} {te : TE} {σ : St} {H : Hp} {R : Hp → Prop} (Pv : Nat → List V → Hp → Prop) (h0 : Pv 0 [] (upd H D (.lst []))) (hl : ∀ i ys H, i ≤ xs.length → Pv i ys H → SqL K H a xs)
    (hs : ∀ i x ys H, xs[i]? = some x → Pv i ys H → TurnG xs.length i D (fun v _ Q => Q [some v]) f σ tt te x H ys (Pv (i + 1)))
    (hd : ∀ ys H, Pv xs.length ys H → R H) :
    ∃ W : Nat → Nat → List V → Hp → Prop, (∃ m, W 0 m [] (upd H D (.lst []))) ∧
      ∀ i m ys H, W i m ys H → ((Itl K a).stop i H ∧ R H) ∨ ((Itl K a).go i H ∧ ∀ x H', (Itl K a).yld i H x H' → tt ([some x] ++ f σ) H' fun b H2 =>
        if b = true then te ([some x] ++ f σ) H2 fun y H3 => H3 D = some (.lst ys) ∧ ys.length < sizeLine ∧ ∃ m', m' < m ∧ W (i + 1) m' (ys ++ [y]) (upd H3 D (.lst (ys ++ [y])))
        else ∃ m', m' < m ∧ W (i + 1) m' ys H2) := by
  refine ⟨fun i m ys H => m = xs.length - i ∧ i ≤ xs.length ∧ Pv i ys H, ⟨xs.length, by simp, Nat.zero_le _, h0⟩, ?_⟩
  rintro i m ys H ⟨rfl, hi, p⟩
  have q := hl i ys H hi p
  by_cases hlt : i < xs.length
  · refine .inr ⟨⟨xs, xs[i], q, by simp [hlt]⟩, fun x H' y => ?_⟩
    obtain ⟨e, y⟩ := y
    subst e
    exact hs i x ys H' (y xs q) p
  · have e : i = xs.length := by omega
    subst e
    exact .inl ⟨⟨xs, q, Nat.le_refl _⟩, hd ys H p⟩
theorem compG1_str {l : List Nat} {D : Addr} {f : St → St} {tt : TT} {te : TE} {σ : St} {H : Hp} {R : Hp → Prop} (Pv : Nat → List V → Hp → Prop) (h0 : Pv 0 [] (upd H D (.lst []))) (hs : ∀ i c ys H, l[i]? = some c → Pv i ys H → TurnG l.length i D (fun v _ Q => Q [some v]) f σ tt te (.str (S [c])) H ys (Pv (i + 1)))
    (hd : ∀ ys H, Pv l.length ys H → R H) :
    ∃ W : Nat → Nat → List V → Hp → Prop, (∃ m, W 0 m [] (upd H D (.lst []))) ∧
      ∀ i m ys H, W i m ys H → ((Its l).stop i H ∧ R H) ∨ ((Its l).go i H ∧ ∀ x H', (Its l).yld i H x H' → tt ([some x] ++ f σ) H' fun b H2 =>
        if b = true then te ([some x] ++ f σ) H2 fun y H3 => H3 D = some (.lst ys) ∧ ys.length < sizeLine ∧ ∃ m', m' < m ∧ W (i + 1) m' (ys ++ [y]) (upd H3 D (.lst (ys ++ [y])))
        else ∃ m', m' < m ∧ W (i + 1) m' ys H2) := by
  refine ⟨fun i m ys H => m = l.length - i ∧ i ≤ l.length ∧ Pv i ys H, ⟨l.length, by simp, Nat.zero_le _, h0⟩, ?_⟩
  rintro i m ys H ⟨rfl, hi, p⟩
  by_cases hlt : i < l.length
  · refine .inr ⟨hlt, fun x H' y => ?_⟩
    obtain ⟨e, c, hc, e2⟩ := y
    subst e e2
    exact hs i c ys H' hc p
  · have e : i = l.length := by omega
    subst e
    exact .inl ⟨Nat.le_refl _, hd ys H p⟩
theorem turn1 {n i : Nat} {D : Addr} {f : St → St} {σ : St} {te : TE} {x : V} {H : Hp} {ys : List V} {P : List V → Hp → Prop} (h : te ([some x] ++ f σ) H fun y H3 => H3 D = some (.lst ys) ∧ ys.length < sizeLine ∧ Nxt n i (P (ys ++ [y]) (upd H3 D (.lst (ys ++ [y]))))) :
    TurnG n i D (fun v _ Q => Q [some v]) f σ tYes te x H ys P := by
  show (if true = true then (te ([some x] ++ f σ) H fun y H3 => H3 D = some (.lst ys) ∧ ys.length < sizeLine ∧ Nxt n i (P (ys ++ [y]) (upd H3 D (.lst (ys ++ [y]))))) else Nxt n i (P ys H))
  rw [if_pos rfl]
  exact h
end L2
end

section
set_option Elab.async false
set_option linter.all false
set_option maxRecDepth 100000
namespace L2
open PySem PySem.Spec PyProof.Rows
section
variable {X : Cx}
def rSortL (K : PySem.W.Frag) : List V → Hp → VK → Prop := fun xs H Q => ∃ (a : Addr) (ws : List (List Nat)), xs = [.ref a] ∧ SqL K H a (Ts ws) ∧ ws.length < 64 ∧ ∀ (p : Addr) (ws' : List (List Nat)), H p = none → ws'.Perm ws → ws'.Pairwise (fun a b => decide (b < a) = false) → Q (.ref p) (upd H p (.lst (Ts ws')))
theorem call_sortedL : CallR X (.builtin "sorted") (rSortL X.K) := by
  intro pins s σ H xs us Q I r h
  obtain ⟨a, ws, rfl, hS, h64, q⟩ := h
  obtain ⟨u, rfl, ru⟩ := vals1 r
  cases ru
  obtain ⟨its, rv, pl, _⟩ := I.list hS
  have hlen : its.length = ws.length := by have := rv.length; simpa using this.symm
  refine sorted_strs pl.isList (strs_of rv) (by omega) fun out ss' a1 a2 a3 => ?_
  obtain ⟨e, he⟩ := sortedAll_at s.heap its out
  have pm' : (ss'.map fun y => y.cps.toList).Perm ws := by
    have := a2.map fun y : Str => y.cps.toList
    rw [List.map_map] at this
    have e : ((fun y : Str => y.cps.toList) ∘ S) = id := rfl
    rw [e, List.map_id] at this
    exact this
  have hv : Vals (Ts (ss'.map fun y => y.cps.toList)) out.toList := by
    have := vals_of_strs a1
    have es : (ss'.map V.str) = Ts (ss'.map fun y => y.cps.toList) := by
      rw [Ts, List.map_map]
      exact List.map_congr_left fun y _ => by simp [Function.comp_def, S_of]
    rw [es] at this
    exact this
  have hl : (Ts (ss'.map fun y => y.cps.toList)).length ≤ sizeLine := by
    rw [List.length_map, pm'.length_eq]; exact Nat.le_of_lt (small1000 (by omega))
  refine ⟨.ref (s.heap.objs.size + 1), _, I.laid (o := .lst _) (t' := s.toks) (fun b o z => sortedAll_old z) (Nat.le_succ _) ⟨hl, out.toList, e, hv, by rw [Array.toArray_toList]; exact he⟩, rfl, q _ _ (I.hok.fresh (Nat.le_succ _)) pm' (sorted_pw ss' a3)⟩
end
end L2
end

section
set_option Elab.async false
set_option linter.all false
set_option maxRecDepth 100000
namespace L2
open PySem PySem.Spec PyProof.Rows PySem.W
section
variable {n : Nat} {r : Nat → Nat}
structure PermA (n : Nat) (p : Array Nat) : Prop where
  sz : p.size = n
  pm : p.toList.Perm (List.range n)
end
end L2
end

section
set_option Elab.async false
set_option linter.all false
set_option maxRecDepth 100000
set_option maxHeartbeats 1000000
namespace L2
open PySem PySem.Spec PyProof.Rows PySem.W
section
variable {prog : Program} {w : World} {A : Around} {E : Value → Shared → Prop} {s : Shared}
end
section
variable {X : Cx}
end
end L2
end

section
set_option Elab.async false
set_option linter.all false
set_option maxRecDepth 100000
set_option maxHeartbeats 1000000
namespace L2
open PySem PySem.Spec PyProof.Rows PySem.W
section
variable {prog : Program} {w : World} {A : Around} {E : Value → Shared → Prop} {s : Shared} {d a : Addr} {g : Array DictEntry} {e i : Nat}
end
section
variable {X : Cx}
end
section
variable {X : Cx} {pos : Pos}
end
end L2
end

section
set_option Elab.async false
set_option linter.all false
set_option maxRecDepth 100000
set_option maxHeartbeats 1000000
namespace L2
open PySem PySem.Spec PyProof.Rows PySem.W
section
variable {prog : Program} {w : World} {A : Around} {E : Value → Shared → Prop} {s : Shared}
end
section
variable {X : Cx}
end
end L2
end

section
set_option Elab.async false
set_option linter.all false
set_option maxRecDepth 100000
set_option maxHeartbeats 1000000
namespace L2
open PySem PySem.Spec PyProof.Rows PySem.W
section
variable {X : Cx}
structure InstOk (K : PySem.W.Frag) (C : Addr) : Prop where
  ha : PySem.W.findIn K (.ref C) "__class__" = some (some (.builtin "object.__class__"))
  hn : PySem.W.specialIn K (.builtin "object.__class__") "__get__" = some (some (.builtin "getset_descriptor.__get__"))
  ht : PySem.W.takesIn K (.builtin "object.__class__") = some true
  hm : PySem.W.mroIn K C (.type "object") = some true
  ki : PySem.W.kitOne K (.ref C) (.ref C) = some true
end
end L2
end

section
set_option Elab.async false
set_option linter.all false
set_option maxRecDepth 100000
set_option maxHeartbeats 1000000
namespace L2
open PySem PySem.Spec PyProof.Rows
theorem ps_setG {X : Cx} {ix : Nat} {xn : Str} {pos0 spos : Pos} {elt iter tg : Expr} {ns N2 : List Str} {f : St → St} {TP : V → Hp → (St → Prop) → Prop} {ifs : List Expr} {scope : Scope} {pos : Pos} {wi : TI} {tt : TT} {te : TE} (hN : X.N.Nodup) (hxi : X.N[ix]? = some xn) (hxl : Loc X.env.scope xn) (hc : X.calm = true) (ok : CompG X scope ns N2 f) (hi : PI X tg iter wi)
    (hg : ∀ cl C s₀ H₀ fp, PTg (blkG X scope cl C (ns ++ N2) s₀ H₀ fp) tg ns.length TP)
    (ht : ∀ cl C s₀ H₀ fp, PTs (blkG X scope cl C (ns ++ N2) s₀ H₀ fp) ifs tt) (he : ∀ cl C s₀ H₀ fp, PE (blkG X scope cl C (ns ++ N2) s₀ H₀ fp) elt te)
    (hs : ∀ x, foldedSetIterable iter X.env x = pure x := by intro _; rfl) (hsw : swapsWith (.ListComp elt [⟨tg, iter, ifs, 0⟩] scope pos) (some (.Name xn pos0)) spos.line X.env = pure true := by rfl)
    (hf : X.fn xn = true ∨ X.env.scope.names.lookup xn = some .local := by first | exact .inl rfl | exact .inr rfl | assumption) :
    PS X (.Assign [.Name xn pos0] (.ListComp elt [⟨tg, iter, ifs, 0⟩] scope pos) spos) (tAsg (tCompG f ns.length wi TP tt te) (gName ix)) := by
  intro pins s σ H De I h
  obtain ⟨cl, hcl, hsub, _, hall⟩ := closure_ok (env := X.env) scope.names (fun y hy e => I.ok.has y.1 (ok.free y hy e)) [] (fun _ _ z => by simp at z)
  have hclos : closureFor scope X.env = pure cl := by
    unfold closureFor
    simp only [bind_pure]
    exact hcl
  rw [exec_Assign_Name_used _ _ _ _ hsw]
  refine wpAny_bind (wpAny_standAt (wpAny_bind (wpAny_bind ?_)))
  refine thn (Q := fun _ s' => ∃ σ' H', Inv X pins σ' H' s' ∧ De.nx σ' H') ?_ fun _ s' hq => wpAny_pure (wpAny_pure hq)
  refine wpAny_comprehension_free (use := some (assign (.Name xn pos0) X.env)) (E := X.xe) (cl := cl) rfl hs hclos ok.kind ok.names (thn (hi pins s σ H _ I h) fun v s1 h1 => thn h1 fun itv s2 h2 => ?_)
  obtain ⟨it, fp, tn, J, H2, e, I2, T, st2, f2, R⟩ := h2
  subst e
  obtain ⟨W, ⟨m0, w0⟩, turn⟩ := R s2.heap.objs.size I2.fresh
  refine wpAny_newObj_type (wpAny_newFunctionEnv ok.ncell (by intro y hy; simp at hy) (fun h₁ hns₁ hsb₁ => ?_) ok.kind)
  dsimp only at hns₁ hsb₁ ⊢
  have I3 : Inv X pins σ (upd H2 s2.heap.objs.size (.lst [])) { s2 with heap := s2.heap.push { cls := .type "list", data := .seq ([] : List Value).toArray } } := I2.lnew (t' := s2.toks) (ys := []) (its := []) .nil (Nat.zero_le _)
  generalize hH3 : upd H2 s2.heap.objs.size (HO.lst []) = H3 at *
  generalize hs3 : s2.heap.push { cls := .type "list", data := .seq ([] : List Value).toArray } = hp3 at *
  generalize hD : s2.heap.objs.size = D at *
  generalize hC : hp3.objs.size = C at *
  have hDC : D < C := by rw [← hC, ← hs3, Heap.size_push, hD]; exact Nat.lt_succ_self _
  have old : ∀ b o, hp3.get? b = some o → h₁.get? b = some o := fun b o e => (hsb₁.2 b (by rw [← hC]; exact Nat.ne_of_lt (Heap.lt_size e))).trans (Heap.get?_push_of_some _ e)
  have fpl : ∀ b ∈ fp, b < C := fun b hb => by
    obtain ⟨o, e, _⟩ := T.obj _ _ st2 b hb
    rw [← hC, ← hs3, Heap.size_push]
    exact Nat.lt_succ_of_lt (Heap.lt_size e)
  have f3 : ∀ b ∈ fp, FpOk X pins H3 b := fun b hb => by
    obtain ⟨o, e, _⟩ := T.obj _ _ st2 b hb
    refine ⟨?_, (f2 b hb).2⟩
    rw [← hH3, upd_ne (by rw [← hD]; exact Nat.ne_of_lt (Heap.lt_size e))]
    exact (f2 b hb).1
  have nstk : ∀ b ∈ fp, b ∉ frs X.stack := fun b hb z => by
    obtain ⟨_, g1, g2, _⟩ := f3 b hb
    rcases List.mem_cons.mp (I3.stkSub b z) with q | q
    · exact g1 q
    · exact g2 q
  -- the block's context
  have YOk : (blkG X scope cl C (ns ++ N2) { s2 with heap := hp3 } H3 fp).Ok := by
    refine ⟨I.ok.mod, ?_, I.ok.glob, I.ok.blt, Nat.le_of_eq hC, ?_, ?_, ?_, I.ok.hd, I.ok.frames, .inl rfl, ?_, ?_, ?_, ?_, ?_, ?_, ?_⟩
    · exact ok.kind
    · exact fun a b c h1 h2 => I.ok.inj a b c (hsub a c h1) (hsub b c h2)
    · intro a ha
      refine hall a ?_
      rcases ha with z | z
      · rcases lookup_relabel (env := X.env) z with q | ⟨_, q⟩
        · exact absurd rfl (ok.ncell _ (lookup_mem' q))
        · exact lookup_mem' q
      · rcases lookup_relabel (env := X.env) z with q | ⟨q, _⟩
        · exact lookup_mem' q
        · cases q
    · intro a c hf; cases hf
    · intro b hb
      refine ⟨Nat.ne_of_lt (fpl b hb), fun a c h1 => (f3 b hb).2.2.2.2.1 a c (hsub a c h1)⟩
    · exact I3.bs
    · exact Nat.le_trans I.ok.bsz I3.sz
    · intro b o e hb
      rcases (f3 b hb).2.2.2.1 with z | z
      · exact I.ok.noex b o e z
      · exact absurd (Nat.lt_of_lt_of_le (Heap.lt_size e) (Nat.le_trans I.ok.bsz z)) (Nat.lt_irrefl _)
    · exact nstk
    · exact I3.stack
    · exact I3.stkFree
  have Y0 : Inv (blkG X scope cl C (ns ++ N2) { s2 with heap := hp3 } H3 fp) [] (List.replicate ns.length none ++ f σ) H3 { s2 with heap := h₁, toks := s2.toks + ([] : List (Str × Value)).length } := by
    refine ⟨YOk, rfl, I3.bare, Un.kept old, ⟨_, hns₁, ?_⟩, ?_, ?_, ?_, fun p hp => by simp [blkG] at hp, I3.hok.kept old, ?_⟩
    · intro i y v e1 e2 e3
      by_cases hin : i < ns.length
      · rw [List.getElem?_append_left (by rw [List.length_replicate]; exact hin), List.getElem?_replicate, if_pos hin] at e2
        simp at e2
      · obtain ⟨i, rfl⟩ : ∃ k, i = ns.length + k := ⟨i - ns.length, by omega⟩
        have e1a : (ns ++ N2)[ns.length + i]? = some y := e1
        rw [List.getElem?_append_right (by omega), Nat.add_sub_cancel_left] at e1a
        rw [List.getElem?_append_right (by rw [List.length_replicate]; omega), List.length_replicate, Nat.add_sub_cancel_left] at e2
        obtain ⟨e1', e2', hout⟩ := ok.out σ i y v e1a e2
        have hfree : (y, NameKind.free) ∈ scope.names := by
          have key : ∀ k, (relabel scope X.env).names.lookup y = some k → k ≠ .local → k = .cell ∨ k = .free → (y, NameKind.free) ∈ scope.names := fun k q n hk => by
            rcases lookup_relabel (env := X.env) q with z | ⟨_, z⟩
            · rcases hk with rfl | rfl
              · exact absurd rfl (ok.ncell _ (lookup_mem' z))
              · exact lookup_mem' z
            · exact lookup_mem' z
          rcases e3 with z | z | z
          · rcases lookup_relabel (env := X.env) z with q | ⟨q, _⟩
            · exact absurd q hout
            · cases q
          · exact key _ z (by decide) (.inl rfl)
          · exact key _ z (by decide) (.inr rfl)
        have hk := ok.free _ hfree rfl
        obtain ⟨m, hn, hl⟩ := I3.loc
        obtain ⟨u, r, q⟩ := hl i y v e1' e2' (by rcases hk with z | z; exact .inr (.inl z); exact .inr (.inr z))
        refine ⟨u, r, .inr ⟨?_, ?_⟩⟩
        · rcases e3 with z | z | z
          · rcases lookup_relabel (env := X.env) z with q | ⟨q, _⟩
            · exact absurd q hout
            · cases q
          · exact .inl z
          · exact .inr z
        · rcases q with ⟨z, _⟩ | ⟨_, c, hc', hcell⟩
          · rcases hk with q | q <;> (rw [z] at q; cases q)
          · obtain ⟨c', hc2⟩ := hall y hfree
            have : c' = c := by have := hsub y c' hc2; rw [hc'] at this; exact (Option.some.inj this).symm
            subst this
            obtain ⟨o, ho, hd⟩ := hcell
            exact ⟨c', hc2, o, old _ _ ho, hd⟩
    · intro a c h1
      obtain ⟨v, o, ho, hd⟩ := I3.cell a c (hsub a c h1)
      exact ⟨v, o, old _ _ ho, hd⟩
    · show H3 C = none
      exact I3.hok.fresh (Nat.le_of_eq hC)
    · exact fun a c h1 => I3.freeC a c (hsub a c h1)
    · show (List.replicate ns.length none ++ f σ).length = (ns ++ N2).length
      rw [List.length_append, List.length_append, List.length_replicate, ok.lenf, I.len, ok.lenN]
  -- behind the block
  have back : ∀ (s' : Shared) (v : St) (H' : Hp) (h' : Heap), Inv (blkG X scope cl C (ns ++ N2) { s2 with heap := hp3 } H3 fp) [] v H' s' → Heap.SameBut C s'.heap h' → (∀ b ∈ fp, H' b = none) → Inv X pins σ H' { s' with heap := h' } := by
    intro s' v H' h' I' sb fr
    have neC : ∀ b o, hp3.get? b = some o → b ≠ C := fun b o e => by rw [← hC]; exact Nat.ne_of_lt (Heap.lt_size e)
    have U : Un (frs X.stack) fp H3 H' hp3 s'.heap := I'.base
    refine I3.call' (ch := fp) (H' := H') (s' := { s' with heap := h' }) I'.os ⟨fun b o e n h1 h2 => (sb.2 b (neC b o e)).trans (U.keep b o e n h1 h2), fun b o e n h1 h2 => ?_, U.free, fun b o e h2 => ?_, U.tups, U.frzs, U.tbls⟩ (fun b ob e => ?_) I'.bare fun b hb => ?_
    · obtain ⟨sl, q⟩ := U.slot b o e n h1 h2
      exact ⟨sl, (sb.2 b (neC b o e)).trans q⟩
    · obtain ⟨o', q⟩ := U.there b o e h2
      exact ⟨o', (sb.2 b (neC b o e)).trans q⟩
    · have fC : H' C = none := I'.free
      refine (I'.hok b ob e).stay (fun c w' hc q => (sb.2 c ?_).trans q) (fun _ q => q) fun _ _ q => q
      rintro rfl
      rcases hc with rfl | hc
      · rw [fC] at e; cases e
      · rw [fC] at hc; cases hc
    · obtain ⟨_, g1, _, g3, g4, g5⟩ := f3 b hb
      exact ⟨g3, g1, g4, g5⟩
  have stat : ∀ {H' : Hp}, (∀ b ∈ fp, H' b = none) → ∀ b ∈ fp, FpOk (blkG X scope cl C (ns ++ N2) { s2 with heap := hp3 } H3 fp) [] H' b := fun hn b hb =>
    ⟨hn b hb, Nat.ne_of_lt (fpl b hb), nstk b hb, .inl hb, fun a c h1 => (f3 b hb).2.2.2.2.1 a c (hsub a c h1), fun p hp => by simp [blkG] at hp⟩
  have st₁ : tn 0 h₁ := T.keep _ _ _ st2 fun b _ o e => old b o (by rw [← hs3]; exact Heap.get?_push_of_some _ e)
  have loop : codeAny (model X.prog X.w) X.A (.compLoop (.ListComp elt [⟨tg, iter, ifs, 0⟩] scope pos) 0 (.ref it) (.ref D) (compEnvC scope cl C X.env)) (compPost (model X.prog X.w) X.A X.xe (some (assign (.Name xn pos0) X.env)) (fun _ s' => ∃ σ' H', Inv X pins σ' H' s' ∧ De.nx σ' H') (.ref D) C)
      { s2 with heap := h₁, toks := s2.toks + ([] : List (Str × Value)).length } := by
    refine compLoop_T (fun n s' => ∃ i v ys H', v.length = ns.length ∧ Inv (blkG X scope cl C (ns ++ N2) { s2 with heap := hp3 } H3 fp) [] (v ++ f σ) H' s' ∧ tn i s'.heap ∧ (∀ b ∈ fp, H' b = none) ∧ W i n ys H') ?_ m0 ⟨0, List.replicate ns.length none, [], H3, List.length_replicate, Y0, st₁, fun b hb => (f3 b hb).1, w0⟩
    rintro n s4 ⟨i, v, ys, H4, hv4, I4, st4, fr4, w4⟩
    rcases turn i n ys H4 w4 with ⟨stop, qn⟩ | ⟨go, step⟩
    · refine thn (T.done (blkG X scope cl C (ns ++ N2) { s2 with heap := hp3 } H3 fp) rfl rfl rfl hc i [] s4 (v ++ f σ) H4 _ I4 (stat fr4) st4 stop) fun r s5 ⟨hr, I5⟩ => ?_
      subst hr
      obtain ⟨m, hn, _⟩ := id I5.loc
      have I5' : Inv X pins σ H4 s5 := back s5 (v ++ f σ) H4 s5.heap I5 (Heap.SameBut.refl _ _) fr4
      have fC : FpOk X pins H4 C := ⟨I5.free, (I3.fpOk (H' := H3) (Nat.le_of_eq hC) (I3.hok.fresh (Nat.le_of_eq hC))).2⟩
      refine wpAny_assign_Name (store_ok2 I5' hN hxi hxl (show RelV (.ref D) (.ref D) from rfl) (fun s6 I6 ⟨a, sb6, ha⟩ => ?_) hf)
      have nCa : C ≠ a := by
        rcases ha with z | z
        · rw [z]; exact fC.2.1
        · exact fun y => fC.2.2.2.2.1 _ _ z y.symm
      obtain ⟨o, es, ep, e1, e2⟩ := hn
      refine ⟨m, ⟨o, es, ep, (sb6.2 C nCa).trans e1, e2⟩, fun h' sb => ⟨_, H4, I6.turned (t' := s6.toks) (fun b o hb e => (sb.2 b hb).trans e) fC.1 fC.2.1 fC.2.2.2.1 fC.2.2.2.2.1 fC.2.2.2.2.2, qn⟩⟩
    · refine thn (T.item (blkG X scope cl C (ns ++ N2) { s2 with heap := hp3 } H3 fp) rfl rfl rfl hc i [] s4 (v ++ f σ) H4 _ I4 (stat fr4) st4 go) fun r s5 ⟨u, hr, h5⟩ => ?_
      subst hr
      refine thn h5 fun _ s6 ⟨y, H6, I6, r6, y6, st6, fr6⟩ => ?_
      have I6' := I6.pinned (stat fr6) (T.obj _ _ st6)
      refine thn (hg cl C { s2 with heap := hp3 } H3 fp _ s6 v (f σ) H6 y u _ hv4 I6' r6 (step y H6 y6)) fun _ s7 ⟨pre, hpre, I7', q7⟩ => ?_
      refine thn (ht cl C { s2 with heap := hp3 } H3 fp _ s7 _ H6 _ I7' q7) fun b s8 ⟨H8, I8, q8⟩ => ?_
      have keepIt : ∀ {σ' : St} {H' : Hp} {s' : Shared}, Inv (blkG X scope cl C (ns ++ N2) { s2 with heap := hp3 } H3 fp) ([] ++ pinsAt fp s6.heap) σ' H' s' → tn (i + 1) s'.heap ∧ ∀ b ∈ fp, H' b = none := fun {σ' H' s'} I9 => by
        refine ⟨T.keep _ _ _ st6 fun b hb o e => (I9.pin (b, o) (List.mem_append_right _ (List.mem_append_right _ (mem_pinsAt hb e)))).1, fun b hb => ?_⟩
        obtain ⟨o, e, d⟩ := T.obj _ _ st6 b hb
        exact (I9.pin (b, o) (List.mem_append_right _ (List.mem_append_right _ (mem_pinsAt hb e)))).2.1
      cases b with
      | false =>
        obtain ⟨m', hm, w'⟩ := q8
        obtain ⟨k1, k2⟩ := keepIt I8
        exact ⟨m', hm, i + 1, pre, ys, H8, hpre, I8.unpinned, k1, k2, w'⟩
      | true =>
        have q8' : te (pre ++ f σ) H8 _ := q8
        show wpAny _ _ (eval elt _) _ _ _
        refine thn (he cl C { s2 with heap := hp3 } H3 fp _ s8 _ H8 _ I8 q8') fun z s9 ⟨zv, H9, I9, r9, hD9, hz9, m', hm, w'⟩ => ?_
        refine thn (mt_append (X := blkG X scope cl C (ns ++ N2) { s2 with heap := hp3 } H3 fp) _ s9 _ H9 (.ref D) [zv] (.ref D) [z] (fun _ H' => H' = upd H9 D (.lst (ys ++ [zv]))) I9 rfl (.cons r9 .nil) ⟨D, ys, zv, rfl, rfl, hD9, hz9, rfl⟩) fun _ s10 ⟨_, H10, I10, _, e10⟩ => ?_
        subst e10
        obtain ⟨k1, k2⟩ := keepIt I10
        exact ⟨m', hm, i + 1, pre, ys ++ [zv], _, hpre, I10.unpinned, k1, k2, w'⟩
  exact codeAny_compStart_list loop (T.self X.A 0 _ _ _ st₁ loop)
theorem qs_setG {X : Cx} {ix : Nat} {xn : Str} {pos0 spos : Pos} {elt iter tg : Expr} {ns N2 : List Str} {f : St → St} {TP : V → Hp → (St → Prop) → Prop} {ifs : List Expr} {scope : Scope} {pos : Pos} {wi : TI} {tt : TT} {te : TE} (hN : X.N.Nodup) (hxi : X.N[ix]? = some xn) (hxl : Loc X.env.scope xn) (hc : X.calm = true) (ok : CompG X scope ns N2 f) (hi : QI X tg iter wi)
    (hg : ∀ cl C s₀ H₀ fp, PTg (blkG X scope cl C (ns ++ N2) s₀ H₀ fp) tg ns.length TP)
    (ht : ∀ cl C s₀ H₀ fp, QTs (blkG X scope cl C (ns ++ N2) s₀ H₀ fp) ifs tt) (he : ∀ cl C s₀ H₀ fp, QE (blkG X scope cl C (ns ++ N2) s₀ H₀ fp) elt te)
    (hs : ∀ x, foldedSetIterable iter X.env x = pure x := by intro _; rfl) (hsw : swapsWith (.ListComp elt [⟨tg, iter, ifs, 0⟩] scope pos) (some (.Name xn pos0)) spos.line X.env = pure true := by rfl)
    (hf : X.fn xn = true ∨ X.env.scope.names.lookup xn = some .local := by first | exact .inl rfl | exact .inr rfl | assumption) :
    QS X (.Assign [.Name xn pos0] (.ListComp elt [⟨tg, iter, ifs, 0⟩] scope pos) spos) (tAsg (tCompG f ns.length wi TP tt te) (gName ix)) :=
  ⟨ps_setG hN hxi hxl hc ok hi.out hg (fun a b c d e => (ht a b c d e).out) (fun a b c d e => (he a b c d e).out) hs hsw hf⟩
end L2
end

section
set_option Elab.async false
set_option linter.all false
set_option maxRecDepth 100000
set_option maxHeartbeats 1000000
namespace L2
open PySem PySem.Spec PyProof.Rows
section
variable {M : Model} {A : Around} {E : Value → Shared → Prop} {s : Shared}
end
structure CompC (X : Cx) (scope : Scope) (xn : Str) (N2 : List Str) (f : St → St) : Prop where
  kind : scope.kind = .function
  one : ∀ y ∈ scope.names, y.2 = .cell → y.1 = xn
  cf : ∀ k acc, cellsFrom k scope.names acc = (xn, k) :: acc
  pc : ∀ h : Heap, pushCells h scope.names = h.push { cls := .type "cell", data := .cell none }
  names : ∀ y ∈ scope.names, y.2 = .local → scope.names.lookup y.1 = some .local
  free : ∀ y ∈ scope.names, y.2 = .free → X.env.kindOf y.1 = some .cell ∨ X.env.kindOf y.1 = some .free
  lenf : ∀ σ : St, (f σ).length = σ.length
  lenN : N2.length = X.N.length
  out : ∀ (σ : St) (i : Nat) (y : Str) (v : V), N2[i]? = some y → (f σ)[i]? = some (some v) → X.N[i]? = some y ∧ σ[i]? = some (some v) ∧ scope.names.lookup y ≠ some .local ∧ y ≠ xn
end L2
end

section
set_option Elab.async false
set_option linter.all false
set_option maxRecDepth 100000
namespace L2
open PySem PySem.Spec PyProof.Rows
section
variable {X : Cx}
def rCountS : V → List V → Hp → VK → Prop := fun x vs H Q => ∃ l w, x = .str (S l) ∧ vs = [.str (S w)] ∧ ∀ n : Nat, Q (.int n) H
theorem mt_countS : MtR X "str.count" rCountS := by
  intro pins s σ H x vs v us Q I rx rv h
  obtain ⟨l, w, rfl, rfl, q⟩ := h
  obtain ⟨t, rfl⟩ := rx
  obtain ⟨u, rfl, ru⟩ := rv.one
  obtain ⟨t', rfl⟩ := ru
  refine call_gives F.slot_str_count (typeIs_str s _ t) F.entry_str_count (F.args_str_count_2 _ _) (gives_str_count (S l) (S w) t t') ?_
  show EP X pins σ Q _ _
  exact ⟨.int (Builtin.Str.occurrences (S l) (S w) 0 (S l).length ((S l).length + 1)).length, H, I.tok _, ⟨s.toks, rfl⟩, q _⟩
end
end L2
end

section
set_option Elab.async false
set_option linter.all false
set_option maxRecDepth 100000
set_option maxHeartbeats 1000000
namespace L2
open PySem PySem.Spec PyProof.Rows PySem.W
section
variable {X : Cx}
end
end L2
end

section
set_option Elab.async false
set_option linter.all false
set_option maxRecDepth 100000
set_option maxHeartbeats 2000000
namespace L2
open PySem PySem.Spec PyProof.Rows PySem.W
open AutoSeq1 (wpAny_loadPart')
section
variable {prog : Program} {w : World} {A : Around} {E : Value → Shared → Prop} {s : Shared}
end
section
variable {X : Cx} {pins : List (Addr × Obj)} {σ : St} {H : Hp} {s : Shared} {h' : Heap}
end
section
variable {X : Cx} {elts : List Expr} {x1 : Nat} {tp : Pos}
end
section
variable {X : Cx}
end
end L2
end

section
set_option Elab.async false
set_option linter.all false
set_option maxRecDepth 100000
set_option maxHeartbeats 2000000
namespace L2
open PySem PySem.Spec PyProof.Rows PySem.W
structure ZA (z ti to u v a b : Addr) : Prop where
  q1 : ti ≠ z
  q2 : to ≠ z
  q3 : u ≠ z
  q4 : v ≠ z
  q5 : ti ≠ to
  q6 : ti ≠ u
  q7 : ti ≠ v
  q8 : to ≠ u
  q9 : to ≠ v
  p1 : u ≠ v
  p2 : a ≠ z
  p3 : a ≠ to
  p4 : a ≠ u
  p5 : a ≠ v
  p6 : b ≠ z
  p7 : b ≠ to
  p8 : b ≠ u
  p9 : b ≠ v
section
variable {prog : Program} {w : World} {A : Around} {E : Value → Shared → Prop} {s : Shared} {z ti to u v a b : Addr} {i : Nat} {f g : Array Value} {x y m n : Value}
end
section
variable {X : Cx} {pins : List (Addr × Obj)} {σ : St} {H : Hp} {s : Shared}
end
section
variable {X : Cx} {elts : List Expr} {x1 : Nat} {tp : Pos}
end
end L2
end

section
set_option Elab.async false
set_option linter.all false
set_option maxRecDepth 100000
set_option maxHeartbeats 2000000
namespace L2
open PySem PySem.Spec PyProof.Rows PySem.W
section
variable {X : Cx}
end
end L2
end

section
set_option Elab.async false
set_option linter.all false
set_option maxRecDepth 100000
set_option maxHeartbeats 2000000
namespace HT
open PySem PySem.Spec PyProof.Rows
section
variable {prog : Program} {w : World} {A : Around} {E : Value → Shared → Prop} {s : Shared}
end
end HT
namespace L2
open PySem PySem.Spec PyProof.Rows PySem.W
section
variable {X : Cx}
end
end L2
end

section
set_option Elab.async false
set_option linter.all false
set_option maxRecDepth 100000
set_option maxHeartbeats 2000000
namespace L2
open PySem PySem.Spec PyProof.Rows PySem.W
section
variable {prog : Program} {w : World} {A : Around} {E : Value → Shared → Prop} {s : Shared} {z ti to u v a b : Addr} {i : Nat} {f g : Array Value} {x y m n : Value}
end
section
variable {X : Cx} {elts : List Expr} {x1 : Nat} {tp : Pos}
end
section
variable {prog : Program} {w : World} {A : Around} {E : Value → Shared → Prop} {s : Shared}
end
section
variable {X : Cx}
end
section
variable {X : Cx}
end
end L2
end

section
set_option Elab.async false
set_option linter.all false
set_option maxRecDepth 100000
set_option maxHeartbeats 2000000
namespace L2
open PySem PySem.Spec PyProof.Rows PySem.W
section
variable {X : Cx}
end
end L2
end

section
set_option Elab.async false
set_option linter.all false
set_option maxRecDepth 100000
set_option maxHeartbeats 2000000
namespace L2
open PySem PySem.Spec PyProof.Rows PySem.W
section
variable {P : Program} {wd : World} {Ar : Around} {Ex : Value → Shared → Prop}
end
section
variable {X : Cx} {pos : Pos}
end
end L2
end

section
set_option Elab.async false
set_option linter.all false
set_option maxRecDepth 100000
set_option maxHeartbeats 2000000
namespace L2
open PySem PySem.Spec PyProof.Rows PySem.W
section
variable {X : Cx} {o e f : Expr} {apos cpos : Pos} {td ty tx : TE}
theorem qe_dget2 (hu : X.A.units + 1 < cLine) (ho : QE X o td) (he : QE X e ty) (hf : QE X f tx) (m : M2 X o "get" apos e f cpos) : QE X (.Call (.Attribute o "get" apos) [e, f] [] cpos) (tDGet2 td ty tx) :=
  ⟨pe_dget2 hu ho.out he.out hf.out m⟩
structure KDict (P : Program) (w : World) (K : PySem.W.Frag) (a : Addr) (kvs : List (Key × V)) : Prop where
  z : (a == sysModules) = false
  ex : ∃ o vs, K.lookup a = some o ∧ KV kvs vs ∧ o.IsDictOf (mixKind P w) vs
end
section
variable {X : Cx}
def rDictD : List V → Hp → VK → Prop := fun xs H Q => ∃ (d : Addr) (kvs : List (Key × V)), xs = [.ref d] ∧ H d = some (.dK kvs) ∧ ∀ p : Addr, H p = none → Q (.ref p) (upd H p (.dK kvs))
theorem call_dictD : CallR X (.type "dict") rDictD := by
  intro pins s σ H xs us Q I r h
  obtain ⟨d, kvs, rfl, hd, q⟩ := h
  obtain ⟨u, rfl, ru⟩ := vals1 r
  cases ru
  obtain ⟨hz, lo, vs, rel, dd⟩ := dk_of I.hok hd
  refine kt_call_dict lo dd (by rw [← rel.length]; exact hz) fun h' hd' hs => ?_
  have lt : sysModules < s.heap.objs.size := I.big
  refine ⟨.ref s.heap.objs.size, _, I.laid (o := .dK kvs) (t' := s.toks) (fun b u e => ?_) (Nat.le_refl _) ⟨hz, ?_, vs, rel, hd'⟩, rfl, q _ (I.hok.fresh (Nat.le_refl _))⟩
  · exact hs.extBut b u (Nat.ne_of_lt (Heap.lt_size e)) (Heap.get?_push_of_some _ e)
  · exact beq_eq_false_iff_ne.mpr (Nat.ne_of_gt lt)
end
end L2
end

section
set_option Elab.async false
set_option linter.all false
set_option maxRecDepth 100000
set_option maxHeartbeats 2000000
namespace L2
open PySem PySem.Spec PyProof.Rows PySem.W
def SetT (w : World) (h : Heap) (a : Addr) (es : Array (Int × Value)) (ep : Nat) (t : SetTable) : Prop :=
  ∃ o, h.get? a = some o ∧ o.ExactSet ∧ o.data = .set es ep t ∧ t.fits es.size = true ∧ (w.params.followText "set-order" = true ∨ t.led = true) ∧ (t.plain = false ∨ es.size = 0)
def keyT (e : Int × Value) : List Nat := match e.2 with
  | .str x _ => x.cps.toList
  | _ => []
structure ElS (w : World) (es : Array (Int × Value)) (ws : List (List Nat)) : Prop where
  sh : ∀ e ∈ es.toList, ∃ (l : List Nat) (u : Tok), e = (hashStr w (S l), .str (S l) u)
  nd : (es.toList.map keyT).Nodup
  mem : ∀ l, l ∈ es.toList.map keyT ↔ l ∈ ws
theorem SetT.mv {w : World} {h h' : Heap} {a : Addr} {es : Array (Int × Value)} {ep : Nat} {t : SetTable} (m : SetT w h a es ep t) (k : ∀ o, h.get? a = some o → h'.get? a = some o) : SetT w h' a es ep t := let ⟨o, p, q⟩ := m; ⟨o, k _ p, q⟩
theorem SetT.ty {w : World} {s : Shared} {a : Addr} {es : Array (Int × Value)} {ep : Nat} {t : SetTable} (m : SetT w s.heap a es ep t) : s.TypeIs (.ref a) "set" := let ⟨o, p, q, _⟩ := m; ⟨o, p, q.1⟩
theorem SetT.lt {w : World} {h : Heap} {a : Addr} {es : Array (Int × Value)} {ep : Nat} {t : SetTable} (m : SetT w h a es ep t) : a < h.objs.size := let ⟨o, p, _⟩ := m; Heap.lt_size p
theorem ElS.el {w : World} (prog : Program) {es : Array (Int × Value)} {ws : List (List Nat)} (m : ElS w es ws) : ElemsOf (PySem.strKind prog w) es.toList := fun e he => by
  obtain ⟨l, u, rfl⟩ := m.sh e he
  exact ⟨⟨S l, strKind_is _ _ _ _, rfl⟩, rfl⟩
theorem stand_led (t : SetTable) (n : Nat) : (t.orStandIn n).led = t.led := by
  unfold SetTable.orStandIn
  split <;> rfl
theorem lay_led (t : SetTable) (es : Array (Int × Value)) (h : Int) (x : Value) : (layNew t es h x).2.1.led = t.led := by
  unfold layNew
  split
  · exact stand_led _ _
  · rfl
theorem relay_led (t : SetTable) (es : Array (Int × Value)) (n : Nat) : (relayAll t es n).2.1.led = t.led := by
  unfold relayAll SetTable.relaid SetTable.laid
  cases h : SetTable.layClean (SetTable.sizeAbove n - 1) (es.map (·.1)) with
  | none => rfl
  | some o =>
    dsimp only [bind, Option.bind, pure]
    split <;> rfl
theorem relay_plain (t : SetTable) (es : Array (Int × Value)) (n : Nat) (hp : t.plain = false) : (relayAll t es n).2.1.plain = false := by
  unfold relayAll SetTable.relaid SetTable.laid
  cases h : SetTable.layClean (SetTable.sizeAbove n - 1) (es.map (·.1)) with
  | none => rfl
  | some o =>
    dsimp only [bind, Option.bind, pure]
    split
    · exact hp
    · rfl
theorem ElS.perm {w : World} {es es' : Array (Int × Value)} {ws : List (List Nat)} (m : ElS w es ws) (p : es'.toList.Perm es.toList) : ElS w es' ws :=
  ⟨fun e he => m.sh e (p.mem_iff.mp he), (p.map keyT).nodup_iff.mpr m.nd, fun l => (p.map keyT).mem_iff.trans (m.mem l)⟩
section
variable {prog : Program} {w : World} {A : Around} {E : Value → Shared → Prop} {s : Shared} {a : Addr} {es : Array (Int × Value)} {ep : Nat} {t : SetTable} {ws : List (List Nat)}
theorem setT_store {es' : Array (Int × Value)} {t' : SetTable} {Q : Unit → Shared → Prop} (m : SetT w s.heap a es ep t) (hf : t'.fits es'.size = true) (hl : t'.led = t.led) (hp : t'.plain = false) (hz : es'.size < scanBound)
    (q : ∀ h', Heap.SameBut a s.heap h' → SetT w h' a es' (ep + 1) t' → Q () { s with heap := h' }) : wpAny (model prog w) A (storeSet a es' t') Q E s := by
  obtain ⟨o, ho, hex, hd, _, hb, _⟩ := m
  refine wpAny_storeSet_of ho hd (q _ (Heap.SameBut.update s.heap a (Obj.putSet es' t')) ?_) (fits_of_scanBound hz)
  have hg := Heap.get?_update_self (Obj.putSet es' t') ho (by rw [putSet_of es' t' hd]; rfl)
  rw [putSet_of es' t' hd] at hg
  exact ⟨_, hg, hex, rfl, hf, by rw [hl]; exact hb, .inl hp⟩
theorem setT_add {l : List Nat} {u : Tok} {Q : Bool → Shared → Prop} (m : SetT w s.heap a es ep t) (el : ElS w es ws) (hz : es.size + 1 < scanBound)
    (q : ∀ b h' es' ep' t', Heap.SameBut a s.heap h' → SetT w h' a es' ep' t' → ElS w es' (ws ++ [l]) → es'.size ≤ es.size + 1 → Q b { s with heap := h' }) :
    wpAny (model prog w) A (setAddHashed a (.str (S l) u) (hashStr w (S l))) Q E s := by
  have hel := el.el prog
  have hkey : (PySem.strKind prog w).is (S l) (.str (S l) u) = true := strKind_is _ _ _ _
  obtain ⟨o, ho, hex, hd, hf, hb, hp⟩ := id m
  unfold setAddHashed setAddHashedIn
  refine wpAny_holding (wpAny_bind (wpAny_setState_of ho hd hf ?_))
  dsimp only
  rw [byScan_of (knd := PySem.strKind prog w) rfl (by omega) hel]
  simp only [↓reduceIte]
  unfold setAddByScan
  refine wpAny_bind ?_
  refine wpAny_bind (wpAny_rule ?_)
  refine wpAny_bind (wpAny_setScan_of (knd := PySem.strKind prog w) hkey ho hd hf hel ?_)
  have hin : ∀ e ∈ es.toList, (PySem.strKind prog w).is (S l) e.2 = decide (keyT e = l) := fun e he => by
    obtain ⟨l', u', rfl⟩ := el.sh e he
    show (Value.isStrOf (S l) (.str (S l') u')) = decide (l' = l)
    by_cases e : l' = l
    · subst e; simp [Value.isStrOf]
    · have : ¬ S l = S l' := fun z => e (S_inj z).symm
      simp [Value.isStrOf, e, this]
      try exact fun z => this z.symm
  cases hr : List.findIdx? (fun e => (PySem.strKind prog w).is (S l) e.2) es.toList with
  | some j =>
    dsimp only
    obtain ⟨hj, hpj, _⟩ := List.findIdx?_eq_some_iff_getElem.mp hr
    have hl : l ∈ es.toList.map keyT := List.mem_map.mpr ⟨_, List.getElem_mem hj, by have := hin _ (List.getElem_mem hj); rw [hpj] at this; simpa using this.symm⟩
    refine wpAny_pure (wpAny_pure ?_)
    have e : s = { s with heap := s.heap } := by cases s; rfl
    rw [e]
    refine q _ s.heap es ep t (Heap.SameBut.refl a s.heap) m ⟨el.sh, el.nd, fun l' => ?_⟩ (Nat.le_succ _)
    rw [el.mem l', List.mem_append, List.mem_singleton]
    exact ⟨.inl, fun z => z.elim id fun z => z ▸ (el.mem l).mp hl⟩
  | none =>
    dsimp only
    have hnl : l ∉ es.toList.map keyT := fun z => by
      obtain ⟨e, he, ek⟩ := List.mem_map.mp z
      have h1 := List.findIdx?_eq_none_iff.mp hr e he
      rw [hin e he, ek] at h1
      simp at h1
    have hgw : ∀ (b : Bool) {s₁ : Shared} {Q' : Unit → Shared → Prop}, Q' () s₁ → wpAny (model prog w) A (match b with | true => rule "set.scan.the-table-gave-way" | false => pure ()) Q' E s₁ :=
      fun b s₁ Q' hq => by cases b <;> first | exact wpAny_pure hq | exact wpAny_rule hq
    have hperm := layNew_perm t es (hashStr w (S l)) (.str (S l) u)
    have hfits := layNew_fits t es (hashStr w (S l)) (.str (S l) u)
    have hled := lay_led t es (hashStr w (S l)) (.str (S l) u)
    have ehash : (PySem.strKind prog w).hash (S l) = hashStr w (S l) := rfl
    generalize hL : layNew t es (hashStr w (S l)) (.str (S l) u) = L at hperm hfits hled ⊢
    obtain ⟨es1, t1, wasDummy, gave⟩ := L
    dsimp only at hperm hfits hled ⊢
    rw [Array.toList_push] at hperm
    have hsz1 : es1.size = es.size + 1 := by rw [← Array.length_toList, hperm.length_eq, List.length_append, Array.length_toList]; rfl
    have el1 : ElS w es1 (ws ++ [l]) := by
      have el0 : ElS w (es.push (hashStr w (S l), .str (S l) u)) (ws ++ [l]) := by
        refine ⟨fun e he => ?_, ?_, fun l' => ?_⟩
        · rw [Array.toList_push] at he
          rcases List.mem_append.mp he with he | he
          · exact el.sh e he
          · rw [List.mem_singleton] at he; exact ⟨l, u, he⟩
        · rw [Array.toList_push, List.map_append]
          refine List.nodup_append.mpr ⟨el.nd, by simp, fun x hx y hy => ?_⟩
          have : y = l := List.mem_singleton.mp hy
          subst this
          exact fun z => hnl (z ▸ hx)
        · rw [Array.toList_push, List.map_append, List.mem_append, List.mem_append, el.mem l']
          rfl
      exact el0.perm (by rw [Array.toList_push]; exact hperm)
    have fin : ∀ {R : Option Bool → Shared → Prop} (t2 : SetTable), t2.fits es1.size = true → t2.led = t.led → t2.plain = false → (∀ h' es' ep' t', Heap.SameBut a s.heap h' → SetT w h' a es' ep' t' → ElS w es' (ws ++ [l]) → es'.size ≤ es.size + 1 → R (some true) { s with heap := h' }) →
        wpAny (model prog w) A (do
          storeSet a es1 t2
          if (!wasDummy && t2.tooFull) = true then do
              (match (relayAll t2 es1 (SetTable.grown es1.size)).2.2 with | true => rule "set.scan.the-table-gave-way" | false => pure ())
              storeSet a (relayAll t2 es1 (SetTable.grown es1.size)).1 (relayAll t2 es1 (SetTable.grown es1.size)).2.1
              pure (some true)
            else pure (some true)) R E s := by
      intro R t2 hf2 hl2 hp2 hR
      refine wpAny_bind (setT_store m hf2 hl2 hp2 (by omega) fun h1 sb1 m1 => ?_)
      split
      · have hpr := relayAll_perm t2 es1 (SetTable.grown es1.size)
        have hfr := relayAll_fits t2 es1 (SetTable.grown es1.size)
        have hlr := relay_led t2 es1 (SetTable.grown es1.size)
        have hppr := relay_plain t2 es1 (SetTable.grown es1.size) hp2
        generalize hRl : relayAll t2 es1 (SetTable.grown es1.size) = Rl at hpr hfr hlr hppr ⊢
        obtain ⟨es2, t3, gave2⟩ := Rl
        dsimp only at hpr hfr hlr hppr ⊢
        have hsz : es2.size = es1.size := by rw [← Array.length_toList, hpr.length_eq, Array.length_toList]
        refine wpAny_bind (hgw _ ?_)
        refine wpAny_bind (setT_store (s := { s with heap := h1 }) m1 hfr hlr hppr (by omega) fun h2 sb2 m2 => ?_)
        exact wpAny_pure (hR h2 es2 _ t3 (sb1.trans sb2) m2 (el1.perm hpr) (by omega))
      · exact wpAny_pure (hR h1 es1 _ t2 sb1 m1 el1 (by omega))
    refine wpAny_bind (hgw _ ?_)
    have hbv : hashByValue 8 (.str (S l) u) = pure false := by simp [hashByValue]
    cases hp1 : t1.plain with
    | true =>
      simp only [↓reduceIte]
      refine wpAny_bind ?_
      rw [hbv]
      refine wpAny_pure ?_
      simp only [Bool.false_eq_true, ↓reduceIte]
      exact fin { t1 with plain := false } (SetTable.fits_plain_off hfits) hled rfl fun h' es' ep' t' sb m' e' z => by dsimp only; exact wpAny_pure (q _ h' es' ep' t' sb m' e' z)
    | false =>
      simp only [Bool.false_eq_true, ↓reduceIte]
      refine wpAny_bind (wpAny_pure ?_)
      simp only [↓reduceIte]
      exact fin t1 hfits hled hp1 fun h' es' ep' t' sb m' e' z => by dsimp only; exact wpAny_pure (q _ h' es' ep' t' sb m' e' z)
end
def SetW (w : World) (a : Addr) (ws : List (List Nat)) (k : Nat) : Heap → Prop := fun h => ∃ es ep t, SetT w h a es ep t ∧ ElS w es ws ∧ es.size ≤ k
theorem SetW.mv {w : World} {h h' : Heap} {a : Addr} {ws : List (List Nat)} {n : Nat} (m : SetW w a ws n h) (k : ∀ o, h.get? a = some o → h'.get? a = some o) : SetW w a ws n h' := let ⟨es, ep, t, q, r⟩ := m; ⟨es, ep, t, q.mv k, r⟩
section
variable {prog : Program} {w : World} {A : Around} {I : Addr} {fp wr : List Addr} {n : Nat} {P : Nat → Value → Prop} {St : Nat → Heap → Prop} {R : Result → Shared → Prop}
theorem setT_loop (W : Walks prog w A.in1 I fp wr n P St) (S0 : Addr) (hSf : S0 ∉ fp) (val : Nat → List Nat) (hval : ∀ i v, P i v → ∃ t, v = .str (S (val i)) t) (hb : n + 1 < scanBound) :
    ∀ (k i : Nat) (s : Shared), n - i = k → i ≤ n → St i s.heap → SetW w S0 ((List.range i).map val) i s.heap →
      (∀ h' tk, (∀ b o, b ∉ S0 :: wr → s.heap.get? b = some o → h'.get? b = some o) → SetW w S0 ((List.range n).map val) n h' → R (.ok (.ret .none)) { s with heap := h', toks := tk }) →
      codeAny (model prog w) A (.builtin "set.update.loop" ⟨[.ref S0, .ref I], []⟩) R s := by
  have hSw : S0 ∉ wr := fun h => hSf (W.sub _ h)
  have sub : ∀ b, b ∉ S0 :: wr → b ∉ wr := fun b hb h => hb (List.mem_cons_of_mem _ h)
  intro k
  induction k with
  | zero =>
    intro i s hk hi hst hS hR
    have hin : i = n := by omega
    subst hin
    refine codeAny_builtin F.entry_set_update_loop ?_
    rw [Around.under_plainId F.plain_set_update_loop _]
    show wpAny _ A.in1 (pyNext (.ref I) >>= _) _ _ s
    refine wpAny_bind (W.done s _ _ hst fun h' tk hm => ?_)
    show wpAny _ A.in1 (ret Value.none) _ _ _
    exact wpAny_pure (hR h' tk (fun b o hb e => hm b o (sub b hb) e) (hS.mv fun o e => hm S0 o hSw e))
  | succ k ih =>
    intro i s hk hi hst hS hR
    have hlt : i < n := by omega
    refine codeAny_builtin F.entry_set_update_loop ?_
    rw [Around.under_plainId F.plain_set_update_loop _]
    show wpAny _ A.in1 (pyNext (.ref I) >>= _) _ _ s
    refine wpAny_bind (W.item i s _ _ hlt hst fun v h1 tk hP hst' hm => ?_)
    obtain ⟨t, rfl⟩ := hval i v hP
    obtain ⟨es, ep, tb, m1, e1, z1⟩ := hS.mv (h' := h1) fun o e => hm S0 o hSw e
    show wpAny _ A.in1 (holding [Value.str (S (val i)) t] (setAdd S0 (.str (S (val i)) t)) >>= _) _ _ _
    refine wpAny_bind (wpAny_holding ?_)
    unfold setAdd
    refine wpAny_holding ?_
    refine wpAny_bind ((PySem.strKind prog w).pyHash (k := S (val i)) (strKind_is _ _ _ _) ?_)
    refine setT_add (s := { s with heap := h1, toks := tk + 1 }) m1 e1 (by omega) fun b h2 es2 ep2 t2 sb m2 e2 z2 => ?_
    refine wpAny_pure ⟨plainId_quiet F.plain_set_update_loop _, ih (i + 1) _ (by omega) hlt (W.frame _ h1 _ hst' fun b hb o e => ?_) ⟨es2, ep2, t2, m2, by rw [List.range_succ, List.map_append]; exact e2, by omega⟩ fun h3 tk3 hm3 m3 => ?_⟩
    · show h2.get? b = some o
      rw [sb.2 b (fun h : b = S0 => hSf (by rw [← h]; exact hb))]; exact e
    · refine hR h3 tk3 (fun b o hb e => hm3 b o hb ?_) m3
      show h2.get? b = some o
      rw [sb.2 b (fun h : b = S0 => hb (by rw [h]; exact List.mem_cons_self))]
      exact hm b o (sub b hb) e
end
section
variable {prog : Program} {w : World} {A : Around} {E : Value → Shared → Prop} {s : Shared}
theorem code_setT_new (a : Value) {Q₁ : Value → Shared → Prop}
    (h : Q₁ (.ref s.heap.objs.size) { s with heap := s.heap.push { cls := .type "set", dict := none, data := .set #[] 0 (.fresh 0 0 (!w.params.followText "set-order")) } }) :
    codeAny (model prog w) A (.call (.builtin "set.__new__") ⟨[.type "set", a], []⟩) (wants Q₁ E) s := by
  refine codeAny_of_tree ?_
  show wpAny _ A.in1 (do checkBuiltinCall "set.__new__" ⟨[.type "set", a], []⟩; again (.builtin "set.__new__" ⟨[.type "set", a], []⟩)) _ _ s
  refine wpAny_bind (wpAny_of_eq (F.newCall_set_1 a) (wpAny_pure ⟨plainId_quiet F.plain_set_new _, codeAny_builtin F.entry_set_new ?_⟩))
  rw [Around.under_plainId F.plain_set_new _]
  unfold Builtin.«set.__new__» Builtin.Frozenset.newClass
  have hsub := sub_set_self
  obtain ⟨hp, g, d, tk, os⟩ := s
  dsimp only
  wp_walk
  refine wpAny_askSetting (wpAny_pure ?_)
  dsimp only
  simp only [newObj]
  refine wpAny_bind (wpAny_alloc (wpAny_pure ?_))
  exact wpAny_pure h
theorem setT_fresh {h : Heap} {a : Addr} (e : h.get? a = some { cls := .type "set", dict := none, data := .set #[] 0 (.fresh 0 0 (!w.params.followText "set-order")) }) : SetW w a [] 0 h :=
  ⟨#[], 0, _, ⟨_, e, ⟨rfl, rfl, rfl⟩, rfl, rfl, by cases q : w.params.followText "set-order" <;> simp [SetTable.fresh, q], .inr rfl⟩, ⟨fun e he => by simp at he, by simp, fun l => by simp⟩, Nat.le_refl _⟩
theorem call_setT {src : Value} {ws : List (List Nat)} {n : Nat} {Q : Value → Shared → Prop} (hh : A.handled = none)
    (hu : ∀ (A' : Around) (E' : Value → Shared → Prop) (Q' : Unit → Shared → Prop) (h1 : Heap), A'.handled = none → h1.objs.size = s.heap.objs.size + 1 → SetW w s.heap.objs.size [] 0 h1 → (∀ b o, s.heap.get? b = some o → h1.get? b = some o) →
      (∀ h' tk, (∀ b o, s.heap.get? b = some o → h'.get? b = some o) → SetW w s.heap.objs.size ws n h' → Q' () { s with heap := h', toks := tk }) →
      wpAny (model prog w) A' (Builtin.Frozenset.updateFrom "set.__init__" s.heap.objs.size src) Q' E' { s with heap := h1 })
    (h : ∀ h' tk, (∀ b o, s.heap.get? b = some o → h'.get? b = some o) → SetW w s.heap.objs.size ws n h' → Q (.ref s.heap.objs.size) { s with heap := h', toks := tk }) :
    wpAny (model prog w) A (call (.type "set") [src]) Q E s := by
  obtain ⟨c, tl, hmro⟩ := F.called_set.mro
  have hmade := F.called_set.made
  have hsub := F.called_set.sub
  refine wpAny_call (codeAny_of_tree ?_)
  show wpAny _ _ (callAny (.type "set") _) _ _ _
  refine wpAny_pure ⟨Code.quiet_builtin _ (by decide +kernel), codeAny_builtin F.entry_type_call ?_⟩
  rw [Around.under_plain (weight_type_call_type "set" [src] []) rfl]
  have h1 := F.called_set.notType
  have h2 := F.called_set.canCreate
  have hct := F.typeCall_set_1 src
  repeat (any_goals (first | assumption | wp_step))
  refine codeAny_mono (code_setT_new src (E := E) (Q₁ := fun obj s₁ => obj = .ref s.heap.objs.size ∧ s₁ = { s with heap := s.heap.push { cls := .type "set", dict := none, data := .set #[] 0 (.fresh 0 0 (!w.params.followText "set-order")) } }) ⟨rfl, rfl⟩) fun r s₁ hr => ?_
  cases r with
  | error e => exact hr
  | ok fl =>
    cases fl with
    | ret obj =>
      obtain ⟨rfl, rfl⟩ := hr
      have hS : (s.heap.push { cls := .type "set", dict := none, data := .set #[] 0 (.fresh 0 0 (!w.params.followText "set-order")) }).get? s.heap.objs.size = some { cls := .type "set", dict := none, data := .set #[] 0 (.fresh 0 0 (!w.params.followText "set-order")) } := Heap.get?_push_size _ rfl
      have hT : Shared.TypeIs { s with heap := s.heap.push { cls := .type "set", dict := none, data := .set #[] 0 (.fresh 0 0 (!w.params.followText "set-order")) } } (.ref s.heap.objs.size) "set" := ⟨_, hS, rfl⟩
      have hli := F.called_set.init.lookup
      have hbi := F.called_set.init.bind (.ref s.heap.objs.size)
      repeat (any_goals (first | assumption | wp_step))
      refine codeAny_mono (codeAny_call_builtin (R := wants (fun r s₂ => r = .none ∧ ∃ h' tk, s₂ = { s with heap := h', toks := tk } ∧ (∀ b o, s.heap.get? b = some o → h'.get? b = some o) ∧ SetW w s.heap.objs.size ws n h') E) F.called_set.init.plain F.entry_set_init (check_set_init_1 hT ?_)) fun r₂ s₂ hr₂ => ?_
      · unfold Builtin.«set.__init__» noKeywords
        generalize hU : Builtin.Frozenset.updateFrom = U
        wp_walk
        subst hU
        refine hu _ _ _ _ (by simp [hh]) (Heap.size_push ..) (setT_fresh hS) (fun b o e => Heap.get?_push_of_some _ e) fun h' tk k m => ?_
        refine wpAny_pure ?_
        exact ⟨rfl, h', tk, rfl, k, m⟩
      · cases r₂ with
        | error e => exact hr₂
        | ok fl₂ =>
          cases fl₂ with
          | ret r =>
            obtain ⟨rfl, h', tk, rfl, k, m⟩ := hr₂
            repeat (any_goals (first | assumption | wp_step))
            exact h _ _ k m
          | _ => exact hr₂.elim
    | _ => exact hr.elim
end
end L2
end

section
set_option Elab.async false
set_option linter.all false
set_option maxRecDepth 100000
set_option maxHeartbeats 2000000
namespace L2
open PySem PySem.Spec PyProof.Rows PySem.W
theorem sub_str_set : isSubtype (.type "str") (.type "set") = pure false := by rw [isSubtype_type]; kernel_rfl
theorem sub_str_frozenset : isSubtype (.type "str") (.type "frozenset") = pure false := by rw [isSubtype_type]; kernel_rfl
section
variable {prog : Program} {w : World} {A : Around} {E : Value → Shared → Prop} {s : Shared}
theorem updT_list {S0 l : Addr} {items : Array Value} {val : Nat → List Nat} {Q : Unit → Shared → Prop} (hh : A.handled = none) (hl : s.heap.IsList l items) (hS : SetW w S0 [] 0 s.heap) (hne : S0 ≠ l) (hlt : S0 < s.heap.objs.size)
    (hval : ∀ i v, items[i]? = some v → ∃ t : Tok, v = Value.str (S (val i)) t) (hb : items.size + 1 < scanBound)
    (q : ∀ h' tk, (∀ b o, b ≠ S0 → s.heap.get? b = some o → h'.get? b = some o) → SetW w S0 ((List.range items.size).map val) items.size h' → Q () { s with heap := h', toks := tk }) :
    wpAny (model prog w) A (Builtin.Frozenset.updateFrom "set.__init__" S0 (.ref l)) Q E s := by
  obtain ⟨ol, hol, hcl, nl, hdl⟩ := id hl
  obtain ⟨ocls, odict, odata, oslots⟩ := ol
  simp only at hcl hdl
  subst hcl; subst hdl
  have hsls := F.sub_list_set
  have hslf := F.sub_list_frozenset
  have hnd : (Value.type "list" == Value.type "dict") = false := by decide
  unfold Builtin.Frozenset.updateFrom
  generalize hPI : pyIter = PI
  wp_walk
  subst hPI
  refine wpAny_pyIter_list hl ?_
  refine wpAny_bind (wpAny_runValue ?_)
  have hlS : l < s.heap.objs.size := Heap.lt_size hol
  have hneI : l ≠ s.heap.objs.size := Nat.ne_of_lt hlS
  refine setT_loop (Walks.list (by simp [hh]) _ l hneI items) S0 (by simp only [List.mem_cons, List.not_mem_nil, or_false, not_or]; exact ⟨Nat.ne_of_lt hlt, hne⟩) val hval hb (items.size - 0) 0 _ (by omega) (Nat.zero_le _)
    ⟨⟨_, Heap.get?_push_size _ rfl, rfl, rfl⟩, hl.push _⟩ (hS.mv fun o e => Heap.get?_push_of_some _ e) fun h' tk k m => ?_
  refine wpAny_pure ?_
  refine q h' tk (fun b o hb e => k b o ?_ (Heap.get?_push_of_some _ e)) m
  simp only [List.mem_cons, List.not_mem_nil, or_false, not_or]
  exact ⟨hb, Nat.ne_of_lt (Heap.lt_size e)⟩
theorem updT_str {S0 : Addr} {l : List Nat} {t : Tok} {Q : Unit → Shared → Prop} (hh : A.handled = none) (hS : SetW w S0 [] 0 s.heap) (hlt : S0 < s.heap.objs.size) (hb : l.length + 1 < scanBound)
    (q : ∀ h' tk, (∀ b o, b ≠ S0 → s.heap.get? b = some o → h'.get? b = some o) → SetW w S0 ((List.range l.length).map fun i => [l.getD i 0]) l.length h' → Q () { s with heap := h', toks := tk }) :
    wpAny (model prog w) A (Builtin.Frozenset.updateFrom "set.__init__" S0 (.str (S l) t)) Q E s := by
  have hsls := sub_str_set
  have hslf := sub_str_frozenset
  have hnd : (Value.type "str" == Value.type "dict") = false := by decide
  unfold Builtin.Frozenset.updateFrom
  generalize hPI : pyIter = PI
  wp_walk
  subst hPI
  refine wpAny_pyIter_str fun o St W st => ?_
  refine wpAny_bind (wpAny_runValue ?_)
  have hsz : (S l).cps.size = l.length := by simp [S]
  refine setT_loop (W _ (by simp [hh])) S0 (by simp only [List.mem_singleton]; exact Nat.ne_of_lt hlt) (fun i => [l.getD i 0]) (fun i v hv => ?_) (by rw [hsz]; exact hb) ((S l).cps.size - 0) 0 _ (by omega) (Nat.zero_le _)
    st (hS.mv fun o e => Heap.get?_push_of_some _ e) fun h' tk k m => ?_
  · obtain ⟨c, t, e, rfl⟩ := hv
    refine ⟨t, ?_⟩
    have : l[i]? = some c := by simpa [S] using e
    rw [List.getD_eq_getElem?_getD, this]
    rfl
  refine wpAny_pure ?_
  rw [hsz] at m
  refine q h' tk (fun b o hb e => k b o ?_ (Heap.get?_push_of_some _ e)) m
  simp only [List.mem_cons, List.not_mem_nil, or_false, not_or]
  exact ⟨hb, Nat.ne_of_lt (Heap.lt_size e)⟩
end
section
variable {X : Cx}
theorem SetW.ext {w : World} {h : Heap} {H : Hp} {P : Program} {a : Addr} {ws : List (List Nat)} {n : Nat} (m : SetW w a ws n h) : ObjOk P w H h a (.ext (SetW w a ws n)) := by
  refine ⟨m, ?_, fun h1 h2 p k => p.mv k⟩
  obtain ⟨es, ep, t, ⟨o, ho, _⟩, _⟩ := m
  exact ⟨o, ho⟩
theorem range_get (ws : List (List Nat)) : (List.range ws.length).map (fun i => ws.getD i []) = ws := by
  apply List.ext_getElem?
  intro i
  rw [List.getElem?_map]
  by_cases h : i < ws.length
  · rw [List.getElem?_range h, List.getElem?_eq_getElem h]; simp [List.getD, h]
  · rw [List.getElem?_eq_none (by simpa using h), List.getElem?_eq_none (by simpa using h)]; rfl
theorem range_get1 (l : List Nat) : (List.range l.length).map (fun i => [l.getD i 0]) = l.map fun c => [c] := by
  apply List.ext_getElem?
  intro i
  rw [List.getElem?_map, List.getElem?_map]
  by_cases h : i < l.length
  · rw [List.getElem?_range h, List.getElem?_eq_getElem h]; simp [List.getD, h]
  · rw [List.getElem?_eq_none (by simpa using h), List.getElem?_eq_none (by simpa using h)]; rfl
def rSetLT (w : World) (K : PySem.W.Frag) : List V → Hp → VK → Prop := fun xs H Q => ∃ (a : Addr) (ws : List (List Nat)), xs = [.ref a] ∧ SqL K H a (Ts ws) ∧ ws.length ≤ 1000 ∧
  ∀ p, H p = none → Q (.ref p) (upd H p (.ext (SetW w p ws ws.length)))
theorem call_setLT (hc : X.calm = true) : CallR X (.type "set") (rSetLT X.w X.K) := by
  intro pins s σ H xs us Q I r h
  obtain ⟨p, ws, rfl, hq, hz, q⟩ := h
  obtain ⟨u, rfl, ru⟩ := vals1 r
  cases ru
  obtain ⟨its, rv, pl, hz2⟩ := I.list hq
  have hlen := rv.length
  rw [List.length_map] at hlen
  have hlt : p < s.heap.objs.size := by
    obtain ⟨o, ho, _⟩ := pl.isList
    exact Heap.lt_size ho
  have hval : ∀ (i : Nat) (v : Value), its.toArray[i]? = some v → ∃ t : Tok, v = Value.str (S (ws.getD i [])) t := fun i v hv => by
    have hv : its[i]? = some v := by simpa using hv
    have hi : i < ws.length := by have := (List.getElem?_eq_some_iff.mp hv).1; omega
    obtain ⟨u, hu, ru⟩ := rv.get (i := i) (x := .str (S ws[i])) (by simp [hi])
    rw [hv] at hu; cases hu
    obtain ⟨t, e⟩ := ru
    exact ⟨t, by rw [e]; simp [List.getD, hi]⟩
  have hsz : its.toArray.size = ws.length := by simp [hlen]
  refine call_setT (ws := ws) (n := ws.length) (I.ok.hd hc) (fun A' E' Q' h1 hA' s1 m1 k1 q1 => ?_) fun h' tk k m => ?_
  · refine updT_list (s := { s with heap := h1 }) hA' (pl.isList.at fun o e => k1 _ o e) m1 (Nat.ne_of_gt hlt) (by show s.heap.objs.size < h1.objs.size; omega) hval (by rw [hsz]; show ws.length + 1 < 4096; omega) fun h' tk k m => ?_
    rw [hsz, range_get] at m
    exact q1 h' tk (fun b o e => k b o (Nat.ne_of_lt (Heap.lt_size e)) (k1 b o e)) m
  · exact ⟨.ref s.heap.objs.size, _, I.laid (o := .ext _) (t' := tk) k (Nat.le_refl _) m.ext, rfl, q _ I.fresh⟩
def rSetST (w : World) : List V → Hp → VK → Prop := fun xs H Q => ∃ (l : List Nat), xs = [.str (S l)] ∧ l.length ≤ 1000 ∧ ∀ p, H p = none → Q (.ref p) (upd H p (.ext (SetW w p (l.map fun c => [c]) l.length)))
theorem call_setST (hc : X.calm = true) : CallR X (.type "set") (rSetST X.w) := by
  intro pins s σ H xs us Q I r h
  obtain ⟨l, rfl, hz, q⟩ := h
  obtain ⟨u, rfl, ru⟩ := vals1 r
  obtain ⟨t, rfl⟩ := ru
  refine call_setT (ws := l.map fun c => [c]) (n := l.length) (I.ok.hd hc) (fun A' E' Q' h1 hA' s1 m1 k1 q1 => ?_) fun h' tk k m => ?_
  · refine updT_str (s := { s with heap := h1 }) hA' m1 (by show s.heap.objs.size < h1.objs.size; omega) (by show l.length + 1 < 4096; omega) fun h' tk k m => ?_
    rw [range_get1] at m
    exact q1 h' tk (fun b o e => k b o (Nat.ne_of_lt (Heap.lt_size e)) (k1 b o e)) m
  · exact ⟨.ref s.heap.objs.size, _, I.laid (o := .ext _) (t' := tk) k (Nat.le_refl _) m.ext, rfl, q _ I.fresh⟩
end
theorem erase_perm {α : Type} : ∀ (l : List α) (i : Nat) (h : i < l.length), (l[i] :: l.eraseIdx i).Perm l
  | a :: l, 0, h => .refl _
  | a :: l, i + 1, h => (List.Perm.swap a _ _).trans ((erase_perm l i (by simpa using h)).cons a)
theorem pick_perm {α : Type} (next : Nat → Nat) (xs : Array α) : (pickOrder next xs).toList.Perm xs.toList := by
  have key : ∀ (f k : Nat) (l : List α) (o : Array α), f = l.length → (pickOrder.go next f k l o).toList.Perm (o.toList ++ l) := by
    intro f
    induction f with
    | zero => intro k l o e; cases l with | nil => simp [pickOrder.go] | cons a r => simp at e
    | succ f ih =>
      intro k l o e
      have h0 : 0 < l.length := by omega
      have hi : next k % l.length < l.length := Nat.mod_lt _ h0
      unfold pickOrder.go
      rw [List.getElem?_eq_getElem hi]
      dsimp only
      refine (ih _ _ _ (by rw [List.length_eraseIdx, if_pos hi]; omega)).trans ?_
      rw [Array.toList_push, List.append_assoc]
      exact List.Perm.append_left _ (by simpa using erase_perm _ _ hi)
  have := key xs.size 0 xs.toList #[] (by simp)
  simpa [pickOrder] using this
section
variable {prog : Program} {w : World} {A : Around} {E : Value → Shared → Prop} {s : Shared}
theorem wpAny_chooseT {src : Source} {n : Nat} {Q : Nat → Shared → Prop} (hn : n ≠ 0) (h : ∀ i d, i < n → Q i { s with drawn := d }) : wpAny (model prog w) A (choose src n) Q E s :=
  fun _ _ _ => ⟨hn, h _ _ (Nat.mod_lt _ (Nat.pos_of_ne_zero hn))⟩
theorem wpAny_drawT {α : Type} : ∀ (n : Nat) (xs : List α) {s : Shared} {Q : List α → Shared → Prop}, n = xs.length → (∀ ys d, ys.Perm xs → Q ys { s with drawn := d }) → wpAny (model prog w) A (drawOrder n xs) Q E s
  | 0, xs, s, Q, e, h => by
    have : xs = [] := List.length_eq_zero_iff.mp e.symm
    subst this
    unfold drawOrder
    exact wpAny_pure (h [] s.drawn .nil)
  | n + 1, [], s, Q, e, h => by simp at e
  | n + 1, x :: xs, s, Q, e, h => by
    unfold drawOrder
    refine wpAny_bind (wpAny_chooseT (by simp) fun i d hi => ?_)
    rw [List.getElem?_eq_getElem hi]
    dsimp only
    refine wpAny_bind (wpAny_drawT n _ (by rw [List.length_eraseIdx, if_pos hi]; omega) fun ys d' p => wpAny_pure ?_)
    refine h _ d' ?_
    exact ((p.cons _).trans (erase_perm _ _ hi))
end
end L2
end

section
set_option Elab.async false
set_option linter.all false
set_option maxRecDepth 100000
set_option maxHeartbeats 2000000
namespace PySem.F
theorem slot_set_iterator_next : Slot "set_iterator" "__next__" "set_iterator.__next__" :=
  .of (owner := "set_iterator") (n := "__next__") (by rw [typeLookup_type, builtinLookup_eq_fast]; kernel_rfl) (by decide +kernel) (by decide +kernel) (by decide +kernel)
    (by first | exact .inl (by decide +kernel) | exact .inr (by decide +kernel)) (by rw [isSubtype_type]; kernel_rfl)
theorem slot_set_iterator_iter : Slot "set_iterator" "__iter__" "set_iterator.__iter__" :=
  .of (owner := "set_iterator") (n := "__iter__") (by rw [typeLookup_type, builtinLookup_eq_fast]; kernel_rfl) (by decide +kernel) (by decide +kernel) (by decide +kernel)
    (by first | exact .inl (by decide +kernel) | exact .inr (by decide +kernel)) (by rw [isSubtype_type]; kernel_rfl)
theorem entry_set_iterator_next : entryFor table "set_iterator.__next__" = some Builtin.«set_iterator.__next__» := entryFor_of_tree (by kernel_rfl)
theorem entry_set_iterT : entryFor table "set.__iter__" = some Builtin.«frozenset.__iter__» := entryFor_alias (id' := "frozenset.__iter__") (by kernel_rfl) rfl (by decide +kernel) (by kernel_rfl)
theorem owner_set_iterator : Manifest.owners.lookup (String.ofList ['r', 'o', 't', 'a', 'r', 'e', 't', 'i', '_', 't', 'e', 's'].reverse) = some Manifest.sig_set_iterator := by kernel_rfl
theorem args_set_iterator_next_1 (a : Value) : argsOk "set_iterator.__next__" ⟨[a], []⟩ := by
  unfold argsOk; rw [signature?_of (id := "set_iterator.__next__") (n := ['_', '_', 't', 'x', 'e', 'n', '_', '_']) (o := ['r', 'o', 't', 'a', 'r', 'e', 't', 'i', '_', 't', 'e', 's']) (by kernel_rfl) owner_set_iterator]; kernel_rfl
theorem entry_set_iterator_iterT : entryFor table "set_iterator.__iter__" = some Builtin.«dict_keyiterator.__iter__» := entryFor_alias (id' := "dict_keyiterator.__iter__") (by kernel_rfl) rfl (by decide +kernel) (by kernel_rfl)
theorem args_set_iterator_iter_1 (a : Value) : argsOk "set_iterator.__iter__" ⟨[a], []⟩ := by
  unfold argsOk; rw [signature?_of (id := "set_iterator.__iter__") (n := ['_', '_', 'r', 'e', 't', 'i', '_', '_']) (o := ['r', 'o', 't', 'a', 'r', 'e', 't', 'i', '_', 't', 'e', 's']) (by kernel_rfl) owner_set_iterator]; kernel_rfl
end PySem.F
namespace L2
open PySem PySem.Spec PyProof.Rows PySem.W
def IsSetIter (h : Heap) (it : Addr) (first : Value) (i : Nat) (a : Addr) (n ep : Nat) : Prop :=
  ∃ o, h.get? it = some o ∧ o.cls = .type "set_iterator" ∧ o.data = .fields #[first, .int i 0, .ref a, .int n 0, .int ep 0]
theorem IsSetIter.ty {s : Shared} {it a : Addr} {f : Value} {i n ep : Nat} (x : IsSetIter s.heap it f i a n ep) : s.TypeIs (.ref it) "set_iterator" := let ⟨o, p, q, _⟩ := x; ⟨o, p, q⟩
theorem IsSetIter.mv {h h' : Heap} {it a : Addr} {f : Value} {i n ep : Nat} (x : IsSetIter h it f i a n ep) (k : ∀ o, h.get? it = some o → h'.get? it = some o) : IsSetIter h' it f i a n ep := let ⟨o, p, q⟩ := x; ⟨o, k _ p, q⟩
section
variable {prog : Program} {w : World} {A : Around} {E : Value → Shared → Prop} {s : Shared} {a it : Addr} {es : Array (Int × Value)} {ep i : Nat} {t : SetTable} {first : Value}
theorem set_item_slot {slot k : Nat} {u : Tok} {v : Value} {Q : Option Value → Shared → Prop} (x : IsSetIter s.heap it (.int slot u) i a es.size ep) (m : SetT w s.heap a es ep t)
    (hn : ∀ (A' : Around) (E' : Value → Shared → Prop) (Q' : Option (Value × Nat) → Shared → Prop), Q' (some (v, k)) s → wpAny (model prog w) A' (setNext a slot i ep) Q' E' s)
    (q : ∀ h', IsSetIter h' it (.int k 0) (i + 1) a es.size ep → Heap.SameBut it s.heap h' → Q (some v) { s with heap := h' }) : wpAny (model prog w) A (pyNext (.ref it)) Q E s := by
  have T := x.ty
  obtain ⟨y, t1, t2, t3⟩ := id x
  obtain ⟨o, ho, hex, hd, hf, _, _⟩ := m
  unfold pyNext
  refine wpAny_bind (wpAny_attempt (wpAny_callSpecial?_slot (name := Str.ofString "__next__") T F.slot_set_iterator_next (wpAny_call_entry F.slot_set_iterator_next T F.entry_set_iterator_next ?_ (F.args_set_iterator_next_1 _))))
  unfold Builtin.«set_iterator.__next__»
  refine wpAny_bind (wpAny_pure ?_)
  refine wpAny_bind (wpAny_fieldsOf t1 t3 ?_)
  dsimp only
  refine wpAny_bind (wpAny_setEntries_of ho hd hf ?_)
  rw [if_neg (by simp)]
  refine wpAny_bind ?_
  simp only [Int.toNat_natCast]
  refine hn _ _ _ ?_
  dsimp only
  refine wpAny_bind (wpAny_setField t1 t3 (by simp) ?_)
  have g1 := Heap.get?_update_self (Obj.mapFields (·.setIfInBounds 0 (rawInt (k : Int)))) t1 (Obj.isFreed_of_fields (Obj.data_mapFields t3 _))
  refine wpAny_bind (wpAny_setField g1 (Obj.data_mapFields t3 _) (by simp) ?_)
  have g2 := Heap.get?_update_self (Obj.mapFields (·.setIfInBounds 1 (rawInt ((i : Int) + 1)))) g1 (Obj.isFreed_of_fields (Obj.data_mapFields (Obj.data_mapFields t3 _) _))
  refine wpAny_pure ⟨_, rfl, wpAny_pure ?_⟩
  refine q _ ⟨_, g2, (Obj.cls_mapFields ..).trans ((Obj.cls_mapFields ..).trans t2), ?_⟩ ((Heap.SameBut.update ..).trans (Heap.SameBut.update ..))
  rw [Obj.data_mapFields (Obj.data_mapFields t3 _)]
  simp [rawInt]
theorem set_end_slot {slot : Nat} {u : Tok} {Q : Option Value → Shared → Prop} (hh : A.handled = none) (x : IsSetIter s.heap it (.int slot u) i a es.size ep) (m : SetT w s.heap a es ep t)
    (hn : ∀ (A' : Around) (E' : Value → Shared → Prop) (Q' : Option (Value × Nat) → Shared → Prop), Q' none s → wpAny (model prog w) A' (setNext a slot i ep) Q' E' s)
    (q : ∀ h', Heap.ExtBut it s.heap h' → Q none { s with heap := h' }) : wpAny (model prog w) A (pyNext (.ref it)) Q E s := by
  have T := x.ty
  obtain ⟨y, t1, t2, t3⟩ := id x
  obtain ⟨o, ho, hex, hd, hf, _, _⟩ := m
  unfold pyNext
  refine wpAny_bind (wpAny_attempt (wpAny_callSpecial?_slot (name := Str.ofString "__next__") T F.slot_set_iterator_next (wpAny_call_entry F.slot_set_iterator_next T F.entry_set_iterator_next ?_ (F.args_set_iterator_next_1 _))))
  unfold Builtin.«set_iterator.__next__»
  refine wpAny_bind (wpAny_pure ?_)
  refine wpAny_bind (wpAny_fieldsOf t1 t3 ?_)
  dsimp only
  refine wpAny_bind (wpAny_setEntries_of ho hd hf ?_)
  rw [if_neg (by simp)]
  refine wpAny_bind ?_
  simp only [Int.toNat_natCast]
  refine hn _ _ _ ?_
  dsimp only
  refine wpAny_bind (wpAny_setField t1 t3 (by simp) ?_)
  refine wpAny_bind ?_
  simp only [PySem.newExc, newTuple]
  refine wpAny_bind (wpAny_newObj_type ?_ (by size_fits))
  refine wpAny_bind (m := firstArgMember _ _) (wpAny_of_eq (a := Value.none) (by first | rfl | (simp only [firstArgMember]; rfl)) (wpAny_newObj_type ?_ (by size_fits)))
  simp only [raiseNew]
  refine wpAny_bind (wpAny_handled ?_)
  rw [show A.in1.handled = none from hh]
  refine wpAny_bind (wpAny_pure (wpAny_throw ?_))
  refine wpAny_bind (m := isInstance _ _) (wpAny_isInstance (T := "StopIteration") (b := true) ⟨_, Heap.get?_push_size _ rfl, rfl⟩ isSubtype_stop ?_)
  exact wpAny_pure (q _ (((Heap.SameBut.update ..).extBut.push _).push _))
theorem set_item_drawn {tp : Addr} {ot : Obj} {ps : Array Value} {pe j : Nat} {u : Tok} {hv : Int} {v : Value} {Q : Option Value → Shared → Prop} (x : IsSetIter s.heap it (.ref tp) i a es.size ep) (m : SetT w s.heap a es ep t)
    (h1 : s.heap.get? tp = some ot) (h2 : ot.data = .seq ps pe) (hp : ps[i]? = some (.int j u)) (he : es[j]? = some (hv, v))
    (q : ∀ h', IsSetIter h' it (.ref tp) (i + 1) a es.size ep → Heap.SameBut it s.heap h' → Q (some v) { s with heap := h' }) : wpAny (model prog w) A (pyNext (.ref it)) Q E s := by
  have T := x.ty
  obtain ⟨y, t1, t2, t3⟩ := id x
  obtain ⟨o, ho, hex, hd, hf, _, _⟩ := m
  unfold pyNext
  refine wpAny_bind (wpAny_attempt (wpAny_callSpecial?_slot (name := Str.ofString "__next__") T F.slot_set_iterator_next (wpAny_call_entry F.slot_set_iterator_next T F.entry_set_iterator_next ?_ (F.args_set_iterator_next_1 _))))
  unfold Builtin.«set_iterator.__next__»
  refine wpAny_bind (wpAny_pure ?_)
  refine wpAny_bind (wpAny_fieldsOf t1 t3 ?_)
  dsimp only
  refine wpAny_bind (wpAny_setEntries_of ho hd hf ?_)
  rw [if_neg (by simp)]
  refine wpAny_bind (wpAny_seqItems h1 h2 ?_)
  dsimp only
  simp only [Int.toNat_natCast, hp]
  refine wpAny_bind ?_
  unfold setNextDrawn
  refine wpAny_bind (wpAny_setState_of ho hd hf ?_)
  dsimp only
  rw [if_neg (by simp)]
  simp only [he]
  refine wpAny_pure ?_
  refine wpAny_bind (wpAny_setField t1 t3 (by simp) ?_)
  have g1 := Heap.get?_update_self (Obj.mapFields (·.setIfInBounds 1 (rawInt ((i : Int) + 1)))) t1 (Obj.isFreed_of_fields (Obj.data_mapFields t3 _))
  refine wpAny_pure ⟨_, rfl, wpAny_pure ?_⟩
  refine q _ ⟨_, g1, (Obj.cls_mapFields ..).trans t2, ?_⟩ (Heap.SameBut.update ..)
  rw [Obj.data_mapFields t3]
  simp [rawInt]
theorem set_end_drawn {tp : Addr} {ot : Obj} {ps : Array Value} {pe : Nat} {Q : Option Value → Shared → Prop} (hh : A.handled = none) (x : IsSetIter s.heap it (.ref tp) i a es.size ep) (m : SetT w s.heap a es ep t)
    (h1 : s.heap.get? tp = some ot) (h2 : ot.data = .seq ps pe) (hp : ps[i]? = none)
    (q : ∀ h', Heap.ExtBut it s.heap h' → Q none { s with heap := h' }) : wpAny (model prog w) A (pyNext (.ref it)) Q E s := by
  have T := x.ty
  obtain ⟨y, t1, t2, t3⟩ := id x
  obtain ⟨o, ho, hex, hd, hf, _, _⟩ := m
  unfold pyNext
  refine wpAny_bind (wpAny_attempt (wpAny_callSpecial?_slot (name := Str.ofString "__next__") T F.slot_set_iterator_next (wpAny_call_entry F.slot_set_iterator_next T F.entry_set_iterator_next ?_ (F.args_set_iterator_next_1 _))))
  unfold Builtin.«set_iterator.__next__»
  refine wpAny_bind (wpAny_pure ?_)
  refine wpAny_bind (wpAny_fieldsOf t1 t3 ?_)
  dsimp only
  refine wpAny_bind (wpAny_setEntries_of ho hd hf ?_)
  rw [if_neg (by simp)]
  refine wpAny_bind (wpAny_seqItems h1 h2 ?_)
  dsimp only
  simp only [Int.toNat_natCast, hp]
  refine wpAny_bind (wpAny_setField t1 t3 (by simp) ?_)
  have g1 := Heap.get?_update_self (Obj.mapFields (·.setIfInBounds 0 (rawInt 0))) t1 (Obj.isFreed_of_fields (Obj.data_mapFields t3 _))
  refine wpAny_bind (wpAny_setField g1 (Obj.data_mapFields t3 _) (by simp) ?_)
  refine wpAny_bind ?_
  simp only [PySem.newExc, newTuple]
  refine wpAny_bind (wpAny_newObj_type ?_ (by size_fits))
  refine wpAny_bind (m := firstArgMember _ _) (wpAny_of_eq (a := Value.none) (by first | rfl | (simp only [firstArgMember]; rfl)) (wpAny_newObj_type ?_ (by size_fits)))
  simp only [raiseNew]
  refine wpAny_bind (wpAny_handled ?_)
  rw [show A.in1.handled = none from hh]
  refine wpAny_bind (wpAny_pure (wpAny_throw ?_))
  refine wpAny_bind (m := isInstance _ _) (wpAny_isInstance (T := "StopIteration") (b := true) ⟨_, Heap.get?_push_size _ rfl, rfl⟩ isSubtype_stop ?_)
  exact wpAny_pure (q _ ((((Heap.SameBut.update ..).trans (Heap.SameBut.update ..)).extBut.push _).push _))
theorem set_iter {Q : Value → Shared → Prop} (m : SetT w s.heap a es ep t) (hz : es.size ≤ 1000)
    (q1 : (w.params.followText "set-order" = true ∨ (w.params.followText "set-order" = false ∧ es.size ≤ 1)) → Q (.ref s.heap.objs.size) { s with heap := s.heap.push { cls := .type "set_iterator", data := .fields #[.int 0 0, .int 0 0, .ref a, .int es.size 0, .int ep 0] } })
    (q2 : ∀ (ps : List Nat) (d : Drawn), ps.Perm (List.range es.size) → Q (.ref (s.heap.objs.size + 1)) { s with heap := (s.heap.push { cls := .type "tuple", data := .seq (ps.map fun i : Nat => Value.int i 0).toArray }).push { cls := .type "set_iterator", data := .fields #[.ref s.heap.objs.size, .int 0 0, .ref a, .int es.size 0, .int ep 0] }, drawn := d }) :
    wpAny (model prog w) A (pyIter (.ref a)) Q E s := by
  have T := m.ty
  obtain ⟨o, ho, hex, hd, hf, hb, hp⟩ := m
  refine wpAny_pyIter_slot T F.slot_set_iter (wpAny_call_entry F.slot_set_iter T F.entry_set_iterT ?_ (F.args_set_iter_1 _))
  unfold Builtin.«frozenset.__iter__» Builtin.Frozenset.slot0 Builtin.Frozenset.sizeOf
  refine wpAny_bind (wpAny_bind (wpAny_pure ?_))
  show wpAny _ _ (pure a) _ _ _
  refine wpAny_pure ?_
  refine wpAny_bind (wpAny_bind (wpAny_setEntries_of ho hd hf (wpAny_pure ?_)))
  unfold setDrawn setsByText
  refine wpAny_bind (wpAny_bind (wpAny_setState_of ho hd hf ?_))
  dsimp only
  refine wpAny_bind (wpAny_bind (wpAny_askSetting (wpAny_pure ?_)))
  refine wpAny_pure ?_
  split
  · rename_i h
    have h : (!w.params.followText "set-order" && (!t.plain && decide (es.size > 1))) = true := h
    refine wpAny_bind (wpAny_drawT _ _ (by simp) fun ps d pm => ?_)
    refine wpAny_bind (wpAny_newTuple ?_ (by rw [List.length_map, pm.length_eq, List.length_range]; exact Nat.le_of_lt (small1000 (by omega))))
    refine wpAny_bind (wpAny_setEpoch_of (a := a) (o := o) (es := es) (ep := ep) (t := t) (Heap.get?_push_of_some _ ho) hd hf ?_)
    refine wpAny_bind (wpAny_newObj_type (wpAny_pure ⟨_, rfl, "set_iterator", _, ⟨_, Heap.get?_push_size _ rfl, rfl⟩, F.slot_set_iterator_next.lookup, ?_⟩))
    have := q2 ps d pm
    simpa [rawInt, Heap.size_push] using this
  · rename_i h
    have h : ¬ (!w.params.followText "set-order" && (!t.plain && decide (es.size > 1))) = true := h
    refine wpAny_bind (wpAny_pure ?_)
    refine wpAny_bind (wpAny_setEpoch_of ho hd hf ?_)
    refine wpAny_bind (wpAny_newObj_type (wpAny_pure ⟨_, rfl, "set_iterator", _, ⟨_, Heap.get?_push_size _ rfl, rfl⟩, F.slot_set_iterator_next.lookup, ?_⟩))
    have := q1 (by
      cases e : w.params.followText "set-order" with
      | true => exact .inl rfl
      | false =>
        refine .inr ⟨rfl, ?_⟩
        rcases hp with hp | hp
        · simp [e, hp] at h; omega
        · omega)
    simpa [rawInt] using this
end
end L2
end

section
set_option Elab.async false
set_option linter.all false
set_option maxRecDepth 100000
set_option maxHeartbeats 2000000
namespace L2
open PySem PySem.Spec PyProof.Rows PySem.W
section
variable {prog : Program} {w : World} {A : Around} {E : Value → Shared → Prop} {s : Shared} {a it : Addr} {es : Array (Int × Value)} {ep i : Nat} {t : SetTable} {first : Value}
theorem set_hint {Q : Bool → Shared → Prop} (hT : s.TypeIs (.ref a) "set") (h : Q false s) : wpAny (model prog w) A (Builtin.List.listLengthHint (.ref a)) Q E s := by
  unfold Builtin.List.listLengthHint
  refine wpAny_bind (wpAny_specialOf hT PySem.F.slot_set_len.lookup ?_)
  generalize hid : ("set.__len__" : String) = id0
  wp_delta
  rw [show splitId id0 = some ("set", "__len__") from by subst hid; decide +kernel]
  subst hid
  refine wpAny_bind (wpAny_isInstance (T := "set") (b := true) hT (by rw [isSubtype_type]; kernel_rfl) ?_)
  refine wpAny_ite_split (fun hab => absurd hab (by decide)) (fun _ => ?_)
  refine wpAny_ite_split (fun _ => ?_) (fun hab => absurd (by decide +kernel) hab)
  refine wpAny_bind (wpAny_typeOf hT ?_)
  exact wpAny_pure h
theorem self_set {Q : Value → Shared → Prop} {n : Nat} (x : IsSetIter s.heap it first i a n ep) (q : Q (.ref it) s) : wpAny (model prog w) A (pyIter (.ref it)) Q E s := by
  refine wpAny_pyIter_slot x.ty F.slot_set_iterator_iter (wpAny_call_entry F.slot_set_iterator_iter x.ty F.entry_set_iterator_iterT ?_ (F.args_set_iterator_iter_1 _))
  show wpAny _ _ (ret (.ref it)) _ _ s
  exact wpAny_pure ⟨_, rfl, "set_iterator", _, x.ty, F.slot_set_iterator_next.lookup, q⟩
theorem walk_drawn {tp : Addr} {ps : List Nat} (hh : A.handled = none) (hne : a ≠ it) (hnt : tp ≠ it) (hp : ∀ j ∈ ps, j < es.size) (hl : ps.length = es.size) :
    Walks prog w A it [it, tp, a] [it] es.size (fun i v => ∃ j e, ps[i]? = some j ∧ es[j]? = some e ∧ v = e.2)
      (fun i h => IsSetIter h it (.ref tp) i a es.size ep ∧ SetT w h a es ep t ∧ ∃ ot, h.get? tp = some ot ∧ ot.data = .seq (ps.map fun i : Nat => Value.int i 0).toArray 0) where
  sub := fun b hb => by simp at hb; simp [hb]
  frame := fun _ _ _ st hk => ⟨st.1.mv fun o e => hk it (by simp) o e, st.2.1.mv fun o e => hk a (by simp) o e, let ⟨ot, h1, h2⟩ := st.2.2; ⟨ot, hk tp (by simp) _ h1, h2⟩⟩
  item := fun i s Q E hi st hQ => by
    obtain ⟨x, m, ot, h1, h2⟩ := st
    have hi' : i < ps.length := by omega
    have hj := hp _ (List.getElem_mem hi')
    refine set_item_drawn x m h1 h2 (j := ps[i]) (u := 0) (by simp [hi']) (hv := es[ps[i]].1) (v := es[ps[i]].2) (by simp [hj]) fun h' x' k => ?_
    exact hQ _ h' s.toks ⟨ps[i], es[ps[i]], by simp [hi'], by simp [hj], rfl⟩ ⟨x', m.mv fun o e => k.extBut a o hne e, ot, k.extBut tp ot hnt h1, h2⟩ fun b o hb e => k.extBut b o (fun y => hb (by simp [y])) e
  done := fun s Q E st hQ => by
    obtain ⟨x, m, ot, h1, h2⟩ := st
    exact set_end_drawn hh x m h1 h2 (by simp [hl]) fun h' k => hQ h' s.toks fun b o hb e => k b o (fun y => hb (by simp [y])) e
  self := fun i s Q E st hQ => self_set st.1 hQ
theorem next_text {slot : Nat} {Q : Option (Value × Nat) → Shared → Prop} (m : SetT w s.heap a es ep t) (hb : w.params.followText "set-order" = true)
    (h : Q (((pickOrder (w.params.setOrder a ep) es)[i]?).map fun e => (e.2, slot)) s) : wpAny (model prog w) A (setNext a slot i ep) Q E s := by
  obtain ⟨o, ho, hex, hd, hf, _, _⟩ := m
  unfold setNext setsByText
  refine wpAny_bind (wpAny_setState_of ho hd hf ?_)
  dsimp only
  refine wpAny_bind (wpAny_bind (wpAny_askSetting (wpAny_pure ?_)))
  rw [if_pos (by exact hb)]
  rw [if_neg (by simp)]
  unfold setWalk setsByText
  refine wpAny_bind ?_
  refine wpAny_bind (wpAny_setState_of ho hd hf ?_)
  dsimp only
  refine wpAny_bind (wpAny_bind (wpAny_askSetting (wpAny_pure ?_)))
  rw [if_pos (by exact hb)]
  refine wpAny_bind (wpAny_askSetting (wpAny_pure ?_))
  exact wpAny_pure h
theorem next_small {slot : Nat} {Q : Option (Value × Nat) → Shared → Prop} (m : SetT w s.heap a es ep t) (hb : w.params.followText "set-order" = false) (hz : es.size ≤ 1)
    (h : Q (match es[SetTable.below t.place slot]?, t.place[SetTable.below t.place slot]? with | some (_, x), some j => some (x, j + 1) | _, _ => none) s) : wpAny (model prog w) A (setNext a slot i ep) Q E s := by
  obtain ⟨o, ho, hex, hd, hf, hl, _⟩ := m
  have hl : t.led = true := by rcases hl with z | z; rw [hb] at z; cases z; exact z
  unfold setNext setsByText
  refine wpAny_bind (wpAny_setState_of ho hd hf ?_)
  dsimp only
  refine wpAny_bind (wpAny_bind (wpAny_askSetting (wpAny_pure ?_)))
  rw [if_neg (by show ¬ w.params.followText "set-order" = true; rw [hb]; simp)]
  split
  · rename_i z
    have z : (!t.plain && decide (es.size > 1)) = true := z
    simp at z
    omega
  · refine wpAny_bind ?_
    show wpAny _ _ (if (!t.led && !es.isEmpty) = true then unsupported "set:maker-not-led" else pure ()) _ _ _
    rw [if_neg (by rw [hl]; simp)]
    exact wpAny_pure (wpAny_pure h)
theorem walk_text (hh : A.handled = none) (hne : a ≠ it) (hb : w.params.followText "set-order" = true) :
    Walks prog w A it [it, a] [it] es.size (fun i v => ∃ e, (pickOrder (w.params.setOrder a ep) es)[i]? = some e ∧ v = e.2)
      (fun i h => IsSetIter h it (.int (0 : Nat) 0) i a es.size ep ∧ SetT w h a es ep t) where
  sub := fun b hb => by simp at hb; simp [hb]
  frame := fun _ _ _ st hk => ⟨st.1.mv fun o e => hk it (by simp) o e, st.2.mv fun o e => hk a (by simp) o e⟩
  item := fun i s Q E hi st hQ => by
    have hsz : (pickOrder (w.params.setOrder a ep) es).size = es.size := by have := (pick_perm (w.params.setOrder a ep) es).length_eq; simpa using this
    have hi' : i < (pickOrder (w.params.setOrder a ep) es).size := by omega
    refine set_item_slot (slot := 0) (k := 0) (v := (pickOrder (w.params.setOrder a ep) es)[i].2) st.1 st.2 (fun A' E' Q' q => next_text st.2 hb (by rw [Array.getElem?_eq_getElem hi']; exact q)) fun h' x' k => ?_
    exact hQ _ h' s.toks ⟨_, by rw [Array.getElem?_eq_getElem hi'], rfl⟩ ⟨x', st.2.mv fun o e => k.extBut a o hne e⟩ fun b o hb e => k.extBut b o (fun y => hb (by simp [y])) e
  done := fun s Q E st hQ => by
    have hsz : (pickOrder (w.params.setOrder a ep) es).size = es.size := by have := (pick_perm (w.params.setOrder a ep) es).length_eq; simpa using this
    refine set_end_slot hh st.1 st.2 (fun A' E' Q' q => next_text st.2 hb (by rw [Array.getElem?_eq_none (by omega)]; exact q)) fun h' k => hQ h' s.toks fun b o hb e => k b o (fun y => hb (by simp [y])) e
  self := fun i s Q E st hQ => self_set st.1 hQ
theorem below_zero {p : Array Nat} (h : p.size = 1) : SetTable.below p 0 = 0 := by
  unfold SetTable.below
  rw [h]
  simp [SetTable.below.go]
theorem below_one {p : Array Nat} (h : p.size = 1) : SetTable.below p (p.getD 0 0 + 1) = 1 := by
  obtain ⟨l⟩ := p
  match l, h with
  | [x], _ => simp [SetTable.below, SetTable.below.go]
theorem walk_small (hh : A.handled = none) (hne : a ≠ it) (hb : w.params.followText "set-order" = false) (hz : es.size ≤ 1) :
    Walks prog w A it [it, a] [it] es.size (fun i v => ∃ e, es[i]? = some e ∧ v = e.2)
      (fun i h => ∃ slot : Nat, IsSetIter h it (.int slot 0) i a es.size ep ∧ SetT w h a es ep t ∧ t.place.size = es.size ∧ slot = (if i = 0 then 0 else t.place.getD 0 0 + 1)) where
  sub := fun b hb => by simp at hb; simp [hb]
  frame := fun _ _ _ st hk => let ⟨slot, x, m, r⟩ := st; ⟨slot, x.mv fun o e => hk it (by simp) o e, m.mv fun o e => hk a (by simp) o e, r⟩
  item := fun i s Q E hi st hQ => by
    obtain ⟨slot, x, m, hp, hs⟩ := st
    have hi0 : i = 0 := by omega
    subst hi0
    rw [if_pos rfl] at hs
    subst hs
    have h1 : es.size = 1 := by omega
    have h1p : t.place.size = 1 := by omega
    refine set_item_slot (slot := 0) (k := t.place.getD 0 0 + 1) (v := es[0].2) x m (fun A' E' Q' q => next_small m hb hz ?_) fun h' x' k => ?_
    · rw [below_zero h1p, Array.getElem?_eq_getElem hi, Array.getElem?_eq_getElem (by omega : 0 < t.place.size)]
      have e : t.place.getD 0 0 = t.place[0] := by simp [Array.getD, h1p]
      rw [e] at q
      exact q
    · exact hQ _ h' s.toks ⟨es[0], by simp [h1], rfl⟩ ⟨_, x', m.mv fun o e => k.extBut a o hne e, hp, rfl⟩ fun b o hb e => k.extBut b o (fun y => hb (by simp [y])) e
  done := fun s Q E st hQ => by
    obtain ⟨slot, x, m, hp, hs⟩ := st
    refine set_end_slot hh x m (fun A' E' Q' q => next_small m hb hz ?_) fun h' k => hQ h' s.toks fun b o hb e => k b o (fun y => hb (by simp [y])) e
    rcases (show es.size = 0 ∨ es.size = 1 by omega) with h0 | h1
    · rw [Array.getElem?_eq_none (by omega)]
      exact q
    · rw [if_neg (by omega)] at hs
      subst hs
      rw [below_one (by omega), Array.getElem?_eq_none (by omega)]
      exact q
  self := fun i s Q E st hQ => by obtain ⟨slot, x, _⟩ := st; exact self_set x hQ
end
theorem items_eq {P : Nat → Value → Prop} {acc : Array Value} {n : Nat} {l : List Value} (h : ItemsOf P acc n) (hl : l.length = n) (hP : ∀ i v, P i v → l[i]? = some v) : acc.toList = l := by
  apply List.ext_getElem?
  intro j
  by_cases hj : j < n
  · have hj' : j < acc.size := by rw [h.1]; exact hj
    have e : acc[j]? = some acc[j] := by simp [hj']
    rw [hP j _ (h.2 j _ e), Array.getElem?_toList, e]
  · rw [List.getElem?_eq_none (by rw [Array.length_toList, h.1]; omega), List.getElem?_eq_none (by omega)]
section
variable {prog : Program} {w : World} {A : Around} {E : Value → Shared → Prop} {s : Shared} {a it : Addr} {es : Array (Int × Value)} {ep i : Nat} {t : SetTable} {first : Value}
theorem ext_rest {R : Result → Shared → Prop} {rs : Bool} {I S0 : Addr} {fp : List Addr} {n : Nat} {P : Nat → Value → Prop} {St : Nat → Heap → Prop} (W : Walks prog w A.in1 I fp [I] n P St) (hSf : S0 ∉ fp) (res : Value) (c₀ : Nat)
    (hS : s.heap.get? S0 = some { cls := .type "list", data := .seq #[] c₀ }) (st : St 0 s.heap) (hn : n ≤ sizeLine) (hT : s.TypeIs (.ref a) "set")
    (hR : ∀ h' tk acc' c', (∀ b o, b ≠ S0 → b ≠ I → s.heap.get? b = some o → h'.get? b = some o) → h'.get? S0 = some { cls := .type "list", dict := none, data := .seq acc' c', slots := #[] } → ItemsOf P acc' n → R (.ok (.ret res)) { s with heap := h', toks := tk }) :
    wpAny (model prog w) A.in1 (do
      let room ← holding [Value.ref I] (Builtin.List.listLengthHint (.ref a))
      if room || rs then rule "list.extend.makes-room"; Builtin.List.listTouch (.ref S0)
      again (.builtin "list.extend.loop" ⟨[.ref S0, .ref I, res], []⟩))
      (fun fin s' => match fin with | .done f => R (.ok f) s' | .again c' => c'.quiet = true ∧ codeAny (model prog w) A c' R s') (fun e s' => R (.error e) s') s := by
  have key : ∀ (h : Heap) (c₁ tk : Nat), St 0 h → (∀ b o, b ≠ S0 → s.heap.get? b = some o → h.get? b = some o) →
      h.get? S0 = some { cls := .type "list", data := .seq #[] c₁ } → codeAny (model prog w) A (.builtin "list.extend.loop" ⟨[.ref S0, .ref I, res], []⟩) R { s with heap := h, toks := tk } := by
    intro h c₁ tk hst hk hS₁
    refine codeAny_extend_loopS W.toS hn S0 hSf res n 0 _ #[] c₁ rfl (Nat.zero_le _) hst hS₁ (ItemsOf.nil _) fun s' acc' c' hm hS' hacc => ?_
    rw [Moved.eq_with hm]
    refine hR s'.heap s'.toks acc' c' (fun b o hb hbI e => hm.heap b o (fun hmem => ?_) (hk b o hb e)) hS' hacc
    rcases List.mem_cons.mp hmem with e' | hmem
    · exact hb e'
    · exact hbI (List.mem_singleton.mp hmem)
  refine wpAny_bind (wpAny_holding (set_hint hT ?_))
  refine wpAny_ite_split (fun _ => ?_) (fun _ => wpAny_pure ⟨plainId_quiet PySem.F.plain_extend_loop _, key _ c₀ _ st (fun b o _ e => e) hS⟩)
  refine wpAny_bind (wpAny_rule ?_)
  refine wpAny_bind ?_
  show wpAny _ _ (updateSeq S0 (·.push .none) >>= fun _ => updateSeq S0 (·.pop)) _ _ _
  refine wpAny_bind (wpAny_updateSeq hS rfl ?_)
  have hS₂ := Heap.get?_update_self (Obj.mapSeq (·.push Value.none)) hS rfl
  refine wpAny_updateSeq (hz := by seq_fits) hS₂ rfl ?_
  have hS₃ := Heap.get?_update_self (Obj.mapSeq (·.pop)) hS₂ rfl
  refine wpAny_pure ⟨plainId_quiet PySem.F.plain_extend_loop _, key _ _ _ ?_ (fun b o hb e => ?_) hS₃⟩
  · refine W.frame 0 _ _ st fun b hb o e => ?_
    have hbS : b ≠ S0 := fun h => hSf (h ▸ hb)
    exact (Heap.get?_update_other _ _ (Ne.symm hbS)).trans ((Heap.get?_update_other _ _ (Ne.symm hbS)).trans e)
  · exact (Heap.get?_update_other _ _ (Ne.symm hb)).trans ((Heap.get?_update_other _ _ (Ne.symm hb)).trans e)
theorem set_extend {R : Result → Shared → Prop} (hh : A.handled = none) (m : SetT w s.heap a es ep t) (hz : es.size ≤ 1000) (S0 : Addr) (hSa : S0 ≠ a) (res : Value) (c₀ : Nat) (hS : s.heap.get? S0 = some { cls := .type "list", data := .seq #[] c₀ })
    (hR : ∀ h' tk d acc' c', (∀ b o, b ≠ S0 → s.heap.get? b = some o → h'.get? b = some o) → h'.get? S0 = some { cls := .type "list", dict := none, data := .seq acc' c', slots := #[] } → acc'.toList.Perm (es.toList.map (·.2)) → R (.ok (.ret res)) { s with heap := h', toks := tk, drawn := d }) :
    wpAny (model prog w) A.in1 (Builtin.List.listExtendWith (.ref S0) (.ref a) res)
      (fun fin s' => match fin with | .done f => R (.ok f) s' | .again c' => c'.quiet = true ∧ codeAny (model prog w) A c' R s') (fun e s' => R (.error e) s') s := by
  have hzl : es.size ≤ sizeLine := Nat.le_of_lt (small1000 (by omega))
  have hlt := m.lt
  have hSlt := Heap.lt_size hS
  unfold Builtin.List.listExtendWith
  refine wpAny_bind (wpAny_typeOf (T := "set") m.ty ?_)
  have h1 : Builtin.List.listSameRef (.ref S0) (.ref a) = false := by simp [Builtin.List.listSameRef, hSa]
  have n1 : (Value.type "set" == Value.type "list") = false := by decide
  have n2 : (Value.type "set" == Value.type "tuple") = false := by decide
  simp only [h1, n1, n2, Bool.or_false, Bool.false_eq_true, if_false]
  refine wpAny_bind (set_iter m hz (fun c => ?_) (fun ps d pm => ?_))
  · have m' : SetT w (s.heap.push { cls := .type "set_iterator", data := .fields #[.int 0 0, .int 0 0, .ref a, .int es.size 0, .int ep 0] }) a es ep t := m.mv fun o e => Heap.get?_push_of_some _ e
    have hx : IsSetIter (s.heap.push { cls := .type "set_iterator", data := .fields #[.int 0 0, .int 0 0, .ref a, .int es.size 0, .int ep 0] }) s.heap.objs.size (.int (0 : Nat) 0) 0 a es.size ep := ⟨_, Heap.get?_push_size _ rfl, rfl, rfl⟩
    have hSf : S0 ∉ [s.heap.objs.size, a] := by simp only [List.mem_cons, List.not_mem_nil, or_false, not_or]; exact ⟨Nat.ne_of_lt hSlt, hSa⟩
    rcases c with c | ⟨c, c1⟩
    · refine ext_rest (a := a) (walk_text (t := t) hh (Nat.ne_of_lt hlt) c) hSf res c₀ (Heap.get?_push_of_some _ hS) ⟨hx, m'⟩ hzl (SetT.ty (s := { s with heap := _ }) m') fun h' tk acc' c' k hS' hacc => ?_
      have hsz := (pick_perm (w.params.setOrder a ep) es).length_eq
      refine hR h' tk s.drawn acc' c' (fun b o hb e => k b o hb (Nat.ne_of_lt (Heap.lt_size e)) (Heap.get?_push_of_some _ e)) hS' ?_
      rw [items_eq (l := (pickOrder (w.params.setOrder a ep) es).toList.map (·.2)) hacc (by simpa using hsz) (fun i v hv => by obtain ⟨e, he, rfl⟩ := hv; simp [he])]
      exact (pick_perm _ _).map _
    · refine ext_rest (a := a) (walk_small (t := t) hh (Nat.ne_of_lt hlt) c c1) hSf res c₀ (Heap.get?_push_of_some _ hS) ⟨0, hx, m', ?_, rfl⟩ hzl (SetT.ty (s := { s with heap := _ }) m') fun h' tk acc' c' k hS' hacc => ?_
      · obtain ⟨o, _, _, _, hf, _⟩ := m
        simp only [SetTable.fits, Bool.and_eq_true, beq_iff_eq] at hf
        exact hf.1
      · refine hR h' tk s.drawn acc' c' (fun b o hb e => k b o hb (Nat.ne_of_lt (Heap.lt_size e)) (Heap.get?_push_of_some _ e)) hS' ?_
        rw [items_eq (l := es.toList.map (·.2)) hacc (by simp) (fun i v hv => by obtain ⟨e, he, rfl⟩ := hv; simp [he])]
  · generalize hh1 : s.heap.push { cls := .type "tuple", data := .seq (ps.map fun i : Nat => Value.int i 0).toArray } = h1
    have k1 : ∀ b o, s.heap.get? b = some o → h1.get? b = some o := fun b o e => by rw [← hh1]; exact Heap.get?_push_of_some _ e
    have z1 : h1.objs.size = s.heap.objs.size + 1 := by rw [← hh1]; exact Heap.size_push ..
    have g1 : h1.get? s.heap.objs.size = some { cls := .type "tuple", data := .seq (ps.map fun i : Nat => Value.int i 0).toArray } := by rw [← hh1]; exact Heap.get?_push_size _ rfl
    have m' : SetT w (h1.push { cls := .type "set_iterator", data := .fields #[.ref s.heap.objs.size, .int 0 0, .ref a, .int es.size 0, .int ep 0] }) a es ep t := m.mv fun o e => Heap.get?_push_of_some _ (k1 _ _ e)
    have hx : IsSetIter (h1.push { cls := .type "set_iterator", data := .fields #[.ref s.heap.objs.size, .int 0 0, .ref a, .int es.size 0, .int ep 0] }) (s.heap.objs.size + 1) (.ref s.heap.objs.size) 0 a es.size ep := ⟨_, by rw [← z1]; exact Heap.get?_push_size _ rfl, rfl, rfl⟩
    have hp : ∀ j ∈ ps, j < es.size := fun j hj => List.mem_range.mp (pm.mem_iff.mp hj)
    have hl : ps.length = es.size := by rw [pm.length_eq, List.length_range]
    have hSf : S0 ∉ [s.heap.objs.size + 1, s.heap.objs.size, a] := by simp only [List.mem_cons, List.not_mem_nil, or_false, not_or]; exact ⟨Nat.ne_of_lt (Nat.lt_succ_of_lt hSlt), Nat.ne_of_lt hSlt, hSa⟩
    refine ext_rest (a := a) (s := { s with heap := h1.push { cls := .type "set_iterator", data := .fields #[.ref s.heap.objs.size, .int 0 0, .ref a, .int es.size 0, .int ep 0] }, drawn := d }) (walk_drawn (t := t) (tp := s.heap.objs.size) (ps := ps) hh (Nat.ne_of_lt (Nat.lt_succ_of_lt hlt)) (Nat.ne_of_lt (Nat.lt_succ_self _)) hp hl) hSf res c₀ (Heap.get?_push_of_some _ (k1 _ _ hS)) ⟨hx, m', _, Heap.get?_push_of_some _ g1, rfl⟩ hzl (SetT.ty (s := { s with heap := _, drawn := d }) m') fun h' tk acc' c' k hS' hacc => ?_
    refine hR h' tk d acc' c' (fun b o hb e => k b o hb (Nat.ne_of_lt (Nat.lt_succ_of_lt (Heap.lt_size e))) (Heap.get?_push_of_some _ (k1 _ _ e))) hS' ?_
    rw [items_eq (l := ps.map fun j => (es.getD j (0, .none)).2) hacc (by simp [hl]) (fun i v hv => by
      obtain ⟨j, e, hj, he, rfl⟩ := hv
      rw [List.getElem?_map, hj]
      simp [Array.getD_eq_getD_getElem?, he])]
    refine (pm.map _).trans (List.Perm.of_eq ?_)
    apply List.ext_getElem?
    intro j
    rw [List.getElem?_map, List.getElem?_map]
    by_cases h : j < es.size
    · rw [List.getElem?_range h]; simp [h, Array.getD_eq_getD_getElem?]
    · rw [List.getElem?_eq_none (by simpa using h), List.getElem?_eq_none (by simpa using h)]; rfl
theorem set_collect {R : List Value → Shared → Prop} (hh : A.handled = none) (m : SetT w s.heap a es ep t) (hz : es.size ≤ 1000)
    (h : ∀ (h' : Heap) (tk : Nat) (d : Drawn) (acc : List Value), (∀ b o, s.heap.get? b = some o → h'.get? b = some o) → acc.Perm (es.toList.map (·.2)) → R acc { s with heap := h', toks := tk, drawn := d }) :
    wpAny (model prog w) A (collect (.ref a)) R E s := by
  have hlt := m.lt
  unfold collect
  refine wpAny_bind (wpAny_runValue (codeAny_builtin entry_proto_collect' ?_))
  rw [Around.under_plainId PySem.F.plain_proto_collect _]
  show wpAny _ A.in1 (newList [] >>= fun l => again (.builtin "list.__iadd__" ⟨[l, .ref a], []⟩)) _ _ s
  refine wpAny_bind (wpAny_newObj_type ?_)
  refine wpAny_pure ⟨plainId_quiet PySem.F.plain_list_iadd _, codeAny_builtin entry_list_iadd' ?_⟩
  rw [Around.under_plainId PySem.F.plain_list_iadd _]
  have hS₁ : (s.heap.push { cls := .type "list", data := .seq ([] : List Value).toArray }).get? s.heap.objs.size = some { cls := .type "list", data := .seq #[] } := Heap.get?_push_size _ rfl
  show wpAny _ A.in1 (Builtin.List.listExtendWith (.ref s.heap.objs.size) (.ref a) (.ref s.heap.objs.size)) _ _ _
  have key := set_extend (prog := prog) (A := A) (s := { s with heap := s.heap.push { cls := .type "list", data := .seq ([] : List Value).toArray } })
    (R := fun (q : Result) (s' : Shared) => ∃ (h' : Heap) (tk : Nat) (d : Drawn) (acc' : Array Value) (c' : Nat), q = .ok (.ret (.ref s.heap.objs.size)) ∧ s' = { s with heap := h', toks := tk, drawn := d } ∧
      (∀ b o, s.heap.get? b = some o → h'.get? b = some o) ∧ h'.get? s.heap.objs.size = some { cls := .type "list", dict := none, data := .seq acc' c', slots := #[] } ∧ acc'.toList.Perm (es.toList.map (·.2)))
    hh (m.mv fun o e => Heap.get?_push_of_some _ e) hz s.heap.objs.size (Nat.ne_of_gt hlt) (.ref s.heap.objs.size) 0 hS₁
    (fun h' tk d acc' c' hk hS' hacc => ⟨h', tk, d, acc', c', rfl, rfl, fun b o e => hk b o (Nat.ne_of_lt (Heap.lt_size e)) (Heap.get?_push_of_some _ e), hS', hacc⟩)
  refine wpAny_mono key (fun fin s' x => ?_) fun e s' x => ?_
  · cases fin with
    | done f =>
      obtain ⟨h', tk, d, acc', c', e, rfl, hk, hS', hacc⟩ := x
      cases e
      show wpAny _ A (load s.heap.objs.size >>= _) _ _ _
      refine wpAny_bind (wpAny_load hS' ?_)
      exact wpAny_pure (h h' tk d acc'.toList hk hacc)
    | again c₁ =>
      refine ⟨x.1, codeAny_mono x.2 fun q s₂ y => ?_⟩
      obtain ⟨h', tk, d, acc', c', rfl, rfl, hk, hS', hacc⟩ := y
      show wpAny _ A (load s.heap.objs.size >>= _) _ _ _
      refine wpAny_bind (wpAny_load hS' ?_)
      exact wpAny_pure (h h' tk d acc'.toList hk hacc)
  · obtain ⟨_, _, _, _, _, e, _⟩ := x; cases e
end
section
variable {X : Cx}
theorem Inv.drawT {pins : List (Addr × Obj)} {σ : St} {H : Hp} {s : Shared} (I : Inv X pins σ H s) (d : Drawn) : Inv X pins σ H { s with drawn := d } := ⟨I.ok, I.os, I.bare, I.base, I.loc, I.cell, I.free, I.freeC, I.pin, I.hok, I.len⟩
def rSortSet (w : World) : List V → Hp → VK → Prop := fun xs H Q => ∃ (p : Addr) (ws : List (List Nat)) (n : Nat), xs = [.ref p] ∧ H p = some (.ext (SetW w p ws n)) ∧ n ≤ 1000 ∧ (∀ us : List (List Nat), us.Nodup → (∀ l ∈ us, l ∈ ws) → us.length < 64) ∧
  ∀ (p' : Addr) (ws' : List (List Nat)), H p' = none → ws'.Nodup → (∀ l, l ∈ ws' ↔ l ∈ ws) → ws'.Pairwise (fun a b => decide (b < a) = false) → Q (.ref p') (upd H p' (.lst (Ts ws')))
theorem strsT_of : ∀ (acc : List Value), (∀ v ∈ acc, ∃ (l : List Nat) (u : Tok), v = .str (S l) u) → StrsAre acc ((acc.map fun v => keyT (0, v)).map S)
  | [], _ => .nil
  | v :: r, h => by
    obtain ⟨l, u, rfl⟩ := h v List.mem_cons_self
    exact .cons _ u (strsT_of r fun v hv => h v (List.mem_cons_of_mem _ hv))
theorem call_sortedSet (hc : X.calm = true) : CallR X (.builtin "sorted") (rSortSet X.w) := by
  intro pins s σ H xs us Q I r h
  obtain ⟨p, ws, n, rfl, hd, hn, h64, q⟩ := h
  obtain ⟨u, rfl, ru⟩ := vals1 r
  cases ru
  obtain ⟨⟨es, ep, t, m, el, hz⟩, _, _⟩ := (show ObjOk X.prog X.w H s.heap p (.ext (SetW X.w p ws n)) from I.hok _ _ hd)
  refine sorted_any (set_collect (A := X.A.in1) (I.ok.hd hc) m (by omega) fun h' tk d acc kk pm => ?_)
  have hS : ∀ v ∈ acc, ∃ (l : List Nat) (u : Tok), v = .str (S l) u := fun v hv => by
    obtain ⟨e, he, rfl⟩ := List.mem_map.mp (pm.mem_iff.mp hv)
    obtain ⟨l, u, rfl⟩ := el.sh e he
    exact ⟨l, u, rfl⟩
  have pk : (acc.map fun v => keyT (0, v)).Perm (es.toList.map keyT) := by
    have := pm.map fun v => keyT (0, v)
    rw [List.map_map] at this
    exact this
  have hl : (es.toList.map keyT).length < 64 := h64 _ el.nd fun l hl => (el.mem l).mp hl
  have I1 : Inv X pins σ H { s with heap := h', toks := tk, drawn := d } := (I.kept (t' := tk) kk).drawT d
  refine ⟨_, strsT_of acc hS, by rw [pm.length_eq]; simpa using hl, fun h2 vs' ss' e k2 he hS' pm2 so => ?_⟩
  have es' : ss' = (ss'.map fun y => y.cps.toList).map S := by
    rw [List.map_map]
    refine (List.map_id _).symm.trans (List.map_congr_left fun y _ => ?_)
    exact (S_of y).symm
  have pm' : (ss'.map fun y => y.cps.toList).Perm (es.toList.map keyT) := by
    have := pm2.map fun y : Str => y.cps.toList
    rw [List.map_map] at this
    have e : ((fun y : Str => y.cps.toList) ∘ S) = id := rfl
    rw [e, List.map_id] at this
    exact this.trans pk
  have hv : Vals (Ts (ss'.map fun y => y.cps.toList)) vs' := by
    have := vals_of_strs hS'
    rw [es'] at this
    simpa [Ts, Function.comp_def] using this
  have hl2 : (Ts (ss'.map fun y => y.cps.toList)).length ≤ sizeLine := by
    rw [List.length_map, pm'.length_eq]; exact Nat.le_of_lt (small1000 (by omega))
  refine ⟨.ref h'.objs.size, _, I1.laid (o := .lst _) (t' := tk) k2 (Nat.le_refl _) ⟨hl2, vs', e, hv, he⟩, rfl, q _ _ I1.fresh (pm'.nodup_iff.mpr el.nd) (fun l => pm'.mem_iff.trans (el.mem l)) (sorted_pw ss' so)⟩
end
end L2
end

section
set_option Elab.async false
set_option linter.all false
set_option maxRecDepth 100000
set_option maxHeartbeats 2000000
namespace L2
open PySem PySem.Spec PyProof.Rows PySem.W
section
variable {X : Cx}
def rSumL (K : PySem.W.Frag) : List V → Hp → VK → Prop := fun xs H Q => ∃ (p : Addr) (ns : List Int), xs = [.ref p] ∧ SqL K H p (ns.map V.int) ∧ ns.length ≤ 1000 ∧ (∀ x ∈ ns, -1000000000 ≤ x ∧ x ≤ 1000000000) ∧ Q (.int ns.sum) H
theorem sum_snoc (a : List Int) (x : Int) : (a ++ [x]).sum = a.sum + x := by
  induction a with
  | nil => simp
  | cons y r ih => rw [List.cons_append, List.sum_cons, List.sum_cons, ih]; omega
theorem preSum_get (ns : List Int) : ∀ k, k ≤ ns.length → preSum (fun i => ns.getD i 0) k = (ns.take k).sum
  | 0, _ => by simp [preSum]
  | k + 1, h => by
    show preSum (fun i => ns.getD i 0) k + ns.getD k 0 = _
    have e : ns.take (k + 1) = ns.take k ++ [ns[k]] := by rw [List.take_add_one, List.getElem?_eq_getElem (by omega)]; rfl
    rw [preSum_get ns k (by omega), e, sum_snoc]
    simp [List.getD, show k < ns.length by omega]
theorem sum_le (ns : List Int) (b : Int) (hb : 0 ≤ b) (h : ∀ x ∈ ns, -b ≤ x ∧ x ≤ b) : -(b * ns.length) ≤ ns.sum ∧ ns.sum ≤ b * ns.length := by
  induction ns with
  | nil => simp
  | cons a r ih =>
    have h1 := h a List.mem_cons_self
    have h2 := ih fun x hx => h x (List.mem_cons_of_mem _ hx)
    rw [List.sum_cons, List.length_cons]
    have e : b * ((r.length + 1 : Nat) : Int) = b * r.length + b := by rw [Int.natCast_add, Int.mul_add]; simp
    rw [e]
    omega
theorem call_sumL (hc : X.calm = true) : CallR X (.builtin "sum") (rSumL X.K) := by
  intro pins s σ H xs us Q I r h
  obtain ⟨p, ns, rfl, hq, hn, hb, q⟩ := h
  obtain ⟨u, rfl, ru⟩ := vals1 r
  cases ru
  obtain ⟨its, rv, pl, hz⟩ := I.list hq
  have hlen := rv.length
  rw [List.length_map] at hlen
  have hne : p ≠ s.heap.objs.size := by
    obtain ⟨o, ho, _⟩ := pl.isList
    exact Nat.ne_of_lt (Heap.lt_size ho)
  have hv : ∀ (i : Nat) (v : Value), its.toArray[i]? = some v → ∃ t, v = .int (ns.getD i 0) t := fun i v hv => by
    have hv : its[i]? = some v := by simpa using hv
    have hi : i < ns.length := by have := (List.getElem?_eq_some_iff.mp hv).1; omega
    obtain ⟨u, hu, ru⟩ := rv.get (i := i) (x := .int ns[i]) (by simp [hi])
    rw [hv] at hu; cases hu
    obtain ⟨t, e⟩ := ru
    exact ⟨t, by rw [e]; simp [List.getD, hi]⟩
  have hsz : its.toArray.size = ns.length := by simp [hlen]
  refine call_sum_walk (wpAny_pyIter_list pl.isList ?_)
  refine ⟨s.heap.objs.size, _, _, _, _, _, _, rfl, Walks.list (A := X.A.in1) (I.ok.hd hc) s.heap.objs.size p hne its.toArray, ⟨⟨_, Heap.get?_push_size _ rfl, rfl, rfl⟩, pl.isList.at fun o e => Heap.get?_push_of_some _ e⟩, ?_, hv, fun j hj => ?_, fun h' tk t' kk => ?_⟩
  · intro b hb
    have : b = s.heap.objs.size ∨ b = p := by simpa using hb
    rw [Heap.size_push]
    rcases this with e | e
    · rw [e]; exact Nat.lt_succ_self _
    · rw [e]
      obtain ⟨o, ho, _⟩ := pl.isList
      exact Nat.lt_succ_of_lt (Heap.lt_size ho)
  · have hj' : j < ns.length := by omega
    have h1 := hb _ (List.getElem_mem hj')
    have e1 : ns.getD j 0 = ns[j] := by simp [List.getD, hj']
    have h2 := sum_le (ns.take (j + 1)) 1000000000 (by decide) fun x hx => hb x (List.mem_of_mem_take hx)
    have hl : (ns.take (j + 1)).length ≤ 1000 := by rw [List.length_take]; omega
    rw [preSum_get ns (j + 1) (by omega), e1]
    unfold InLong
    omega
  · have I1 : Inv X pins σ H { s with heap := h', toks := tk } := I.kept fun b o e => kk b o (by
      intro hm
      have : b = s.heap.objs.size := by simpa using hm
      subst this
      exact absurd (Heap.lt_size e) (Nat.lt_irrefl _)) (Heap.get?_push_of_some _ e)
    rw [hsz, preSum_get ns ns.length (Nat.le_refl _), List.take_length]
    exact ⟨.int _, H, I1, ⟨t', rfl⟩, q⟩
end
end L2
end

section
set_option Elab.async false
set_option linter.all false
set_option maxRecDepth 100000
set_option maxHeartbeats 2000000
namespace L2
open PySem PySem.Spec PyProof.Rows PySem.SeqAt PySem.MeetsSeq PySem.MeetsSeq3 PySem.W
open AutoSeq1 (wpAny_loadPart')
section
variable {X : Cx}
end
open PySem.StrLaws Builtin Builtin.Str in
theorem occ_bound (s sub : Str) (hi limit : Nat) : ∀ (l : List Nat) (st : Array Nat × Nat), (∀ i ∈ st.fst.toList, i + sub.length ≤ hi) → ∀ i ∈ (forIn l st (occBody s sub hi limit)).run.fst.toList, i + sub.length ≤ hi
  | [], st, h => h
  | a :: l, st, h => by
    rw [List.forIn_cons]
    unfold occBody
    split
    · rename_i hc
      exact occ_bound s sub hi limit l _ (fun i hi' => by
        rw [Array.toList_push] at hi'
        rcases List.mem_append.mp hi' with z | z
        · exact h i z
        · rw [List.mem_singleton.mp z]; exact hc.1.2)
    · exact occ_bound s sub hi limit l _ h
open PySem.StrLaws Builtin Builtin.Str in
theorem occ_one (s : Str) (c hi limit : Nat) : ∀ (k a : Nat) (st : Array Nat × Nat), st.snd ≤ a → st.fst.size + k ≤ limit →
    (forIn (List.range' a k) st (occBody s (S [c]) hi limit)).run.fst.size = st.fst.size + ((List.range' a k).filter fun i => decide (i + 1 ≤ hi) && subAt s (S [c]) i).length
  | 0, a, st, h1, h2 => rfl
  | k + 1, a, st, h1, h2 => by
    rw [List.range'_succ, List.forIn_cons]
    have hl : (S [c]).length = 1 := rfl
    unfold occBody
    split
    · rename_i hc
      have h3 : ((st.fst.push a, a + (S [c]).length).snd) ≤ a + 1 := by show a + (S [c]).length ≤ a + 1; rw [hl]; exact Nat.le_refl _
      have := occ_one s c hi limit k (a + 1) (st.fst.push a, a + (S [c]).length) h3 (by show (st.fst.push a).size + k ≤ limit; rw [Array.size_push]; omega)
      refine this.trans ?_
      have hb : (decide (a + 1 ≤ hi) && subAt s (S [c]) a) = true := by
        have h5 := hc.1.2
        rw [hl] at h5
        rw [hc.2]; simp; omega
      rw [List.filter_cons, if_pos hb, List.length_cons]
      show (st.fst.push a).size + _ = _
      rw [Array.size_push]; omega
    · rename_i hc
      have := occ_one s c hi limit k (a + 1) (st.fst, st.snd) (Nat.le_succ_of_le h1) (by show st.fst.size + k ≤ limit; omega)
      refine this.trans ?_
      have hb : ¬ (decide (a + 1 ≤ hi) && subAt s (S [c]) a) = true := fun z => hc (by
        simp only [Bool.and_eq_true, decide_eq_true_eq] at z
        exact ⟨⟨⟨by omega, h1⟩, by rw [hl]; exact z.1⟩, z.2⟩)
      rw [List.filter_cons, if_neg hb]
open Builtin.Str in
theorem subAt_one (l : List Nat) (c i : Nat) (hi : i < l.length) : subAt (S l) (S [c]) i = decide (l[i] = c) := by
  unfold subAt
  have e : (S l).cps.extract i (i + (S [c]).length) = #[l[i]] := by
    show l.toArray.extract i (i + 1) = #[l[i]]
    apply Array.ext
    · simp; omega
    · intro j h1 h2
      have : j = 0 := by simp at h2; exact h2
      subst this
      simp
  rw [e]
  show (#[l[i]] == #[c]) = _
  by_cases h : l[i] = c
  · subst h; simp
  · rw [decide_eq_false h]
    simpa using h
open Builtin.Str in
theorem count_one (l : List Nat) (c : Nat) : (occurrences (S l) (S [c]) 0 (S l).length ((S l).length + 1)).length = l.count c := by
  have hn : (S l).length = l.length := by show l.toArray.size = l.length; simp
  rw [PySem.StrLaws.occ_eq, Array.length_toList, hn]
  rw [occ_one (S l) c l.length (l.length + 1) (l.length + 1 - 0) 0 (#[], 0) (Nat.le_refl _) (by simp)]
  rw [← List.range_eq_range', show l.length + 1 - 0 = l.length + 1 from rfl, List.range_succ, List.filter_append]
  have e1 : ([l.length].filter fun i => decide (i + 1 ≤ l.length) && subAt (S l) (S [c]) i) = [] := by simp; omega
  rw [e1, List.append_nil]
  have key : ∀ k, k ≤ l.length → ((List.range k).filter fun i => decide (i + 1 ≤ l.length) && subAt (S l) (S [c]) i).length = (l.take k).count c := by
    intro k
    induction k with
    | zero => intro _; simp
    | succ k ih =>
      intro hk
      rw [List.range_succ, List.filter_append, List.length_append, ih (by omega), List.take_add_one, List.getElem?_eq_getElem (by omega), List.count_append]
      have e2 : (decide (k + 1 ≤ l.length) && subAt (S l) (S [c]) k) = decide (l[k] = c) := by rw [subAt_one l c k (by omega)]; simp; omega
      rw [List.filter_cons, e2]
      by_cases h : l[k] = c
      · simp [h]
      · simp [h]
  have := key l.length (Nat.le_refl _)
  rw [List.take_length] at this
  simpa using this
section
variable {X : Cx}
def rCountT : V → List V → Hp → VK → Prop := fun x vs H Q => ∃ (l : List Nat) (c : Nat), x = .str (S l) ∧ vs = [.str (S [c])] ∧ Q (.int (l.count c : Nat)) H
theorem mt_countT : MtR X "str.count" rCountT := by
  intro pins s σ H x vs v us Q I rx rv h
  obtain ⟨l, c, rfl, rfl, q⟩ := h
  obtain ⟨t, rfl⟩ := rx
  obtain ⟨u, rfl, ru⟩ := rv.one
  obtain ⟨t', rfl⟩ := ru
  refine call_gives F.slot_str_count (typeIs_str s _ t) F.entry_str_count (F.args_str_count_2 _ _) (gives_str_count (S l) (S [c]) t t') ?_
  show EP X pins σ Q _ _
  rw [← count_one] at q
  exact ⟨.int (Builtin.Str.occurrences (S l) (S [c]) 0 (S l).length ((S l).length + 1)).length, H, I.tok _, ⟨s.toks, rfl⟩, q⟩
def rFindT : V → List V → Hp → VK → Prop := fun x vs H Q => ∃ (l w : List Nat), x = .str (S l) ∧ vs = [.str (S w)] ∧ ∀ n : Int, -1 ≤ n → n ≤ l.length → Q (.int n) H
theorem mt_findT : MtR X "str.find" rFindT := by
  intro pins s σ H x vs v us Q I rx rv h
  obtain ⟨l, w, rfl, rfl, q⟩ := h
  obtain ⟨t, rfl⟩ := rx
  obtain ⟨u, rfl, ru⟩ := rv.one
  obtain ⟨t', rfl⟩ := ru
  refine call_gives F.slot_str_find (typeIs_str s _ t) F.entry_str_find (F.args_str_find_2 _ _) (gives_str_find (S l) (S w) t t') ?_
  show EP X pins σ Q _ _
  have hb : ∀ i ∈ Builtin.Str.occurrences (S l) (S w) 0 (S l).length 1, i + (S w).length ≤ (S l).length := by
    rw [PySem.StrLaws.occ_eq]
    exact occ_bound _ _ _ _ _ _ (fun i h => by simp at h)
  have hn : (S l).length = l.length := by show l.toArray.size = l.length; simp
  cases e : Builtin.Str.occurrences (S l) (S w) 0 (S l).length 1 with
  | nil => exact ⟨.int (-1), H, I.tok _, ⟨s.toks, rfl⟩, q _ (by omega) (by omega)⟩
  | cons i r =>
    have := hb i (by rw [e]; exact List.mem_cons_self)
    exact ⟨.int i, H, I.tok _, ⟨s.toks, rfl⟩, q _ (by omega) (by omega)⟩
end
theorem qe_fldJ {X : Cx} {e : Expr} {f : Str} {pos : Pos} {ta : TE} (K : PySem.W.Frag) (he : QE X e ta) (hb : attributeBase e f X.env (eval e X.env) = eval e X.env) (h : X.K = K := by rfl) : QE X (.Attribute e f pos) (tFld K ta f) := by subst h; exact qe_fld he hb
theorem call_setSTW {X : Cx} (w : World) (hc : X.calm = true) (h : X.w = w := by rfl) : CallR X (.type "set") (rSetST w) := by subst h; exact call_setST hc
theorem call_setLTW {X : Cx} (w : World) (hc : X.calm = true) (h : X.w = w := by rfl) : CallR X (.type "set") (rSetLT w X.K) := by subst h; exact call_setLT hc
theorem call_sortedSetW {X : Cx} (w : World) (hc : X.calm = true) (h : X.w = w := by rfl) : CallR X (.builtin "sorted") (rSortSet w) := by subst h; exact call_sortedSet hc
end L2
end

section
set_option Elab.async false
set_option linter.all false
set_option maxRecDepth 100000
set_option maxHeartbeats 2000000
namespace L2
open PySem PySem.Spec PyProof.Rows PySem.W
structure MethV (K : PySem.W.Frag) (m : Str) (f : Addr) : Prop where
  g : PySem.W.specialIn K (.ref f) "__get__" = some (some (.builtin "function.__get__"))
  t : PySem.W.takesIn K (.ref f) = some false
  c : PySem.W.copiedNames.contains m = false
section
variable {X : Cx} {pins : List (Addr × Obj)} {σ : St} {H : Hp} {s : Shared} {a C dx g : Addr} {fs : List (Str × V)} {m : Str} {A : Around} {E : Value → Shared → Prop}
theorem getbound_ok {b : Bool} {Q : Value → Shared → Prop} (I : Inv X pins σ H s) (e : H a = some (.ins C dx fs)) (c : Cls X.K C) (k : Meth X.K C m g) (v : MethV X.K m g) (l : fs.lookup m = none)
    (h : ∀ q s', H q = none → Inv X pins σ (upd H q (.met g a)) s' → Q (.ref q) s') : wpAny (model X.prog X.w) A (getAttr (.ref a) m b) Q E s := by
  obtain ⟨mA, O, r, _, _, _⟩ := ins_get I.hok e
  have hn : mA m = none := RelO.none_of (by rw [← l]; exact r m)
  obtain ⟨od, J, hl⟩ := O.look
  refine PySem.W.get_bind I.kIn J (PySem.W.plainGet_of (c.get m)).1 (PySem.W.findObj_fn c.hd k.at_ v.g v.t v.c (by rw [hl, hn])) (PySem.W.plainGet_of (c.get m)).2 ?_
  refine wpAny_call (PySem.W.fn_get (s := { s with toks := s.toks + 1 }) I.kIn (beq_iff_eq.mp k.fn) (PySem.W.handed_on rfl ?_))
  exact h s.heap.objs.size _ I.fresh (I.laid (o := .met g a) (t' := s.toks + 1) (fun b u e => Heap.get?_push_of_some _ e) (Nat.le_refl _) (Heap.get?_push_size _ rfl))
def tBnd (C : Addr) (m : Str) (g : Addr) (ta : TE) : TE := fun σ H Q => ta σ H fun x H1 => ∃ a dx fs, x = .ref a ∧ H1 a = some (.ins C dx fs) ∧ fs.lookup m = none ∧ ∀ q, H1 q = none → Q (.ref q) (upd H1 q (.met g a))
theorem pe_bnd {e : Expr} {pos : Pos} {ta : TE} (he : PE X e ta) (c : Cls X.K C) (k : Meth X.K C m g) (v : MethV X.K m g) (hb : attributeBase e m X.env (eval e X.env) = eval e X.env) : PE X (.Attribute e m pos) (tBnd C m g ta) := by
  intro pins s σ H Q I h
  refine attr_of hb (thn (he pins s σ H _ I h) fun u s1 ⟨x, H1, I1, rx, a, dx, fs, ex, ea, l, q⟩ => ?_)
  subst ex
  obtain rfl : u = Value.ref a := rx
  exact getbound_ok I1 ea c k v l fun q' s2 hq I2 => ⟨.ref q', _, I2, rfl, q q' hq⟩
theorem run_met {k : Nat} {fd : FuncData} {ps : List Str} {sp : Sp} {A' : Around} {q : Addr} {u : Value} {x : V} {Q : VK} (F : FnOk X.prog X.w X.K X.mg X.base CX0 k g fd ps sp) (hr : Room k A') (hf : A'.frames = X.A.frames) (hb : Binds X.K fd ps []) (I : Inv X pins σ H s) (hq : H q = some (.met g a)) (r : RelV x u)
    (h : sp [.ref a, x] H Q E0) : wpAny (model X.prog X.w) A' (call (.ref q) [u]) (EP X pins σ Q) (fun _ _ => False) s := by
  have ho : s.heap.get? q = some (PySem.W.methodObj (.ref g) (.ref a)) := (show ObjOk X.prog X.w H s.heap q (.met g a) from I.hok _ _ hq)
  have r2 : Vals [.ref a, x] [.ref a, u] := .cons rfl (.cons r .nil)
  have hl : ([.ref a, u] : List Value).length = ps.length := by rw [← r2.length]; exact F.len _ _ _ _ h
  refine wpAny_call (PySem.W.method_call ho (codeAny_mono (F.run A' X.stack s H ⟨[.ref a, u], []⟩ [.ref a, u] [.ref a, x] Q E0 hr ⟨hf.trans I.env0.frames, I.env0.mod, I.env0.bs, I.env0.bsz, I.env0.funs, I.env0.frf, I.env0.hok, I.env0.bare⟩ (by have := hb s [.ref a, u] I.kIn (by simpa using hl); simpa using this) r2 h) fun r s' hq => ?_))
  cases r with
  | error e => exact hq
  | ok fl =>
    cases fl with
    | ret u => exact I.after hq
    | next => exact False.elim hq
    | brk => exact False.elim hq
    | cont => exact False.elim hq
end
theorem max_key_args (a v : Value) : argsOk "max" ⟨[a], [(Str.ofString "key", v)]⟩ := by unfold argsOk; kernel_rfl
section
variable {X : Cx} {pins : List (Addr × Obj)} {σ : St}
def best (kf : Nat → Int) (n i : Nat) : Prop := ∀ j, j < n → kf j ≤ kf i ∧ (j < i → kf j < kf i)
theorem FpOk.turn {H : Hp} {s : Shared} {h' : Heap} {t' : Nat} {b : Addr} (f : FpOk X pins H b) (J : Inv X pins σ H s) (k : ∀ c o, c ≠ b → s.heap.get? c = some o → h'.get? c = some o) : Inv X pins σ H { s with heap := h', toks := t' } :=
  J.turned k f.1 f.2.1 f.2.2.2.1 f.2.2.2.2.1 f.2.2.2.2.2
theorem FpOk.at {H H' : Hp} {b : Addr} (f : FpOk X pins H b) (h : H' b = none) : FpOk X pins H' b := ⟨h, f.2⟩
def KTurn (X : Cx) (σ : St) (H2 : Hp) (q : Addr) (ls : List (List Nat)) (kf : Nat → Int) : Prop := ∀ (i : Nat) (hi : i < ls.length) (u : Tok) (pins : List (Addr × Obj)) (H1 : Hp) (s1 : Shared), Same H2 H1 → Inv X pins σ H1 s1 →
      wpAny (model X.prog X.w) X.A.in1 (call (.ref q) [.str (S ls[i]) u]) (fun v s' => ∃ (H' : Hp) (u' : Tok), v = .int (kf i) u' ∧ Inv X pins σ H' s' ∧ Same H1 H') (fun _ _ => False) s1
theorem max_turn {H2 H1 : Hp} {t I S0 q : Addr} {ls : List (List Nat)} {kf : Nat → Int} {s1 : Shared} {j : Nat} {oS : Obj} {Q : Value → Shared → Prop} {E : Value → Shared → Prop} (turn : KTurn X σ H2 q ls kf) (sm : Same H2 H1) (J : Inv X pins σ H1 s1) (fI : FpOk X pins H1 I) (fS : FpOk X pins H1 S0)
    (gI : s1.heap.IsTupleIter I t j) (gS : s1.heap.get? S0 = some oS) (hS : ∀ v, oS.data ≠ .cell v) (hj : j - 1 < ls.length) {u : Tok}
    (q' : ∀ (H' : Hp) (s' : Shared) (u' : Tok), Same H2 H' → Inv X pins σ H' s' → FpOk X pins H' I → FpOk X pins H' S0 → s'.heap.IsTupleIter I t j → s'.heap.get? S0 = some oS → Q (.int (kf (j - 1)) u') s') :
    wpAny (model X.prog X.w) X.A.in1 (call (.ref q) [.str (S ls[j - 1]) u]) Q E s1 := by
  obtain ⟨oI, g1, g2, g3⟩ := id gI
  have J2 := J.pinned (fp := [I, S0]) (fun b hb => by rcases List.mem_cons.mp hb with z | z; rw [z]; exact fI; rw [List.mem_singleton.mp z]; exact fS) (fun b hb => by
    rcases List.mem_cons.mp hb with z | z
    · rw [z]; exact ⟨oI, g1, fun v => by rw [g3]; exact nofun⟩
    · rw [List.mem_singleton.mp z]; exact ⟨oS, gS, hS⟩)
  have mI : (I, oI) ∈ X.pn ++ (pins ++ pinsAt [I, S0] s1.heap) := List.mem_append_right _ (List.mem_append_right _ (mem_pinsAt (by simp) g1))
  have mS : (S0, oS) ∈ X.pn ++ (pins ++ pinsAt [I, S0] s1.heap) := List.mem_append_right _ (List.mem_append_right _ (mem_pinsAt (by simp) gS))
  refine wpAny_mono (turn (j - 1) hj u _ H1 s1 sm J2) (fun v s' h => ?_) fun _ _ h => h.elim
  obtain ⟨H', u', rfl, J3, sm'⟩ := h
  obtain ⟨a1, a2, _⟩ := J3.pin _ mI
  obtain ⟨b1, b2, _⟩ := J3.pin _ mS
  exact q' H' s' u' (sm.trans sm') J3.unpinned (fI.at a2) (fS.at b2) ⟨oI, a1, g2, g3⟩ b1
theorem str_at {ls : List (List Nat)} {its : List Value} (r : Vals (Ts ls) its) {i : Nat} (hi : i < ls.length) {v : Value} (h : its.toArray[i]? = some v) : ∃ u, v = .str (S ls[i]) u := by
  obtain ⟨u, hu, ru⟩ := r.get (i := i) (x := .str (S ls[i])) (by simp [hi])
  have h : its[i]? = some v := by simpa using h
  rw [h] at hu; cases hu
  exact ru
theorem max_loop {H2 : Hp} {t I S0 q : Addr} {ls : List (List Nat)} {kf : Nat → Int} {R : Result → Shared → Prop} (hh : X.A.handled = none) (ht : H2 t = some (.tup (Ts ls))) (hSI : S0 ≠ I) (turn : KTurn X σ H2 q ls kf)
    (hR : ∀ (i : Nat) (hi : i < ls.length) (u : Tok) (H3 : Hp) (s3 : Shared), best kf ls.length i → Same H2 H3 → Inv X pins σ H3 s3 → R (.ok (.ret (.str (S ls[i]) u))) s3) :
    ∀ (r j i : Nat) (hi : i < ls.length) (H1 : Hp) (s1 : Shared) (ub tb : Tok) (c : Nat), ls.length - (j + 1) = r → j + 1 ≤ ls.length → Same H2 H1 → Inv X pins σ H1 s1 → FpOk X pins H1 I → FpOk X pins H1 S0 →
      s1.heap.get? S0 = some (seqObj "list" #[.str (S ls[i]) ub, .int (kf i) tb] c) → s1.heap.IsTupleIter I t (j + 1) → i ≤ j → best kf (j + 1) i →
      codeAny (model X.prog X.w) X.A (.builtin "max.loop" ⟨[.ref I, .ref q, .ref S0], []⟩) R s1 := by
  have hname : (toString "max" ++ toString ".loop" : String) = "max.loop" := by decide
  intro r
  induction r with
  | zero =>
    intro j i hi H1 s1 ub tb c hr hj sm J fI fS gS gI hij hb
    have hin : j + 1 = ls.length := by omega
    have htI : t ≠ I := ne_of_none (sm _ _ ht) fI.1
    obtain ⟨its, rv, pl, _⟩ := J.tuple (SqT.of (K := X.K) (sm _ _ ht))
    have hlen : its.length = ls.length := by have := rv.length; simpa using this.symm
    have W := Walks.tuple (prog := X.prog) (w := X.w) (A := X.A.in1) hh I t htI its.toArray
    have hsz : its.toArray.size = ls.length := by simp [hlen]
    refine codeAny_builtin PySem.F.entry_max_loop ?_
    rw [Around.under_plainId PySem.F.plain_max_loop _]
    show wpAny _ X.A.in1 (seqItems? (.ref S0) >>= _) _ _ _
    refine wpAny_bind (wpAny_seqItems gS rfl ?_)
    show wpAny _ X.A.in1 (tryCatch (pyNext (.ref I)) _ >>= _) _ _ _
    refine wpAny_bind (wpAny_tryCatch (W.done _ _ _ ⟨by rw [hsz, ← hin]; exact gI, pl⟩ fun h' tk' hk' => ?_))
    have J1 : Inv X pins σ H1 { s1 with heap := h', toks := tk' } := fI.turn J fun b o hb e => hk' b o (by simpa using hb) e
    have gS' := hk' S0 _ (by simpa using hSI) gS
    show wpAny _ X.A.in1 (updateSeq S0 (fun _ => #[]) >>= _) _ _ _
    refine wpAny_bind ?_
    refine wpAny_updateSeq gS' rfl (wpAny_bind (wpAny_letGo (wpAny_pure ?_)))
    have sb := Heap.SameBut.update h' S0 (Obj.mapSeq fun _ => (#[] : Array Value))
    exact hR i hi ub H1 _ (by rw [← hin]; exact hb) sm (fS.turn (t' := tk') J1 fun b o hb e => (sb.2 b hb).trans e)
  | succ r ih =>
    intro j i hi H1 s1 ub tb c hr hj sm J fI fS gS gI hij hb
    have hlt : j + 1 < ls.length := by omega
    have htI : t ≠ I := ne_of_none (sm _ _ ht) fI.1
    obtain ⟨its, rv, pl, _⟩ := J.tuple (SqT.of (K := X.K) (sm _ _ ht))
    have hlen : its.length = ls.length := by have := rv.length; simpa using this.symm
    have W := Walks.tuple (prog := X.prog) (w := X.w) (A := X.A.in1) hh I t htI its.toArray
    have hsz : its.toArray.size = ls.length := by simp [hlen]
    refine codeAny_builtin PySem.F.entry_max_loop ?_
    rw [Around.under_plainId PySem.F.plain_max_loop _]
    show wpAny _ X.A.in1 (seqItems? (.ref S0) >>= _) _ _ _
    refine wpAny_bind (wpAny_seqItems gS rfl ?_)
    show wpAny _ X.A.in1 (tryCatch (pyNext (.ref I)) _ >>= _) _ _ _
    refine wpAny_bind (wpAny_tryCatch (W.item (j + 1) _ _ _ (by rw [hsz]; exact hlt) ⟨gI, pl⟩ fun v h' tk' hP hst' hk' => ?_))
    obtain ⟨u, rfl⟩ := str_at rv hlt hP
    have J1 : Inv X pins σ H1 { s1 with heap := h', toks := tk' } := fI.turn J fun b o hb e => hk' b o (by simpa using hb) e
    have gS' := hk' S0 _ (by simpa using hSI) gS
    show wpAny _ X.A.in1 (tryCatch (holding [Value.str (S ls[j + 1]) u] (call (.ref q) [.str (S ls[j + 1]) u])) _ >>= _) _ _ _
    refine wpAny_bind (wpAny_tryCatch (wpAny_holding (max_turn (j := j + 2) turn sm J1 fI fS hst'.1 gS' (fun v => nofun) hlt fun H' s' t2 sm' J2 fI2 fS2 gI2 gS2 => ?_)))
    show wpAny _ X.A.in1 (tryCatch (holding [Value.str (S ls[j + 1]) u, .int (kf (j + 1)) t2] (richCompare .Gt (.int (kf (j + 1)) t2) (.int (kf i) tb) >>= _)) _ >>= _) _ _ _
    refine wpAny_bind (wpAny_tryCatch (wpAny_holding (wpAny_bind (CmpOf.ints_gt (prog := X.prog) (w := X.w) (A := X.A.in1) (P := fun i v => ∃ t, v = .int (kf i) t) kf (fun i v h => h) (j + 1) i _ _ _ _ _ ⟨t2, rfl⟩ ⟨tb, rfl⟩ ?_))))
    refine wpAny_bind (wpAny_holding (wpAny_truthy_bool ?_))
    refine wpAny_bind (wpAny_letGo (wpAny_pure ?_))
    by_cases hb' : kf (j + 1) > kf i
    · simp only [hb', decide_true, if_true]
      refine wpAny_bind ?_
      refine wpAny_updateSeq gS2 rfl (wpAny_bind (wpAny_letGo ?_))
      rw [hname]
      have sb := Heap.SameBut.update s'.heap S0 (Obj.mapSeq fun _ => #[Value.str (S ls[j + 1]) u, .int (kf (j + 1)) t2])
      obtain ⟨c2, hc2⟩ : ∃ c2, (s'.heap.update S0 (Obj.mapSeq fun _ => #[Value.str (S ls[j + 1]) u, .int (kf (j + 1)) t2])).get? S0 = some (seqObj "list" #[Value.str (S ls[j + 1]) u, .int (kf (j + 1)) t2] c2) := ⟨_, get?_update_seq gS2 fun _ => #[Value.str (S ls[j + 1]) u, .int (kf (j + 1)) t2]⟩
      have J3 : Inv X pins σ H' { s' with heap := s'.heap.update S0 (Obj.mapSeq fun _ => #[Value.str (S ls[j + 1]) u, .int (kf (j + 1)) t2]), toks := s'.toks } := fS2.turn J2 fun b o hb e => (sb.2 b hb).trans e
      obtain ⟨oI, g1, g2, g3⟩ := gI2
      refine wpAny_pure ⟨plainId_quiet PySem.F.plain_max_loop _, ih (j + 1) (j + 1) hlt H' _ u t2 c2 (by omega) hlt sm' J3 fI2 fS2 hc2 ⟨oI, (sb.2 I hSI.symm).trans g1, g2, g3⟩ (Nat.le_refl _) fun j' hj' => ?_⟩
      by_cases e : j' = j + 1
      · subst e; exact ⟨by omega, fun _ => by omega⟩
      · have hb1 := hb j' (by omega)
        exact ⟨by omega, fun _ => by omega⟩
    · simp only [hb', decide_false, Bool.false_eq_true, if_false]
      refine wpAny_bind (wpAny_letGo ?_)
      rw [hname]
      refine wpAny_pure ⟨plainId_quiet PySem.F.plain_max_loop _, ih (j + 1) i hi H' s' ub tb c (by omega) hlt sm' J2 fI2 fS2 gS2 gI2 (by omega) fun j' hj' => ?_⟩
      by_cases e : j' = j + 1
      · subst e; exact ⟨by omega, fun _ => by omega⟩
      · exact hb j' (by omega)
theorem max_key {H2 : Hp} {t q : Addr} {ls : List (List Nat)} {kf : Nat → Int} {s : Shared} {Q : Value → Shared → Prop} {E : Value → Shared → Prop} (hh : X.A.handled = none) (J : Inv X pins σ H2 s) (ht : H2 t = some (.tup (Ts ls))) (h0 : 0 < ls.length) (turn : KTurn X σ H2 q ls kf)
    (hQ : ∀ (i : Nat) (hi : i < ls.length) (u : Tok) (H3 : Hp) (s3 : Shared), best kf ls.length i → Same H2 H3 → Inv X pins σ H3 s3 → Q (.str (S ls[i]) u) s3) :
    wpAny (model X.prog X.w) X.A (call (.builtin "max") [.ref t] [(Str.ofString "key", .ref q)]) Q E s := by
  have hname : (toString "max" ++ toString ".loop" : String) = "max.loop" := by decide
  obtain ⟨its, rv, pl, _⟩ := J.tuple (SqT.of (K := X.K) ht)
  have hlen : its.length = ls.length := by have := rv.length; simpa using this.symm
  have hsz : its.toArray.size = ls.length := by simp [hlen]
  refine kmk_tree PySem.F.kind_max PySem.F.plain_max PySem.F.entry_max (max_key_args _ _) ?_
  show wpAny _ X.A.in1 (Builtin.Builtins.bindParams "max" ["key", "default"] 0 ⟨[], [(Str.ofString "key", .ref q)]⟩ >>= _) _ _ s
  refine wpAny_bind (wpAny_of_eq (show Builtin.Builtins.bindParams "max" ["key", "default"] 0 ⟨[], [(Str.ofString "key", .ref q)]⟩ = pure [some (.ref q), none] from rfl) ?_)
  refine wpAny_bind (wpAny_pure ?_)
  refine wpAny_bind (wpAny_pyIter_tuple (show s.heap.IsTuple t its.toArray from pl) ?_)
  refine wpAny_bind (wpAny_newList ?_ (Nat.zero_le _))
  rw [hname]
  generalize hh1 : s.heap.push { cls := .type "tuple_iterator", data := .fields #[.ref t, .int 0 0] } = h1
  have z1 : h1.objs.size = s.heap.objs.size + 1 := by rw [← hh1]; exact Heap.size_push ..
  have k1 : ∀ b o, s.heap.get? b = some o → h1.get? b = some o := fun b o e => by rw [← hh1]; exact Heap.get?_push_of_some _ e
  have gI1 : h1.get? s.heap.objs.size = some { cls := .type "tuple_iterator", data := .fields #[.ref t, .int 0 0] } := by rw [← hh1]; exact Heap.get?_push_size _ rfl
  have k2 : ∀ b o, h1.get? b = some o → (h1.push (seqObj "list" #[] 0)).get? b = some o := fun b o e => Heap.get?_push_of_some _ e
  have gS : (h1.push (seqObj "list" #[] 0)).get? h1.objs.size = some (seqObj "list" #[] 0) := Heap.get?_push_size _ rfl
  have hSI : h1.objs.size ≠ s.heap.objs.size := by rw [z1]; exact Nat.ne_of_gt (Nat.lt_succ_self _)
  have J1 : Inv X pins σ H2 { s with heap := h1.push (seqObj "list" #[] 0), toks := s.toks } := J.kept fun b o e => k2 b o (k1 b o e)
  have fI : FpOk X pins H2 s.heap.objs.size := J.fpOk (Nat.le_refl _) (J.hok.fresh (Nat.le_refl _))
  have fS : FpOk X pins H2 h1.objs.size := J.fpOk (by rw [z1]; exact Nat.le_succ _) (J.hok.fresh (by rw [z1]; exact Nat.le_succ _))
  have htI : t ≠ s.heap.objs.size := ne_of_none ht fI.1
  refine wpAny_pure ⟨plainId_quiet PySem.F.plain_max_loop _, ?_⟩
  have W := Walks.tuple (prog := X.prog) (w := X.w) (A := X.A.in1) hh s.heap.objs.size t htI its.toArray
  obtain ⟨its2, rv2, pl2, _⟩ := J1.tuple (SqT.of (K := X.K) ht)
  refine codeAny_builtin PySem.F.entry_max_loop ?_
  rw [Around.under_plainId PySem.F.plain_max_loop _]
  show wpAny _ X.A.in1 (seqItems? (.ref _) >>= _) _ _ _
  refine wpAny_bind (wpAny_seqItems gS rfl ?_)
  show wpAny _ X.A.in1 (tryCatch (pyNext (.ref s.heap.objs.size)) _ >>= _) _ _ _
  have pl3 : (h1.push (seqObj "list" #[] 0)).IsTuple t its.toArray := (show s.heap.IsTuple t its.toArray from pl).at fun o e => k2 t o (k1 t o e)
  refine wpAny_bind (wpAny_tryCatch (W.item 0 _ _ _ (by rw [hsz]; exact h0) ⟨⟨_, k2 _ _ gI1, rfl, rfl⟩, pl3⟩ fun v h' tk' hP hst' hk' => ?_))
  obtain ⟨u, rfl⟩ := str_at rv h0 hP
  have J2 : Inv X pins σ H2 { s with heap := h', toks := tk' } := fI.turn (s := { s with heap := h1.push (seqObj "list" #[] 0), toks := s.toks }) J1 fun b o hb e => hk' b o (by simpa using hb) e
  have gS' := hk' _ _ (by simpa using hSI) gS
  show wpAny _ X.A.in1 (tryCatch (holding [Value.str (S ls[0]) u] (call (.ref q) [.str (S ls[0]) u])) _ >>= _) _ _ _
  refine wpAny_bind (wpAny_tryCatch (wpAny_holding (max_turn (j := 1) turn (Same.refl _) J2 fI fS hst'.1 gS' (fun v => nofun) h0 fun H' s' t2 sm' J3 fI2 fS2 gI2 gS2 => ?_)))
  show wpAny _ X.A.in1 (updateSeq h1.objs.size (fun _ => #[Value.str (S ls[0]) u, .int (kf 0) t2]) >>= _) _ _ _
  refine wpAny_bind ?_
  refine wpAny_updateSeq gS2 rfl ?_
  rw [hname]
  have sb := Heap.SameBut.update s'.heap h1.objs.size (Obj.mapSeq fun _ => #[Value.str (S ls[0]) u, .int (kf 0) t2])
  obtain ⟨c2, hc2⟩ : ∃ c2, (s'.heap.update h1.objs.size (Obj.mapSeq fun _ => #[Value.str (S ls[0]) u, .int (kf 0) t2])).get? h1.objs.size = some (seqObj "list" #[Value.str (S ls[0]) u, .int (kf 0) t2] c2) := ⟨_, get?_update_seq gS2 fun _ => #[Value.str (S ls[0]) u, .int (kf 0) t2]⟩
  have J4 : Inv X pins σ H' { s' with heap := s'.heap.update h1.objs.size (Obj.mapSeq fun _ => #[Value.str (S ls[0]) u, .int (kf 0) t2]), toks := s'.toks } := fS2.turn J3 fun b o hb e => (sb.2 b hb).trans e
  obtain ⟨oI, g1, g2, g3⟩ := gI2
  refine wpAny_pure ⟨plainId_quiet PySem.F.plain_max_loop _, max_loop hh ht hSI turn hQ _ 0 0 h0 H' _ u t2 c2 rfl h0 sm' J4 fI2 fS2 hc2 ⟨oI, (sb.2 _ hSI.symm).trans g1, g2, g3⟩ (Nat.le_refl _) fun j' hj' => ?_⟩
  have e : j' = 0 := by omega
  subst e
  exact ⟨Int.le_refl _, fun h => absurd h (Nat.lt_irrefl _)⟩
end
section
variable {X : Cx} {k : Nat} {C g : Addr} {fd : FuncData} {ps : List Str} {sp : Sp} {m : Str} {e o : Expr} {ta to : TE} {p pos apos kpos : Pos}
def tMaxK (C : Addr) (m : Str) (g : Addr) (sp : Sp) (te to : TE) : TE := fun σ H Q => te σ H fun x H1 => tBnd C m g to σ H1 fun y H2 => ∃ (t q a : Addr) (ls : List (List Nat)) (kf : Nat → Int), [x] = [V.ref t] ∧ [y] = [V.ref q] ∧ H2 q = some (.met g a) ∧ H2 t = some (.tup (Ts ls)) ∧ 0 < ls.length ∧
  (∀ (i : Nat) (hi : i < ls.length) (H' : Hp) (Q' : VK), Same H2 H' → (∀ H'', Same H' H'' → Q' (.int (kf i)) H'') → sp [.ref a, .str (S ls[i])] H' Q' E0) ∧
  ∀ (i : Nat) (hi : i < ls.length) (H3 : Hp), best kf ls.length i → Same H2 H3 → Q (.str (S ls[i])) H3
theorem qe_maxK (he : QE X e ta) (ho : QE X o to) (c : Cls X.K C) (hm : Meth X.K C m g) (hv : MethV X.K m g) (F : FnOk X.prog X.w X.K X.mg X.base CX0 k g fd ps sp) (hr : Room k X.A.in1) (hb : Binds X.K fd ps []) (hc : X.calm = true)
    (hg : Gl X "max") (hn : X.mg "max" = none) (hbase : attributeBase o m X.env (eval o X.env) = eval o X.env)
    (hs : starEach [e] X.env = (false, eval e X.env) :: starEach [] X.env := by rfl)
    (hst : backTo pos (starEach [e] X.env) = (false, eval e X.env) :: backTo pos (starEach [] X.env) := by rfl) (hpl : (backTo pos (starEach [e] X.env)).any (·.1) = false := by rfl)
    (hall : (backToKw pos (keywordEach [⟨some (Str.ofString "key"), .Attribute o m apos, kpos⟩] X.env)).all (·.1.isSome) = true := by rfl)
    (hkw : (backToKw pos (keywordEach [⟨some (Str.ofString "key"), .Attribute o m apos, kpos⟩] X.env)).any (·.1.isNone) = false := by rfl)
    (hks : (backToKw pos (keywordEach [⟨some (Str.ofString "key"), .Attribute o m apos, kpos⟩] X.env)).filterMap (·.1) = [Str.ofString "key"] := by rfl) :
    QE X (.Call (.Name "max" p) [e] [⟨some (Str.ofString "key"), .Attribute o m apos, kpos⟩] pos) (tMaxK C m g sp ta to) := ⟨by
  intro pins s σ H Q I h
  refine wpAny_Call_Name_kw (ld_blt I hg hn PyProof.Rows.boot_max ?_ (by decide) (by decide))
  have pa := (qa_cons he qa_nil hs).out
  have pk := pk_cons (nm := some (Str.ofString "key")) (kpos := kpos) (pe_bnd (pos := apos) ho.out c hm hv hbase) pk_nil
  refine PyProof.Rows.callWith_kw (thn (pa pos pins s σ H (fun vs H1 => tBnd C m g to σ H1 fun y H2 => ∃ (t q a : Addr) (ls : List (List Nat)) (kf : Nat → Int), vs = [V.ref t] ∧ [y] = [V.ref q] ∧ H2 q = some (.met g a) ∧ H2 t = some (.tup (Ts ls)) ∧ 0 < ls.length ∧
    (∀ (i : Nat) (hi : i < ls.length) (H' : Hp) (Q' : VK), Same H2 H' → (∀ H'', Same H' H'' → Q' (.int (kf i)) H'') → sp [.ref a, .str (S ls[i])] H' Q' E0) ∧
    ∀ (i : Nat) (hi : i < ls.length) (H3 : Hp), best kf ls.length i → Same H2 H3 → Q (.str (S ls[i])) H3) I ?_) fun us s1 ⟨vs, H1, I1, r1, q1⟩ => ?_) hst hpl hall hkw
  · exact h
  · refine thn (pk pos pins s1 σ H1 (fun zs H2 => ∃ (t q a : Addr) (ls : List (List Nat)) (kf : Nat → Int), vs = [V.ref t] ∧ zs = [V.ref q] ∧ H2 q = some (.met g a) ∧ H2 t = some (.tup (Ts ls)) ∧ 0 < ls.length ∧
      (∀ (i : Nat) (hi : i < ls.length) (H' : Hp) (Q' : VK), Same H2 H' → (∀ H'', Same H' H'' → Q' (.int (kf i)) H'') → sp [.ref a, .str (S ls[i])] H' Q' E0) ∧
      ∀ (i : Nat) (hi : i < ls.length) (H3 : Hp), best kf ls.length i → Same H2 H3 → Q (.str (S ls[i])) H3) I1 ?_) fun ws s2 ⟨zs, H2, I2, rz, q2⟩ => ?_
    · exact q1
    · obtain ⟨t, q, a, ls, kf, rfl, rfl, hq, ht, h0, hsp, fin⟩ := q2
      obtain ⟨u, rfl, ru⟩ := vals1 r1
      cases ru
      obtain ⟨u2, rfl, ru2⟩ := vals1 rz
      cases ru2
      rw [hks]
      refine max_key (I2.ok.hd hc) I2 ht h0 (fun i hi u pins' H3 s3 sm J => ?_) fun i hi u H3 s3 hb' sm J => ⟨.str (S ls[i]), H3, J, ⟨u, rfl⟩, fin i hi H3 hb' sm⟩
      refine wpAny_mono (run_met (x := .str (S ls[i])) (Q := fun v H' => v = .int (kf i) ∧ Same H3 H') F hr rfl hb J (sm _ _ hq) ⟨u, rfl⟩ (hsp i hi H3 _ sm fun H'' s'' => ⟨rfl, s''⟩)) (fun v s' x => ?_) fun _ _ z => z
      obtain ⟨y, H', J', ry, rfl, sm'⟩ := x
      obtain ⟨u', rfl⟩ := ry
      exact ⟨H', u', rfl, J', sm'⟩⟩
end
end L2
end

section
set_option Elab.async false
set_option linter.all false
set_option maxRecDepth 100000
set_option maxHeartbeats 4000000
namespace My
open PySem L2
def top (i : Nat) : Stmt := PySem.Challenge.pw_letterrack_k52_the_best_leave.main.body.getD i (.Pass ⟨0, 0, 0, 0⟩)
abbrev s_Leaves_init : Stmt := inClass (top 1) 0
theorem sc_Leaves_init : FnScope ["self", "singles", "doubles"] ["self", "singles", "doubles"] (defScope s_Leaves_init) := ⟨rfl, rfl, rfl, by decide +kernel, rfl, by decide +kernel, by decide +kernel⟩
abbrev s_Leaves_counts : Stmt := inClass (top 1) 1
theorem sc_Leaves_counts : FnScope ["self", "left", "singles", "doubles"] ["self", "left"] (defScope s_Leaves_counts) := ⟨rfl, rfl, rfl, by decide +kernel, rfl, by decide +kernel, by decide +kernel⟩
abbrev s_Leaves_of : Stmt := inClass (top 1) 2
theorem sc_Leaves_of : FnScope ["self", "rack", "many", "texts", "tile"] ["self", "rack", "many"] (defScope s_Leaves_of) := ⟨rfl, rfl, rfl, by decide +kernel, rfl, by decide +kernel, by decide +kernel⟩
abbrev s_Leaves_best_of : Stmt := inClass (top 1) 3
theorem sc_Leaves_best_of : FnScope ["self", "rack", "many"] ["self", "rack", "many"] (defScope s_Leaves_best_of) := ⟨rfl, rfl, rfl, by decide +kernel, rfl, by decide +kernel, by decide +kernel⟩
abbrev s_cell_at : Stmt := top 3
theorem sc_cell_at : FnScope ["_law_script", "_law_k"] ["_law_script", "_law_k"] (defScope s_cell_at) := ⟨rfl, rfl, rfl, by decide +kernel, rfl, by decide +kernel, by decide +kernel⟩
abbrev s_draw : Stmt := top 4
theorem sc_draw : FnScope ["_law_cell", "_law_j", "_law_number"] ["_law_cell", "_law_j"] (defScope s_draw) := ⟨rfl, rfl, rfl, by decide +kernel, rfl, by decide +kernel, by decide +kernel⟩
abbrev s_letters : Stmt := top 5
theorem sc_letters : FnScope ["_law_cell", "_law_every", "_law_step"] ["_law_cell"] (defScope s_letters) := ⟨rfl, rfl, rfl, by decide +kernel, rfl, by decide +kernel, by decide +kernel⟩
abbrev s_told : Stmt := top 7
theorem sc_told : FnScope ["_law_cell", "_law_letters_here", "_law_by", "_law_found", "_law_tile", "_law_number"] ["_law_cell", "_law_letters_here", "_law_by"] (defScope s_told) := ⟨rfl, rfl, rfl, by decide +kernel, rfl, by decide +kernel, by decide +kernel⟩
abbrev s_leave_counts : Stmt := top 8
theorem sc_leave_counts : FnScope ["_law_singles", "_law_doubles", "_law_left", "_law_found", "_law_k"] ["_law_singles", "_law_doubles", "_law_left"] (defScope s_leave_counts) := ⟨rfl, rfl, rfl, by decide +kernel, rfl, by decide +kernel, by decide +kernel⟩
abbrev s_tiles : Stmt := top 9
theorem sc_tiles : FnScope ["_law_cell", "_law_letters_here", "_law_most", "_law_many", "_law_found", "_law_k", "_law_number", "_law_tile"] ["_law_cell", "_law_letters_here", "_law_most"] (defScope s_tiles) := ⟨rfl, rfl, rfl, by decide +kernel, rfl, by decide +kernel, by decide +kernel⟩
abbrev s_picks : Stmt := top 10
theorem sc_picks : FnScope ["_law_rack", "_law_many", "_law_found", "_law_tile", "_law_more", "_law_left"] ["_law_rack", "_law_many"] (defScope s_picks) := ⟨rfl, rfl, rfl, by decide +kernel, rfl, by decide +kernel, by decide +kernel⟩
abbrev s_law : Stmt := top 11
theorem sc_law : FnScope ["_law_script", "_law_letters_here", "_law_singles", "_law_doubles", "_law_leaves", "_law_cell", "_law_rack", "_law_many", "_law_some", "_law_found", "_law_most", "_law_left", "_law_other"] ["_law_script"] (defScope s_law) := ⟨rfl, rfl, rfl, by decide +kernel, rfl, by decide +kernel, by decide +kernel⟩
-- DEFS Leaves_init|Leaves.__init__|self,singles,doubles Leaves_counts|Leaves.counts|self,left Leaves_of|Leaves.of|self,rack,many Leaves_best_of|Leaves.best_of|self,rack,many cell_at|_law_cell_at|_law_script,_law_k draw|_law_draw|_law_cell,_law_j letters|_law_letters|_law_cell sign|_law_sign|_law_cell,_law_letters_here told|_law_told|_law_cell,_law_letters_here,_law_by leave_counts|_law_leave_counts|_law_singles,_law_doubles,_law_left tiles|_law_tiles|_law_cell,_law_letters_here,_law_most picks|_law_picks|_law_rack,_law_many law|law|_law_script

section
variable {P : Program} {w : World} {K : PySem.W.Frag} {mg : Str → Option Value} {base : Heap}
def spCell (K : PySem.W.Frag) : Sp := fun vs H Q _ => ∃ (a : Addr) (ns : List Int) (k : Nat), vs = [.ref a, .int k] ∧ SqL K H a (ns.map V.int) ∧ ∀ v : Int, Q (.int v) H
def isLet (c : Nat) : Prop := 97 ≤ c ∧ c ≤ 122
structure Alph (ls : List Nat) : Prop where
  lo : 2 ≤ ls.length
  hi : ls.length ≤ 26
  az : ∀ c ∈ ls, isLet c
theorem ok_cell_at (D : DefAt K mg "_law_cell_at" s_cell_at ["_law_script", "_law_k"]) (hlen : mg "len" = none) : Def P w K mg base "_law_cell_at" 1 ["_law_script", "_law_k"] (spCell K) := by
  refine D.qok sc_cell_at (fun vs H Q E h => ?_) (fun f cdv A outer s H vs Q E hr h => ?_)
  · obtain ⟨a, ns, k, rfl, _⟩ := h
    rfl
  · obtain ⟨a, ns, k, rfl, hS, q⟩ := h
    refine ⟨_, qss_cons (qs_if (qt_cmpR op_lt (qv 1) (qe_callB call_len_seq (by rfl) hlen PySem.boot_len (qa_cons (qv 0) qa_nil)) (nomark _)) (qss_one (qs_ret (qe_ix ix_list (qv 0) (qv 1) (fun _ _ => rfl)))) qss_nil) (qss_one (qs_ret qe_int)), ?_⟩
    refine ⟨_, rfl, _, rfl, a, _, rfl, .inl hS, _, _, rfl, rfl, _, rfl, ?_⟩
    refine ite2 (fun hc => ?_) (fun _ => ?_)
    · have hk : k < ns.length := by
        have := of_decide_eq_true hc
        rw [List.length_map] at this
        omega
      exact ⟨_, rfl, _, rfl, a, _, _, .int ns[k], rfl, rfl, hS, atI_nat (by simp [hk]), q _⟩
    · exact q _
theorem flat1 (l : List Nat) : (l.map fun c => [c]).flatten = l := by
  induction l with
  | nil => rfl
  | cons c r ih => rw [List.map_cons, List.flatten_cons, ih]; rfl
theorem AL_az : ∀ c ∈ AL, isLet c := fun c hc => by
  obtain ⟨k, hk, rfl⟩ := List.mem_map.mp hc
  have := List.mem_range.mp hk
  exact ⟨by omega, by omega⟩
abbrev ones (cs : List Nat) : List (List Nat) := cs.map fun c => [c]
theorem Ts_snoc (ls : List (List Nat)) (l : List Nat) : Ts ls ++ [V.str (S l)] = Ts (ls ++ [l]) := by simp [Ts]
theorem ones_snoc (cs : List Nat) (c : Nat) : ones cs ++ [[c]] = ones (cs ++ [c]) := by simp [ones]

def spDraw : Sp := fun vs H Q _ => ∃ (c : Int) (j : Nat), vs = [.int c, .int j] ∧ j ≤ 1000 ∧ ∀ v : Int, Q (.int v) H
theorem ok_draw (D : DefAt K mg "_law_draw" s_draw ["_law_cell", "_law_j"]) : Def P w K mg base "_law_draw" 1 ["_law_cell", "_law_j"] spDraw := by
  refine D.qok sc_draw (fun vs H Q E h => ?_) (fun f cdv A outer s H vs Q E hr h => ?_)
  · obtain ⟨c, j, rfl, _⟩ := h
    rfl
  · obtain ⟨c, j, rfl, hj, q⟩ := h
    refine ⟨_, (qss_cons (qs_set (i := 2) sc_draw.nd rfl (Or.inl rfl) (qe_op op_mod (qe_op op_add (qe_op op_add (qe_op op_add (qe_op op_mul (qe_op op_mod (qv 0) qe_int) qe_int) (qe_op op_mul (qe_op op_mul qe_int (qv 1)) (qv 1))) (qe_op op_mul qe_int (qv 1))) qe_int) qe_int)) (qss_cons (qs_set (i := 2) sc_draw.nd rfl (Or.inl rfl) (qe_op op_mod (qe_op op_add (qe_op op_mul (qv 2) qe_int) (qe_op op_mul qe_int (qv 1))) qe_int)) (qss_one (qs_ret (qe_op op_add (qv 2) (qe_op op_mul qe_int (qe_op op_mod (qe_op op_fdivB (qv 0) (qe_op op_add (qv 1) qe_int)) (qe_op op_pow qe_int qe_int)))))))), ?_⟩
    refine ⟨_, rfl, _, _, rfl, rfl, (by show (0 : Int) < 2147483647; decide), _, _, rfl, rfl, .inr ⟨by decide, by decide⟩, _, rfl, _, _, rfl, rfl, .inl ⟨by decide, by decide⟩, _, rfl, _, _, rfl, rfl, .inr ⟨by omega, by omega⟩, _, _, rfl, rfl, _, rfl, _, _, rfl, rfl, .inl ⟨by decide, by decide⟩, _, _, rfl, rfl, _, _, rfl, rfl, _, _, rfl, rfl, (by show (0 : Int) < 2147483629; decide), ?_⟩
    refine ⟨_, rfl, _, _, rfl, rfl, .inr ⟨by decide, by decide⟩, _, rfl, _, _, rfl, rfl, .inl ⟨by decide, by decide⟩, _, _, rfl, rfl, _, _, rfl, rfl, (by show (0 : Int) < 2147483587; decide), ?_⟩
    exact ⟨_, rfl, _, rfl, _, rfl, _, _, rfl, rfl, _, _, rfl, rfl, ⟨by show (0 : Int) < (j : Int) + 2; omega, Nat.lt_of_le_of_lt (Nat.log2_le_self _) (by show ((j : Int) + 2).natAbs < 9000; omega)⟩, _, _, rfl, rfl, ⟨by decide, by decide, by decide⟩, _, _, rfl, rfl, (by show (0 : Int) < 10 ^ (61 : Int).toNat; decide +kernel), _, _, rfl, rfl, .inl ⟨by decide, by decide⟩, _, _, rfl, rfl, q _⟩
def spLetC : Sp := fun vs H Q _ => ∃ c : Int, vs = [.int c] ∧ ∀ (ls : List Nat) (H' : Hp), Same H H' → Alph ls → Q (.str (S ls)) H'
theorem six_at (x : Int) : ∃ n : Nat, atI [V.int 1, V.int 3, V.int 5, V.int 7, V.int 9, V.int 11] (x % 6) = some (.int (n : Int)) ∧ n ≤ 11 := by
  obtain ⟨v, hv, hm⟩ := at_modA (xs := [V.int 1, V.int 3, V.int 5, V.int 7, V.int 9, V.int 11]) (n := 6) rfl (by decide) x
  simp only [List.mem_cons, List.not_mem_nil, or_false] at hm
  rcases hm with e | e | e | e | e | e
  · exact ⟨1, e ▸ hv, by decide⟩
  · exact ⟨3, e ▸ hv, by decide⟩
  · exact ⟨5, e ▸ hv, by decide⟩
  · exact ⟨7, e ▸ hv, by decide⟩
  · exact ⟨9, e ▸ hv, by decide⟩
  · exact ⟨11, e ▸ hv, by decide⟩
theorem ok_letters (D : DefAt K mg "_law_letters" s_letters ["_law_cell"]) (n_range : mg "range" = none) : Def P w K mg base "_law_letters" 1 ["_law_cell"] spLetC := by
  refine D.qok sc_letters (fun vs H Q E h => ?_) (fun f cdv A outer s H vs Q E hr h => ?_)
  · obtain ⟨c, rfl, _⟩ := h
    rfl
  · obtain ⟨c, rfl, q⟩ := h
    refine ⟨_, (qss_cons (qs_set (i := 1) sc_letters.nd rfl (Or.inr rfl) (qe_strS AL (by decide +kernel))) (qss_cons (qs_if (qt_cmpR op_eq (qe_op op_mod (qv 0) qe_int) qe_int (nomark _)) (qss_one (qs_ret (qv 1))) qss_nil) (qss_cons (qs_set (i := 2) sc_letters.nd rfl (Or.inr rfl) (qe_ix ix_list (qe_lst (qa_cons qe_int (qa_cons qe_int (qa_cons qe_int (qa_cons qe_int (qa_cons qe_int (qa_cons qe_int qa_nil))))))) (qe_op op_mod (qe_op op_fdiv (qv 0) qe_int) qe_int) (fun _ _ => rfl))) (qss_one (qs_ret (qe_bm PySem.F.plainAttrs_str PySem.F.slot_str_join PySem.F.type_str_join mt_join (qe_strS [] (by decide +kernel)) (qa_cons (qe_comp rfl (CompOk.of sc_letters.nd (by kernel_rfl)) (qi_range1 (by rfl) n_range (qa_cons (qe_op op_add qe_int (qe_op op_mod (qe_op op_fdiv (qv 0) qe_int) qe_int)) qa_nil)) (fun _ _ _ _ _ => qts_nil) (fun _ _ _ _ _ => (qe_ix ix_S (qv 2) (qe_op op_mod (qe_op op_add (qe_op op_fdiv (qv 1) qe_int) (qe_op op_mul (qv 0) (qv 3))) qe_int) (fun _ _ => rfl)))) qa_nil))))))), ?_⟩
    refine ⟨_, rfl, _, _, rfl, rfl, (by show (0 : Int) < 8; decide), rfl, _, rfl, ite2 (fun _ => ⟨_, rfl, q AL H (Same.refl _) ⟨by decide, by decide, AL_az⟩⟩) (fun _ => ?_)⟩
    refine ⟨by show 6 ≤ sizeLine; decide, fun t ht => ?_⟩
    obtain ⟨n, hn, hn11⟩ := six_at (c / 8)
    refine ⟨_, rfl, _, _, rfl, rfl, ⟨by decide, by decide⟩, _, _, rfl, rfl, (by show (0 : Int) < 6; decide), t, _, _, _, rfl, rfl, SqL.of upd_same, hn, ?_⟩
    have s1 : Same H (upd H t (HO.lst [V.int 1, V.int 3, V.int 5, V.int 7, V.int 9, V.int 11])) := Same.upd ht
    generalize upd H t (HO.lst [V.int 1, V.int 3, V.int 5, V.int 7, V.int 9, V.int 11]) = H1 at s1 ⊢
    obtain ⟨m, em, hm⟩ : ∃ m : Nat, 2 + c / 7 % 3 = (m : Int) ∧ 2 ≤ m ∧ m ≤ 4 := ⟨(2 + c / 7 % 3).toNat, by omega, by omega, by omega⟩
    refine ⟨rfl, _, rfl, _, _, rfl, rfl, ⟨by decide, by decide⟩, _, _, rfl, rfl, (by show (0 : Int) < 3; decide), _, _, rfl, rfl, _, rfl, by omega, by omega, ?_⟩
    intro M hM
    rw [em, Int.toNat_natCast]
    refine comp_range (lo := 0) (n := m) (fun i ys H2 => ∃ cs : List Nat, ys = Ts (ones cs) ∧ cs.length = i ∧ (∀ c ∈ cs, isLet c) ∧ H2 M = some (.lst ys) ∧ Same H1 H2) ⟨[], rfl, rfl, fun c h => by simp at h, upd_same, Same.upd hM⟩ ?_ ?_
    · rintro i ys H2 hi ⟨cs, rfl, lc, okc, hM2, sm⟩
      obtain ⟨x, hx, hxm⟩ := at_modA (xs := AL) (n := 26) (by decide) (by decide) (c / 48 + (0 + (i : Int)) * (n : Int))
      refine ⟨_, rfl, _, rfl, _, _, rfl, rfl, ⟨by decide, by decide⟩, _, rfl, _, rfl, _, _, rfl, rfl, .inr ⟨by omega, by omega⟩, _, _, rfl, rfl, _, _, rfl, rfl, (by show (0 : Int) < 26; decide), AL, _, x, rfl, rfl, by decide, hx, hM2, ?_, Nxt.mk hi ⟨cs ++ [x], by rw [Ts_snoc, ones_snoc], by simp [lc], fun y hy => ?_, upd_same, sm.upd' hM⟩⟩
      · rw [List.length_map, List.length_map, lc]; exact small1000 (by omega)
      · rcases List.mem_append.mp hy with k | k
        · exact okc y k
        · rw [List.mem_singleton.mp k]; exact AL_az x hxm
    · rintro ys H2 ⟨cs, rfl, lc, okc, hM2, sm⟩
      refine ⟨M, ones cs, rfl, rfl, SqL.of hM2, by rw [flat1]; omega, ?_⟩
      rw [flat1]
      exact q cs H2 (s1.trans sm) ⟨by omega, by omega, okc⟩
def rkC (c : Nat) : Prop := isLet c ∨ c = 63
def spTilesR : Sp := fun vs H Q _ => ∃ (c : Int) (ls : List Nat) (m : Nat), vs = [.int c, .str (S ls), .int m] ∧ Alph ls ∧ m ≤ 20 ∧ ∀ l : List Nat, l.length ≤ m → (∀ c ∈ l, rkC c) → Q (.str (S l)) H
theorem ok_tilesR (D : DefAt K mg "_law_tiles" s_tiles ["_law_cell", "_law_letters_here", "_law_most"]) (n_len : mg "len" = none) (n_range : mg "range" = none) (D_draw : Def P w K mg base "_law_draw" 1 ["_law_cell", "_law_j"] spDraw) : Def P w K mg base "_law_tiles" 2 ["_law_cell", "_law_letters_here", "_law_most"] spTilesR := by
  refine D.qok sc_tiles (fun vs H Q E h => ?_) (fun f cdv A outer s H vs Q E hr h => ?_)
  · obtain ⟨c, ls, m, rfl, _⟩ := h
    rfl
  · obtain ⟨c, ls, m, rfl, hA, hm, q⟩ := h
    have hl1 := hA.lo
    have hl2 := hA.hi
    have hz : ls.length ≤ sizeLine := Nat.le_of_lt (small1000 (by omega))
    obtain ⟨n, hn, hnm⟩ : ∃ n : Nat, c % ((m : Int) + 1) = (n : Int) ∧ n ≤ m := by
      have h1 := Int.emod_nonneg c (show (m : Int) + 1 ≠ 0 by omega)
      have h2 := Int.emod_lt_of_pos c (show (0 : Int) < (m : Int) + 1 by omega)
      exact ⟨(c % ((m : Int) + 1)).toNat, by omega, by omega⟩
    refine ⟨_, (qss_cons (qs_set (i := 3) sc_tiles.nd rfl (Or.inl rfl) (qe_op op_mod (qv 0) (qe_op op_add (qv 2) qe_int))) (qss_cons (qs_set (i := 4) sc_tiles.nd rfl (Or.inl rfl) (qe_strS [] (by decide +kernel))) (qss_cons (qs_for PassesOwn.never rfl (qi_range1 (by rfl) n_range (qa_cons (qv 3) qa_nil)) (qg_name (i := 5) sc_tiles.nd rfl (Or.inl rfl)) (qss_cons (qs_set (i := 6) sc_tiles.nd rfl (Or.inl rfl) (qe_own D_draw (hr.mono (by decide)) rfl (qa_cons (qv 0) (qa_cons (qe_op op_add qe_int (qv 5)) qa_nil)))) (qss_cons (qs_set (i := 7) sc_tiles.nd rfl (Or.inl rfl) (qe_ix ix_S (qv 1) (qe_op op_mod (qe_op op_fdiv (qv 6) qe_int) (qe_callB call_lenS (by rfl) n_len PySem.boot_len (qa_cons (qv 1) qa_nil))) (fun _ _ => rfl))) (qss_cons (qs_if (QW.qt (qw_and (qt_cmpR op_eq (qe_op op_mod (qv 6) qe_int) qe_int (nomark _)) (qw_and1 (qt_cmpR op_lt (qe_bm PySem.F.plainAttrs_str PySem.F.slot_str_count PySem.F.type_str_count mt_countS (qv 4) (qa_cons (qe_strS [63] (by decide +kernel)) qa_nil)) qe_int (nomark _))))) (qss_one (qs_set (i := 7) sc_tiles.nd rfl (Or.inl rfl) (qe_strS [63] (by decide +kernel)))) qss_nil) (qss_one (qs_set (i := 4) sc_tiles.nd rfl (Or.inl rfl) (qe_op op_addS (qv 4) (qv 7)))))))) (qss_one (qs_ret (qv 4)))))), ?_⟩
    refine ⟨_, rfl, _, rfl, _, _, rfl, rfl, _, _, rfl, rfl, (by show (0 : Int) < (m : Int) + 1; omega), ?_⟩
    show gName 3 (V.int (c % ((m : Int) + 1))) _ _ _
    rw [hn]
    refine ⟨_, rfl, _, rfl, by omega, by omega, ?_⟩
    rw [Int.toNat_natCast]
    refine for_range (lo := 0) (n := n) (fun i σ H2 => H2 = H ∧ ∃ (v5 v6 v7 : Option V) (l : List Nat), σ = [some (.int c), some (.str (S ls)), some (.int m), some (.int n), some (.str (S l)), v5, v6, v7] ∧ l.length = i ∧ ∀ c ∈ l, rkC c)
      ⟨rfl, none, none, none, [], rfl, rfl, fun c h => nomatch h⟩ ?_ ?_
    · rintro i σ H2 hi ⟨rfl, v5, v6, v7, l, rfl, hl, hc⟩
      have e0 : (150 : Int) + (0 + (i : Int)) = ((150 + i : Nat) : Int) := by omega
      refine ⟨_, rfl, _, rfl, _, _, rfl, rfl, c, 150 + i, by show [V.int c, V.int (150 + (0 + (i : Int)))] = _; rw [e0], by omega, fun nu => ?_⟩
      obtain ⟨y, hy, hmem⟩ := at_modA (xs := ls) (n := ls.length) rfl (by omega) (nu / 9)
      have add : ∀ (d : Nat), rkC d → ∃ (v5 v6 v7 : Option V) (l' : List Nat), ([some (.int c), some (.str (S ls)), some (.int m), some (.int n), some (.str (S (l ++ [d]))), some (.int (0 + (i : Int))), some (.int nu), some (.str (S [d]))] : St) = [some (.int c), some (.str (S ls)), some (.int m), some (.int n), some (.str (S l')), v5, v6, v7] ∧ l'.length = i + 1 ∧ ∀ c ∈ l', rkC c := fun d hd =>
        ⟨_, _, _, l ++ [d], rfl, by simp [hl], fun e he => by
          rcases List.mem_append.mp he with z | z
          · exact hc e z
          · rw [List.mem_singleton.mp z]; exact hd⟩
      refine ⟨_, rfl, _, rfl, _, _, rfl, rfl, ⟨by decide, by decide⟩, _, rfl, ls, rfl, hz, _, _, rfl, rfl, (by show (0 : Int) < (ls.length : Int); omega), ls, _, y, rfl, rfl, hz, hy, ?_⟩
      have fin : ∀ (d : Nat), rkC d → l.length + [d].length ≤ sizeLine := fun d _ => Nat.le_of_lt (small1000 (by show l.length + 1 ≤ 1000; omega))
      refine ⟨_, rfl, _, _, rfl, rfl, (by show (0 : Int) < 9; decide), rfl, _, rfl, ?_⟩
      refine ite2 (fun _ => ?_) (fun _ => ?_)
      · refine ⟨_, rfl, rfl, l, [63], rfl, rfl, fun k => ⟨_, _, rfl, rfl, _, rfl, ?_⟩⟩
        refine ite2 (fun _ => ?_) (fun _ => ?_)
        · exact ⟨_, rfl, _, rfl, l, [63], rfl, rfl, fin 63 (.inr rfl), rfl, add 63 (.inr rfl)⟩
        · exact ⟨_, rfl, _, rfl, l, [y], rfl, rfl, fin y (.inl (hA.az y hmem)), rfl, add y (.inl (hA.az y hmem))⟩
      · exact ⟨_, rfl, _, rfl, l, [y], rfl, rfl, fin y (.inl (hA.az y hmem)), rfl, add y (.inl (hA.az y hmem))⟩
    · rintro σ H2 ⟨rfl, v5, v6, v7, l, rfl, hl, hc⟩
      exact ⟨_, rfl, q l (by omega) hc⟩

end
end My
end

section
set_option Elab.async false
set_option linter.all false
set_option maxRecDepth 100000
set_option maxHeartbeats 2000000
namespace My
open PySem L2
section
variable {P : Program} {w : World} {K : PySem.W.Frag} {mg : Str → Option Value} {base : Heap}
theorem cutN_to {l : List Nat} {b : Nat} (h : b ≤ l.length) : cutN l none (some (b : Int)) = l.take b := by
  unfold cutN
  rw [HT.sIx_nat, HT.sIx_none, Nat.min_eq_left h]
  simp
def Srt (l : List Nat) : Prop := (l.map fun c => [c]).Pairwise (fun a b => decide (b < a) = false)
theorem so_uniq {a b : List (List Nat)} (h1 : a.Pairwise (fun a b => decide (b < a) = false)) (h2 : b.Pairwise (fun a b => decide (b < a) = false)) (p : a.Perm b) : a = b :=
  p.eq_of_pairwise (le := fun x y => decide (y < x) = false) (fun x y _ _ z1 z2 => List.le_antisymm (List.not_lt.mp (of_decide_eq_false z1)) (List.not_lt.mp (of_decide_eq_false z2))) h1 h2
theorem ones_inj {a b : List Nat} (h : a.map (fun c => [c]) = b.map fun c => [c]) : a = b := by
  have := congrArg List.flatten h
  rwa [flat1, flat1] at this
theorem srt_uniq {a b : List Nat} (h1 : Srt a) (h2 : Srt b) (p : a.Perm b) : a = b := ones_inj (so_uniq h1 h2 (p.map _))
structure Pk (sr : List Nat) (m : Nat) (ws : List (List Nat)) : Prop where
  nd : ws.Nodup
  mem : ∀ w, w ∈ ws ↔ w.Sublist sr ∧ w.length = m
  so : ws.Pairwise (fun a b => decide (b < a) = false)
theorem Pk.uniq {sr : List Nat} {m : Nat} {a b : List (List Nat)} (h1 : Pk sr m a) (h2 : Pk sr m b) : a = b :=
  so_uniq h1.so h2.so ((List.perm_ext_iff_of_nodup h1.nd h2.nd).mpr fun w => (h1.mem w).trans (h2.mem w).symm)
theorem sub_snoc {w p : List Nat} {t : Nat} : w.Sublist (p ++ [t]) ↔ w.Sublist p ∨ ∃ v, v.Sublist p ∧ w = v ++ [t] := by
  rw [List.sublist_append_iff]
  constructor
  · rintro ⟨a, b, rfl, h1, h2⟩
    cases b with
    | nil => left; simpa using h1
    | cons x r =>
      have hx := h2.length_le
      simp at hx
      subst hx
      have : x = t := by have := h2.subset List.mem_cons_self; simpa using this
      subst this
      exact .inr ⟨a, h1, rfl⟩
  · rintro (h | ⟨v, h, rfl⟩)
    · exact ⟨w, [], by simp, h, List.nil_sublist _⟩
    · exact ⟨v, [t], rfl, h, List.Sublist.refl _⟩
def subs : List Nat → Nat → List (List Nat)
  | _, 0 => [[]]
  | [], _ + 1 => []
  | a :: l, k + 1 => (subs l k).map (a :: ·) ++ subs l (k + 1)
def ch : Nat → Nat → Nat
  | _, 0 => 1
  | 0, _ + 1 => 0
  | n + 1, k + 1 => ch n k + ch n (k + 1)
theorem subs_len : ∀ (l : List Nat) (k : Nat), (subs l k).length = ch l.length k
  | l, 0 => by cases l <;> rfl
  | [], k + 1 => rfl
  | a :: l, k + 1 => by
    show ((subs l k).map (a :: ·) ++ subs l (k + 1)).length = ch l.length k + ch l.length (k + 1)
    rw [List.length_append, List.length_map, subs_len l k, subs_len l (k + 1)]
theorem subs_mem : ∀ (l w : List Nat), w.Sublist l → w ∈ subs l w.length
  | l, [], _ => by cases l <;> exact List.mem_singleton.mpr rfl
  | [], c :: w, h => by cases h
  | a :: l, c :: w, h => by
    show c :: w ∈ (subs l w.length).map (a :: ·) ++ subs l (w.length + 1)
    cases h with
    | cons _ h => exact List.mem_append_right _ (subs_mem l (c :: w) h)
    | cons_cons _ h => exact List.mem_append_left _ (List.mem_map.mpr ⟨w, subs_mem l w h, rfl⟩)
theorem ch_le : ∀ n, n < 8 → ∀ k, k < 8 → ch n k ≤ 35 := by decide
theorem few {us : List (List Nat)} {sr : List Nat} {m : Nat} (hl : sr.length ≤ 7) (nd : us.Nodup) (h : ∀ w ∈ us, w.Sublist sr ∧ w.length = m) : us.length < 64 := by
  cases us with
  | nil => simp
  | cons w r =>
    obtain ⟨h1, h2⟩ := h w List.mem_cons_self
    have h3 := h1.length_le
    have h4 := nd.length_le_of_subset (l₂ := subs sr m) fun x hx => by
      obtain ⟨a, b⟩ := h x hx
      rw [← b]; exact subs_mem sr x a
    rw [subs_len] at h4
    have := ch_le sr.length (by omega) m (by omega)
    omega
def WE (kvs : List (Key × V)) : Prop := ∀ kv ∈ kvs, ∃ (c : Nat) (i : Int), kv = (keyS [c], V.int i) ∧ -1000000 ≤ i ∧ i ≤ 1000000
def wf (kvs : List (Key × V)) (c : Nat) : Int := match valV kvs (keyS [c]) with
  | some (.int i) => i
  | _ => 0
theorem val_in {kvs : List (Key × V)} {k : Key} {v : V} (h : valV kvs k = some v) : (k, v) ∈ kvs := by
  unfold valV at h
  cases e : kvs.find? (fun kv => decide (kv.1 = k)) with
  | none => rw [e] at h; cases h
  | some p =>
    rw [e] at h
    have h : p.2 = v := Option.some.inj h
    have m := List.mem_of_find?_eq_some e
    have q := List.find?_some e
    have q : p.1 = k := by simpa using q
    rw [← h, ← q]; exact m
theorem wf_get {kvs : List (Key × V)} (h : WE kvs) (c : Nat) : (valV kvs (keyS [c])).getD (.int 0) = .int (wf kvs c) := by
  unfold wf
  cases e : valV kvs (keyS [c]) with
  | none => rfl
  | some v =>
    obtain ⟨d, i, q, _⟩ := h _ (val_in e)
    have : v = V.int i := congrArg Prod.snd q
    subst this; rfl
theorem wf_bd {kvs : List (Key × V)} (h : WE kvs) (c : Nat) : -1000000 ≤ wf kvs c ∧ wf kvs c ≤ 1000000 := by
  unfold wf
  cases e : valV kvs (keyS [c]) with
  | none => exact ⟨by decide, by decide⟩
  | some v =>
    obtain ⟨d, i, q, h1, h2⟩ := h _ (val_in e)
    have : v = V.int i := congrArg Prod.snd q
    subst this; exact ⟨h1, h2⟩
theorem WE.put {kvs : List (Key × V)} (h : WE kvs) (c : Nat) {i : Int} (h1 : -1000000 ≤ i) (h2 : i ≤ 1000000) : WE (putK kvs (keyS [c]) (.int i)) := by
  unfold putK
  intro kv m
  split at m
  · obtain ⟨p, hp, rfl⟩ := List.mem_map.mp m
    split
    · rename_i e
      exact ⟨c, i, by rw [e], h1, h2⟩
    · exact h p hp
  · rcases List.mem_append.mp m with m | m
    · exact h kv m
    · rw [List.mem_singleton.mp m]; exact ⟨c, i, rfl, h1, h2⟩
def spTold : Sp := fun vs H Q _ => ∃ (c : Int) (ls : List Nat) (b : Nat), vs = [.int c, .str (S ls), .int b] ∧ Alph ls ∧ 10 ≤ b ∧ b ≤ 60 ∧ ∀ (d : Addr) (kvs : List (Key × V)) (H' : Hp), Same H H' → H' d = some (.dK kvs) → H d = none → WE kvs → kvs.length ≤ 27 → Q (.ref d) H'
theorem ok_told (D : DefAt K mg "_law_told" s_told ["_law_cell", "_law_letters_here", "_law_by"]) (n_len : mg "len" = none) (D_draw : Def P w K mg base "_law_draw" 1 ["_law_cell", "_law_j"] spDraw) : Def P w K mg base "_law_told" 2 ["_law_cell", "_law_letters_here", "_law_by"] spTold := by
  refine D.qok sc_told (fun vs H Q E h => ?_) (fun f cdv A outer s H vs Q E hr h => ?_)
  · obtain ⟨c, ls, b, rfl, _⟩ := h
    rfl
  · obtain ⟨c, ls, b, rfl, hA, hb1, hb2, q⟩ := h
    have hu := hu_of hr
    have hhi := hA.hi
    refine ⟨_, (qss_cons (qs_set (i := 3) sc_told.nd rfl (Or.inl rfl) qe_dnewK) (qss_cons (qs_for PassesOwn.never rfl (qi_str (qe_op op_addS (qv 1) (qe_strS [63] (by decide +kernel)))) (qg_name (i := 4) sc_told.nd rfl (Or.inl rfl)) (qss_cons (qs_set (i := 5) sc_told.nd rfl (Or.inl rfl) (qe_own D_draw (hr.mono (by decide)) rfl (qa_cons (qv 0) (qa_cons (qe_op op_add (qe_op op_add (qv 2) (qe_callB call_lenD (by rfl) n_len PySem.boot_len (qa_cons (qv 3) qa_nil))) (qe_op op_mul qe_int (qe_bm PySem.F.plainAttrs_str PySem.F.slot_str_find PySem.F.type_str_find mt_findT (qv 1) (qa_cons (qv 4) qa_nil)))) qa_nil)))) (qss_one (qs_if (qt_cmpR op_gt (qe_op op_mod (qv 5) qe_int) qe_int (nomark _)) (qss_one (qs_dput hu (qv 3) (qv 4) (qe_op op_sub (qe_op op_mod (qe_op op_fdiv (qv 5) qe_int) (qe_ix ix_list (qe_lst (qa_cons qe_int (qa_cons qe_int qa_nil))) (qe_op op_mod (qe_op op_fdiv (qv 5) qe_int) qe_int) (fun _ _ => rfl))) (qe_ix ix_list (qe_lst (qa_cons qe_int (qa_cons qe_int qa_nil))) (qe_op op_mod (qe_op op_fdiv (qv 5) qe_int) qe_int) (fun _ _ => rfl))) rfl)) qss_nil)))) (qss_one (qs_ret (qv 3))))), ?_⟩
    refine fun d hd => ?_
    have s0 : Same H (upd H d (HO.dK [])) := Same.upd hd
    refine ⟨_, rfl, ls, [63], rfl, rfl, Nat.le_of_lt (small1000 (by show ls.length + 1 ≤ 1000; omega)), _, rfl, ?_⟩
    refine for_str (l := ls ++ [63]) (fun i σ H2 => ∃ (v4 v5 : Option V) (kvs : List (Key × V)), σ = [some (.int c), some (.str (S ls)), some (.int b), some (.ref d), v4, v5] ∧ Same H H2 ∧ H2 d = some (.dK kvs) ∧ WE kvs ∧ kvs.length ≤ i)
      ⟨none, none, [], rfl, s0, upd_same, (fun kv m => nomatch m), Nat.le_refl _⟩ ?_ ?_
    · rintro i t σ H2 hi ⟨v4, v5, kvs, rfl, sm, hd2, hW, hl⟩
      have hil : i < ls.length + 1 := by have := (List.getElem?_eq_some_iff.mp hi).1; simpa using this
      refine ⟨_, rfl, _, rfl, _, rfl, d, kvs, rfl, hd2, _, _, rfl, rfl, _, rfl, rfl, _, rfl, ls, [t], rfl, rfl, fun n n1 n2 => ?_⟩
      refine ⟨_, _, rfl, rfl, .inl ⟨by decide, by decide⟩, _, _, rfl, rfl, ?_⟩
      have ej : ((b : Int) + ((kvs.length : Nat) : Int)) + 3 * n = ((((b : Int) + ((kvs.length : Nat) : Int)) + 3 * n).toNat : Int) := by omega
      refine ⟨c, (((b : Int) + ((kvs.length : Nat) : Int)) + 3 * n).toNat, by show [V.int c, V.int (((b : Int) + ((kvs.length : Nat) : Int)) + 3 * n)] = _; rw [← ej], by omega, fun nu => ?_⟩
      refine ⟨_, rfl, _, _, rfl, rfl, (by show (0 : Int) < 5; decide), _, _, rfl, rfl, _, rfl, ite2 (fun _ => ?_) (fun _ => ?_)⟩
      · obtain ⟨m, k, hm, hk, hp, hv⟩ : ∃ m k : Int, atI [V.int 9, V.int 2000001] (nu / 7 % 2) = some (.int m) ∧ atI [V.int 4, V.int 1000000] (nu / 7 % 2) = some (.int k) ∧ 0 < m ∧ m ≤ 2 * k + 1 ∧ 0 ≤ k ∧ k ≤ 1000000 := by
          rcases (show nu / 7 % 2 = 0 ∨ nu / 7 % 2 = 1 by omega) with e | e
          · rw [e]; exact ⟨9, 4, rfl, rfl, by decide, by decide, by decide, by decide⟩
          · rw [e]; exact ⟨2000001, 1000000, rfl, rfl, by decide, by decide, by decide, by decide⟩
        refine ⟨_, rfl, _, _, rfl, rfl, ⟨by decide, by decide⟩, by show 2 ≤ sizeLine; decide, fun L1 hL1 => ?_⟩
        refine ⟨_, rfl, _, _, rfl, rfl, ⟨by decide, by decide⟩, _, _, rfl, rfl, (by show (0 : Int) < 2; decide), L1, _, _, _, rfl, rfl, SqL.of upd_same, hm, _, _, rfl, rfl, hp, ?_⟩
        have k1 : Same H2 (upd H2 L1 (HO.lst [V.int 9, V.int 2000001])) := Same.upd hL1
        generalize upd H2 L1 (HO.lst [V.int 9, V.int 2000001]) = H3 at k1 ⊢
        refine ⟨by show 2 ≤ sizeLine; decide, fun L2' hL2 => ?_⟩
        refine ⟨_, rfl, _, _, rfl, rfl, ⟨by decide, by decide⟩, _, _, rfl, rfl, (by show (0 : Int) < 2; decide), L2', _, _, _, rfl, rfl, SqL.of upd_same, hk, _, _, rfl, rfl, ?_⟩
        have k2 : Same H3 (upd H3 L2' (HO.lst [V.int 4, V.int 1000000])) := Same.upd hL2
        generalize upd H3 L2' (HO.lst [V.int 4, V.int 1000000]) = H4 at k2 ⊢
        have hd4 := k2 _ _ (k1 _ _ hd2)
        have b1 := Int.emod_nonneg (nu / 5) (show m ≠ 0 by omega)
        have b2 := Int.emod_lt_of_pos (nu / 5) hp
        refine ⟨_, rfl, _, rfl, d, _, rfl, DPut.k (k := keyS [t]) hd4 (small1000 (by omega)), ?_⟩
        exact ⟨_, _, _, rfl, ((sm.trans k1).trans k2).upd' hd, upd_same, hW.put t (by omega) (by omega), Nat.le_trans (length_putK _ _ _) (by omega)⟩
      · exact ⟨_, _, kvs, rfl, sm, hd2, hW, by omega⟩
    · rintro σ H2 ⟨v4, v5, kvs, rfl, sm, hd2, hW, hl⟩
      rw [List.length_append] at hl
      have hl : kvs.length ≤ ls.length + 1 := hl
      exact ⟨_, rfl, q d kvs H2 sm hd2 hd hW (by omega)⟩

end
end My
end

section
set_option Elab.async false
set_option linter.all false
set_option maxRecDepth 100000
set_option maxHeartbeats 2000000
namespace My
open PySem L2
section
variable {P : Program} {w : World} {K : PySem.W.Frag} {mg : Str → Option Value} {base : Heap}
def lcN (k1 k2 : List (Key × V)) (l : List Nat) : Nat → Int
  | 0 => 0
  | n + 1 => lcN k1 k2 l n + wf k1 (l.getD n 0) + (if l.getD n 0 ∈ l.take n then wf k2 (l.getD n 0) else 0)
def lcF (k1 k2 : List (Key × V)) (l : List Nat) : Int := lcN k1 k2 l l.length
theorem isum_add {α : Type} (f g : α → Int) : ∀ cs : List α, (cs.map fun c => f c + g c).sum = (cs.map f).sum + (cs.map g).sum
  | [] => rfl
  | c :: r => by rw [List.map_cons, List.map_cons, List.map_cons, List.sum_cons, List.sum_cons, List.sum_cons, isum_add f g r]; omega
theorem isum_one (d : Int) (x : Nat) : ∀ cs : List Nat, cs.Nodup → (cs.map fun c => if c = x then d else 0).sum = if x ∈ cs then d else 0
  | [], _ => by simp
  | c :: r, h => by
    rw [List.nodup_cons] at h
    rw [List.map_cons, List.sum_cons, isum_one d x r h.2]
    by_cases e : c = x
    · subst e; rw [if_pos rfl, if_neg h.1, if_pos List.mem_cons_self]; omega
    · rw [if_neg e]
      by_cases m : x ∈ r
      · rw [if_pos m, if_pos (List.mem_cons_of_mem _ m)]; omega
      · rw [if_neg m, if_neg (fun z => (List.mem_cons.mp z).elim (fun z => e z.symm) m)]; rfl
theorem lcN_eq (k1 k2 : List (Key × V)) (l cs : List Nat) (nd : cs.Nodup) (hc : ∀ c ∈ l, c ∈ cs) : ∀ n, n ≤ l.length →
    lcN k1 k2 l n = ((l.take n).map (wf k1)).sum + (cs.map fun c => wf k2 c * (((l.take n).count c - 1 : Nat) : Int)).sum
  | 0, _ => by
    have e : ∀ cs : List Nat, (cs.map fun c => wf k2 c * (((l.take 0).count c - 1 : Nat) : Int)).sum = 0 := fun cs => by
      induction cs with
      | nil => rfl
      | cons c r ih => rw [List.map_cons, List.sum_cons, ih]; simp
    rw [e]; rfl
  | n + 1, h => by
    have hn : n < l.length := by omega
    have eg : l.getD n 0 = l[n] := by simp [List.getD, hn]
    have et : l.take (n + 1) = l.take n ++ [l[n]] := by rw [List.take_add_one, List.getElem?_eq_getElem hn]; rfl
    show lcN k1 k2 l n + wf k1 (l.getD n 0) + (if l.getD n 0 ∈ l.take n then wf k2 (l.getD n 0) else 0) = _
    rw [lcN_eq k1 k2 l cs nd hc n (by omega), eg, et, List.map_append]
    have e1 : ((l.take n).map (wf k1) ++ [l[n]].map (wf k1)).sum = ((l.take n).map (wf k1)).sum + wf k1 l[n] := by rw [List.map_cons, List.map_nil, sum_snoc]
    rw [e1]
    have e2 : (cs.map fun c => wf k2 c * (((l.take n ++ [l[n]]).count c - 1 : Nat) : Int)) = cs.map fun c => wf k2 c * (((l.take n).count c - 1 : Nat) : Int) + (if c = l[n] then (if l[n] ∈ l.take n then wf k2 l[n] else 0) else 0) := by
      refine List.map_congr_left fun c _ => ?_
      rw [List.count_append]
      by_cases e : c = l[n]
      · rw [e, if_pos rfl]
        have h1 : [l[n]].count l[n] = 1 := by simp
        rw [h1]
        by_cases m : l[n] ∈ l.take n
        · rw [if_pos m]
          have := List.count_pos_iff.mpr m
          generalize (l.take n).count l[n] = k at this
          obtain ⟨j, rfl⟩ : ∃ j, k = j + 1 := ⟨k - 1, by omega⟩
          rw [show j + 1 + 1 - 1 = j + 1 by omega, show j + 1 - 1 = j by omega]
          rw [Int.natCast_add, Int.mul_add]
          simp
        · rw [if_neg m, List.count_eq_zero.mpr m]
          simp
      · rw [if_neg e]
        have : [l[n]].count c = 0 := by rw [List.count_eq_zero]; intro z; exact e (List.mem_singleton.mp z)
        rw [this]; simp
    rw [e2, isum_add, isum_one _ _ cs nd, if_pos (hc _ (List.getElem_mem hn))]
    omega
theorem lcF_eq (k1 k2 : List (Key × V)) (l cs : List Nat) (nd : cs.Nodup) (hc : ∀ c, c ∈ cs ↔ c ∈ l) : (l.map (wf k1)).sum + (cs.map fun c => wf k2 c * ((l.count c : Int) - 1)).sum = lcF k1 k2 l := by
  unfold lcF
  rw [lcN_eq k1 k2 l cs nd (fun c h => (hc c).mpr h) l.length (Nat.le_refl _), List.take_length]
  have e : (cs.map fun c => wf k2 c * ((l.count c : Int) - 1)) = cs.map fun c => wf k2 c * ((l.count c - 1 : Nat) : Int) := by
    refine List.map_congr_left fun c h => ?_
    have := List.count_pos_iff.mpr ((hc c).mp h)
    congr 1
    omega
  rw [e]
def spLC : Sp := fun vs H Q _ => ∃ (d1 d2 : Addr) (l : List Nat) (k1 k2 : List (Key × V)), vs = [.ref d1, .ref d2, .str (S l)] ∧ H d1 = some (.dK k1) ∧ H d2 = some (.dK k2) ∧ WE k1 ∧ WE k2 ∧ l.length ≤ 7 ∧ Q (.int (lcF k1 k2 l)) H
theorem ok_lc (D : DefAt K mg "_law_leave_counts" s_leave_counts ["_law_singles", "_law_doubles", "_law_left"]) (n_len : mg "len" = none) (n_range : mg "range" = none) : Def P w K mg base "_law_leave_counts" 1 ["_law_singles", "_law_doubles", "_law_left"] spLC := by
  refine D.qok sc_leave_counts (fun vs H Q E h => ?_) (fun f cdv A outer s H vs Q E hr h => ?_)
  · obtain ⟨d1, d2, l, k1, k2, rfl, _⟩ := h
    rfl
  · obtain ⟨d1, d2, l, k1, k2, rfl, h1, h2, w1, w2, hl, q⟩ := h
    have hu := hu_of hr
    have hz : l.length ≤ sizeLine := Nat.le_of_lt (small1000 (by omega))
    refine ⟨_, (qss_cons (qs_set (i := 3) sc_leave_counts.nd rfl (Or.inl rfl) qe_int) (qss_cons (qs_for PassesOwn.never rfl (qi_range1 (by rfl) n_range (qa_cons (qe_callB call_lenS (by rfl) n_len PySem.boot_len (qa_cons (qv 2) qa_nil)) qa_nil)) (qg_name (i := 4) sc_leave_counts.nd rfl (Or.inl rfl)) (qss_cons (qs_set (i := 3) sc_leave_counts.nd rfl (Or.inl rfl) (qe_op op_add (qv 3) (qe_dget2 hu (qv 0) (qe_ix ix_S (qv 2) (qv 4) (fun _ _ => rfl)) qe_int ⟨rfl, rfl, rfl, rfl⟩))) (qss_one (qs_if (qt_cmpR op_inS (qe_ix ix_S (qv 2) (qv 4) (fun _ _ => rfl)) (qe_slice sl_S (qv 2) qo_none (qo_some (qv 4))) rfl) (qss_one (qs_set (i := 3) sc_leave_counts.nd rfl (Or.inl rfl) (qe_op op_add (qv 3) (qe_dget2 hu (qv 1) (qe_ix ix_S (qv 2) (qv 4) (fun _ _ => rfl)) qe_int ⟨rfl, rfl, rfl, rfl⟩)))) qss_nil)))) (qss_one (qs_ret (qv 3))))), ?_⟩
    refine ⟨_, rfl, _, rfl, hz, _, rfl, by omega, by omega, ?_⟩
    rw [Int.toNat_natCast]
    refine for_range (lo := 0) (n := l.length) (fun i σ H2 => ∃ v4 : Option V, σ = [some (.ref d1), some (.ref d2), some (.str (S l)), some (.int (lcN k1 k2 l i)), v4] ∧ H2 = H)
      ⟨none, rfl, rfl⟩ ?_ ?_
    · rintro i σ H2 hi ⟨v4, rfl, rfl⟩
      have eg : l.getD i 0 = l[i] := by simp [List.getD, hi]
      have hat : atI l (0 + (i : Int)) = some l[i] := by rw [Int.zero_add]; exact atI_nat (List.getElem?_eq_getElem hi)
      refine ⟨_, rfl, _, rfl, d1, rfl, .inl ⟨_, .inl h1⟩, _, rfl, _, rfl, l, _, l[i], rfl, rfl, hz, hat, _, DGet.k (k := keyS [l[i]]) h1, ?_⟩
      rw [wf_get w1]
      refine ⟨_, _, rfl, rfl, ?_⟩
      have ecut : cutN l none (some (0 + (i : Int))) = l.take i := by rw [Int.zero_add]; exact cutN_to (by omega)
      refine ⟨_, rfl, _, rfl, l, _, l[i], rfl, rfl, hz, hat, _, rfl, _, rfl, _, rfl, l, rfl, hz, l[i], _, rfl, rfl, ?_⟩
      rw [ecut]
      have step : lcN k1 k2 l (i + 1) = lcN k1 k2 l i + wf k1 l[i] + (if l[i] ∈ l.take i then wf k2 l[i] else 0) := by
        show lcN k1 k2 l i + wf k1 (l.getD i 0) + (if l.getD i 0 ∈ l.take i then wf k2 (l.getD i 0) else 0) = _
        rw [eg]
      by_cases m : l[i] ∈ l.take i
      · rw [decide_eq_true m]
        refine ⟨_, rfl, iteT ⟨_, rfl, _, rfl, d2, rfl, .inl ⟨_, .inl h2⟩, _, rfl, _, rfl, l, _, l[i], rfl, rfl, hz, hat, _, DGet.k (k := keyS [l[i]]) h2, ?_⟩⟩
        rw [wf_get w2]
        refine ⟨_, _, rfl, rfl, ⟨some (.int (0 + (i : Int))), ?_, rfl⟩⟩
        rw [step, if_pos m]; rfl
      · rw [decide_eq_false m]
        refine ⟨_, rfl, iteF ⟨some (.int (0 + (i : Int))), ?_, rfl⟩⟩
        rw [step, if_neg m, Int.add_zero]; rfl
    · rintro σ H2 ⟨v4, rfl, rfl⟩
      exact ⟨_, rfl, q⟩

end
end My
end

section
set_option Elab.async false
set_option linter.all false
set_option maxRecDepth 100000
set_option maxHeartbeats 2000000
namespace My
open PySem L2
section
variable {P : Program} {w : World} {K : PySem.W.Frag} {mg : Str → Option Value} {base : Heap}
def spPicks : Sp := fun vs H Q _ => ∃ (l : List Nat) (m : Nat), vs = [.str (S l), .int m] ∧ l.length ≤ 7 ∧ ∀ (sr : List Nat) (ws : List (List Nat)) (p : Addr) (H' : Hp), Same H H' → sr.Perm l → Srt sr → H' p = some (.lst (Ts ws)) → Pk sr m ws → Q (.ref p) H'
theorem inV_str (l : List Nat) (fs : List (List Nat)) : inV (.str (S l)) (Ts fs) = decide (l ∈ fs) := by
  unfold inV
  induction fs with
  | nil => rfl
  | cons a r ih =>
    have e : eqV (.str (S a)) (.str (S l)) = decide (a = l) := by
      show decide (S a = S l) = _
      by_cases h : a = l
      · subst h; simp
      · rw [decide_eq_false h, decide_eq_false fun z => h (S_inj z)]
    rw [show Ts (a :: r) = V.str (S a) :: Ts r from rfl, List.any_cons, ih, e]
    by_cases h : a = l
    · subst h; simp
    · have h' : ¬ l = a := fun z => h z.symm
      simp [h, h']
theorem flat_Ts (fs : List (List Nat)) : (Ts fs).all flatV = true := by
  rw [List.all_eq_true]
  intro x hx
  obtain ⟨l, _, rfl⟩ := List.mem_map.mp hx
  rfl
theorem ok_picks (D : DefAt K mg "_law_picks" s_picks ["_law_rack", "_law_many"]) (n_len : mg "len" = none) (n_sorted : mg "sorted" = none) : Def P w K mg base "_law_picks" 1 ["_law_rack", "_law_many"] spPicks := by
  refine D.qok sc_picks (fun vs H Q E h => ?_) (fun f cdv A outer s H vs Q E hr h => ?_)
  · obtain ⟨l, m, rfl, _⟩ := h
    rfl
  · obtain ⟨l, m, rfl, hl, q⟩ := h
    refine ⟨_, (qss_cons (qs_set (i := 2) sc_picks.nd rfl (Or.inl rfl) (qe_lst (qa_cons (qe_strS [] (by decide +kernel)) qa_nil))) (qss_cons (qs_for PassesOwn.never rfl (qi_list (qe_callB (call_sortedSP rfl) (by rfl) n_sorted PyProof.Rows.boot_sorted (qa_cons (qv 0) qa_nil))) (qg_name (i := 3) sc_picks.nd rfl (Or.inr rfl)) (qss_cons (qs_setG (ix := 4) (ns := ["_law_left"]) sc_picks.nd rfl (Or.inl rfl) rfl (CompG.of ["_law_rack", "_law_many", "_law_found", "_law_tile", "_law_more", ".5"] [5] (by kernel_rfl)) (qi_list (qv 2)) (fun _ _ _ _ _ => (tg_name (show (["_law_left", "_law_rack", "_law_many", "_law_found", "_law_tile", "_law_more", ".5"] : List Str).Nodup by decide +kernel) rfl (by rfl))) (fun _ _ _ _ _ => qts_nil) (fun _ _ _ _ _ => (qe_op op_addS (qv 0) (qv 4)))) (qss_one (qs_for PassesOwn.never rfl (qi_list (qv 4)) (qg_name (i := 5) sc_picks.nd rfl (Or.inl rfl)) (qss_one (qs_if (qt_cmpR op_notIn_seq (qv 5) (qv 2) rfl) (qss_one (qs_expr (qe_bm PySem.F.plainAttrs_list PySem.F.slot_list_append PySem.F.type_list_append mt_append (qv 2) (qa_cons (qv 5) qa_nil)))) qss_nil)))))) (qss_one (qs_ret (qe_callB call_sortedL (by rfl) n_sorted PyProof.Rows.boot_sorted (qa_cons (qe_compG (ns := ["_law_left"]) rfl (CompG.of ["_law_rack", "_law_many", "_law_found", "_law_tile", "_law_more", ".5"] [5] (by kernel_rfl)) (qi_list (qv 2)) (fun _ _ _ _ _ => (tg_name (show (["_law_left", "_law_rack", "_law_many", "_law_found", "_law_tile", "_law_more", ".5"] : List Str).Nodup by decide +kernel) rfl (by rfl))) (fun _ _ _ _ _ => (qts_one (qt_cmpR op_eq (qe_callB call_lenS (by rfl) n_len PySem.boot_len (qa_cons (qv 0) qa_nil)) (qv 2) (nomark _)))) (fun _ _ _ _ _ => (qv 0))) qa_nil)))))), ?_⟩
    refine ⟨by show 1 ≤ sizeLine; decide, fun F hF => ?_⟩
    refine ⟨_, rfl, l, rfl, by omega, fun p sr hp pm so => ?_⟩
    have hF0 : upd H F (HO.lst [V.str (S [])]) F = some (.lst (Ts [[]])) := upd_same
    have nFp : F ≠ p := ne_of_none hF0 hp
    have hsl : sr.length ≤ 7 := by rw [pm.length_eq]; exact hl
    have s1 : Same H (upd (upd H F (HO.lst [V.str (S [])])) p (.lst (Ts (sr.map fun c => [c])))) := (Same.upd hF).trans (Same.upd hp)
    have hF1 : upd (upd H F (HO.lst [V.str (S [])])) p (.lst (Ts (sr.map fun c => [c]))) F = some (.lst (Ts [[]])) := by rw [upd_ne nFp]; exact hF0
    have hp1 : upd (upd H F (HO.lst [V.str (S [])])) p (.lst (Ts (sr.map fun c => [c]))) p = some (.lst (Ts (sr.map fun c => [c]))) := upd_same
    generalize upd (upd H F (HO.lst [V.str (S [])])) p (.lst (Ts (sr.map fun c => [c]))) = H1 at s1 hF1 hp1 ⊢
    have hpH : H p = none := by
      cases e : H p with
      | none => rfl
      | some o => rw [(Same.upd hF) _ _ e] at hp; cases hp
    refine ⟨p, rfl, ⟨_, SqL.of hp1⟩, for_list (K := K) (a := p) (xs := Ts (sr.map fun c => [c])) (fun i σ H2 => ∃ (v3 v4 v5 : Option V) (fs : List (List Nat)), σ = [some (.str (S l)), some (.int m), some (.ref F), v3, v4, v5] ∧ Same H H2 ∧ H2 p = some (.lst (Ts (sr.map fun c => [c]))) ∧ H2 F = some (.lst (Ts fs)) ∧ fs.Nodup ∧ (∀ w, w ∈ fs ↔ w.Sublist (sr.take i)) ∧ fs.length ≤ 2 ^ i)
      ⟨none, none, none, [[]], rfl, s1, hp1, hF1, by simp, fun w => by simp, by decide⟩ (fun i σ H2 _ h => by obtain ⟨_, _, _, _, _, _, hp2, _⟩ := h; exact SqL.of hp2) ?_ ?_⟩
    · rintro i x σ H2 hx ⟨v3, v4, v5, fs, rfl, s2, hp2, hF2, nd, hm, hz⟩
      have hi : i < sr.length := by have := (List.getElem?_eq_some_iff.mp hx).1; simpa using this
      have ex : x = .str (S [sr[i]]) := by
        have : (Ts (sr.map fun c => [c]))[i]? = some (.str (S [sr[i]])) := by simp [hi]
        rw [this] at hx; exact (Option.some.inj hx).symm
      subst ex
      have hpow : 2 ^ i ≤ 64 := Nat.le_trans (Nat.pow_le_pow_right (by decide) (show i ≤ 6 by omega)) (by decide)
      have elen : ∀ w ∈ fs, w.length ≤ 7 := fun w hw => by have := ((hm w).mp hw).length_le; rw [List.length_take] at this; omega
      refine ⟨_, rfl, F, rfl, ⟨_, SqL.of hF2⟩, fun M hM => compG1_list (f := hideS [5] 0) (tt := tYes) (xs := Ts fs) (fun j ys H3 => ys = Ts ((fs.take j).map fun w => w ++ [sr[i]]) ∧ H3 M = some (.lst ys) ∧ Same H2 H3) ⟨rfl, upd_same, Same.upd hM⟩ (fun j ys H3 _ h => SqL.of (h.2.2 _ _ hF2)) ?_ ?_⟩
      · rintro j y ys H3 hj ⟨rfl, hM3, s3⟩
        have hjl : j < fs.length := by have := (List.getElem?_eq_some_iff.mp hj).1; simpa using this
        have ey : y = .str (S fs[j]) := by
          have : (Ts fs)[j]? = some (.str (S fs[j])) := by simp [hjl]
          rw [this] at hj; exact (Option.some.inj hj).symm
        subst ey
        have hw := elen _ (List.getElem_mem hjl)
        refine turn1 ⟨_, rfl, _, rfl, fs[j], [sr[i]], rfl, rfl, Nat.le_of_lt (small1000 (by show fs[j].length + 1 ≤ 1000; omega)), hM3, ?_, Nxt.mk (by simpa using hjl) ⟨?_, upd_same, s3.upd' hM⟩⟩
        · rw [List.length_map, List.length_map, List.length_take]; exact small1000 (by omega)
        · rw [List.take_add_one, List.getElem?_eq_getElem hjl, List.map_append]; simp [Ts]
      · rintro ys H3 ⟨rfl, hM3, s3⟩
        have hnM : M ≠ F := fun z => by subst z; rw [hF2] at hM; cases hM
        have hpM : M ≠ p := fun z => by subst z; rw [hp2] at hM; cases hM
        have eM : ((fs.take (Ts fs).length).map fun w => w ++ [sr[i]]) = fs.map fun w => w ++ [sr[i]] := by rw [List.length_map, List.take_length]
        rw [eM] at hM3
        have hF3 := s3 _ _ hF2
        have hp3 := s3 _ _ hp2
        refine ⟨_, rfl, M, rfl, ⟨_, SqL.of hM3⟩, for_list (K := K) (a := M) (xs := Ts (fs.map fun w => w ++ [sr[i]])) (fun j σ H4 => ∃ (v5 : Option V) (gs : List (List Nat)), σ = [some (.str (S l)), some (.int m), some (.ref F), some (.str (S [sr[i]])), some (.ref M), v5] ∧ Same H H4 ∧ H4 p = some (.lst (Ts (sr.map fun c => [c]))) ∧ H4 M = some (.lst (Ts (fs.map fun w => w ++ [sr[i]]))) ∧ H4 F = some (.lst (Ts gs)) ∧ gs.Nodup ∧ (∀ w, w ∈ gs ↔ w ∈ fs ∨ w ∈ (fs.take j).map fun w => w ++ [sr[i]]) ∧ gs.length ≤ fs.length + j)
          ⟨_, fs, rfl, s2.trans s3, hp3, hM3, hF3, nd, fun w => by simp, by omega⟩ (fun j σ H4 _ h => by obtain ⟨_, _, _, _, _, hM4, _⟩ := h; exact SqL.of hM4) ?_ ?_⟩
        · rintro j y σ H4 hj ⟨v5, gs, rfl, s4, hp4, hM4, hF4, nd4, hm4, hz4⟩
          have hjl : j < fs.length := by have := (List.getElem?_eq_some_iff.mp hj).1; simpa using this
          have ey : y = .str (S (fs[j] ++ [sr[i]])) := by
            have : (Ts (fs.map fun w => w ++ [sr[i]]))[j]? = some (.str (S (fs[j] ++ [sr[i]]))) := by simp [hjl]
            rw [this] at hj; exact (Option.some.inj hj).symm
          subst ey
          have etake : (fs.take (j + 1)).map (fun w => w ++ [sr[i]]) = (fs.take j).map (fun w => w ++ [sr[i]]) ++ [fs[j] ++ [sr[i]]] := by rw [List.take_add_one, List.getElem?_eq_getElem hjl, List.map_append]; rfl
          refine ⟨_, rfl, _, rfl, F, Ts gs, rfl, .inl (SqL.of hF4), rfl, flat_Ts gs, ?_⟩
          rw [inV_str]
          by_cases hin : fs[j] ++ [sr[i]] ∈ gs
          · rw [decide_eq_true hin]
            refine ⟨_, rfl, iteF ⟨_, gs, rfl, s4, hp4, hM4, hF4, nd4, fun w => ?_, by omega⟩⟩
            rw [hm4 w, etake, List.mem_append, List.mem_singleton]
            constructor
            · rintro (h | h)
              · exact .inl h
              · exact .inr (.inl h)
            · rintro (h | h | h)
              · exact .inl h
              · exact .inr h
              · exact (hm4 w).mp (h ▸ hin)
          · rw [decide_eq_false hin]
            have hz5 : gs.length ≤ 200 := by omega
            refine ⟨_, rfl, iteT ⟨_, rfl, .inl ⟨rfl, _, SqL.of hF4⟩, _, rfl, F, _, _, rfl, rfl, hF4, ?_, ?_⟩⟩
            · rw [List.length_map]; exact small1000 (by omega)
            · rw [Ts_snoc]
              refine ⟨_, gs ++ [fs[j] ++ [sr[i]]], rfl, s4.upd' hF, ?_, ?_, upd_same, ?_, fun w => ?_, ?_⟩
              · rw [upd_ne nFp.symm]; exact hp4
              · rw [upd_ne hnM]; exact hM4
              · refine List.nodup_append.mpr ⟨nd4, by simp, fun a ha b hb => ?_⟩
                rw [List.mem_singleton.mp hb]
                exact fun z => hin (z ▸ ha)
              · rw [List.mem_append, List.mem_singleton, hm4 w, etake, List.mem_append, List.mem_singleton, or_assoc]
              · rw [List.length_append]; show gs.length + 1 ≤ _; omega
        · rintro σ H4 ⟨v5, gs, rfl, s4, hp4, hM4, hF4, nd4, hm4, hz4⟩
          rw [List.length_map, List.length_map] at hm4 hz4
          refine ⟨_, _, _, gs, rfl, s4, hp4, hF4, nd4, fun w => ?_, ?_⟩
          · rw [hm4 w, List.take_length, hm w, List.take_add_one, List.getElem?_eq_getElem hi]
            show _ ↔ w.Sublist (sr.take i ++ [sr[i]])
            rw [sub_snoc, List.mem_map]
            constructor
            · rintro (h | ⟨v, h, rfl⟩)
              · exact .inl h
              · exact .inr ⟨v, (hm v).mp h, rfl⟩
            · rintro (h | ⟨v, h, rfl⟩)
              · exact .inl h
              · exact .inr ⟨v, (hm v).mpr h, rfl⟩
          · rw [Nat.pow_succ]; omega
    · rintro σ H2 ⟨v3, v4, v5, fs, rfl, s2, hp2, hF2, nd, hm, hz⟩
      rw [List.length_map, List.length_map] at hm hz
      rw [List.take_length] at hm
      have hpow : 2 ^ sr.length ≤ 128 := Nat.le_trans (Nat.pow_le_pow_right (by decide) hsl) (by decide)
      have elen : ∀ w ∈ fs, w.length ≤ 7 := fun w hw => by have := ((hm w).mp hw).length_le; omega
      refine ⟨_, rfl, F, rfl, ⟨_, SqL.of hF2⟩, fun M hM => compG1_list (K := K) (a := F) (f := hideS [5] 0) (tt := tTest (tOp rEq (tCB rLenS (tCons (tVar 0) tNil)) (tVar 2))) (te := tVar 0) (xs := Ts fs) (fun j ys H3 => ys = Ts ((fs.take j).filter fun w => decide (w.length = m)) ∧ H3 M = some (.lst ys) ∧ Same H2 H3) ⟨rfl, upd_same, Same.upd hM⟩ (fun j ys H3 _ h => SqL.of (h.2.2 _ _ hF2)) ?_ ?_⟩
      · rintro j y ys H3 hj ⟨rfl, hM3, s3⟩
        have hjl : j < fs.length := by have := (List.getElem?_eq_some_iff.mp hj).1; simpa using this
        have ey : y = .str (S fs[j]) := by
          have : (Ts fs)[j]? = some (.str (S fs[j])) := by simp [hjl]
          rw [this] at hj; exact (Option.some.inj hj).symm
        subst ey
        have hw := elen _ (List.getElem_mem hjl)
        have hfl : ((fs.take j).filter fun w => decide (w.length = m)).length ≤ 128 := Nat.le_trans (List.length_filter_le ..) (by rw [List.length_take]; omega)
        refine ⟨_, rfl, fs[j], rfl, Nat.le_of_lt (small1000 (by omega)), _, rfl, rfl, _, rfl, ?_⟩
        by_cases c : fs[j].length = m
        · have c' : ((fs[j].length : Nat) : Int) = (m : Int) := by rw [c]
          refine ite2 (fun _ => ?_) (fun z => ?_)
          · refine ⟨_, rfl, hM3, by rw [List.length_map]; exact small1000 (by omega), Nxt.mk (by simpa using hjl) ⟨?_, upd_same, s3.upd' hM⟩⟩
            rw [List.take_add_one, List.getElem?_eq_getElem hjl, List.filter_append]
            simp [Ts, c]
          · simp [c] at z
        · refine ite2 (fun z => ?_) (fun _ => ?_)
          · simp at z; omega
          · refine Nxt.mk (by simpa using hjl) ⟨?_, hM3, s3⟩
            rw [List.take_add_one, List.getElem?_eq_getElem hjl, List.filter_append]
            simp [c]
      · rintro ys H3 ⟨rfl, hM3, s3⟩
        rw [List.length_map, List.take_length] at hM3
        have hmem : ∀ w, w ∈ fs.filter (fun w => decide (w.length = m)) ↔ w.Sublist sr ∧ w.length = m := fun w => by rw [List.mem_filter, hm w, decide_eq_true_eq]
        have hnd : (fs.filter fun w => decide (w.length = m)).Nodup := nd.sublist List.filter_sublist
        refine ⟨M, _, rfl, SqL.of hM3, few hsl hnd fun w hw => (hmem w).mp hw, fun p' ws' hp' pm' so' => ?_⟩
        refine q sr ws' p' _ ((s2.trans s3).trans (Same.upd hp')) pm so upd_same ⟨pm'.nodup_iff.mpr hnd, fun w => pm'.mem_iff.trans (hmem w), so'⟩

end
end My
end

section
set_option Elab.async false
set_option linter.all false
set_option maxRecDepth 100000
set_option maxHeartbeats 2000000
namespace My
open PySem L2
section
variable {P : Program} {w : World} {K : PySem.W.Frag} {mg : Str → Option Value} {base : Heap}
structure LeavesCls (K : PySem.W.Frag) (C : Addr) : Prop where
  cl : Cls K C
  ns : NoAttr K C "singles"
  nd : NoAttr K C "doubles"
def spLInit (C : Addr) : Sp := fun vs H Q _ => ∃ (p dx a b : Addr) (ks kd : List (Key × V)), vs = [.ref p, .ref a, .ref b] ∧ H p = some (.ins C dx []) ∧ H a = some (.dK ks) ∧ H b = some (.dK kd) ∧
  ∀ (ps pd : Addr) (H' : Hp), (∀ b o, H b = some o → b ≠ p → H' b = some o) → H' p = some (.ins C dx [("singles", .ref ps), ("doubles", .ref pd)]) → H' ps = some (.dK ks) → H' pd = some (.dK kd) → H ps = none → H pd = none → Q .non H'
theorem ok_linit {f C : Addr} {fd : FuncData} (F : Fun K "__init__" "Leaves.__init__" s_Leaves_init f fd) (T : LeavesCls K C) (n_dict : mg "dict" = none) : FnOk P w K mg base CX0 1 f fd ["self", "singles", "doubles"] (spLInit C) := by
  refine F.qok sc_Leaves_init (fun vs H Q E h => ?_) (fun cdv A outer s H vs Q E hr h => ?_)
  · obtain ⟨p, dx, a, b, ks, kd, rfl, _⟩ := h
    rfl
  · obtain ⟨p, dx, a, b, ks, kd, rfl, hp, ha, hb, q⟩ := h
    have nap : a ≠ p := fun z => by rw [z, hp] at ha; cases ha
    have nbp : b ≠ p := fun z => by rw [z, hp] at hb; cases hb
    refine ⟨_, (qss_cons (qs_fld (qv 0) (qe_callTy call_dictD (by rfl) n_dict PyProof.Rows.boot_dict (qa_cons (qv 1) qa_nil)) rfl) (qss_one (qs_fld (qv 0) (qe_callTy call_dictD (by rfl) n_dict PyProof.Rows.boot_dict (qa_cons (qv 2) qa_nil)) rfl))), ?_⟩
    refine ⟨_, rfl, a, ks, rfl, ha, fun ps hps => ⟨_, rfl, p, C, dx, _, rfl, Same.upd hps _ _ hp, T.cl, T.ns, by show 0 < 1000; decide, ?_⟩⟩
    have npp : ps ≠ p := fun z => by rw [z, hp] at hps; cases hps
    have nbs : b ≠ ps := fun z => by rw [z, hps] at hb; cases hb
    refine ⟨_, rfl, b, kd, rfl, by rw [upd_ne nbp, upd_ne nbs]; exact hb, fun pd hpd => ?_⟩
    have npd : pd ≠ p := fun z => by rw [z, upd_same] at hpd; cases hpd
    have nps : ps ≠ pd := fun z => by rw [← z, upd_ne npp, upd_same] at hpd; cases hpd
    have hpdH : H pd = none := by rw [upd_ne npd, upd_ne nps.symm] at hpd; exact hpd
    refine ⟨_, rfl, p, C, dx, _, rfl, by rw [upd_ne npd.symm]; exact upd_same, T.cl, T.nd, by show 1 < 1000; decide, ?_⟩
    refine q ps pd _ (fun c o e hne => ?_) upd_same ?_ ?_ hps hpdH
    · have c1 : c ≠ pd := fun z => by rw [z, hpdH] at e; cases e
      have c2 : c ≠ ps := fun z => by rw [z, hps] at e; cases e
      rw [upd_ne hne, upd_ne c1, upd_ne hne, upd_ne c2]; exact e
    · rw [upd_ne npp, upd_ne nps, upd_ne npp]; exact upd_same
    · rw [upd_ne npd]; exact upd_same
def spOf : Sp := fun vs H Q _ => ∃ (p : Addr) (l : List Nat) (m : Nat), vs = [.ref p, .str (S l), .int m] ∧ l.length ≤ 7 ∧
  ∀ (sr : List Nat) (ws : List (List Nat)) (t : Addr) (H' : Hp), Same H H' → sr.Perm l → Srt sr → H' t = some (.tup (Ts ws)) → Pk sr m ws → Q (.ref t) H'
theorem ok_of {f : Addr} {fd : FuncData} (F : Fun K "of" "Leaves.of" s_Leaves_of f fd) (n_len : mg "len" = none) (n_tuple : mg "tuple" = none) (n_sorted : mg "sorted" = none) (n_set : mg "set" = none) : FnOk P w K mg base CX0 1 f fd ["self", "rack", "many"] spOf := by
  refine F.qok sc_Leaves_of (fun vs H Q E h => ?_) (fun cdv A outer s H vs Q E hr h => ?_)
  · obtain ⟨p, l, m, rfl, _⟩ := h
    rfl
  · obtain ⟨p, l, m, rfl, hl, q⟩ := h
    refine ⟨_, (qss_cons (qs_set (i := 3) sc_Leaves_of.nd rfl (Or.inl rfl) (qe_lst (qa_cons (qe_strS [] (by decide +kernel)) qa_nil))) (qss_cons (qs_for PassesOwn.never rfl (qi_list (qe_callB (call_sortedSP rfl) (by rfl) n_sorted PyProof.Rows.boot_sorted (qa_cons (qv 1) qa_nil))) (qg_name (i := 4) sc_Leaves_of.nd rfl (Or.inr rfl)) (qss_one (qs_set (i := 3) sc_Leaves_of.nd rfl (Or.inl rfl) (qe_op op_cat (qv 3) (qe_compG (ns := ["text"]) rfl (CompG.of ["self", "rack", "many", "texts", "tile"] [] (by kernel_rfl)) (qi_list (qv 3)) (fun _ _ _ _ _ => (tg_name (show (["text", "self", "rack", "many", "texts", "tile"] : List Str).Nodup by decide +kernel) rfl (by rfl))) (fun _ _ _ _ _ => (qts_one (qt_cmpR op_lt (qe_callB call_lenS (by rfl) n_len PySem.boot_len (qa_cons (qv 0) qa_nil)) (qv 3) (nomark _)))) (fun _ _ _ _ _ => (qe_op op_addS (qv 0) (qv 5)))))))) (qss_one (qs_ret (qe_callTy call_tuple_of (by rfl) n_tuple PyProof.Rows.boot_tuple (qa_cons (qe_callB (call_sortedSetW w rfl) (by rfl) n_sorted PyProof.Rows.boot_sorted (qa_cons (qe_callTy (call_setLTW w rfl) (by rfl) n_set PyProof.Rows.boot_set (qa_cons (qe_compG (ns := ["text"]) rfl (CompG.of ["self", "rack", "many", "texts", "tile"] [] (by kernel_rfl)) (qi_list (qv 3)) (fun _ _ _ _ _ => (tg_name (show (["text", "self", "rack", "many", "texts", "tile"] : List Str).Nodup by decide +kernel) rfl (by rfl))) (fun _ _ _ _ _ => (qts_one (qt_cmpR op_eq (qe_callB call_lenS (by rfl) n_len PySem.boot_len (qa_cons (qv 0) qa_nil)) (qv 3) (nomark _)))) (fun _ _ _ _ _ => (qv 0))) qa_nil)) qa_nil)) qa_nil)))))), ?_⟩
    refine ⟨by show 1 ≤ sizeLine; decide, fun T0 hT0 => ?_⟩
    refine ⟨_, rfl, l, rfl, by omega, fun g sr hg pm so => ?_⟩
    have hT1 : upd H T0 (HO.lst [V.str (S [])]) T0 = some (.lst (Ts [[]])) := upd_same
    have nTg : T0 ≠ g := ne_of_none hT1 hg
    have hsl : sr.length ≤ 7 := by rw [pm.length_eq]; exact hl
    have s1 : Same H (upd (upd H T0 (HO.lst [V.str (S [])])) g (.lst (Ts (sr.map fun c => [c])))) := (Same.upd hT0).trans (Same.upd hg)
    have hT2 : upd (upd H T0 (HO.lst [V.str (S [])])) g (.lst (Ts (sr.map fun c => [c]))) T0 = some (.lst (Ts [[]])) := by rw [upd_ne nTg]; exact hT1
    have hg1 : upd (upd H T0 (HO.lst [V.str (S [])])) g (.lst (Ts (sr.map fun c => [c]))) g = some (.lst (Ts (sr.map fun c => [c]))) := upd_same
    generalize upd (upd H T0 (HO.lst [V.str (S [])])) g (.lst (Ts (sr.map fun c => [c]))) = H1 at s1 hT2 hg1 ⊢
    refine ⟨g, rfl, ⟨_, SqL.of hg1⟩, for_list (K := K) (a := g) (xs := Ts (sr.map fun c => [c])) (fun i σ H2 => ∃ (v4 : Option V) (T : Addr) (fs : List (List Nat)), σ = [some (.ref p), some (.str (S l)), some (.int m), some (.ref T), v4] ∧ Same H1 H2 ∧ H2 T = some (.lst (Ts fs)) ∧ (∀ w, w ∈ fs ↔ w.Sublist (sr.take i) ∧ w.length ≤ m) ∧ fs.length ≤ 2 ^ i)
      ⟨none, T0, [[]], rfl, Same.refl _, hT2, fun w => ?_, by decide⟩ (fun i σ H2 _ h => by obtain ⟨_, _, _, _, sm, _⟩ := h; exact SqL.of (sm _ _ hg1)) ?_ ?_⟩
    · rw [List.take_zero, List.mem_singleton, List.sublist_nil]
      exact ⟨fun e => ⟨e, by rw [e]; exact Nat.zero_le _⟩, fun e => e.1⟩
    · rintro i x σ H2 hx ⟨v4, T, fs, rfl, s2, hT, hm, hz⟩
      have hi : i < sr.length := by have := (List.getElem?_eq_some_iff.mp hx).1; simpa using this
      have ex : x = .str (S [sr[i]]) := by
        have : (Ts (sr.map fun c => [c]))[i]? = some (.str (S [sr[i]])) := by simp [hi]
        rw [this] at hx; exact (Option.some.inj hx).symm
      subst ex
      have hpow : 2 ^ i ≤ 64 := Nat.le_trans (Nat.pow_le_pow_right (by decide) (show i ≤ 6 by omega)) (by decide)
      have elen : ∀ w ∈ fs, w.length ≤ 7 := fun w hw => by have := ((hm w).mp hw).1.length_le; rw [List.length_take] at this; omega
      refine ⟨_, rfl, _, rfl, T, rfl, ⟨_, SqL.of hT⟩, fun M hM => compG1_list (K := K) (a := T) (f := hideS [] 0) (tt := tTest (tOp (rI0 fun i j => V.bl (decide (i < j))) (tCB rLenS (tCons (tVar 0) tNil)) (tVar 3))) (te := tOp rAddS (tVar 0) (tVar 5)) (xs := Ts fs) (fun j ys H3 => ys = Ts (((fs.take j).filter fun w => decide (w.length < m)).map fun w => w ++ [sr[i]]) ∧ H3 M = some (.lst ys) ∧ Same H2 H3) ⟨rfl, upd_same, Same.upd hM⟩ (fun j ys H3 _ h => SqL.of (h.2.2 _ _ hT)) ?_ ?_⟩
      · rintro j y ys H3 hj ⟨rfl, hM3, s3⟩
        have hjl : j < fs.length := by have := (List.getElem?_eq_some_iff.mp hj).1; simpa using this
        have ey : y = .str (S fs[j]) := by
          have : (Ts fs)[j]? = some (.str (S fs[j])) := by simp [hjl]
          rw [this] at hj; exact (Option.some.inj hj).symm
        subst ey
        have hw := elen _ (List.getElem_mem hjl)
        have hfl : ((fs.take j).filter fun w => decide (w.length < m)).length ≤ 128 := Nat.le_trans (List.length_filter_le ..) (by rw [List.length_take]; omega)
        refine ⟨_, rfl, fs[j], rfl, Nat.le_of_lt (small1000 (by omega)), _, rfl, _, _, rfl, rfl, _, rfl, ?_⟩
        refine ite2 (fun z => ?_) (fun z => ?_)
        · have c : fs[j].length < m := by have := of_decide_eq_true z; omega
          refine ⟨_, rfl, _, rfl, fs[j], [sr[i]], rfl, rfl, Nat.le_of_lt (small1000 (by show fs[j].length + 1 ≤ 1000; omega)), hM3, by rw [List.length_map, List.length_map]; exact small1000 (by omega), Nxt.mk (by simpa using hjl) ⟨?_, upd_same, s3.upd' hM⟩⟩
          rw [List.take_add_one, List.getElem?_eq_getElem hjl, List.filter_append]
          simp [Ts, c]
        · have c : ¬ fs[j].length < m := by simp at z; omega
          refine Nxt.mk (by simpa using hjl) ⟨?_, hM3, s3⟩
          rw [List.take_add_one, List.getElem?_eq_getElem hjl, List.filter_append]
          simp [c]
      · rintro ys H3 ⟨rfl, hM3, s3⟩
        rw [List.length_map, List.take_length] at hM3
        have hfl : (fs.filter fun w => decide (w.length < m)).length ≤ fs.length := List.length_filter_le ..
        refine ⟨T, M, _, _, rfl, rfl, s3 _ _ hT, hM3, Nat.le_of_lt (small1000 (by rw [List.length_map, List.length_map, List.length_map]; omega)), fun N hN => ?_⟩
        refine ⟨_, N, fs ++ (fs.filter fun w => decide (w.length < m)).map (fun w => w ++ [sr[i]]), rfl, (s2.trans s3).trans (Same.upd hN), by rw [upd_same]; simp [Ts], fun w => ?_, ?_⟩
        · rw [List.mem_append, hm w, List.mem_map, List.take_add_one, List.getElem?_eq_getElem hi]
          show _ ↔ w.Sublist (sr.take i ++ [sr[i]]) ∧ _
          rw [sub_snoc]
          constructor
          · rintro (⟨h1, h2⟩ | ⟨v, h, rfl⟩)
            · exact ⟨.inl h1, h2⟩
            · rw [List.mem_filter, hm v, decide_eq_true_eq] at h
              exact ⟨.inr ⟨v, h.1.1, rfl⟩, by rw [List.length_append]; show v.length + 1 ≤ m; omega⟩
          · rintro ⟨h | ⟨v, h, rfl⟩, h2⟩
            · exact .inl ⟨h, h2⟩
            · rw [List.length_append] at h2
              have h2 : v.length + 1 ≤ m := h2
              exact .inr ⟨v, by rw [List.mem_filter, hm v, decide_eq_true_eq]; exact ⟨⟨h, by omega⟩, by omega⟩, rfl⟩
        · rw [List.length_append, List.length_map, Nat.pow_succ]; omega
    · rintro σ H2 ⟨v4, T, fs, rfl, s2, hT, hm, hz⟩
      rw [List.length_map, List.length_map] at hm hz
      rw [List.take_length] at hm
      have hpow : 2 ^ sr.length ≤ 128 := Nat.le_trans (Nat.pow_le_pow_right (by decide) hsl) (by decide)
      have elen : ∀ w ∈ fs, w.length ≤ 7 := fun w hw => by have := ((hm w).mp hw).1.length_le; omega
      refine ⟨_, rfl, T, rfl, ⟨_, SqL.of hT⟩, fun M hM => compG1_list (K := K) (a := T) (f := hideS [] 0) (tt := tTest (tOp rEq (tCB rLenS (tCons (tVar 0) tNil)) (tVar 3))) (te := tVar 0) (xs := Ts fs) (fun j ys H3 => ys = Ts ((fs.take j).filter fun w => decide (w.length = m)) ∧ H3 M = some (.lst ys) ∧ Same H2 H3) ⟨rfl, upd_same, Same.upd hM⟩ (fun j ys H3 _ h => SqL.of (h.2.2 _ _ hT)) ?_ ?_⟩
      · rintro j y ys H3 hj ⟨rfl, hM3, s3⟩
        have hjl : j < fs.length := by have := (List.getElem?_eq_some_iff.mp hj).1; simpa using this
        have ey : y = .str (S fs[j]) := by
          have : (Ts fs)[j]? = some (.str (S fs[j])) := by simp [hjl]
          rw [this] at hj; exact (Option.some.inj hj).symm
        subst ey
        have hw := elen _ (List.getElem_mem hjl)
        have hfl : ((fs.take j).filter fun w => decide (w.length = m)).length ≤ 128 := Nat.le_trans (List.length_filter_le ..) (by rw [List.length_take]; omega)
        refine ⟨_, rfl, fs[j], rfl, Nat.le_of_lt (small1000 (by omega)), _, rfl, rfl, _, rfl, ?_⟩
        by_cases c : fs[j].length = m
        · refine ite2 (fun _ => ?_) (fun z => ?_)
          · refine ⟨_, rfl, hM3, by rw [List.length_map]; exact small1000 (by omega), Nxt.mk (by simpa using hjl) ⟨?_, upd_same, s3.upd' hM⟩⟩
            rw [List.take_add_one, List.getElem?_eq_getElem hjl, List.filter_append]
            simp [Ts, c]
          · simp [c] at z
        · refine ite2 (fun z => ?_) (fun _ => ?_)
          · simp at z; omega
          · refine Nxt.mk (by simpa using hjl) ⟨?_, hM3, s3⟩
            rw [List.take_add_one, List.getElem?_eq_getElem hjl, List.filter_append]
            simp [c]
      · rintro ys H3 ⟨rfl, hM3, s3⟩
        rw [List.length_map, List.take_length] at hM3
        have hmem : ∀ w, w ∈ fs.filter (fun w => decide (w.length = m)) ↔ w.Sublist sr ∧ w.length = m := fun w => by
          rw [List.mem_filter, hm w, decide_eq_true_eq]
          exact ⟨fun h => ⟨h.1.1, h.2⟩, fun h => ⟨⟨h.1, by omega⟩, h.2⟩⟩
        have hfl : (fs.filter fun w => decide (w.length = m)).length ≤ fs.length := List.length_filter_le ..
        refine ⟨M, _, rfl, SqL.of hM3, by omega, fun g2 hg2 => ?_⟩
        refine ⟨g2, _, _, rfl, upd_same, by omega, fun us nd hus => few hsl nd fun w hw => (hmem w).mp (hus w hw), fun g3 ws' hg3 nd' hm' so' => ?_⟩
        refine ⟨g3, _, rfl, .inl ⟨SqL.of upd_same, fun t ht => ?_⟩⟩
        exact q sr ws' t _ ((((s1.trans s2).trans s3).trans (Same.upd hg2)).trans ((Same.upd hg3).trans (Same.upd ht))) pm so upd_same ⟨nd', fun w => (hm' w).trans (hmem w), so'⟩

end
end My
end

section
set_option Elab.async false
set_option linter.all false
set_option maxRecDepth 100000
set_option maxHeartbeats 2000000
namespace My
open PySem L2
section
variable {P : Program} {w : World} {K : PySem.W.Frag} {mg : Str → Option Value} {base : Heap}
def spCounts (C : Addr) : Sp := fun vs H Q _ => ∃ (p dx ps pd : Addr) (l : List Nat) (k1 k2 : List (Key × V)), vs = [.ref p, .str (S l)] ∧ H p = some (.ins C dx [("singles", .ref ps), ("doubles", .ref pd)]) ∧ H ps = some (.dK k1) ∧ H pd = some (.dK k2) ∧ WE k1 ∧ WE k2 ∧ l.length ≤ 7 ∧
  ∀ H', Same H H' → Q (.int (lcF k1 k2 l)) H'
theorem ok_counts {f C : Addr} {fd : FuncData} (F : Fun K "counts" "Leaves.counts" s_Leaves_counts f fd) (T : LeavesCls K C) (n_sorted : mg "sorted" = none) (n_set : mg "set" = none) (n_sum : mg "sum" = none) : FnOk P w K mg base CX0 1 f fd ["self", "left"] (spCounts C) := by
  refine F.qok sc_Leaves_counts (fun vs H Q E h => ?_) (fun cdv A outer s H vs Q E hr h => ?_)
  · obtain ⟨p, dx, ps, pd, l, k1, k2, rfl, _⟩ := h
    rfl
  · obtain ⟨p, dx, ps, pd, l, k1, k2, rfl, hp, hps, hpd, w1, w2, hl, q⟩ := h
    have hu := hu_of hr
    have hz : l.length ≤ sizeLine := Nat.le_of_lt (small1000 (by omega))
    refine ⟨_, (qss_cons (qs_setG (ix := 2) (ns := ["tile"]) sc_Leaves_counts.nd rfl (Or.inl rfl) rfl (CompG.of ["self", "left", "singles", "doubles"] [] (by kernel_rfl)) (qi_str (qv 1)) (fun _ _ _ _ _ => (tg_name (show (["tile", "self", "left", "singles", "doubles"] : List Str).Nodup by decide +kernel) rfl (by rfl))) (fun _ _ _ _ _ => qts_nil) (fun _ _ _ _ _ => (qe_dget2 hu (qe_fldJ K (qv 1) rfl) (qv 0) qe_int ⟨rfl, rfl, rfl, rfl⟩))) (qss_cons (qs_setG (ix := 3) (ns := ["tile"]) sc_Leaves_counts.nd rfl (Or.inl rfl) rfl (CompG.of ["self", "left", "singles", "doubles"] [] (by kernel_rfl)) (qi_list (qe_callB (call_sortedSetW w rfl) (by rfl) n_sorted PyProof.Rows.boot_sorted (qa_cons (qe_callTy (call_setSTW w rfl) (by rfl) n_set PyProof.Rows.boot_set (qa_cons (qv 1) qa_nil)) qa_nil))) (fun _ _ _ _ _ => (tg_name (show (["tile", "self", "left", "singles", "doubles"] : List Str).Nodup by decide +kernel) rfl (by rfl))) (fun _ _ _ _ _ => qts_nil) (fun _ _ _ _ _ => (qe_op op_mul (qe_dget2 hu (qe_fldJ K (qv 1) rfl) (qv 0) qe_int ⟨rfl, rfl, rfl, rfl⟩) (qe_op op_sub (qe_bmK K PySem.F.plainAttrs_str PySem.F.slot_str_count PySem.F.type_str_count mt_countT (qv 2) (qa_cons (qv 0) qa_nil)) qe_int)))) (qss_one (qs_ret (qe_op op_add (qe_callB (call_sumL rfl) (by rfl) n_sum PyProof.Rows.boot_sum (qa_cons (qv 2) qa_nil)) (qe_callB (call_sumL rfl) (by rfl) n_sum PyProof.Rows.boot_sum (qa_cons (qv 3) qa_nil))))))), ?_⟩
    refine ⟨_, rfl, l, rfl, fun M hM => compG1_str (l := l) (f := hideS [] 0) (tt := tYes) (fun i ys H2 => ys = ((l.take i).map (wf k1)).map V.int ∧ H2 M = some (.lst ys) ∧ Same H H2) ⟨rfl, upd_same, Same.upd hM⟩ ?_ ?_⟩
    · rintro i c ys H2 hi ⟨rfl, hM2, s2⟩
      have hil : i < l.length := (List.getElem?_eq_some_iff.mp hi).1
      refine turn1 ⟨_, rfl, p, C, dx, _, _, rfl, s2 _ _ hp, T.cl, T.ns, rfl, ps, rfl, .inl ⟨_, .inl (s2 _ _ hps)⟩, _, rfl, _, DGet.k (k := keyS [c]) (s2 _ _ hps), ?_⟩
      rw [wf_get w1]
      refine ⟨hM2, by rw [List.length_map, List.length_map, List.length_take]; exact small1000 (by omega), Nxt.mk hil ⟨?_, upd_same, s2.upd' hM⟩⟩
      rw [List.take_add_one, hi, List.map_append, List.map_append]; rfl
    · rintro ys H2 ⟨rfl, hM2, s2⟩
      rw [List.take_length] at hM2
      refine ⟨_, rfl, l, rfl, by omega, fun g1 hg1 => ?_⟩
      refine ⟨g1, _, _, rfl, upd_same, by omega, fun us nd hus => ?_, fun g2 ws hg2 nd hm so => ?_⟩
      · have := nd.length_le_of_subset (l₂ := l.map fun c => [c]) fun x hx => hus x hx
        rw [List.length_map] at this; omega
      obtain ⟨cs, rfl⟩ : ∃ cs : List Nat, ws = cs.map fun c => [c] := by
        have : ∀ w ∈ ws, ∃ c, w = [c] := fun w hw => by obtain ⟨c, _, e⟩ := List.mem_map.mp ((hm w).mp hw); exact ⟨c, e.symm⟩
        refine ⟨ws.map fun w => w.headD 0, ?_⟩
        rw [List.map_map]
        refine (List.map_id _).symm.trans (List.map_congr_left fun w hw => ?_)
        obtain ⟨c, rfl⟩ := this w hw
        rfl
      have hmc : ∀ c, c ∈ cs ↔ c ∈ l := fun c => by
        have := hm [c]
        simpa using this
      have ndc : cs.Nodup := by
        refine List.Pairwise.of_map (fun c : Nat => [c]) (fun a b h => ?_) nd
        exact fun z => h (by rw [z])
      have hcl : cs.length ≤ 7 := by have := ndc.length_le_of_subset (l₂ := l) fun c h => (hmc c).mp h; omega
      have s3 : Same H2 (upd (upd H2 g1 (.ext (SetW w g1 (l.map fun c => [c]) l.length))) g2 (.lst (Ts (cs.map fun c => [c])))) := (Same.upd hg1).trans (Same.upd hg2)
      have hg3 : upd (upd H2 g1 (.ext (SetW w g1 (l.map fun c => [c]) l.length))) g2 (.lst (Ts (cs.map fun c => [c]))) g2 = some (.lst (Ts (cs.map fun c => [c]))) := upd_same
      generalize upd (upd H2 g1 (.ext (SetW w g1 (l.map fun c => [c]) l.length))) g2 (.lst (Ts (cs.map fun c => [c]))) = H3 at s3 hg3 ⊢
      have hp3 := s3 _ _ (s2 _ _ hp)
      have hpd3 := s3 _ _ (s2 _ _ hpd)
      refine ⟨g2, rfl, ⟨_, SqL.of hg3⟩, fun N hN => compG1_list (K := K) (a := g2) (f := hideS [] 0) (tt := tYes) (xs := Ts (cs.map fun c => [c])) (fun i ys H4 => ys = ((cs.take i).map fun c => wf k2 c * ((l.count c : Int) - 1)).map V.int ∧ H4 N = some (.lst ys) ∧ Same H3 H4) ⟨rfl, upd_same, Same.upd hN⟩ (fun i ys H4 _ h => SqL.of (h.2.2 _ _ hg3)) ?_ ?_⟩
      · rintro i x ys H4 hx ⟨rfl, hN4, s4⟩
        have hil : i < cs.length := by have := (List.getElem?_eq_some_iff.mp hx).1; simpa using this
        have ex : x = .str (S [cs[i]]) := by
          have : (Ts (cs.map fun c => [c]))[i]? = some (.str (S [cs[i]])) := by simp [hil]
          rw [this] at hx; exact (Option.some.inj hx).symm
        subst ex
        have b1 := wf_bd w2 cs[i]
        have b2 : l.count cs[i] ≤ l.length := List.count_le_length
        refine turn1 ⟨_, rfl, p, C, dx, _, _, rfl, s4 _ _ hp3, T.cl, T.nd, rfl, pd, rfl, .inl ⟨_, .inl (s4 _ _ hpd3)⟩, _, rfl, _, DGet.k (k := keyS [cs[i]]) (s4 _ _ hpd3), ?_⟩
        rw [wf_get w2]
        refine ⟨_, rfl, rfl, _, rfl, l, cs[i], rfl, rfl, _, _, rfl, rfl, _, _, rfl, rfl, ?_, hN4, by rw [List.length_map, List.length_map, List.length_take]; exact small1000 (by omega), Nxt.mk (by simpa using hil) ⟨?_, upd_same, s4.upd' hN⟩⟩
        · exact .inr ⟨by show -(2 ^ 64) < (l.count cs[i] : Int) - 1; omega, by show (l.count cs[i] : Int) - 1 < 2 ^ 64; omega⟩
        · rw [List.take_add_one, List.getElem?_eq_getElem hil, List.map_append, List.map_append]; rfl
      · rintro ys H4 ⟨rfl, hN4, s4⟩
        rw [List.length_map, List.length_map, List.take_length] at hN4
        have b1 : ∀ x ∈ l.map (wf k1), -1000000000 ≤ x ∧ x ≤ 1000000000 := fun x hx => by
          obtain ⟨c, _, rfl⟩ := List.mem_map.mp hx
          have := wf_bd w1 c
          omega
        have b2 : ∀ x ∈ cs.map (fun c => wf k2 c * ((l.count c : Int) - 1)), -1000000000 ≤ x ∧ x ≤ 1000000000 := fun x hx => by
          obtain ⟨c, hc, rfl⟩ := List.mem_map.mp hx
          have b1 := wf_bd w2 c
          have b2 : l.count c ≤ l.length := List.count_le_length
          have b3 := List.count_pos_iff.mpr ((hmc c).mp hc)
          generalize l.count c = k at b2 b3
          generalize wf k2 c = y at b1
          have e1 : y * ((k : Int) - 1) ≤ 1000000 * ((k : Int) - 1) := Int.mul_le_mul_of_nonneg_right b1.2 (by omega)
          have e2 : -1000000 * ((k : Int) - 1) ≤ y * ((k : Int) - 1) := Int.mul_le_mul_of_nonneg_right b1.1 (by omega)
          omega
        refine ⟨_, rfl, M, _, rfl, SqL.of (s4 _ _ (s3 _ _ hM2)), by rw [List.length_map]; omega, b1, _, rfl, N, _, rfl, SqL.of hN4, by rw [List.length_map]; omega, b2, _, _, rfl, rfl, ?_⟩
        have := lcF_eq k1 k2 l cs ndc hmc
        have q' := q H4 ((s2.trans s3).trans s4)
        rw [← this] at q'
        exact q'

end
end My
end

section
set_option Elab.async false
set_option linter.all false
set_option maxRecDepth 100000
set_option maxHeartbeats 2000000
namespace My
open PySem L2
section
variable {P : Program} {w : World} {K : PySem.W.Frag} {mg : Str → Option Value} {base : Heap}
def kfF (k1 k2 : List (Key × V)) (ws : List (List Nat)) (i : Nat) : Int := lcF k1 k2 (ws.getD i [])
theorem best_uniq {kf : Nat → Int} {n i j : Nat} (hi : i < n) (hj : j < n) (h1 : best kf n i) (h2 : best kf n j) : i = j := by
  have a := h1 j hj
  have b := h2 i hi
  rcases Nat.lt_trichotomy i j with z | z | z
  · have := b.2 z; omega
  · exact z
  · have := a.2 z; omega
def spBest (C : Addr) : Sp := fun vs H Q _ => ∃ (p dx ps pd : Addr) (l : List Nat) (m : Nat) (k1 k2 : List (Key × V)), vs = [.ref p, .str (S l), .int m] ∧ H p = some (.ins C dx [("singles", .ref ps), ("doubles", .ref pd)]) ∧ H ps = some (.dK k1) ∧ H pd = some (.dK k2) ∧ WE k1 ∧ WE k2 ∧ l.length ≤ 7 ∧ m ≤ l.length ∧
  ∀ (sr : List Nat) (ws : List (List Nat)) (i : Nat) (hi : i < ws.length) (H' : Hp), Same H H' → sr.Perm l → Srt sr → Pk sr m ws → best (kfF k1 k2 ws) ws.length i → Q (.str (S ws[i])) H'
theorem ok_best {f C g1 g2 : Addr} {fd fe1 fe2 : FuncData} (F : Fun K "best_of" "Leaves.best_of" s_Leaves_best_of f fd) (T_Leaves : LeavesCls K C) (n_max : mg "max" = none) (m_Leaves_of : Meth K C "of" g1) (G_Leaves_of : FnOk P w K mg base CX0 1 g1 fe1 ["self", "rack", "many"] spOf) (b_Leaves_of : Binds K fe1 ["self", "rack", "many"] [])
    (m_Leaves_counts : Meth K C "counts" g2) (v_Leaves_counts : MethV K "counts" g2) (G_Leaves_counts : FnOk P w K mg base CX0 1 g2 fe2 ["self", "left"] (spCounts C)) (b_Leaves_counts : Binds K fe2 ["self", "left"] []) : FnOk P w K mg base CX0 4 f fd ["self", "rack", "many"] (spBest C) := by
  refine F.qok sc_Leaves_best_of (fun vs H Q E h => ?_) (fun cdv A outer s H vs Q E hr h => ?_)
  · obtain ⟨p, dx, ps, pd, l, m, k1, k2, rfl, _⟩ := h
    rfl
  · obtain ⟨p, dx, ps, pd, l, m, k1, k2, rfl, hp, hps, hpd, w1, w2, hl, hm, q⟩ := h
    refine ⟨_, (qss_one (qs_ret (qe_maxK (qe_meth (qv 0) T_Leaves.cl m_Leaves_of G_Leaves_of (hr.mono (by decide)) b_Leaves_of .nil pass0 (qa_cons (qv 1) (qa_cons (qv 2) qa_nil))) (qv 0) T_Leaves.cl m_Leaves_counts v_Leaves_counts G_Leaves_counts (Room.in1 (hr.mono (by decide))) b_Leaves_counts rfl (by rfl) n_max rfl))), ?_⟩
    refine ⟨_, rfl, p, dx, _, rfl, hp, rfl, _, rfl, _, rfl, p, l, m, rfl, hl, fun sr ws t H1 s1 pm so ht pk => ?_⟩
    have hsl : sr.length = l.length := pm.length_eq
    have h0 : 0 < ws.length := by
      have : sr.take m ∈ ws := (pk.mem _).mpr ⟨List.take_sublist _ _, by rw [List.length_take]; omega⟩
      exact List.length_pos_of_mem this
    refine ⟨_, rfl, p, dx, _, rfl, s1 _ _ hp, rfl, fun qa hqa => ?_⟩
    have s2 : Same H1 (upd H1 qa (.met g2 p)) := Same.upd hqa
    refine ⟨t, qa, p, ws, kfF k1 k2 ws, rfl, rfl, upd_same, s2 _ _ ht, h0, fun i hi H' Q' sm hQ => ?_, fun i hi H3 hb sm => q sr ws i hi H3 ((s1.trans s2).trans sm) pm so pk hb⟩
    have k := (s1.trans s2).trans sm
    have e : kfF k1 k2 ws i = lcF k1 k2 ws[i] := by unfold kfF; simp [List.getD, hi]
    have hwl : (ws[i]).length ≤ 7 := by
      have := ((pk.mem _).mp (List.getElem_mem hi)).1.length_le
      omega
    exact ⟨p, dx, ps, pd, ws[i], k1, k2, rfl, k _ _ hp, k _ _ hps, k _ _ hpd, w1, w2, hwl, fun H'' s'' => by rw [← e]; exact hQ H'' s''⟩

end
end My
end

section
set_option Elab.async false
set_option linter.all false
set_option maxRecDepth 100000
set_option maxHeartbeats 2000000
namespace My
open PySem L2
section
variable {P : Program} {w : World} {K : PySem.W.Frag} {mg : Str → Option Value} {base : Heap}
theorem cut_mem {ds : List Int} {lo hi : Option Int} {v : V} (h : v ∈ cutV (ds.map V.int) lo hi) : ∃ d : Int, v = .int d := by
  unfold cutV at h
  have h2 := List.mem_of_mem_drop (List.mem_of_mem_take h)
  obtain ⟨d, hd, e⟩ := List.mem_map.mp h2
  exact ⟨d, e.symm⟩
theorem ok_law {C f g0 g3 : Addr} {fd fe0 fe3 : FuncData} (F : Fun K "law" "law" s_law f fd) (n_len : mg "len" = none) (n_str : mg "str" = none) (n_isinstance : mg "isinstance" = none) (T_Leaves : LeavesCls K C) (mg_Leaves : mg "Leaves" = some (.ref C)) (M_Leaves : Mk K C g0) (G_Leaves : FnOk P w K mg base CX0 1 g0 fe0 ["self", "singles", "doubles"] (spLInit C)) (b_Leaves : Binds K fe0 ["self", "singles", "doubles"] [])
    (m_Leaves_best_of : Meth K C "best_of" g3) (G_Leaves_best_of : FnOk P w K mg base CX0 4 g3 fe3 ["self", "rack", "many"] (spBest C)) (b_Leaves_best_of : Binds K fe3 ["self", "rack", "many"] [])
    (D_letters : Def P w K mg base "_law_letters" 1 ["_law_cell"] spLetC) (D_cell_at : Def P w K mg base "_law_cell_at" 1 ["_law_script", "_law_k"] (spCell K)) (D_draw : Def P w K mg base "_law_draw" 1 ["_law_cell", "_law_j"] spDraw) (D_tiles : Def P w K mg base "_law_tiles" 2 ["_law_cell", "_law_letters_here", "_law_most"] spTilesR) (D_picks : Def P w K mg base "_law_picks" 1 ["_law_rack", "_law_many"] spPicks)
    (D_told : Def P w K mg base "_law_told" 2 ["_law_cell", "_law_letters_here", "_law_by"] spTold) (D_leave_counts : Def P w K mg base "_law_leave_counts" 1 ["_law_singles", "_law_doubles", "_law_left"] spLC) : FnOk P w K mg base CX0 8 f fd ["_law_script"] (spLaw K) := by
  refine F.qok sc_law (fun vs H Q E h => ?_) (fun cdv A outer s H vs Q E hr h => ?_)
  · obtain ⟨a, ns, rfl, _⟩ := h
    rfl
  · obtain ⟨a, ns, rfl, hS, hn, q⟩ := h
    refine ⟨_, (qss_cons (qs_set (i := 1) sc_law.nd rfl (Or.inl rfl) (qe_own D_letters (hr.mono (by decide)) rfl (qa_cons (qe_own D_cell_at (hr.mono (by decide)) rfl (qa_cons (qv 0) (qa_cons qe_int qa_nil))) qa_nil))) (qss_cons (qs_set (i := 2) sc_law.nd rfl (Or.inl rfl) (qe_own D_told (hr.mono (by decide)) rfl (qa_cons (qe_own D_cell_at (hr.mono (by decide)) rfl (qa_cons (qv 0) (qa_cons qe_int qa_nil))) (qa_cons (qv 1) (qa_cons qe_int qa_nil))))) (qss_cons (qs_set (i := 3) sc_law.nd rfl (Or.inl rfl) (qe_own D_told (hr.mono (by decide)) rfl (qa_cons (qe_own D_cell_at (hr.mono (by decide)) rfl (qa_cons (qv 0) (qa_cons qe_int qa_nil))) (qa_cons (qv 1) (qa_cons qe_int qa_nil))))) (qss_cons (qs_set (i := 4) sc_law.nd rfl (Or.inl rfl) (qe_make M_Leaves G_Leaves (hr.mono (by decide)) rfl mg_Leaves b_Leaves .nil pass0 (qa_cons (qv 2) (qa_cons (qv 3) qa_nil)))) (qss_cons (qs_for PassesOwn.never rfl (qi_list (qe_slice sl_list (qv 0) (qo_some qe_int) (qo_some qe_int))) (qg_name (i := 5) sc_law.nd rfl (Or.inl rfl)) (qss_cons (qs_set (i := 6) sc_law.nd rfl (Or.inl rfl) (qe_own D_tiles (hr.mono (by decide)) rfl (qa_cons (qe_own D_draw (hr.mono (by decide)) rfl (qa_cons (qv 5) (qa_cons qe_int qa_nil))) (qa_cons (qv 1) (qa_cons qe_int qa_nil))))) (qss_cons (qs_set (i := 7) sc_law.nd rfl (Or.inl rfl) (qe_op op_mod (qe_own D_draw (hr.mono (by decide)) rfl (qa_cons (qv 5) (qa_cons qe_int qa_nil))) (qe_op op_add (qe_callB call_lenS (by rfl) n_len PySem.boot_len (qa_cons (qv 6) qa_nil)) qe_int))) (qss_cons (qs_set (i := 8) sc_law.nd rfl (Or.inl rfl) (qe_own D_picks (hr.mono (by decide)) rfl (qa_cons (qv 6) (qa_cons (qv 7) qa_nil)))) (qss_cons (qs_set (i := 9) sc_law.nd rfl (Or.inl rfl) (qe_meth (qv 4) T_Leaves.cl m_Leaves_best_of G_Leaves_best_of (hr.mono (by decide)) b_Leaves_best_of .nil pass0 (qa_cons (qv 6) (qa_cons (qv 7) qa_nil)))) (qss_cons (qs_if (QW.qt (qw_or (qt_not (qt_val (qe_callB call_isinst (by rfl) n_isinstance PyProof.Rows.boot_isinstance (qa_cons (qv 9) (qa_cons (qe_bltn (v := .ty "str") (by rfl) n_str PyProof.Rows.boot_str rfl) qa_nil))))) (qw_or (qt_cmpR op_notIn_seq (qv 9) (qv 8) rfl) (qw_or1 (qt_cmpR op_neS (qe_meth (qv 4) T_Leaves.cl m_Leaves_best_of G_Leaves_best_of (hr.mono (by decide)) b_Leaves_best_of .nil pass0 (qa_cons (qe_revS (qv 6) (qe_un un_neg qe_int)) (qa_cons (qv 7) qa_nil))) (qv 9) (nomark _)))))) (qss_one (qs_ret qe_bl)) qss_nil) (qss_cons (qs_set (i := 10) sc_law.nd rfl (Or.inl rfl) (qe_own D_leave_counts (hr.mono (by decide)) rfl (qa_cons (qv 2) (qa_cons (qv 3) (qa_cons (qv 9) qa_nil))))) (qss_one (qs_for PassesOwn.never rfl (qi_list (qv 8)) (qg_name (i := 11) sc_law.nd rfl (Or.inl rfl)) (qss_cons (qs_set (i := 12) sc_law.nd rfl (Or.inl rfl) (qe_own D_leave_counts (hr.mono (by decide)) rfl (qa_cons (qv 2) (qa_cons (qv 3) (qa_cons (qv 11) qa_nil))))) (qss_one (qs_if (QW.qt (qw_or (qt_cmpR op_gt (qv 12) (qv 10) (nomark _)) (qw_or1 (QW.qt (qw_and (qt_cmpR op_eq (qv 12) (qv 10) (nomark _)) (qw_and1 (qt_cmpR op_ltS (qv 11) (qv 9) (nomark _)))))))) (qss_one (qs_ret qe_bl)) qss_nil)))))))))))) (qss_one (qs_ret qe_bl))))))), ?_⟩
    refine ⟨_, rfl, a, ns, 0, rfl, hS, fun c0 => ⟨c0, rfl, fun ls H1 s1 hA => ?_⟩⟩
    refine ⟨_, rfl, a, ns, 0, rfl, s1.seq hS, fun c1 => ⟨_, rfl, c1, ls, 10, rfl, hA, by decide, by decide, fun d1 k1 H2 s2 hd1 nd1 w1 z1 => ?_⟩⟩
    have sH2 := s1.trans s2
    refine ⟨_, rfl, a, ns, 0, rfl, sH2.seq hS, fun c2 => ⟨_, rfl, c2, ls, 60, rfl, hA, by decide, by decide, fun d2 k2 H3 s3 hd2 nd2 w2 z2 => ?_⟩⟩
    have hd13 := s3 _ _ hd1
    refine ⟨_, rfl, _, rfl, ?_⟩
    intro b dx nx ndx nex
    have t2 : Same H3 (upd (upd H3 dx (HO.own b)) b (HO.ins C dx [])) := fun c o e => by rw [upd_ne (ne_of_none e nx), upd_ne (ne_of_none e ndx)]; exact e
    refine ⟨b, dx, d1, d2, _, _, rfl, upd_same, t2 _ _ hd13, t2 _ _ hd2, fun ps pd H7 kp hb7 hps hpd nps npd => ⟨rfl, ?_⟩⟩
    have s7 : Same H3 H7 := fun c o e => kp c o (t2 c o e) (ne_of_none e nx)
    have sHa : Same H H7 := sH2.trans (s3.trans s7)
    have hd17 := s7 _ _ hd13
    have hd27 := s7 _ _ hd2
    refine ⟨_, rfl, _, rfl, _, rfl, a, _, rfl, sHa.seq hS, fun ta hta => ?_⟩
    generalize hxs : cutV (ns.map V.int) (some 1) (some 61) = xs
    have s8 : Same H7 (upd H7 ta (.lst xs)) := Same.upd hta
    have hta' : upd H7 ta (.lst xs) ta = some (.lst xs) := upd_same
    generalize upd H7 ta (.lst xs) = H8 at s8 hta' ⊢
    refine ⟨ta, rfl, ⟨_, SqL.of hta'⟩, for_list (K := K) (a := ta) (xs := xs) (fun n σ H' => ∃ v5 v6 v7 v8 v9 v10 v11 v12 : Option V, σ = [some (.ref a), some (.str (S ls)), some (.ref d1), some (.ref d2), some (.ref b), v5, v6, v7, v8, v9, v10, v11, v12] ∧ Same H8 H')
      ⟨none, none, none, none, none, none, none, none, rfl, Same.refl _⟩ (fun n σ H' _ h => by obtain ⟨_, _, _, _, _, _, _, _, _, sm⟩ := h; exact SqL.of (sm _ _ hta')) ?_ ?_⟩
    · rintro n x σ H9 hx ⟨v5, v6, v7, v8, v9, v10, v11, v12, rfl, s9⟩
      obtain ⟨c, rfl⟩ : ∃ c : Int, x = .int c := by
        have := List.mem_of_getElem? hx
        rw [← hxs] at this
        exact cut_mem this
      have s79 := s8.trans s9
      refine ⟨_, rfl, c, 1, rfl, by decide, fun nu => ⟨_, rfl, nu, ls, 7, rfl, hA, by decide, fun l hl hc => ?_⟩⟩
      have hz : l.length ≤ sizeLine := Nat.le_of_lt (small1000 (by omega))
      refine ⟨_, rfl, c, 2, rfl, by decide, fun nu2 => ?_⟩
      obtain ⟨m, hm, hml⟩ : ∃ m : Nat, nu2 % ((l.length : Int) + 1) = (m : Int) ∧ m ≤ l.length := by
        have h1 := Int.emod_nonneg nu2 (show (l.length : Int) + 1 ≠ 0 by omega)
        have h2 := Int.emod_lt_of_pos nu2 (show (0 : Int) < (l.length : Int) + 1 by omega)
        exact ⟨(nu2 % ((l.length : Int) + 1)).toNat, by omega, by omega⟩
      refine ⟨_, rfl, l, rfl, hz, _, _, rfl, rfl, _, _, rfl, rfl, (by show (0 : Int) < (l.length : Int) + 1; omega), ?_⟩
      show gName 7 (V.int (nu2 % ((l.length : Int) + 1))) _ _ _
      rw [hm]
      refine ⟨_, rfl, _, rfl, l, m, rfl, hl, fun sr ws p H10 s10 pm so hp pk => ?_⟩
      have k10 := s79.trans s10
      refine ⟨_, rfl, b, dx, _, rfl, k10 _ _ hb7, rfl, _, rfl, _, rfl, b, dx, ps, pd, l, m, k1, k2, rfl, k10 _ _ hb7, k10 _ _ hps, k10 _ _ hpd, w1, w2, hl, hml, fun sr2 ws2 i hi H11 s11 pm2 so2 pk2 hb2 => ?_⟩
      have e2 : sr2 = sr := srt_uniq so2 so (pm2.trans pm.symm)
      subst e2
      have e3 := pk2.uniq pk
      subst e3
      have k11 := k10.trans s11
      have hp11 := s11 _ _ hp
      have hwl : ∀ w ∈ ws2, w.length ≤ 7 := fun w hw => by
        have := ((pk.mem w).mp hw).1.length_le
        have := pm.length_eq
        omega
      refine ⟨_, rfl, _, _, _, true, rfl, .str _, rfl, _, rfl, iteF ?_⟩
      refine ⟨_, rfl, _, rfl, p, Ts ws2, rfl, .inl (SqL.of hp11), rfl, flat_Ts ws2, ?_⟩
      rw [inV_str, decide_eq_true (List.getElem_mem hi)]
      refine ⟨_, rfl, iteF ?_⟩
      refine ⟨_, rfl, b, dx, _, rfl, k11 _ _ hb7, rfl, _, rfl, _, rfl, l, rfl, rfl, hz, _, rfl, b, dx, ps, pd, l.reverse, m, k1, k2, rfl, k11 _ _ hb7, k11 _ _ hps, k11 _ _ hpd, w1, w2, by rw [List.length_reverse]; exact hl, by rw [List.length_reverse]; exact hml, fun sr3 ws3 i3 hi3 H12 s12 pm3 so3 pk3 hb3 => ?_⟩
      have e4 : sr3 = sr2 := srt_uniq so3 so ((pm3.trans (List.reverse_perm l)).trans pm.symm)
      subst e4
      have e5 := pk3.uniq pk
      subst e5
      have e6 := best_uniq hi3 hi hb3 hb2
      subst e6
      have k12 := k11.trans s12
      refine ⟨_, rfl, ws3[i3], ws3[i3], rfl, rfl, ?_⟩
      rw [decide_eq_true rfl]
      refine ⟨_, rfl, iteF ?_⟩
      refine ⟨_, rfl, _, rfl, _, rfl, d1, d2, ws3[i3], k1, k2, rfl, k12 _ _ hd17, k12 _ _ hd27, w1, w2, hwl _ (List.getElem_mem hi), ?_⟩
      have hp12 := s12 _ _ hp11
      refine ⟨_, rfl, p, rfl, ⟨_, SqL.of hp12⟩, for_list (K := K) (a := p) (xs := Ts ws3) (fun n σ H' => ∃ v11 v12 : Option V, σ = [some (.ref a), some (.str (S ls)), some (.ref d1), some (.ref d2), some (.ref b), some (.int c), some (.str (S l)), some (.int m), some (.ref p), some (.str (S ws3[i3])), some (.int (lcF k1 k2 ws3[i3])), v11, v12] ∧ H' = H12)
        ⟨v11, v12, rfl, rfl⟩ (fun n σ H' _ h => by obtain ⟨_, _, _, rfl⟩ := h; exact SqL.of hp12) ?_ ?_⟩
      · rintro j y σ H13 hy ⟨v11, v12, rfl, rfl⟩
        have hj : j < ws3.length := by have := (List.getElem?_eq_some_iff.mp hy).1; simpa using this
        have ey : y = .str (S ws3[j]) := by
          have : (Ts ws3)[j]? = some (.str (S ws3[j])) := by simp [hj]
          rw [this] at hy; exact (Option.some.inj hy).symm
        subst ey
        refine ⟨_, rfl, _, rfl, _, rfl, d1, d2, ws3[j], k1, k2, rfl, k12 _ _ hd17, k12 _ _ hd27, w1, w2, hwl _ (List.getElem_mem hj), ?_⟩
        have ei : kfF k1 k2 ws3 i3 = lcF k1 k2 ws3[i3] := by unfold kfF; simp [List.getD, hi]
        have ej : kfF k1 k2 ws3 j = lcF k1 k2 ws3[j] := by unfold kfF; simp [List.getD, hj]
        have hbj := hb2 j hj
        rw [ei, ej] at hbj
        refine ⟨_, rfl, _, rfl, _, _, rfl, rfl, _, rfl, ?_⟩
        rw [decide_eq_false (by omega)]
        refine iteF ⟨_, rfl, _, rfl, rfl, _, rfl, ?_⟩
        by_cases e : lcF k1 k2 ws3[j] = lcF k1 k2 ws3[i3]
        · rw [decide_eq_true (by rw [e])]
          refine iteT ⟨_, rfl, _, rfl, ws3[j], ws3[i3], rfl, rfl, _, rfl, ?_⟩
          have hle : i3 ≤ j := by
            rcases Nat.lt_or_ge j i3 with z | z
            · have := hbj.2 z; omega
            · exact z
          have hnl : decide (ws3[j] < ws3[i3]) = false := by
            rcases Nat.lt_or_ge i3 j with z | z
            · exact List.pairwise_iff_getElem.mp pk.so i3 j hi hj z
            · have : j = i3 := by omega
              subst this
              exact decide_eq_false (List.lt_irrefl _)
          rw [hnl]
          exact iteF ⟨_, _, rfl, rfl⟩
        · rw [decide_eq_false (fun z => e (by injection z))]
          exact iteF ⟨_, _, rfl, rfl⟩
      · rintro σ H13 ⟨v11, v12, rfl, rfl⟩
        exact ⟨_, _, _, _, _, _, _, _, rfl, s9.trans (s10.trans (s11.trans s12))⟩
    · rintro σ H9 ⟨v5, v6, v7, v8, v9, v10, v11, v12, rfl, s9⟩
      exact q _

end
end My
end

set_option Elab.async false
set_option linter.all false
set_option maxRecDepth 100000
set_option maxHeartbeats 2000000
namespace My
open PySem L2
section
variable {P : Program} {w : World} {K : PySem.W.Frag} {mg : Str → Option Value} {base : Heap}
structure LeavesFacts (K : PySem.W.Frag) (mg : Str → Option Value) (C f0 f1 f2 f3 : Addr) (fd0 fd1 fd2 fd3 : FuncData) : Prop where
  T : LeavesCls K C
  mgC : mg "Leaves" = some (.ref C)
  M : Mk K C f0
  F0 : Fun K "__init__" "Leaves.__init__" s_Leaves_init f0 fd0
  b0 : Binds K fd0 ["self", "singles", "doubles"] []
  F1 : Fun K "counts" "Leaves.counts" s_Leaves_counts f1 fd1
  b1 : Binds K fd1 ["self", "left"] []
  m1 : Meth K C "counts" f1
  F2 : Fun K "of" "Leaves.of" s_Leaves_of f2 fd2
  b2 : Binds K fd2 ["self", "rack", "many"] []
  m2 : Meth K C "of" f2
  F3 : Fun K "best_of" "Leaves.best_of" s_Leaves_best_of f3 fd3
  b3 : Binds K fd3 ["self", "rack", "many"] []
  m3 : Meth K C "best_of" f3
  v1 : MethV K "counts" f1
theorem Leaves_mk {h : Heap} {C f0 f1 f2 f3 : Addr} (X : K.In h) (G : h.Ns mainGlobals mg)
    {od0 an0 od1 an1 od2 an2 od3 an3 : Option Addr} {sl0 sl1 sl2 sl3 : Array (Option Value)} {oc0 kV0 dc0 pm0 cd0 ct0 oc1 kV1 dc1 pm1 cd1 ct1 oc2 kV2 dc2 pm2 cd2 ct2 oc3 kV3 dc3 pm3 cd3 ct3 : Value}
    (aC : PySem.W.nsIn K mainGlobals "Leaves" = some (some (.ref C)))
    (a0 : PySem.W.findIn K (.ref C) "__init__" = some (some (.ref f0))) (i0 : PySem.W.isFn K (.ref f0) = true) (l0 : K.lookup f0 = some ⟨oc0, od0, .func (PySem.W.fnOf "__init__" "Leaves.__init__" (defArgs s_Leaves_init) (defBody s_Leaves_init) (defScope s_Leaves_init) .none kV0 dc0 pm0 an0 cd0 ct0), sl0⟩) (c0 : PySem.W.codeIn K cd0 "Leaves.__init__" = true) (k0 : PySem.W.keepIn K (.ref f0) = true)
    (a1 : PySem.W.findIn K (.ref C) "counts" = some (some (.ref f1))) (i1 : PySem.W.isFn K (.ref f1) = true) (l1 : K.lookup f1 = some ⟨oc1, od1, .func (PySem.W.fnOf "counts" "Leaves.counts" (defArgs s_Leaves_counts) (defBody s_Leaves_counts) (defScope s_Leaves_counts) .none kV1 dc1 pm1 an1 cd1 ct1), sl1⟩) (c1 : PySem.W.codeIn K cd1 "Leaves.counts" = true) (k1 : PySem.W.keepIn K (.ref f1) = true)
    (a2 : PySem.W.findIn K (.ref C) "of" = some (some (.ref f2))) (i2 : PySem.W.isFn K (.ref f2) = true) (l2 : K.lookup f2 = some ⟨oc2, od2, .func (PySem.W.fnOf "of" "Leaves.of" (defArgs s_Leaves_of) (defBody s_Leaves_of) (defScope s_Leaves_of) .none kV2 dc2 pm2 an2 cd2 ct2), sl2⟩) (c2 : PySem.W.codeIn K cd2 "Leaves.of" = true) (k2 : PySem.W.keepIn K (.ref f2) = true)
    (a3 : PySem.W.findIn K (.ref C) "best_of" = some (some (.ref f3))) (i3 : PySem.W.isFn K (.ref f3) = true) (l3 : K.lookup f3 = some ⟨oc3, od3, .func (PySem.W.fnOf "best_of" "Leaves.best_of" (defArgs s_Leaves_best_of) (defBody s_Leaves_best_of) (defScope s_Leaves_best_of) .none kV3 dc3 pm3 an3 cd3 ct3), sl3⟩) (c3 : PySem.W.codeIn K cd3 "Leaves.best_of" = true) (k3 : PySem.W.keepIn K (.ref f3) = true)
    (pg : PySem.W.plainGet K C Str.empty = true) (hd : PySem.W.hasDictIn K C = true) (po : PySem.W.plainOver K C = true) (sa : PySem.W.findIn K (.ref C) "__setattr__" = some (some (.builtin "object.__setattr__"))) (mk : PySem.W.makesIn K C = true) (kc : PySem.W.keepIn K (.ref C) = true) (vg1 : PySem.W.specialIn K (.ref f1) "__get__" = some (some (.builtin "function.__get__"))) (vt1 : PySem.W.takesIn K (.ref f1) = some false) (nf0 : PySem.W.findIn K (.ref C) "singles" = some none) (nf1 : PySem.W.findIn K (.ref C) "doubles" = some none) : ∃ C f0 f1 f2 f3 fd0 fd1 fd2 fd3, LeavesFacts K mg C f0 f1 f2 f3 fd0 fd1 fd2 fd3 := by
  have F0 := fun_mk (st := s_Leaves_init) l0 c0 k0
  have F1 := fun_mk (st := s_Leaves_counts) l1 c1 k1
  have F2 := fun_mk (st := s_Leaves_of) l2 c2 k2
  have F3 := fun_mk (st := s_Leaves_best_of) l3 c3 k3
  exact ⟨C, f0, f1, f2, f3, _, _, _, _, ⟨⟨pg, hd, po, sa⟩, nf0, nf1⟩, PySem.W.mg_of X G aC, ⟨mk, a0, i0, kc⟩, F0, F0.binds (ps := ["self", "singles", "doubles"]) (fun _ _ _ _ _ _ us hl => match us, hl with | [_, _, _], _ => rfl), F1, F1.binds (ps := ["self", "left"]) (fun _ _ _ _ _ _ us hl => match us, hl with | [_, _], _ => rfl), ⟨a1, i1, k1⟩, F2, F2.binds (ps := ["self", "rack", "many"]) (fun _ _ _ _ _ _ us hl => match us, hl with | [_, _, _], _ => rfl), ⟨a2, i2, k2⟩, F3, F3.binds (ps := ["self", "rack", "many"]) (fun _ _ _ _ _ _ us hl => match us, hl with | [_, _, _], _ => rfl), ⟨a3, i3, k3⟩, ⟨vg1, vt1, by decide +kernel⟩⟩
theorem law_all (n_len : mg "len" = none) (n_range : mg "range" = none) (n_tuple : mg "tuple" = none) (n_str : mg "str" = none) (n_isinstance : mg "isinstance" = none) (n_sorted : mg "sorted" = none) (n_set : mg "set" = none) (n_dict : mg "dict" = none) (n_sum : mg "sum" = none) (n_max : mg "max" = none) (d_cell_at : DefAt K mg "_law_cell_at" s_cell_at ["_law_script", "_law_k"]) (d_draw : DefAt K mg "_law_draw" s_draw ["_law_cell", "_law_j"]) (d_letters : DefAt K mg "_law_letters" s_letters ["_law_cell"]) (d_told : DefAt K mg "_law_told" s_told ["_law_cell", "_law_letters_here", "_law_by"]) (d_leave_counts : DefAt K mg "_law_leave_counts" s_leave_counts ["_law_singles", "_law_doubles", "_law_left"]) (d_tiles : DefAt K mg "_law_tiles" s_tiles ["_law_cell", "_law_letters_here", "_law_most"]) (d_picks : DefAt K mg "_law_picks" s_picks ["_law_rack", "_law_many"]) {C_Leaves fLeaves0 fLeaves1 fLeaves2 fLeaves3 : Addr} {fdLeaves0 fdLeaves1 fdLeaves2 fdLeaves3 : FuncData} (B_Leaves : LeavesFacts K mg C_Leaves fLeaves0 fLeaves1 fLeaves2 fLeaves3 fdLeaves0 fdLeaves1 fdLeaves2 fdLeaves3)
    {f : Addr} {fd : FuncData} (F : Fun K "law" "law" s_law f fd) : FnOk P w K mg base CX0 20 f fd ["_law_script"] (spLaw K) := by
  have c1 := ok_cell_at (P := P) (w := w) (base := base) d_cell_at n_len
  have c2 := ok_draw (P := P) (w := w) (base := base) d_draw
  have c3 := ok_letters (P := P) (w := w) (base := base) d_letters n_range
  have c4 := ok_tilesR d_tiles n_len n_range c2
  have c5 := ok_told d_told n_len c2
  have c6 := ok_lc (P := P) (w := w) (base := base) d_leave_counts n_len n_range
  have c7 := ok_picks (P := P) (w := w) (base := base) d_picks n_len n_sorted
  have g0 := ok_linit (P := P) (w := w) (base := base) B_Leaves.F0 B_Leaves.T n_dict
  have g1 := ok_counts (P := P) (w := w) (base := base) B_Leaves.F1 B_Leaves.T n_sorted n_set n_sum
  have g2 := ok_of (P := P) (w := w) (base := base) B_Leaves.F2 n_len n_tuple n_sorted n_set
  have g3 := ok_best B_Leaves.F3 B_Leaves.T n_max B_Leaves.m2 g2 B_Leaves.b2 B_Leaves.m1 B_Leaves.v1 g1 B_Leaves.b1
  exact (ok_law F n_len n_str n_isinstance B_Leaves.T B_Leaves.mgC B_Leaves.M g0 B_Leaves.b0 B_Leaves.m3 g3 B_Leaves.b3 c3 c1 c2 c4 c7 c5 c6).mono (by decide)
end
end My
open PySem PySem.W PyProof.Rows
set_option maxRecDepth 100000 in
set_option maxHeartbeats 0 in
theorem PySem.Challenge.cw_letterrack_k52_the_best_leave_holds : PySem.Challenge.rw_letterrack_k52_the_best_leave.Holds := by
  w_on; o_law; k_head; (case hw => w_witness2)
  k_fill
  refine L2.walkLaw (x := "_law_script") (l := PySem.Challenge.rw_letterrack_k52_the_best_leave) rfl rfl (fun w h Y => PySem.W.kIn_of Y) ?F
  case F =>
    intro w mg fa h KX G hmg
    have n_len : mg "len" = none := by
      refine' PySem.W.mg_none_of KX G ?z
      (case z => k_is)
    have n_range : mg "range" = none := by
      refine' PySem.W.mg_none_of KX G ?z
      (case z => k_is)
    have n_tuple : mg "tuple" = none := by
      refine' PySem.W.mg_none_of KX G ?z
      (case z => k_is)
    have n_str : mg "str" = none := by
      refine' PySem.W.mg_none_of KX G ?z
      (case z => k_is)
    have n_isinstance : mg "isinstance" = none := by
      refine' PySem.W.mg_none_of KX G ?z
      (case z => k_is)
    have n_sorted : mg "sorted" = none := by
      refine' PySem.W.mg_none_of KX G ?z
      (case z => k_is)
    have n_set : mg "set" = none := by
      refine' PySem.W.mg_none_of KX G ?z
      (case z => k_is)
    have n_dict : mg "dict" = none := by
      refine' PySem.W.mg_none_of KX G ?z
      (case z => k_is)
    have n_sum : mg "sum" = none := by
      refine' PySem.W.mg_none_of KX G ?z
      (case z => k_is)
    have n_max : mg "max" = none := by
      refine' PySem.W.mg_none_of KX G ?z
      (case z => k_is)
    have d_cell_at : L2.DefAt (L2.KOf KX) mg "_law_cell_at" My.s_cell_at ["_law_script", "_law_k"] := by
      dsimp only [L2.KOf]
      refine' L2.defat_mk KX G ?a ?l ?c ?k ?b
      (case a => k_is); (case l => k_is); (case c => k_is); (case k => k_is)
      (case b => exact fun _ _ _ _ _ _ us hl => match us, hl with | [_, _], _ => rfl)
    have d_draw : L2.DefAt (L2.KOf KX) mg "_law_draw" My.s_draw ["_law_cell", "_law_j"] := by
      dsimp only [L2.KOf]
      refine' L2.defat_mk KX G ?a ?l ?c ?k ?b
      (case a => k_is); (case l => k_is); (case c => k_is); (case k => k_is)
      (case b => exact fun _ _ _ _ _ _ us hl => match us, hl with | [_, _], _ => rfl)
    have d_letters : L2.DefAt (L2.KOf KX) mg "_law_letters" My.s_letters ["_law_cell"] := by
      dsimp only [L2.KOf]
      refine' L2.defat_mk KX G ?a ?l ?c ?k ?b
      (case a => k_is); (case l => k_is); (case c => k_is); (case k => k_is)
      (case b => exact fun _ _ _ _ _ _ us hl => match us, hl with | [_], _ => rfl)
    have d_told : L2.DefAt (L2.KOf KX) mg "_law_told" My.s_told ["_law_cell", "_law_letters_here", "_law_by"] := by
      dsimp only [L2.KOf]
      refine' L2.defat_mk KX G ?a ?l ?c ?k ?b
      (case a => k_is); (case l => k_is); (case c => k_is); (case k => k_is)
      (case b => exact fun _ _ _ _ _ _ us hl => match us, hl with | [_, _, _], _ => rfl)
    have d_leave_counts : L2.DefAt (L2.KOf KX) mg "_law_leave_counts" My.s_leave_counts ["_law_singles", "_law_doubles", "_law_left"] := by
      dsimp only [L2.KOf]
      refine' L2.defat_mk KX G ?a ?l ?c ?k ?b
      (case a => k_is); (case l => k_is); (case c => k_is); (case k => k_is)
      (case b => exact fun _ _ _ _ _ _ us hl => match us, hl with | [_, _, _], _ => rfl)
    have d_tiles : L2.DefAt (L2.KOf KX) mg "_law_tiles" My.s_tiles ["_law_cell", "_law_letters_here", "_law_most"] := by
      dsimp only [L2.KOf]
      refine' L2.defat_mk KX G ?a ?l ?c ?k ?b
      (case a => k_is); (case l => k_is); (case c => k_is); (case k => k_is)
      (case b => exact fun _ _ _ _ _ _ us hl => match us, hl with | [_, _, _], _ => rfl)
    have d_picks : L2.DefAt (L2.KOf KX) mg "_law_picks" My.s_picks ["_law_rack", "_law_many"] := by
      dsimp only [L2.KOf]
      refine' L2.defat_mk KX G ?a ?l ?c ?k ?b
      (case a => k_is); (case l => k_is); (case c => k_is); (case k => k_is)
      (case b => exact fun _ _ _ _ _ _ us hl => match us, hl with | [_, _], _ => rfl)
    have xbf_Leaves : ∃ C f0 f1 f2 f3 fd0 fd1 fd2 fd3, My.LeavesFacts (L2.KOf KX) mg C f0 f1 f2 f3 fd0 fd1 fd2 fd3 := by
      dsimp only [L2.KOf]
      refine' My.Leaves_mk KX G ?aC ?a0 ?i0 ?l0 ?c0 ?k0 ?a1 ?i1 ?l1 ?c1 ?k1 ?a2 ?i2 ?l2 ?c2 ?k2 ?a3 ?i3 ?l3 ?c3 ?k3 ?pg ?hd ?po ?sa ?mk ?kc ?vg1 ?vt1 ?nf0 ?nf1
      (case aC => k_is)
      (case a0 => k_is)
      (case i0 => k_is)
      (case l0 => k_is)
      (case c0 => k_is)
      (case k0 => k_is)
      (case a1 => k_is)
      (case i1 => k_is)
      (case l1 => k_is)
      (case c1 => k_is)
      (case k1 => k_is)
      (case a2 => k_is)
      (case i2 => k_is)
      (case l2 => k_is)
      (case c2 => k_is)
      (case k2 => k_is)
      (case a3 => k_is)
      (case i3 => k_is)
      (case l3 => k_is)
      (case c3 => k_is)
      (case k3 => k_is)
      (case pg => k_is)
      (case hd => k_is)
      (case po => k_is)
      (case sa => k_is)
      (case mk => k_is)
      (case kc => k_is)
      (case vg1 => k_is)
      (case vt1 => k_is)
      (case nf0 => k_is)
      (case nf1 => k_is)
    obtain ⟨_, _, _, _, _, _, _, _, _, bf_Leaves⟩ := xbf_Leaves
    have lw : ∃ fd : FuncData, L2.Fun (L2.KOf KX) "law" "law" My.s_law fa fd ∧ ∀ (s : Shared) (v : Value), BindsTo s fd ⟨[v], []⟩ [("_law_script", v)] := by
      dsimp only [L2.KOf]
      refine' L2.law_at KX G hmg ?a ?l ?c ?k ?b
      (case a => k_is); (case l => k_is); (case c => k_is); (case k => k_is)
      (case b => exact fun _ _ _ _ _ _ _ => rfl)
    obtain ⟨fd, F, hb⟩ := lw
    exact ⟨fd, hb, fun base _ _ => My.law_all n_len n_range n_tuple n_str n_isinstance n_sorted n_set n_dict n_sum n_max d_cell_at d_draw d_letters d_told d_leave_counts d_tiles d_picks bf_Leaves F⟩
