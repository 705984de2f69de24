import PyProof.Rows.All
import Wide.All
import OpenK.AllK
import Wide.FinOn
import Lean
import PyProof.EqAt
import PyProof.EqKinds
import PyProof.TupleCall
import KE.KRevIter
import PyProof.JoinWalk
import PyProof.CollectIter
import KE.KDictSum
import KE.KSortTup
import PyProof.ListMulRoad
import PyProof.Rows.SeqMore
import PyProof.FactsAll.tuple_2
import PyProof.WalkInts
import PyProof.SeqI3
import KE.KIntText
import KE.KEqDict
import KE.KDictOf
import PySem.Challenge.RW_letterrack_k31_whole_points_of_a_laying
set_option bootstrap.genMatcherCode false
section
set_option Elab.async false
set_option linter.all false
set_option maxRecDepth 100000
namespace L2
open PySem PySem.Spec PyProof.Rows

abbrev Key := Sum Int Str
def keyIs : Key → Value → Bool
  | .inl k, v => Value.isInt k v
  | .inr x, v => Value.isStrOf x v
def keyH (w : World) : Key → Int
  | .inl k => hashInt k
  | .inr x => hashStr w x
theorem keyIs_shape : ∀ {k : Key} {v : Value}, keyIs k v = true → (∃ i t, k = Sum.inl i ∧ v = Value.int i t) ∨ (∃ x t, k = Sum.inr x ∧ v = Value.str x t)
  | .inl i, v, h => by
    obtain ⟨t, e⟩ := Value.isInt_shape (k := i) (v := v) h
    exact .inl ⟨i, t, rfl, e⟩
  | .inr x, v, h => by
    obtain ⟨t, e⟩ := Value.isStrOf_shape (x := x) (v := v) h
    exact .inr ⟨x, t, rfl, e⟩
theorem keyIs_int (i : Int) (t : Tok) : keyIs (.inl i) (.int i t) = true := by simp [keyIs, Value.isInt]
theorem keyIs_str (x : Str) (t : Tok) : keyIs (.inr x) (.str x t) = true := by simp [keyIs, Value.isStrOf]
theorem key_ll (a b : Int) : decide ((Sum.inl a : Key) = Sum.inl b) = (a == b) := by
  by_cases e : a = b
  · subst e; simp
  · have h : ¬ (Sum.inl a : Key) = Sum.inl b := fun q => e (Sum.inl.inj q)
    rw [decide_eq_false h]
    exact (beq_eq_false_iff_ne.mpr e).symm
theorem key_rr (a b : Str) : decide ((Sum.inr a : Key) = Sum.inr b) = decide (a = b) := by
  by_cases e : a = b
  · subst e; simp
  · have h : ¬ (Sum.inr a : Key) = Sum.inr b := fun q => e (Sum.inr.inj q)
    rw [decide_eq_false h, decide_eq_false e]
theorem key_lr (a : Int) (b : Str) : decide ((Sum.inl a : Key) = Sum.inr b) = false := decide_eq_false (fun q => nomatch q)
theorem key_rl (a : Str) (b : Int) : decide ((Sum.inr a : Key) = Sum.inl b) = false := decide_eq_false (fun q => nomatch q)

def mixKind (prog : Program) (w : World) : PySem.KeyKind prog w Key where
  is := keyIs
  hash := keyH w
  inj := fun v a b ha hb => by
    rcases keyIs_shape ha with ⟨i, t, rfl, rfl⟩ | ⟨x, t, rfl, rfl⟩
    · rcases keyIs_shape hb with ⟨j, u, rfl, e⟩ | ⟨y, u, rfl, e⟩
      · injection e with e1 _; rw [e1]
      · exact nomatch e
    · rcases keyIs_shape hb with ⟨j, u, rfl, e⟩ | ⟨y, u, rfl, e⟩
      · exact nomatch e
      · injection e with e1 _; rw [e1]
  byValue := fun k v h => by
    rcases keyIs_shape h with ⟨i, t, rfl, rfl⟩ | ⟨x, t, rfl, rfl⟩ <;> rfl
  pyHash := fun hv h => by
    rcases keyIs_shape hv with ⟨i, t, rfl, rfl⟩ | ⟨x, t, rfl, rfl⟩
    · exact wpAny_pyHash_int h
    · exact wpAny_pyHash_str h
  eqBool := fun hu hv h => by
    rcases keyIs_shape hu with ⟨i, t, rfl, rfl⟩ | ⟨x, t, rfl, rfl⟩
    · rcases keyIs_shape hv with ⟨j, u, rfl, rfl⟩ | ⟨y, u, rfl, rfl⟩
      · rw [key_ll] at h; exact wpAny_eqBool_int h
      · rw [key_lr] at h; exact SeqAt.EqAt.int_str i t y u _ _ _ _ h
    · rcases keyIs_shape hv with ⟨j, u, rfl, rfl⟩ | ⟨y, u, rfl, rfl⟩
      · rw [key_rl] at h; exact SeqAt.EqAt.str_int x t j u _ _ _ _ h
      · rw [key_rr] at h; exact wpAny_eqBool_str h
  «strs» := fun k x t v h => by
    rcases keyIs_shape h with ⟨i, u, rfl, e⟩ | ⟨y, u, rfl, e⟩
    · exact nomatch e
    · injection e with e1 _
      subst e1
      cases v <;> rfl

theorem mixKind_int (prog : Program) (w : World) (i : Int) (t : Tok) : (mixKind prog w).is (.inl i) (.int i t) = true := keyIs_int i t
theorem mixKind_str (prog : Program) (w : World) (x : Str) (t : Tok) : (mixKind prog w).is (.inr x) (.str x t) = true := keyIs_str x t
end L2

namespace L2
open PySem PySem.Spec PyProof.Rows

inductive V where
  | non | bl (b : Bool) | int (i : Int) | str (x : Str) | byt (b : Array UInt8) | flt (b : UInt64) | ref (a : Addr) | ty (n : String)
  deriving DecidableEq

def RelV : V → Value → Prop
  | .non, u => u = Value.none
  | .bl b, u => u = Value.bool b
  | .int i, u => ∃ t, u = Value.int i t
  | .str x, u => ∃ t, u = Value.str x t
  | .byt b, u => ∃ t, u = Value.bytes b t
  | .flt b, u => ∃ t, u = Value.float b t
  | .ref a, u => u = Value.ref a
  | .ty n, u => u = Value.type n

abbrev Vals : List V → List Value → Prop := Paired RelV
theorem Vals.length {xs : List V} {us : List Value} (r : Vals xs us) : xs.length = us.length := Paired.length r
theorem Vals.get : ∀ {xs : List V} {us : List Value} {i : Nat} {x : V}, Vals xs us → xs[i]? = some x → ∃ u, us[i]? = some u ∧ RelV x u
  | _, _, _, _, .nil, e => by simp at e
  | _, _, 0, _, .cons r _, e => by simp at e; subst e; exact ⟨_, rfl, r⟩
  | _, _, i + 1, x, .cons _ t, e => by
    obtain ⟨u, h1, h2⟩ := Vals.get (i := i) (x := x) t (by simpa using e)
    exact ⟨u, by simpa using h1, h2⟩
theorem Vals.set {x : V} {u : Value} (r : RelV x u) : ∀ {xs : List V} {us : List Value} (i : Nat), Vals xs us → Vals (xs.set i x) (us.set i u)
  | _, _, _, .nil => .nil
  | _, _, 0, .cons _ t => .cons r t
  | _, _, i + 1, .cons q t => .cons q (Vals.set r i t)
theorem Vals.append : ∀ {xs ys : List V} {us ws : List Value}, Vals xs us → Vals ys ws → Vals (xs ++ ys) (us ++ ws)
  | _, _, _, _, .nil, s => s
  | _, _, _, _, .cons r t, s => .cons r (Vals.append t s)
theorem Vals.take : ∀ {xs : List V} {us : List Value} (n : Nat), Vals xs us → Vals (xs.take n) (us.take n)
  | _, _, 0, _ => .nil
  | _, _, _ + 1, .nil => .nil
  | _, _, n + 1, .cons r t => .cons r (Vals.take n t)
theorem Vals.drop : ∀ {xs : List V} {us : List Value} (n : Nat), Vals xs us → Vals (xs.drop n) (us.drop n)
  | _, _, 0, r => r
  | _, _, _ + 1, .nil => .nil
  | _, _, n + 1, .cons _ t => Vals.drop n t
def RelO : Option V → Option Value → Prop
  | some v, some u => RelV v u
  | none, none => True
  | _, _ => False
def KV {κ : Type} : List (κ × V) → List (κ × Value) → Prop := Paired fun (p : κ × V) (q : κ × Value) => p.1 = q.1 ∧ RelV p.2 q.2

def kV : Key → V
  | .inl i => .int i
  | .inr x => .str x

inductive HO where
  /-- a list -/
  | lst (xs : List V)
  /-- a tuple (never changes) -/
  | tup (xs : List V)
  /-- a dict whose keys are ints and texts; one whose keys are tuples of ints and texts (the empty one is both) -/
  | dK (kvs : List (Key × V)) | dT (kvs : List (List Key × V))
  /-- a set of ints: its members, its size -/
  | set (S : Int → Bool) (n : Nat)
  /-- an instance of the class at C, its dict at dx, its attributes -/
  | ins (C dx : Addr) (fs : List (Str × V))
  /-- the dict of the instance at x -/
  | own (x : Addr)
  /-- the dict of an exception -/
  | xd (fs : List (Str × V))
  /-- a bound method, f of x -/
  | met (f x : Addr)
  /-- a range object lo, lo + 1, .. below hi -/
  | rng (lo hi : Int)
  /-- a thing that is known to the object (the script; a dict while a loop walks it): read, never written while it is so -/
  | frz (o : Obj) (u : HO)
  /-- a code object's table -/
  | tbl (ps : Array Value)
  /-- any other thing, by what is true of its one object (a def of one's own: SetO a S n := HO.ext fun h => ..) -/
  | ext (φ : Heap → Prop)

abbrev Hp := Addr → Option HO
def upd (H : Hp) (a : Addr) (o : HO) : Hp := fun b => if b = a then some o else H b
theorem upd_same {H : Hp} {a : Addr} {o : HO} : upd H a o a = some o := by unfold upd; rw [if_pos rfl]
theorem upd_ne {H : Hp} {a b : Addr} {o : HO} (h : b ≠ a) : upd H a o b = H b := by unfold upd; rw [if_neg h]
theorem ne_of {H : Hp} {a b : Addr} {o u : HO} (h : H a = some o) (h' : H b = some u) (d : o ≠ u) : a ≠ b := by
  intro e; subst e; rw [h] at h'; exact d (Option.some.inj h')
theorem ne_of_none {H : Hp} {a b : Addr} {o : HO} (h : H a = some o) (h' : H b = none) : a ≠ b := by
  intro e; subst e; rw [h] at h'; cases h'

section
variable (P : Program) (w : World)
def ObjOk (H : Hp) (h : Heap) (a : Addr) : HO → Prop
  | .lst xs => xs.length ≤ sizeLine ∧ ∃ (its : List Value) (n : Nat), Vals xs its ∧ h.get? a = some { cls := .type "list", data := .seq its.toArray n }
  | .tup xs => xs.length ≤ sizeLine ∧ ∃ its : List Value, Vals xs its ∧ IsTup h a its.toArray
  | .dK kvs => kvs.length ≤ sizeLine ∧ (a == sysModules) = false ∧ ∃ vs, KV kvs vs ∧ h.DictOf (mixKind P w) a vs
  | .dT kvs => kvs.length ≤ sizeLine ∧ (a == sysModules) = false ∧ ∃ xs : List (List Key × Addr × Value),
      Paired (fun (p : List Key × V) (q : List Key × Addr × Value) => p.1 = q.1 ∧ H q.2.1 = some (.tup (p.1.map kV)) ∧ RelV p.2 q.2.2) kvs xs ∧
      ∃ o es ep, h.get? a = some o ∧ o.ExactDict ∧ o.data = .dict es ep ∧ es.toList = xs.map (entryOfKey (tupleKind (mixKind P w))) ∧ (xs.map (·.1)).Nodup
  | .set S n => h.SetOf (intKind P w) a S n
  | .ins C dx fs => H dx = some (.own a) ∧ fs.length ≤ 1000 ∧ dx ≠ a ∧ h.get? a = some (PySem.W.instObj C dx) ∧
      ∃ mA, h.Ns1 dx mA ∧ (∀ f, RelO (fs.lookup f) (mA f)) ∧ PySem.Within mA (fs.map (·.1))
  | .own _ => ∃ o, h.get? a = some o
  | .xd fs => ∃ mA, h.Ns1 a mA ∧ ∀ f, RelO (fs.lookup f) (mA f)
  | .rng lo hi => ∃ t u v, h.get? a = some { cls := .type "range", data := .fields #[.int lo t, .int hi u, .int 1 v] }
  | .frz o u => h.get? a = some o ∧ ObjOk H h a u
  | .tbl ps => h.get? a = some { cls := .none, data := .fields ps }
  | .met f x => h.get? a = some (PySem.W.methodObj (.ref f) (.ref x))
  | .ext φ => φ h ∧ (∃ o, h.get? a = some o) ∧ ∀ h1 h2 : Heap, φ h1 → (∀ o, h1.get? a = some o → h2.get? a = some o) → φ h2
def HOk (H : Hp) (h : Heap) : Prop := ∀ a o, H a = some o → ObjOk P w H h a o
end

section
variable {P : Program} {w : World} {H H' : Hp} {h h' : Heap} {a : Addr} {o : HO}
theorem ObjOk.lt (x : ObjOk P w H h a o) : a < h.objs.size := by
  cases o with
  | lst xs => obtain ⟨_, _, _, _, e⟩ := x; exact Heap.lt_size e
  | tup xs => obtain ⟨_, _, _, p⟩ := x; exact p.lt
  | dK kvs => obtain ⟨_, _, _, _, o, _, _, e, _⟩ := x; exact Heap.lt_size e
  | dT kvs => obtain ⟨_, _, _, _, o, _, _, e, _⟩ := x; exact Heap.lt_size e
  | set S n => obtain ⟨o, _, _, _, e, _⟩ := x; exact Heap.lt_size e
  | ins C dx fs => obtain ⟨_, _, _, e, _⟩ := x; exact Heap.lt_size e
  | own y => obtain ⟨_, e⟩ := x; exact Heap.lt_size e
  | xd fs => obtain ⟨_, ⟨_, _, _, e, _⟩, _⟩ := x; exact Heap.lt_size e
  | rng lo hi => obtain ⟨_, _, _, e⟩ := x; exact Heap.lt_size e
  | frz ob u => obtain ⟨e, _⟩ := x; exact Heap.lt_size e
  | tbl ps => exact Heap.lt_size (show h.get? a = some _ from x)
  | met f y => exact Heap.lt_size (show h.get? a = some _ from x)
  | ext φ => obtain ⟨_, ⟨_, e⟩, _⟩ := x; exact Heap.lt_size e
theorem Paired.mapP {α β : Type} {F G : α → β → Prop} : ∀ {l₁ : List α} {l₂ : List β}, Paired F l₁ l₂ → (∀ a b, F a b → G a b) → Paired G l₁ l₂
  | _, _, .nil, _ => .nil
  | _, _, .cons r t, f => .cons (f _ _ r) (Paired.mapP t f)
theorem ObjOk.stay (x : ObjOk P w H h a o) (k : ∀ b u, (b = a ∨ H b = some (.own a)) → h.get? b = some u → h'.get? b = some u)
    (ho : ∀ b, H b = some (.own a) → H' b = some (.own a)) (ht : ∀ b xs, H b = some (.tup xs) → H' b = some (.tup xs)) : ObjOk P w H' h' a o := by
  induction o with
  | lst xs => obtain ⟨z, its, n, r, e⟩ := x; exact ⟨z, its, n, r, k _ _ (.inl rfl) e⟩
  | tup xs => obtain ⟨z, its, r, ob, e, c⟩ := x; exact ⟨z, its, r, ob, k _ _ (.inl rfl) e, c⟩
  | dK kvs => obtain ⟨z, y, vs, r, ob, es, ep, e, c⟩ := x; exact ⟨z, y, vs, r, ob, es, ep, k _ _ (.inl rfl) e, c⟩
  | dT kvs =>
    obtain ⟨z, y, xs, r, ob, es, ep, e, c⟩ := x
    exact ⟨z, y, xs, Paired.mapP r fun p q z => ⟨z.1, ht _ _ z.2.1, z.2.2⟩, ob, es, ep, k _ _ (.inl rfl) e, c⟩
  | set S n => obtain ⟨ob, es, ep, t, e, c⟩ := x; exact ⟨ob, es, ep, t, k _ _ (.inl rfl) e, c⟩
  | ins C dx fs =>
    obtain ⟨d, z, ne, e, mA, ⟨od, es, ep, e2, c⟩, r⟩ := x
    exact ⟨ho _ d, z, ne, k _ _ (.inl rfl) e, mA, ⟨od, es, ep, k _ _ (.inr d) e2, c⟩, r⟩
  | own y => obtain ⟨ob, e⟩ := x; exact ⟨ob, k _ _ (.inl rfl) e⟩
  | xd fs => obtain ⟨mA, ⟨od, es, ep, e, c⟩, r⟩ := x; exact ⟨mA, ⟨od, es, ep, k _ _ (.inl rfl) e, c⟩, r⟩
  | rng lo hi => obtain ⟨t, u, v, e⟩ := x; exact ⟨t, u, v, k _ _ (.inl rfl) e⟩
  | frz ob u ih => obtain ⟨e, q⟩ := x; exact ⟨k _ _ (.inl rfl) e, ih q⟩
  | tbl ps =>
    have e : h.get? a = some { cls := .none, data := .fields ps } := x
    show h'.get? a = some { cls := .none, data := .fields ps }
    exact k a _ (.inl rfl) e
  | met f y =>
    have e : h.get? a = some (PySem.W.methodObj (.ref f) (.ref y)) := x
    show h'.get? a = some (PySem.W.methodObj (.ref f) (.ref y))
    exact k a _ (.inl rfl) e
  | ext φ => obtain ⟨p, ⟨o, e⟩, st⟩ := x; exact ⟨st _ _ p fun o q => k _ _ (.inl rfl) q, ⟨o, k _ _ (.inl rfl) e⟩, st⟩
theorem HOk.lt (x : HOk P w H h) (e : H a = some o) : a < h.objs.size := (x a o e).lt
theorem HOk.fresh (x : HOk P w H h) (e : h.objs.size ≤ a) : H a = none := by
  cases q : H a with
  | none => rfl
  | some u => exact absurd (Nat.lt_of_lt_of_le (x.lt q) e) (Nat.lt_irrefl _)
theorem HOk.kept (x : HOk P w H h) (k : ∀ b u, h.get? b = some u → h'.get? b = some u) : HOk P w H h' := fun a o e =>
  (x a o e).stay (fun b u _ q => k b u q) (fun _ q => q) fun _ _ q => q
theorem HOk.laid (x : HOk P w H h) (k : ∀ b u, h.get? b = some u → h'.get? b = some u) (hp : h.objs.size ≤ a) (new : ObjOk P w (upd H a o) h' a o) : HOk P w (upd H a o) h' := fun b u e => by
  have hn := x.fresh hp
  by_cases hb : b = a
  · subst hb; rw [upd_same] at e; cases e; exact new
  · rw [upd_ne hb] at e
    exact (x b u e).stay (fun c v _ q => k c v q) (fun c q => by rw [upd_ne (ne_of_none q hn)]; exact q) fun c xs q => by rw [upd_ne (ne_of_none q hn)]; exact q
end

def Rd (H : Hp) (a : Addr) (u : HO) : Prop := H a = some u ∨ ∃ o, H a = some (.frz o u)
theorem Rd.ok {P : Program} {w : World} {H : Hp} {h : Heap} {a : Addr} {u : HO} (r : Rd H a u) (x : HOk P w H h) : ObjOk P w H h a u := by
  rcases r with r | ⟨o, r⟩
  · exact x a u r
  · obtain ⟨_, q⟩ := x a _ r
    exact q
def Mut : Option HO → Prop
  | some (.lst _) => True
  | some (.dK _) => True
  | some (.dT _) => True
  | some (.set _ _) => True
  | some (.ins _ _ _) => True
  | some (.ext _) => True
  | _ => False
section
variable {P : Program} {w : World} {H : Hp} {h h' : Heap} {x e : Addr} {o' : HO}
theorem HOk.write (ok : HOk P w H h) (mu : Mut (H x)) (he : e = x ∨ H e = some (.own x)) (k : ∀ b u, b ≠ e → h.get? b = some u → h'.get? b = some u) (heo : ∃ u, h'.get? e = some u)
    (new : ObjOk P w (upd H x o') h' x o') : HOk P w (upd H x o') h' := fun b u q => by
  have nown : ∀ c y, H c = some (.own y) → c ≠ x := fun c y r z => by subst z; rw [r] at mu; exact mu
  have ntup : ∀ c xs, H c = some (.tup xs) → c ≠ x := fun c xs r z => by subst z; rw [r] at mu; exact mu
  by_cases hb : b = x
  · subst hb; rw [upd_same] at q; cases q; exact new
  · rw [upd_ne hb] at q
    by_cases hbe : b = e
    · have q' : H b = some (.own x) := by
        rcases he with z | z
        · exact absurd (hbe.trans z) hb
        · rw [hbe]; exact z
      rw [q] at q'; cases q'
      obtain ⟨v, hv⟩ := heo
      exact ⟨v, by rw [hbe]; exact hv⟩
    · refine (ok b u q).stay (fun c v hc r => k c v ?_ r) (fun c r => by rw [upd_ne (nown c b r)]; exact r) fun c xs r => by rw [upd_ne (ntup c xs r)]; exact r
      rcases hc with rfl | hc
      · exact hbe
      · rintro rfl
        rcases he with z | z
        · exact nown c b hc z
        · rw [hc] at z; cases z; exact hb rfl
end

structure Un (fs ex : List Addr) (H H' : Hp) (h h' : Heap) : Prop where
  keep : ∀ b o, h.get? b = some o → H b = none → b ∉ fs → b ∉ ex → h'.get? b = some o
  slot : ∀ b o, h.get? b = some o → H b = none → b ∈ fs → b ∉ ex → ∃ sl, h'.get? b = some { o with slots := sl }
  free : ∀ b o, h.get? b = some o → H b = none → b ∉ ex → H' b = none
  there : ∀ b o, h.get? b = some o → b ∉ ex → ∃ o', h'.get? b = some o'
  tups : ∀ b xs, H b = some (.tup xs) → H' b = some (.tup xs)
  frzs : ∀ b o u, H b = some (.frz o u) → H' b = some (.frz o u)
  tbls : ∀ b ps, H b = some (.tbl ps) → ∃ more, H' b = some (.tbl (ps ++ more))
section
variable {fs fs' ex ex' : List Addr} {H H1 H2 : Hp} {h h1 h2 h' : Heap} {a x e : Addr} {o : HO}
theorem Un.any (u : Un fs ex H H1 h h1) {b : Addr} {ob : Obj} (q : h.get? b = some ob) (n : H b = none) (hx : b ∉ ex) : ∃ sl, h1.get? b = some { ob with slots := sl } := by
  by_cases hb : b ∈ fs
  · exact u.slot b ob q n hb hx
  · exact ⟨ob.slots, u.keep b ob q n hb hx⟩
theorem Un.kept (k : ∀ b u, h.get? b = some u → h'.get? b = some u) : Un fs ex H H h h' :=
  ⟨fun b ob q _ _ _ => k b ob q, fun b ob q _ _ _ => ⟨ob.slots, k b ob q⟩, fun _ _ _ n _ => n, fun b ob q _ => ⟨ob, k b ob q⟩, fun _ _ q => q, fun _ _ _ q => q, fun _ ps q => ⟨#[], by rw [q]; simp⟩⟩
theorem Un.refl : Un fs ex H H h h := Un.kept fun _ _ q => q
theorem Un.laid (k : ∀ b u, h.get? b = some u → h'.get? b = some u) (hp : h.objs.size ≤ a) (hn : H a = none) : Un fs ex H (upd H a o) h h' where
  keep := fun b u q _ _ _ => k b u q
  slot := fun b u q _ _ _ => ⟨u.slots, k b u q⟩
  free := fun b u q n _ => by rw [upd_ne (Nat.ne_of_lt (Nat.lt_of_lt_of_le (Heap.lt_size q) hp))]; exact n
  there := fun b u q _ => ⟨u, k b u q⟩
  tups := fun b xs q => by rw [upd_ne (ne_of_none q hn)]; exact q
  frzs := fun b u xs q => by rw [upd_ne (ne_of_none q hn)]; exact q
  tbls := fun b ps q => ⟨#[], by rw [upd_ne (ne_of_none q hn), q]; simp⟩
theorem Un.write (mu : Mut (H x)) (he : e = x ∨ H e = some (.own x)) (k : ∀ b u, b ≠ e → h.get? b = some u → h'.get? b = some u) (heo : ∃ u, h'.get? e = some u) : Un fs ex H (upd H x o) h h' := by
  have hx : ∀ b, H b = none → b ≠ x := fun b n z => by subst z; rw [n] at mu; exact mu
  have hb : ∀ b, H b = none → b ≠ e := fun b n z => by
    subst z
    rcases he with r | r
    · exact hx b n r
    · rw [n] at r; cases r
  have hm : ∀ b u, H b = some u → ¬ Mut (some u) → b ≠ x := fun b u q nm z => by subst z; rw [q] at mu; exact nm mu
  refine ⟨fun b u q n _ _ => k b u (hb b n) q, fun b u q n _ _ => ⟨u.slots, k b u (hb b n) q⟩, fun b u q n _ => by rw [upd_ne (hx b n)]; exact n, fun b u q _ => ?_,
    fun b xs q => by rw [upd_ne (hm b _ q fun z => z)]; exact q, fun b u xs q => by rw [upd_ne (hm b _ q fun z => z)]; exact q, fun b ps q => ⟨#[], by rw [upd_ne (hm b _ q fun z => z), q]; simp⟩⟩
  by_cases hbe : b = e
  · subst hbe; exact heo
  · exact ⟨u, k b u hbe q⟩
end

def trk (h : Heap) (H : Hp) : List Addr := (List.range h.objs.size).filter fun a => (H a).isSome
def hidT (h : Heap) (H : Hp) : Heap := PySem.W.hideAll h (trk h H)
theorem hidT_size (h : Heap) (H : Hp) : (hidT h H).objs.size = h.objs.size := PySem.W.hideAll_size _ _
theorem hidT_get {h : Heap} {H : Hp} {b : Addr} {o : Obj} (e : h.get? b = some o) (n : H b = none) : (hidT h H).get? b = some o :=
  PySem.W.hideAll_get _ e fun hm => by
    have q : (H b).isSome = true := (List.mem_filter.mp hm).2
    rw [n] at q; simp at q
theorem of_hidT {h : Heap} {H : Hp} {b : Addr} {o : Obj} (e : (hidT h H).get? b = some o) : h.get? b = some o ∧ H b = none := by
  have e' : h.get? b = some o := PySem.W.of_hideAll (trk h H) e
  refine ⟨e', ?_⟩
  cases q : H b with
  | none => rfl
  | some x =>
    have hm : b ∈ trk h H := List.mem_filter.mpr ⟨List.mem_range.mpr (Heap.lt_size e'), by simp [q]⟩
    have z : (hidT h H).get? b = none := PySem.W.hideAll_none (trk h H) hm
    rw [z] at e; cases e

end L2

namespace L2
open PySem PySem.Spec PyProof.Rows

structure Mod (K : PySem.W.Frag) (mg : Str → Option Value) (base : Heap) : Prop where
  kin : K.In base
  glob : base.Ns mainGlobals mg
  blt : ∃ mb, base.Ns builtinsNs mb ∧ ∀ x : Str, x ≠ "__name__" → mb x = bootBuiltins x
  nolimit : base.NoLimit

structure Cx where
  prog : Program
  w : World
  K : PySem.W.Frag
  mg : Str → Option Value
  base : Heap
  A : Around
  N : List Str
  s₀ : Shared
  H₀ : Hp
  env : Env
  outer : List Env
  stack : List Env
  ex : List Addr
  fn : Str → Bool
  calm : Bool
  pn : List (Addr × Obj)
  xe : Value → Shared → Prop
def frs (l : List Env) : List Addr := l.filterMap (·.frame)
abbrev Cx.fs (X : Cx) : List Addr := frs X.outer

def Vis (sc : Scope) (x : Str) : Prop := sc.names.lookup x = some .local ∨ sc.names.lookup x = some .cell ∨ sc.names.lookup x = some .free
def Loc (sc : Scope) (x : Str) : Prop := sc.names.lookup x = some .local ∨ sc.names.lookup x = some .cell
def Look (env : Env) (h : Heap) (m : Str → Option Value) (x : Str) (u : Value) : Prop :=
  (env.kindOf x = some .local ∧ m x = some u) ∨ ((env.kindOf x = some .cell ∨ env.kindOf x = some .free) ∧ ∃ c, env.cells.lookup x = some c ∧ h.IsCell c (some u))

structure Cx.Ok (X : Cx) : Prop where
  mod : Mod X.K X.mg X.base
  kind : X.env.scope.kind = .function
  glob : X.env.globals = mainGlobals
  blt : X.env.builtins = builtinsNs
  above : X.s₀.heap.objs.size ≤ X.env.locals
  inj : ∀ x y c, X.env.cells.lookup x = some c → X.env.cells.lookup y = some c → x = y
  has : ∀ x, (X.env.kindOf x = some .cell ∨ X.env.kindOf x = some .free) → ∃ c, X.env.cells.lookup x = some c
  cab : ∀ x c, X.fn x = true → X.env.cells.lookup x = some c → X.s₀.heap.objs.size ≤ c
  hd : X.calm = true → X.A.handled = none
  frames : X.A.frames = some X.stack
  stk : X.stack = X.outer ∨ (X.stack = X.env :: X.outer ∧ X.env.frame = some X.env.locals)
  exf : ∀ b ∈ X.ex, b ≠ X.env.locals ∧ ∀ x c, X.env.cells.lookup x = some c → c ≠ b
  bs : ∀ b o, X.base.get? b = some o → X.s₀.heap.get? b = some o ∧ X.H₀ b = none
  bsz : X.base.objs.size ≤ X.s₀.heap.objs.size
  noex : ∀ b o, X.base.get? b = some o → b ∉ X.ex
  exfs : ∀ b ∈ X.ex, b ∉ X.fs
  funs : X.s₀.heap.FunFrames X.base X.outer
  frf : ∀ b ∈ X.fs, X.H₀ b = none

structure Inv (X : Cx) (pins : List (Addr × Obj)) (σ : List (Option V)) (H : Hp) (s : Shared) : Prop where
  ok : X.Ok
  os : s.os = X.s₀.os
  bare : AllBare s.gens
  base : Un X.fs X.ex X.H₀ H X.s₀.heap s.heap
  loc : ∃ m, s.heap.Ns X.env.locals m ∧ ∀ (i : Nat) (x : Str) (v : V), X.N[i]? = some x → σ[i]? = some (some v) → Vis X.env.scope x → ∃ u, RelV v u ∧ Look X.env s.heap m x u
  cell : ∀ x c, X.env.cells.lookup x = some c → ∃ v, s.heap.IsCell c v
  free : H X.env.locals = none
  freeC : ∀ x c, X.env.cells.lookup x = some c → H c = none
  pin : ∀ p ∈ X.pn ++ pins, s.heap.get? p.1 = some p.2 ∧ H p.1 = none ∧ p.1 ≠ X.env.locals ∧ p.1 ∉ X.fs ∧ ∀ v, p.2.data ≠ .cell v
  hok : HOk X.prog X.w H s.heap
  len : σ.length = X.N.length

section
variable {X : Cx} {pins : List (Addr × Obj)} {σ : List (Option V)} {H H' : Hp} {s : Shared} {h' : Heap}

theorem Cx.Ok.nofr (ok : X.Ok) {b : Addr} {o : Obj} (e : X.base.get? b = some o) : b ∉ X.fs := fun hb => by
  have := (ok.funs.mem hb).1
  rw [e] at this; cases this
theorem Inv.bs (I : Inv X pins σ H s) : ∀ b o, X.base.get? b = some o → s.heap.get? b = some o ∧ H b = none := fun b o e =>
  ⟨I.base.keep b o (I.ok.bs b o e).1 (I.ok.bs b o e).2 (I.ok.nofr e) (I.ok.noex b o e), I.base.free b o (I.ok.bs b o e).1 (I.ok.bs b o e).2 (I.ok.noex b o e)⟩
theorem Inv.bk (I : Inv X pins σ H s) : ∀ b o, X.base.get? b = some o → s.heap.get? b = some o := fun b o e => (I.bs b o e).1
theorem Inv.mod (I : Inv X pins σ H s) : Mod X.K X.mg X.base := I.ok.mod
theorem Inv.kIn (I : Inv X pins σ H s) : X.K.In s.heap := I.ok.mod.kin.keeps I.bk
theorem Inv.lt (I : Inv X pins σ H s) : X.env.locals < s.heap.objs.size := let ⟨_, hn, _⟩ := I.loc; hn.lt
theorem Inv.sz (I : Inv X pins σ H s) : X.s₀.heap.objs.size ≤ s.heap.objs.size := Nat.le_trans I.ok.above (Nat.le_of_lt I.lt)
theorem Inv.nofs (I : Inv X pins σ H s) {a : Addr} (h : s.heap.objs.size ≤ a) : a ∉ X.fs := fun hb => by
  obtain ⟨_, o, ho, _⟩ := I.ok.funs.mem hb
  exact absurd (Nat.lt_of_lt_of_le (Heap.lt_size ho) (Nat.le_trans I.sz h)) (Nat.lt_irrefl _)
theorem Inv.cne (I : Inv X pins σ H s) : ∀ x c, X.env.cells.lookup x = some c → c ≠ X.env.locals := fun x c e z => by
  obtain ⟨v, o, ho, hd⟩ := I.cell x c e
  obtain ⟨m, ⟨o', es, ep, ho', hd', _⟩, _⟩ := I.loc
  rw [z, ho'] at ho; cases ho; rw [hd'] at hd; cases hd
theorem Inv.funs (I : Inv X pins σ H s) : s.heap.FunFrames X.base X.outer := by
  have all : ∀ (l : List Env), (∀ b ∈ frs l, b ∈ X.fs) → X.s₀.heap.FunFrames X.base l → s.heap.FunFrames X.base l := by
    intro l
    induction l with
    | nil => intro _ _; trivial
    | cons env r ih =>
      intro hs hl
      obtain ⟨hk, ⟨L, o, hf, hn, ho, hd⟩, hr⟩ := hl
      have hL : L ∈ X.fs := hs L (by unfold frs; rw [List.filterMap_cons, hf]; exact List.mem_cons_self)
      obtain ⟨sl, e⟩ := I.base.slot L o ho (I.ok.frf L hL) hL fun z => I.ok.exfs L z hL
      exact ⟨hk, ⟨L, _, hf, hn, e, hd⟩, ih (fun b hb => hs b (by unfold frs; rw [List.filterMap_cons, hf]; exact List.mem_cons_of_mem _ hb)) hr⟩
  exact all X.outer (fun _ hb => hb) I.ok.funs

theorem Inv.stack (I : Inv X pins σ H s) : s.heap.FunFrames X.base X.stack := by
  rcases I.ok.stk with e | ⟨e, hf⟩
  · rw [e]; exact I.funs
  · rw [e]
    obtain ⟨m, hn, _⟩ := I.loc
    refine .cons (by rw [I.ok.kind]; decide) hf hn ?_ I.funs
    exact Heap.get?_none_of_le (Nat.le_trans I.ok.bsz I.ok.above)
theorem Inv.stkSub (I : Inv X pins σ H s) : ∀ b ∈ frs X.stack, b ∈ X.env.locals :: X.fs := fun b hb => by
  rcases I.ok.stk with e | ⟨e, hf⟩
  · rw [e] at hb; exact List.mem_cons_of_mem _ hb
  · rw [e] at hb
    unfold frs at hb
    rw [List.filterMap_cons, hf] at hb
    exact hb
theorem Inv.stkFree (I : Inv X pins σ H s) : ∀ b ∈ frs X.stack, H b = none := fun b hb => by
  rcases List.mem_cons.mp (I.stkSub b hb) with e | hb
  · rw [e]; exact I.free
  · obtain ⟨_, o, ho, _⟩ := I.ok.funs.mem hb
    exact I.base.free b o ho (I.ok.frf b hb) fun z => I.ok.exfs b z hb

theorem Inv.step {g' : Array GenState} {t' : Nat} {d' : Drawn} {ch : List Addr} (I : Inv X pins σ H s)
    (hch : ∀ b ∈ ch, (b ∈ X.ex ∨ X.s₀.heap.objs.size ≤ b) ∧ b ≠ X.env.locals ∧ (∀ x c, X.env.cells.lookup x = some c → c ≠ b) ∧ ∀ p ∈ X.pn ++ pins, p.1 ≠ b)
    (keep : ∀ b o, b ≠ X.env.locals → b ∉ X.fs → b ∉ ch → s.heap.get? b = some o → H b = none → h'.get? b = some o)
    (slot : ∀ b o, b ≠ X.env.locals → b ∈ X.fs → b ∉ ch → s.heap.get? b = some o → H b = none → ∃ sl, h'.get? b = some { o with slots := sl }) (free : ∀ b o, b ∉ ch → s.heap.get? b = some o → H b = none → H' b = none)
    (there : ∀ b o, b ∉ ch → s.heap.get? b = some o → ∃ o', h'.get? b = some o')
    (tups : ∀ b xs, H b = some (.tup xs) → H' b = some (.tup xs)) (frzs : ∀ b o u, H b = some (.frz o u) → H' b = some (.frz o u)) (tbls : ∀ b ps, H b = some (.tbl ps) → ∃ more, H' b = some (.tbl (ps ++ more)))
    (ns : ∀ m, s.heap.Ns X.env.locals m → h'.Ns X.env.locals m) (hok : HOk X.prog X.w H' h') (hg : AllBare g') :
    Inv X pins σ H' { s with heap := h', gens := g', drawn := d', toks := t' } := by
  have neL : ∀ b o, X.s₀.heap.get? b = some o → b ≠ X.env.locals := fun b o e => Nat.ne_of_lt (Nat.lt_of_lt_of_le (Heap.lt_size e) I.ok.above)
  have neC : ∀ b o, X.s₀.heap.get? b = some o → b ∉ X.ex → b ∉ ch := fun b o e hx hb => by
    rcases (hch b hb).1 with z | z
    · exact hx z
    · exact absurd (Nat.lt_of_lt_of_le (Heap.lt_size e) z) (Nat.lt_irrefl _)
  have cellK : ∀ x c, X.env.cells.lookup x = some c → ∀ v, s.heap.IsCell c v → h'.IsCell c v := fun x c e v ⟨o, ho, hd⟩ => by
    have nch : c ∉ ch := fun z => (hch c z).2.2.1 x c e rfl
    by_cases hc : c ∈ X.fs
    · obtain ⟨sl, q⟩ := slot c o (I.cne x c e) hc nch ho (I.freeC x c e)
      exact ⟨_, q, hd⟩
    · exact ⟨o, keep c o (I.cne x c e) hc nch ho (I.freeC x c e), hd⟩
  refine ⟨I.ok, I.os, hg, ⟨fun b o e n hb hx => ?_, fun b o e n hb hx => ?_, fun b o e n hx => ?_, fun b o e hx => ?_, fun b xs e => tups b xs (I.base.tups b xs e), fun b o xs e => frzs b o xs (I.base.frzs b o xs e), fun b ps e => ?_⟩, ?_, fun x c e => ?_, ?_, fun x c e => ?_, fun p hp => ?_, hok, I.len⟩
  · exact keep b o (neL b o e) hb (neC b o e hx) (I.base.keep b o e n hb hx) (I.base.free b o e n hx)
  · obtain ⟨sl, e1⟩ := I.base.slot b o e n hb hx
    obtain ⟨sl', e2⟩ := slot b _ (neL b o e) hb (neC b o e hx) e1 (I.base.free b o e n hx)
    exact ⟨sl', e2⟩
  · obtain ⟨o', e1⟩ := I.base.there b o e hx
    exact free b o' (neC b o e hx) e1 (I.base.free b o e n hx)
  · obtain ⟨o', e1⟩ := I.base.there b o e hx
    exact there b o' (neC b o e hx) e1
  · obtain ⟨m1, e1⟩ := I.base.tbls b ps e
    obtain ⟨m2, e2⟩ := tbls b _ e1
    exact ⟨m1 ++ m2, by rw [e2, Array.append_assoc]⟩
  · obtain ⟨m, hn, hl⟩ := I.loc
    refine ⟨m, ns m hn, fun i x v e1 e2 e3 => ?_⟩
    obtain ⟨u, r, l⟩ := hl i x v e1 e2 e3
    refine ⟨u, r, ?_⟩
    rcases l with l | ⟨k, c, e, z⟩
    · exact .inl l
    · exact .inr ⟨k, c, e, cellK x c e _ z⟩
  · obtain ⟨v, z⟩ := I.cell x c e
    exact ⟨v, cellK x c e v z⟩
  · obtain ⟨m, ⟨o, _, _, ho, _⟩, _⟩ := I.loc
    exact free _ o (fun z => (hch _ z).2.1 rfl) ho I.free
  · obtain ⟨v, o, ho, hd⟩ := I.cell x c e
    exact free c o (fun z => (hch c z).2.2.1 x c e rfl) ho (I.freeC x c e)
  · obtain ⟨e, n, ne, nf, d⟩ := I.pin p hp
    have nch : p.1 ∉ ch := fun z => (hch p.1 z).2.2.2 p hp rfl
    exact ⟨keep p.1 p.2 ne nf nch e n, free p.1 p.2 nch e n, ne, nf, d⟩
theorem Inv.un {t' : Nat} (I : Inv X pins σ H s) (u : Un X.fs [] H H' s.heap h') (hok : HOk X.prog X.w H' h') : Inv X pins σ H' { s with heap := h', toks := t' } := by
  obtain ⟨m, ⟨o, es, ep, ho, r⟩, _⟩ := id I.loc
  obtain ⟨sl, hL⟩ := u.any ho I.free (by simp)
  exact I.step (g' := s.gens) (d' := s.drawn) (ch := []) (fun _ z => nomatch z) (fun b o _ hb _ e n => u.keep b o e n hb (by simp)) (fun b o _ hb _ e n => u.slot b o e n hb (by simp)) (fun b o _ e n => u.free b o e n (by simp)) (fun b o _ e => u.there b o e (by simp)) u.tups u.frzs u.tbls (fun m' hm => by
    obtain ⟨o', es', ep', ho', r'⟩ := hm
    rw [ho] at ho'; cases ho'
    exact ⟨_, es', ep', hL, r'⟩) hok I.bare
theorem Inv.call {g' : Array GenState} {t' : Nat} {d' : Drawn} {ch : List Addr} (I : Inv X pins σ H s) (u : Un (frs X.stack) ch H H' s.heap h') (hok : HOk X.prog X.w H' h') (hg : AllBare g')
    (hch : ∀ b ∈ ch, (b ∈ X.ex ∨ X.s₀.heap.objs.size ≤ b) ∧ b ≠ X.env.locals ∧ (∀ x c, X.env.cells.lookup x = some c → c ≠ b) ∧ ∀ p ∈ X.pn ++ pins, p.1 ≠ b) :
    Inv X pins σ H' { s with heap := h', gens := g', drawn := d', toks := t' } := by
  obtain ⟨m, ⟨o, es, ep, ho, r⟩, _⟩ := id I.loc
  obtain ⟨sl, hL⟩ := u.any ho I.free fun z => (hch _ z).2.1 rfl
  exact I.step (ch := ch) hch (fun b o hL hb hc e n => u.keep b o e n (fun z => (List.mem_cons.mp (I.stkSub b z)).elim hL hb) hc) (fun b o _ _ hc e n => u.any e n hc) (fun b o hc e n => u.free b o e n hc) (fun b o hc e => u.there b o e hc) u.tups u.frzs u.tbls (fun m' hm => by
    obtain ⟨o', es', ep', ho', r'⟩ := hm
    rw [ho] at ho'; cases ho'
    exact ⟨_, es', ep', hL, r'⟩) hok hg
theorem Inv.turned {t' : Nat} {it : Addr} (I : Inv X pins σ H s) (k : ∀ b o, b ≠ it → s.heap.get? b = some o → h'.get? b = some o) (hn : H it = none) (hL : it ≠ X.env.locals)
    (h1 : it ∈ X.ex ∨ X.s₀.heap.objs.size ≤ it) (h2 : ∀ x c, X.env.cells.lookup x = some c → c ≠ it) (h3 : ∀ p ∈ X.pn ++ pins, p.1 ≠ it) : Inv X pins σ H { s with heap := h', toks := t' } := by
  have nit : ∀ b u, H b = some u → b ≠ it := fun b u e z => by rw [z, hn] at e; cases e
  refine I.step (g' := s.gens) (d' := s.drawn) (ch := [it]) (fun b hb => ?_) (fun b o _ _ hc e _ => k b o (fun z => hc (by simp [z])) e) (fun b o _ _ hc e _ => ⟨o.slots, k b o (fun z => hc (by simp [z])) e⟩) (fun _ _ _ _ n => n)
    (fun b o hc e => ⟨o, k b o (fun z => hc (by simp [z])) e⟩) (fun _ _ e => e) (fun _ _ _ e => e) (fun b ps e => ⟨#[], by rw [e]; simp⟩) (fun m hm => ?_) (fun b u e => ?_) I.bare
  · have e : b = it := by simpa using hb
    subst e
    exact ⟨h1, hL, h2, h3⟩
  · obtain ⟨o, es, ep, ho, r⟩ := hm
    exact ⟨o, es, ep, k _ o (Ne.symm hL) ho, r⟩
  · refine (I.hok b u e).stay (fun c v hc q => k c v ?_ q) (fun _ q => q) fun _ _ q => q
    rcases hc with z | z
    · rw [z]; exact nit b u e
    · exact nit c _ z
theorem Inv.tok (I : Inv X pins σ H s) (t : Nat) : Inv X pins σ H { s with toks := t } := I.un (h' := s.heap) (t' := t) Un.refl I.hok
theorem Inv.kept {t' : Nat} (I : Inv X pins σ H s) (k : ∀ b u, s.heap.get? b = some u → h'.get? b = some u) : Inv X pins σ H { s with heap := h', toks := t' } := I.un (Un.kept k) (I.hok.kept k)
theorem Inv.laid {a : Addr} {o : HO} {t' : Nat} (I : Inv X pins σ H s) (k : ∀ b u, s.heap.get? b = some u → h'.get? b = some u) (hp : s.heap.objs.size ≤ a) (new : ObjOk X.prog X.w (upd H a o) h' a o) :
    Inv X pins σ (upd H a o) { s with heap := h', toks := t' } := I.un (Un.laid k hp (I.hok.fresh hp)) (I.hok.laid k hp new)
theorem Inv.write {x e : Addr} {o : HO} {t' : Nat} (I : Inv X pins σ H s) (mu : Mut (H x)) (he : e = x ∨ H e = some (.own x)) (k : ∀ b u, b ≠ e → s.heap.get? b = some u → h'.get? b = some u) (heo : ∃ u, h'.get? e = some u)
    (new : ObjOk X.prog X.w (upd H x o) h' x o) : Inv X pins σ (upd H x o) { s with heap := h', toks := t' } := I.un (Un.write mu he k heo) (I.hok.write mu he k heo new)
theorem Inv.pins_of {pins' : List (Addr × Obj)} (I : Inv X pins σ H s) (h : ∀ p ∈ pins', s.heap.get? p.1 = some p.2 ∧ H p.1 = none ∧ p.1 ≠ X.env.locals ∧ p.1 ∉ X.fs ∧ ∀ v, p.2.data ≠ .cell v) : Inv X pins' σ H s :=
  ⟨I.ok, I.os, I.bare, I.base, I.loc, I.cell, I.free, I.freeC, fun p hp => (List.mem_append.mp hp).elim (fun z => I.pin p (List.mem_append_left _ z)) (h p), I.hok, I.len⟩

theorem nodup_ix {N : List Str} (hN : N.Nodup) {i j : Nat} {x : Str} (a : N[i]? = some x) (b : N[j]? = some x) : i = j := by
  obtain ⟨h1, e1⟩ := List.getElem?_eq_some_iff.mp a
  obtain ⟨h2, e2⟩ := List.getElem?_eq_some_iff.mp b
  exact (List.getElem_inj hN).mp (e1.trans e2.symm)

theorem store_ok2 {M : Model} {A : Around} {E : Value → Shared → Prop} {i : Nat} {x : Str} {v : V} {u : Value} {Q : Unit → Shared → Prop} (I : Inv X pins σ H s) (hN : X.N.Nodup) (hi : X.N[i]? = some x) (hx : Loc X.env.scope x) (r : RelV v u)
    (h : ∀ s', Inv X pins (σ.set i (some v)) H s' → (∃ a, Heap.SameBut a s.heap s'.heap ∧ (a = X.env.locals ∨ X.env.cells.lookup x = some a)) → Q () s') (hf : X.fn x = true ∨ X.env.scope.names.lookup x = some .local := by first | exact .inl rfl | exact .inr rfl | assumption) : wpAny M A (storeName X.env x u) Q E s := by
  obtain ⟨m, hn, hl⟩ := id I.loc
  have hcls : (X.env.scope.kind == .class || (X.env.scope.kind == .module && X.env.locals != X.env.globals)) = false := by rw [I.ok.kind]; rfl
  have hiσ : i < σ.length := by rw [I.len]; exact (List.getElem?_eq_some_iff.mp hi).1
  have cne := I.cne
  have tracked : ∀ {a : Addr} {h' : Heap}, (∃ o, s.heap.get? a = some o ∧ H a = none) → Heap.SameBut a s.heap h' → HOk X.prog X.w H h' := fun {a h'} ha hs b ob e => by
    obtain ⟨_, _, hfree⟩ := ha
    refine (I.hok b ob e).stay (fun c w' hc q => (hs.2 c ?_).trans q) (fun _ q => q) fun _ _ q => q
    rintro rfl
    rcases hc with rfl | hc
    · rw [hfree] at e; cases e
    · rw [hfree] at hc; cases hc
  rcases hx with hk | hk
  · refine wpAny_storeName_local hk hn (fun h' hn' hs => ?_) hcls
    obtain ⟨oL, _, _, hoL, _⟩ := id hn
    refine h _ ⟨I.ok, I.os, I.bare, ⟨fun b o e n hb hx => ?_, fun b o e n hb hx => ?_, I.base.free, fun b o e hx => ?_, I.base.tups, I.base.frzs, I.base.tbls⟩, ⟨_, hn', fun j y v' e1 e2 e3 => ?_⟩, fun y c e => ?_, I.free, I.freeC, fun p hp => ?_, tracked ⟨oL, hoL, I.free⟩ hs, by simpa using I.len⟩ ⟨_, hs, .inl rfl⟩
    · exact (hs.2 b (Nat.ne_of_lt (Nat.lt_of_lt_of_le (Heap.lt_size e) I.ok.above))).trans (I.base.keep b o e n hb hx)
    · obtain ⟨sl, e1⟩ := I.base.slot b o e n hb hx
      exact ⟨sl, (hs.2 b (Nat.ne_of_lt (Nat.lt_of_lt_of_le (Heap.lt_size e) I.ok.above))).trans e1⟩
    · obtain ⟨o', e1⟩ := I.base.there b o e hx
      exact ⟨o', (hs.2 b (Nat.ne_of_lt (Nat.lt_of_lt_of_le (Heap.lt_size e) I.ok.above))).trans e1⟩
    · by_cases hj : j = i
      · subst hj
        rw [hi] at e1; cases e1
        rw [List.getElem?_set_self hiσ] at e2
        cases e2
        exact ⟨u, r, .inl ⟨hk, by simp⟩⟩
      · rw [List.getElem?_set_ne (Ne.symm hj)] at e2
        obtain ⟨u', r', q⟩ := hl j y v' e1 e2 e3
        refine ⟨u', r', ?_⟩
        rcases q with ⟨k, e⟩ | ⟨k, c, e, z⟩
        · refine .inl ⟨k, ?_⟩
          have : y ≠ x := fun e => hj (nodup_ix hN e1 (e ▸ hi))
          simp [this, e]
        · exact .inr ⟨k, c, e, z.sameBut hs (cne y c e)⟩
    · obtain ⟨w', z⟩ := I.cell y c e
      exact ⟨w', z.sameBut hs (cne y c e)⟩
    · obtain ⟨e, n, ne, nf, d⟩ := I.pin p hp
      exact ⟨(hs.2 p.1 ne).trans e, n, ne, nf, d⟩
  · have hfn : X.fn x = true := by
      rcases hf with z | z
      · exact z
      · rw [z] at hk; cases hk
    obtain ⟨c, hc⟩ := I.ok.has x (.inl hk)
    obtain ⟨w', z⟩ := I.cell x c hc
    refine wpAny_storeName_cell I.ok.kind hk hc z (fun h' hc' hs => ?_)
    obtain ⟨oc, hoc, hocd⟩ := id z
    refine h { s with heap := h' } ⟨I.ok, I.os, I.bare, ⟨fun b o e n hb hx => ?_, fun b o e n hb hx => ?_, I.base.free, fun b o e hx => ?_, I.base.tups, I.base.frzs, I.base.tbls⟩, ⟨m, hn.sameBut hs (Ne.symm (cne x c hc)), fun j y v' e1 e2 e3 => ?_⟩, fun y c' e => ?_, I.free, I.freeC, fun p hp => ?_, tracked ⟨oc, hoc, I.freeC x c hc⟩ hs, by simpa using I.len⟩ ⟨c, hs, .inr hc⟩
    · exact (hs.2 b (Nat.ne_of_lt (Nat.lt_of_lt_of_le (Heap.lt_size e) (I.ok.cab x c hfn hc)))).trans (I.base.keep b o e n hb hx)
    · obtain ⟨sl, e1⟩ := I.base.slot b o e n hb hx
      exact ⟨sl, (hs.2 b (Nat.ne_of_lt (Nat.lt_of_lt_of_le (Heap.lt_size e) (I.ok.cab x c hfn hc)))).trans e1⟩
    · obtain ⟨o', e1⟩ := I.base.there b o e hx
      exact ⟨o', (hs.2 b (Nat.ne_of_lt (Nat.lt_of_lt_of_le (Heap.lt_size e) (I.ok.cab x c hfn hc)))).trans e1⟩
    · by_cases hj : j = i
      · subst hj
        rw [hi] at e1; cases e1
        rw [List.getElem?_set_self hiσ] at e2
        cases e2
        exact ⟨u, r, .inr ⟨.inl hk, c, hc, hc'⟩⟩
      · rw [List.getElem?_set_ne (Ne.symm hj)] at e2
        obtain ⟨u', r', q⟩ := hl j y v' e1 e2 e3
        refine ⟨u', r', ?_⟩
        rcases q with q | ⟨k, c', e, z'⟩
        · exact .inl q
        · refine .inr ⟨k, c', e, z'.sameBut hs ?_⟩
          rintro rfl
          exact hj (nodup_ix hN e1 (I.ok.inj _ _ _ e hc ▸ hi))
    · by_cases hcc : c' = c
      · subst hcc; exact ⟨_, hc'⟩
      · obtain ⟨w2, z2⟩ := I.cell y c' e
        exact ⟨w2, z2.sameBut hs hcc⟩
    · obtain ⟨e, n, ne, nf, d⟩ := I.pin p hp
      refine ⟨(hs.2 p.1 ?_).trans e, n, ne, nf, d⟩
      intro q
      rw [q, hoc] at e
      have q' : oc = p.2 := Option.some.inj e
      exact d w' (by rw [← q']; exact hocd)
theorem store_ok {M : Model} {A : Around} {E : Value → Shared → Prop} {i : Nat} {x : Str} {v : V} {u : Value} {Q : Unit → Shared → Prop} (I : Inv X pins σ H s) (hN : X.N.Nodup) (hi : X.N[i]? = some x) (hx : Loc X.env.scope x) (r : RelV v u)
    (h : ∀ s', Inv X pins (σ.set i (some v)) H s' → Q () s') (hf : X.fn x = true ∨ X.env.scope.names.lookup x = some .local := by first | exact .inl rfl | exact .inr rfl | assumption) : wpAny M A (storeName X.env x u) Q E s :=
  store_ok2 I hN hi hx r (fun s' I' _ => h s' I') hf
theorem Inv.call' {s' : Shared} {ch : List Addr} (I : Inv X pins σ H s) (ho : s'.os = s.os) (u : Un (frs X.stack) ch H H' s.heap s'.heap) (hok : HOk X.prog X.w H' s'.heap) (hg : AllBare s'.gens)
    (hch : ∀ b ∈ ch, (b ∈ X.ex ∨ X.s₀.heap.objs.size ≤ b) ∧ b ≠ X.env.locals ∧ (∀ x c, X.env.cells.lookup x = some c → c ≠ b) ∧ ∀ p ∈ X.pn ++ pins, p.1 ≠ b) : Inv X pins σ H' s' := by
  obtain ⟨h', g', d', t', o'⟩ := s'
  have e : o' = s.os := ho
  subst e
  exact I.call (g' := g') (t' := t') (d' := d') u hok hg hch
end

abbrev XK := Value → Option Addr → Hp → Prop
abbrev St := List (Option V)
abbrev VK := V → Hp → Prop
abbrev TE := St → Hp → VK → Prop
abbrev TT := St → Hp → (Bool → Hp → Prop) → Prop
abbrev TA := St → Hp → (List V → Hp → Prop) → Prop
structure Ends where
  nx : St → Hp → Prop
  rt : VK
  bk : St → Hp → Prop := fun _ _ => False
  ct : St → Hp → Prop := fun _ _ => False
abbrev TS := Ends → St → Hp → Prop

def EP (X : Cx) (pins : List (Addr × Obj)) (σ : St) (Q : VK) (u : Value) (s' : Shared) : Prop := ∃ v H', Inv X pins σ H' s' ∧ RelV v u ∧ Q v H'
def TP (X : Cx) (pins : List (Addr × Obj)) (σ : St) (Q : Bool → Hp → Prop) (b : Bool) (s' : Shared) : Prop := ∃ H', Inv X pins σ H' s' ∧ Q b H'
def AP (X : Cx) (pins : List (Addr × Obj)) (σ : St) (Q : List V → Hp → Prop) (us : List Value) (s' : Shared) : Prop := ∃ vs H', Inv X pins σ H' s' ∧ Vals vs us ∧ Q vs H'
def SP (X : Cx) (pins : List (Addr × Obj)) (D : Ends) (f : Flow) (s' : Shared) : Prop :=
  match f with
  | .next => ∃ σ' H', Inv X pins σ' H' s' ∧ D.nx σ' H'
  | .brk => ∃ σ' H', Inv X pins σ' H' s' ∧ D.bk σ' H'
  | .cont => ∃ σ' H', Inv X pins σ' H' s' ∧ D.ct σ' H'
  | .ret u => ∃ v σ' H', Inv X pins σ' H' s' ∧ RelV v u ∧ D.rt v H'

def PE (X : Cx) (e : Expr) (t : TE) : Prop :=
  ∀ (pins : List (Addr × Obj)) (s : Shared) (σ : St) (H : Hp) (Q : VK), Inv X pins σ H s → t σ H Q → wpAny (model X.prog X.w) X.A (eval e X.env) (EP X pins σ Q) X.xe s
def PT (X : Cx) (e : Expr) (t : TT) : Prop :=
  ∀ (pins : List (Addr × Obj)) (s : Shared) (σ : St) (H : Hp) (Q : Bool → Hp → Prop), Inv X pins σ H s → t σ H Q → wpAny (model X.prog X.w) X.A (isTrue e X.env (eval e X.env)) (TP X pins σ Q) X.xe s
def PW (X : Cx) (e : Expr) (t : TT) : Prop :=
  ∀ (whole : Sem Value) (pins : List (Addr × Obj)) (s : Shared) (σ : St) (H : Hp) (Q : Bool → Hp → Prop), Inv X pins σ H s → t σ H Q → wpAny (model X.prog X.w) X.A (isTrue e X.env whole) (TP X pins σ Q) X.xe s
theorem PW.pt {X : Cx} {e : Expr} {t : TT} (h : PW X e t) : PT X e t := h _
def PA (X : Cx) (es : List Expr) (t : TA) : Prop :=
  ∀ (pos : Pos) (pins : List (Addr × Obj)) (s : Shared) (σ : St) (H : Hp) (Q : List V → Hp → Prop), Inv X pins σ H s → t σ H Q → wpAny (model X.prog X.w) X.A (spliced (backTo pos (starEach es X.env))) (AP X pins σ Q) X.xe s
def PS (X : Cx) (st : Stmt) (t : TS) : Prop :=
  ∀ (pins : List (Addr × Obj)) (s : Shared) (σ : St) (H : Hp) (D : Ends), Inv X pins σ H s → t D σ H → wpAny (model X.prog X.w) X.A (exec st X.env) (SP X pins D) X.xe s
def PSs (X : Cx) (st : List Stmt) (t : TS) : Prop :=
  ∀ (pins : List (Addr × Obj)) (s : Shared) (σ : St) (H : Hp) (D : Ends), Inv X pins σ H s → t D σ H → wpAny (model X.prog X.w) X.A (execs st X.env) (SP X pins D) X.xe s
theorem thn {α : Type} {t : Sem α} {Q Q' : α → Shared → Prop} {M : Model} {A : Around} {E : Value → Shared → Prop} {s : Shared} (h : wpAny M A t Q E s) (hQ : ∀ a s, Q a s → Q' a s) : wpAny M A t Q' E s := wpAny_mono h hQ fun _ _ x => x
end L2

namespace L2
open PySem PySem.Spec PyProof.Rows
section
variable {X : Cx}

def tVar (i : Nat) : TE := fun σ H Q => ∃ v, σ[i]? = some (some v) ∧ Q v H
def tC (v : V) : TE := fun _ H Q => Q v H
theorem pe_var {i : Nat} {x : Str} {pos : Pos} (hN : X.N[i]? = some x) (hv : Vis X.env.scope x) (hd : (x == ("__debug__" : Str)) = false := by decide) (hcd : (x == ("__classdict__" : Str)) = false := by decide) : PE X (.Name x pos) (tVar i) := by
  intro pins s σ H Q I h
  obtain ⟨v, e, h⟩ := h
  obtain ⟨m, hn, hl⟩ := I.loc
  obtain ⟨u, r, l⟩ := hl i x v hN e hv
  have fin : EP X pins σ Q u s := ⟨v, H, I, r, h⟩
  rcases l with ⟨hk, hm⟩ | ⟨hk, c, hc, hcell⟩
  · exact wpAny_Name (wpAny_loadName_local I.ok.kind hk hn hm fin) hd
  · rcases hk with hk | hk
    · exact wpAny_Name (wpAny_loadName_cell I.ok.kind hk hc hcell fin) hd
    · exact wpAny_Name (wpAny_loadName_free I.ok.kind hk hc hcell fin hcd) hd
theorem pe_int {i j pos} : PE X (.Constant (.int i) j pos) (tC (.int i)) := fun _ _ _ H _ I h => wpAny_Constant_int ⟨.int i, H, I.tok _, ⟨_, rfl⟩, h⟩
theorem pe_bl {b j pos} : PE X (.Constant (.bool b) j pos) (tC (.bl b)) := fun _ _ _ H _ I h => Constant_bool ⟨.bl b, H, I, rfl, h⟩
theorem pe_str {x j pos} : PE X (.Constant (.str x) j pos) (tC (.str x)) := fun _ _ _ H _ I h => Calls.Constant_str ⟨.str x, H, I.tok _, ⟨_, rfl⟩, h⟩

def Gl (X : Cx) (x : Str) : Prop := X.env.kindOf x = some .globalImplicit
theorem ld_glob {E : Value → Shared → Prop} {pins : List (Addr × Obj)} {s : Shared} {σ : St} {H : Hp} {x : Str} {u : Value} {pos : Pos} {Q : Value → Shared → Prop} (I : Inv X pins σ H s) (hg : Gl X x) (hm : X.mg x = some u) (h : Q u s)
    (hd : (x == ("__debug__" : Str)) = false := by decide) : wpAny (model X.prog X.w) X.A (eval (.Name x pos) X.env) Q E s :=
  Calls.Name_function_global I.ok.kind hg (Calls.loadGlobal_global (by rw [I.ok.glob]; exact I.mod.glob.keeps I.bk) hm h) hd
theorem ld_blt {E : Value → Shared → Prop} {pins : List (Addr × Obj)} {s : Shared} {σ : St} {H : Hp} {x : Str} {u : Value} {pos : Pos} {Q : Value → Shared → Prop} (I : Inv X pins σ H s) (hg : Gl X x) (hm : X.mg x = none) (hv : bootBuiltins x = some u) (h : Q u s)
    (hn : x ≠ "__name__" := by decide) (hd : (x == ("__debug__" : Str)) = false := by decide) : wpAny (model X.prog X.w) X.A (eval (.Name x pos) X.env) Q E s := by
  obtain ⟨mb, h1, h2⟩ := I.mod.blt
  exact Calls.Name_function_global I.ok.kind hg (Calls.loadGlobal_builtin (by rw [I.ok.glob]; exact I.mod.glob.keeps I.bk) hm (by rw [I.ok.blt]; exact h1.keeps I.bk) ((h2 x hn).trans hv) h) hd
theorem pe_glob {x : Str} {v : V} {u : Value} {pos : Pos} (hg : Gl X x) (hm : X.mg x = some u) (r : RelV v u) (hd : (x == ("__debug__" : Str)) = false := by decide) : PE X (.Name x pos) (tC v) :=
  fun _ _ _ H _ I h => ld_glob I hg hm ⟨v, H, I, r, h⟩ hd
theorem pe_bltn {x : Str} {v : V} {u : Value} {pos : Pos} (hg : Gl X x) (hm : X.mg x = none) (hv : bootBuiltins x = some u) (r : RelV v u) (hn : x ≠ "__name__" := by decide) (hd : (x == ("__debug__" : Str)) = false := by decide) : PE X (.Name x pos) (tC v) :=
  fun _ _ _ H _ I h => ld_blt I hg hm hv ⟨v, H, I, r, h⟩ hn hd

variable {a b : Expr} {ta tb : TE} {pos : Pos}
def PC (X : Cx) (op : CmpOp) (a b : Expr) (t : TE) : Prop :=
  ∀ (pins : List (Addr × Obj)) (s : Shared) (σ : St) (H : Hp) (Q : VK), Inv X pins σ H s → t σ H Q →
    wpAny (model X.prog X.w) X.A (eval a X.env) (fun v s₁ => wpAny (model X.prog X.w) X.A (eval b X.env) (fun u s₂ => wpAny (model X.prog X.w) X.A (compareOp op v u) (EP X pins σ Q) X.xe s₂) X.xe s₁) X.xe s
def tB (t : TE) : TT := fun σ H Q => t σ H fun x H1 => ∃ c, x = .bl c ∧ Q c H1
theorem pt_val {e : Expr} {t : TE} (h : PE X e t) (he : ∀ whole, isTrue e X.env whole = (do let v ← whole; standAt e.pos; holding [v] (truthy v)) := by intro _; rfl) : PT X e (tB t) := by
  intro pins s σ H Q I hw
  refine isTrue_plain (thn (h pins s σ H _ I hw) fun v s1 ⟨x, H1, I1, r1, q1⟩ => ?_) (he _)
  obtain ⟨d, rfl, q⟩ := q1
  cases r1
  exact wpAny_truthy_bool ⟨H1, I1, q⟩

variable {tA tB' : TT} {rest : List Expr}
def tAnd (t u : TT) : TT := fun σ H Q => t σ H fun c H1 => if c = true then u σ H1 Q else Q false H1
def tOr (t u : TT) : TT := fun σ H Q => t σ H fun c H1 => if c = true then Q true H1 else u σ H1 Q
def tNot (t : TT) : TT := fun σ H Q => t σ H fun c H1 => Q (!c) H1
theorem pw_and1 (ha : PT X a tA) : PW X (.BoolOp .And [a] pos) tA := by
  intro wh pins s σ H Q I h
  refine isTrue_and (thn (ha pins s σ H Q I h) fun c s1 e => ?_)
  cases c with
  | true => exact isTrue_and_nil e
  | false => exact e
theorem pw_or1 (ha : PT X a tA) : PW X (.BoolOp .Or [a] pos) tA := by
  intro wh pins s σ H Q I h
  refine isTrue_or (thn (ha pins s σ H Q I h) fun c s1 e => ?_)
  cases c with
  | false => exact isTrue_or_nil e
  | true => exact e
theorem pw_and (ha : PT X a tA) (hb : PW X (.BoolOp .And (b :: rest) pos) tB') : PW X (.BoolOp .And (a :: b :: rest) pos) (tAnd tA tB') := by
  intro wh pins s σ H Q I h
  refine isTrue_and (thn (ha pins s σ H _ I h) fun c s1 ⟨H1, I1, q1⟩ => ?_)
  cases c with
  | true => exact hb wh pins s1 σ H1 Q I1 q1
  | false => exact ⟨H1, I1, q1⟩
theorem pw_or (ha : PT X a tA) (hb : PW X (.BoolOp .Or (b :: rest) pos) tB') : PW X (.BoolOp .Or (a :: b :: rest) pos) (tOr tA tB') := by
  intro wh pins s σ H Q I h
  refine isTrue_or (thn (ha pins s σ H _ I h) fun c s1 ⟨H1, I1, q1⟩ => ?_)
  cases c with
  | true => exact ⟨H1, I1, q1⟩
  | false => exact hb wh pins s1 σ H1 Q I1 q1
theorem pt_not (ha : PT X a tA) : PT X (.UnaryOp .Not a pos) (tNot tA) := by
  intro pins s σ H Q I h
  exact isTrue_not (ha pins s σ H (fun c H1 => Q (!c) H1) I h)
def tAndV (ta tb : TE) : TE := fun σ H Q => ta σ H fun x H1 => ∃ c, x = .bl c ∧ if c = true then tb σ H1 Q else Q (.bl false) H1
def tOrV (ta tb : TE) : TE := fun σ H Q => ta σ H fun x H1 => ∃ c, x = .bl c ∧ if c = true then Q (.bl true) H1 else tb σ H1 Q
def tNotV (ta : TE) : TE := fun σ H Q => ta σ H fun x H1 => ∃ c, x = .bl c ∧ Q (.bl (!c)) H1
theorem pe_one {op} {t : TE} (h : PE X a t) : PE X (.BoolOp op [a] pos) t := fun pins s σ H Q I hw => BoolOp_one (h pins s σ H Q I hw)
theorem pe_and (ha : PE X a ta) (hb : PE X (.BoolOp .And (b :: rest) pos) tb) : PE X (.BoolOp .And (a :: b :: rest) pos) (tAndV ta tb) := by
  intro pins s σ H Q I h
  refine BoolOp_and (thn (ha pins s σ H _ I h) fun v s1 ⟨x, H1, I1, r1, q1⟩ => ?_)
  obtain ⟨c, rfl, q1⟩ := q1
  cases r1
  refine wpAny_truthy_bool ?_
  cases c with
  | true => exact hb pins s1 σ H1 Q I1 q1
  | false => exact ⟨.bl false, H1, I1, rfl, q1⟩
theorem pe_or (ha : PE X a ta) (hb : PE X (.BoolOp .Or (b :: rest) pos) tb) : PE X (.BoolOp .Or (a :: b :: rest) pos) (tOrV ta tb) := by
  intro pins s σ H Q I h
  refine BoolOp_or (thn (ha pins s σ H _ I h) fun v s1 ⟨x, H1, I1, r1, q1⟩ => ?_)
  obtain ⟨c, rfl, q1⟩ := q1
  cases r1
  refine wpAny_truthy_bool ?_
  cases c with
  | false => exact hb pins s1 σ H1 Q I1 q1
  | true => exact ⟨.bl true, H1, I1, rfl, q1⟩
theorem pe_not (ha : PE X a ta) : PE X (.UnaryOp .Not a pos) (tNotV ta) := by
  intro pins s σ H Q I h
  refine UnaryOp_ (thn (ha pins s σ H _ I h) fun v s1 ⟨x, H1, I1, r1, q1⟩ => ?_)
  obtain ⟨c, rfl, q1⟩ := q1
  cases r1
  exact not_of (wpAny_truthy_bool ⟨.bl (!c), H1, I1, rfl, q1⟩)
def tIf (t : TT) (ta tb : TE) : TE := fun σ H Q => t σ H fun c H1 => if c = true then ta σ H1 Q else tb σ H1 Q
theorem pe_ifExp {c : Expr} (hc : PT X c tA) (ha : PE X a ta) (hb : PE X b tb) : PE X (.IfExp c a b pos) (tIf tA ta tb) := by
  intro pins s σ H Q I h
  refine wpAny_IfExp (thn (hc pins s σ H _ I h) fun d s1 ⟨H1, I1, q1⟩ => ?_)
  cases d with
  | true => exact ha pins s1 σ H1 Q I1 q1
  | false => exact hb pins s1 σ H1 Q I1 q1
end
end L2

namespace L2
open PySem PySem.Spec PyProof.Rows

def SqL (K : PySem.W.Frag) (H : Hp) (a : Addr) (xs : List V) : Prop :=
  Rd H a (.lst xs) ∨
    ∃ (o : Obj) (its : Array Value) (n : Nat), K.lookup a = some o ∧ o.cls = .type "list" ∧ o.dict = none ∧ o.data = .seq its n ∧ its.size ≤ sizeLine ∧ Vals xs its.toList
def SqT (K : PySem.W.Frag) (H : Hp) (a : Addr) (xs : List V) : Prop :=
  Rd H a (.tup xs) ∨
    ∃ (o : Obj) (its : Array Value) (n : Nat), K.lookup a = some o ∧ o.cls = .type "tuple" ∧ o.data = .seq its n ∧ its.size ≤ sizeLine ∧ Vals xs its.toList
def absV : Value → Option V
  | .none => some .non
  | .bool b => some (.bl b)
  | .int i _ => some (.int i)
  | .str x _ => some (.str x)
  | .bytes b _ => some (.byt b)
  | .float b _ => some (.flt b)
  | .ref a => some (.ref a)
  | .type n => some (.ty n)
  | _ => none
theorem RelV.abs {x : V} {u : Value} (r : RelV x u) : absV u = some x := by
  cases x with
  | non => cases r; rfl
  | bl _ => cases r; rfl
  | int _ => obtain ⟨t, rfl⟩ := r; rfl
  | str _ => obtain ⟨t, rfl⟩ := r; rfl
  | byt _ => obtain ⟨t, rfl⟩ := r; rfl
  | flt _ => obtain ⟨t, rfl⟩ := r; rfl
  | ref _ => cases r; rfl
  | ty _ => cases r; rfl
theorem RelV.inj {x y : V} {u : Value} (r : RelV x u) (q : RelV y u) : x = y := Option.some.inj (r.abs.symm.trans q.abs)
theorem Vals.inj : ∀ {xs ys : List V} {us : List Value}, Vals xs us → Vals ys us → xs = ys
  | _, _, _, .nil, .nil => rfl
  | _, _, _, .cons r t, .cons r' t' => by rw [r.inj r', Vals.inj t t']
section
variable {X : Cx} {pins : List (Addr × Obj)} {σ : St} {H : Hp} {s : Shared} {a : Addr} {xs ys : List V}
theorem SqL.of {K : PySem.W.Frag} (h : H a = some (.lst xs)) : SqL K H a xs := .inl (.inl h)
theorem SqT.of {K : PySem.W.Frag} (h : H a = some (.tup xs)) : SqT K H a xs := .inl (.inl h)
theorem Inv.list (I : Inv X pins σ H s) (h : SqL X.K H a xs) : ∃ its : List Value, Vals xs its ∧ PlainL s.heap a its.toArray ∧ xs.length ≤ sizeLine := by
  rcases h with h | ⟨o, its, n, hk, hc, hd, hs, hz, r⟩
  · obtain ⟨z, its, n, r, e⟩ := h.ok I.hok
    exact ⟨its, r, ⟨_, n, e, rfl, rfl, rfl⟩, z⟩
  · refine ⟨its.toList, r, ⟨o, n, I.kIn a o hk, hc, hd, by simpa using hs⟩, ?_⟩
    have e := r.length
    simp only [Array.length_toList] at e
    omega
theorem Inv.tuple (I : Inv X pins σ H s) (h : SqT X.K H a xs) : ∃ its : List Value, Vals xs its ∧ IsTup s.heap a its.toArray ∧ xs.length ≤ sizeLine := by
  rcases h with h | ⟨o, its, n, hk, hc, hs, hz, r⟩
  · obtain ⟨z, its, r, p⟩ := h.ok I.hok
    exact ⟨its, r, p, z⟩
  · refine ⟨its.toList, r, ⟨o, I.kIn a o hk, hc, n, by simpa using hs⟩, ?_⟩
    have e := r.length
    simp only [Array.length_toList] at e
    omega
theorem Inv.list_inj (I : Inv X pins σ H s) (h : SqL X.K H a xs) (h' : SqL X.K H a ys) : xs = ys := by
  obtain ⟨its, r, ⟨o, n, e, _, _, d⟩, _⟩ := I.list h
  obtain ⟨its', r', ⟨o', n', e', _, _, d'⟩, _⟩ := I.list h'
  rw [e] at e'; cases e'
  rw [d] at d'
  injection d' with d1 _
  have : its = its' := by simpa using congrArg Array.toList d1
  subst this
  exact r.inj r'
theorem Inv.tuple_inj (I : Inv X pins σ H s) (h : SqT X.K H a xs) (h' : SqT X.K H a ys) : xs = ys := by
  obtain ⟨its, r, ⟨o, e, _, n, d⟩, _⟩ := I.tuple h
  obtain ⟨its', r', ⟨o', e', _, n', d'⟩, _⟩ := I.tuple h'
  rw [e] at e'; cases e'
  rw [d] at d'
  injection d' with d1 _
  have : its = its' := by simpa using congrArg Array.toList d1
  subst this
  exact r.inj r'
end

abbrev Cx.wish (X : Cx) (E : Value → Shared → Prop) : Cx := { X with xe := E }
abbrev Cx.nox (X : Cx) : Cx := X.wish fun _ _ => False
theorem Cx.Ok.wish {X : Cx} (ok : X.Ok) (E : Value → Shared → Prop) : (X.wish E).Ok :=
  ⟨ok.mod, ok.kind, ok.glob, ok.blt, ok.above, ok.inj, ok.has, ok.cab, ok.hd, ok.frames, ok.stk, ok.exf, ok.bs, ok.bsz, ok.noex, ok.exfs, ok.funs, ok.frf⟩
theorem Cx.Ok.unwish {X : Cx} {E : Value → Shared → Prop} (ok : (X.wish E).Ok) : X.Ok :=
  ⟨ok.mod, ok.kind, ok.glob, ok.blt, ok.above, ok.inj, ok.has, ok.cab, ok.hd, ok.frames, ok.stk, ok.exf, ok.bs, ok.bsz, ok.noex, ok.exfs, ok.funs, ok.frf⟩
section
variable {X : Cx} {pins : List (Addr × Obj)} {σ : St} {H : Hp} {s : Shared} {E : Value → Shared → Prop}
theorem Inv.wish (I : Inv X pins σ H s) (E : Value → Shared → Prop) : Inv (X.wish E) pins σ H s := ⟨I.ok.wish E, I.os, I.bare, I.base, I.loc, I.cell, I.free, I.freeC, I.pin, I.hok, I.len⟩
theorem Inv.unwish (I : Inv (X.wish E) pins σ H s) : Inv X pins σ H s := ⟨I.ok.unwish, I.os, I.bare, I.base, I.loc, I.cell, I.free, I.freeC, I.pin, I.hok, I.len⟩
theorem SP.unwish {D : Ends} {f : Flow} {s' : Shared} (h : SP (X.wish E) pins D f s') : SP X pins D f s' := by
  cases f with
  | next => obtain ⟨σ', H', I, q⟩ := h; exact ⟨σ', H', I.unwish, q⟩
  | brk => obtain ⟨σ', H', I, q⟩ := h; exact ⟨σ', H', I.unwish, q⟩
  | cont => obtain ⟨σ', H', I, q⟩ := h; exact ⟨σ', H', I.unwish, q⟩
  | ret u => obtain ⟨v, σ', H', I, r, q⟩ := h; exact ⟨v, σ', H', I.unwish, r, q⟩
theorem PSs.nox {st : List Stmt} {t : TS} (h : PSs X.nox st t) : PSs X st t := fun pins s σ H D I hw =>
  wpAny_mono (h pins s σ H D (I.wish _) hw) (fun _ _ q => q.unwish) fun _ _ z => False.elim z
end

section
variable {X : Cx} {st : Stmt} {rest : List Stmt} {t u : TS} {e : Expr} {te : TE} {pos : Pos}
def tNext : TS := fun D σ H => D.nx σ H
def tSeq (t u : TS) : TS := fun D σ H => t { D with nx := u D } σ H
theorem pss_nil : PSs X [] tNext := fun _ _ σ H _ I h => wpAny_execs_nil ⟨σ, H, I, h⟩
theorem pss_cons (h1 : PS X st t) (h2 : PSs X rest u) : PSs X (st :: rest) (tSeq t u) := by
  intro pins s σ H D I h
  refine wpAny_execs_cons (thn (h1 pins s σ H { D with nx := u D } I h) fun f s1 q => ?_)
  cases f with
  | next =>
    obtain ⟨σ', H', I', q⟩ := q
    exact h2 pins s1 σ' H' D I' q
  | ret v => exact q
  | brk => exact q
  | cont => exact q
theorem pss_one (h1 : PS X st t) : PSs X [st] t := by
  intro pins s σ H D I h
  refine wpAny_execs_cons (thn (h1 pins s σ H D I h) fun f s1 q => ?_)
  cases f with
  | next => exact wpAny_execs_nil q
  | ret v => exact q
  | brk => exact q
  | cont => exact q
theorem Inv.quiet {pins : List (Addr × Obj)} {σ : St} {H : Hp} {s : Shared} (I : Inv X pins σ H s) : interactive X.env = false := by simp [interactive, I.ok.kind]
def tDrop (te : TE) : TS := fun D σ H => te σ H fun _ H1 => D.nx σ H1
theorem ps_expr (he : PE X e te) (hs : swapsWith e none pos.line X.env = pure false := by rfl) : PS X (.Expr e pos) (tDrop te) := by
  intro pins s σ H D I h
  exact wpAny_Expr_any (thn (he pins s σ H _ I h) fun v s1 ⟨x, H1, I1, r1, q1⟩ => ⟨σ, H1, I1, q1⟩) I.quiet hs
def tRet (te : TE) : TS := fun D σ H => te σ H D.rt
theorem ps_ret (he : PE X e te) : PS X (.Return (some e) pos) (tRet te) := by
  intro pins s σ H D I h
  exact wpAny_Return_some (thn (he pins s σ H _ I h) fun v s1 ⟨x, H1, I1, r1, q1⟩ => ⟨x, σ, H1, I1, r1, q1⟩)
def tIfS (c : TT) (t u : TS) : TS := fun D σ H => c σ H fun b H1 => if b = true then t D σ H1 else u D σ H1
theorem ps_if {c : Expr} {a b : List Stmt} {tc : TT} (hc : PT X c tc) (ha : PSs X a t) (hb : PSs X b u) : PS X (.If c a b pos) (tIfS tc t u) := by
  intro pins s σ H D I h
  refine wpAny_If (thn (hc pins s σ H _ I h) fun d s1 ⟨H1, I1, q1⟩ => ?_)
  cases d with
  | true => exact ha pins s1 σ H1 D I1 q1
  | false => exact hb pins s1 σ H1 D I1 q1
def tNever : TS := fun _ _ _ => False
theorem pss_never {sts : List Stmt} : PSs X sts tNever := fun _ _ _ _ _ _ h => h.elim
end

abbrev TG := V → St → Hp → (St → Hp → Prop) → Prop
abbrev TGs := List V → St → Hp → (St → Hp → Prop) → Prop
def PG (X : Cx) (target : Expr) (t : TG) : Prop :=
  ∀ (pins : List (Addr × Obj)) (s : Shared) (σ : St) (H : Hp) (v : V) (u : Value) (Q : St → Hp → Prop), Inv X pins σ H s → RelV v u → t v σ H Q →
    wpAny (model X.prog X.w) X.A (assign target X.env u) (fun _ s' => ∃ σ' H', Inv X pins σ' H' s' ∧ Q σ' H') X.xe s
def PGs (X : Cx) (ts : List Expr) (t : TGs) : Prop :=
  ∀ (pins : List (Addr × Obj)) (s : Shared) (σ : St) (H : Hp) (vs : List V) (us : List Value) (Q : St → Hp → Prop), Inv X pins σ H s → Vals vs us → t vs σ H Q →
    wpAny (model X.prog X.w) X.A (assignInOrder ((assignEach ts X.env).map (·.2)) us) (fun _ s' => ∃ σ' H', Inv X pins σ' H' s' ∧ Q σ' H') X.xe s
abbrev TSet := V → V → V → Hp → (Hp → Prop) → Prop
def PSet (X : Cx) (t : TSet) : Prop :=
  ∀ (pins : List (Addr × Obj)) (s : Shared) (σ : St) (H : Hp) (o i v : V) (ov iv u : Value) (Q : Hp → Prop), Inv X pins σ H s → RelV o ov → RelV i iv → RelV v u → t o i v H Q →
    wpAny (model X.prog X.w) X.A (setItem ov iv u) (fun _ s' => ∃ H', Inv X pins σ H' s' ∧ Q H') X.xe s
section
variable {X : Cx} {pos : Pos}
def gName (i : Nat) : TG := fun v σ H Q => Q (σ.set i (some v)) H
theorem pg_name {i : Nat} {x : Str} (hN : X.N.Nodup) (hi : X.N[i]? = some x) (hx : Loc X.env.scope x) (hf : X.fn x = true ∨ X.env.scope.names.lookup x = some .local := by first | exact .inl rfl | exact .inr rfl | assumption) : PG X (.Name x pos) (gName i) := by
  intro pins s σ H v u Q I r h
  exact wpAny_assign_Name (store_ok I hN hi hx r (fun s' I' => ⟨_, H, I', h⟩) hf)
def gNil : TGs := fun vs σ H Q => vs = [] ∧ Q σ H
def gCons (t : TG) (u : TGs) : TGs := fun vs σ H Q => ∃ v r, vs = v :: r ∧ t v σ H fun σ' H' => u r σ' H' Q
theorem pgs_nil : PGs X [] gNil := by
  intro pins s σ H vs us Q I r h
  obtain ⟨e, h⟩ := h
  subst e
  cases r
  exact assignInOrder_nil ⟨σ, H, I, h⟩
theorem pgs_cons {e : Expr} {es : List Expr} {t : TG} {u : TGs} (h1 : PG X e t) (h2 : PGs X es u)
    (hs : (assignEach (e :: es) X.env).map (·.2) = assign e X.env :: (assignEach es X.env).map (·.2) := by rfl) : PGs X (e :: es) (gCons t u) := by
  intro pins s σ H vs us Q I r h
  obtain ⟨v, vr, e1, h⟩ := h
  subst e1
  cases r with
  | cons r rr =>
    rw [hs]
    refine assignInOrder_cons (thn (h1 pins s σ H _ _ _ I r h) fun _ s1 ⟨σ1, H1, I1, q1⟩ => ?_)
    exact h2 pins s1 σ1 H1 _ _ Q I1 rr q1
def gTup (K : PySem.W.Frag) (n : Nat) (t : TGs) : TG := fun v σ H Q => ∃ a xs, v = .ref a ∧ SqT K H a xs ∧ xs.length = n ∧ t xs σ H Q
theorem pg_tup {es : List Expr} {k : Nat} {t : TGs} {n : Nat} (hc : X.calm = true) (h : PGs X es t)
    (hn : (assignEach es X.env).length = n := by rfl) (hst : (assignEach es X.env).findIdx? (·.1) = none := by rfl) : PG X (.Tuple es k pos) (gTup X.K n t) := by
  intro pins s σ H v u Q I r hw
  obtain ⟨a, xs, e1, hq, hl, hw⟩ := hw
  subst e1
  cases r
  obtain ⟨its, rv, ht, hz⟩ := I.tuple hq
  refine assign_Tuple_tuple (I.ok.hd hc) ht (by simp [hn, ← hl, rv.length]) hst fun h' hx => ?_
  have I1 : Inv X pins σ H { s with heap := h' } := I.kept (t' := s.toks) fun b o e => hx b o (Nat.ne_of_lt (Heap.lt_size e)) e
  exact h pins _ σ H xs _ Q I1 (by simpa using rv) hw
def gSub (to ti : TE) (t : TSet) : TG := fun v σ H Q => to σ H fun o H1 => ti σ H1 fun i H2 => t o i v H2 fun H3 => Q σ H3
theorem pg_sub {o i : Expr} {to ti : TE} {t : TSet} (ho : PE X o to) (hi : PE X i ti) (hs : PSet X t)
    (ha : ∀ v, assign (.Subscript o i pos) X.env v = (do
      let ov ← holding [v] (eval o X.env)
      let iv ← holding [v, ov] (eval i X.env)
      standAt pos
      holding [v, ov, iv] (setItem ov iv v)
      release [v, ov, iv] []) := by intro _; rfl) : PG X (.Subscript o i pos) (gSub to ti t) := by
  intro pins s σ H v u Q I r h
  rw [ha]
  refine wpAny_bind (wpAny_holding (thn (ho pins s σ H _ I h) fun ov s1 ⟨x, H1, I1, r1, q1⟩ => ?_))
  refine wpAny_bind (wpAny_holding (thn (hi pins s1 σ H1 _ I1 q1) fun iv s2 ⟨y, H2, I2, r2, q2⟩ => ?_))
  refine wpAny_bind (wpAny_standAt (wpAny_bind (wpAny_holding (thn (hs pins s2 σ H2 x y v ov iv u _ I2 r1 r2 r q2) fun _ s3 ⟨H3, I3, q3⟩ => ?_))))
  exact wpAny_release ⟨σ, H3, I3, q3⟩
def tAsg (te : TE) (g : TG) : TS := fun D σ H => te σ H fun x H1 => g x σ H1 D.nx
theorem ps_asg {tg e : Expr} {te : TE} {g : TG} (he : PE X e te) (hg : PG X tg g) (hs : swapsWithSole [tg] e pos.line X.env = pure false := by rfl) (hw : swappedStores [tg] e X.env = pure none := by rfl)
    (h1 : (assignEach [tg] X.env).map (·.2) = [assign tg X.env] := by rfl) : PS X (.Assign [tg] e pos) (tAsg te g) := by
  intro pins s σ H D I h
  refine wpAny_Assign_stores (thn (he pins s σ H _ I h) fun v s1 ⟨x, H1, I1, r1, q1⟩ => ?_) hs hw
  rw [h1]
  exact thn (hg pins s1 σ H1 x v _ I1 r1 q1) fun _ s2 q => q
theorem ps_set {i : Nat} {x : Str} {e : Expr} {te : TE} {pos' : Pos} (hN : X.N.Nodup) (hi : X.N[i]? = some x) (hx : Loc X.env.scope x) (he : PE X e te) (hs : swapsWith e (some (.Name x pos')) pos.line X.env = pure false := by rfl) (hf : X.fn x = true ∨ X.env.scope.names.lookup x = some .local := by first | exact .inl rfl | exact .inr rfl | assumption) :
    PS X (.Assign [.Name x pos'] e pos) (tAsg te (gName i)) := by
  intro pins s σ H D I h
  refine wpAny_Assign_Name (thn (he pins s σ H _ I h) fun v s1 ⟨y, H1, I1, r1, q1⟩ => ?_) hs
  exact store_ok I1 hN hi hx r1 (fun s2 I2 => ⟨_, H1, I2, q1⟩) hf
end

section
variable {X : Cx} {pos : Pos}
def tWhile (c : TT) (tb : TS) : TS := fun D σ H => ∃ W : Nat → St → Hp → Prop, (∃ m, W m σ H) ∧ ∀ m σ H, W m σ H →
  c σ H fun b H1 => if b = true then ∃ N : St → Hp → Prop, (∀ σ' H', N σ' H' → ∃ m', m' < m ∧ W m' σ' H') ∧ tb { D with nx := N, ct := N, bk := D.nx } σ H1 else D.nx σ H1
theorem ps_while {c : Expr} {body : List Stmt} {tc : TT} {tb : TS} (hp : PassesOwn (model X.prog X.w) X.A X.env X.xe) (hc : PT X c tc) (hb : PSs X body tb) : PS X (.While c body [] pos) (tWhile tc tb) := by
  intro pins s σ H D I h
  obtain ⟨W, ⟨m0, w0⟩, turn⟩ := h
  refine wpAny_While (codeAny_whileLoop (fun n s' => ∃ σ' H', Inv X pins σ' H' s' ∧ W n σ' H') ?_ m0 ⟨σ, H, I, w0⟩)
  rintro n s1 ⟨σ1, H1, I1, w1⟩
  refine wpAny_passesOwn hp (thn (hc pins s1 σ1 H1 _ I1 (turn n σ1 H1 w1)) fun b s2 ⟨H2, I2, q2⟩ => ?_)
  cases b with
  | true =>
    obtain ⟨N, hN, q2⟩ := q2
    rw [if_pos rfl]
    refine wpAny_passesOwn hp (thn (hb pins s2 σ1 H2 _ I2 q2) fun f s3 q3 => ?_)
    cases f with
    | next =>
      obtain ⟨σ3, H3, I3, n3⟩ := q3
      obtain ⟨m', hm, w3⟩ := hN σ3 H3 n3
      exact ⟨m', hm, σ3, H3, I3, w3⟩
    | cont =>
      obtain ⟨σ3, H3, I3, n3⟩ := q3
      obtain ⟨m', hm, w3⟩ := hN σ3 H3 n3
      exact ⟨m', hm, σ3, H3, I3, w3⟩
    | brk => exact q3
    | ret v => exact q3
  | false =>
    rw [if_neg Bool.false_ne_true]
    exact wpAny_execs_nil ⟨σ1, H2, I2, q2⟩
end

structure It where
  go : Nat → Hp → Prop
  yld : Nat → Hp → V → Hp → Prop
  stop : Nat → Hp → Prop
def FpOk (X : Cx) (pins : List (Addr × Obj)) (H : Hp) (b : Addr) : Prop :=
  H b = none ∧ b ≠ X.env.locals ∧ b ∉ X.fs ∧ (b ∈ X.ex ∨ X.s₀.heap.objs.size ≤ b) ∧ (∀ x c, X.env.cells.lookup x = some c → c ≠ b) ∧ ∀ p ∈ X.pn ++ pins, p.1 ≠ b
theorem Inv.fpOk {X : Cx} {pins : List (Addr × Obj)} {σ : St} {H H' : Hp} {s : Shared} {b : Addr} (I : Inv X pins σ H s) (hb : s.heap.objs.size ≤ b) (hn : H' b = none) : FpOk X pins H' b := by
  refine ⟨hn, Nat.ne_of_gt (Nat.lt_of_lt_of_le I.lt hb), I.nofs hb, .inr (Nat.le_trans I.sz hb), fun x c e z => ?_, fun p hp z => ?_⟩
  · obtain ⟨v, q⟩ := I.cell x c e
    exact absurd (Nat.lt_of_lt_of_le q.lt (by rw [z]; exact hb)) (Nat.lt_irrefl _)
  · exact absurd (Nat.lt_of_lt_of_le (Heap.lt_size (I.pin p hp).1) (by rw [z]; exact hb)) (Nat.lt_irrefl _)
structure Turn (P : Program) (w : World) (K : PySem.W.Frag) (tg : Expr) (J : It) (fp : List Addr) (it : Addr) (tn : Nat → Heap → Prop) : Prop where
  mem : it ∈ fp
  obj : ∀ i h, tn i h → ∀ b ∈ fp, ∃ o, h.get? b = some o ∧ ∀ v, o.data ≠ .cell v
  keep : ∀ i h h', tn i h → (∀ b ∈ fp, ∀ o, h.get? b = some o → h'.get? b = some o) → tn i h'
  item : ∀ (X : Cx), X.prog = P → X.w = w → X.K = K → X.calm = true → ∀ (i : Nat) (pins : List (Addr × Obj)) (s : Shared) (σ : St) (H : Hp) (E : Value → Shared → Prop), Inv X pins σ H s → (∀ b ∈ fp, FpOk X pins H b) → tn i s.heap → J.go i H →
    wpAny (model P w) X.A (pyNext (.ref it)) (fun r s1 => ∃ u, r = some u ∧
      wpAny (model P w) X.A (letOwnedTupleGo tg (.ref it) u) (fun _ s2 => ∃ x H', Inv X pins σ H' s2 ∧ RelV x u ∧ J.yld i H x H' ∧ tn (i + 1) s2.heap ∧ ∀ b ∈ fp, H' b = none) E s1) E s
  done : ∀ (X : Cx), X.prog = P → X.w = w → X.K = K → X.calm = true → ∀ (i : Nat) (pins : List (Addr × Obj)) (s : Shared) (σ : St) (H : Hp) (E : Value → Shared → Prop), Inv X pins σ H s → (∀ b ∈ fp, FpOk X pins H b) → tn i s.heap → J.stop i H →
    wpAny (model P w) X.A (pyNext (.ref it)) (fun r s1 => r = none ∧ Inv X pins σ H s1) E s
  self : ∀ (A : Around) (i : Nat) (s : Shared) (Q : Value → Shared → Prop) (E : Value → Shared → Prop), tn i s.heap → Q (.ref it) s → wpAny (model P w) A (pyIter (.ref it)) Q E s
abbrev TI := St → Hp → (It → Hp → Prop) → Prop
def PIE (X : Cx) (pins : List (Addr × Obj)) (σ : St) (tg : Expr) (R : It → Hp → Prop) (itv : Value) (s2 : Shared) : Prop :=
  ∃ (it : Addr) (fp : List Addr) (tn : Nat → Heap → Prop) (J : It) (H' : Hp), itv = .ref it ∧ Inv X pins σ H' s2 ∧ Turn X.prog X.w X.K tg J fp it tn ∧ tn 0 s2.heap ∧ (∀ b ∈ fp, FpOk X pins H' b) ∧ R J H'
def PI (X : Cx) (tg iter : Expr) (wi : TI) : Prop :=
  ∀ (pins : List (Addr × Obj)) (s : Shared) (σ : St) (H : Hp) (R : It → Hp → Prop), Inv X pins σ H s → wi σ H R →
    wpAny (model X.prog X.w) X.A (eval iter X.env) (fun v s1 => wpAny (model X.prog X.w) X.A (pyIter v) (PIE X pins σ tg R) X.xe s1) X.xe s

theorem go_of {M : Model} {A : Around} {E : Value → Shared → Prop} {s : Shared} {tg : Expr} {it : Addr} {u : Value} {o : Obj} {n : String} {vs : Array Value} {Q : Unit → Shared → Prop} (ho : s.heap.get? it = some o) (hc : o.cls = .type n) (hd : o.data = .fields vs)
    (hn : ["enumerate", "zip", "dict_itemiterator", "dict_reverseitemiterator", "odict_iterator", "itertools.zip_longest", "itertools.pairwise"].contains n = false) (hQ : Q () s) : wpAny M A (letOwnedTupleGo tg (.ref it) u) Q E s := by
  unfold letOwnedTupleGo
  cases tg <;> first
    | exact wpAny_pure hQ
    | (cases u <;> first
        | exact wpAny_pure hQ
        | (refine wpAny_bind (wpAny_load ho ?_)
           rw [hc, hd]
           show wpAny M A (if (["enumerate", "zip", "dict_itemiterator", "dict_reverseitemiterator", "odict_iterator", "itertools.zip_longest", "itertools.pairwise"].contains n && vs[0]? == some (rawInt _)) = true then _ else _) Q E s
           rw [if_neg (by intro h; rw [hn, Bool.false_and] at h; cases h)]
           exact wpAny_pure hQ))

def Itl (K : PySem.W.Frag) (a : Addr) : It :=
  ⟨fun i H => ∃ xs x, SqL K H a xs ∧ xs[i]? = some x, fun i H x H' => H' = H ∧ ∀ xs, SqL K H a xs → xs[i]? = some x, fun i H => ∃ xs, SqL K H a xs ∧ xs.length ≤ i⟩
def Itt (K : PySem.W.Frag) (a : Addr) : It :=
  ⟨fun i H => ∃ xs x, SqT K H a xs ∧ xs[i]? = some x, fun i H x H' => H' = H ∧ ∀ xs, SqT K H a xs → xs[i]? = some x, fun i H => ∃ xs, SqT K H a xs ∧ xs.length ≤ i⟩
def Itr (lo : Int) (n : Nat) : It := ⟨fun i _ => i < n, fun i H x H' => H' = H ∧ x = .int (lo + i), fun i _ => n ≤ i⟩
theorem turn_list {P : Program} {w : World} {K : PySem.W.Frag} {tg : Expr} (a it : Addr) : Turn P w K tg (Itl K a) [it] it (fun i h => h.IsListIter it a i) where
  mem := by simp
  obj := fun i h st b hb => by
    have e : b = it := by simpa using hb
    subst e
    obtain ⟨o, e, c, d⟩ := st
    exact ⟨o, e, fun v z => by rw [d] at z; cases z⟩
  keep := fun i h h' st k => st.at fun o e => k it (by simp) o e
  item := by
    intro X hP hw hK hc i pins s σ H E I hf st hg
    subst hP hw hK
    obtain ⟨xs, x, hq, hx⟩ := hg
    obtain ⟨its, rv, p, hz⟩ := I.list hq
    obtain ⟨u, hu, ru⟩ := rv.get hx
    obtain ⟨f0, f1, f2, f3, f4, f5⟩ := hf it (by simp)
    refine wpAny_pyNext_list_item st p.isList (x := u) (by simpa using hu) fun h' st' sb => ?_
    have I1 : Inv X pins σ H { s with heap := h' } := I.turned (t' := s.toks) (fun b o hb e => (sb.2 b hb).trans e) f0 f1 f3 f4 f5
    obtain ⟨o, e, c, d⟩ := id st'
    exact ⟨u, rfl, go_of (s := { s with heap := h' }) e c d (by decide) ⟨x, H, I1, ru, ⟨rfl, fun ys hy => by rw [I.list_inj hy hq]; exact hx⟩, st', fun b hb => (hf b hb).1⟩⟩
  done := by
    intro X hP hw hK hc i pins s σ H E I hf st hg
    subst hP hw hK
    obtain ⟨xs, hq, hx⟩ := hg
    obtain ⟨its, rv, p, hz⟩ := I.list hq
    obtain ⟨f0, f1, f2, f3, f4, f5⟩ := hf it (by simp)
    have hl := rv.length
    exact wpAny_pyNext_list_end (I.ok.hd hc) st p.isList (by simp; omega) fun h' eb => ⟨rfl, I.turned (t' := s.toks) (fun b o hb e => eb b o hb e) f0 f1 f3 f4 f5⟩
  self := fun _ _ _ _ _ st h => wpAny_pyIter_listiter st h
theorem turn_tuple {P : Program} {w : World} {K : PySem.W.Frag} {tg : Expr} (a it : Addr) : Turn P w K tg (Itt K a) [it] it (fun i h => h.IsTupleIter it a i) where
  mem := by simp
  obj := fun i h st b hb => by
    have e : b = it := by simpa using hb
    subst e
    obtain ⟨o, e, c, d⟩ := st
    exact ⟨o, e, fun v z => by rw [d] at z; cases z⟩
  keep := fun i h h' st k => st.at fun o e => k it (by simp) o e
  item := by
    intro X hP hw hK hc i pins s σ H E I hf st hg
    subst hP hw hK
    obtain ⟨xs, x, hq, hx⟩ := hg
    obtain ⟨its, rv, p, hz⟩ := I.tuple hq
    obtain ⟨u, hu, ru⟩ := rv.get hx
    obtain ⟨f0, f1, f2, f3, f4, f5⟩ := hf it (by simp)
    refine wpAny_pyNext_tuple_item st (show s.heap.IsTuple a its.toArray from p) (x := u) (by simpa using hu) fun h' st' sb => ?_
    have I1 : Inv X pins σ H { s with heap := h' } := I.turned (t' := s.toks) (fun b o hb e => (sb.2 b hb).trans e) f0 f1 f3 f4 f5
    obtain ⟨o, e, c, d⟩ := id st'
    exact ⟨u, rfl, go_of (s := { s with heap := h' }) e c d (by decide) ⟨x, H, I1, ru, ⟨rfl, fun ys hy => by rw [I.tuple_inj hy hq]; exact hx⟩, st', fun b hb => (hf b hb).1⟩⟩
  done := by
    intro X hP hw hK hc i pins s σ H E I hf st hg
    subst hP hw hK
    obtain ⟨xs, hq, hx⟩ := hg
    obtain ⟨its, rv, p, hz⟩ := I.tuple hq
    obtain ⟨f0, f1, f2, f3, f4, f5⟩ := hf it (by simp)
    have hl := rv.length
    exact wpAny_pyNext_tuple_end (I.ok.hd hc) st (show s.heap.IsTuple a its.toArray from p) (by simp; omega) fun h' eb => ⟨rfl, I.turned (t' := s.toks) (fun b o hb e => eb b o hb e) f0 f1 f3 f4 f5⟩
  self := fun _ _ _ _ _ st h => wpAny_pyIter_tupleiter st h
theorem turn_range {P : Program} {w : World} {K : PySem.W.Frag} {tg : Expr} (it : Addr) (lo : Int) (n : Nat) : Turn P w K tg (Itr lo n) [it] it (fun i h => IsRangeIter h it (lo + (i : Nat) * 1) ((n : Int) - (i : Nat)) 1) where
  mem := by simp
  obj := fun i h st b hb => by
    have e : b = it := by simpa using hb
    subst e
    exact ⟨_, st, fun v z => by
      have z' : Data.fields _ = Data.cell v := z
      cases z'⟩
  keep := fun i h h' st k => k it (by simp) _ st
  item := by
    intro X hP hw hK hc i pins s σ H E I hf st hg
    subst hP hw hK
    obtain ⟨f0, f1, f2, f3, f4, f5⟩ := hf it (by simp)
    have W := Walks.range (prog := X.prog) (w := X.w) (I.ok.hd hc) it lo 1 n
    refine W.item i s _ _ hg st fun v h' tk hv st' kk => ?_
    obtain ⟨t, rfl⟩ := hv
    have I1 : Inv X pins σ H { s with heap := h', toks := tk } := I.turned (fun b o hb e => kk b o (by simpa using hb) e) f0 f1 f3 f4 f5
    refine ⟨_, rfl, go_of (s := { s with heap := h', toks := tk }) (n := "range_iterator") st' rfl rfl (by decide) ⟨.int (lo + i), H, I1, ⟨t, ?_⟩, ⟨rfl, rfl⟩, st', fun b hb => (hf b hb).1⟩⟩
    rw [Int.mul_one]
  done := by
    intro X hP hw hK hc i pins s σ H E I hf st hg
    subst hP hw hK
    obtain ⟨f0, f1, f2, f3, f4, f5⟩ := hf it (by simp)
    exact wpAny_pyNext_range_end (I.ok.hd hc) st (by have : n ≤ i := hg; omega) fun h' eb => ⟨rfl, I.turned (t' := s.toks) (fun b o hb e => eb b o hb e) f0 f1 f3 f4 f5⟩
  self := fun _ _ _ _ _ st h => wpAny_pyIter_rangeiter st h
end L2

namespace L2
open PySem PySem.Spec PyProof.Rows
section
variable {X : Cx} {tg : Expr}
def iList (K : PySem.W.Frag) (tl : TE) : TI := fun σ H R => tl σ H fun x H1 => ∃ a, x = .ref a ∧ (∃ xs, SqL K H1 a xs) ∧ R (Itl K a) H1
def iTup (K : PySem.W.Frag) (tl : TE) : TI := fun σ H R => tl σ H fun x H1 => ∃ a, x = .ref a ∧ (∃ xs, SqT K H1 a xs) ∧ R (Itt K a) H1
theorem pi_list {l : Expr} {tl : TE} (hl : PE X l tl) : PI X tg l (iList X.K tl) := by
  intro pins s σ H R I h
  refine thn (hl pins s σ H _ I h) fun v s1 ⟨x, H1, I1, r1, q1⟩ => ?_
  obtain ⟨a, e, ⟨xs, hq⟩, q⟩ := q1
  subst e
  cases r1
  obtain ⟨its, rv, p, hz⟩ := I1.list hq
  refine wpAny_pyIter_list p.isList ?_
  refine ⟨s1.heap.objs.size, [s1.heap.objs.size], _, _, H1, rfl, I1.kept (t' := s1.toks) fun b o e => Heap.get?_push_of_some _ e, turn_list a _, ⟨_, Heap.get?_push_size _ rfl, rfl, rfl⟩, fun b hb => ?_, q⟩
  have e : b = s1.heap.objs.size := by simpa using hb
  subst e
  exact I1.fpOk (Nat.le_refl _) (I1.hok.fresh (Nat.le_refl _))
theorem pi_tup {l : Expr} {tl : TE} (hl : PE X l tl) : PI X tg l (iTup X.K tl) := by
  intro pins s σ H R I h
  refine thn (hl pins s σ H _ I h) fun v s1 ⟨x, H1, I1, r1, q1⟩ => ?_
  obtain ⟨a, e, ⟨xs, hq⟩, q⟩ := q1
  subst e
  cases r1
  obtain ⟨its, rv, p, hz⟩ := I1.tuple hq
  refine wpAny_pyIter_tuple (show s1.heap.IsTuple a its.toArray from p) ?_
  refine ⟨s1.heap.objs.size, [s1.heap.objs.size], _, _, H1, rfl, I1.kept (t' := s1.toks) fun b o e => Heap.get?_push_of_some _ e, turn_tuple a _, ⟨_, Heap.get?_push_size _ rfl, rfl, rfl⟩, fun b hb => ?_, q⟩
  have e : b = s1.heap.objs.size := by simpa using hb
  subst e
  exact I1.fpOk (Nat.le_refl _) (I1.hok.fresh (Nat.le_refl _))
theorem range_it {pins : List (Addr × Obj)} {σ : St} {H : Hp} {s : Shared} {R : It → Hp → Prop} {E : Value → Shared → Prop} {lo hi : Int} {t u v : Tok} {tk : Nat} (I : Inv X pins σ H s) (h1 : -(2 ^ 62) ≤ lo) (h2 : lo < 2 ^ 62) (h3 : -(2 ^ 62) ≤ hi) (h4 : hi < 2 ^ 62)
    (q : R (Itr lo (hi - lo).toNat) H) : wpAny (model X.prog X.w) X.A (pyIter (.ref s.heap.objs.size)) (PIE X pins σ tg R) E { s with heap := s.heap.push { cls := .type "range", data := .fields #[.int lo t, .int hi u, .int 1 v] }, toks := tk } := by
  refine wpAny_pyIter_range (IsRange.new ..) (small_one h1 h2 h3 h4) ?_
  have I1 : Inv X pins σ H { s with heap := s.heap.push { cls := .type "range", data := .fields #[.int lo t, .int hi u, .int 1 v] }, toks := tk } := I.kept fun b o e => Heap.get?_push_of_some _ e
  refine ⟨(s.heap.push { cls := .type "range", data := .fields #[.int lo t, .int hi u, .int 1 v] }).objs.size, [(s.heap.push { cls := .type "range", data := .fields #[.int lo t, .int hi u, .int 1 v] }).objs.size], _, _, H, rfl,
    I1.kept (t' := tk) fun b o e => Heap.get?_push_of_some _ e, turn_range _ lo (hi - lo).toNat, ?_, fun b hb => ?_, q⟩
  · have e1 : lo + ((0 : Nat) : Int) * 1 = lo := by simp
    have e2 : (((hi - lo).toNat : Nat) : Int) - ((0 : Nat) : Int) = Builtin.Range.rangeSize lo hi 1 := by rw [rangeSize_one]; split <;> omega
    show IsRangeIter _ _ (lo + ((0 : Nat) : Int) * 1) ((((hi - lo).toNat : Nat) : Int) - ((0 : Nat) : Int)) 1
    rw [e1, e2]
    exact Heap.get?_push_size _ rfl
  · have e : b = (s.heap.push { cls := .type "range", data := .fields #[.int lo t, .int hi u, .int 1 v] }).objs.size := by simpa using hb
    subst e
    exact I1.fpOk (Nat.le_refl _) (I1.hok.fresh (Nat.le_refl _))
def iRng1 (ta : TA) : TI := fun σ H R => ta σ H fun vs H1 => ∃ j : Int, vs = [.int j] ∧ -(2 ^ 62) ≤ j ∧ j < 2 ^ 62 ∧ R (Itr 0 j.toNat) H1
theorem pi_range1 {a : Expr} {ta : TA} {p pos : Pos} (hg : Gl X "range") (hm : X.mg "range" = none) (ha : PA X [a] ta) (hs : starEach [a] X.env = [(false, eval a X.env)] := by rfl) : PI X tg (.Call (.Name "range" p) [a] [] pos) (iRng1 ta) := by
  intro pins s σ H R I h
  refine Call_ (ld_blt I hg hm boot_range (PyProof.Rows.callWith_type1 (thn (ha pos pins s σ H _ I h) fun us s1 ⟨vs, H1, I1, r1, q1⟩ => ?_) hs rfl))
  obtain ⟨j, e, q1, q2, q⟩ := q1
  subst e
  cases r1 with
  | cons r rr =>
    cases rr
    obtain ⟨t, rfl⟩ := r
    exact call_range_1 (range_it I1 (by omega) (by omega) q1 q2 (by simpa using q))
def tFor (wi : TI) (g : TG) (tb : TS) : TS := fun D σ H => wi σ H fun J H1 => ∃ W : Nat → Nat → St → Hp → Prop, (∃ m, W 0 m σ H1) ∧ ∀ i m σ H, W i m σ H →
  (J.stop i H ∧ D.nx σ H) ∨ (J.go i H ∧ ∃ N : St → Hp → Prop, (∀ σ' H', N σ' H' → ∃ m', m' < m ∧ W (i + 1) m' σ' H') ∧ ∀ x H', J.yld i H x H' → g x σ H' fun σ2 H2 => tb { D with nx := N, ct := N, bk := D.nx } σ2 H2)
def pinsAt (fp : List Addr) (h : Heap) : List (Addr × Obj) := fp.filterMap fun b => (h.get? b).map fun o => (b, o)
theorem mem_pinsAt {fp : List Addr} {h : Heap} {b : Addr} {o : Obj} (hb : b ∈ fp) (e : h.get? b = some o) : (b, o) ∈ pinsAt fp h := List.mem_filterMap.mpr ⟨b, hb, by rw [e]; rfl⟩
theorem of_pinsAt {fp : List Addr} {h : Heap} {p : Addr × Obj} (hp : p ∈ pinsAt fp h) : p.1 ∈ fp ∧ h.get? p.1 = some p.2 := by
  obtain ⟨b, hb, e⟩ := List.mem_filterMap.mp hp
  cases q : h.get? b with
  | none => rw [q] at e; cases e
  | some o =>
    rw [q] at e
    have e' : (b, o) = p := Option.some.inj e
    subst e'
    exact ⟨hb, q⟩
theorem Inv.pinned {pins : List (Addr × Obj)} {σ : St} {H : Hp} {s : Shared} {fp : List Addr} (I : Inv X pins σ H s) (hf : ∀ b ∈ fp, FpOk X pins H b) (ho : ∀ b ∈ fp, ∃ o, s.heap.get? b = some o ∧ ∀ v, o.data ≠ .cell v) : Inv X (pins ++ pinsAt fp s.heap) σ H s :=
  I.pins_of fun p hp => (List.mem_append.mp hp).elim (fun z => I.pin p (List.mem_append_right _ z)) fun z => by
    obtain ⟨hb, e⟩ := of_pinsAt z
    obtain ⟨f0, f1, f2, _⟩ := hf p.1 hb
    obtain ⟨o, e', d⟩ := ho p.1 hb
    rw [e] at e'; cases e'
    exact ⟨e, f0, f1, f2, d⟩
theorem Inv.unpinned {pins pl : List (Addr × Obj)} {σ : St} {H : Hp} {s : Shared} (I : Inv X (pins ++ pl) σ H s) : Inv X pins σ H s := I.pins_of fun p hp => I.pin p (List.mem_append_right _ (List.mem_append_left _ hp))
theorem ps_for {iter : Expr} {body : List Stmt} {wi : TI} {g : TG} {tb : TS} {pos : Pos} (hp : PassesOwn (model X.prog X.w) X.A X.env X.xe) (hc : X.calm = true) (hi : PI X tg iter wi) (hg : PG X tg g) (hb : PSs X body tb)
    (hs : ∀ x, foldedSetIterable iter X.env x = pure x := by intro _; rfl) : PS X (.For tg iter body [] pos) (tFor wi g tb) := by
  intro pins s σ H D I h
  refine wpAny_For (thn (hi pins s σ H _ I h) fun v s1 h1 => thn h1 fun itv s2 h2 => ?_) hs
  obtain ⟨it, fp, tn, J, H2, e, I2, T, st2, f2, W, ⟨m0, w0⟩, turn⟩ := h2
  subst e
  -- what stays true of the iterator's objects through the loop
  have stat : ∀ {H' : Hp}, (∀ b ∈ fp, H' b = none) → ∀ b ∈ fp, FpOk X pins H' b := fun hn b hb => ⟨hn b hb, (f2 b hb).2⟩
  refine codeAny_forLoop_any (fun n s' => ∃ i σ' H', Inv X pins σ' H' s' ∧ tn i s'.heap ∧ (∀ b ∈ fp, H' b = none) ∧ W i n σ' H') ?_ m0 ⟨0, σ, H2, I2, st2, fun b hb => (f2 b hb).1, w0⟩
  rintro n s3 ⟨i, σ3, H3, I3, st3, fr3, w3⟩
  rcases turn i n σ3 H3 w3 with ⟨stop, qn⟩ | ⟨go, N, hN, step⟩
  · refine wpAny_passesOwn hp (thn (T.done X rfl rfl rfl hc i pins s3 σ3 H3 X.xe I3 (stat fr3) st3 stop) fun r s4 ⟨hr, I4⟩ => ?_)
    subst hr
    exact wpAny_execs_nil ⟨σ3, H3, I4, qn⟩
  · refine wpAny_passesOwn hp (thn (T.item X rfl rfl rfl hc i pins s3 σ3 H3 X.xe I3 (stat fr3) st3 go) fun r s4 ⟨u, hr, h4⟩ => ?_)
    subst hr
    refine wpAny_passesOwn hp (thn h4 fun _ s5 ⟨x, H5, I5, r5, y5, st5, fr5⟩ => ?_)
    have I5' := I5.pinned (stat fr5) (T.obj _ _ st5)
    refine wpAny_passesOwn hp (thn (hg _ s5 σ3 H5 x u _ I5' r5 (step x H5 y5)) fun _ s6 ⟨σ6, H6, I6, q6⟩ => ?_)
    refine wpAny_passesOwn hp (thn (hb _ s6 σ6 H6 _ I6 q6) fun f s7 q7 => ?_)
    have again : ∀ {σ7 : St} {H7 : Hp}, Inv X (pins ++ pinsAt fp s5.heap) σ7 H7 s7 → N σ7 H7 → ∃ m, m < n ∧ ∃ i σ' H', Inv X pins σ' H' s7 ∧ tn i s7.heap ∧ (∀ b ∈ fp, H' b = none) ∧ W i m σ' H' := fun {σ7 H7} I7 n7 => by
      obtain ⟨m', hm, w7⟩ := hN σ7 H7 n7
      refine ⟨m', hm, i + 1, σ7, H7, I7.unpinned, T.keep _ _ _ st5 fun b hb o e => (I7.pin (b, o) (List.mem_append_right _ (List.mem_append_right _ (mem_pinsAt hb e)))).1, fun b hb => ?_, w7⟩
      obtain ⟨o, e, d⟩ := T.obj _ _ st5 b hb
      exact (I7.pin (b, o) (List.mem_append_right _ (List.mem_append_right _ (mem_pinsAt hb e)))).2.1
    cases f with
    | next => obtain ⟨σ7, H7, I7, n7⟩ := q7; exact again I7 n7
    | cont => obtain ⟨σ7, H7, I7, n7⟩ := q7; exact again I7 n7
    | brk => obtain ⟨σ7, H7, I7, q7⟩ := q7; exact ⟨σ7, H7, I7.unpinned, q7⟩
    | ret v => obtain ⟨x7, σ7, H7, I7, r7, q7⟩ := q7; exact ⟨x7, σ7, H7, I7.unpinned, r7, q7⟩
end

theorem for_list {K : PySem.W.Frag} {a : Addr} {xs : List V} {g : TG} {tb : TS} {D : Ends} {σ : St} {H : Hp} (Pv : Nat → St → Hp → Prop) (h0 : Pv 0 σ H) (hl : ∀ i σ H, i ≤ xs.length → Pv i σ H → SqL K H a xs)
    (hs : ∀ i x σ H, xs[i]? = some x → Pv i σ H → g x σ H fun σ2 H2 => tb { D with nx := Pv (i + 1), ct := Pv (i + 1), bk := D.nx } σ2 H2) (hd : ∀ σ H, Pv xs.length σ H → D.nx σ H) :
    ∃ W : Nat → Nat → St → Hp → Prop, (∃ m, W 0 m σ H) ∧ ∀ i m σ H, W i m σ H →
      ((Itl K a).stop i H ∧ D.nx σ H) ∨ ((Itl K a).go i H ∧ ∃ N : St → Hp → Prop, (∀ σ' H', N σ' H' → ∃ m', m' < m ∧ W (i + 1) m' σ' H') ∧ ∀ x H', (Itl K a).yld i H x H' → g x σ H' fun σ2 H2 => tb { D with nx := N, ct := N, bk := D.nx } σ2 H2) := by
  refine ⟨fun i m σ H => m = xs.length - i ∧ i ≤ xs.length ∧ Pv i σ H, ⟨xs.length, by simp, Nat.zero_le _, h0⟩, ?_⟩
  rintro i m σ H ⟨rfl, hi, p⟩
  have q := hl i σ H hi p
  by_cases hlt : i < xs.length
  · refine .inr ⟨⟨xs, xs[i], q, by simp [hlt]⟩, Pv (i + 1), fun σ' H' p' => ⟨xs.length - (i + 1), by omega, rfl, hlt, p'⟩, fun x H' y => ?_⟩
    obtain ⟨e, y⟩ := y
    subst e
    exact hs i x σ _ (y xs q) p
  · have e : i = xs.length := by omega
    subst e
    exact .inl ⟨⟨xs, q, Nat.le_refl _⟩, hd σ H p⟩
theorem for_tup {K : PySem.W.Frag} {a : Addr} {xs : List V} {g : TG} {tb : TS} {D : Ends} {σ : St} {H : Hp} (Pv : Nat → St → Hp → Prop) (h0 : Pv 0 σ H) (hl : ∀ i σ H, i ≤ xs.length → Pv i σ H → SqT K H a xs)
    (hs : ∀ i x σ H, xs[i]? = some x → Pv i σ H → g x σ H fun σ2 H2 => tb { D with nx := Pv (i + 1), ct := Pv (i + 1), bk := D.nx } σ2 H2) (hd : ∀ σ H, Pv xs.length σ H → D.nx σ H) :
    ∃ W : Nat → Nat → St → Hp → Prop, (∃ m, W 0 m σ H) ∧ ∀ i m σ H, W i m σ H →
      ((Itt K a).stop i H ∧ D.nx σ H) ∨ ((Itt K a).go i H ∧ ∃ N : St → Hp → Prop, (∀ σ' H', N σ' H' → ∃ m', m' < m ∧ W (i + 1) m' σ' H') ∧ ∀ x H', (Itt K a).yld i H x H' → g x σ H' fun σ2 H2 => tb { D with nx := N, ct := N, bk := D.nx } σ2 H2) := by
  refine ⟨fun i m σ H => m = xs.length - i ∧ i ≤ xs.length ∧ Pv i σ H, ⟨xs.length, by simp, Nat.zero_le _, h0⟩, ?_⟩
  rintro i m σ H ⟨rfl, hi, p⟩
  have q := hl i σ H hi p
  by_cases hlt : i < xs.length
  · refine .inr ⟨⟨xs, xs[i], q, by simp [hlt]⟩, Pv (i + 1), fun σ' H' p' => ⟨xs.length - (i + 1), by omega, rfl, hlt, p'⟩, fun x H' y => ?_⟩
    obtain ⟨e, y⟩ := y
    subst e
    exact hs i x σ _ (y xs q) p
  · have e : i = xs.length := by omega
    subst e
    exact .inl ⟨⟨xs, q, Nat.le_refl _⟩, hd σ H p⟩
theorem for_range {lo : Int} {n : Nat} {g : TG} {tb : TS} {D : Ends} {σ : St} {H : Hp} (Pv : Nat → St → Hp → Prop) (h0 : Pv 0 σ H)
    (hs : ∀ i σ H, i < n → Pv i σ H → g (.int (lo + i)) σ H fun σ2 H2 => tb { D with nx := Pv (i + 1), ct := Pv (i + 1), bk := D.nx } σ2 H2) (hd : ∀ σ H, Pv n σ H → D.nx σ H) :
    ∃ W : Nat → Nat → St → Hp → Prop, (∃ m, W 0 m σ H) ∧ ∀ i m σ H, W i m σ H →
      ((Itr lo n).stop i H ∧ D.nx σ H) ∨ ((Itr lo n).go i H ∧ ∃ N : St → Hp → Prop, (∀ σ' H', N σ' H' → ∃ m', m' < m ∧ W (i + 1) m' σ' H') ∧ ∀ x H', (Itr lo n).yld i H x H' → g x σ H' fun σ2 H2 => tb { D with nx := N, ct := N, bk := D.nx } σ2 H2) := by
  refine ⟨fun i m σ H => m = n - i ∧ i ≤ n ∧ Pv i σ H, ⟨n, by simp, Nat.zero_le _, h0⟩, ?_⟩
  rintro i m σ H ⟨rfl, hi, p⟩
  by_cases hlt : i < n
  · refine .inr ⟨hlt, Pv (i + 1), fun σ' H' p' => ⟨n - (i + 1), by omega, rfl, hlt, p'⟩, fun x H' y => ?_⟩
    obtain ⟨e, y⟩ := y
    subst e y
    exact hs i σ _ hlt p
  · have e : i = n := by omega
    subst e
    exact .inl ⟨Nat.le_refl _, hd σ H p⟩
end L2

namespace L2
open PySem PySem.Spec PyProof.Rows

abbrev R2 := V → V → Hp → VK → Prop
def OpR (X : Cx) (f : Value → Value → Sem Value) (r : R2) : Prop :=
  ∀ (pins : List (Addr × Obj)) (s : Shared) (σ : St) (H : Hp) (x y : V) (v u : Value) (Q : VK), Inv X pins σ H s → RelV x v → RelV y u → r x y H Q →
    wpAny (model X.prog X.w) X.A (f v u) (EP X pins σ Q) X.xe s
def UnR (X : Cx) (f : Value → Sem Value) (r : V → Hp → VK → Prop) : Prop :=
  ∀ (pins : List (Addr × Obj)) (s : Shared) (σ : St) (H : Hp) (x : V) (v : Value) (Q : VK), Inv X pins σ H s → RelV x v → r x H Q →
    wpAny (model X.prog X.w) X.A (f v) (EP X pins σ Q) X.xe s
def CallR (X : Cx) (f : Value) (r : List V → Hp → VK → Prop) : Prop :=
  ∀ (pins : List (Addr × Obj)) (s : Shared) (σ : St) (H : Hp) (xs : List V) (us : List Value) (Q : VK), Inv X pins σ H s → Vals xs us → r xs H Q →
    wpAny (model X.prog X.w) X.A (call f us) (EP X pins σ Q) X.xe s
def tOp (r : R2) (ta tb : TE) : TE := fun σ H Q => ta σ H fun x H1 => tb σ H1 fun y H2 => r x y H2 Q
def tUn (r : V → Hp → VK → Prop) (ta : TE) : TE := fun σ H Q => ta σ H fun x H1 => r x H1 Q
def rI (C : Int → Int → Prop) (g : Int → Int → V) : R2 := fun x y H Q => ∃ i j, x = .int i ∧ y = .int j ∧ C i j ∧ Q (g i j) H
def rI0 (g : Int → Int → V) : R2 := fun x y H Q => ∃ i j, x = .int i ∧ y = .int j ∧ Q (g i j) H
def rU (g : Int → V) : V → Hp → VK → Prop := fun x H Q => ∃ i, x = .int i ∧ Q (g i) H

section
variable {X : Cx} {a b c : Expr} {ta tb tc : TE} {pos : Pos}

theorem binT (ha : PE X a ta) (hb : PE X b tb) {pins : List (Addr × Obj)} {s : Shared} {σ : St} {H : Hp} {R : V → V → Hp → Prop} (I : Inv X pins σ H s)
    (h : ta σ H fun x H1 => tb σ H1 fun y H2 => R x y H2) {Q : Value → Shared → Prop} {f : Value → Value → Sem Value}
    (hf : ∀ v u s2 x y H2, Inv X pins σ H2 s2 → RelV x v → RelV y u → R x y H2 → wpAny (model X.prog X.w) X.A (f v u) Q X.xe s2) :
    wpAny (model X.prog X.w) X.A (eval a X.env) (fun v s₁ => wpAny (model X.prog X.w) X.A (eval b X.env) (fun u s₂ => wpAny (model X.prog X.w) X.A (f v u) Q X.xe s₂) X.xe s₁) X.xe s := by
  refine thn (ha pins s σ H _ I h) fun v s1 ⟨x, H1, I1, r1, q1⟩ => ?_
  refine thn (hb pins s1 σ H1 _ I1 q1) fun u s2 ⟨y, H2, I2, r2, q2⟩ => ?_
  exact hf v u s2 x y H2 I2 r1 r2 q2

theorem pe_op {op : Operator} {r : R2} (ho : OpR X (binaryOp op) r) (ha : PE X a ta) (hb : PE X b tb) : PE X (.BinOp a op b pos) (tOp r ta tb) := by
  intro pins s σ H Q I h
  exact wpAny_BinOp (binT ha hb I h fun v u s2 x y H2 I2 rx ry q => ho pins s2 σ H2 x y v u Q I2 rx ry q)
theorem pe_un {op : UnaryOp} {r : V → Hp → VK → Prop} (ho : UnR X (unaryOp op) r) (ha : PE X a ta) : PE X (.UnaryOp op a pos) (tUn r ta) := by
  intro pins s σ H Q I h
  exact UnaryOp_ (thn (ha pins s σ H _ I h) fun v s1 ⟨x, H1, I1, r1, q1⟩ => ho pins s1 σ H1 x v Q I1 r1 q1)
theorem opI {f : Value → Value → Sem Value} {C : Int → Int → Prop} {g : Int → Int → Int}
    (rule : ∀ (i j : Int) (t u : Tok) (s : Shared) (Q : Value → Shared → Prop) (E : Value → Shared → Prop), C i j → Q (.int (g i j) s.toks) { s with toks := s.toks + 1 } → wpAny (model X.prog X.w) X.A (f (.int i t) (.int j u)) Q E s) :
    OpR X f (rI C fun i j => .int (g i j)) := by
  intro pins s σ H x y v u Q I rx ry h
  obtain ⟨i, j, rfl, rfl, hc, q⟩ := h
  obtain ⟨t, rfl⟩ := rx
  obtain ⟨t', rfl⟩ := ry
  exact rule i j t t' s _ _ hc ⟨.int (g i j), H, I.tok _, ⟨_, rfl⟩, q⟩
theorem opI0 {f : Value → Value → Sem Value} {g : Int → Int → Int}
    (rule : ∀ (i j : Int) (t u : Tok) (s : Shared) (Q : Value → Shared → Prop) (E : Value → Shared → Prop), Q (.int (g i j) s.toks) { s with toks := s.toks + 1 } → wpAny (model X.prog X.w) X.A (f (.int i t) (.int j u)) Q E s) :
    OpR X f (rI0 fun i j => .int (g i j)) := by
  intro pins s σ H x y v u Q I rx ry h
  obtain ⟨i, j, rfl, rfl, q⟩ := h
  obtain ⟨t, rfl⟩ := rx
  obtain ⟨t', rfl⟩ := ry
  exact rule i j t t' s _ _ ⟨.int (g i j), H, I.tok _, ⟨_, rfl⟩, q⟩
theorem opB0 {f : Value → Value → Sem Value} {g : Int → Int → Bool}
    (rule : ∀ (i j : Int) (t u : Tok) (s : Shared) (Q : Value → Shared → Prop) (E : Value → Shared → Prop), Q (.bool (g i j)) s → wpAny (model X.prog X.w) X.A (f (.int i t) (.int j u)) Q E s) :
    OpR X f (rI0 fun i j => .bl (g i j)) := by
  intro pins s σ H x y v u Q I rx ry h
  obtain ⟨i, j, rfl, rfl, q⟩ := h
  obtain ⟨t, rfl⟩ := rx
  obtain ⟨t', rfl⟩ := ry
  exact rule i j t t' s _ _ ⟨.bl (g i j), H, I, rfl, q⟩

def CDiv (i j : Int) : Prop := 0 < j ∧ j < 1073741824
def CMul (i j : Int) : Prop := (-(2 ^ 64) < i ∧ i < 2 ^ 64) ∨ (-(2 ^ 64) < j ∧ j < 2 ^ 64)
theorem CMul.ok {i j : Int} (h : CMul i j) : IntMulOk i j := by
  rcases h with ⟨h1, h2⟩ | ⟨h1, h2⟩
  · exact .of_left (intBits_le_64 h1 h2)
  · exact .of_right (intBits_le_64 h1 h2)
theorem op_add : OpR X (binaryOp .Add) (rI0 fun i j => .int (i + j)) := opI0 fun _ _ _ _ _ _ _ q => add_int q
theorem op_sub : OpR X (binaryOp .Sub) (rI0 fun i j => .int (i - j)) := opI0 fun _ _ _ _ _ _ _ q => sub_int q
theorem op_mul : OpR X (binaryOp .Mult) (rI CMul fun i j => .int (i * j)) := opI fun _ _ _ _ _ _ _ hc q => mul_int q hc.ok
theorem op_fdiv : OpR X (binaryOp .FloorDiv) (rI CDiv fun i j => .int (i / j)) := opI fun i j _ _ _ _ _ hc q => by
  have h1 : (0 : Int) < j := hc.1
  have h2 : j < 1073741824 := hc.2
  exact floordiv_int (by omega) (by rw [Int.fdiv_eq_ediv_of_nonneg i (by omega)]; exact q) (.inl (PyProof.noPylong_small (by omega)))
theorem op_mod : OpR X (binaryOp .Mod) (rI (fun _ j => 0 < j) fun i j => .int (i % j)) := opI fun i j _ _ _ _ _ hc q => by
  have h1 : (0 : Int) < j := hc
  exact mod_int' (by omega) (by rw [Int.fmod_eq_emod_of_nonneg i (by omega)]; exact q)
theorem unI {f : Value → Sem Value} {g : Int → Int}
    (rule : ∀ (i : Int) (t : Tok) (s : Shared) (Q : Value → Shared → Prop) (E : Value → Shared → Prop), Q (.int (g i) s.toks) { s with toks := s.toks + 1 } → wpAny (model X.prog X.w) X.A (f (.int i t)) Q E s) :
    UnR X f (rU fun i => .int (g i)) := by
  intro pins s σ H x v Q I rx h
  obtain ⟨i, rfl, q⟩ := h
  obtain ⟨t, rfl⟩ := rx
  exact rule i t s _ _ ⟨.int (g i), H, I.tok _, ⟨_, rfl⟩, q⟩
theorem un_neg : UnR X (unaryOp .USub) (rU fun i => .int (-i)) := unI fun _ _ _ _ _ q => neg_int q
end

def scal : V → V → Bool
  | .non, .non => true | .non, .int _ => true | .int _, .non => true | .non, .bl _ => true | .bl _, .non => true | .non, .str _ => true | .str _, .non => true
  | .int _, .int _ => true | .bl _, .bl _ => true | .str _, .str _ => true | .byt _, .byt _ => true
  | .int _, .str _ => true | .str _, .int _ => true | .bl _, .str _ => true | .str _, .bl _ => true
  | _, _ => false
def rEq : R2 := fun x y H Q => scal x y = true ∧ Q (.bl (decide (x = y))) H
def rNe : R2 := fun x y H Q => scal x y = true ∧ Q (.bl (!decide (x = y))) H

theorem dec_int {i j : Int} : decide (V.int i = V.int j) = (i == j) := by
  rw [Bool.eq_iff_iff]
  simp
theorem dec_bl {i j : Bool} : decide (V.bl i = V.bl j) = (i == j) := by
  rw [Bool.eq_iff_iff]
  simp
theorem dec_str {i j : Str} : decide (V.str i = V.str j) = (i == j) := by
  rw [Bool.eq_iff_iff]
  simp
theorem dec_byt {i j : Array UInt8} : decide (V.byt i = V.byt j) = (i.toList == j.toList) := by
  rw [Bool.eq_iff_iff]
  cases i
  cases j
  simp

section
variable {X : Cx} {a b c : Expr} {ta tb tc : TE} {pos : Pos}
theorem fin_bl {pins : List (Addr × Obj)} {σ : St} {H : Hp} {s : Shared} {Q : VK} {k k' : Bool} (I : Inv X pins σ H s) (q : Q (.bl k) H) (e : k = k') : EP X pins σ Q (.bool k') s := by
  subst e
  exact ⟨.bl k, H, I, rfl, q⟩
theorem op_eq : OpR X (compareOp .Eq) rEq := by
  intro pins s σ H x y v u Q I rx ry h
  obtain ⟨hs, q⟩ := h
  cases x with
  | non =>
    cases rx
    cases y with
    | non => cases ry; exact PySem.EqNone.eq_none_none (fin_bl I q (by simp))
    | bl j => cases ry; exact PySem.EqNone.eq_none_bool (fin_bl I q (by simp))
    | int j => obtain ⟨t', rfl⟩ := ry; exact PySem.EqNone.eq_none_int (fin_bl I q (by simp))
    | str j => obtain ⟨t', rfl⟩ := ry; exact PySem.EqNone.eq_none_str (fin_bl I q (by simp))
    | _ => exact absurd (show false = true from hs) Bool.false_ne_true
  | bl i =>
    cases rx
    cases y with
    | non => cases ry; exact PySem.EqNone.eq_bool_none (fin_bl I q (by simp))
    | bl j => cases ry; exact eq_bool (fin_bl I q dec_bl)
    | str j => obtain ⟨t', rfl⟩ := ry; exact PySem.EqMixed.eq_bool_str (fin_bl I q (by simp))
    | _ => exact absurd (show false = true from hs) Bool.false_ne_true
  | int i =>
    obtain ⟨t, rfl⟩ := rx
    cases y with
    | non => cases ry; exact PySem.EqNone.eq_int_none (fin_bl I q (by simp))
    | int j => obtain ⟨t', rfl⟩ := ry; exact eq_int (fin_bl I q dec_int)
    | str j => obtain ⟨t', rfl⟩ := ry; exact PySem.EqMixed.eq_int_str (fin_bl I q (by simp))
    | _ => exact absurd (show false = true from hs) Bool.false_ne_true
  | str i =>
    obtain ⟨t, rfl⟩ := rx
    cases y with
    | non => cases ry; exact PySem.EqNone.eq_str_none (fin_bl I q (by simp))
    | bl j => cases ry; exact PySem.EqMixed.eq_str_bool (fin_bl I q (by simp))
    | int j => obtain ⟨t', rfl⟩ := ry; exact PySem.EqMixed.eq_str_int (fin_bl I q (by simp))
    | str j => obtain ⟨t', rfl⟩ := ry; exact eq_str (fin_bl I q dec_str)
    | _ => exact absurd (show false = true from hs) Bool.false_ne_true
  | byt i =>
    obtain ⟨t, rfl⟩ := rx
    cases y with
    | byt j => obtain ⟨t', rfl⟩ := ry; exact PySem.W.eq_bytes (fin_bl I q dec_byt)
    | _ => exact absurd (show false = true from hs) Bool.false_ne_true
  | _ => cases y <;> exact absurd (show false = true from hs) Bool.false_ne_true
theorem op_ne : OpR X (compareOp .NotEq) rNe := by
  intro pins s σ H x y v u Q I rx ry h
  obtain ⟨hs, q⟩ := h
  cases x with
  | non =>
    cases rx
    cases y with
    | non => cases ry; exact PySem.EqNone.ne_none_none (fin_bl I q (by simp))
    | bl j => cases ry; exact PySem.EqNone.ne_none_bool (fin_bl I q (by simp))
    | int j => obtain ⟨t', rfl⟩ := ry; exact PySem.EqNone.ne_none_int (fin_bl I q (by simp))
    | str j => obtain ⟨t', rfl⟩ := ry; exact PySem.EqNone.ne_none_str (fin_bl I q (by simp))
    | _ => exact absurd (show false = true from hs) Bool.false_ne_true
  | bl i =>
    cases rx
    cases y with
    | non => cases ry; exact PySem.EqNone.ne_bool_none (fin_bl I q (by simp))
    | bl j => cases ry; exact ne_bool (fin_bl I q (congrArg not dec_bl))
    | str j => obtain ⟨t', rfl⟩ := ry; exact PySem.EqMixed.ne_bool_str (fin_bl I q (by simp))
    | _ => exact absurd (show false = true from hs) Bool.false_ne_true
  | int i =>
    obtain ⟨t, rfl⟩ := rx
    cases y with
    | non => cases ry; exact PySem.EqNone.ne_int_none (fin_bl I q (by simp))
    | int j => obtain ⟨t', rfl⟩ := ry; exact ne_int (fin_bl I q (congrArg not dec_int))
    | str j => obtain ⟨t', rfl⟩ := ry; exact PySem.EqMixed.ne_int_str (fin_bl I q (by simp))
    | _ => exact absurd (show false = true from hs) Bool.false_ne_true
  | str i =>
    obtain ⟨t, rfl⟩ := rx
    cases y with
    | non => cases ry; exact PySem.EqNone.ne_str_none (fin_bl I q (by simp))
    | bl j => cases ry; exact PySem.EqMixed.ne_str_bool (fin_bl I q (by simp))
    | int j => obtain ⟨t', rfl⟩ := ry; exact PySem.EqMixed.ne_str_int (fin_bl I q (by simp))
    | str j => obtain ⟨t', rfl⟩ := ry; exact ne_str (fin_bl I q (congrArg not dec_str))
    | _ => exact absurd (show false = true from hs) Bool.false_ne_true
  | byt i =>
    obtain ⟨t, rfl⟩ := rx
    cases y with
    | byt j => obtain ⟨t', rfl⟩ := ry; exact PySem.W.ne_bytes (fin_bl I q (congrArg not dec_byt))
    | _ => exact absurd (show false = true from hs) Bool.false_ne_true
  | _ => cases y <;> exact absurd (show false = true from hs) Bool.false_ne_true

theorem op_lt : OpR X (compareOp .Lt) (rI0 fun i j => .bl (decide (i < j))) := opB0 fun _ _ _ _ _ _ _ q => lt_int q
theorem op_le : OpR X (compareOp .LtE) (rI0 fun i j => .bl (decide (i ≤ j))) := opB0 fun _ _ _ _ _ _ _ q => le_int q
theorem op_gt : OpR X (compareOp .Gt) (rI0 fun i j => .bl (decide (j < i))) := opB0 fun _ _ _ _ _ _ _ q => gt_int q
theorem op_ge : OpR X (compareOp .GtE) (rI0 fun i j => .bl (decide (j ≤ i))) := opB0 fun _ _ _ _ _ _ _ q => ge_int q
theorem op_in_str : OpR X (compareOp .In) (fun x y H Q => ∃ i j, x = .str i ∧ y = .str j ∧ Q (.bl (!(Builtin.Str.occurrences j i 0 j.length 1).isEmpty)) H) := by
  intro pins s σ H x y v u Q I rx ry h
  obtain ⟨i, j, rfl, rfl, q⟩ := h
  obtain ⟨t, rfl⟩ := rx
  obtain ⟨t', rfl⟩ := ry
  exact in_str (fin_bl I q rfl)

theorem nomark (b : Expr) {op : CmpOp} (h : op ≠ .In := by decide) (h2 : op ≠ .NotIn := by decide) : behindInMarks op b = false := by
  have e1 : (op == CmpOp.In) = false := by cases op <;> first | rfl | exact absurd rfl h
  have e2 : (op == CmpOp.NotIn) = false := by cases op <;> first | rfl | exact absurd rfl h2
  cases b <;> simp [behindInMarks, e1, e2]
theorem pe_cmpR {op : CmpOp} {r : R2} (ho : OpR X (compareOp op) r) (ha : PE X a ta) (hb : PE X b tb) (hm : behindInMarks op b = false) : PE X (.Compare a [op] [b] pos) (tOp r ta tb) := by
  intro pins s σ H Q I h
  exact wpAny_Compare1 (binT ha hb I h fun v u s2 x y H2 I2 rx ry q => ho pins s2 σ H2 x y v u Q I2 rx ry q) hm
def tTest (t : TE) : TT := fun σ H Q => t σ H fun x H' => ∃ k, x = .bl k ∧ Q k H'
theorem pt_cmpR {op : CmpOp} {r : R2} (ho : OpR X (compareOp op) r) (ha : PE X a ta) (hb : PE X b tb) (hm : behindInMarks op b = false) : PT X (.Compare a [op] [b] pos) (tTest (tOp r ta tb)) := by
  intro pins s σ H Q I h
  refine wpAny_isTrue_Compare1 (thn (ha pins s σ H _ I h) fun v s1 ⟨x, H1, I1, r1, q1⟩ => thn (hb pins s1 σ H1 _ I1 q1) fun u s2 ⟨y, H2, I2, r2, q2⟩ =>
    thn (ho pins s2 σ H2 x y v u _ I2 r1 r2 q2) fun c s3 ⟨z, H3, I3, r3, k, e, q3⟩ => ?_) hm
  subst e
  cases r3
  exact wpAny_truthy_bool ⟨H3, I3, q3⟩
def tChain (r r' : R2) (ta tb tc : TE) : TE := fun σ H Q => ta σ H fun x H1 => tb σ H1 fun y H2 => r x y H2 fun z H3 => ∃ k, z = .bl k ∧
  (if k = true then tc σ H3 fun w' H4 => r' y w' H4 Q else Q (.bl false) H3)
theorem pe_chain {op op' : CmpOp} {r r' : R2} (ho : OpR X (compareOp op) r) (ho' : OpR X (compareOp op') r') (ha : PE X a ta) (hb : PE X b tb) (hc : PE X c tc)
    (hm : lastMarks [op, op'] [b, c] = false := by with_unfolding_all rfl) : PE X (.Compare a [op, op'] [b, c] pos) (tChain r r' ta tb tc) := by
  intro pins s σ H Q I h
  refine Compare_chain (thn (ha pins s σ H _ I h) fun v s1 ⟨x, H1, I1, r1, q1⟩ => chain_link (thn (hb pins s1 σ H1 _ I1 q1) fun u s2 ⟨y, H2, I2, r2, q2⟩ =>
    thn (ho pins s2 σ H2 x y v u _ I2 r1 r2 q2) fun d s3 ⟨z, H3, I3, r3, k, e, q3⟩ => ?_)) hm
  subst e
  cases r3
  refine wpAny_truthy_bool ?_
  cases k with
  | false => exact ite_ff ⟨.bl false, H3, I3, rfl, q3⟩
  | true => exact ite_tt (chain_last (thn (hc pins s3 σ H3 _ I3 q3) fun w' s4 ⟨z', H4, I4, r4, q4⟩ => ho' pins s4 σ H4 y z' u w' Q I4 r2 r4 q4))
theorem pt_chain {op op' : CmpOp} {r r' : R2} (ho : OpR X (compareOp op) r) (ho' : OpR X (compareOp op') r') (ha : PE X a ta) (hb : PE X b tb) (hc : PE X c tc)
    (hm : lastMarks [op, op'] [b, c] = false := by with_unfolding_all rfl) : PT X (.Compare a [op, op'] [b, c] pos) (tTest (tChain r r' ta tb tc)) := by
  intro pins s σ H Q I h
  refine isTrue_chain (thn (ha pins s σ H _ I h) fun v s1 ⟨x, H1, I1, r1, q1⟩ => test_link (thn (hb pins s1 σ H1 _ I1 q1) fun u s2 ⟨y, H2, I2, r2, q2⟩ =>
    thn (ho pins s2 σ H2 x y v u _ I2 r1 r2 q2) fun d s3 ⟨z, H3, I3, r3, k, e, q3⟩ => ?_)) hm
  subst e
  cases r3
  refine wpAny_truthy_bool ?_
  cases k with
  | false =>
    obtain ⟨k', e', q'⟩ := q3
    cases e'
    exact ite_ff ⟨H3, I3, q'⟩
  | true =>
    refine ite_tt (test_last (thn (hc pins s3 σ H3 _ I3 q3) fun w' s4 ⟨z', H4, I4, r4, q4⟩ => thn (ho' pins s4 σ H4 y z' u w' _ I4 r2 r4 q4) fun d' s5 ⟨z2, H5, I5, r5, k2, e2, q5⟩ => ?_))
    subst e2
    cases r5
    exact wpAny_truthy_bool ⟨H5, I5, q5⟩

theorem line63 : (sizeLine : Nat) < 2 ^ 63 := by rw [sizeLine_eq]; decide
theorem op_add_str : OpR X (binaryOp .Add) (fun x y H Q => ∃ i j, x = .str i ∧ y = .str j ∧ i.length + j.length ≤ sizeLine ∧ Q (.str (i ++ j)) H) := by
  intro pins s σ H x y v u Q I rx ry h
  obtain ⟨i, j, rfl, rfl, hz, q⟩ := h
  obtain ⟨t, rfl⟩ := rx
  obtain ⟨t', rfl⟩ := ry
  exact add_str (fun t' tk => ⟨.str (i ++ j), H, I.tok _, ⟨_, rfl⟩, q⟩) hz
theorem vals1 {x : V} {us : List Value} (r : Vals [x] us) : ∃ u, us = [u] ∧ RelV x u := by
  cases r with
  | cons r1 r2 => cases r2; exact ⟨_, rfl, r1⟩
theorem vals2 {x y : V} {us : List Value} (r : Vals [x, y] us) : ∃ u w', us = [u, w'] ∧ RelV x u ∧ RelV y w' := by
  cases r with
  | cons r1 r2 =>
    cases r2 with
    | cons r3 r4 => cases r4; exact ⟨_, _, rfl, r1, r3⟩
theorem call_int1 : CallR X (.type "int") (fun xs H Q => (∃ i, xs = [.int i] ∧ Q (.int i) H) ∨ ∃ k, xs = [.bl k] ∧ Q (.int (if k then 1 else 0)) H) := by
  intro pins s σ H xs us Q I r h
  rcases h with ⟨i, rfl, q⟩ | ⟨k, rfl, q⟩
  · obtain ⟨u, rfl, t, rfl⟩ := vals1 r
    exact call_int_int ⟨.int i, H, I, ⟨_, rfl⟩, q⟩
  · obtain ⟨u, rfl, r1⟩ := vals1 r
    cases r1
    exact call_int_bool ⟨.int (if k then 1 else 0), H, I.tok _, ⟨_, rfl⟩, q⟩
end
end L2

namespace L2
open PySem PySem.Spec PyProof.Rows

structure ObjM (h : Heap) (x dx C : Addr) (mA : Str → Option Value) : Prop where
  obj : h.get? x = some (PySem.W.instObj C dx)
  ns : h.Ns1 dx mA
  ne : dx ≠ x

theorem lookIn_ns {h : Heap} {dx : Addr} {mA : Str → Option Value} (n : h.Ns1 dx mA) : ∃ od, h.get? dx = some od ∧ ∀ name, PySem.W.lookIn name od = some (mA name) := by
  obtain ⟨o, es, ep, ho, hd, hk, _, hm⟩ := n
  refine ⟨o, ho, fun name => ?_⟩
  have e := hm name
  unfold nsFind findBy at e
  rw [← Array.find?_toList] at e
  unfold PySem.W.lookIn
  rw [hd]
  dsimp only
  split
  · rename_i y q
    rw [q] at e
    exact congrArg some e
  · rename_i q
    rw [q] at e
    have a : es.toList.any (·.refKey) = false := by
      rw [List.any_eq_false]
      intro y hy
      obtain ⟨z, t, hkey⟩ := hk y (Array.mem_toList_iff.mp hy)
      simp [DictEntry.refKey, hkey]
    have a' : ¬ es.toList.any (·.refKey) = true := by rw [a]; exact Bool.false_ne_true
    rw [if_neg a']
    exact congrArg some e

theorem ObjM.look {h : Heap} {x dx C : Addr} {mA : Str → Option Value} (I : ObjM h x dx C mA) : ∃ od, PySem.W.InstAt h x (PySem.W.instObj C dx) C (some od) ∧ ∀ name, PySem.W.lookIn name od = some (mA name) :=
  let ⟨od, ho, hl⟩ := lookIn_ns I.ns
  ⟨od, ⟨I.obj, rfl, rfl, ho⟩, hl⟩

section
variable {prog : Program} {w : World} {A : Around} {E : Value → Shared → Prop} {s : Shared} {K : PySem.W.Frag} {x dx C f : Addr} {mA : Str → Option Value} {name : Str} {v : Value}

theorem get_map {expr : Bool} {Q : Value → Shared → Prop} (X : K.In s.heap) (I : ObjM s.heap x dx C mA) (hg : PySem.W.plainGet K C name = true) (hh : PySem.W.hasDictIn K C = true)
    (ha : PySem.W.findIn K (.ref C) name = some none) (hv : mA name = some v) (hv' : PySem.W.handedIn v = true) (h : Q v { s with toks := s.toks + 1 }) :
    wpAny (model prog w) A (getAttr (.ref x) name expr) Q E s := by
  obtain ⟨od, J, hl⟩ := I.look
  exact PySem.W.get_value X J (PySem.W.plainGet_of hg).1 (PySem.W.findObj_own hh ha rfl (by rw [hl, hv])) hv' h

theorem get_meth {pl : Sem Bool} {Q : Value × List Value → Shared → Prop} (X : K.In s.heap) (I : ObjM s.heap x dx C mA) (hg : PySem.W.plainGet K C name = true)
    (hf : PySem.W.findIn K (.ref C) name = some (some (.ref f))) (ht : PySem.W.isFn K (.ref f) = true) (hv : mA name = none) (h : Q (.ref f, [.ref x]) s) :
    wpAny (model prog w) A (getMethod (.ref x) name pl) Q E s := by
  obtain ⟨od, J, hl⟩ := I.look
  exact PySem.W.method_fn X J (PySem.W.plainGet_of hg).1 (PySem.W.plainGet_of hg).2 hf (beq_iff_eq.mp ht) (by show (PySem.W.lookIn name od).map (·.isSome) = some false; rw [hl, hv]; rfl) h

theorem set_map {ns : List Str} {Q : Unit → Shared → Prop} (X : K.In s.heap) (I : ObjM s.heap x dx C mA)
    (hs : PySem.W.findIn K (.ref C) "__setattr__" = some (some (.builtin "object.__setattr__"))) (hp : PySem.W.plainOver K C = true) (ht : PySem.W.takerIn K C name = some none) (hh : PySem.W.hasDictIn K C = true)
    (hw : PySem.Within mA ns) (hsz : ns.length ≤ sizeLine)
    (h : ∀ h', ObjM h' x dx C (fun y => if y = name then some v else mA y) → Heap.SameBut dx s.heap h' → Q () { s with heap := h', toks := s.toks + 2 }) :
    wpAny (model prog w) A (setAttr (.ref x) name v) Q E s := by
  obtain ⟨od, J, hl⟩ := I.look
  refine PySem.W.set_plain X J hs (PySem.W.osa_open (s := { s with toks := s.toks + 1 }) (r := none) X J hp ht fun b => ?_)
  obtain ⟨cd, hc, hd'⟩ := PySem.W.any_some hh
  have hx : s.heap.get? x = some ⟨.ref C, some dx, .plain, #[]⟩ := I.obj
  refine wpAny_bind (wpAny_pure (wpAny_bind (wpAny_bind (wpAny_loadPart hx (wpAny_bind (PySem.W.Looks.here (s := { s with toks := s.toks + 1 }) (PySem.W.looks_clsIn X hc) ?_))))))
  rw [hd']
  refine wpAny_pure (a := some dx) (wpAny_bind (wpAny_pure (wpAny_bind ?_)))
  refine wpAny_nsSet1 (s := { s with toks := s.toks + 1 }) I.ns fun h' hn2 hs2 => ?_
  obtain ⟨oD, esD, epD, hoD, hdD, hcD⟩ := hn2.count (PySem.Within.cons name v hw)
  refine wpAny_bind (wpAny_lookBehind hoD (by rw [hdD]; exact pastItsLine_dict (Nat.le_trans hcD (by rw [List.length_cons]; omega))) ?_)
  exact wpAny_pure (h _ ⟨(hs2.2 _ (Ne.symm I.ne)).trans I.obj, hn2, I.ne⟩ hs2)

theorem make_map {R : Result → Shared → Prop} {vs : List Value} {kw : List (Str × Value)} (X : K.In s.heap) (hm : PySem.W.makesIn K C = true)
    (hi : PySem.W.findIn K (.ref C) "__init__" = some (some (.ref f))) (hf : PySem.W.typeIn K (.ref f) = some (.type "function"))
    (h : codeAny (model prog w) (A.under (.builtin "type.__call__" ⟨.ref C :: vs, kw⟩)) (.call (.ref f) ⟨.ref (s.heap.objs.size + 1) :: vs, kw⟩) (PySem.W.InitBack (s.heap.objs.size + 1) R)
      { s with heap := (s.heap.push PySem.W.emptyDict).push (PySem.W.instObj C s.heap.objs.size) }) :
    codeAny (model prog w) A (.call (.ref C) ⟨vs, kw⟩) R s := by
  obtain ⟨hh, g, d, t, os⟩ := s
  exact PySem.W.make_core (PySem.W.makes_of X hm) (PySem.W.looks_findIn X hi) (fun self => PySem.W.bind_fn X self hf) (.inl rfl) h
end

def putF (f : Str) (v : V) : List (Str × V) → List (Str × V)
  | [] => [(f, v)]
  | (g, x) :: r => if g = f then (g, v) :: r else (g, x) :: putF f v r
theorem lookup_putF (f g : Str) (v : V) : ∀ fs : List (Str × V), (putF f v fs).lookup g = if g = f then some v else fs.lookup g
  | [] => by
    show List.lookup g [(f, v)] = _
    by_cases h : g = f
    · have hb : (g == f) = true := beq_iff_eq.mpr h
      simp only [List.lookup, hb, if_pos h]
    · have hb : (g == f) = false := beq_eq_false_iff_ne.mpr h
      simp only [List.lookup, hb, if_neg h]
  | (k, x) :: r => by
    have ih := lookup_putF f g v r
    rw [show putF f v ((k, x) :: r) = (if k = f then (k, v) :: r else (k, x) :: putF f v r) from rfl]
    by_cases hk : k = f
    · rw [if_pos hk]
      by_cases h : g = k
      · have hb : (g == k) = true := beq_iff_eq.mpr h
        simp only [List.lookup, hb, if_pos (h.trans hk)]
      · have hb : (g == k) = false := beq_eq_false_iff_ne.mpr h
        simp only [List.lookup, hb, if_neg (fun e : g = f => h (e.trans hk.symm))]
    · rw [if_neg hk]
      by_cases h : g = k
      · have hb : (g == k) = true := beq_iff_eq.mpr h
        simp only [List.lookup, hb, if_neg (fun e : g = f => hk (h.symm.trans e))]
      · have hb : (g == k) = false := beq_eq_false_iff_ne.mpr h
        simp only [List.lookup, hb]
        exact ih
theorem keys_putF (f : Str) (v : V) : ∀ fs : List (Str × V), f ∈ (putF f v fs).map (·.1) ∧ ∀ g, g ∈ fs.map (·.1) → g ∈ (putF f v fs).map (·.1)
  | [] => ⟨by simp [putF], fun g h => by simp at h⟩
  | (k, x) :: r => by
    obtain ⟨i1, i2⟩ := keys_putF f v r
    rw [show putF f v ((k, x) :: r) = (if k = f then (k, v) :: r else (k, x) :: putF f v r) from rfl]
    by_cases hk : k = f
    · rw [if_pos hk]
      subst hk
      exact ⟨by simp, fun g h => by simpa using h⟩
    · rw [if_neg hk]
      refine ⟨?_, fun g h => ?_⟩
      · rw [List.map_cons]
        exact List.mem_cons_of_mem _ i1
      · rw [List.map_cons] at h ⊢
        rcases List.mem_cons.mp h with e | e
        · exact List.mem_cons.mpr (.inl e)
        · exact List.mem_cons_of_mem _ (i2 g e)
theorem length_putF (f : Str) (v : V) : ∀ fs : List (Str × V), (putF f v fs).length ≤ fs.length + 1
  | [] => by simp [putF]
  | (k, x) :: r => by
    have ih := length_putF f v r
    rw [show putF f v ((k, x) :: r) = (if k = f then (k, v) :: r else (k, x) :: putF f v r) from rfl]
    by_cases hk : k = f
    · rw [if_pos hk, List.length_cons, List.length_cons]; omega
    · rw [if_neg hk, List.length_cons, List.length_cons]; omega

theorem RelO.some_of {v : V} {o : Option Value} (r : RelO (some v) o) : ∃ u, o = some u ∧ RelV v u := by
  cases o with
  | none => exact (show False from r).elim
  | some u => exact ⟨u, rfl, r⟩
theorem RelO.none_of {o : Option Value} (r : RelO none o) : o = none := by
  cases o with
  | none => rfl
  | some u => exact (show False from r).elim
theorem handed_of {v : V} {u : Value} (r : RelV v u) : PySem.W.handedIn u = true := by
  cases v with
  | non => cases (show u = Value.none from r); rfl
  | bl b => cases (show u = Value.bool b from r); rfl
  | int i => obtain ⟨t, e⟩ := (show ∃ t, u = Value.int i t from r); cases e; rfl
  | str x => obtain ⟨t, e⟩ := (show ∃ t, u = Value.str x t from r); cases e; rfl
  | byt b => obtain ⟨t, e⟩ := (show ∃ t, u = Value.bytes b t from r); cases e; rfl
  | flt b => obtain ⟨t, e⟩ := (show ∃ t, u = Value.float b t from r); cases e; rfl
  | ref a => cases (show u = Value.ref a from r); rfl
  | ty n => cases (show u = Value.type n from r); rfl

section
variable {P : Program} {w : World} {H H' : Hp} {h h' : Heap} {a C dx : Addr} {fs fs' : List (Str × V)}
theorem ins_get (hok : HOk P w H h) (e : H a = some (.ins C dx fs)) : ∃ mA, ObjM h a dx C mA ∧ (∀ f, RelO (fs.lookup f) (mA f)) ∧ PySem.Within mA (fs.map (·.1)) ∧ fs.length ≤ 1000 ∧ H dx = some (.own a) := by
  obtain ⟨d, z, ne, ob, mA, n, r, q⟩ := (show ObjOk P w H h a (.ins C dx fs) from hok a _ e)
  exact ⟨mA, ⟨ob, n, ne⟩, r, q, z, d⟩
end

structure Cls (K : PySem.W.Frag) (C : Addr) : Prop where
  pg : PySem.W.plainGet K C Str.empty = true
  hd : PySem.W.hasDictIn K C = true
  po : PySem.W.plainOver K C = true
  sa : PySem.W.findIn K (.ref C) "__setattr__" = some (some (.builtin "object.__setattr__"))
theorem Cls.get {K : PySem.W.Frag} {C : Addr} (c : Cls K C) (f : Str) : PySem.W.plainGet K C f = true := c.pg
def NoAttr (K : PySem.W.Frag) (C : Addr) (f : Str) : Prop := PySem.W.findIn K (.ref C) f = some none
theorem NoAttr.taker {K : PySem.W.Frag} {C : Addr} {f : Str} (n : NoAttr K C f) : PySem.W.takerIn K C f = some none := by
  unfold PySem.W.takerIn
  rw [show PySem.W.findIn K (.ref C) f = some none from n]
  rfl
structure Con (K : PySem.W.Frag) (C : Addr) (f : Str) (v : V) (u : Value) : Prop where
  at_ : PySem.W.findIn K (.ref C) f = some (some u)
  rel : RelV v u
  get : PySem.W.specialIn K u "__get__" = some none
  cp : PySem.W.copiedNames.contains f = false
structure Meth (K : PySem.W.Frag) (C : Addr) (m : Str) (f : Addr) : Prop where
  at_ : PySem.W.findIn K (.ref C) m = some (some (.ref f))
  fn : PySem.W.isFn K (.ref f) = true
  kp : PySem.W.keepIn K (.ref f) = true

section
variable {X : Cx} {pins : List (Addr × Obj)} {σ : St} {H : Hp} {s : Shared} {a C dx : Addr} {fs : List (Str × V)} {f : Str} {v : V} {A : Around} {E : Value → Shared → Prop}

theorem getattr_ok {b : Bool} {Q : Value → Shared → Prop} (I : Inv X pins σ H s) (e : H a = some (.ins C dx fs)) (c : Cls X.K C) (n : NoAttr X.K C f) (l : fs.lookup f = some v)
    (h : ∀ u s', Inv X pins σ H s' → RelV v u → Q u s') : wpAny (model X.prog X.w) A (getAttr (.ref a) f b) Q E s := by
  obtain ⟨mA, O, r, _, _, _⟩ := ins_get I.hok e
  obtain ⟨u, hu, ru⟩ := RelO.some_of (v := v) (o := mA f) (by rw [← l]; exact r f)
  exact get_map I.kIn O (c.get f) c.hd n hu (handed_of ru) (h u _ (I.tok _) ru)

theorem getmeth_ok {m : Str} {g : Addr} {pl : Sem Bool} {Q : Value × List Value → Shared → Prop} (I : Inv X pins σ H s) (e : H a = some (.ins C dx fs)) (c : Cls X.K C) (k : Meth X.K C m g) (l : fs.lookup m = none)
    (h : Q (.ref g, [.ref a]) s) : wpAny (model X.prog X.w) A (getMethod (.ref a) m pl) Q E s := by
  obtain ⟨mA, O, r, _, _, _⟩ := ins_get I.hok e
  have hn : mA m = none := RelO.none_of (by rw [← l]; exact r m)
  exact get_meth I.kIn O (c.get m) k.at_ k.fn hn h

theorem setattr_ok {y : V} {u : Value} {Q : Unit → Shared → Prop} (I : Inv X pins σ H s) (e : H a = some (.ins C dx fs)) (c : Cls X.K C) (n : NoAttr X.K C f) (hl : fs.length < 1000) (ry : RelV y u)
    (h : ∀ s', Inv X pins σ (upd H a (.ins C dx (putF f y fs))) s' → Q () s') : wpAny (model X.prog X.w) A (setAttr (.ref a) f u) Q E s := by
  obtain ⟨mA, O, r, wi, _, ho⟩ := ins_get I.hok e
  have hz : (fs.map (·.1)).length ≤ sizeLine := by rw [List.length_map, sizeLine_eq]; omega
  refine set_map I.kIn O c.sa c.po n.taker c.hd wi hz fun h' O' sb => h _ ?_
  have hd : ∃ o, h'.get? dx = some o := let ⟨o, _, _, e', _⟩ := O'.ns; ⟨o, e'⟩
  refine I.write (x := a) (e := dx) (by rw [e]; exact True.intro) (.inr ho) (fun b q hb z => (sb.2 b hb).trans z) hd ?_
  refine ⟨by rw [upd_ne O.ne]; exact ho, ?_, O.ne, O'.obj, _, O'.ns, fun g => ?_, fun g hg => ?_⟩
  · have := length_putF f y fs; omega
  · show RelO ((putF f y fs).lookup g) (if g = f then some u else mA g)
    rw [lookup_putF]
    by_cases q : g = f
    · rw [if_pos q, if_pos q]; exact ry
    · rw [if_neg q, if_neg q]; exact r g
  · by_cases q : g = f
    · rw [q]; exact (keys_putF f y fs).1
    · refine (keys_putF f y fs).2 g (wi g fun z => hg ?_)
      show (if g = f then some u else mA g) = none
      rw [if_neg q]; exact z

theorem Inv.made (I : Inv X pins σ H s) : Inv X pins σ (upd (upd H s.heap.objs.size (.own (s.heap.objs.size + 1))) (s.heap.objs.size + 1) (.ins C s.heap.objs.size []))
    { s with heap := (s.heap.push PySem.W.emptyDict).push (PySem.W.instObj C s.heap.objs.size) } := by
  have e1 : (s.heap.push PySem.W.emptyDict).get? s.heap.objs.size = some PySem.W.emptyDict := Heap.get?_push_size s.heap rfl
  have e2 : ((s.heap.push PySem.W.emptyDict).push (PySem.W.instObj C s.heap.objs.size)).get? (s.heap.objs.size + 1) = some (PySem.W.instObj C s.heap.objs.size) := by
    have := Heap.get?_push_size (s.heap.push PySem.W.emptyDict) (o := PySem.W.instObj C s.heap.objs.size) rfl
    rwa [Heap.size_push] at this
  have e3 : (s.heap.push PySem.W.emptyDict).Ns s.heap.objs.size (fun _ => none) := ⟨PySem.W.emptyDict, #[], _, e1, rfl, (fun e he => absurd he (by simp)), fun _ => rfl⟩
  have I1 := I.laid (a := s.heap.objs.size) (o := .own (s.heap.objs.size + 1)) (h' := s.heap.push PySem.W.emptyDict) (t' := s.toks) (fun b u q => Heap.get?_push_of_some _ q) (Nat.le_refl _) ⟨_, e1⟩
  refine I1.laid (a := s.heap.objs.size + 1) (o := .ins C s.heap.objs.size []) (t' := s.toks) (fun b u q => Heap.get?_push_of_some _ q) (Nat.le_of_eq (Heap.size_push _ _)) ?_
  have ne : s.heap.objs.size ≠ s.heap.objs.size + 1 := Nat.ne_of_lt (Nat.lt_succ_self _)
  refine ⟨by rw [upd_ne ne, upd_same], Nat.zero_le _, ne, e2, fun _ => none, (Heap.Ns1.of_empty e3).at fun o q => Heap.get?_push_of_some _ q, fun _ => True.intro, fun y hy => absurd rfl hy⟩

theorem attr_of {prog : Program} {w : World} {env : Env} {e : Expr} {f : Str} {pos : Pos} {s : Shared} {Q : Value → Shared → Prop} (hb : attributeBase e f env (eval e env) = eval e env)
    (h : wpAny (model prog w) A (eval e env) (fun o s₁ => wpAny (model prog w) A (getAttr o f true) Q E s₁) E s) : wpAny (model prog w) A (eval (.Attribute e f pos) env) Q E s :=
  Attribute_any_ h (by rw [arm_eval_Attribute, hb])
end

def tFld (K : PySem.W.Frag) (ta : TE) (f : Str) : TE := fun σ H Q => ta σ H fun x H1 => ∃ a C dx fs v, x = .ref a ∧ H1 a = some (.ins C dx fs) ∧ Cls K C ∧ NoAttr K C f ∧ fs.lookup f = some v ∧ Q v H1
def sFld (K : PySem.W.Frag) (ta tv : TE) (f : Str) : TS := fun D σ H => tv σ H fun y H1 => ta σ H1 fun x H2 => ∃ a C dx fs, x = .ref a ∧ H2 a = some (.ins C dx fs) ∧ Cls K C ∧ NoAttr K C f ∧ fs.length < 1000 ∧
  D.nx σ (upd H2 a (.ins C dx (putF f y fs)))
section
variable {X : Cx} {o e value : Expr} {f : Str} {pos pos' tpos : Pos} {ta tv : TE}
theorem pe_fld (he : PE X e ta) (hb : attributeBase e f X.env (eval e X.env) = eval e X.env) : PE X (.Attribute e f pos) (tFld X.K ta f) := by
  intro pins s σ H Q I h
  refine attr_of hb (thn (he pins s σ H _ I h) fun u s1 ⟨x, H1, I1, rx, a, C, dx, fs, v, ex, ea, c, n, l, q⟩ => ?_)
  subst ex
  obtain rfl : u = Value.ref a := rx
  exact getattr_ok I1 ea c n l fun u' s2 I2 ru => ⟨v, H1, I2, ru, q⟩
theorem ps_fld (ha : PE X o ta) (hv : PE X value tv) (hs : swapsWith value (some (.Attribute o f pos')) pos.line X.env = pure false) : PS X (.Assign [.Attribute o f pos'] value pos) (sFld X.K ta tv f) := by
  intro pins s σ H D I h
  refine plainObj_wpAny_Assign_Attribute (thn (hv pins s σ H _ I h) fun u s1 ⟨y, H1, I1, ry, q⟩ => thn (ha pins s1 σ H1 _ I1 q) fun ov s2 ⟨x, H2, I2, rx, a, C, dx, fs, ex, ea, c, n, l, q2⟩ => ?_) hs
  subst ex
  obtain rfl : ov = Value.ref a := rx
  exact setattr_ok I2 ea c n l ry fun s3 I3 => ⟨σ, _, I3, q2⟩
end

section
variable {X : Cx} {pins : List (Addr × Obj)} {σ : St} {H : Hp} {s : Shared} {A : Around} {E : Value → Shared → Prop} {Q : Value → Shared → Prop} {c : Value} {b : Bool}
inductive TyOf (K : PySem.W.Frag) (H : Hp) : V → Value → Prop where
  | non : TyOf K H .non (.type "NoneType")
  | bl (x : Bool) : TyOf K H (.bl x) (.type "bool")
  | int (i : Int) : TyOf K H (.int i) (.type "int")
  | str (x : Str) : TyOf K H (.str x) (.type "str")
  | flt (x : UInt64) : TyOf K H (.flt x) (.type "float")
  | lst {a : Addr} {xs : List V} (e : H a = some (.lst xs)) : TyOf K H (.ref a) (.type "list")
  | frz {a : Addr} {o : Obj} {xs : List V} (e : H a = some (.frz o (.lst xs))) : TyOf K H (.ref a) (.type "list")
  | tup {a : Addr} {xs : List V} (e : H a = some (.tup xs)) : TyOf K H (.ref a) (.type "tuple")
  | dK {a : Addr} {kvs : List (Key × V)} (e : H a = some (.dK kvs)) : TyOf K H (.ref a) (.type "dict")
  | dT {a : Addr} {kvs : List (List Key × V)} (e : H a = some (.dT kvs)) : TyOf K H (.ref a) (.type "dict")
  | ins {a C dx : Addr} {fs : List (Str × V)} (e : H a = some (.ins C dx fs)) (cl : Cls K C) (ha : PySem.W.findIn K (.ref C) "__class__" = some (some (.builtin "object.__class__")))
      (hn : PySem.W.specialIn K (.builtin "object.__class__") "__get__" = some (some (.builtin "getset_descriptor.__get__"))) (htk : PySem.W.takesIn K (.builtin "object.__class__") = some true)
      (hm : PySem.W.mroIn K C (.type "object") = some true) : TyOf K H (.ref a) (.ref C)
theorem isinst_ok {x : V} {u t : Value} (I : Inv X pins σ H s) (rx : RelV x u) (ty : TyOf X.K H x t) (e : PySem.W.kitOne X.K t c = some b) (h : ∀ tk, Q (.bool b) { s with toks := tk }) :
    wpAny (model X.prog X.w) A (call (.builtin "isinstance") [u, c]) Q E s := by
  cases ty with
  | non => cases (show u = Value.none from rx); exact PySem.W.kia_one PySem.W.kitx_none I.kIn True.intro e (fun z => nomatch z) h
  | bl y => cases (show u = Value.bool y from rx); exact PySem.W.kia_one PySem.W.kitx_bool I.kIn True.intro e (fun z => nomatch z) h
  | int i => obtain ⟨t, q⟩ := (show ∃ t, u = Value.int i t from rx); cases q; exact PySem.W.kia_one PySem.W.kitx_int I.kIn True.intro e (fun z => nomatch z) h
  | str y => obtain ⟨t, q⟩ := (show ∃ t, u = Value.str y t from rx); cases q; exact PySem.W.kia_one PySem.W.kitx_str I.kIn True.intro e (fun z => nomatch z) h
  | flt y => obtain ⟨t, q⟩ := (show ∃ t, u = Value.float y t from rx); cases q; exact PySem.W.kia_one PySem.W.kitx_float I.kIn True.intro e (fun z => nomatch z) h
  | @lst a xs ea =>
    cases (show u = Value.ref a from rx)
    obtain ⟨_, _, n, _, h1⟩ := (show ObjOk X.prog X.w H s.heap a (.lst xs) from I.hok a _ ea)
    exact PySem.W.kia_one PySem.W.kitx_list I.kIn ⟨_, h1, rfl⟩ e (fun z => nomatch z) h
  | @frz a ob xs ea =>
    cases (show u = Value.ref a from rx)
    obtain ⟨_, _, _, n, _, h1⟩ := (show ObjOk X.prog X.w H s.heap a (.frz ob (.lst xs)) from I.hok a _ ea)
    exact PySem.W.kia_one PySem.W.kitx_list I.kIn ⟨_, h1, rfl⟩ e (fun z => nomatch z) h
  | @tup a xs ea =>
    cases (show u = Value.ref a from rx)
    obtain ⟨_, _, _, p⟩ := (show ObjOk X.prog X.w H s.heap a (.tup xs) from I.hok a _ ea)
    obtain ⟨o, h1, h2, _⟩ := p
    exact PySem.W.kia_one PySem.W.kitx_tuple I.kIn ⟨o, h1, h2⟩ e (fun z => nomatch z) h
  | @dK a kvs ea =>
    cases (show u = Value.ref a from rx)
    obtain ⟨_, _, vs, _, p⟩ := (show ObjOk X.prog X.w H s.heap a (.dK kvs) from I.hok a _ ea)
    obtain ⟨o, es, ep, h1, h2, _⟩ := p
    exact PySem.W.kia_one PySem.W.kitx_dict I.kIn ⟨o, h1, h2.1⟩ e (fun z => nomatch z) h
  | @dT a kvs ea =>
    cases (show u = Value.ref a from rx)
    obtain ⟨_, _, xs, _, o, es, ep, h1, h2, _⟩ := (show ObjOk X.prog X.w H s.heap a (.dT kvs) from I.hok a _ ea)
    exact PySem.W.kia_one PySem.W.kitx_dict I.kIn ⟨o, h1, h2.1⟩ e (fun z => nomatch z) h
  | @ins a C dx fs ea cl ha hn htk hm =>
    cases (show u = Value.ref a from rx)
    obtain ⟨mA, O, _⟩ := ins_get I.hok ea
    obtain ⟨od, J, _⟩ := O.look
    exact PySem.W.kia_one (PySem.W.kitx_own (cl.get _) cl.hd ha hn htk hm) I.kIn J e (fun z => nomatch z) h
end
end L2

namespace L2
open PySem PySem.Spec PyProof.Rows

structure Room (k : Nat) (A : Around) : Prop where
  hd : A.handled = none
  dp : A.depth + 3 * k + 5 < recursionLimit
  un : A.units + 16 * k + 200 < cLine
theorem Room.mono {j k : Nat} {A : Around} (r : Room k A) (h : j ≤ k) : Room j A := ⟨r.hd, by have := r.dp; omega, by have := r.un; omega⟩
theorem Room.deeper {k : Nat} {A : Around} (r : Room (k + 1) A) (env : Env) : Room k (A.deeper env) :=
  ⟨r.hd, by have := r.dp; show A.depth + 1 + 3 * k + 5 < _; omega, by have := r.un; show A.units + 3 + 16 * k + 200 < _; omega⟩
theorem make_depth {A : Around} {C : Addr} {us : List Value} {kw : List (Str × Value)} : (A.under (.builtin "type.__call__" ⟨.ref C :: us, kw⟩)).depth = A.depth + 1 := by
  first | rfl | simp [Around.under, Code.weight, Code.isCreation, Code.isGuard, Code.isCaller, Code.frames, Code.isFrame, guardIds]
theorem make_units {A : Around} {C : Addr} {us : List Value} {kw : List (Str × Value)} : (A.under (.builtin "type.__call__" ⟨.ref C :: us, kw⟩)).units = A.units + 1 := by
  first | rfl | simp [Around.under, Code.cUnits, Code.frames, Code.isFrame]
theorem Room.make {k : Nat} {A : Around} (r : Room (k + 1) A) (C : Addr) (us : List Value) (kw : List (Str × Value)) : Room k (A.under (.builtin "type.__call__" ⟨.ref C :: us, kw⟩)) :=
  ⟨r.hd, by have := r.dp; rw [make_depth]; omega, by have := r.un; rw [make_units]; omega⟩
theorem Room.depth {k : Nat} {A : Around} (r : Room k A) : A.depth < recursionLimit := by have := r.dp; omega
theorem Room.units {k : Nat} {A : Around} (r : Room k A) : A.units + 64 < cLine := by have := r.un; omega
def tNil : TA := fun _ H Q => Q [] H
def tCons (ta : TE) (tr : TA) : TA := fun σ H Q => ta σ H fun x H1 => tr σ H1 fun xs H2 => Q (x :: xs) H2
section
variable {X : Cx} {e : Expr} {es : List Expr} {te : TE} {t : TA} {pos : Pos}
theorem pa_nil : PA X [] tNil := fun _ _ _ _ H Q I h => Calls.spliced_nil ⟨[], H, I, .nil, h⟩
theorem pa_cons (ha : PE X e te) (hr : PA X es t) (hs : starEach (e :: es) X.env = (false, eval e X.env) :: starEach es X.env := by rfl) : PA X (e :: es) (tCons te t) := by
  intro pos pins s σ H Q I h
  rw [hs]
  show wpAny _ _ (spliced ((false, eval e X.env) :: backTo pos (starEach es X.env))) _ _ s
  refine Calls.spliced_cons (thn (ha pins s σ H _ I h) fun u s1 ⟨x, H1, I1, r1, q1⟩ => ?_)
  exact thn (hr pos pins s1 σ H1 _ I1 q1) fun us s2 ⟨xs, H2, I2, r2, q2⟩ => ⟨x :: xs, H2, I2, .cons r1 r2, q2⟩

def tTup (t : TA) : TE := fun σ H Q => t σ H fun xs H1 => xs.length ≤ sizeLine ∧ ∀ p, H1 p = none → Q (.ref p) (upd H1 p (.tup xs))
def tLst (t : TA) : TE := fun σ H Q => t σ H fun xs H1 => xs.length ≤ sizeLine ∧ ∀ p, H1 p = none → Q (.ref p) (upd H1 p (.lst xs))
theorem pe_tup {x1} (h : PA X es t) : PE X (.Tuple es x1 pos) (tTup t) := by
  intro pins s σ H Q I hq
  refine wpAny_Tuple_spliced (thn (h pos pins s σ H _ I hq) fun us s1 ⟨xs, H1, I1, r, z, q⟩ => ⟨by rw [← r.length]; exact z, ?_⟩)
  have hf : H1 s1.heap.objs.size = none := I1.hok.fresh (Nat.le_refl _)
  refine ⟨.ref s1.heap.objs.size, upd H1 s1.heap.objs.size (.tup xs), I1.laid (t' := s1.toks) (fun b u e => Heap.get?_push_of_some _ e) (Nat.le_refl _) ?_, rfl, q _ hf⟩
  exact ⟨z, us, r, ⟨_, Heap.get?_push_size _ rfl, rfl, _, rfl⟩⟩
theorem pe_lst (h : PA X es t) : PE X (.List es pos) (tLst t) := by
  intro pins s σ H Q I hq
  refine wpAny_List_spliced (thn (h pos pins s σ H _ I hq) fun us s1 ⟨xs, H1, I1, r, z, q⟩ => ⟨by rw [← r.length]; exact z, ?_⟩)
  have hf : H1 s1.heap.objs.size = none := I1.hok.fresh (Nat.le_refl _)
  refine ⟨.ref s1.heap.objs.size, upd H1 s1.heap.objs.size (.lst xs), I1.laid (t' := s1.toks) (fun b u e => Heap.get?_push_of_some _ e) (Nat.le_refl _) ?_, rfl, q _ hf⟩
  exact ⟨z, us, 0, r, Heap.get?_push_size _ rfl⟩
end

abbrev Sp := List V → Hp → VK → XK → Prop
abbrev CXT := List Env → Hp → Shared → XK → Value → Shared → Prop

structure Env0 (P : Program) (w : World) (K : PySem.W.Frag) (mg : Str → Option Value) (base : Heap) (A : Around) (outer : List Env) (s : Shared) (H : Hp) : Prop where
  frames : A.frames = some outer
  mod : Mod K mg base
  bs : ∀ b o, base.get? b = some o → s.heap.get? b = some o ∧ H b = none
  bsz : base.objs.size ≤ s.heap.objs.size
  funs : s.heap.FunFrames base outer
  frf : ∀ b ∈ frs outer, H b = none
  hok : HOk P w H s.heap
  bare : AllBare s.gens
def CE (outer : List Env) (P : Program) (w : World) (H : Hp) (s : Shared) (Q : VK) (u : Value) (s' : Shared) : Prop :=
  ∃ v H', s'.os = s.os ∧ AllBare s'.gens ∧ Un (frs outer) [] H H' s.heap s'.heap ∧ HOk P w H' s'.heap ∧ RelV v u ∧ Q v H'
def CR (CX : CXT) (outer : List Env) (P : Program) (w : World) (H : Hp) (s : Shared) (Q : VK) (E : XK) (r : Result) (s' : Shared) : Prop :=
  match r with
  | .ok (.ret u) => CE outer P w H s Q u s'
  | .ok _ => False
  | .error e => CX outer H s E e s'
structure FnOk (P : Program) (w : World) (K : PySem.W.Frag) (mg : Str → Option Value) (base : Heap) (CX : CXT) (k : Nat) (f : Addr) (fd : FuncData) (ps : List Str) (sp : Sp) : Prop where
  len : ∀ vs H Q E, sp vs H Q E → vs.length = ps.length
  run : ∀ (A : Around) (outer : List Env) (s : Shared) (H : Hp) (args : Args) (us : List Value) (vs : List V) (Q : VK) (E : XK), Room k A → Env0 P w K mg base A outer s H → BindsTo s fd args (ps.zip us) → Vals vs us → sp vs H Q E →
    codeAny (model P w) A (.call (.ref f) args) (CR CX outer P w H s Q E) s
theorem FnOk.mono {P : Program} {w : World} {K : PySem.W.Frag} {mg : Str → Option Value} {base : Heap} {CX : CXT} {j k : Nat} {f : Addr} {fd : FuncData} {ps : List Str} {sp : Sp} (F : FnOk P w K mg base CX j f fd ps sp) (h : j ≤ k) :
    FnOk P w K mg base CX k f fd ps sp := ⟨F.len, fun A outer s H args us vs Q E hr => F.run A outer s H args us vs Q E (hr.mono h)⟩
theorem Env0.make {P : Program} {w : World} {K : PySem.W.Frag} {mg : Str → Option Value} {base : Heap} {A : Around} {outer : List Env} {s : Shared} {H : Hp} (e : Env0 P w K mg base A outer s H) (C : Addr) (us : List Value) (kw : List (Str × Value)) :
    Env0 P w K mg base (A.under (.builtin "type.__call__" ⟨.ref C :: us, kw⟩)) outer s H := ⟨by first | exact e.frames | (simpa [Around.under, Code.envs, Code.isFrame, pushEnvs] using e.frames), e.mod, e.bs, e.bsz, e.funs, e.frf, e.hok, e.bare⟩
section
variable {X : Cx} {pins : List (Addr × Obj)} {σ : St} {H : Hp} {s s' : Shared}
theorem Inv.env0 (I : Inv X pins σ H s) : Env0 X.prog X.w X.K X.mg X.base X.A X.stack s H :=
  ⟨I.ok.frames, I.ok.mod, I.bs, Nat.le_trans I.ok.bsz I.sz, I.stack, I.stkFree, I.hok, I.bare⟩
theorem Inv.after {Q : VK} {u : Value} (I : Inv X pins σ H s) (h : CE X.stack X.prog X.w H s Q u s') : EP X pins σ Q u s' := by
  obtain ⟨v, H', os, bare, un, hok, r, q⟩ := h
  obtain ⟨hh, g, d, t, os'⟩ := s'
  obtain rfl : os' = s.os := os
  exact ⟨v, H', I.call (h' := hh) (g' := g) (d' := d) (t' := t) (ch := []) un hok bare (fun b z => absurd z (by simp)), r, q⟩
end

def tCall (sp : Sp) (dvs : List V) (E : XK) (t : TA) : TE := fun σ H Q => t σ H fun vs H1 => sp (vs ++ dvs) H1 Q E
def tMeth (C : Addr) (m : Str) (sp : Sp) (dvs : List V) (E : XK) (ta : TE) (t : TA) : TE := fun σ H Q => ta σ H fun x H1 => ∃ a dx fs, x = .ref a ∧ H1 a = some (.ins C dx fs) ∧ fs.lookup m = none ∧
  t σ H1 fun vs H2 => sp (x :: (vs ++ dvs)) H2 Q E
def tMake (C : Addr) (sp : Sp) (dvs : List V) (E : XK) (t : TA) : TE := fun σ H Q => t σ H fun vs H1 => ∀ x dx, H1 x = none → H1 dx = none → dx ≠ x →
  sp (.ref x :: (vs ++ dvs)) (upd (upd H1 dx (.own x)) x (.ins C dx [])) (fun v H2 => v = .non ∧ Q (.ref x) H2) E

def Binds (K : PySem.W.Frag) (fd : FuncData) (ps : List Str) (ds : List Value) : Prop :=
  ∀ (s : Shared) (us : List Value), K.In s.heap → (us ++ ds).length = ps.length → BindsTo s fd ⟨us, []⟩ (ps.zip (us ++ ds))
theorem Binds.all {K : PySem.W.Frag} {fd : FuncData} {ps : List Str} (h : ∀ us : List Value, us.length = ps.length → bindArgs fd ⟨us, []⟩ = pure (ps.zip us)) : Binds K fd ps [] := fun s us _ hl => by
  rw [List.append_nil] at hl ⊢
  exact .of_eq (h us hl)

def Passes (CX : CXT) (X : Cx) (E : XK) : Prop := ∀ (pins : List (Addr × Obj)) (σ : St) (H : Hp) (s : Shared) (e : Value) (s' : Shared), Inv X pins σ H s → CX X.stack H s E e s' → X.xe e s'

section
variable {X : Cx} {CX : CXT} {k : Nat} {f C : Addr} {fd : FuncData} {ps : List Str} {sp : Sp} {dvs : List V} {ds : List Value} {E : XK} {x m : Str} {p pos apos : Pos} {e o : Expr} {es : List Expr} {ta : TE} {t : TA}

theorem run_fn {pins : List (Addr × Obj)} {σ : St} {H : Hp} {s : Shared} {Q : VK} {us : List Value} {vs : List V} (F : FnOk X.prog X.w X.K X.mg X.base CX k f fd ps sp) (hr : Room k X.A) (hb : Binds X.K fd ps ds) (hd : Vals dvs ds) (hx : Passes CX X E)
    (I : Inv X pins σ H s) (r : Vals vs us) (h : sp (vs ++ dvs) H Q E) : wpAny (model X.prog X.w) X.A (call (.ref f) us) (EP X pins σ Q) X.xe s := by
  have r2 : Vals (vs ++ dvs) (us ++ ds) := r.append hd
  have hl : (us ++ ds).length = ps.length := by rw [← r2.length]; exact F.len _ _ _ _ h
  refine wpAny_call (codeAny_mono (F.run X.A X.stack s H ⟨us, []⟩ (us ++ ds) (vs ++ dvs) Q E hr I.env0 (hb s us I.kIn hl) r2 h) fun r s' hq => ?_)
  cases r with
  | error e => exact hx pins σ H s e s' I hq
  | ok fl =>
    cases fl with
    | ret u => exact I.after hq
    | next => exact False.elim hq
    | brk => exact False.elim hq
    | cont => exact False.elim hq

theorem pe_call (F : FnOk X.prog X.w X.K X.mg X.base CX k f fd ps sp) (hr : Room k X.A) (hg : Gl X x) (hm : X.mg x = some (.ref f)) (hk : PySem.W.keepIn X.K (.ref f) = true) (hb : Binds X.K fd ps ds) (hd : Vals dvs ds) (hx : Passes CX X E)
    (ha : PA X (e :: es) t) (hdb : (x == ("__debug__" : Str)) = false := by decide) (he : starEach (e :: es) X.env = (false, eval e X.env) :: starEach es X.env := by rfl) (hpl : (backTo pos (starEach es X.env)).any (·.1) = false := by rfl) :
    PE X (.Call (.Name x p) (e :: es) [] pos) (tCall sp dvs E t) := by
  intro pins s σ H Q I h
  refine wpAny_Call_Name_kw (ld_glob I hg hm ?_ hdb)
  refine PySem.W.callWith_K (h₀ := X.base) I.ok.mod.kin hk (thn (ha pos pins s σ H _ I h) fun us s1 ⟨vs, H1, I1, r, q⟩ => ⟨I1.kIn, ?_⟩) he hpl
  exact run_fn F hr hb hd hx I1 r q
theorem pe_meth {pl : Sem Bool} (he : PE X o ta) (c : Cls X.K C) (hm : Meth X.K C m f) (F : FnOk X.prog X.w X.K X.mg X.base CX k f fd ps sp) (hr : Room k X.A) (hb : Binds X.K fd ps ds) (hd : Vals dvs ds) (hx : Passes CX X E) (ha : PA X (e :: es) t)
    (hst : starEach (e :: es) X.env = (false, eval e X.env) :: starEach es X.env := by rfl) (hpl : (backTo pos (starEach es X.env)).any (·.1) = false := by rfl)
    (ht : eval (.Call (.Attribute o m apos) (e :: es) [] pos) X.env = (do
      let ov ← eval o X.env
      standAt apos.atName
      let (f, first) ← holding [ov] (getMethod ov m pl)
      callWith pos f first (backTo pos (starEach (e :: es) X.env)) (backToKw pos (keywordEach [] X.env))) := by rfl) :
    PE X (.Call (.Attribute o m apos) (e :: es) [] pos) (tMeth C m sp dvs E ta t) := by
  intro pins s σ H Q I h
  refine PySem.W.methodCall_KW (pl := pl) (thn (he pins s σ H _ I h) fun u s1 ⟨x, H1, I1, rx, a, dx, fs, ex, ea, l, q⟩ => ?_) ht
  subst ex
  obtain rfl : u = Value.ref a := rx
  refine getmeth_ok I1 ea c hm l ?_
  refine PySem.W.callWith_K (first := [.ref a]) (h₀ := X.base) I.ok.mod.kin hm.kp (thn (ha pos pins s1 σ H1 _ I1 q) fun us s2 ⟨vs, H2, I2, r, q2⟩ => ⟨I2.kIn, ?_⟩) hst hpl
  exact run_fn (us := .ref a :: us) (vs := .ref a :: vs) F hr hb hd hx I2 (.cons rfl r) q2
theorem pe_meth0 {pl : Sem Bool} (he : PE X o ta) (c : Cls X.K C) (hm : Meth X.K C m f) (F : FnOk X.prog X.w X.K X.mg X.base CX k f fd ps sp) (hr : Room k X.A) (hb : Binds X.K fd ps ds) (hd : Vals dvs ds) (hx : Passes CX X E)
    (ht : eval (.Call (.Attribute o m apos) [] [] pos) X.env = (do
      let ov ← eval o X.env
      standAt apos.atName
      let (f, first) ← holding [ov] (getMethod ov m pl)
      callWith pos f first (backTo pos (starEach [] X.env)) (backToKw pos (keywordEach [] X.env))) := by rfl) :
    PE X (.Call (.Attribute o m apos) [] [] pos) (tMeth C m sp dvs E ta tNil) := by
  intro pins s σ H Q I h
  refine PySem.W.methodCall_KW (pl := pl) (thn (he pins s σ H _ I h) fun u s1 ⟨x, H1, I1, rx, a, dx, fs, ex, ea, l, q⟩ => ?_) ht
  subst ex
  obtain rfl : u = Value.ref a := rx
  refine getmeth_ok I1 ea c hm l ?_
  exact PySem.W.callWith_K0 (first := [.ref a]) I1.kIn hm.kp (run_fn (us := [.ref a]) (vs := [.ref a]) F hr hb hd hx I1 (.cons rfl .nil) q)

structure Mk (K : PySem.W.Frag) (C f : Addr) : Prop where
  makes : PySem.W.makesIn K C = true
  init : PySem.W.findIn K (.ref C) "__init__" = some (some (.ref f))
  fn : PySem.W.isFn K (.ref f) = true
  kp : PySem.W.keepIn K (.ref C) = true

theorem run_make {pins : List (Addr × Obj)} {σ : St} {H : Hp} {s : Shared} {Q : VK} {us : List Value} {vs : List V} (M : Mk X.K C f) (F : FnOk X.prog X.w X.K X.mg X.base CX k f fd ps sp) (hr : Room (k + 1) X.A) (hb : Binds X.K fd ps ds) (hd : Vals dvs ds)
    (hx : Passes CX X E) (I : Inv X pins σ H s) (r : Vals vs us)
    (h : ∀ x dx, H x = none → H dx = none → dx ≠ x → sp (.ref x :: (vs ++ dvs)) (upd (upd H dx (.own x)) x (.ins C dx [])) (fun v H2 => v = .non ∧ Q (.ref x) H2) E) :
    wpAny (model X.prog X.w) X.A (call (.ref C) us) (EP X pins σ Q) X.xe s := by
  have hq := h (s.heap.objs.size + 1) s.heap.objs.size (I.hok.fresh (Nat.le_succ _)) (I.hok.fresh (Nat.le_refl _)) (Nat.ne_of_lt (Nat.lt_succ_self _))
  have I2 := Inv.made (C := C) I
  have r2 : Vals (V.ref (s.heap.objs.size + 1) :: (vs ++ dvs)) (Value.ref (s.heap.objs.size + 1) :: (us ++ ds)) := .cons rfl (r.append hd)
  have hl : (Value.ref (s.heap.objs.size + 1) :: us ++ ds).length = ps.length := by
    have e := r2.length
    rw [F.len _ _ _ _ hq] at e
    exact e.symm
  refine wpAny_call (make_map (f := f) I.kIn M.makes M.init (beq_iff_eq.mp M.fn) (codeAny_mono (F.run _ X.stack _ _ ⟨Value.ref (s.heap.objs.size + 1) :: us, []⟩ (Value.ref (s.heap.objs.size + 1) :: (us ++ ds)) _ _ E (hr.make C us [])
    (I2.env0.make C us []) (hb _ (Value.ref (s.heap.objs.size + 1) :: us) I2.kIn hl) r2 hq) fun r s' hq' => ?_))
  cases r with
  | error e => exact hx pins σ _ _ e s' I2 hq'
  | ok fl =>
    cases fl with
    | ret u =>
      obtain ⟨v, H', I3, rv, ev, q3⟩ := I2.after hq'
      subst ev
      exact ⟨rv, ⟨V.ref (s.heap.objs.size + 1), H', I3, rfl, q3⟩⟩
    | next => exact False.elim hq'
    | brk => exact False.elim hq'
    | cont => exact False.elim hq'
theorem pe_make (M : Mk X.K C f) (F : FnOk X.prog X.w X.K X.mg X.base CX k f fd ps sp) (hr : Room (k + 1) X.A) (hg : Gl X x) (hm : X.mg x = some (.ref C)) (hb : Binds X.K fd ps ds) (hd : Vals dvs ds) (hx : Passes CX X E)
    (ha : PA X (e :: es) t) (hdb : (x == ("__debug__" : Str)) = false := by decide) (he : starEach (e :: es) X.env = (false, eval e X.env) :: starEach es X.env := by rfl) (hpl : (backTo pos (starEach es X.env)).any (·.1) = false := by rfl) :
    PE X (.Call (.Name x p) (e :: es) [] pos) (tMake C sp dvs E t) := by
  intro pins s σ H Q I h
  refine wpAny_Call_Name_kw (ld_glob I hg hm ?_ hdb)
  refine PySem.W.callWith_K (h₀ := X.base) I.ok.mod.kin M.kp (thn (ha pos pins s σ H _ I h) fun us s1 ⟨vs, H1, I1, r, q⟩ => ⟨I1.kIn, ?_⟩) he hpl
  exact run_make M F hr hb hd hx I1 r q
end

section
variable {X : Cx} {CX : CXT} {k : Nat} {f C : Addr} {fd : FuncData} {ps ks : List Str} {sp : Sp} {E : XK} {x m : Str} {p pos apos kpos : Pos} {e o : Expr} {es : List Expr} {kws : List Keyword} {te ta : TE} {t tk : TA} {nm : Option Str}
structure KBinds (K : PySem.W.Frag) (fd : FuncData) (ps ks : List Str) (g : List Value → List Value → List Value) (gV : List V → List V → List V) : Prop where
  to : ∀ (s : Shared) (us ws : List Value), K.In s.heap → (g us ws).length = ps.length → BindsTo s fd ⟨us, ks.zip ws⟩ (ps.zip (g us ws))
  rel : ∀ {vs : List V} {us : List Value} {zs : List V} {ws : List Value}, Vals vs us → Vals zs ws → Vals (gV vs zs) (g us ws)
variable {g : List Value → List Value → List Value} {gV : List V → List V → List V}
end

structure FnScope (N P : List Str) (sc : Scope) : Prop where
  kind : sc.kind = .function
  co : sc.isCoroutine = false
  gen : sc.isGenerator = false
  nd : N.Nodup
  pre : N.take P.length = P
  par : ∀ x ∈ P, sc.names.lookup x = some .local ∨ sc.names.lookup x = some .cell
  nofree : ∀ y ∈ sc.names, y.2 ≠ .free

theorem bindL_out {kindOf : Str → Option NameKind} {x : Str} : ∀ {binds : List (Str × Value)} {m : Str → Option Value}, (∀ v, (x, v) ∉ binds) → bindL kindOf binds m x = m x
  | [], _, _ => rfl
  | (n, v) :: r, m, h => by
    unfold bindL
    rw [bindL_out fun w hw => h w (List.mem_cons_of_mem _ hw)]
    split
    · have : x ≠ n := by rintro rfl; exact h v List.mem_cons_self
      simp [this]
    · rfl
theorem bindC_out {kindOf : Str → Option NameKind} {x : Str} : ∀ {binds : List (Str × Value)} {m : Str → Option Value}, (∀ v, (x, v) ∉ binds) → bindC kindOf binds m x = m x
  | [], _, _ => rfl
  | (n, v) :: r, m, h => by
    unfold bindC
    rw [bindC_out fun w hw => h w (List.mem_cons_of_mem _ hw)]
    split
    · rfl
    · have : x ≠ n := by rintro rfl; exact h v List.mem_cons_self
      simp [this]
theorem bindL_get {kindOf : Str → Option NameKind} {x : Str} {v : Value} : ∀ {P : List Str} {vs : List Value} {i : Nat} {m : Str → Option Value}, P.Nodup → P[i]? = some x → vs[i]? = some v → kindOf x = some .local →
    bindL kindOf (P.zip vs) m x = some v
  | [], _, _, _, _, h, _, _ => by simp at h
  | _ :: _, [], _, _, _, _, h, _ => by simp at h
  | p :: P, w :: vs, 0, m, nd, h1, h2, hk => by
    simp at h1 h2; subst h1; subst h2
    show bindL kindOf ((p, w) :: P.zip vs) m p = _
    unfold bindL
    rw [bindL_out fun v hv => (List.nodup_cons.mp nd).1 (List.of_mem_zip hv).1, if_pos hk]
    simp
  | p :: P, w :: vs, i + 1, m, nd, h1, h2, hk => by
    show bindL kindOf ((p, w) :: P.zip vs) m x = _
    unfold bindL
    exact bindL_get (i := i) (List.nodup_cons.mp nd).2 (by simpa using h1) (by simpa using h2) hk
theorem bindC_get {kindOf : Str → Option NameKind} {x : Str} {v : Value} : ∀ {P : List Str} {vs : List Value} {i : Nat} {m : Str → Option Value}, P.Nodup → P[i]? = some x → vs[i]? = some v → kindOf x ≠ some .local →
    bindC kindOf (P.zip vs) m x = some v
  | [], _, _, _, _, h, _, _ => by simp at h
  | _ :: _, [], _, _, _, _, h, _ => by simp at h
  | p :: P, w :: vs, 0, m, nd, h1, h2, hk => by
    simp at h1 h2; subst h1; subst h2
    show bindC kindOf ((p, w) :: P.zip vs) m p = _
    unfold bindC
    rw [bindC_out fun v hv => (List.nodup_cons.mp nd).1 (List.of_mem_zip hv).1, if_neg hk]
    simp
  | p :: P, w :: vs, i + 1, m, nd, h1, h2, hk => by
    show bindC kindOf ((p, w) :: P.zip vs) m x = _
    unfold bindC
    exact bindC_get (i := i) (List.nodup_cons.mp nd).2 (by simpa using h1) (by simpa using h2) hk

def start (N : List Str) (vs : List V) : St := vs.map some ++ List.replicate (N.length - vs.length) none

def cxOf (CX : CXT) (P : Program) (w : World) (K : PySem.W.Frag) (mg : Str → Option Value) (base : Heap) (N : List Str) (qual : Str) (scope : Scope) (f : Addr) (cd : Value) (A : Around) (outer : List Env) (s : Shared) (H : Hp) (E : XK) : Cx where
  prog := P
  w := w
  K := K
  mg := mg
  base := base
  A := A.deeper (envOfC qual scope s.heap.objs.size f cd)
  N := N
  s₀ := s
  H₀ := H
  env := envOfC qual scope s.heap.objs.size f cd
  outer := outer
  stack := envOfC qual scope s.heap.objs.size f cd :: outer
  ex := []
  calm := true
  fn := fun _ => true
  pn := []
  xe := fun e s' => wpAny (model P w) (A.deeper (envOfC qual scope s.heap.objs.size f cd)) (leaving (envOfC qual scope s.heap.objs.size f cd) e) (fun _ s'' => CX outer H s E e s'') (fun e' s'' => CX outer H s E e' s'') s'

theorem cell_has {sc : Scope} {n : Nat} {x : Str} (h : sc.names.lookup x = some .cell) : ∃ c, (cellsFrom n sc.names []).lookup x = some c := by
  have q := PySem.W.cellsFrom_some sc.names n [] (.inl h)
  exact Option.isSome_iff_exists.mp q

theorem inv_start {CX : CXT} {P : Program} {w : World} {K : PySem.W.Frag} {mg : Str → Option Value} {base : Heap} {N ps : List Str} {qual : Str} {scope : Scope} {f : Addr} {cd : Value} {A : Around} {outer : List Env} {s s1 : Shared} {H : Hp} {E : XK} {us : List Value} {vs : List V}
    (S : FnScope N ps scope) (hd : A.handled = none) (e0 : Env0 P w K mg base A outer s H) (hl : vs.length = ps.length) (r : Vals vs us)
    (x : InCallC s s.heap.objs.size (bindL (envOfC qual scope s.heap.objs.size f cd).kindOf (ps.zip us) fun _ => none) (cellsFrom (s.heap.objs.size + 1) scope.names []) (bindC (envOfC qual scope s.heap.objs.size f cd).kindOf (ps.zip us) fun _ => none) s1) :
    Inv (cxOf CX P w K mg base N qual scope f cd A outer s H E) [] (start N vs) H s1 := by
  have hpl : ps.length ≤ N.length := by have := congrArg List.length S.pre; rw [List.length_take] at this; omega
  obtain ⟨h1, tk, rfl, hk⟩ := x.done
  have noA : ∀ b : Addr, b ∉ (cxOf CX P w K mg base N qual scope f cd A outer s H E).ex := fun b z => absurd (show b ∈ ([] : List Addr) from z) (by simp)
  refine ⟨⟨e0.mod, S.kind, rfl, rfl, Nat.le_refl _, fun y z c h1 h2 => ?_, fun y hy => ?_, fun y c _ h => ?_, fun _ => hd, Around.frames_deeper e0.frames, .inr ⟨rfl, rfl⟩, fun b z => absurd z (noA b), e0.bs, e0.bsz, fun b _ _ => noA b, fun b z => absurd z (noA b), e0.funs, e0.frf⟩,
    rfl, e0.bare, Un.kept hk, ⟨_, x.toInCall.ns, fun i y v h1 h2 h3 => ?_⟩, fun y c h => ⟨_, x.cell y c h⟩, e0.hok.fresh (Nat.le_refl _), fun y c h => ?_, fun p hp => absurd (show p ∈ ([] : List (Addr × Obj)) from hp) (by simp), e0.hok.kept hk, ?_⟩
  · exact name_of_addr x.apart (PySem.mem_of_lookup h1) (PySem.mem_of_lookup h2)
  · have hy : scope.names.lookup y = some .cell ∨ scope.names.lookup y = some .free := hy
    rcases hy with hy | hy
    · exact cell_has hy
    · exact absurd rfl (S.nofree _ (PySem.mem_of_lookup hy))
  · exact Nat.le_of_lt (x.above y c (PySem.mem_of_lookup h))
  · have hi : i < vs.length := by
      unfold start at h2
      by_cases hi : i < vs.length
      · exact hi
      · rw [List.getElem?_append_right (by simpa using hi)] at h2
        rw [List.getElem?_replicate] at h2
        split at h2 <;> cases h2
    have ha : vs[i]? = some v := by
      unfold start at h2
      rw [List.getElem?_append_left (by simpa using hi), List.getElem?_map] at h2
      cases e : vs[i]? with
      | none => rw [e] at h2; cases h2
      | some a => rw [e] at h2; cases h2; rfl
    obtain ⟨u, hu, rv⟩ := r.get ha
    have hp : ps[i]? = some y := by
      rw [← S.pre, List.getElem?_take_of_lt (by omega)]; exact h1
    have ndP : ps.Nodup := by rw [← S.pre]; exact S.nd.sublist (List.take_sublist _ _)
    refine ⟨u, rv, ?_⟩
    rcases S.par y (List.mem_of_getElem? hp) with k | k
    · exact .inl ⟨k, bindL_get ndP hp hu k⟩
    · obtain ⟨c, e⟩ := cell_has (n := s.heap.objs.size + 1) k
      refine .inr ⟨.inl k, c, e, ?_⟩
      have q := x.cell y c e
      rw [bindC_get ndP hp hu (by show scope.names.lookup y ≠ _; rw [k]; decide)] at q
      exact q
  · exact e0.hok.fresh (Nat.le_of_lt (x.above y c (PySem.mem_of_lookup h)))
  · unfold start
    show _ = N.length
    rw [List.length_append, List.length_map, List.length_replicate]
    omega

theorem fn_of {CX : CXT} {P : Program} {w : World} {K : PySem.W.Frag} {mg : Str → Option Value} {base : Heap} {k : Nat} {f : Addr} {name qual : Str} {params : Arguments} {body : List Stmt} {scope : Scope} {dV kV doc pm cdv ct oc : Value} {an od : Option Addr}
    {osl : Array (Option Value)} {N ps : List Str} {sp : Sp} (lk : K.lookup f = some ⟨oc, od, .func (PySem.W.fnOf name qual params body scope dV kV doc pm an cdv ct), osl⟩) (hcd : PySem.W.codeIn K cdv qual = true) (S : FnScope N ps scope)
    (len : ∀ vs H Q E, sp vs H Q E → vs.length = ps.length)
    (hbody : ∀ (A : Around) (outer : List Env) (s : Shared) (H : Hp) (vs : List V) (Q : VK) (E : XK), Room k (A.deeper (envOfC qual scope s.heap.objs.size f cdv)) → sp vs H Q E →
      ∃ t, PSs (cxOf CX P w K mg base N qual scope f cdv A outer s H E) body t ∧ t { nx := fun _ H' => Q .non H', rt := Q } (start N vs) H) :
    FnOk P w K mg base CX (k + 1) f (PySem.W.fnOf name qual params body scope dV kV doc pm an cdv ct) ps sp := by
  refine ⟨len, fun A outer s H args us vs Q E hr e0 hb r hsp => ?_⟩
  have hl := len _ _ _ _ hsp
  have KX : K.In s.heap := e0.mod.kin.keeps fun b o e => (e0.bs b o e).1
  have lim : s.heap.NoLimit := e0.mod.nolimit.keeps fun b o e => (e0.bs b o e).1
  have hkind : ∀ y ∈ ps.zip us, scope.names.lookup y.1 = some .local ∨ (scope.names.lookup y.1 = some .cell ∧ ((cellsFrom (s.heap.objs.size + 1) scope.names []).lookup y.1).isSome = true) := fun ⟨n, v⟩ hy => by
    rcases S.par n (List.of_mem_zip hy).1 with q | q
    · exact .inl q
    · exact .inr ⟨q, PySem.W.cellsFrom_some _ _ _ (.inl q)⟩
  refine codeAny_call_function hr.depth (KX _ _ lk) rfl S.co S.gen rfl (PySem.W.codeRec_of KX hcd) (hb _ _ _ _ ?_)
  refine wpAny_newFunctionEnv_cells S.kind hkind fun env he s1 x => ?_
  subst he
  refine ⟨lim.keeps x.toInCall.keep, codeAny_func ?_⟩
  obtain ⟨t, ht, hq⟩ := hbody A outer s H vs Q E (hr.deeper _) hsp
  have I : Inv (cxOf CX P w K mg base N qual scope f cdv A outer s H E) [] (start N vs) H s1 := inv_start S hr.hd e0 hl r x
  refine wpAny_mono (ht [] s1 (start N vs) H _ I hq) (fun fl s' hs => ?_) fun e s' hs => hs
  have fin : ∀ {σ' : St} {H' : Hp} {v : V} {u : Value}, Inv (cxOf CX P w K mg base N qual scope f cdv A outer s H E) [] σ' H' s' → RelV v u → Q v H' → CE outer P w H s Q u s' :=
    fun {σ' H' v u} J rv q => ⟨v, H', J.os, J.bare, J.base, J.hok, rv, q⟩
  cases fl with
  | ret u =>
    obtain ⟨v, σ', H', J, rv, q⟩ := hs
    exact fin J rv q
  | next =>
    obtain ⟨σ', H', J, q⟩ := hs
    exact fin (v := V.non) (u := Value.none) J rfl q
  | brk =>
    obtain ⟨_, _, _, q⟩ := hs
    exact False.elim q
  | cont =>
    obtain ⟨_, _, _, q⟩ := hs
    exact False.elim q
end L2

namespace L2
open PySem PySem.Spec PyProof.Rows
section
variable {X : Cx} {x : Str} {p pos : Pos} {e : Expr} {es : List Expr} {t : TA} {id T : String} {r : List V → Hp → VK → Prop}

def tCB (r : List V → Hp → VK → Prop) (t : TA) : TE := fun σ H Q => t σ H fun vs H1 => r vs H1 Q
theorem pe_callB (hc : CallR X (.builtin id) r) (hg : Gl X x) (hm : X.mg x = none) (hv : bootBuiltins x = some (.builtin id)) (ha : PA X (e :: es) t) (hn : x ≠ "__name__" := by decide) (hdb : (x == ("__debug__" : Str)) = false := by decide)
    (he : starEach (e :: es) X.env = (false, eval e X.env) :: starEach es X.env := by rfl) (hpl : (backTo pos (starEach es X.env)).any (·.1) = false := by rfl) : PE X (.Call (.Name x p) (e :: es) [] pos) (tCB r t) := by
  intro pins s σ H Q I h
  refine wpAny_Call_Name_kw (ld_blt I hg hm hv ?_ hn hdb)
  exact PyProof.Rows.callWith_builtin1 (thn (ha pos pins s σ H _ I h) fun us s1 ⟨vs, H1, I1, r1, q1⟩ => hc pins s1 σ H1 vs us Q I1 r1 q1) he hpl
theorem pe_callTy (hc : CallR X (.type T) r) (hg : Gl X x) (hm : X.mg x = none) (hv : bootBuiltins x = some (.type T)) (ha : PA X (e :: es) t) (hn : x ≠ "__name__" := by decide) (hdb : (x == ("__debug__" : Str)) = false := by decide)
    (he : starEach (e :: es) X.env = (false, eval e X.env) :: starEach es X.env := by rfl) (hpl : (backTo pos (starEach es X.env)).any (·.1) = false := by rfl) : PE X (.Call (.Name x p) (e :: es) [] pos) (tCB r t) := by
  intro pins s σ H Q I h
  refine wpAny_Call_Name_kw (ld_blt I hg hm hv ?_ hn hdb)
  exact PyProof.Rows.callWith_type1 (thn (ha pos pins s σ H _ I h) fun us s1 ⟨vs, H1, I1, r1, q1⟩ => hc pins s1 σ H1 vs us Q I1 r1 q1) he hpl
end
end L2

namespace HT
open PySem PyProof.Rows

section
open PySem.SeqAt
open PySem.AutoSeq1 (wpAny_loadPart')
open PySem.MeetsSeq PySem.MeetsSeq2 PySem.MeetsSeq3

end

section
variable {prog : Program} {w : World} {A : Around} {E : Value → Shared → Prop} {s : Shared}

def sIx (n d : Nat) : Option Int → Nat
  | none => d
  | some v => if v < 0 then (v + (n : Int)).toNat else min v.toNat n
theorem sIx_none (n d : Nat) : sIx n d none = d := rfl
theorem sIx_nat (n d k : Nat) : sIx n d (some (k : Int)) = min k n := by
  show (if (k : Int) < 0 then ((k : Int) + (n : Int)).toNat else min (k : Int).toNat n) = min k n
  rw [if_neg (by omega), Int.toNat_natCast]
theorem sIx_le (n d : Nat) (hd : d ≤ n) (o : Option Int) : sIx n d o ≤ n := by
  cases o with
  | none => exact hd
  | some v =>
    show (if v < 0 then (v + (n : Int)).toNat else min v.toNat n) ≤ n
    by_cases hv : v < 0
    · rw [if_pos hv]; omega
    · rw [if_neg hv]; exact Nat.min_le_right _ _
theorem clip_eq (v : Int) (n d : Nat) : (if v < 0 then max (v + (n : Int)) 0 else min v (n : Int)) = ((sIx n d (some v) : Nat) : Int) := by
  show (if v < 0 then max (v + (n : Int)) 0 else min v (n : Int)) = (((if v < 0 then (v + (n : Int)).toNat else min v.toNat n) : Nat) : Int)
  by_cases hv : v < 0
  · simp only [if_pos hv]; omega
  · simp only [if_neg hv]; omega
end
end HT

namespace L2
open PySem PySem.Spec PyProof.Rows

abbrev TO := St → Hp → (Option Int → Hp → Prop) → Prop
def PO (X : Cx) (e : Option Expr) (t : TO) : Prop :=
  ∀ (pins : List (Addr × Obj)) (s : Shared) (σ : St) (H : Hp) (Q : Option Int → Hp → Prop), Inv X pins σ H s → t σ H Q →
    wpAny (model X.prog X.w) X.A (evalPart e X.env) (fun u s' => ∃ o H', Inv X pins σ H' s' ∧ IsPart u o ∧ Q o H') X.xe s
def tNoPart : TO := fun _ H Q => Q none H
def tPart (t : TE) : TO := fun σ H Q => t σ H fun x H1 => ∃ i, x = .int i ∧ Q (some i) H1

section
variable {X : Cx} {e : Expr} {te : TE} {lo hi : Option Expr} {tl th : TO} {pos p2 : Pos}

theorem po_none : PO X none tNoPart := by
  intro pins s σ H Q I h
  rw [evalPart_none]
  exact wpAny_pure ⟨none, H, I, .none, h⟩
theorem po_some (h : PE X e te) : PO X (some e) (tPart te) := by
  intro pins s σ H Q I hw
  rw [evalPart_some]
  refine thn (h pins s σ H _ I hw) fun u s1 ⟨x, H1, I1, r1, q1⟩ => ?_
  obtain ⟨i, rfl, q⟩ := q1
  obtain ⟨t, rfl⟩ := r1
  exact ⟨some i, H1, I1, .int i t, q⟩

def SlR (X : Cx) (r : V → Option Int → Option Int → Hp → VK → Prop) : Prop :=
  ∀ (pins : List (Addr × Obj)) (s : Shared) (σ : St) (H : Hp) (x : V) (v vl vu : Value) (lo hi : Option Int) (sl : Addr) (Q : VK), Inv X pins σ H s → RelV x v → s.heap.IsSliceOf sl vl vu .none → IsPart vl lo → IsPart vu hi → r x lo hi H Q →
    ∃ T id, typeLookup (.type T) "__getitem__" = pure (some (.builtin id)) ∧ s.TypeIs v T ∧ wpAny (model X.prog X.w) X.A (getItem v (.ref sl)) (EP X pins σ Q) X.xe s
def tSl (r : V → Option Int → Option Int → Hp → VK → Prop) (te : TE) (tl th : TO) : TE := fun σ H Q => te σ H fun x H1 => tl σ H1 fun l H2 => th σ H2 fun u H3 => r x l u H3 Q
theorem pe_slice {r : V → Option Int → Option Int → Hp → VK → Prop} (hr : SlR X r) (he : PE X e te) (hl : PO X lo tl) (hu : PO X hi th) : PE X (.Subscript e (.Slice lo hi none p2) pos) (tSl r te tl th) := by
  intro pins s σ H Q I h
  refine Subscript_ (thn (he pins s σ H _ I h) fun v s1 ⟨x, H1, I1, r1, q1⟩ => ?_)
  refine wpAny_Slice (thn (hl pins s1 σ H1 _ I1 q1) fun vl s2 ⟨l, H2, I2, pl, q2⟩ => thn (hu pins s2 σ H2 _ I2 q2) fun vu s3 ⟨u, H3, I3, pu, q3⟩ => ?_)
  rw [evalPart_none]
  refine wpAny_pure ?_
  have I4 : Inv X pins σ H3 { s3 with heap := s3.heap.push { cls := .type "slice", data := .fields #[vl, vu, .none] } } := I3.kept (t' := s3.toks) fun b ob q => Heap.get?_push_of_some _ q
  obtain ⟨T, id, hT, ht, hg⟩ := hr pins { s3 with heap := s3.heap.push { cls := .type "slice", data := .fields #[vl, vu, .none] } } σ H3 x v vl vu l u s3.heap.objs.size Q I4 r1 (Heap.IsSliceOf.new ..) pl pu q3
  show wpAny (model X.prog X.w) X.A (subscriptTail e (.Slice lo hi none p2) v (.ref s3.heap.objs.size)) (EP X pins σ Q) X.xe { s3 with heap := s3.heap.push { cls := .type "slice", data := .fields #[vl, vu, .none] } }
  exact tail_any (ops := [.ref s3.heap.objs.size, v]) ht hT hg (by with_unfolding_all rfl)

def cutV (xs : List V) (lo hi : Option Int) : List V := (xs.drop (HT.sIx xs.length 0 lo)).take (HT.sIx xs.length xs.length hi - HT.sIx xs.length 0 lo)
theorem cutV_length (xs : List V) (lo hi : Option Int) : (cutV xs lo hi).length ≤ xs.length := by
  unfold cutV
  rw [List.length_take, List.length_drop]
  omega
end
end L2

namespace L2
open PySem PySem.Spec PyProof.Rows

def ixN (n : Nat) (i : Int) : Option Nat := if 0 ≤ i then (if i < n then some i.toNat else none) else if -(n : Int) ≤ i then some (i + n).toNat else none
def atI {α : Type} (xs : List α) (i : Int) : Option α := (ixN xs.length i).bind fun j => xs[j]?
theorem ixN_seq {n : Nat} {i : Int} {j : Nat} (h : ixN n i = some j) : seqIndex? i n = some j ∧ j < n ∧ -(n : Int) ≤ i ∧ i < n := by
  unfold ixN at h
  by_cases h0 : 0 ≤ i
  · rw [if_pos h0] at h
    by_cases h1 : i < n
    · rw [if_pos h1] at h
      have e : i.toNat = j := Option.some.inj h
      exact ⟨by rw [seqIndex_of h0 h1, e], by omega, by omega, h1⟩
    · rw [if_neg h1] at h; cases h
  · rw [if_neg h0] at h
    by_cases h1 : -(n : Int) ≤ i
    · rw [if_pos h1] at h
      have e : (i + n).toNat = j := Option.some.inj h
      exact ⟨by rw [seqIndex_neg (by omega) h1, e], by omega, h1, by omega⟩
    · rw [if_neg h1] at h; cases h
theorem atI_get {α : Type} {xs : List α} {i : Int} {v : α} (h : atI xs i = some v) : ∃ j, seqIndex? i xs.length = some j ∧ xs[j]? = some v ∧ j < xs.length ∧ -(xs.length : Int) ≤ i ∧ i < xs.length := by
  unfold atI at h
  cases e : ixN xs.length i with
  | none => rw [e] at h; cases h
  | some j =>
    rw [e] at h
    obtain ⟨h1, h2, h3, h4⟩ := ixN_seq e
    exact ⟨j, h1, h, h2, h3, h4⟩
theorem atI_nat {α : Type} {xs : List α} {j : Nat} {v : α} (h : xs[j]? = some v) : atI xs (j : Int) = some v := by
  have hj : j < xs.length := (List.getElem?_eq_some_iff.mp h).1
  have e : ixN xs.length (j : Int) = some j := by
    unfold ixN
    rw [if_pos (by omega), if_pos (by omega)]; simp
  unfold atI; rw [e]; exact h
theorem atI_last {α : Type} (xs : List α) (v : α) : atI (xs ++ [v]) (-1) = some v := by
  have hl : (xs ++ [v]).length = xs.length + 1 := by simp
  have e : ixN (xs ++ [v]).length (-1) = some xs.length := by
    unfold ixN
    rw [hl, if_neg (by decide), if_pos (by omega)]
    congr 1
    omega
  unfold atI
  rw [e]
  show (xs ++ [v])[xs.length]? = some v
  simp

def PlainIx (b : Expr) : Prop := ∀ o i, subscripted b false o i = operate [o, i] (getItem o i)
def IxR (X : Cx) (r : R2) : Prop :=
  ∀ (value slice : Expr) (pins : List (Addr × Obj)) (s : Shared) (σ : St) (H : Hp) (x y : V) (v u : Value) (Q : VK), Inv X pins σ H s → RelV x v → RelV y u → r x y H Q →
    subscripted slice false v u = operate [v, u] (getItem v u) → wpAny (model X.prog X.w) X.A (subscriptTail value slice v u) (EP X pins σ Q) X.xe s
def MtR (X : Cx) (id : String) (r : V → List V → Hp → VK → Prop) : Prop :=
  ∀ (pins : List (Addr × Obj)) (s : Shared) (σ : St) (H : Hp) (x : V) (xs : List V) (v : Value) (us : List Value) (Q : VK), Inv X pins σ H s → RelV x v → Vals xs us → r x xs H Q →
    wpAny (model X.prog X.w) X.A (call (.builtin id) (v :: us)) (EP X pins σ Q) X.xe s
section
variable {X : Cx} {a b : Expr} {ta tb : TE} {pos : Pos}
theorem pe_ix {r : R2} (hr : IxR X r) (ha : PE X a ta) (hb : PE X b tb) (hs : PlainIx b) : PE X (.Subscript a b pos) (tOp r ta tb) := by
  intro pins s σ H Q I h
  exact Subscript_ (binT ha hb I h fun v u s2 x y H2 I2 rx ry q => hr a b pins s2 σ H2 x y v u Q I2 rx ry q (hs _ _))

def rIxL (K : PySem.W.Frag) : R2 := fun x y H Q => ∃ p xs i v, x = .ref p ∧ y = .int i ∧ SqL K H p xs ∧ atI xs i = some v ∧ Q v H
def rIxT (K : PySem.W.Frag) : R2 := fun x y H Q => ∃ p xs i v, x = .ref p ∧ y = .int i ∧ SqT K H p xs ∧ atI xs i = some v ∧ Q v H
def rIxS : R2 := fun x y H Q => ∃ z i c, x = .str z ∧ y = .int i ∧ z.length ≤ sizeLine ∧ atI z.cps.toList i = some c ∧ Q (.str ⟨#[c]⟩) H
theorem ix_list : IxR X (rIxL X.K) := by
  intro value slice pins s σ H x y v u Q I rx ry h hs
  obtain ⟨p, xs, i, z, rfl, rfl, hq, he, q⟩ := h
  cases rx
  obtain ⟨t, rfl⟩ := ry
  obtain ⟨its, r, pl, hz⟩ := I.list hq
  obtain ⟨j, h1, h2, h3, h4, h5⟩ := atI_get he
  obtain ⟨w, ew, rw'⟩ := r.get h2
  have hl := r.length
  have hn := line63
  have fin : EP X pins σ Q w s := ⟨z, H, I, rw', q⟩
  by_cases h0 : 0 ≤ i
  · have hj : i.toNat = j := by
      rw [seqIndex_of h0 h5] at h1
      exact Option.some.inj h1
    exact item_listR pl.isList h0 (by omega) (by rw [hj]; simpa using ew) fin hs
  · have hj : (i + (its.toArray.size : Int)).toNat = j := by
      rw [seqIndex_neg (by omega) h4] at h1
      rw [List.size_toArray, ← hl]
      exact Option.some.inj h1
    exact subscriptTail_builtinR (x := w) pl.isList.typeIs slot_list_getitem.lookup
      (wpAny_getItem_list_neg (Q := fun r s' => r = w ∧ EP X pins σ Q r s') pl.isList (by omega) (by rw [List.size_toArray] <;> omega) (by omega) (by rw [hj]; simpa using ew) ⟨rfl, fin⟩) hs
theorem ix_tup : IxR X (rIxT X.K) := by
  intro value slice pins s σ H x y v u Q I rx ry h hs
  obtain ⟨p, xs, i, z, rfl, rfl, hq, he, q⟩ := h
  cases rx
  obtain ⟨t, rfl⟩ := ry
  obtain ⟨its, r, pl, hz⟩ := I.tuple hq
  obtain ⟨j, h1, h2, h3, h4, h5⟩ := atI_get he
  obtain ⟨w, ew, rw'⟩ := r.get h2
  have hl := r.length
  have hn := line63
  have fin : EP X pins σ Q w s := ⟨z, H, I, rw', q⟩
  exact subscriptTail_builtinR (x := w) pl.typeIs slot_tuple_getitem.lookup
    (getItem_tuple (j := j) (Q := fun r s' => r = w ∧ EP X pins σ Q r s') pl (by omega) (by omega) (by rw [List.size_toArray, ← hl]; exact h1) (by simpa using ew) ⟨rfl, fin⟩) hs
theorem ix_str : IxR X rIxS := by
  intro value slice pins s σ H x y v u Q I rx ry h hs
  obtain ⟨z, i, c, rfl, rfl, hz, he, q⟩ := h
  obtain ⟨t, rfl⟩ := rx
  obtain ⟨t', rfl⟩ := ry
  obtain ⟨j, h1, h2, h3, h4, h5⟩ := atI_get he
  have hl : z.cps.toList.length = z.length := by simp [Str.length]
  rw [hl] at h1 h4 h5
  have hn := line63
  exact tail_any (typeIs_str s z t) slot_str_getitem.lookup (getItem_str (c := c) (by
    have e1 : decide (i < -(2 ^ 63 : Int)) = false := decide_eq_false (by omega)
    have e2 : decide (i ≥ 2 ^ 63) = false := decide_eq_false (by omega)
    rw [e1, e2, Bool.or_false]) (by rw [h1]; simpa using h2) ⟨.str ⟨#[c]⟩, H, I.tok _, ⟨_, rfl⟩, q⟩) hs
theorem mapSeq_set (its : List Value) (n j : Nat) (u : Value) : Obj.mapSeq (·.setIfInBounds j u) { cls := .type "list", data := .seq its.toArray n } = { cls := .type "list", data := .seq (its.set j u).toArray n } := by
  simp [Obj.mapSeq]
theorem Inv.lst {pins : List (Addr × Obj)} {σ : St} {H : Hp} {s : Shared} {p : Addr} {xs : List V} (I : Inv X pins σ H s) (h : H p = some (.lst xs)) :
    ∃ (its : List Value) (n : Nat), Vals xs its ∧ s.heap.get? p = some { cls := .type "list", data := .seq its.toArray n } ∧ xs.length ≤ sizeLine := by
  obtain ⟨z, its, n, r, e⟩ := I.hok p _ h
  exact ⟨its, n, r, e, z⟩
theorem Inv.lstUpd {pins : List (Addr × Obj)} {σ : St} {H : Hp} {s : Shared} {p : Addr} {xs ys : List V} {its its' : List Value} {n n' : Nat} {f : Obj → Obj} (I : Inv X pins σ H s) (h : H p = some (.lst xs))
    (ho : s.heap.get? p = some { cls := .type "list", data := .seq its.toArray n }) (hf : f { cls := .type "list", data := .seq its.toArray n } = { cls := .type "list", data := .seq its'.toArray n' }) (r : Vals ys its') (hz : ys.length ≤ sizeLine) (t : Nat) :
    Inv X pins σ (upd H p (.lst ys)) { s with heap := s.heap.update p f, toks := t } := by
  have e : (s.heap.update p f).get? p = some { cls := .type "list", data := .seq its'.toArray n' } := by
    rw [Heap.get?_update_self f ho (by rw [hf] <;> rfl), hf]
  refine I.write (x := p) (e := p) (by rw [h]; trivial) (.inl rfl) (fun b u hb q => (Heap.get?_update_other _ _ (Ne.symm hb)).trans q) ⟨_, e⟩ ?_
  exact ⟨hz, its', n', r, e⟩
def rSetL : V → V → V → Hp → (Hp → Prop) → Prop := fun o i v H Q => ∃ p xs k j, o = .ref p ∧ i = .int k ∧ H p = some (.lst xs) ∧ ixN xs.length k = some j ∧ Q (upd H p (.lst (xs.set j v)))
theorem set_list : PSet X rSetL := by
  intro pins s σ H o i v ov iv u Q I ro ri rv h
  obtain ⟨p, xs, k, j, rfl, rfl, hp, hj, q⟩ := h
  cases ro
  obtain ⟨t, rfl⟩ := ri
  obtain ⟨its, n, r, ho, hz⟩ := I.lst hp
  obtain ⟨h1, h2, h3, h4⟩ := ixN_seq hj
  have hl := r.length
  have hn := line63
  have I' : Inv X pins σ (upd H p (.lst (xs.set j v))) { s with heap := s.heap.update p (Obj.mapSeq (·.setIfInBounds j u)) } :=
    I.lstUpd hp ho (mapSeq_set its n j u) (r.set rv j) (by rw [List.length_set]; exact hz) s.toks
  by_cases h0 : 0 ≤ k
  · have hk : k.toNat = j := by
      rw [seqIndex_of h0 h4] at h1
      exact Option.some.inj h1
    exact PySem.W.ki_setAt ho h0 (by omega) (by rw [List.size_toArray, ← hl]; exact h4) (by rw [hk]; exact ⟨_, I', q⟩)
  · have hk : (k + (its.toArray.size : Int)).toNat = j := by
      rw [seqIndex_neg (by omega) h3] at h1
      rw [List.size_toArray, ← hl]
      exact Option.some.inj h1
    exact PySem.W.ki_setBack ho (by omega) (by rw [List.size_toArray, ← hl]; exact h3) (by omega) (by rw [hk]; exact ⟨_, I', q⟩)

theorem slice_bounds (lo hi : Option Int) (n : Nat) : (sliceBounds lo hi none n).1 = ((HT.sIx n 0 lo : Nat) : Int) ∧ (sliceBounds lo hi none n).2.1 = ((HT.sIx n n hi : Nat) : Int) ∧ (sliceBounds lo hi none n).2.2 = 1 := by
  refine ⟨?_, ?_, rfl⟩
  · cases lo with
    | none => simp [sliceBounds, HT.sIx]
    | some i =>
      simp only [sliceBounds, HT.sIx, Option.getD_none, show (1 : Int) > 0 by decide, if_true]
      by_cases h : i < 0
      · simp only [h, if_true] <;> omega
      · simp only [h, if_false] <;> omega
  · cases hi with
    | none => simp [sliceBounds, HT.sIx]
    | some i =>
      simp only [sliceBounds, HT.sIx, Option.getD_none, show (1 : Int) > 0 by decide, if_true]
      by_cases h : i < 0
      · simp only [h, if_true] <;> omega
      · simp only [h, if_false] <;> omega
theorem slicePick_cut (its : List Value) (lo hi : Option Int) : slicePick its.toArray lo hi none = ((its.drop (HT.sIx its.length 0 lo)).take (HT.sIx its.length its.length hi - HT.sIx its.length 0 lo)).toArray := by
  obtain ⟨h1, h2, h3⟩ := slice_bounds lo hi its.toArray.size
  unfold slicePick
  rw [h1, h2, h3]
  simp only [sliceRange_one, pick_run, List.size_toArray] <;> rfl
def rSlL (K : PySem.W.Frag) : V → Option Int → Option Int → Hp → VK → Prop := fun x lo hi H Q => ∃ a xs, x = .ref a ∧ SqL K H a xs ∧ ∀ p, H p = none → Q (.ref p) (upd H p (.lst (cutV xs lo hi)))
theorem sl_list : SlR X (rSlL X.K) := by
  intro pins s σ H x v vl vu lo hi sl Q I rx hs pl pu h
  obtain ⟨a, xs, rfl, hx, q⟩ := h
  cases rx
  obtain ⟨its, r, ht, hz⟩ := I.list hx
  have hlen := r.length
  refine ⟨"list", _, slot_list_getitem.lookup, ht.isList.typeIs, ?_⟩
  refine wpAny_getItem_list_slice ht.isList hs pl pu .none (by simp) ?_ (by rw [List.size_toArray] <;> omega)
  rw [slicePick_cut, ← hlen]
  refine ⟨.ref s.heap.objs.size, _, I.laid (t' := s.toks) (o := .lst (cutV xs lo hi)) (fun b ob q => Heap.get?_push_of_some _ q) (Nat.le_refl _) ?_, rfl, q _ (I.hok.fresh (Nat.le_refl _))⟩
  exact ⟨Nat.le_trans (cutV_length xs lo hi) hz, _, 0, (r.drop (HT.sIx xs.length 0 lo)).take (HT.sIx xs.length xs.length hi - HT.sIx xs.length 0 lo), Heap.get?_push_size _ rfl⟩

theorem op_notIn_str : OpR X (compareOp .NotIn) (fun x y H Q => ∃ i j, x = .str i ∧ y = .str j ∧ Q (.bl (!(!(Builtin.Str.occurrences j i 0 j.length 1).isEmpty))) H) := by
  intro pins s σ H x y v u Q I rx ry h
  obtain ⟨i, j, rfl, rfl, q⟩ := h
  obtain ⟨t, rfl⟩ := rx
  obtain ⟨t', rfl⟩ := ry
  exact notIn_str ⟨.bl _, H, I, rfl, q⟩

theorem call_len_seq : CallR X (.builtin "len") (fun xs H Q => ∃ p ys, xs = [.ref p] ∧ (SqL X.K H p ys ∨ SqT X.K H p ys) ∧ Q (.int ys.length) H) := by
  intro pins s σ H xs us Q I r h
  obtain ⟨p, ys, rfl, hq, q⟩ := h
  obtain ⟨u, rfl, rx⟩ := vals1 r
  cases rx
  have hn := line63
  rcases hq with hq | hq
  · obtain ⟨its, r', pl, hz⟩ := I.list hq
    have hlen := r'.length
    exact Calls.call_len_list pl.isList (by simp only [List.size_toArray] <;> omega) ⟨.int ys.length, H, I.tok _, ⟨s.toks + 1, by rw [List.size_toArray, hlen]⟩, q⟩
  · obtain ⟨its, r', pl, hz⟩ := I.tuple hq
    have hlen := r'.length
    exact len_tuple pl (by simp only [List.size_toArray] <;> omega) ⟨.int ys.length, H, I.tok _, ⟨s.toks + 1, by rw [List.size_toArray, hlen]⟩, q⟩
theorem call_len_str : CallR X (.builtin "len") (fun xs H Q => ∃ z, xs = [.str z] ∧ z.length ≤ sizeLine ∧ Q (.int z.length) H) := by
  intro pins s σ H xs us Q I r h
  obtain ⟨z, rfl, hz, q⟩ := h
  obtain ⟨u, rfl, t, rfl⟩ := vals1 r
  have hn := line63
  exact len_str (by omega) ⟨.int z.length, H, I.tok _, ⟨_, rfl⟩, q⟩
theorem call_tuple_of : CallR X (.type "tuple") (fun xs H Q => ∃ p ys, xs = [.ref p] ∧ ((SqL X.K H p ys ∧ ∀ l, H l = none → Q (.ref l) (upd H l (.tup ys))) ∨ (SqT X.K H p ys ∧ Q (.ref p) H))) := by
  intro pins s σ H xs us Q I r h
  obtain ⟨p, ys, rfl, h⟩ := h
  obtain ⟨u, rfl, rx⟩ := vals1 r
  cases rx
  rcases h with ⟨hq, q⟩ | ⟨hq, q⟩
  · obtain ⟨its, r', pl, hz⟩ := I.list hq
    have hlen := r'.length
    refine call_tuple_list pl.isList (fun h' kp => ?_) (by simp only [List.size_toArray] <;> omega)
    have I1 : Inv X pins σ H { s with heap := h' } := I.kept (t' := s.toks) kp
    have I2 : Inv X pins σ (upd H h'.objs.size (.tup ys)) { s with heap := h'.push { cls := .type "tuple", data := .seq its.toArray } } :=
      I1.laid (t' := s.toks) (fun b o e => Heap.get?_push_of_some _ e) (Nat.le_refl _) (show ObjOk X.prog X.w _ _ _ (.tup ys) from ⟨hz, its, r', IsTup.new _ _⟩)
    exact ⟨.ref h'.objs.size, _, I2, rfl, q _ (I1.hok.fresh (Nat.le_refl _))⟩
  · obtain ⟨its, r', pl, hz⟩ := I.tuple hq
    exact call_tuple_same pl ⟨.ref p, H, I, rfl, q⟩

def tyV (K : PySem.W.Frag) (T : String) (x : V) (H : Hp) : Prop := match x with
  | .str _ => T = "str"
  | .int _ => T = "int"
  | .ref p => (T = "list" ∧ ∃ xs, SqL K H p xs) ∨ (T = "tuple" ∧ ∃ o, K.lookup p = some o ∧ o.cls = .type "tuple" ∧ o.dict = none) ∨
      (T = "dict" ∧ ((∃ kvs, H p = some (.dK kvs)) ∨ ∃ kvs, H p = some (.dT kvs))) ∨ (T = "set" ∧ ∃ S n, H p = some (.set S n))
  | _ => False
theorem tyV_is {pins : List (Addr × Obj)} {σ : St} {H : Hp} {s : Shared} {T : String} {x : V} {v : Value} (I : Inv X pins σ H s) (r : RelV x v) (ty : tyV X.K T x H) :
    s.TypeIs v T ∧ ∀ a, v = .ref a → ∃ ob, s.heap.get? a = some ob ∧ ob.dict = none := by
  cases x with
  | str z =>
    obtain ⟨t, rfl⟩ := r
    cases (show T = "str" from ty)
    exact ⟨typeIs_str s z t, fun _ e => nomatch e⟩
  | int i =>
    obtain ⟨t, rfl⟩ := r
    cases (show T = "int" from ty)
    exact ⟨typeIs_int s i t, fun _ e => nomatch e⟩
  | ref p =>
    cases r
    rcases ty with ⟨rfl, xs, hq⟩ | ⟨rfl, o, hk, hc, hd⟩ | ⟨rfl, hk⟩ | ⟨rfl, S, n, hk⟩
    · obtain ⟨its, _, pl, _⟩ := I.list hq
      refine ⟨pl.isList.typeIs, fun a e => ?_⟩
      cases e
      obtain ⟨o, n, e, c, hd, _⟩ := pl
      exact ⟨o, e, hd⟩
    · refine ⟨⟨o, I.kIn p o hk, hc⟩, fun a e => ?_⟩
      cases e
      exact ⟨o, I.kIn _ o hk, hd⟩
    · have z : ∃ o, s.heap.get? p = some o ∧ o.ExactDict := by
        rcases hk with ⟨kvs, hk⟩ | ⟨kvs, hk⟩
        · obtain ⟨_, _, _, _, o, _, _, e, ex, _⟩ := I.hok p _ hk
          exact ⟨o, e, ex⟩
        · obtain ⟨_, _, _, _, o, _, _, e, ex, _⟩ := I.hok p _ hk
          exact ⟨o, e, ex⟩
      obtain ⟨o, e, ex⟩ := z
      refine ⟨⟨o, e, ex.1⟩, fun a e2 => ?_⟩
      cases e2
      exact ⟨o, e, ex.2.1⟩
    · obtain ⟨o, _, _, _, e, ex, _⟩ := I.hok p _ hk
      refine ⟨⟨o, e, ex.1⟩, fun a e2 => ?_⟩
      cases e2
      exact ⟨o, e, ex.2.1⟩
  | _ => exact False.elim ty
def tBM0 (K : PySem.W.Frag) (T : String) (r : V → List V → Hp → VK → Prop) (to : TE) : TE := fun σ H Q => to σ H fun x H1 => tyV K T x H1 ∧ r x [] H1 Q
def tBM (K : PySem.W.Frag) (T : String) (r : V → List V → Hp → VK → Prop) (to : TE) (t : TA) : TE := fun σ H Q => to σ H fun x H1 => tyV K T x H1 ∧ t σ H1 fun xs H2 => r x xs H2 Q
variable {o e : Expr} {es : List Expr} {to : TE} {t : TA} {name : Str} {apos cpos : Pos} {T id : String} {r : V → List V → Hp → VK → Prop}
theorem pe_bm0 (pa : PlainAttrs T) (slot : Slot T name id) (hty : typeOf (.builtin id) = pure (.type "method_descriptor")) (hm : MtR X id r) (ho : PE X o to)
    (hbase : attributeBase o name X.env (eval o X.env) = eval o X.env := by rfl) (hline : (apos.endLine == cpos.line) = true := by rfl) : PE X (.Call (.Attribute o name apos) [] [] cpos) (tBM0 X.K T r to) := by
  intro pins s σ H Q I h
  refine wpAny_Call_method0_late hbase hline (thn (ho pins s σ H _ I h) fun v s1 ⟨x, H1, I1, r1, ty, q1⟩ => ?_)
  obtain ⟨h1, h2⟩ := tyV_is I1 r1 ty
  exact ⟨T, id, pa, slot, hty, h1, h2, Calls.callWith_builtin rfl (PySem.evalArgs_none (hm pins s1 σ H1 x [] v [] Q I1 r1 .nil q1))⟩
theorem pe_bm (pa : PlainAttrs T) (slot : Slot T name id) (hty : typeOf (.builtin id) = pure (.type "method_descriptor")) (hm : MtR X id r) (ho : PE X o to) (ha : PA X (e :: es) t)
    (hbase : attributeBase o name X.env (eval o X.env) = eval o X.env := by rfl)
    (hfew : ((backTo cpos (starEach (e :: es) X.env)).all (fun x => !x.1) && (backToKw cpos (keywordEach [] X.env)).all (fun x => x.1.isSome)
      && decide ((e :: es).length + ([] : List Keyword).length + (if ([] : List Keyword).isEmpty then 0 else 1) < 30)) = true := by rfl)
    (hline : (apos.endLine == cpos.line) = true := by rfl) (hs : starEach (e :: es) X.env = (false, eval e X.env) :: starEach es X.env := by rfl) (hplain : (backTo cpos (starEach es X.env)).any (·.1) = false := by rfl) :
    PE X (.Call (.Attribute o name apos) (e :: es) [] cpos) (tBM X.K T r to t) := by
  intro pins s σ H Q I h
  refine wpAny_Call_method_late hbase hfew hline rfl (thn (ho pins s σ H _ I h) fun v s1 ⟨x, H1, I1, r1, ty, q1⟩ => ?_)
  obtain ⟨h1, h2⟩ := tyV_is I1 r1 ty
  refine ⟨T, id, pa, slot, hty, h1, h2, ?_⟩
  have hA := ha cpos pins s1 σ H1 _ I1 q1
  rw [hs] at hA ⊢
  refine Calls.callWith_builtin (by show (false || (backTo cpos (starEach es X.env)).any (·.1)) = false; rw [hplain] <;> rfl) (Calls.evalArgs_plain ?_)
  exact thn hA fun us s2 ⟨vs, H2, I2, r2, q2⟩ => hm pins s2 σ H2 x vs v us Q I2 r1 r2 q2
end
end L2

namespace L2
open PySem PySem.Spec PyProof.Rows

def MtM (X : Cx) (id : String) (r : V → List V → Hp → VK → Prop) : Prop :=
  ∀ (pins : List (Addr × Obj)) (s : Shared) (σ : St) (H : Hp) (x : V) (xs : List V) (v : Value) (us : List Value) (Q : VK), Inv X pins σ H s → RelV x v → Vals xs us → r x xs H Q →
    wpAny (model X.prog X.w) X.A (call (.builtin id) (v :: us)) (EP X pins σ Q) X.xe s

theorem Vals.one : ∀ {x : V} {us : List Value}, Vals [x] us → ∃ u, us = [u] ∧ RelV x u
  | _, _, .cons r .nil => ⟨_, rfl, r⟩
theorem Vals.zero : ∀ {us : List Value}, Vals [] us → us = []
  | _, .nil => rfl
section
variable {X : Cx} {pins : List (Addr × Obj)} {σ : St} {H : Hp} {s : Shared} {l b : Addr} {xs ys zs : List V}

theorem Inv.lset {its its' : List Value} {n : Nat} {f : Array Value → Array Value} {t' : Nat} (I : Inv X pins σ H s) (hH : H l = some (.lst xs))
    (e : s.heap.get? l = some { cls := .type "list", data := .seq its.toArray n }) (hf : f its.toArray = its'.toArray) (hv : Vals ys its') (hz : ys.length ≤ sizeLine) :
    Inv X pins σ (upd H l (.lst ys)) { s with heap := s.heap.update l (Obj.mapSeq f), toks := t' } := by
  have q := PySem.IsL.update e f
  rw [hf] at q
  refine I.write (x := l) (e := l) (by rw [hH]; exact trivial) (.inl rfl) (fun b' u hb hu => (Heap.get?_update_other s.heap (Obj.mapSeq f) (Ne.symm hb)).trans hu) ⟨_, q⟩ ?_
  exact ⟨hz, its', _, hv, q⟩
theorem Inv.lnew {its : List Value} {t' : Nat} (I : Inv X pins σ H s) (hv : Vals ys its) (hz : ys.length ≤ sizeLine) :
    Inv X pins σ (upd H s.heap.objs.size (.lst ys)) { s with heap := s.heap.push { cls := .type "list", data := .seq its.toArray }, toks := t' } :=
  I.laid (fun _ _ q => Heap.get?_push_of_some _ q) (Nat.le_refl _) ⟨hz, its, 0, hv, Heap.get?_push_size _ rfl⟩
theorem Inv.fresh (I : Inv X pins σ H s) : H s.heap.objs.size = none := I.hok.fresh (Nat.le_refl _)
theorem Inv.lstM (I : Inv X pins σ H s) (hH : H l = some (.lst xs)) : xs.length ≤ sizeLine ∧ ∃ (its : List Value) (n : Nat), Vals xs its ∧ xs.length = its.length ∧ s.heap.get? l = some { cls := .type "list", data := .seq its.toArray n } := by
  obtain ⟨z, its, n, r, e⟩ := I.hok l _ hH
  exact ⟨z, its, n, r, r.length, e⟩

theorem notLongL {n : Nat} (h : n ≤ sizeLine) : Builtin.List.listTooLong n = false := by
  unfold Builtin.List.listTooLong
  exact decide_eq_false (by omega)
end

section
variable {X : Cx}

def rAppend : V → List V → Hp → VK → Prop := fun x vs H Q => ∃ l xs y, x = .ref l ∧ vs = [y] ∧ H l = some (.lst xs) ∧ xs.length < sizeLine ∧ Q .non (upd H l (.lst (xs ++ [y])))
theorem mt_append : MtM X "list.append" rAppend := by
  intro pins s σ H x vs v us Q I rx rv h
  obtain ⟨l, xs, y, rfl, rfl, hH, hz, q⟩ := h
  cases rx
  obtain ⟨u, rfl, ru⟩ := rv.one
  obtain ⟨z, its, n, r, hl, e⟩ := I.lstM hH
  refine call_meets F.slot_list_append ⟨_, e, rfl⟩ F.entry_list_append (F.args_list_append_2 _ _) (PySem.list_append l its.toArray n u (by rw [List.size_toArray]; omega)) ⟨e, ?_⟩
  refine ⟨.non, _, I.lset (its' := its ++ [u]) hH e (by simp) (r.append (.cons ru .nil)) ?_, rfl, q⟩
  rw [List.length_append, List.length_singleton]
  omega

def rExtend : V → List V → Hp → VK → Prop := fun x vs H Q => ∃ l b xs zs, x = .ref l ∧ vs = [.ref b] ∧ H l = some (.lst xs) ∧ H b = some (.lst zs) ∧ xs.length + zs.length ≤ sizeLine ∧ Q .non (upd H l (.lst (xs ++ zs)))
theorem mt_extend : MtM X "list.extend" rExtend := by
  intro pins s σ H x vs v us Q I rx rv h
  obtain ⟨l, b, xs, zs, rfl, rfl, hH, hB, hz, q⟩ := h
  cases rx
  obtain ⟨u, rfl, ru⟩ := rv.one
  cases ru
  obtain ⟨z, its, n, r, hl, e⟩ := I.lstM hH
  obtain ⟨z2, its2, n2, r2, hl2, e2⟩ := I.lstM hB
  have hsz : its.toArray.size + its2.toArray.size ≤ sizeLine := by rw [List.size_toArray, List.size_toArray]; omega
  have hlong : ¬ (!its.toArray.isEmpty && Builtin.List.listTooLong (its.toArray.size + its2.toArray.size)) = true := by
    rw [notLongL hsz, Bool.and_false]
    exact Bool.false_ne_true
  refine call_meets F.slot_list_extend ⟨_, e, rfl⟩ F.entry_list_extend (F.args_list_extend_2 _ _)
    (AutoSeq1.list_extend_list_list_0 l its.toArray n b its2.toArray n2 hlong (by rw [List.size_toArray]; omega) (by omega)) ⟨e, e2, ?_⟩
  refine ⟨.non, _, I.lset (its' := its ++ its2) hH e (by simp) (r.append r2) ?_, rfl, q⟩
  rw [List.length_append]
  omega

theorem len_rep {α : Type} (xs : List α) (k : Nat) : (List.replicate k xs).flatten.length = k * xs.length := by
  induction k with
  | zero => simp
  | succ k ih => rw [List.replicate_succ, List.flatten_cons, List.length_append, ih, Nat.succ_mul, Nat.add_comm]
end

section
variable {prog : Program} {w : World} {A : Around} {E : Value → Shared → Prop} {s : Shared}
end

section
variable {X : Cx}
end
end L2

namespace L2
open PySem PySem.Spec PyProof.Rows

section
variable {κ : Type} [DecidableEq κ]
def valV (kvs : List (κ × V)) (k : κ) : Option V := (kvs.find? fun kv => decide (kv.1 = k)).map (·.2)
def putK (kvs : List (κ × V)) (k : κ) (v : V) : List (κ × V) :=
  if (kvs.any fun kv => decide (kv.1 = k)) = true then kvs.map (fun kv => if kv.1 = k then (kv.1, v) else kv) else kvs ++ [(k, v)]
theorem valV_pos {p : κ × V} {r : List (κ × V)} {k : κ} (e : p.1 = k) : valV (p :: r) k = some p.2 := by simp [valV, List.find?_cons, e]
theorem valV_neg {p : κ × V} {r : List (κ × V)} {k : κ} (e : ¬ p.1 = k) : valV (p :: r) k = valV r k := by simp [valV, List.find?_cons, e]
theorem valV_any (k : κ) : ∀ kvs : List (κ × V), (kvs.any fun kv => decide (kv.1 = k)) = (valV kvs k).isSome
  | [] => rfl
  | p :: r => by
    rw [List.any_cons]
    by_cases e : p.1 = k
    · simp only [valV_pos e, decide_eq_true e, Bool.true_or, Option.isSome_some]
    · rw [valV_neg e, decide_eq_false e, Bool.false_or]; exact valV_any k r
theorem valV_map (k j : κ) (y : V) : ∀ kvs : List (κ × V), valV (kvs.map fun kv => if kv.1 = k then (kv.1, y) else kv) j = (valV kvs j).map fun x => if j = k then y else x
  | [] => rfl
  | p :: r => by
    have ih := valV_map k j y r
    rw [List.map_cons]
    by_cases h : p.1 = k
    · rw [if_pos h]
      by_cases e : p.1 = j
      · rw [valV_pos (p := (p.1, y)) e, valV_pos e, Option.map_some, if_pos (e.symm.trans h)]
      · rw [valV_neg (p := (p.1, y)) e, valV_neg e, ih]
    · rw [if_neg h]
      by_cases e : p.1 = j
      · rw [valV_pos (p := p) e, valV_pos e, Option.map_some, if_neg (fun z => h (e.trans z))]
      · rw [valV_neg (p := p) e, valV_neg e, ih]
theorem valV_snoc (k j : κ) (y : V) : ∀ kvs : List (κ × V), valV kvs k = none → valV (kvs ++ [(k, y)]) j = if j = k then some y else valV kvs j
  | [], _ => by
    by_cases e : k = j
    · rw [if_pos e.symm]; exact valV_pos (p := (k, y)) e
    · rw [if_neg (fun z => e z.symm)]; exact valV_neg (p := (k, y)) e
  | p :: r, hn => by
    rw [List.cons_append]
    have hk : ¬ p.1 = k := fun z => by rw [valV_pos z] at hn; cases hn
    rw [valV_neg hk] at hn
    have ih := valV_snoc k j y r hn
    by_cases e : p.1 = j
    · rw [valV_pos e, valV_pos e, if_neg (fun z => hk (e.trans z))]
    · rw [valV_neg e, valV_neg e, ih]
theorem valV_put (kvs : List (κ × V)) (k j : κ) (y : V) : valV (putK kvs k y) j = if j = k then some y else valV kvs j := by
  unfold putK
  by_cases a : (kvs.any fun kv => decide (kv.1 = k)) = true
  · rw [if_pos a, valV_map]
    rw [valV_any] at a
    by_cases e : j = k
    · obtain ⟨x, hx⟩ := Option.isSome_iff_exists.mp a
      rw [if_pos e, e, hx, Option.map_some, if_pos rfl]
    · rw [if_neg e]
      cases valV kvs j with
      | none => rfl
      | some x => rw [Option.map_some, if_neg e]
  · rw [if_neg a]
    refine valV_snoc k j y kvs ?_
    rw [valV_any] at a
    cases q : valV kvs k with
    | none => rfl
    | some x => rw [q] at a; exact (a rfl).elim
theorem length_putK (kvs : List (κ × V)) (k : κ) (v : V) : (putK kvs k v).length ≤ kvs.length + 1 := by
  unfold putK
  split
  · rw [List.length_map]; omega
  · rw [List.length_append, List.length_cons, List.length_nil]; omega
theorem RelO.isSome_eq {o : Option V} {u : Option Value} (r : RelO o u) : o.isSome = u.isSome := by
  cases o with
  | none => cases u with
    | none => rfl
    | some _ => exact (show False from r).elim
  | some _ => cases u with
    | none => exact (show False from r).elim
    | some _ => rfl
theorem RelO.getD {o : Option V} {u : Option Value} {d : V} {d' : Value} (r : RelO o u) (rd : RelV d d') : RelV (o.getD d) (u.getD d') := by
  cases o with
  | none => cases u with
    | none => exact rd
    | some _ => exact (show False from r).elim
  | some _ => cases u with
    | none => exact (show False from r).elim
    | some _ => exact r

theorem KV.val {kvs : List (κ × V)} {vs : List (κ × Value)} (r : KV kvs vs) (k : κ) : RelO (valV kvs k) (valueAt vs k) := by
  unfold KV at r
  induction r with
  | nil => exact True.intro
  | @cons p q ps qs h t ih =>
    obtain ⟨h1, h2⟩ := h
    by_cases e : p.1 = k
    · have e' : q.1 = k := h1.symm.trans e
      have b : valueAt (q :: qs) k = some q.2 := by simp [valueAt, List.find?_cons, e']
      rw [valV_pos e, b]; exact h2
    · have e' : ¬ q.1 = k := fun z => e (h1.trans z)
      have b : valueAt (q :: qs) k = valueAt qs k := by simp [valueAt, List.find?_cons, e']
      rw [valV_neg e, b]; exact ih
theorem KV.any {kvs : List (κ × V)} {vs : List (κ × Value)} (r : KV kvs vs) (k : κ) : (kvs.any fun kv => decide (kv.1 = k)) = vs.any fun kv => decide (kv.1 = k) := by
  unfold KV at r
  induction r with
  | nil => rfl
  | cons h t ih => rw [List.any_cons, List.any_cons, ih, h.1]
theorem KV.repl {kvs : List (κ × V)} {vs : List (κ × Value)} (r : KV kvs vs) (k : κ) {y : V} {u : Value} (ry : RelV y u) :
    KV (kvs.map fun kv => if kv.1 = k then (kv.1, y) else kv) (vs.map fun kv => if kv.1 = k then (kv.1, u) else kv) := by
  unfold KV at r ⊢
  induction r with
  | nil => exact .nil
  | @cons p q ps qs h t ih =>
    rw [List.map_cons, List.map_cons]
    refine .cons ?_ ih
    obtain ⟨h1, h2⟩ := h
    by_cases e : p.1 = k
    · rw [if_pos e, if_pos (h1.symm.trans e)]; exact ⟨h1, ry⟩
    · rw [if_neg e, if_neg (fun z => e (h1.trans z))]; exact ⟨h1, h2⟩
theorem KV.put {kvs : List (κ × V)} {vs : List (κ × Value)} (r : KV kvs vs) (k : κ) {y : V} {u : Value} (ry : RelV y u) : KV (putK kvs k y) (stored vs k u) := by
  unfold putK stored
  rw [r.any k]
  by_cases e : (vs.any fun kv => decide (kv.1 = k)) = true
  · rw [if_pos e, if_pos e]; exact r.repl k ry
  · rw [if_neg e, if_neg e]; exact Paired.snoc r ⟨rfl, ry⟩
theorem KV.keys {kvs : List (κ × V)} {vs : List (κ × Value)} (r : KV kvs vs) : kvs.map (·.1) = vs.map (·.1) := by
  unfold KV at r
  induction r with
  | nil => rfl
  | cons h t ih => rw [List.map_cons, List.map_cons, ih, h.1]
theorem KV.length {kvs : List (κ × V)} {vs : List (κ × Value)} (r : KV kvs vs) : kvs.length = vs.length := Paired.length r
end


theorem kV_is {P : Program} {w : World} {k : Key} {u : Value} (r : RelV (kV k) u) : (mixKind P w).is k u = true := by
  cases k with
  | inl i => obtain ⟨t, e⟩ := (show ∃ t, u = Value.int i t from r); subst e; exact mixKind_int P w i t
  | inr x => obtain ⟨t, e⟩ := (show ∃ t, u = Value.str x t from r); subst e; exact mixKind_str P w x t
theorem items_are {P : Program} {w : World} : ∀ {ks : List Key} {us : List Value}, Vals (ks.map kV) us → ItemsAre (mixKind P w) ks us
  | [], _, r => by rw [List.map_nil] at r; cases r; exact .nil
  | k :: ks, _, r => by
    rw [List.map_cons] at r
    cases r with
    | cons h t => exact .cons (kV_is h) (items_are t)

abbrev KT (H : Hp) : List (List Key × V) → List (List Key × Addr × Value) → Prop := Paired fun p q => p.1 = q.1 ∧ H q.2.1 = some (.tup (p.1.map kV)) ∧ RelV p.2 q.2.2
theorem KT.val {H : Hp} {kvs : List (List Key × V)} {xs : List (List Key × Addr × Value)} (r : KT H kvs xs) (k : List Key) : RelO (valV kvs k) ((atKey xs k).map (·.2)) := by
  induction r with
  | nil => exact True.intro
  | @cons p q ps qs h t ih =>
    obtain ⟨h1, _, h2⟩ := h
    by_cases e : p.1 = k
    · have e' : q.1 = k := h1.symm.trans e
      have b : atKey (q :: qs) k = some q.2 := by simp [atKey, List.find?_cons, e']
      rw [valV_pos e, b]; exact h2
    · have e' : ¬ q.1 = k := fun z => e (h1.trans z)
      have b : atKey (q :: qs) k = atKey qs k := by simp [atKey, List.find?_cons, e']
      rw [valV_neg e, b]; exact ih
theorem KT.repl {H : Hp} {kvs : List (List Key × V)} {xs : List (List Key × Addr × Value)} (r : KT H kvs xs) (k : List Key) {y : V} {u : Value} (ry : RelV y u) :
    KT H (kvs.map fun kv => if kv.1 = k then (kv.1, y) else kv) (xs.map (putAt k u)) := by
  induction r with
  | nil => exact .nil
  | @cons p q ps qs h t ih =>
    rw [List.map_cons, List.map_cons]
    refine .cons ?_ ih
    obtain ⟨h1, h2, h3⟩ := h
    unfold putAt
    by_cases e : p.1 = k
    · rw [if_pos e, if_pos (h1.symm.trans e)]; exact ⟨h1, h2, ry⟩
    · rw [if_neg e, if_neg (fun z => e (h1.trans z))]; exact ⟨h1, h2, h3⟩
theorem KT.put {H : Hp} {kvs : List (List Key × V)} {xs : List (List Key × Addr × Value)} (r : KT H kvs xs) (k : List Key) {b : Addr} {y : V} {u : Value} (hb : H b = some (.tup (k.map kV))) (ry : RelV y u) :
    KT H (putK kvs k y) (storedH xs k b u) := by
  have e : (kvs.any fun kv => decide (kv.1 = k)) = (atKey xs k).isSome := by
    rw [valV_any, (r.val k).isSome_eq, Option.isSome_map]
  unfold putK storedH
  rw [e]
  by_cases q : (atKey xs k).isSome = true
  · rw [if_pos q, if_pos q]; exact r.repl k ry
  · rw [if_neg q, if_neg q]; exact Paired.snoc r ⟨rfl, hb, ry⟩
theorem KT.keeps {H H' : Hp} {kvs : List (List Key × V)} {xs : List (List Key × Addr × Value)} (r : KT H kvs xs) (ht : ∀ b ys, H b = some (.tup ys) → H' b = some (.tup ys)) : KT H' kvs xs :=
  Paired.mapP r fun _ _ z => ⟨z.1, ht _ _ z.2.1, z.2.2⟩

section
variable {P : Program} {w : World} {H : Hp} {h : Heap} {a : Addr}
theorem rd_of {u : HO} (ok : HOk P w H h) (e : Rd H a u) : ObjOk P w H h a u := e.ok ok
theorem dk_rd {kvs : List (Key × V)} (ok : HOk P w H h) (e : Rd H a (.dK kvs)) : kvs.length ≤ sizeLine ∧ (a == sysModules) = false ∧ ∃ vs, KV kvs vs ∧ h.DictOf (mixKind P w) a vs :=
  show ObjOk P w H h a (.dK kvs) from rd_of ok e
theorem dk_of {kvs : List (Key × V)} (ok : HOk P w H h) (e : H a = some (.dK kvs)) : kvs.length ≤ sizeLine ∧ (a == sysModules) = false ∧ ∃ vs, KV kvs vs ∧ h.DictOf (mixKind P w) a vs := dk_rd ok (.inl e)
theorem key_of {ks : List Key} (ok : HOk P w H h) (e : H a = some (.tup (ks.map kV))) : (tupleKind (mixKind P w)).is h ks a := by
  obtain ⟨_, its, r, o, h1, h2, n, h3⟩ := (show ObjOk P w H h a (.tup (ks.map kV)) from ok a _ e)
  exact ⟨o, its.toArray, n, h1, h2, h3, by simpa using items_are r⟩
theorem dt_rd {kvs : List (List Key × V)} (ok : HOk P w H h) (e : Rd H a (.dT kvs)) : kvs.length ≤ sizeLine ∧ (a == sysModules) = false ∧
    ∃ xs, KT H kvs xs ∧ h.DictOfH (tupleKind (mixKind P w)) a xs := by
  obtain ⟨z, y, xs, r, o, es, ep, h1, h2, h3, h4, h5⟩ := (show ObjOk P w H h a (.dT kvs) from rd_of ok e)
  refine ⟨z, y, xs, r, o, es, ep, h1, h2, h3, h4, fun x hx => ?_, h5⟩
  have all : ∀ {l : List (List Key × V)} {m : List (List Key × Addr × Value)}, KT H l m → ∀ x ∈ m, (tupleKind (mixKind P w)).is h x.1 x.2.1 := by
    intro l m q
    induction q with
    | nil => intro x hx; exact nomatch hx
    | @cons p q ps qs hq t ih =>
      intro x hx
      rcases List.mem_cons.mp hx with e | hx
      · subst e
        exact key_of ok (by rw [← hq.1]; exact hq.2.1)
      · exact ih x hx
  exact all r x hx
theorem dt_of {kvs : List (List Key × V)} (ok : HOk P w H h) (e : H a = some (.dT kvs)) : kvs.length ≤ sizeLine ∧ (a == sysModules) = false ∧
    ∃ xs, KT H kvs xs ∧ h.DictOfH (tupleKind (mixKind P w)) a xs := dt_rd ok (.inl e)
end

def DGet (H : Hp) (a : Addr) (y : V) (r : Option V) : Prop :=
  (∃ kvs k, Rd H a (.dK kvs) ∧ y = kV k ∧ r = valV kvs k) ∨ ∃ kvs k b, Rd H a (.dT kvs) ∧ y = .ref b ∧ H b = some (.tup (k.map kV)) ∧ r = valV kvs k
def DPut (H : Hp) (a : Addr) (y v : V) (H' : Hp) : Prop :=
  (∃ kvs k, H a = some (.dK kvs) ∧ y = kV k ∧ kvs.length < sizeLine ∧ H' = upd H a (.dK (putK kvs k v))) ∨
  ∃ kvs k b, H a = some (.dT kvs) ∧ y = .ref b ∧ H b = some (.tup (k.map kV)) ∧ kvs.length < sizeLine ∧ H' = upd H a (.dT (putK kvs k v))
theorem DPut.k {H : Hp} {a : Addr} {kvs : List (Key × V)} {k : Key} {v : V} (e : H a = some (.dK kvs)) (hl : kvs.length < sizeLine) : DPut H a (kV k) v (upd H a (.dK (putK kvs k v))) := .inl ⟨kvs, k, e, rfl, hl, rfl⟩
section
variable {X : Cx} {pins : List (Addr × Obj)} {σ : St} {H : Hp} {s : Shared} {a : Addr} {y v : V} {u r : Value} {o : Option V} {A : Around} {E : Value → Shared → Prop}

theorem Inv.big (I : Inv X pins σ H s) : sysModules < s.heap.objs.size := by
  have h : mainGlobals < s.heap.objs.size := (I.mod.glob.keeps I.bk).lt
  exact Nat.lt_trans (by decide) h

theorem d_getItem {Q : Value → Shared → Prop} (hu : A.units + 1 < cLine) (I : Inv X pins σ H s) (g : DGet H a y (some v)) (ry : RelV y u) (h : ∀ w' s', Inv X pins σ H s' → RelV v w' → Q w' s') :
    wpAny (model X.prog X.w) A (getItem (.ref a) u) Q E s := by
  rcases g with ⟨kvs, k, e, ey, l⟩ | ⟨kvs, k, b, e, ey, eb, l⟩
  · subst ey
    obtain ⟨z, hd, vs, rel, dd⟩ := dk_rd I.hok e
    obtain ⟨w', hw, rw'⟩ := RelO.some_of (v := v) (o := valueAt vs k) (by rw [l]; exact rel.val k)
    exact wpAny_getItem_of (kV_is ry) dd.mapOf hw (h w' _ (I.tok _) rw')
  · subst ey
    cases (show u = Value.ref b from ry)
    obtain ⟨z, hd, xs, rel, dd⟩ := dt_rd I.hok e
    obtain ⟨w', hw, rw'⟩ := RelO.some_of (v := v) (o := (atKey xs k).map (·.2)) (by rw [l]; exact rel.val k)
    obtain ⟨p, hp, hp2⟩ := Option.map_eq_some_iff.mp hw
    refine wpAny_getItem_heap (tupleKind_room_in1 hu) (key_of I.hok eb) dd hp ?_
    rw [hp2]
    exact h w' _ (I.tok _) rw'
theorem d_write {h' : Heap} {t' : Nat} {ob : HO} (I : Inv X pins σ H s) (mu : Mut (H a)) (hs : Heap.SameBut a s.heap h') (he : ∃ q, h'.get? a = some q) (new : ObjOk X.prog X.w (upd H a ob) h' a ob) :
    Inv X pins σ (upd H a ob) { s with heap := h', toks := t' } :=
  I.write (x := a) (e := a) mu (.inl rfl) (fun b q hb z => (hs.2 b hb).trans z) he new
theorem dk_new {P : Program} {w : World} {H' : Hp} {h' : Heap} {kvs : List (Key × V)} {vs : List (Key × Value)} (z : kvs.length ≤ sizeLine) (hd : (a == sysModules) = false) (rel : KV kvs vs) (dd : h'.DictOf (mixKind P w) a vs) :
    ObjOk P w H' h' a (.dK kvs) := ⟨z, hd, vs, rel, dd⟩
theorem d_setItem {H' : Hp} {Q : Unit → Shared → Prop} (hu : A.units + 1 < cLine) (I : Inv X pins σ H s) (g : DPut H a y v H') (ry : RelV y u) (rv : RelV v r) (h : ∀ s', Inv X pins σ H' s' → Q () s') :
    wpAny (model X.prog X.w) A (setItem (.ref a) u r) Q E s := by
  rcases g with ⟨kvs, k, e, ey, l, eH⟩ | ⟨kvs, k, b, e, ey, eb, l, eH⟩
  · subst ey eH
    obtain ⟨z, hd, vs, rel, dd⟩ := dk_of I.hok e
    have hz : vs.length ≤ sizeLine := by rw [← rel.length]; exact z
    have hl : (putK kvs k v).length ≤ sizeLine := by have := length_putK kvs k v; omega
    refine wpAny_setItem_pairs (hsz := hz) (kV_is ry) dd fun h' dd' hs => h _ ?_
    have he : ∃ q, h'.get? a = some q := let ⟨q, _, _, hq, _⟩ := dd'; ⟨q, hq⟩
    exact d_write I (by rw [e]; exact True.intro) hs he (dk_new hl hd (rel.put k rv) dd')
  · subst ey eH
    cases (show u = Value.ref b from ry)
    obtain ⟨z, hd, xs, rel, dd⟩ := dt_of I.hok e
    have hz : xs.length ≤ sizeLine := by rw [← Paired.length rel]; exact z
    have hl : (putK kvs k v).length ≤ sizeLine := by have := length_putK kvs k v; omega
    refine wpAny_setItem_heap (hsz := hz) (tupleKind_room_in1 hu) (key_of I.hok eb) dd fun h' dd' hs => h _ ?_
    obtain ⟨q, es, ep, hq, h2, h3, h4, _, h5⟩ := dd'
    refine d_write I (by rw [e]; exact True.intro) hs ⟨q, hq⟩ ⟨hl, hd, _, (rel.put k eb rv).keeps fun c ys ec => ?_, q, es, ep, hq, h2, h3, h4, h5⟩
    rw [upd_ne (ne_of ec e (fun z => nomatch z))]
    exact ec
end

section
variable {X : Cx} {pins : List (Addr × Obj)} {σ : St} {H : Hp} {s : Shared} {a : Addr} {kvs : List (Key × V)} {k : Key} {u : Value} {A : Around} {E : Value → Shared → Prop}
end


def NoSl (i : Expr) : Prop := ∀ ov iv, subscripted i false ov iv = operate [ov, iv] (getItem ov iv)
theorem subD_of {prog : Program} {w : World} {A : Around} {E : Value → Shared → Prop} {s : Shared} {env : Env} {value slice : Expr} {pos : Pos} {T id : String} {Q : Value → Shared → Prop}
    (hl : typeLookup (.type T) "__getitem__" = pure (some (.builtin id))) (hs : NoSl slice)
    (h : wpAny (model prog w) A (eval value env) (fun o s₁ => wpAny (model prog w) A (eval slice env) (fun i s₂ => s₂.TypeIs o T ∧ wpAny (model prog w) A (getItem o i) Q E s₂) E s₁) E s) :
    wpAny (model prog w) A (eval (.Subscript value slice pos) env) Q E s := by
  refine Subscript_ (wpAny_mono h (fun o s₁ h₁ => wpAny_mono h₁ (fun i s₂ h₂ => ?_) fun _ _ x => x) fun _ _ x => x)
  obtain ⟨hT, h₂⟩ := h₂
  unfold subscriptTail
  refine wpAny_bind ?_
  rw [getitemInPython_of_ne hT.not_modules]
  refine wpAny_bind (wpAny_specialOf hT hl ?_)
  have fin : wpAny (model prog w) A (subscripted slice false o i) (fun r s₃ => wpAny (model prog w) A (letTemporaryGo value o r >>= fun _ => pure r) Q E s₃) E s₂ := by
    rw [hs o i]
    exact wpAny_operating (wpAny_mono h₂ (fun r s₃ h₃ => wpAny_bind (wpAny_letTemporaryGo (wpAny_pure h₃))) fun _ _ x => x)
  first
    | exact wpAny_pure (wpAny_bind fin)
    | exact wpAny_bind (wpAny_pure (wpAny_bind fin))
    | exact wpAny_bind fin

theorem dict_typeIs {X : Cx} {pins : List (Addr × Obj)} {σ : St} {H : Hp} {s : Shared} {a : Addr} {y : V} {o : Option V} (I : Inv X pins σ H s) (g : DGet H a y o) : s.TypeIs (.ref a) "dict" := by
  rcases g with ⟨kvs, k, e, _, _⟩ | ⟨kvs, k, b, e, _, _, _⟩
  · obtain ⟨_, _, vs, _, dd⟩ := dk_rd I.hok e
    exact dd.typeIs
  · obtain ⟨_, _, xs, _, dd⟩ := dt_rd I.hok e
    exact dd.typeIs
def tDGet (td ty : TE) : TE := fun σ H Q => td σ H fun x H1 => ty σ H1 fun y H2 => ∃ a v, x = .ref a ∧ DGet H2 a y (some v) ∧ Q v H2
def sDPut (td ty tv : TE) : TS := fun D σ H => tv σ H fun v H1 => td σ H1 fun x H2 => ty σ H2 fun y H3 => ∃ a H4, x = .ref a ∧ DPut H3 a y v H4 ∧ D.nx σ H4
section
variable {X : Cx} {o i e value : Expr} {pos pos' tpos : Pos} {td ty tv : TE}
theorem pe_dget (hu : X.A.units + 1 < cLine) (ho : PE X o td) (hi : PE X i ty) (hs : NoSl i) : PE X (.Subscript o i pos) (tDGet td ty) := by
  intro pins s σ H Q I h
  refine subD_of PySem.F.slot_dict_getitem.lookup hs (thn (ho pins s σ H _ I h) fun u s1 ⟨x, H1, I1, rx, q1⟩ => thn (hi pins s1 σ H1 _ I1 q1) fun iv s2 ⟨y, H2, I2, ry, a, v, ex, g, q2⟩ => ?_)
  subst ex
  obtain rfl : u = Value.ref a := rx
  exact ⟨dict_typeIs I2 g, d_getItem hu I2 g ry fun w' s3 I3 rw' => ⟨v, H2, I3, rw', q2⟩⟩
theorem ps_dput (hu : X.A.units + 1 < cLine) (ho : PE X o td) (hi : PE X i ty) (hv : PE X value tv) (hs : swapsWith value (some (.Subscript o i pos')) pos.line X.env = pure false) :
    PS X (.Assign [.Subscript o i pos'] value pos) (sDPut td ty tv) := by
  intro pins s σ H D I h
  refine wpAny_Assign_Subscript (thn (hv pins s σ H _ I h) fun r s1 ⟨v, H1, I1, rv, q1⟩ => thn (ho pins s1 σ H1 _ I1 q1) fun u s2 ⟨x, H2, I2, rx, q2⟩ => thn (hi pins s2 σ H2 _ I2 q2) fun iv s3 ⟨y, H3, I3, ry, a, H4, ex, g, q3⟩ => ?_) hs
  subst ex
  obtain rfl : u = Value.ref a := rx
  exact d_setItem hu I3 g ry rv fun s4 I4 => ⟨σ, H4, I4, q3⟩
end


theorem dk_empty {P : Program} {w : World} {H : Hp} (h : Heap) (hb : sysModules < h.objs.size) : ObjOk P w H (h.push { cls := .type "dict", data := .dict #[] }) h.objs.size (.dK []) :=
  ⟨Nat.zero_le _, beq_eq_false_iff_ne.mpr (Ne.symm (Nat.ne_of_lt hb)), [], .nil, Heap.DictOf.new h⟩
def tDNewK : TE := fun _ H Q => ∀ p, H p = none → Q (.ref p) (upd H p (.dK []))
section
variable {X : Cx} {pos : Pos}
theorem pe_dnewK : PE X (.Dict [] [] pos) tDNewK := fun pins s σ H Q I h =>
  wpAny_Dict_empty ⟨.ref s.heap.objs.size, _, I.laid (a := s.heap.objs.size) (o := .dK []) (t' := s.toks) (fun _ _ q => Heap.get?_push_of_some _ q) (Nat.le_refl _) (dk_empty s.heap I.big), rfl, h _ (I.hok.fresh (Nat.le_refl _))⟩
end

structure M1 (X : Cx) (o : Expr) (m : Str) (apos : Pos) (e : Expr) (cpos : Pos) : Prop where
  base : attributeBase o m X.env (eval o X.env) = eval o X.env
  few : ((backTo cpos (starEach [e] X.env)).all (fun x => !x.1) && (backToKw cpos (keywordEach [] X.env)).all (fun x => x.1.isSome)
    && decide (([e] : List Expr).length + ([] : List Keyword).length + (if ([] : List Keyword).isEmpty then 0 else 1) < 30)) = true
  line : (apos.endLine == cpos.line) = true
  trees : backTo cpos (starEach [e] X.env) = [(false, eval e X.env)]
structure M2 (X : Cx) (o : Expr) (m : Str) (apos : Pos) (e f : Expr) (cpos : Pos) : Prop where
  base : attributeBase o m X.env (eval o X.env) = eval o X.env
  few : ((backTo cpos (starEach [e, f] X.env)).all (fun x => !x.1) && (backToKw cpos (keywordEach [] X.env)).all (fun x => x.1.isSome)
    && decide (([e, f] : List Expr).length + ([] : List Keyword).length + (if ([] : List Keyword).isEmpty then 0 else 1) < 30)) = true
  line : (apos.endLine == cpos.line) = true
  trees : backTo cpos (starEach [e, f] X.env) = [(false, eval e X.env), (false, eval f X.env)]

def IsD (H : Hp) (a : Addr) : Prop := (∃ kvs, Rd H a (.dK kvs)) ∨ ∃ kvs, Rd H a (.dT kvs)
theorem isD_at {X : Cx} {pins : List (Addr × Obj)} {σ : St} {H : Hp} {s : Shared} {a : Addr} (I : Inv X pins σ H s) (d : IsD H a) :
    s.TypeIs (.ref a) "dict" ∧ (∀ b, Value.ref a = .ref b → ∃ ob, s.heap.get? b = some ob ∧ ob.dict = none) ∧ (a == sysModules) = false := by
  rcases d with ⟨kvs, e⟩ | ⟨kvs, e⟩
  · obtain ⟨_, hd, vs, _, dd⟩ := dk_rd I.hok e
    refine ⟨dd.typeIs, fun b q => ?_, hd⟩
    cases q
    obtain ⟨ob, _, _, h1, h2, _⟩ := dd
    exact ⟨ob, h1, h2.2.1⟩
  · obtain ⟨_, hd, xs, _, dd⟩ := dt_rd I.hok e
    refine ⟨dd.typeIs, fun b q => ?_, hd⟩
    cases q
    obtain ⟨ob, _, _, h1, h2, _⟩ := dd
    exact ⟨ob, h1, h2.2.1⟩

section
variable {X : Cx} {pins : List (Addr × Obj)} {σ : St} {H : Hp} {s : Shared} {a : Addr} {y d : V} {u r : Value} {o : Option V} {A : Around} {E : Value → Shared → Prop}
theorem d_get2 {Q : Value → Shared → Prop} (hu : A.units + 1 < cLine) (I : Inv X pins σ H s) (g : DGet H a y o) (ry : RelV y u) (rd : RelV d r) (h : ∀ w' s', Inv X pins σ H s' → RelV (o.getD d) w' → Q w' s') :
    wpAny (model X.prog X.w) A (call (.builtin "dict.get") [.ref a, u, r]) Q E s := by
  rcases g with ⟨kvs, k, e, ey, l⟩ | ⟨kvs, k, b, e, ey, eb, l⟩
  · subst ey
    obtain ⟨z, hd, vs, rel, dd⟩ := dk_rd I.hok e
    refine call_meetsIn PySem.F.slot_dict_get dd.typeIs PySem.F.entry_dict_get (PySem.F.args_dict_get_3 _ _ _) (meets_dict_get_default (mixKind X.prog X.w) a (kV_is ry) hd r) ⟨_, dd.mapOf, h _ _ (I.tok _) ?_⟩
    rw [l]
    exact (rel.val k).getD rd
  · subst ey
    cases (show u = Value.ref b from ry)
    obtain ⟨z, hd, xs, rel, dd⟩ := dt_rd I.hok e
    refine call_meetsIn PySem.F.slot_dict_get dd.typeIs PySem.F.entry_dict_get (PySem.F.args_dict_get_3 _ _ _) (meetsH_dict_get_default (tupleKind (mixKind X.prog X.w)) a b hd r) ⟨tupleKind_room_in1 hu, k, xs, key_of I.hok eb, dd, h _ _ (I.tok _) ?_⟩
    rw [l]
    exact (rel.val k).getD rd
end

def tDGet2 (td ty tx : TE) : TE := fun σ H Q => td σ H fun x H1 => ∃ a, x = .ref a ∧ IsD H1 a ∧ ty σ H1 fun y H2 => tx σ H2 fun z H3 => ∃ o, DGet H3 a y o ∧ Q (o.getD z) H3
section
variable {X : Cx} {o e f : Expr} {apos cpos : Pos} {td ty tx : TE}
theorem pe_dget2 (hu : X.A.units + 1 < cLine) (ho : PE X o td) (he : PE X e ty) (hf : PE X f tx) (m : M2 X o "get" apos e f cpos) : PE X (.Call (.Attribute o "get" apos) [e, f] [] cpos) (tDGet2 td ty tx) := by
  intro pins s σ H Q I h
  refine wpAny_Call_method m.base m.few m.line PySem.F.plainAttrs_dict PySem.F.slot_dict_get PySem.F.type_dict_get (thn (ho pins s σ H _ I h) fun u s1 ⟨x, H1, I1, rx, a, ex, d, q1⟩ => ?_)
  subst ex
  obtain rfl : u = Value.ref a := rx
  obtain ⟨t1, t2, _⟩ := isD_at I1 d
  refine ⟨t1, t2, ?_⟩
  rw [m.trees]
  refine Calls.callWith_builtin rfl (Calls.evalArgs_plain (Calls.spliced_cons (thn (he pins s1 σ H1 _ I1 q1) fun iv s2 ⟨y, H2, I2, ry, q2⟩ =>
    Calls.spliced_cons (thn (hf pins s2 σ H2 _ I2 q2) fun fv s3 ⟨z, H3, I3, rz, ov, g, q3⟩ => Calls.spliced_nil ?_))))
  exact d_get2 hu I3 g ry rz fun w' s4 I4 rw' => ⟨_, H3, I4, rw', q3⟩
end

section
variable {X : Cx} {pins : List (Addr × Obj)} {σ : St} {H : Hp} {s : Shared} {a : Addr} {kvs : List (Key × V)} {A : Around} {E : Value → Shared → Prop}
end


section
variable {X : Cx} {pins : List (Addr × Obj)} {σ : St} {H : Hp} {s : Shared} {a : Addr} {y : V} {u : Value} {A : Around} {E : Value → Shared → Prop}
end
end L2


namespace Att
open PySem PySem.W PySem.Calls PyProof.Rows

theorem ints_of_wellAll {P : Params} {h : Heap} : ∀ (ns : List Int) (vs : List Value), WellAll P h vs (ns.map WData.int) → IntsAre vs ns := by
  intro ns
  induction ns with
  | nil =>
    intro vs w
    rw [List.map_nil] at w
    cases w
    exact .nil
  | cons n ns ih =>
    intro vs w
    rw [List.map_cons] at w
    cases w with
    | cons a b =>
      cases a
      exact .cons _ _ (ih _ b)

theorem script_of {l : OpenLaw} {n : Nat} (hn : l.most = some n) {P : Params} {h : Heap} {args : List WData} {vals : List Value}
    (hpre : l.row.toRowW.claim.pre args = true) (hwl : WellAll P h vals args) :
    ∃ a vs ns, vals = [Value.ref a] ∧ args = [WData.list (ns.map WData.int)] ∧ h.get? a = some { cls := .type "list", data := .seq vs.toArray } ∧ IntsAre vs ns ∧ ns.length ≤ n := by
  have hsh : WShape.hasAll [] args [.list .int] = true := (pre_splitW hpre).1
  have hc : l.pre.holds [] { args := args } = true := (pre_splitW hpre).2
  obtain ⟨d, r, rfl, h1, h2⟩ := hasAllW_cons hsh
  obtain rfl := hasAllW_nil h2
  obtain ⟨xs, rfl, h3⟩ := hasW_list h1
  obtain ⟨ns, rfl⟩ := items_int h3
  have hlen : ns.length ≤ n := by
    unfold OpenLaw.pre at hc
    have h4 : (WTm.not (.lt (.lit (.int (n : Int))) (.len (.arg 0)))).holds [] { args := [.list (ns.map .int)] } = true := by
      have h4 := (holds_andW hc).1
      rw [hn] at h4
      exact h4
    have h5 := condW_of h4 (w_not (w_lt w_lit (w_len_list (w_arg rfl))))
    rw [List.length_map] at h5
    refine Nat.le_of_not_lt fun q => ?_
    have q' : (n : Int) < ((ns.length : Nat) : Int) := by omega
    first
      | (rw [decide_eq_true q'] at h5; exact absurd h5 (by decide))
      | (simp at h5; omega)
  cases hwl with
  | cons w1 w2 =>
    cases w2
    cases w1 with
    | list ho hall => exact ⟨_, _, ns, rfl, rfl, ho, ints_of_wellAll ns _ hall, hlen⟩

theorem post_true (l : OpenLaw) (args : List WData) : l.row.toRowW.claim.post args (.bool true) args = true :=
  postW_of (r := l.row.toRowW) (X := (true == true))
    (show WShape.has [] (.bool true) .bool = true by first | rfl | decide | simp [WShape.has, WShape.arms, WShape.armsAll])
    (show (WTm.eq .res (.lit (.bool true))).value [] { args := args, res := some (.bool true), after := args } = some (.bool (true == true)) from w_eq_bool (w_res rfl) w_lit) rfl

theorem attach_call {l : OpenLaw} {n : Nat} {q : Program} {loose : List Str} {XP : (Str → Option Value) → Heap → Prop} {YP : World → Heap → Prop} {d : DefRec}
    (hn : l.most = some n) (hdf : d.params.defaults = [])
    (call : ∀ (w : World) (s₀ s₁ : Shared) (mg mb : Str → Option Value) (fa : Addr) (o : Obj) (pm cd doc : Value) (a : Addr) (vs : List Value) (ns : List Int),
      Ground q loose [] XP w s₀ mg mb s₁.heap → YP w s₁.heap →
      s₁.heap.get? fa = some o → o.data = .func (docDef d.name d.params d.body d.scope pm cd doc) → s₁.heap.CodeRec cd d.name → mg d.name = some (.ref fa) →
      s₁.heap.get? a = some { cls := .type "list", data := .seq vs.toArray } → IntsAre vs ns → ns.length ≤ n → s₁.gens = #[] →
      codeAny (model l.prog w) callerA (.call (.ref fa) ⟨[.ref a], []⟩) (fun r s' => r = .ok (.ret (.bool true)) ∧ OldK s₁.heap s'.heap ∧ s'.os = s₁.os ∧ AllBare s'.gens) s₁) :
    WalkO q loose XP YP l.row.toRowW d [] (fun f vs => PySem.call f vs) := by
  intro w s₀ s₁ mg mb G Y fa o pm cd doc dV kV ho hd hcd hD hmg hg args vals as hpre hlay hrd hwl hlo
  obtain rfl : dV = .none := Dflts.none hD hdf
  obtain rfl : kV = .none := Dflts.noKw hD
  obtain ⟨a, vs, ns, rfl, rfl, hobj, hints, hlen⟩ := script_of hn hpre hwl
  refine enter_call (codeAny_mono (call w s₀ s₁ mg mb fa o pm cd doc a vs ns G Y ho (fd_plain hd) hcd hmg hobj hints hlen hg) fun r s' hq => ?_)
  obtain ⟨rfl, h2, h3, h4⟩ := hq
  exact ⟨.inl ⟨.bool true, .bool true, [], rfl, fun _ => rfl, .bool true, post_true l _, fun _ => ⟨List.Pairwise.nil, fun _ hm => (nomatch hm)⟩⟩, h2, h3, h4⟩

section
variable {prog : Program} {w : World} {A : Around} {E : Value → Shared → Prop} {s : Shared} {K : Frag}

end
end Att

namespace L2
open PySem PySem.Spec PyProof.Rows

theorem vals_ints : ∀ {vs : List Value} {ns : List Int}, IntsAre vs ns → Vals (ns.map V.int) vs
  | _, _, .nil => .nil
  | _, _, .cons n t h => .cons ⟨t, rfl⟩ (vals_ints h)

def Only (H : Hp) : Prop := ∀ b, H b = none ∨ ∃ o xs, H b = some (.frz o (.lst xs))

theorem law_call {P : Program} {w : World} {K : PySem.W.Frag} {mg mb : Str → Option Value} {CX : CXT} {k : Nat} {fa a : Addr} {fd : FuncData} {x : Str} {sp : Sp} {s₁ : Shared} {vs : List Value} {ns : List Int}
    (KX : K.In s₁.heap) (hns : s₁.heap.Ns mainGlobals mg) (hb : s₁.heap.Ns builtinsNs mb) (hbb : ∀ x : Str, x ≠ "__name__" → mb x = bootBuiltins x) (hlim : s₁.heap.NoLimit) (hg : s₁.gens = #[])
    (ha : s₁.heap.get? a = some { cls := .type "list", data := .seq vs.toArray }) (hi : IntsAre vs ns) (hl : ns.length ≤ sizeLine) (hr : Room k callerA)
    (F : ∀ base : Heap, K.In base → base.Ns mainGlobals mg → FnOk P w K mg base CX k fa fd [x] sp) (hbind : ∀ (s : Shared) (u : Value), BindsTo s fd ⟨[u], []⟩ [(x, u)])
    (hsp : ∀ H : Hp, Only H → SqL K H a (ns.map V.int) → sp [.ref a] H (fun v _ => v = .bl true) fun _ _ _ => False)
    (hCX : ∀ H e s', CX [] H s₁ (fun _ _ _ => False) e s' → False) :
    codeAny (model P w) callerA (.call (.ref fa) ⟨[.ref a], []⟩) (fun r s' => r = .ok (.ret (.bool true)) ∧ OldK s₁.heap s'.heap ∧ s'.os = s₁.os ∧ AllBare s'.gens) s₁ := by
  have rv := vals_ints hi
  have lenV := hi.length
  -- from an abstract heap in which nothing but the script may be tracked
  have core : ∀ H : Hp, Only H → SqL K H a (ns.map V.int) → HOk P w H s₁.heap → (∀ b, H b ≠ none → b = a) → (H a ≠ none → K.lookup a = none) →
      codeAny (model P w) callerA (.call (.ref fa) ⟨[.ref a], []⟩) (fun r s' => r = .ok (.ret (.bool true)) ∧ OldK s₁.heap s'.heap ∧ s'.os = s₁.os ∧ AllBare s'.gens) s₁ := by
    intro H hO hS hok hA hK
    have base_of : ∀ {b : Addr} {o : Obj}, s₁.heap.get? b = some o → H b = none → (hidT s₁.heap H).get? b = some o := fun e n => hidT_get e n
    have noA : ∀ {b : Addr} {o : Obj} {es : Array DictEntry} {ep : Nat}, s₁.heap.get? b = some o → o.data = .dict es ep → H b = none := fun {b o es ep} e d => by
      cases q : H b with
      | none => rfl
      | some u =>
        have e' : b = a := hA b (by rw [q]; simp)
        subst e'
        rw [ha] at e; cases e
        have d' : Data.seq vs.toArray _ = Data.dict es ep := d
        cases d'
    have nsK : ∀ {b : Addr} {m : Str → Option Value}, s₁.heap.Ns b m → (hidT s₁.heap H).Ns b m := fun {b m} ⟨o, es, ep, e, d, r⟩ => ⟨o, es, ep, base_of e (noA e d), d, r⟩
    have hKb : K.In (hidT s₁.heap H) := fun b o e => base_of (KX b o e) (by
      cases q : H b with
      | none => rfl
      | some u =>
        have e' : b = a := hA b (by rw [q]; simp)
        subst e'
        rw [hK (by rw [q]; simp)] at e; cases e)
    have hM : Mod K mg (hidT s₁.heap H) := ⟨hKb, nsK hns, ⟨mb, nsK hb, hbb⟩, let ⟨mc, h1, h2⟩ := hlim; ⟨mc, nsK h1, h2⟩⟩
    have e0 : Env0 P w K mg (hidT s₁.heap H) callerA [] s₁ H := ⟨rfl, hM, fun b o e => of_hidT e, Nat.le_of_eq (hidT_size _ _), trivial, fun b hb => absurd (show b ∈ ([] : List Addr) from hb) (by simp), hok, .of_eq hg⟩
    refine codeAny_mono ((F _ hKb (nsK hns)).run callerA [] s₁ H ⟨[.ref a], []⟩ [.ref a] [.ref a] _ _ hr e0 (hbind s₁ (.ref a)) (.cons rfl .nil) (hsp H hO hS)) fun r s' h => ?_
    cases r with
    | error e => exact (hCX H e s' h).elim
    | ok fl =>
      cases fl with
      | next => exact False.elim h
      | brk => exact False.elim h
      | cont => exact False.elim h
      | ret u =>
        obtain ⟨v, H', os, bare, un, hok', r', q⟩ := h
        have q' : v = .bl true := q
        subst q'
        obtain rfl : u = Value.bool true := r'
        refine ⟨rfl, OldK.of_keep fun b o e => ?_, os, bare⟩
        cases q : H b with
        | none => exact un.keep b o e q (by intro z; exact absurd (show b ∈ ([] : List Addr) from z) (by simp)) (by simp)
        | some u =>
          rcases hO b with z | ⟨ob, xs, z⟩
          · rw [q] at z; cases z
          · have z2 := un.frzs b ob _ z
            obtain ⟨e1, _⟩ := hok b _ z
            obtain ⟨e2, _⟩ := hok' b _ z2
            rw [e] at e1; cases e1
            exact e2
  cases hk : K.lookup a with
  | some o =>
    -- the script is one of the module's own objects
    have e := KX a o hk
    rw [ha] at e
    cases e
    refine core (fun _ => none) (fun _ => .inl rfl) (.inr ⟨_, vs.toArray, _, hk, rfl, rfl, rfl, by rw [List.size_toArray, lenV]; exact hl, by simpa using rv⟩) (fun b u z => by have z' : (none : Option HO) = some u := z; cases z') (fun b z => absurd rfl z) fun z => absurd rfl z
  | none =>
    refine core (fun b => if b = a then some (.frz { cls := .type "list", data := .seq vs.toArray } (.lst (ns.map V.int))) else none) (fun b => ?_) (.inl (.inr ⟨{ cls := .type "list", data := .seq vs.toArray }, if_pos rfl⟩)) (fun b u z => ?_) (fun b z => ?_) fun _ => hk
    · by_cases hb : b = a
      · exact .inr ⟨_, _, if_pos hb⟩
      · exact .inl (if_neg hb)
    · by_cases hb : b = a
      · have z' := (if_pos hb).symm.trans z
        cases z'
        subst hb
        exact ⟨ha, by rw [List.length_map]; exact hl, vs, _, rv, ha⟩
      · have z' := (if_neg hb).symm.trans z
        cases z'
    · by_cases hb : b = a
      · exact hb
      · exact absurd (if_neg hb) z
end L2

namespace L2
open PySem PySem.Spec PyProof.Rows

abbrev KOf {K : PySem.W.Frag} {h : Heap} (_ : K.In h) : PySem.W.Frag := K

theorem walk_of {l : PySem.W.OpenLaw} {n k : Nat} {q : Program} {loose : List Str} {XP : (Str → Option Value) → Heap → Prop} {YP : World → Heap → Prop} {d : DefRec} {K : Params → PySem.W.Frag} {CX : World → CXT} {sp : World → Sp} {x : Str}
    (hn : l.most = some n) (hn2 : n ≤ sizeLine) (hdf : d.params.defaults = []) (hr : Room k callerA)
    (hY : ∀ (w : World) (h : Heap), YP w h → (K w.params).In h)
    (F : ∀ (w : World) (mg : Str → Option Value) (fa : Addr) (h : Heap), (K w.params).In h → h.Ns mainGlobals mg → mg d.name = some (.ref fa) →
      ∃ fd : FuncData, (∀ (s : Shared) (u : Value), BindsTo s fd ⟨[u], []⟩ [(x, u)]) ∧
        ∀ base : Heap, (K w.params).In base → base.Ns mainGlobals mg → FnOk l.prog w (K w.params) mg base (CX w) k fa fd [x] (sp w))
    (hsp : ∀ (w : World) (H : Hp) (a : Addr) (ns : List Int), ns.length ≤ n → Only H → SqL (K w.params) H a (ns.map V.int) → sp w [.ref a] H (fun v _ => v = .bl true) fun _ _ _ => False)
    (hCX : ∀ (w : World) (H : Hp) (s : Shared) (e : Value) (s' : Shared), CX w [] H s (fun _ _ _ => False) e s' → False) :
    PySem.W.WalkO q loose XP YP l.row.toRowW d [] (fun f vs => PySem.call f vs) := by
  refine Att.attach_call hn hdf fun w s₀ s₁ mg mb fa o pm cd doc a vs ns G Y ho hd hcd hmg hobj hints hlen hg => ?_
  have KX := hY w _ Y
  obtain ⟨fd, hb, hF⟩ := F w mg fa _ KX G.T.g hmg
  exact law_call KX G.T.g G.T.b G.T.builtins G.T.nolimit hg hobj hints (Nat.le_trans hlen hn2) hr hF hb (fun H hO hS => hsp w H a ns hlen hO hS) fun H e s' => hCX w H s₁ e s'
end L2


namespace L2
open PySem PySem.Spec PyProof.Rows

def inClass (s : Stmt) (j : Nat) : Stmt := match s with
  | .ClassDef _ _ _ body _ _ _ _ _ _ _ => body.getD j (.Pass ⟨0, 0, 0, 0⟩)
  | _ => .Pass ⟨0, 0, 0, 0⟩
def defArgs (s : Stmt) : Arguments := match s with
  | .FunctionDef _ a _ _ _ _ _ _ _ _ => a
  | _ => { posonlyargs := [], args := [], vararg := none, kwonlyargs := [], kw_defaults := [], kwarg := none, defaults := [] }
def defBody (s : Stmt) : List Stmt := match s with
  | .FunctionDef _ _ b _ _ _ _ _ _ _ => b
  | _ => []
def defScope (s : Stmt) : Scope := match s with
  | .FunctionDef _ _ _ _ _ _ sc _ _ _ => sc
  | _ => { kind := .function, names := [], isGenerator := false, isCoroutine := false }

abbrev CX0 : CXT := fun _ _ _ _ _ _ => False
abbrev E0 : XK := fun _ _ _ => False
theorem pass0 {X : Cx} : Passes CX0 X E0 := fun _ _ _ _ _ _ _ h => h.elim

structure Fun (K : PySem.W.Frag) (x qual : Str) (st : Stmt) (f : Addr) (fd : FuncData) : Prop where
  ex : ∃ (oc : Value) (od : Option Addr) (kV doc pm : Value) (an : Option Addr) (cdv ct : Value) (osl : Array (Option Value)),
    fd = PySem.W.fnOf x qual (defArgs st) (defBody st) (defScope st) .none kV doc pm an cdv ct ∧ K.lookup f = some ⟨oc, od, .func fd, osl⟩ ∧ PySem.W.codeIn K cdv qual = true
  kp : PySem.W.keepIn K (.ref f) = true
section
variable {P : Program} {w : World} {K : PySem.W.Frag} {mg : Str → Option Value} {base : Heap}
theorem Fun.ok {x qual : Str} {st : Stmt} {f : Addr} {fd : FuncData} {N ps : List Str} {k : Nat} {sp : Sp} (F : Fun K x qual st f fd) (S : FnScope N ps (defScope st)) (len : ∀ vs H Q E, sp vs H Q E → vs.length = ps.length)
    (hbody : ∀ (cdv : Value) (A : Around) (outer : List Env) (s : Shared) (H : Hp) (vs : List V) (Q : VK) (E : XK), Room k (A.deeper (envOfC qual (defScope st) s.heap.objs.size f cdv)) → sp vs H Q E →
      ∃ t, PSs (cxOf CX0 P w K mg base N qual (defScope st) f cdv A outer s H E).nox (defBody st) t ∧ t { nx := fun _ H' => Q .non H', rt := Q } (start N vs) H) : FnOk P w K mg base CX0 (k + 1) f fd ps sp := by
  obtain ⟨oc, od, kV, doc, pm, an, cdv, ct, osl, rfl, lk, hcd⟩ := F.ex
  refine fn_of lk hcd S len fun A outer s H vs Q E hr hsp => ?_
  obtain ⟨t, h, q⟩ := hbody cdv A outer s H vs Q E hr hsp
  exact ⟨t, h.nox, q⟩
theorem Fun.binds {x qual : Str} {st : Stmt} {f : Addr} {fd : FuncData} {ps : List Str} (F : Fun K x qual st f fd)
    (h : ∀ (kV doc pm : Value) (an : Option Addr) (cdv ct : Value) (us : List Value), us.length = ps.length → bindArgs (PySem.W.fnOf x qual (defArgs st) (defBody st) (defScope st) .none kV doc pm an cdv ct) ⟨us, []⟩ = pure (ps.zip us)) : Binds K fd ps [] := by
  obtain ⟨oc, od, kV, doc, pm, an, cdv, ct, osl, rfl, lk, hcd⟩ := F.ex
  exact .all (h kV doc pm an cdv ct)
theorem fun_mk {x qual : Str} {st : Stmt} {f : Addr} {oc : Value} {od an : Option Addr} {osl : Array (Option Value)} {kV doc pm cdv ct : Value} (l : K.lookup f = some ⟨oc, od, .func (PySem.W.fnOf x qual (defArgs st) (defBody st) (defScope st) .none kV doc pm an cdv ct), osl⟩)
    (c : PySem.W.codeIn K cdv qual = true) (k : PySem.W.keepIn K (.ref f) = true) : Fun K x qual st f (PySem.W.fnOf x qual (defArgs st) (defBody st) (defScope st) .none kV doc pm an cdv ct) := ⟨⟨oc, od, kV, doc, pm, an, cdv, ct, osl, rfl, l, c⟩, k⟩
end
theorem hu_of {A : Around} {k : Nat} (hr : Room k A) : A.units + 1 < cLine := Nat.lt_of_le_of_lt (Nat.add_le_add_left (by decide : 1 ≤ 64) _) hr.units
theorem small1000 {n : Nat} (h : n ≤ 1000) : n < sizeLine := Nat.lt_of_le_of_lt h (by decide)

section
variable {X : Cx}
theorem pv (i : Nat) {x : Str} {pos : Pos} (hN : X.N[i]? = some x := by rfl) (hv : Vis X.env.scope x := by first | exact Or.inl rfl | exact Or.inr (Or.inl rfl) | exact Or.inr (Or.inr rfl)) (hd : (x == ("__debug__" : Str)) = false := by decide)
    (hcd : (x == ("__classdict__" : Str)) = false := by decide) : PE X (.Name x pos) (tVar i) := pe_var hN hv hd hcd
end

theorem iteF {A B : Prop} (h : B) : if false = true then A else B := by
  rw [if_neg Bool.false_ne_true]
  exact h
theorem iteT {A B : Prop} (h : A) : if true = true then A else B := by
  rw [if_pos rfl]
  exact h
theorem ite2 {c A B : Prop} [Decidable c] (h1 : c → A) (h2 : ¬ c → B) : if c then A else B := by
  by_cases h : c
  · rw [if_pos h]
    exact h1 h
  · rw [if_neg h]
    exact h2 h
theorem iteNS {c A B : Prop} [Decidable c] (hc : c) (h : B) : if (!decide c) = true then A else B := by
  rw [decide_eq_true hc]
  exact iteF h

def Same (H H' : Hp) : Prop := ∀ b o, H b = some o → H' b = some o
theorem Same.refl (H : Hp) : Same H H := fun _ _ h => h
theorem Same.trans {H H1 H2 : Hp} (a : Same H H1) (b : Same H1 H2) : Same H H2 := fun c o h => b c o (a c o h)
theorem Same.free {H H' : Hp} (e : Same H H') {l : Addr} (h : H' l = Option.none) : H l = Option.none := by
  cases q : H l with
  | none => rfl
  | some o =>
    rw [e l o q] at h
    cases h
theorem Same.seq {K : PySem.W.Frag} {H H' : Hp} {a : Addr} {xs : List V} (e : Same H H') (h : SqL K H a xs) : SqL K H' a xs := by
  rcases h with (h | ⟨o, h⟩) | h
  · exact .inl (.inl (e _ _ h))
  · exact .inl (.inr ⟨o, e _ _ h⟩)
  · exact .inr h

end L2

namespace L2
open PySem PySem.Spec PyProof.Rows
section
variable {X : Cx}
end
section
variable {κ : Type} [DecidableEq κ]
end
end L2
end

section
set_option Elab.async false
set_option linter.all false
set_option maxRecDepth 100000
namespace L2
open PySem PySem.Spec PyProof.Rows

def blk (X : Cx) (scope : Scope) (cl : List (Str × Addr)) (C : Addr) (x : Str) (s₀ : Shared) (H₀ : Hp) (fp : List Addr) : Cx :=
  { X with N := x :: X.N, s₀ := s₀, H₀ := H₀, env := compEnvC scope cl C X.env, outer := X.stack, ex := fp, fn := fun _ => false, pn := [], xe := fun _ _ => False }

structure CompOk (X : Cx) (scope : Scope) (x : Str) : Prop where
  kind : scope.kind = .function
  ncell : ∀ y ∈ scope.names, y.2 ≠ .cell
  names : ∀ y ∈ scope.names, y.2 = .local → scope.names.lookup y.1 = some .local
  hx : scope.names.lookup x = some .local
  free : ∀ y ∈ scope.names, y.2 = .free → X.env.kindOf y.1 = some .cell ∨ X.env.kindOf y.1 = some .free
  out : ∀ y ∈ X.N, scope.names.lookup y ≠ some .local
  nd : X.N.Nodup

def compChk (sc : Scope) (N : List Str) (scope : Scope) (x : Str) : Bool :=
  scope.kind == .function && scope.names.all (fun y => y.2 != .cell) && scope.names.all (fun y => y.2 != .local || scope.names.lookup y.1 == some .local) && scope.names.lookup x == some .local &&
  scope.names.all (fun y => y.2 != .free || sc.names.lookup y.1 == some .cell || sc.names.lookup y.1 == some .free) && N.all (fun y => scope.names.lookup y != some .local)
theorem CompOk.of {X : Cx} {scope : Scope} {x : Str} (hN : X.N.Nodup) (h : compChk X.env.scope X.N scope x = true) : CompOk X scope x := by
  unfold compChk at h
  simp only [Bool.and_eq_true, List.all_eq_true, Bool.or_eq_true, bne_iff_ne, beq_iff_eq, ne_eq] at h
  obtain ⟨⟨⟨⟨⟨h1, h2⟩, h3⟩, h4⟩, h5⟩, h6⟩ := h
  refine ⟨h1, fun y hy => h2 y hy, fun y hy e => (h3 y hy).resolve_left fun z => z e, h4, fun y hy e => ?_, fun y hy => h6 y hy, hN⟩
  rcases h5 y hy with (z | z) | z
  · exact absurd e z
  · exact .inl z
  · exact .inr z

theorem lookup_mem' {α : Type} : ∀ {l : List (Str × α)} {x : Str} {a : α}, l.lookup x = some a → (x, a) ∈ l
  | [], _, _, h => by simp at h
  | (y, b) :: r, x, a, h => by
    rw [List.lookup_cons] at h
    split at h
    · rename_i e
      have e' : x = y := by simpa using e
      cases h; subst e'
      exact List.mem_cons_self
    · exact List.mem_cons_of_mem _ (lookup_mem' h)

theorem closure_ok {env : Env} : ∀ (names : List (Str × NameKind)), (∀ y ∈ names, y.2 = .free → ∃ c, env.cells.lookup y.1 = some c) → ∀ acc : List (Str × Addr), (∀ n c, acc.lookup n = some c → env.cells.lookup n = some c) →
    ∃ cl, (forIn names acc (fun (p : Str × NameKind) (cs : List (Str × Addr)) => if (p.2 == NameKind.free) = true then (do let a ← cellOf env p.1; pure (ForInStep.yield ((p.1, a) :: cs))) else (pure (ForInStep.yield cs) : Sem _)) : Sem (List (Str × Addr))) = pure cl ∧
      (∀ n c, cl.lookup n = some c → env.cells.lookup n = some c) ∧ (∀ n, (∃ c, acc.lookup n = some c) → ∃ c, cl.lookup n = some c) ∧ ∀ n, (n, NameKind.free) ∈ names → ∃ c, cl.lookup n = some c
  | [], _, acc, ha => ⟨acc, by simp, ha, fun _ h => h, fun _ h => by simp at h⟩
  | (n, k) :: r, hf, acc, ha => by
    have hr : ∀ y ∈ r, y.2 = .free → ∃ c, env.cells.lookup y.1 = some c := fun y hy => hf y (List.mem_cons_of_mem _ hy)
    by_cases hk : k = .free
    · subst hk
      obtain ⟨c, hc⟩ := hf (n, .free) List.mem_cons_self rfl
      obtain ⟨cl, e, h1, h2, h3⟩ := closure_ok r hr ((n, c) :: acc) (fun n' c' h => by
        rw [List.lookup_cons] at h
        split at h
        · rename_i q
          have q' : n' = n := by simpa using q
          cases h; subst q'; exact hc
        · exact ha n' c' h)
      refine ⟨cl, ?_, h1, fun n' h => h2 n' ?_, fun n' h => ?_⟩
      · rw [List.forIn_cons]
        simp only [beq_self_eq_true, if_true]
        have e2 : cellOf env n = pure c := by unfold cellOf; rw [hc]
        rw [e2]
        simp only [pure_bind]
        exact e
      · obtain ⟨c', hc'⟩ := h
        rw [List.lookup_cons]
        split
        · exact ⟨c, rfl⟩
        · exact ⟨c', hc'⟩
      · rcases List.mem_cons.mp h with q | q
        · refine h2 n' ⟨c, ?_⟩
          cases q
          rw [List.lookup_cons, beq_self_eq_true]
        · exact h3 n' q
    · have hb : (k == NameKind.free) = false := by simpa using hk
      obtain ⟨cl, e, h1, h2, h3⟩ := closure_ok r hr acc ha
      refine ⟨cl, ?_, h1, h2, fun n' h => ?_⟩
      · rw [List.forIn_cons]
        simp only [hb, Bool.false_eq_true, if_false, pure_bind]
        exact e
      · rcases List.mem_cons.mp h with q | q
        · cases q; exact absurd rfl hk
        · exact h3 n' q

theorem lookup_relabel {env : Env} : ∀ {names : List (Str × NameKind)} {x : Str} {k : NameKind},
    (names.map fun (n, k) => if (k == NameKind.free && env.scope.kind == .function && env.kindOf n == some .cell) then (n, NameKind.cell) else (n, k)).lookup x = some k → names.lookup x = some k ∨ (k = .cell ∧ names.lookup x = some .free)
  | [], _, _, h => by simp at h
  | (n, j) :: r, x, k, h => by
    have ih := @lookup_relabel env r x k
    have h' : List.lookup x ((if (j == NameKind.free && env.scope.kind == .function && env.kindOf n == some .cell) = true then (n, NameKind.cell) else (n, j)) :: _) = some k := h
    by_cases hc : (j == NameKind.free && env.scope.kind == .function && env.kindOf n == some .cell) = true
    · rw [if_pos hc] at h'
      cases hx : x == n with
      | true =>
        simp only [List.lookup_cons, hx] at h' ⊢
        cases h'
        have : j = .free := by simp at hc; exact hc.1.1
        exact .inr ⟨rfl, by rw [this]⟩
      | false => simp only [List.lookup_cons, hx] at h' ⊢; exact ih h'
    · rw [if_neg hc] at h'
      cases hx : x == n with
      | true => simp only [List.lookup_cons, hx] at h' ⊢; exact .inl h'
      | false => simp only [List.lookup_cons, hx] at h' ⊢; exact ih h'

theorem compLoop_T {prog : Program} {w : World} {A : Around} {R : Result → Shared → Prop} {s : Shared} {elt target iter : Expr} {ifs : List Expr} {scope : Scope} {pos : Pos} {it acc : Value} {env : Env} (I : Nat → Shared → Prop)
    (turn : ∀ n s, I n s → wpAny (model prog w) A (pyNext it) (fun r s₁ => match r with
      | none => R (.ok .next) s₁
      | some v => wpAny (model prog w) A (letOwnedTupleGo target it v) (fun _ s₀ => wpAny (model prog w) A (assign target env v) (fun _ s₂ =>
          wpAny (model prog w) A (forIn ifs true fun c r => if r = true then do let ok ← isTrue c env (eval c env); pure (ForInStep.yield ok) else pure (ForInStep.yield r)) (fun ok s₃ =>
            if ok = true then wpAny (model prog w) A (eval elt env) (fun x s₄ =>
              wpAny (model prog w) A (call (.builtin "list.append") [acc, x]) (fun _ s₅ => ∃ m, m < n ∧ I m s₅) (fun _ _ => False) s₄) (fun _ _ => False) s₃
            else ∃ m, m < n ∧ I m s₃) (fun _ _ => False) s₂) (fun _ _ => False) s₀) (fun _ _ => False) s₁) (fun _ _ => False) s)
    (n : Nat) (h : I n s) :
    codeAny (model prog w) A (.compLoop (.ListComp elt [⟨target, iter, ifs, 0⟩] scope pos) 0 it acc env) R s := by
  refine codeAny_loop rfl I (fun n s hI => ?_) n h
  show wpAny _ A ((compTurn (.ListComp elt [⟨target, iter, ifs, 0⟩] scope pos) 0 it acc env).onRaise (fun x => do noteFrame x env; theTreesLotGoes x)) _ _ s
  refine wpAny_noted ?_
  rw [compTurn_list]
  refine wpAny_bind (wpAny_standAt (wpAny_bind (wpAny_mono (turn n s hI) (fun r s₁ h₁ => ?_) fun _ _ h' => h'.elim)))
  cases r with
  | none => exact wpAny_pure h₁
  | some v =>
    refine wpAny_bind (wpAny_mono h₁ (fun _ s₀ h₀ => ?_) fun _ _ h' => h'.elim)
    refine wpAny_bind (wpAny_mono h₀ (fun _ s₂ h₂ => wpAny_bind (wpAny_mono h₂ (fun ok s₃ h₃ => ?_) fun _ _ h' => h'.elim)) fun _ _ h' => h'.elim)
    cases ok with
    | false => exact wpAny_pure ⟨rfl, h₃⟩
    | true =>
      exact wpAny_bind (wpAny_bind (wpAny_mono h₃ (fun x s₄ h₄ => wpAny_bind (wpAny_mono h₄ (fun _ s₅ h₅ => wpAny_pure (wpAny_pure ⟨rfl, h₅⟩)) fun _ _ h' => h'.elim)) fun _ _ h' => h'.elim))

def PTs (X : Cx) (ifs : List Expr) (t : TT) : Prop :=
  ∀ (pins : List (Addr × Obj)) (s : Shared) (σ : St) (H : Hp) (Q : Bool → Hp → Prop), Inv X pins σ H s → t σ H Q →
    wpAny (model X.prog X.w) X.A (forIn ifs true fun c r => if r = true then do let ok ← isTrue c X.env (eval c X.env); pure (ForInStep.yield ok) else pure (ForInStep.yield r)) (TP X pins σ Q) X.xe s
def tYes : TT := fun _ H Q => Q true H
theorem pts_nil {X : Cx} : PTs X [] tYes := fun _ _ _ H _ I h => wpAny_tests_nil ⟨H, I, h⟩
theorem pts_one {X : Cx} {c : Expr} {t : TT} (h : PT X c t) : PTs X [c] t := fun pins s σ H Q I q => wpAny_tests_one (h pins s σ H Q I q)

def tComp (wi : TI) (tt : TT) (te : TE) : TE := fun σ H Q => wi σ H fun J H1 => ∀ D, H1 D = none → ∃ W : Nat → Nat → List V → Hp → Prop, (∃ m, W 0 m [] (upd H1 D (.lst []))) ∧
  ∀ i m ys H, W i m ys H → (J.stop i H ∧ Q (.ref D) H) ∨ (J.go i H ∧ ∀ x H', J.yld i H x H' → tt (some x :: σ) H' fun b H2 =>
    if b = true then te (some x :: σ) H2 fun y H3 => H3 D = some (.lst ys) ∧ ys.length < sizeLine ∧ ∃ m', m' < m ∧ W (i + 1) m' (ys ++ [y]) (upd H3 D (.lst (ys ++ [y])))
    else ∃ m', m' < m ∧ W (i + 1) m' ys H2)

theorem pe_comp {X : Cx} {elt iter : Expr} {x : Str} {px : Pos} {ifs : List Expr} {scope : Scope} {pos : Pos} {wi : TI} {tt : TT} {te : TE} (hc : X.calm = true) (ok : CompOk X scope x) (hi : PI X (.Name x px) iter wi)
    (ht : ∀ cl C s₀ H₀ fp, PTs (blk X scope cl C x s₀ H₀ fp) ifs tt) (he : ∀ cl C s₀ H₀ fp, PE (blk X scope cl C x s₀ H₀ fp) elt te)
    (hs : ∀ x, foldedSetIterable iter X.env x = pure x := by intro _; rfl) : PE X (.ListComp elt [⟨.Name x px, iter, ifs, 0⟩] scope pos) (tComp wi tt te) := by
  intro pins s σ H Q I h
  obtain ⟨cl, hcl, hsub, _, hall⟩ := closure_ok (env := X.env) scope.names (fun y hy e => I.ok.has y.1 (ok.free y hy e)) [] (fun _ _ z => by simp at z)
  have hclos : closureFor scope X.env = pure cl := by
    unfold closureFor
    simp only [bind_pure]
    exact hcl
  rw [eval_ListComp]
  refine wpAny_comprehension_free (use := none) (E := X.xe) (cl := cl) rfl hs hclos ok.kind ok.names (thn (hi pins s σ H _ I h) fun v s1 h1 => thn h1 fun itv s2 h2 => ?_)
  obtain ⟨it, fp, tn, J, H2, e, I2, T, st2, f2, R⟩ := h2
  subst e
  obtain ⟨W, ⟨m0, w0⟩, turn⟩ := R s2.heap.objs.size I2.fresh
  refine wpAny_newObj_type (wpAny_newFunctionEnv ok.ncell (by intro y hy; simp at hy) (fun h₁ hns₁ hsb₁ => ?_) ok.kind)
  dsimp only at hns₁ hsb₁ ⊢
  have I3 : Inv X pins σ (upd H2 s2.heap.objs.size (.lst [])) { s2 with heap := s2.heap.push { cls := .type "list", data := .seq ([] : List Value).toArray } } := I2.lnew (t' := s2.toks) (ys := []) (its := []) .nil (Nat.zero_le _)
  generalize hH3 : upd H2 s2.heap.objs.size (HO.lst []) = H3 at *
  generalize hs3 : s2.heap.push { cls := .type "list", data := .seq ([] : List Value).toArray } = hp3 at *
  generalize hD : s2.heap.objs.size = D at *
  generalize hC : hp3.objs.size = C at *
  have hDC : D < C := by rw [← hC, ← hs3, Heap.size_push, hD]; exact Nat.lt_succ_self _
  have old : ∀ b o, hp3.get? b = some o → h₁.get? b = some o := fun b o e => (hsb₁.2 b (by rw [← hC]; exact Nat.ne_of_lt (Heap.lt_size e))).trans (Heap.get?_push_of_some _ e)
  have fpl : ∀ b ∈ fp, b < C := fun b hb => by
    obtain ⟨o, e, _⟩ := T.obj _ _ st2 b hb
    rw [← hC, ← hs3, Heap.size_push]
    exact Nat.lt_succ_of_lt (Heap.lt_size e)
  have f3 : ∀ b ∈ fp, FpOk X pins H3 b := fun b hb => by
    obtain ⟨o, e, _⟩ := T.obj _ _ st2 b hb
    refine ⟨?_, (f2 b hb).2⟩
    rw [← hH3, upd_ne (by rw [← hD]; exact Nat.ne_of_lt (Heap.lt_size e))]
    exact (f2 b hb).1
  have nstk : ∀ b ∈ fp, b ∉ frs X.stack := fun b hb z => by
    obtain ⟨_, g1, g2, _⟩ := f3 b hb
    rcases List.mem_cons.mp (I3.stkSub b z) with q | q
    · exact g1 q
    · exact g2 q
  -- the block's context
  have YOk : (blk X scope cl C x { s2 with heap := hp3 } H3 fp).Ok := by
    refine ⟨I.ok.mod, ?_, I.ok.glob, I.ok.blt, Nat.le_of_eq hC, ?_, ?_, ?_, I.ok.hd, I.ok.frames, .inl rfl, ?_, ?_, ?_, ?_, ?_, ?_, ?_⟩
    · exact ok.kind
    · exact fun a b c h1 h2 => I.ok.inj a b c (hsub a c h1) (hsub b c h2)
    · intro a ha
      refine hall a ?_
      rcases ha with z | z
      · rcases lookup_relabel (env := X.env) z with q | ⟨_, q⟩
        · exact absurd rfl (ok.ncell _ (lookup_mem' q))
        · exact lookup_mem' q
      · rcases lookup_relabel (env := X.env) z with q | ⟨q, _⟩
        · exact lookup_mem' q
        · cases q
    · intro a c hf; cases hf
    · intro b hb
      refine ⟨Nat.ne_of_lt (fpl b hb), fun a c h1 => (f3 b hb).2.2.2.2.1 a c (hsub a c h1)⟩
    · exact I3.bs
    · exact Nat.le_trans I.ok.bsz I3.sz
    · intro b o e hb
      rcases (f3 b hb).2.2.2.1 with z | z
      · exact I.ok.noex b o e z
      · exact absurd (Nat.lt_of_lt_of_le (Heap.lt_size e) (Nat.le_trans I.ok.bsz z)) (Nat.lt_irrefl _)
    · exact nstk
    · exact I3.stack
    · exact I3.stkFree
  have Y0 : Inv (blk X scope cl C x { s2 with heap := hp3 } H3 fp) [] (none :: σ) H3 { s2 with heap := h₁, toks := s2.toks + ([] : List (Str × Value)).length } := by
    refine ⟨YOk, rfl, I3.bare, Un.kept old, ⟨_, hns₁, ?_⟩, ?_, ?_, ?_, fun p hp => by simp [blk] at hp, I3.hok.kept old, ?_⟩
    · intro i y v e1 e2 e3
      cases i with
      | zero => simp at e2
      | succ i =>
        have e1' : X.N[i]? = some y := by simpa [blk] using e1
        have e2' : σ[i]? = some (some v) := by simpa using e2
        have hy : y ∈ X.N := List.mem_of_getElem? e1'
        have hfree : (y, NameKind.free) ∈ scope.names := by
          have key : ∀ k, (relabel scope X.env).names.lookup y = some k → k ≠ .local → k = .cell ∨ k = .free → (y, NameKind.free) ∈ scope.names := fun k q n hk => by
            rcases lookup_relabel (env := X.env) q with z | ⟨_, z⟩
            · rcases hk with rfl | rfl
              · exact absurd rfl (ok.ncell _ (lookup_mem' z))
              · exact lookup_mem' z
            · exact lookup_mem' z
          rcases e3 with z | z | z
          · rcases lookup_relabel (env := X.env) z with q | ⟨q, _⟩
            · exact absurd q (ok.out y hy)
            · cases q
          · exact key _ z (by decide) (.inl rfl)
          · exact key _ z (by decide) (.inr rfl)
        have hk := ok.free _ hfree rfl
        obtain ⟨m, hn, hl⟩ := I3.loc
        obtain ⟨u, r, q⟩ := hl i y v e1' e2' (by rcases hk with z | z; exact .inr (.inl z); exact .inr (.inr z))
        refine ⟨u, r, .inr ⟨?_, ?_⟩⟩
        · rcases e3 with z | z | z
          · rcases lookup_relabel (env := X.env) z with q | ⟨q, _⟩
            · exact absurd q (ok.out y hy)
            · cases q
          · exact .inl z
          · exact .inr z
        · rcases q with ⟨z, _⟩ | ⟨_, c, hc', hcell⟩
          · rcases hk with q | q <;> (rw [z] at q; cases q)
          · obtain ⟨c', hc2⟩ := hall y hfree
            have : c' = c := by have := hsub y c' hc2; rw [hc'] at this; exact (Option.some.inj this).symm
            subst this
            obtain ⟨o, ho, hd⟩ := hcell
            exact ⟨c', hc2, o, old _ _ ho, hd⟩
    · intro a c h1
      obtain ⟨v, o, ho, hd⟩ := I3.cell a c (hsub a c h1)
      exact ⟨v, o, old _ _ ho, hd⟩
    · show H3 C = none
      exact I3.hok.fresh (Nat.le_of_eq hC)
    · exact fun a c h1 => I3.freeC a c (hsub a c h1)
    · show (none :: σ).length = (x :: X.N).length
      rw [List.length_cons, List.length_cons, I.len]
  -- behind the block
  have back : ∀ (s' : Shared) (v : Option V) (H' : Hp) (h' : Heap), Inv (blk X scope cl C x { s2 with heap := hp3 } H3 fp) [] (v :: σ) H' s' → Heap.SameBut C s'.heap h' → (∀ b ∈ fp, H' b = none) → Inv X pins σ H' { s' with heap := h' } := by
    intro s' v H' h' I' sb fr
    have neC : ∀ b o, hp3.get? b = some o → b ≠ C := fun b o e => by rw [← hC]; exact Nat.ne_of_lt (Heap.lt_size e)
    have U : Un (frs X.stack) fp H3 H' hp3 s'.heap := I'.base
    refine I3.call' (ch := fp) (H' := H') (s' := { s' with heap := h' }) I'.os ⟨fun b o e n h1 h2 => (sb.2 b (neC b o e)).trans (U.keep b o e n h1 h2), fun b o e n h1 h2 => ?_, U.free, fun b o e h2 => ?_, U.tups, U.frzs, U.tbls⟩ (fun b ob e => ?_) I'.bare fun b hb => ?_
    · obtain ⟨sl, q⟩ := U.slot b o e n h1 h2
      exact ⟨sl, (sb.2 b (neC b o e)).trans q⟩
    · obtain ⟨o', q⟩ := U.there b o e h2
      exact ⟨o', (sb.2 b (neC b o e)).trans q⟩
    · have fC : H' C = none := I'.free
      refine (I'.hok b ob e).stay (fun c w' hc q => (sb.2 c ?_).trans q) (fun _ q => q) fun _ _ q => q
      rintro rfl
      rcases hc with rfl | hc
      · rw [fC] at e; cases e
      · rw [fC] at hc; cases hc
    · obtain ⟨_, g1, _, g3, g4, g5⟩ := f3 b hb
      exact ⟨g3, g1, g4, g5⟩
  have stat : ∀ {H' : Hp}, (∀ b ∈ fp, H' b = none) → ∀ b ∈ fp, FpOk (blk X scope cl C x { s2 with heap := hp3 } H3 fp) [] H' b := fun hn b hb =>
    ⟨hn b hb, Nat.ne_of_lt (fpl b hb), nstk b hb, .inl hb, fun a c h1 => (f3 b hb).2.2.2.2.1 a c (hsub a c h1), fun p hp => by simp [blk] at hp⟩
  have st₁ : tn 0 h₁ := T.keep _ _ _ st2 fun b _ o e => old b o (by rw [← hs3]; exact Heap.get?_push_of_some _ e)
  have loop : codeAny (model X.prog X.w) X.A (.compLoop (.ListComp elt [⟨.Name x px, iter, ifs, 0⟩] scope pos) 0 (.ref it) (.ref D) (compEnvC scope cl C X.env)) (compPost (model X.prog X.w) X.A X.xe none (EP X pins σ Q) (.ref D) C)
      { s2 with heap := h₁, toks := s2.toks + ([] : List (Str × Value)).length } := by
    refine compLoop_T (fun n s' => ∃ i v ys H', Inv (blk X scope cl C x { s2 with heap := hp3 } H3 fp) [] (v :: σ) H' s' ∧ tn i s'.heap ∧ (∀ b ∈ fp, H' b = none) ∧ W i n ys H') ?_ m0 ⟨0, none, [], H3, Y0, st₁, fun b hb => (f3 b hb).1, w0⟩
    rintro n s4 ⟨i, v, ys, H4, I4, st4, fr4, w4⟩
    rcases turn i n ys H4 w4 with ⟨stop, qn⟩ | ⟨go, step⟩
    · refine thn (T.done (blk X scope cl C x { s2 with heap := hp3 } H3 fp) rfl rfl rfl hc i [] s4 (v :: σ) H4 _ I4 (stat fr4) st4 stop) fun r s5 ⟨hr, I5⟩ => ?_
      subst hr
      obtain ⟨m, hn, _⟩ := id I5.loc
      exact ⟨m, hn, fun h' sb => ⟨.ref D, H4, back s5 v H4 h' I5 sb fr4, rfl, qn⟩⟩
    · refine thn (T.item (blk X scope cl C x { s2 with heap := hp3 } H3 fp) rfl rfl rfl hc i [] s4 (v :: σ) H4 _ I4 (stat fr4) st4 go) fun r s5 ⟨u, hr, h5⟩ => ?_
      subst hr
      refine thn h5 fun _ s6 ⟨y, H6, I6, r6, y6, st6, fr6⟩ => ?_
      have I6' := I6.pinned (stat fr6) (T.obj _ _ st6)
      refine wpAny_assign_Name (store_ok (X := blk X scope cl C x { s2 with heap := hp3 } H3 fp) (i := 0) I6' ?_ rfl (.inl (lookup_relabel_local ok.hx)) r6 (fun s7 I7 => ?_) (.inr (lookup_relabel_local ok.hx)))
      · show (x :: X.N).Nodup
        exact List.nodup_cons.mpr ⟨fun z => ok.out x z ok.hx, ok.nd⟩
      have I7' : Inv (blk X scope cl C x { s2 with heap := hp3 } H3 fp) _ (some y :: σ) H6 s7 := I7
      refine thn (ht cl C { s2 with heap := hp3 } H3 fp _ s7 _ H6 _ I7' (step y H6 y6)) fun b s8 ⟨H8, I8, q8⟩ => ?_
      have keepIt : ∀ {σ' : St} {H' : Hp} {s' : Shared}, Inv (blk X scope cl C x { s2 with heap := hp3 } H3 fp) ([] ++ pinsAt fp s6.heap) σ' H' s' → tn (i + 1) s'.heap ∧ ∀ b ∈ fp, H' b = none := fun {σ' H' s'} I9 => by
        refine ⟨T.keep _ _ _ st6 fun b hb o e => (I9.pin (b, o) (List.mem_append_right _ (List.mem_append_right _ (mem_pinsAt hb e)))).1, fun b hb => ?_⟩
        obtain ⟨o, e, d⟩ := T.obj _ _ st6 b hb
        exact (I9.pin (b, o) (List.mem_append_right _ (List.mem_append_right _ (mem_pinsAt hb e)))).2.1
      cases b with
      | false =>
        obtain ⟨m', hm, w'⟩ := q8
        obtain ⟨k1, k2⟩ := keepIt I8
        exact ⟨m', hm, i + 1, some y, ys, H8, I8.unpinned, k1, k2, w'⟩
      | true =>
        have q8' : te (some y :: σ) H8 _ := q8
        show wpAny _ _ (eval elt _) _ _ _
        refine thn (he cl C { s2 with heap := hp3 } H3 fp _ s8 _ H8 _ I8 q8') fun z s9 ⟨zv, H9, I9, r9, hD9, hz9, m', hm, w'⟩ => ?_
        refine thn (mt_append (X := blk X scope cl C x { s2 with heap := hp3 } H3 fp) _ s9 _ H9 (.ref D) [zv] (.ref D) [z] (fun _ H' => H' = upd H9 D (.lst (ys ++ [zv]))) I9 rfl (.cons r9 .nil) ⟨D, ys, zv, rfl, rfl, hD9, hz9, rfl⟩) fun _ s10 ⟨_, H10, I10, _, e10⟩ => ?_
        subst e10
        obtain ⟨k1, k2⟩ := keepIt I10
        exact ⟨m', hm, i + 1, some y, ys ++ [zv], _, I10.unpinned, k1, k2, w'⟩
  exact codeAny_compStart_list loop (T.self X.A 0 _ _ _ st₁ loop)
end L2
namespace L2
open PySem PySem.Spec PyProof.Rows
def Nxt (n i : Nat) (P : Prop) : Prop := ∃ m', m' < n - i ∧ m' = n - (i + 1) ∧ i + 1 ≤ n ∧ P
theorem Nxt.mk {n i : Nat} {P : Prop} (h : i < n) (p : P) : Nxt n i P := ⟨_, by omega, rfl, h, p⟩
theorem comp_list {K : PySem.W.Frag} {a D : Addr} {xs : List V} {te : TE} {σ : St} {H : Hp} {R : Hp → Prop} (Pv : Nat → List V → Hp → Prop) (h0 : Pv 0 [] (upd H D (.lst []))) (hl : ∀ i ys H, i ≤ xs.length → Pv i ys H → SqL K H a xs)
    (hs : ∀ i x ys H, xs[i]? = some x → Pv i ys H → te (some x :: σ) H fun y H3 => H3 D = some (.lst ys) ∧ ys.length < sizeLine ∧ Nxt xs.length i (Pv (i + 1) (ys ++ [y]) (upd H3 D (.lst (ys ++ [y])))))
    (hd : ∀ ys H, Pv xs.length ys H → R H) :
    ∃ W : Nat → Nat → List V → Hp → Prop, (∃ m, W 0 m [] (upd H D (.lst []))) ∧
      ∀ i m ys H, W i m ys H → ((Itl K a).stop i H ∧ R H) ∨ ((Itl K a).go i H ∧ ∀ x H', (Itl K a).yld i H x H' → tYes (some x :: σ) H' fun b H2 =>
        if b = true then te (some x :: σ) H2 fun y H3 => H3 D = some (.lst ys) ∧ ys.length < sizeLine ∧ ∃ m', m' < m ∧ W (i + 1) m' (ys ++ [y]) (upd H3 D (.lst (ys ++ [y])))
        else ∃ m', m' < m ∧ W (i + 1) m' ys H2) := by
  refine ⟨fun i m ys H => m = xs.length - i ∧ i ≤ xs.length ∧ Pv i ys H, ⟨xs.length, by simp, Nat.zero_le _, h0⟩, ?_⟩
  rintro i m ys H ⟨rfl, hi, p⟩
  have q := hl i ys H hi p
  by_cases hlt : i < xs.length
  · refine .inr ⟨⟨xs, xs[i], q, by simp [hlt]⟩, fun x H' y => ?_⟩
    obtain ⟨e, y⟩ := y
    subst e
    exact hs i x ys H' (y xs q) p
  · have e : i = xs.length := by omega
    subst e
    exact .inl ⟨⟨xs, q, Nat.le_refl _⟩, hd ys H p⟩
theorem comp_range {lo : Int} {n : Nat} {D : Addr} {te : TE} {σ : St} {H : Hp} {R : Hp → Prop} (Pv : Nat → List V → Hp → Prop) (h0 : Pv 0 [] (upd H D (.lst [])))
    (hs : ∀ i ys H, i < n → Pv i ys H → te (some (.int (lo + i)) :: σ) H fun y H3 => H3 D = some (.lst ys) ∧ ys.length < sizeLine ∧ Nxt n i (Pv (i + 1) (ys ++ [y]) (upd H3 D (.lst (ys ++ [y])))))
    (hd : ∀ ys H, Pv n ys H → R H) :
    ∃ W : Nat → Nat → List V → Hp → Prop, (∃ m, W 0 m [] (upd H D (.lst []))) ∧
      ∀ i m ys H, W i m ys H → ((Itr lo n).stop i H ∧ R H) ∨ ((Itr lo n).go i H ∧ ∀ x H', (Itr lo n).yld i H x H' → tYes (some x :: σ) H' fun b H2 =>
        if b = true then te (some x :: σ) H2 fun y H3 => H3 D = some (.lst ys) ∧ ys.length < sizeLine ∧ ∃ m', m' < m ∧ W (i + 1) m' (ys ++ [y]) (upd H3 D (.lst (ys ++ [y])))
        else ∃ m', m' < m ∧ W (i + 1) m' ys H2) := by
  refine ⟨fun i m ys H => m = n - i ∧ i ≤ n ∧ Pv i ys H, ⟨n, by simp, Nat.zero_le _, h0⟩, ?_⟩
  rintro i m ys H ⟨rfl, hi, p⟩
  by_cases hlt : i < n
  · refine .inr ⟨hlt, fun x H' y => ?_⟩
    obtain ⟨e, y⟩ := y
    subst e y
    exact hs i ys H' hlt p
  · have e : i = n := by omega
    subst e
    exact .inl ⟨Nat.le_refl _, hd ys H p⟩
end L2
end

section
set_option Elab.async false
set_option linter.all false
set_option maxRecDepth 100000
namespace L2
open PySem PySem.Spec PyProof.Rows

def S (l : List Nat) : Str := ⟨l.toArray⟩
theorem S_cps (l : List Nat) : (S l).cps.toList = l := rfl
theorem S_len (l : List Nat) : (S l).length = l.length := rfl
theorem S_inj {a b : List Nat} (h : S a = S b) : a = b := congrArg (fun s : Str => s.cps.toList) h
theorem S_app (a b : List Nat) : S a ++ S b = S (a ++ b) := by
  show (⟨a.toArray ++ b.toArray⟩ : Str) = ⟨(a ++ b).toArray⟩
  simp
theorem S_dec (a b : List Nat) : decide (V.str (S a) = V.str (S b)) = decide (a = b) := by
  by_cases e : a = b
  · subst e; simp
  · rw [decide_eq_false e, decide_eq_false]
    intro z
    injection z with z
    exact e (S_inj z)

section
variable {X : Cx} {a b c e o : Expr} {ta tb tc te to : TE} {pos : Pos}

theorem pe_strS (l : List Nat) {x : Str} {j pos} (h : x = S l) : PE X (.Constant (.str x) j pos) (tC (.str (S l))) := by rw [h]; exact pe_str

def rAddS : R2 := fun x y H Q => ∃ i j, x = .str (S i) ∧ y = .str (S j) ∧ i.length + j.length ≤ sizeLine ∧ Q (.str (S (i ++ j))) H
theorem op_addS : OpR X (binaryOp .Add) rAddS := by
  intro pins s σ H x y v u Q I rx ry h
  obtain ⟨i, j, rfl, rfl, hz, q⟩ := h
  exact op_add_str pins s σ H _ _ v u Q I rx ry ⟨S i, S j, rfl, rfl, hz, by rw [S_app]; exact q⟩

def rIxS' : R2 := fun x y H Q => ∃ l i c, x = .str (S l) ∧ y = .int i ∧ l.length ≤ sizeLine ∧ atI l i = some c ∧ Q (.str (S [c])) H
theorem ix_S : IxR X rIxS' := by
  intro value slice pins s σ H x y v u Q I rx ry h hs
  obtain ⟨l, i, c, rfl, rfl, hz, hc, q⟩ := h
  exact ix_str value slice pins s σ H _ _ v u Q I rx ry ⟨S l, i, c, rfl, rfl, hz, hc, q⟩ hs

def rLenS : List V → Hp → VK → Prop := fun xs H Q => ∃ l, xs = [.str (S l)] ∧ l.length ≤ sizeLine ∧ Q (.int l.length) H
theorem call_lenS : CallR X (.builtin "len") rLenS := by
  intro pins s σ H xs us Q I r h
  obtain ⟨l, rfl, hz, q⟩ := h
  exact call_len_str pins s σ H _ us Q I r ⟨S l, rfl, hz, q⟩

def rEqS : R2 := fun x y H Q => ∃ i j, x = .str (S i) ∧ y = .str (S j) ∧ Q (.bl (decide (i = j))) H
theorem op_eqS : OpR X (compareOp .Eq) rEqS := by
  intro pins s σ H x y v u Q I rx ry h
  obtain ⟨i, j, rfl, rfl, q⟩ := h
  exact op_eq pins s σ H _ _ v u Q I rx ry ⟨rfl, by rw [S_dec]; exact q⟩
def rNeS : R2 := fun x y H Q => ∃ i j, x = .str (S i) ∧ y = .str (S j) ∧ Q (.bl (!decide (i = j))) H
theorem op_neS : OpR X (compareOp .NotEq) rNeS := by
  intro pins s σ H x y v u Q I rx ry h
  obtain ⟨i, j, rfl, rfl, q⟩ := h
  exact op_ne pins s σ H _ _ v u Q I rx ry ⟨rfl, by rw [S_dec]; exact q⟩

def rInS : R2 := fun x y H Q => ∃ c l, x = .str (S [c]) ∧ y = .str (S l) ∧ Q (.bl (decide (c ∈ l))) H
theorem op_inS : OpR X (compareOp .In) rInS := by
  intro pins s σ H x y v u Q I rx ry h
  obtain ⟨c, l, rfl, rfl, q⟩ := h
  exact op_in_str pins s σ H _ _ v u Q I rx ry ⟨S [c], S l, rfl, rfl, by
    have e := StrLaws.found_one (S l) c
    rw [S_cps] at e
    rw [show (S [c]) = (⟨#[c]⟩ : Str) from rfl, e]; exact q⟩

def cutN (l : List Nat) (lo hi : Option Int) : List Nat := (l.drop (HT.sIx l.length 0 lo)).take (HT.sIx l.length l.length hi - HT.sIx l.length 0 lo)
theorem idx_gen (lo hi : Option Int) (n : Nat) : Builtin.Str.strSliceIndices lo hi 1 n = (List.range (HT.sIx n n hi - HT.sIx n 0 lo)).map (fun k => HT.sIx n 0 lo + k) := by
  have clip : ∀ (v : Int) (d : Nat), max (0 : Int) (min (if v < 0 then v + (n : Int) else v) (n : Int)) = ((HT.sIx n d (some v) : Nat) : Int) := fun v d => by
    rw [← HT.clip_eq]; split <;> omega
  have key : ∀ a b : Nat, sliceRange (a : Int) (b : Int) 1 = (List.range (b - a)).map (fun k => a + k) := fun a b => by
    simp only [sliceRange, show ((1 : Int) > 0) = True from by simp, if_true]
    by_cases hlt : (a : Int) < b
    · have e3 : (((b : Int) - a + 1 - 1) / 1).toNat = b - a := by first | omega | (simp; done) | (simp; omega)
      simp only [hlt, if_true, e3]
      refine List.map_congr_left fun k _ => ?_
      omega
    · have : b - a = 0 := by omega
      simp [hlt, this]
  unfold Builtin.Str.strSliceIndices
  simp only [show ((1 : Int) > 0) = True from by simp, if_true]
  cases lo with
  | none =>
    cases hi with
    | none => exact key 0 n
    | some j => dsimp only; rw [clip j n]; exact key 0 _
  | some i =>
    cases hi with
    | none => dsimp only; rw [clip i 0]; exact key _ n
    | some j => dsimp only; rw [clip i 0, clip j n]; exact key _ _
theorem slice_gen (l : List Nat) (lo hi : Option Int) : Txt.slice (S l) lo hi = S (cutN l lo hi) := by
  have hle : HT.sIx l.length l.length hi ≤ l.length := HT.sIx_le _ _ (Nat.le_refl _) _
  have key : ((Builtin.Str.strSliceIndices lo hi 1 (S l).length).filterMap ((S l).cps[·]?)) = cutN l lo hi := by
    rw [idx_gen]
    have h := StrLaws.picks l (HT.sIx l.length l.length hi - HT.sIx l.length 0 lo) (HT.sIx l.length 0 lo)
    unfold cutN
    by_cases hc : HT.sIx l.length 0 lo ≤ HT.sIx l.length l.length hi
    · have h2 := h (by omega)
      rw [S_len]
      simpa [S] using h2
    · have e : HT.sIx l.length l.length hi - HT.sIx l.length 0 lo = 0 := by omega
      rw [S_len, e]; simp
  unfold Txt.slice
  split
  · rename_i hc
    have hlen : (Builtin.Str.strSliceIndices lo hi 1 (S l).length).length = l.length := by
      simp at hc
      simpa [S_len] using hc
    have hl2 : HT.sIx l.length l.length hi - HT.sIx l.length 0 lo = l.length := by rw [idx_gen, S_len] at hlen; simpa using hlen
    have h0 : HT.sIx l.length 0 lo = 0 ∨ l.length = 0 := by omega
    have e : cutN l lo hi = l := by
      unfold cutN
      rw [hl2]
      rcases h0 with z | z
      · rw [z]; simp
      · have : l = [] := List.length_eq_zero_iff.mp z
        subst this; simp
    rw [e]
  · rw [key]; rfl
def rSlS : V → Option Int → Option Int → Hp → VK → Prop := fun x lo hi H Q => ∃ l, x = .str (S l) ∧ l.length ≤ sizeLine ∧ Q (.str (S (cutN l lo hi))) H
theorem part_of {v : Value} {o : Option Int} (p : IsPart v o) : ∃ l : Option (Int × Tok), v = partValue l ∧ l.map (·.1) = o := by
  cases p with
  | none => exact ⟨none, rfl, rfl⟩
  | int i t => exact ⟨some (i, t), rfl, rfl⟩
theorem sl_S : SlR X rSlS := by
  intro pins s σ H x v vl vu lo hi sl Q I rx hs pl pu h
  obtain ⟨l, rfl, hz, q⟩ := h
  obtain ⟨t, rfl⟩ := rx
  obtain ⟨p1, rfl, rfl⟩ := part_of pl
  obtain ⟨p2, rfl, rfl⟩ := part_of pu
  refine ⟨"str", _, F.slot_str_getitem.lookup, typeIs_str _ _ _, ?_⟩
  refine wpAny_getItem_str_slice (l := p1) (u := p2) (st := none) hs rfl ?_
  have e := slice_gen l (p1.map (·.1)) (p2.map (·.1))
  have hle : (Txt.slice (S l) (p1.map (·.1)) (p2.map (·.1))).length ≤ sizeLine := Nat.le_trans (Txt.slice_le _ _ _) hz
  refine post_val_or_str ⟨hle, fun t' k => ?_⟩
  have e' : (if ((Option.map (fun x : Int × Tok => x.1) none).getD 1 == 1 && (slicePicked (S l) p1 p2 none).length == (S l).length) = true then S l else ⟨((slicePicked (S l) p1 p2 none).filterMap ((S l).cps[·]?)).toArray⟩) = S (cutN l (p1.map (·.1)) (p2.map (·.1))) := e
  exact ⟨.str (S (cutN l (p1.map (·.1)) (p2.map (·.1)))), H, I.tok _, ⟨t', congrArg (fun z => Value.str z t') e'⟩, q⟩

abbrev Ts (ls : List (List Nat)) : List V := ls.map fun l => V.str (S l)
def rInst (K : PySem.W.Frag) : List V → Hp → VK → Prop := fun xs H Q => ∃ x n t b, xs = [x, .ty n] ∧ TyOf K H x t ∧ PySem.W.kitOne K t (.type n) = some b ∧ Q (.bl b) H
theorem call_isinst : CallR X (.builtin "isinstance") (rInst X.K) := by
  intro pins s σ H xs us Q I r h
  obtain ⟨x, n, t, b, rfl, ty, k, q⟩ := h
  obtain ⟨u, w', rfl, r1, r2⟩ := vals2 r
  cases r2
  exact isinst_ok I r1 ty k fun tk => ⟨.bl b, H, I.tok tk, rfl, q⟩

def rMulS : R2 := fun x y H Q => ∃ l n, x = .str (S l) ∧ y = .int (n : Nat) ∧ 1 ≤ n ∧ n < 1000 ∧ l.length < 1000 ∧ Q (.str (S (List.replicate n l).flatten)) H
theorem rep_fold (l : List Nat) : ∀ (n : Nat) (acc : Array Nat), ((List.replicate n l.toArray).foldl (· ++ ·) acc).toList = acc.toList ++ (List.replicate n l).flatten
  | 0, acc => by simp
  | n + 1, acc => by
    rw [List.replicate_succ, List.foldl_cons, rep_fold l n, List.replicate_succ]
    simp
theorem op_mulS : OpR X (binaryOp .Mult) rMulS := by
  intro pins s σ H x y v u Q I rx ry h
  obtain ⟨l, n, rfl, rfl, h1, h2, h3, q⟩ := h
  obtain ⟨t, rfl⟩ := rx
  obtain ⟨t', rfl⟩ := ry
  have hsmall : l.length * n ≤ 1000 * 1000 := Nat.mul_le_mul (Nat.le_of_lt h3) (Nat.le_of_lt h2)
  have hbig : (1000 * 1000 : Nat) ≤ sizeLine := by decide
  refine PySem.P.mul_str ?_ ?_ ?_ ?_
  · rw [decide_eq_false (by omega), decide_eq_false (by omega)]; rfl
  · intro _ _
    have e : (2 ^ 63 - 1 : Int) / (n : Int) ≥ 1000 := by
      refine Int.le_ediv_of_mul_le (by omega) ?_
      have : (1000 : Int) * (n : Int) ≤ 1000 * 1000 := by omega
      omega
    rw [S_len]
    omega
  · intro _ _
    show decide (_ > _) = false
    rw [decide_eq_false]
    rw [S_len, Int.toNat_natCast]
    omega
  · rw [if_neg (by omega)]
    have hres : (⟨(List.replicate (n : Int).toNat (S l).cps).foldl (· ++ ·) #[]⟩ : Str) = S (List.replicate n l).flatten := by
      have e := rep_fold l n #[]
      rw [Int.toNat_natCast]
      unfold S
      congr 1
      apply Array.toList_inj.mp
      simpa using e
    rw [hres]
    split
    · rename_i hc
      have e : (List.replicate n l).flatten = l := by
        simp at hc
        rcases hc with z | z
        · have : n = 1 := by omega
          subst this; simp
        · have : l = [] := by simpa [S, Str.length] using z
          subst this; simp
      rw [e] at q
      exact ⟨.str (S l), H, I, ⟨t, rfl⟩, q⟩
    · refine ⟨?_, .str (S (List.replicate n l).flatten), H, I.tok _, ⟨_, rfl⟩, q⟩
      rw [S_len, len_rep, Nat.mul_comm]
      omega

theorem joinNil (ls : List (List Nat)) : Txt.join (S []) (ls.map S) = S ls.flatten := by
  unfold Txt.join Builtin.Str.glued
  have key : ∀ (ls : List (List Nat)) (acc : Array Nat), ((ls.map S).foldl (fun acc p => acc ++ (S []).cps ++ p.cps) acc).toList = acc.toList ++ ls.flatten := by
    intro ls
    induction ls with
    | nil => intro acc; simp
    | cons l r ih => intro acc; rw [List.map_cons, List.foldl_cons, ih]; simp [S]
  unfold S
  congr 1
  apply Array.toList_inj.mp
  cases ls with
  | nil => rfl
  | cons l r =>
    have := key r (S l).cps
    have e : (List.map S (l :: r)).drop 1 = List.map S r := rfl
    show (((List.map S (l :: r)).drop 1).foldl _ (S l).cps).toList = _
    rw [e]
    exact this.trans (by simp [S])
def rJoin (K : PySem.W.Frag) : V → List V → Hp → VK → Prop := fun x vs H Q => ∃ p ls, x = .str (S []) ∧ vs = [.ref p] ∧ SqL K H p (Ts ls) ∧ ls.flatten.length ≤ 1000 ∧ Q (.str (S ls.flatten)) H
theorem strs_of : ∀ {ls : List (List Nat)} {us : List Value}, Vals (Ts ls) us → StrsAre us (ls.map S)
  | [], _, .nil => .nil
  | l :: r, _, .cons q t => by
    obtain ⟨t', rfl⟩ := q
    exact .cons (S l) t' (strs_of t)
theorem sum_len (ls : List (List Nat)) : ((ls.map S).map (·.length)).sum = ls.flatten.length := by
  induction ls with
  | nil => rfl
  | cons l r ih => rw [List.map_cons, List.map_cons, List.sum_cons, ih, List.flatten_cons, List.length_append, S_len]
theorem mt_join : MtR X "str.join" (rJoin X.K) := by
  intro pins s σ H x vs v us Q I rx rv h
  obtain ⟨p, ls, rfl, rfl, hq, hz, q⟩ := h
  obtain ⟨t, rfl⟩ := rx
  obtain ⟨u, rfl, ru⟩ := vals1 rv
  cases ru
  obtain ⟨its, r, pl, _⟩ := I.list hq
  refine join_list pl.isList (ys := ls.map S) (by simpa using strs_of r) ?_ fun t' k => ?_
  · rw [sum_len]; show _ + _ * 0 ≤ _; omega
  · exact ⟨.str (S ls.flatten), H, I.tok k, ⟨t', congrArg (fun z => Value.str z t') (joinNil ls)⟩, q⟩
end
end L2
end

section
set_option Elab.async false
set_option linter.all false
set_option maxRecDepth 100000
namespace L2
open PySem PySem.Spec PyProof.Rows

structure DefAt (K : PySem.W.Frag) (mg : Str → Option Value) (name : Str) (st : Stmt) (ps : List Str) : Prop where
  ex : ∃ f fd, Fun K name name st f fd ∧ Binds K fd ps [] ∧ mg name = some (.ref f)
structure Def (P : Program) (w : World) (K : PySem.W.Frag) (mg : Str → Option Value) (base : Heap) (name : Str) (k : Nat) (ps : List Str) (sp : Sp) : Prop where
  ex : ∃ f fd, FnOk P w K mg base CX0 k f fd ps sp ∧ Binds K fd ps [] ∧ mg name = some (.ref f) ∧ PySem.W.keepIn K (.ref f) = true
theorem DefAt.ok {P : Program} {w : World} {K : PySem.W.Frag} {mg : Str → Option Value} {base : Heap} {name : Str} {st : Stmt} {N ps : List Str} {k : Nat} {sp : Sp} (D : DefAt K mg name st ps) (S : FnScope N ps (defScope st)) (len : ∀ vs H Q E, sp vs H Q E → vs.length = ps.length)
    (hbody : ∀ (f : Addr) (cdv : Value) (A : Around) (outer : List Env) (s : Shared) (H : Hp) (vs : List V) (Q : VK) (E : XK), Room k (A.deeper (envOfC name (defScope st) s.heap.objs.size f cdv)) → sp vs H Q E →
      ∃ t, PSs (cxOf CX0 P w K mg base N name (defScope st) f cdv A outer s H E).nox (defBody st) t ∧ t { nx := fun _ H' => Q .non H', rt := Q } (start N vs) H) : Def P w K mg base name (k + 1) ps sp := by
  obtain ⟨f, fd, F, b, g⟩ := D.ex
  exact ⟨f, fd, F.ok S len (hbody f), b, g, F.kp⟩
section
variable {X : Cx} {x : Str} {p pos : Pos} {e : Expr} {es : List Expr} {t : TA}
theorem pe_own {k : Nat} {ps : List Str} {sp : Sp} (D : Def X.prog X.w X.K X.mg X.base x k ps sp) (hr : Room k X.A) (hg : Gl X x) (ha : PA X (e :: es) t) (hdb : (x == ("__debug__" : Str)) = false := by decide)
    (hs : starEach (e :: es) X.env = (false, eval e X.env) :: starEach es X.env := by rfl) (hpl : (backTo pos (starEach es X.env)).any (·.1) = false := by rfl) :
    PE X (.Call (.Name x p) (e :: es) [] pos) (tCall sp [] E0 t) := by
  obtain ⟨f, fd, G, b, g, kp⟩ := D.ex
  exact pe_call G hr hg g kp b .nil pass0 ha hdb hs hpl
end
theorem Same.upd {H : Hp} {p : Addr} {o : HO} (h : H p = none) : Same H (upd H p o) := fun b o' e => by rw [upd_ne (ne_of_none e h)]; exact e
theorem Same.upd' {H H' : Hp} {p : Addr} {o : HO} (s : Same H H') (h : H p = none) : Same H (L2.upd H' p o) := fun b o' e => by rw [upd_ne (ne_of_none e h)]; exact s b o' e
end L2
namespace L2
open PySem PySem.Spec PyProof.Rows
section
variable {X : Cx} {e : Expr} {es : List Expr} {te : TE} {t : TA}
end
end L2
namespace L2
open PySem PySem.Spec PyProof.Rows
end L2
namespace L2
open PySem PySem.Spec PyProof.Rows
theorem defat_mk {K : PySem.W.Frag} {h : Heap} {mg : Str → Option Value} {name : Str} {st : Stmt} {ps : List Str} {f : Addr} {oc : Value} {od an : Option Addr} {osl : Array (Option Value)} {kV doc pm cdv ct : Value} (X : K.In h) (G : h.Ns mainGlobals mg)
    (a : PySem.W.nsIn K mainGlobals name = some (some (.ref f))) (l : K.lookup f = some ⟨oc, od, .func (PySem.W.fnOf name name (defArgs st) (defBody st) (defScope st) .none kV doc pm an cdv ct), osl⟩)
    (c : PySem.W.codeIn K cdv name = true) (k : PySem.W.keepIn K (.ref f) = true)
    (hb : ∀ (kV doc pm : Value) (an : Option Addr) (cdv ct : Value) (us : List Value), us.length = ps.length → bindArgs (PySem.W.fnOf name name (defArgs st) (defBody st) (defScope st) .none kV doc pm an cdv ct) ⟨us, []⟩ = pure (ps.zip us)) : DefAt K mg name st ps :=
  ⟨f, _, fun_mk l c k, (fun_mk l c k).binds hb, PySem.W.mg_of X G a⟩
theorem law_at {K : PySem.W.Frag} {h : Heap} {mg : Str → Option Value} {st : Stmt} {x : Str} {f fa : Addr} {oc : Value} {od an : Option Addr} {osl : Array (Option Value)} {kV doc pm cdv ct : Value} (X : K.In h) (G : h.Ns mainGlobals mg) (hfa : mg "law" = some (.ref fa))
    (a : PySem.W.nsIn K mainGlobals "law" = some (some (.ref f))) (l : K.lookup f = some ⟨oc, od, .func (PySem.W.fnOf "law" "law" (defArgs st) (defBody st) (defScope st) .none kV doc pm an cdv ct), osl⟩)
    (c : PySem.W.codeIn K cdv "law" = true) (k : PySem.W.keepIn K (.ref f) = true)
    (hb : ∀ (kV doc pm : Value) (an : Option Addr) (cdv ct v : Value), bindArgs (PySem.W.fnOf "law" "law" (defArgs st) (defBody st) (defScope st) .none kV doc pm an cdv ct) ⟨[v], []⟩ = pure [(x, v)]) :
    ∃ fd : FuncData, Fun K "law" "law" st fa fd ∧ ∀ (s : Shared) (v : Value), BindsTo s fd ⟨[v], []⟩ [(x, v)] := by
  have e := hfa.symm.trans (PySem.W.mg_of X G a)
  cases e
  exact ⟨_, fun_mk l c k, fun s v => .of_eq (hb kV doc pm an cdv ct v)⟩
def spLaw (K : PySem.W.Frag) : Sp := fun vs H Q _ => ∃ (a : Addr) (ns : List Int), vs = [.ref a] ∧ SqL K H a (ns.map V.int) ∧ ns.length ≤ 63 ∧ ∀ H', Q (.bl true) H'
theorem walkLaw {x : Str} {l : PySem.W.OpenLaw} {q : Program} {loose : List Str} {XP : (Str → Option Value) → Heap → Prop} {YP : World → Heap → Prop} {d : DefRec} {K : Params → PySem.W.Frag} (hn : l.most = some 63) (hdf : d.params.defaults = [])
    (hY : ∀ (w : World) (h : Heap), YP w h → (K w.params).In h)
    (F : ∀ (w : World) (mg : Str → Option Value) (fa : Addr) (h : Heap), (K w.params).In h → h.Ns mainGlobals mg → mg d.name = some (.ref fa) →
      ∃ fd : FuncData, (∀ (s : Shared) (u : Value), BindsTo s fd ⟨[u], []⟩ [(x, u)]) ∧ ∀ base : Heap, (K w.params).In base → base.Ns mainGlobals mg → FnOk l.prog w (K w.params) mg base CX0 20 fa fd [x] (spLaw (K w.params))) :
    PySem.W.WalkO q loose XP YP l.row.toRowW d [] (fun f vs => PySem.call f vs) :=
  L2.walk_of (n := 63) (k := 20) (x := x) (CX := fun _ => CX0) (sp := fun w => spLaw (K w.params)) hn (by decide) hdf ⟨rfl, by decide, by decide⟩ hY F (fun _ _ a ns hl _ hS => ⟨a, ns, rfl, hS, hl, fun _ => rfl⟩) fun _ _ _ _ _ z => z
end L2
end

section
set_option Elab.async false
set_option linter.all false
set_option maxRecDepth 100000
namespace L2
open PySem PySem.Spec PyProof.Rows
namespace RV
section
variable {prog : Program} {w : World} {A : Around} {E : Value → Shared → Prop} {s : Shared}
end
end RV
end L2
end

section
set_option Elab.async false
set_option linter.all false
set_option maxRecDepth 100000
namespace L2
open PySem PySem.Spec PyProof.Rows
section
variable {X : Cx} {o e st : Expr} {to te tst : TE} {apos cpos rpos pos p p2 : Pos}
end
end L2
end

section
set_option Elab.async false
set_option linter.all false
set_option maxRecDepth 100000
namespace L2
open PySem PySem.Spec PyProof.Rows
structure QE (X : Cx) (e : Expr) (t : TE) : Prop where
  out : PE X e t
structure QT (X : Cx) (e : Expr) (t : TT) : Prop where
  out : PT X e t
structure QW (X : Cx) (e : Expr) (t : TT) : Prop where
  out : PW X e t
structure QA (X : Cx) (es : List Expr) (t : TA) : Prop where
  out : PA X es t
structure QS (X : Cx) (st : Stmt) (t : TS) : Prop where
  out : PS X st t
structure QSs (X : Cx) (st : List Stmt) (t : TS) : Prop where
  out : PSs X st t
structure QG (X : Cx) (e : Expr) (t : TG) : Prop where
  out : PG X e t
structure QGs (X : Cx) (es : List Expr) (t : TGs) : Prop where
  out : PGs X es t
structure QI (X : Cx) (tg iter : Expr) (wi : TI) : Prop where
  out : PI X tg iter wi
structure QO (X : Cx) (e : Option Expr) (t : TO) : Prop where
  out : PO X e t
structure QC (X : Cx) (op : CmpOp) (a b : Expr) (t : TE) : Prop where
  out : PC X op a b t
structure QTs (X : Cx) (ifs : List Expr) (t : TT) : Prop where
  out : PTs X ifs t
theorem QW.qt {X : Cx} {e : Expr} {t : TT} (h : QW X e t) : QT X e t := ⟨h.out.pt⟩
section
variable {X : Cx} {st : Stmt} {rest : List Stmt} {t u : TS} {e : Expr} {te : TE} {pos : Pos}
theorem qss_nil  : QSs X [] tNext :=
  ⟨pss_nil⟩
end
section
variable {X : Cx} {st : Stmt} {rest : List Stmt} {t u : TS} {e : Expr} {te : TE} {pos : Pos}
theorem qss_cons (h1 : QS X st t) (h2 : QSs X rest u) : QSs X (st :: rest) (tSeq t u) :=
  ⟨pss_cons h1.out h2.out⟩
end
section
variable {X : Cx} {st : Stmt} {rest : List Stmt} {t u : TS} {e : Expr} {te : TE} {pos : Pos}
theorem qss_one (h1 : QS X st t) : QSs X [st] t :=
  ⟨pss_one h1.out⟩
end
section
variable {X : Cx} {st : Stmt} {rest : List Stmt} {t u : TS} {e : Expr} {te : TE} {pos : Pos}
theorem qs_if {c : Expr} {a b : List Stmt} {tc : TT} (hc : QT X c tc) (ha : QSs X a t) (hb : QSs X b u) : QS X (.If c a b pos) (tIfS tc t u) :=
  ⟨ps_if hc.out ha.out hb.out⟩
end
section
variable {X : Cx} {st : Stmt} {rest : List Stmt} {t u : TS} {e : Expr} {te : TE} {pos : Pos}
theorem qs_ret (he : QE X e te) : QS X (.Return (some e) pos) (tRet te) :=
  ⟨ps_ret he.out⟩
end
section
variable {X : Cx} {st : Stmt} {rest : List Stmt} {t u : TS} {e : Expr} {te : TE} {pos : Pos}
end
section
variable {X : Cx} {st : Stmt} {rest : List Stmt} {t u : TS} {e : Expr} {te : TE} {pos : Pos}
theorem qs_expr (he : QE X e te) (hs : swapsWith e none pos.line X.env = pure false := by rfl) : QS X (.Expr e pos) (tDrop te) :=
  ⟨ps_expr he.out hs⟩
end
section
variable {X : Cx} {tg : Expr}
theorem qs_for {iter : Expr} {body : List Stmt} {wi : TI} {g : TG} {tb : TS} {pos : Pos} (hp : PassesOwn (model X.prog X.w) X.A X.env X.xe) (hc : X.calm = true) (hi : QI X tg iter wi) (hg : QG X tg g) (hb : QSs X body tb) (hs : ∀ x, foldedSetIterable iter X.env x = pure x := by intro _; rfl) : QS X (.For tg iter body [] pos) (tFor wi g tb) :=
  ⟨ps_for hp hc hi.out hg.out hb.out hs⟩
end
section
variable {X : Cx} {st : Stmt} {rest : List Stmt} {t u : TS} {e : Expr} {te : TE} {pos : Pos}
theorem qs_while {c : Expr} {body : List Stmt} {tc : TT} {tb : TS} (hp : PassesOwn (model X.prog X.w) X.A X.env X.xe) (hc : QT X c tc) (hb : QSs X body tb) : QS X (.While c body [] pos) (tWhile tc tb) :=
  ⟨ps_while hp hc.out hb.out⟩
end
section
variable {X : Cx} {pos : Pos}
theorem qs_set {i : Nat} {x : Str} {e : Expr} {te : TE} {pos' : Pos} (hN : X.N.Nodup) (hi : X.N[i]? = some x) (hx : Loc X.env.scope x) (he : QE X e te) (hs : swapsWith e (some (.Name x pos')) pos.line X.env = pure false := by rfl) (hf : X.fn x = true ∨ X.env.scope.names.lookup x = some .local := by first | exact .inl rfl | exact .inr rfl | assumption) : QS X (.Assign [.Name x pos'] e pos) (tAsg te (gName i)) :=
  ⟨ps_set hN hi hx he.out hs hf⟩
end
section
variable {X : Cx} {st : Stmt} {rest : List Stmt} {t u : TS} {e : Expr} {te : TE} {pos : Pos}
end
section
variable {X : Cx} {st : Stmt} {rest : List Stmt} {t u : TS} {e : Expr} {te : TE} {pos : Pos}
theorem qss_never {sts : List Stmt} : QSs X sts tNever :=
  ⟨pss_never⟩
end
section
variable {X : Cx} {st : Stmt} {rest : List Stmt} {t u : TS} {e : Expr} {te : TE} {pos : Pos}
end
section
variable {X : Cx} {o e value : Expr} {f : Str} {pos pos' tpos : Pos} {ta tv : TE}
theorem qs_fld (ha : QE X o ta) (hv : QE X value tv) (hs : swapsWith value (some (.Attribute o f pos')) pos.line X.env = pure false) : QS X (.Assign [.Attribute o f pos'] value pos) (sFld X.K ta tv f) :=
  ⟨ps_fld ha.out hv.out hs⟩
end
section
variable {X : Cx} {pos : Pos}
theorem qs_asg {tg e : Expr} {te : TE} {g : TG} (he : QE X e te) (hg : QG X tg g) (hs : swapsWithSole [tg] e pos.line X.env = pure false := by rfl) (hw : swappedStores [tg] e X.env = pure none := by rfl) (h1 : (assignEach [tg] X.env).map (·.2) = [assign tg X.env] := by rfl) : QS X (.Assign [tg] e pos) (tAsg te g) :=
  ⟨ps_asg he.out hg.out hs hw h1⟩
end
section
variable {X : Cx} {pos : Pos}
theorem qg_name {i : Nat} {x : Str} (hN : X.N.Nodup) (hi : X.N[i]? = some x) (hx : Loc X.env.scope x) (hf : X.fn x = true ∨ X.env.scope.names.lookup x = some .local := by first | exact .inl rfl | exact .inr rfl | assumption) : QG X (.Name x pos) (gName i) :=
  ⟨pg_name hN hi hx hf⟩
end
section
variable {X : Cx} {pos : Pos}
theorem qg_tup {es : List Expr} {k : Nat} {t : TGs} {n : Nat} (hc : X.calm = true) (h : QGs X es t) (hn : (assignEach es X.env).length = n := by rfl) (hst : (assignEach es X.env).findIdx? (·.1) = none := by rfl) : QG X (.Tuple es k pos) (gTup X.K n t) :=
  ⟨pg_tup hc h.out hn hst⟩
end
section
variable {X : Cx} {pos : Pos}
theorem qgs_nil  : QGs X [] gNil :=
  ⟨pgs_nil⟩
end
section
variable {X : Cx} {pos : Pos}
theorem qgs_cons {e : Expr} {es : List Expr} {t : TG} {u : TGs} (h1 : QG X e t) (h2 : QGs X es u) (hs : (assignEach (e :: es) X.env).map (·.2) = assign e X.env :: (assignEach es X.env).map (·.2) := by rfl) : QGs X (e :: es) (gCons t u) :=
  ⟨pgs_cons h1.out h2.out hs⟩
end
section
variable {X : Cx} 
theorem qe_int {i j pos} : QE X (.Constant (.int i) j pos) (tC (.int i)) :=
  ⟨pe_int⟩
end
section
variable {X : Cx} 
theorem qe_bl {b j pos} : QE X (.Constant (.bool b) j pos) (tC (.bl b)) :=
  ⟨pe_bl⟩
end
section
variable {X : Cx} 
end
section
variable {X : Cx} {a b c : Expr} {ta tb tc : TE} {pos : Pos}
theorem qe_op {op : Operator} {r : R2} (ho : OpR X (binaryOp op) r) (ha : QE X a ta) (hb : QE X b tb) : QE X (.BinOp a op b pos) (tOp r ta tb) :=
  ⟨pe_op ho ha.out hb.out⟩
end
section
variable {X : Cx} {a b c : Expr} {ta tb tc : TE} {pos : Pos}
theorem qe_un {op : UnaryOp} {r : V → Hp → VK → Prop} (ho : UnR X (unaryOp op) r) (ha : QE X a ta) : QE X (.UnaryOp op a pos) (tUn r ta) :=
  ⟨pe_un ho ha.out⟩
end
section
variable {X : Cx} {a b c : Expr} {ta tb tc : TE} {pos : Pos}
theorem qe_cmpR {op : CmpOp} {r : R2} (ho : OpR X (compareOp op) r) (ha : QE X a ta) (hb : QE X b tb) (hm : behindInMarks op b = false) : QE X (.Compare a [op] [b] pos) (tOp r ta tb) :=
  ⟨pe_cmpR ho ha.out hb.out hm⟩
end
section
variable {X : Cx} {a b c : Expr} {ta tb tc : TE} {pos : Pos}
theorem qt_cmpR {op : CmpOp} {r : R2} (ho : OpR X (compareOp op) r) (ha : QE X a ta) (hb : QE X b tb) (hm : behindInMarks op b = false) : QT X (.Compare a [op] [b] pos) (tTest (tOp r ta tb)) :=
  ⟨pt_cmpR ho ha.out hb.out hm⟩
end
section
variable {X : Cx} {a b c : Expr} {ta tb tc : TE} {pos : Pos}
theorem qe_chain {op op' : CmpOp} {r r' : R2} (ho : OpR X (compareOp op) r) (ho' : OpR X (compareOp op') r') (ha : QE X a ta) (hb : QE X b tb) (hc : QE X c tc) (hm : lastMarks [op, op'] [b, c] = false := by with_unfolding_all rfl) : QE X (.Compare a [op, op'] [b, c] pos) (tChain r r' ta tb tc) :=
  ⟨pe_chain ho ho' ha.out hb.out hc.out hm⟩
end
section
variable {X : Cx} {a b c : Expr} {ta tb tc : TE} {pos : Pos}
theorem qt_chain {op op' : CmpOp} {r r' : R2} (ho : OpR X (compareOp op) r) (ho' : OpR X (compareOp op') r') (ha : QE X a ta) (hb : QE X b tb) (hc : QE X c tc) (hm : lastMarks [op, op'] [b, c] = false := by with_unfolding_all rfl) : QT X (.Compare a [op, op'] [b, c] pos) (tTest (tChain r r' ta tb tc)) :=
  ⟨pt_chain ho ho' ha.out hb.out hc.out hm⟩
end
section
variable {X : Cx} {a b : Expr} {ta tb : TE} {pos : Pos} {tA tB' : TT} {rest : List Expr}
theorem qt_val {e : Expr} {t : TE} (h : QE X e t) (he : ∀ whole, isTrue e X.env whole = (do let v ← whole; standAt e.pos; holding [v] (truthy v)) := by intro _; rfl) : QT X e (tB t) :=
  ⟨pt_val h.out he⟩
end
section
variable {X : Cx} {a b c : Expr} {ta tb tc : TE} {pos : Pos}
end
section
variable {X : Cx} {a b : Expr} {ta tb : TE} {pos : Pos} {tA tB' : TT} {rest : List Expr}
theorem qt_not (ha : QT X a tA) : QT X (.UnaryOp .Not a pos) (tNot tA) :=
  ⟨pt_not ha.out⟩
end
section
variable {X : Cx} {a b : Expr} {ta tb : TE} {pos : Pos} {tA tB' : TT} {rest : List Expr}
theorem qw_and (ha : QT X a tA) (hb : QW X (.BoolOp .And (b :: rest) pos) tB') : QW X (.BoolOp .And (a :: b :: rest) pos) (tAnd tA tB') :=
  ⟨pw_and ha.out hb.out⟩
end
section
variable {X : Cx} {a b : Expr} {ta tb : TE} {pos : Pos} {tA tB' : TT} {rest : List Expr}
theorem qw_and1 (ha : QT X a tA) : QW X (.BoolOp .And [a] pos) tA :=
  ⟨pw_and1 ha.out⟩
end
section
variable {X : Cx} {a b : Expr} {ta tb : TE} {pos : Pos} {tA tB' : TT} {rest : List Expr}
theorem qw_or (ha : QT X a tA) (hb : QW X (.BoolOp .Or (b :: rest) pos) tB') : QW X (.BoolOp .Or (a :: b :: rest) pos) (tOr tA tB') :=
  ⟨pw_or ha.out hb.out⟩
end
section
variable {X : Cx} {a b : Expr} {ta tb : TE} {pos : Pos} {tA tB' : TT} {rest : List Expr}
theorem qw_or1 (ha : QT X a tA) : QW X (.BoolOp .Or [a] pos) tA :=
  ⟨pw_or1 ha.out⟩
end
section
variable {X : Cx} {a b : Expr} {ta tb : TE} {pos : Pos} {tA tB' : TT} {rest : List Expr}
theorem qe_and (ha : QE X a ta) (hb : QE X (.BoolOp .And (b :: rest) pos) tb) : QE X (.BoolOp .And (a :: b :: rest) pos) (tAndV ta tb) :=
  ⟨pe_and ha.out hb.out⟩
end
section
variable {X : Cx} {a b : Expr} {ta tb : TE} {pos : Pos} {tA tB' : TT} {rest : List Expr}
theorem qe_or (ha : QE X a ta) (hb : QE X (.BoolOp .Or (b :: rest) pos) tb) : QE X (.BoolOp .Or (a :: b :: rest) pos) (tOrV ta tb) :=
  ⟨pe_or ha.out hb.out⟩
end
section
variable {X : Cx} {a b : Expr} {ta tb : TE} {pos : Pos} {tA tB' : TT} {rest : List Expr}
theorem qe_one {op} {t : TE} (h : QE X a t) : QE X (.BoolOp op [a] pos) t :=
  ⟨pe_one h.out⟩
end
section
variable {X : Cx} {a b : Expr} {ta tb : TE} {pos : Pos} {tA tB' : TT} {rest : List Expr}
theorem qe_not (ha : QE X a ta) : QE X (.UnaryOp .Not a pos) (tNotV ta) :=
  ⟨pe_not ha.out⟩
end
section
variable {X : Cx} {a b : Expr} {ta tb : TE} {pos : Pos} {tA tB' : TT} {rest : List Expr}
theorem qe_ifExp {c : Expr} (hc : QT X c tA) (ha : QE X a ta) (hb : QE X b tb) : QE X (.IfExp c a b pos) (tIf tA ta tb) :=
  ⟨pe_ifExp hc.out ha.out hb.out⟩
end
section
variable {X : Cx} {a b c : Expr} {ta tb tc : TE} {pos : Pos}
theorem qe_ix {r : R2} (hr : IxR X r) (ha : QE X a ta) (hb : QE X b tb) (hs : PlainIx b) : QE X (.Subscript a b pos) (tOp r ta tb) :=
  ⟨pe_ix hr ha.out hb.out hs⟩
end
section
variable {X : Cx} {e : Expr} {te : TE} {lo hi : Option Expr} {tl th : TO} {pos p2 : Pos}
theorem qe_slice {r : V → Option Int → Option Int → Hp → VK → Prop} (hr : SlR X r) (he : QE X e te) (hl : QO X lo tl) (hu : QO X hi th) : QE X (.Subscript e (.Slice lo hi none p2) pos) (tSl r te tl th) :=
  ⟨pe_slice hr he.out hl.out hu.out⟩
end
section
variable {X : Cx} {e : Expr} {te : TE} {lo hi : Option Expr} {tl th : TO} {pos p2 : Pos}
theorem qo_none  : QO X none tNoPart :=
  ⟨po_none⟩
end
section
variable {X : Cx} {e : Expr} {te : TE} {lo hi : Option Expr} {tl th : TO} {pos p2 : Pos}
theorem qo_some (h : QE X e te) : QO X (some e) (tPart te) :=
  ⟨po_some h.out⟩
end
section
variable {X : Cx} {e : Expr} {es : List Expr} {te : TE} {t : TA} {pos : Pos}
theorem qe_lst (h : QA X es t) : QE X (.List es pos) (tLst t) :=
  ⟨pe_lst h.out⟩
end
section
variable {X : Cx} {e : Expr} {es : List Expr} {te : TE} {t : TA} {pos : Pos}
theorem qe_tup {x1} (h : QA X es t) : QE X (.Tuple es x1 pos) (tTup t) :=
  ⟨pe_tup h.out⟩
end
section
variable {X : Cx} {e : Expr} {es : List Expr} {te : TE} {t : TA} {pos : Pos}
theorem qa_nil  : QA X [] tNil :=
  ⟨pa_nil⟩
end
section
variable {X : Cx} {e : Expr} {es : List Expr} {te : TE} {t : TA} {pos : Pos}
theorem qa_cons (ha : QE X e te) (hr : QA X es t) (hs : starEach (e :: es) X.env = (false, eval e X.env) :: starEach es X.env := by rfl) : QA X (e :: es) (tCons te t) :=
  ⟨pa_cons ha.out hr.out hs⟩
end
section
variable {X : Cx} {x : Str} {p pos : Pos} {e : Expr} {es : List Expr} {t : TA} {id T : String} {r : List V → Hp → VK → Prop}
theorem qe_callB (hc : CallR X (.builtin id) r) (hg : Gl X x) (hm : X.mg x = none) (hv : bootBuiltins x = some (.builtin id)) (ha : QA X (e :: es) t) (hn : x ≠ "__name__" := by decide) (hdb : (x == ("__debug__" : Str)) = false := by decide) (he : starEach (e :: es) X.env = (false, eval e X.env) :: starEach es X.env := by rfl) (hpl : (backTo pos (starEach es X.env)).any (·.1) = false := by rfl) : QE X (.Call (.Name x p) (e :: es) [] pos) (tCB r t) :=
  ⟨pe_callB hc hg hm hv ha.out hn hdb he hpl⟩
end
section
variable {X : Cx} {x : Str} {p pos : Pos} {e : Expr} {es : List Expr} {t : TA} {id T : String} {r : List V → Hp → VK → Prop}
theorem qe_callTy (hc : CallR X (.type T) r) (hg : Gl X x) (hm : X.mg x = none) (hv : bootBuiltins x = some (.type T)) (ha : QA X (e :: es) t) (hn : x ≠ "__name__" := by decide) (hdb : (x == ("__debug__" : Str)) = false := by decide) (he : starEach (e :: es) X.env = (false, eval e X.env) :: starEach es X.env := by rfl) (hpl : (backTo pos (starEach es X.env)).any (·.1) = false := by rfl) : QE X (.Call (.Name x p) (e :: es) [] pos) (tCB r t) :=
  ⟨pe_callTy hc hg hm hv ha.out hn hdb he hpl⟩
end
section
variable {X : Cx} {x : Str} {p pos : Pos} {e : Expr} {es : List Expr} {t : TA} {id T : String} {r : List V → Hp → VK → Prop}
end
section
variable {X : Cx} {o e : Expr} {es : List Expr} {to : TE} {t : TA} {name : Str} {apos cpos : Pos} {T id : String} {r : V → List V → Hp → VK → Prop}
theorem qe_bm (pa : PlainAttrs T) (slot : Slot T name id) (hty : typeOf (.builtin id) = pure (.type "method_descriptor")) (hm : MtR X id r) (ho : QE X o to) (ha : QA X (e :: es) t) (hbase : attributeBase o name X.env (eval o X.env) = eval o X.env := by rfl) (hfew : ((backTo cpos (starEach (e :: es) X.env)).all (fun x => !x.1) && (backToKw cpos (keywordEach [] X.env)).all (fun x => x.1.isSome)
      && decide ((e :: es).length + ([] : List Keyword).length + (if ([] : List Keyword).isEmpty then 0 else 1) < 30)) = true := by rfl) (hline : (apos.endLine == cpos.line) = true := by rfl) (hs : starEach (e :: es) X.env = (false, eval e X.env) :: starEach es X.env := by rfl) (hplain : (backTo cpos (starEach es X.env)).any (·.1) = false := by rfl) : QE X (.Call (.Attribute o name apos) (e :: es) [] cpos) (tBM X.K T r to t) :=
  ⟨pe_bm pa slot hty hm ho.out ha.out hbase hfew hline hs hplain⟩
end
section
variable {X : Cx} {o e : Expr} {es : List Expr} {to : TE} {t : TA} {name : Str} {apos cpos : Pos} {T id : String} {r : V → List V → Hp → VK → Prop}
theorem qe_bm0 (pa : PlainAttrs T) (slot : Slot T name id) (hty : typeOf (.builtin id) = pure (.type "method_descriptor")) (hm : MtR X id r) (ho : QE X o to) (hbase : attributeBase o name X.env (eval o X.env) = eval o X.env := by rfl) (hline : (apos.endLine == cpos.line) = true := by rfl) : QE X (.Call (.Attribute o name apos) [] [] cpos) (tBM0 X.K T r to) :=
  ⟨pe_bm0 pa slot hty hm ho.out hbase hline⟩
end
section
variable {X : Cx} 
theorem qe_bltn {x : Str} {v : V} {u : Value} {pos : Pos} (hg : Gl X x) (hm : X.mg x = none) (hv : bootBuiltins x = some u) (r : RelV v u) (hn : x ≠ "__name__" := by decide) (hd : (x == ("__debug__" : Str)) = false := by decide) : QE X (.Name x pos) (tC v) :=
  ⟨pe_bltn hg hm hv r hn hd⟩
end
section
variable {X : Cx} 
theorem qe_glob {x : Str} {v : V} {u : Value} {pos : Pos} (hg : Gl X x) (hm : X.mg x = some u) (r : RelV v u) (hd : (x == ("__debug__" : Str)) = false := by decide) : QE X (.Name x pos) (tC v) :=
  ⟨pe_glob hg hm r hd⟩
end
section
variable {X : Cx} {tg : Expr}
theorem qi_list {l : Expr} {tl : TE} (hl : QE X l tl) : QI X tg l (iList X.K tl) :=
  ⟨pi_list hl.out⟩
end
section
variable {X : Cx} {tg : Expr}
theorem qi_tup {l : Expr} {tl : TE} (hl : QE X l tl) : QI X tg l (iTup X.K tl) :=
  ⟨pi_tup hl.out⟩
end
section
variable {X : Cx} {tg : Expr}
theorem qi_range1 {a : Expr} {ta : TA} {p pos : Pos} (hg : Gl X "range") (hm : X.mg "range" = none) (ha : QA X [a] ta) (hs : starEach [a] X.env = [(false, eval a X.env)] := by rfl) : QI X tg (.Call (.Name "range" p) [a] [] pos) (iRng1 ta) :=
  ⟨pi_range1 hg hm ha.out hs⟩
end
section
variable {X : Cx} {tg : Expr}
end
section
variable {X : Cx} {o e value : Expr} {f : Str} {pos pos' tpos : Pos} {ta tv : TE}
theorem qe_fld (he : QE X e ta) (hb : attributeBase e f X.env (eval e X.env) = eval e X.env) : QE X (.Attribute e f pos) (tFld X.K ta f) :=
  ⟨pe_fld he.out hb⟩
end
section
variable {X : Cx} {CX : CXT} {k : Nat} {f C : Addr} {fd : FuncData} {ps : List Str} {sp : Sp} {dvs : List V} {ds : List Value} {E : XK} {x m : Str} {p pos apos : Pos} {e o : Expr} {es : List Expr} {ta : TE} {t : TA}
theorem qe_meth {pl : Sem Bool} (he : QE X o ta) (c : Cls X.K C) (hm : Meth X.K C m f) (F : FnOk X.prog X.w X.K X.mg X.base CX k f fd ps sp) (hr : Room k X.A) (hb : Binds X.K fd ps ds) (hd : Vals dvs ds) (hx : Passes CX X E) (ha : QA X (e :: es) t) (hst : starEach (e :: es) X.env = (false, eval e X.env) :: starEach es X.env := by rfl) (hpl : (backTo pos (starEach es X.env)).any (·.1) = false := by rfl) (ht : eval (.Call (.Attribute o m apos) (e :: es) [] pos) X.env = (do
      let ov ← eval o X.env
      standAt apos.atName
      let (f, first) ← holding [ov] (getMethod ov m pl)
      callWith pos f first (backTo pos (starEach (e :: es) X.env)) (backToKw pos (keywordEach [] X.env))) := by rfl) : QE X (.Call (.Attribute o m apos) (e :: es) [] pos) (tMeth C m sp dvs E ta t) :=
  ⟨pe_meth he.out c hm F hr hb hd hx ha.out hst hpl ht⟩
end
section
variable {X : Cx} {CX : CXT} {k : Nat} {f C : Addr} {fd : FuncData} {ps : List Str} {sp : Sp} {dvs : List V} {ds : List Value} {E : XK} {x m : Str} {p pos apos : Pos} {e o : Expr} {es : List Expr} {ta : TE} {t : TA}
theorem qe_meth0 {pl : Sem Bool} (he : QE X o ta) (c : Cls X.K C) (hm : Meth X.K C m f) (F : FnOk X.prog X.w X.K X.mg X.base CX k f fd ps sp) (hr : Room k X.A) (hb : Binds X.K fd ps ds) (hd : Vals dvs ds) (hx : Passes CX X E) (ht : eval (.Call (.Attribute o m apos) [] [] pos) X.env = (do
      let ov ← eval o X.env
      standAt apos.atName
      let (f, first) ← holding [ov] (getMethod ov m pl)
      callWith pos f first (backTo pos (starEach [] X.env)) (backToKw pos (keywordEach [] X.env))) := by rfl) : QE X (.Call (.Attribute o m apos) [] [] pos) (tMeth C m sp dvs E ta tNil) :=
  ⟨pe_meth0 he.out c hm F hr hb hd hx ht⟩
end
section
variable {X : Cx} {CX : CXT} {k : Nat} {f C : Addr} {fd : FuncData} {ps : List Str} {sp : Sp} {dvs : List V} {ds : List Value} {E : XK} {x m : Str} {p pos apos : Pos} {e o : Expr} {es : List Expr} {ta : TE} {t : TA}
theorem qe_make (M : Mk X.K C f) (F : FnOk X.prog X.w X.K X.mg X.base CX k f fd ps sp) (hr : Room (k + 1) X.A) (hg : Gl X x) (hm : X.mg x = some (.ref C)) (hb : Binds X.K fd ps ds) (hd : Vals dvs ds) (hx : Passes CX X E) (ha : QA X (e :: es) t) (hdb : (x == ("__debug__" : Str)) = false := by decide) (he : starEach (e :: es) X.env = (false, eval e X.env) :: starEach es X.env := by rfl) (hpl : (backTo pos (starEach es X.env)).any (·.1) = false := by rfl) : QE X (.Call (.Name x p) (e :: es) [] pos) (tMake C sp dvs E t) :=
  ⟨pe_make M F hr hg hm hb hd hx ha.out hdb he hpl⟩
end
section
variable {X : Cx} {CX : CXT} {k : Nat} {f C : Addr} {fd : FuncData} {ps : List Str} {sp : Sp} {dvs : List V} {ds : List Value} {E : XK} {x m : Str} {p pos apos : Pos} {e o : Expr} {es : List Expr} {ta : TE} {t : TA}
end
section
variable {X : Cx} {o i value : Expr} {td ty tv : TE} {pos pos' : Pos}
theorem qe_dnewK  : QE X (.Dict [] [] pos) tDNewK :=
  ⟨pe_dnewK⟩
end
section
variable {X : Cx} {o i value : Expr} {td ty tv : TE} {pos pos' : Pos}
end
section
variable {X : Cx} {o i value : Expr} {td ty tv : TE} {pos pos' : Pos}
end
section
variable {X : Cx} {o e : Expr} {td ty : TE} {apos cpos : Pos}
end
section
variable {X : Cx} {o i value : Expr} {td ty tv : TE} {pos pos' : Pos}
theorem qs_dput (hu : X.A.units + 1 < cLine) (ho : QE X o td) (hi : QE X i ty) (hv : QE X value tv) (hs : swapsWith value (some (.Subscript o i pos')) pos.line X.env = pure false) : QS X (.Assign [.Subscript o i pos'] value pos) (sDPut td ty tv) :=
  ⟨ps_dput hu ho.out hi.out hv.out hs⟩
end
section
variable {X : Cx} {a b : Expr} {ta tb : TE} {pos : Pos} {tA tB' : TT} {rest : List Expr}
end
section
variable {X : Cx} {a b : Expr} {ta tb : TE} {pos : Pos} {tA tB' : TT} {rest : List Expr}
end
section
variable {X : Cx} 
theorem qv (i : Nat) {x : Str} {pos : Pos} (hN : X.N[i]? = some x := by rfl) (hv : Vis X.env.scope x := by first | exact Or.inl rfl | exact Or.inr (Or.inl rfl) | exact Or.inr (Or.inr rfl)) (hd : (x == ("__debug__" : Str)) = false := by decide) (hcd : (x == ("__classdict__" : Str)) = false := by decide) : QE X (.Name x pos) (tVar i) :=
  ⟨pv i hN hv hd hcd⟩
end
section
variable {X : Cx} 
theorem qts_nil {X : Cx} : QTs X [] tYes :=
  ⟨pts_nil⟩
end
section
variable {X : Cx} 
theorem qts_one {X : Cx} {c : Expr} {t : TT} (h : QT X c t) : QTs X [c] t :=
  ⟨pts_one h.out⟩
end
section
variable {X : Cx} 
theorem qe_strS (l : List Nat) {x : Str} {j pos} (h : x = S l) : QE X (.Constant (.str x) j pos) (tC (.str (S l))) :=
  ⟨pe_strS l h⟩
end
section
variable {X : Cx} {e : Expr} {es : List Expr} {te : TE} {t : TA} {pos : Pos}
end
section
variable {X : Cx} {x : Str} {p pos : Pos} {e : Expr} {es : List Expr} {t : TA}
theorem qe_own {k : Nat} {ps : List Str} {sp : Sp} (D : Def X.prog X.w X.K X.mg X.base x k ps sp) (hr : Room k X.A) (hg : Gl X x) (ha : QA X (e :: es) t) (hdb : (x == ("__debug__" : Str)) = false := by decide) (hs : starEach (e :: es) X.env = (false, eval e X.env) :: starEach es X.env := by rfl) (hpl : (backTo pos (starEach es X.env)).any (·.1) = false := by rfl) : QE X (.Call (.Name x p) (e :: es) [] pos) (tCall sp [] E0 t) :=
  ⟨pe_own D hr hg ha.out hdb hs hpl⟩
end
section
variable {X : Cx} {o e st : Expr} {to te tst : TE} {apos cpos rpos pos p p2 : Pos}
end
section
variable {X : Cx} {o e st : Expr} {to te tst : TE} {apos cpos rpos pos p p2 : Pos}
end
theorem qe_comp {X : Cx} {elt iter : Expr} {x : Str} {px : Pos} {ifs : List Expr} {scope : Scope} {pos : Pos} {wi : TI} {tt : TT} {te : TE} (hc : X.calm = true) (ok : CompOk X scope x) (hi : QI X (.Name x px) iter wi)
    (ht : ∀ cl C s₀ H₀ fp, QTs (blk X scope cl C x s₀ H₀ fp) ifs tt) (he : ∀ cl C s₀ H₀ fp, QE (blk X scope cl C x s₀ H₀ fp) elt te)
    (hs : ∀ x, foldedSetIterable iter X.env x = pure x := by intro _; rfl) : QE X (.ListComp elt [⟨.Name x px, iter, ifs, 0⟩] scope pos) (tComp wi tt te) :=
  ⟨pe_comp hc ok hi.out (fun cl C s₀ H₀ fp => (ht cl C s₀ H₀ fp).out) (fun cl C s₀ H₀ fp => (he cl C s₀ H₀ fp).out) hs⟩
theorem DefAt.qok {P : Program} {w : World} {K : PySem.W.Frag} {mg : Str → Option Value} {base : Heap} {name : Str} {st : Stmt} {N ps : List Str} {k : Nat} {sp : Sp} (D : DefAt K mg name st ps) (S : FnScope N ps (defScope st)) (len : ∀ vs H Q E, sp vs H Q E → vs.length = ps.length)
    (hbody : ∀ (f : Addr) (cdv : Value) (A : Around) (outer : List Env) (s : Shared) (H : Hp) (vs : List V) (Q : VK) (E : XK), Room k (A.deeper (envOfC name (defScope st) s.heap.objs.size f cdv)) → sp vs H Q E →
      ∃ t, QSs (cxOf CX0 P w K mg base N name (defScope st) f cdv A outer s H E).nox (defBody st) t ∧ t { nx := fun _ H' => Q .non H', rt := Q } (start N vs) H) : Def P w K mg base name (k + 1) ps sp :=
  D.ok S len fun f cdv A outer s H vs Q E hr h => let ⟨t, a, b⟩ := hbody f cdv A outer s H vs Q E hr h; ⟨t, a.out, b⟩
theorem Fun.qok {P : Program} {w : World} {K : PySem.W.Frag} {mg : Str → Option Value} {base : Heap} {x qual : Str} {st : Stmt} {f : Addr} {fd : FuncData} {N ps : List Str} {k : Nat} {sp : Sp} (F : Fun K x qual st f fd) (S : FnScope N ps (defScope st)) (len : ∀ vs H Q E, sp vs H Q E → vs.length = ps.length)
    (hbody : ∀ (cdv : Value) (A : Around) (outer : List Env) (s : Shared) (H : Hp) (vs : List V) (Q : VK) (E : XK), Room k (A.deeper (envOfC qual (defScope st) s.heap.objs.size f cdv)) → sp vs H Q E →
      ∃ t, QSs (cxOf CX0 P w K mg base N qual (defScope st) f cdv A outer s H E).nox (defBody st) t ∧ t { nx := fun _ H' => Q .non H', rt := Q } (start N vs) H) : FnOk P w K mg base CX0 (k + 1) f fd ps sp :=
  F.ok S len fun cdv A outer s H vs Q E hr h => let ⟨t, a, b⟩ := hbody cdv A outer s H vs Q E hr h; ⟨t, a.out, b⟩
end L2
end

section
set_option Elab.async false
set_option linter.all false
set_option maxRecDepth 100000
namespace L2
open PySem PySem.Spec PyProof.Rows
section
variable {prog : Program} {w : World} {A : Around} {E : Value → Shared → Prop} {s : Shared}
end
section
variable {X : Cx}
end
end L2
end

section
set_option Elab.async false
set_option linter.all false
set_option maxRecDepth 100000
namespace L2
open PySem PySem.Spec PyProof.Rows
def Its (l : List Nat) : It := ⟨fun i _ => i < l.length, fun i H x H' => H' = H ∧ ∃ c, l[i]? = some c ∧ x = .str (S [c]), fun i _ => l.length ≤ i⟩
theorem turn_str {P : Program} {w : World} {K : PySem.W.Frag} {tg : Expr} {ty : String} (hty : ty = "str_ascii_iterator" ∨ ty = "str_iterator") (l : List Nat) (t : Tok) (it : Addr) :
    Turn P w K tg (Its l) [it] it (fun i h => i ≤ l.length ∧ h.IsStrIter it ty (S l) t i) where
  mem := by simp
  obj := fun i h st b hb => by
    have e : b = it := by simpa using hb
    subst e
    obtain ⟨_, o, e, c, d⟩ := st
    exact ⟨o, e, fun v z => by rw [d] at z; cases z⟩
  keep := fun i h h' st k => ⟨st.1, let ⟨o, ho, r⟩ := st.2; ⟨o, k it (by simp) o ho, r⟩⟩
  item := by
    intro X hP hw hK hc i pins s σ H E I hf st hg
    subst hP hw hK
    obtain ⟨f0, f1, f2, f3, f4, f5⟩ := hf it (by simp)
    have hg' : i < (S l).cps.size := hg
    have fin : ∀ (v : Value) (h' : Heap) (tk : Nat), SignAt (S l) i v → h'.IsStrIter it ty (S l) t (i + 1) → (∀ b o, b ∉ [it] → s.heap.get? b = some o → h'.get? b = some o) →
        ∃ u, some v = some u ∧ wpAny (model X.prog X.w) X.A (letOwnedTupleGo tg (.ref it) u) (fun _ s2 => ∃ x H', Inv X pins σ H' s2 ∧ RelV x u ∧ (Its l).yld i H x H' ∧ (i + 1 ≤ l.length ∧ s2.heap.IsStrIter it ty (S l) t (i + 1)) ∧ ∀ b ∈ [it], H' b = none) E { s with heap := h', toks := tk } := by
      intro v h' tk hv st' kk
      obtain ⟨c, u, hc', rfl⟩ := hv
      have I1 : Inv X pins σ H { s with heap := h', toks := tk } := I.turned (fun b o hb e => kk b o (by simpa using hb) e) f0 f1 f3 f4 f5
      obtain ⟨o, e, c2, d2⟩ := id st'
      refine ⟨_, rfl, go_of (s := { s with heap := h', toks := tk }) e c2 d2 (by rcases hty with rfl | rfl <;> decide) ⟨.str (S [c]), H, I1, ⟨u, rfl⟩, ⟨rfl, c, by simpa [S] using hc', rfl⟩, ⟨hg, st'⟩, fun b hb => (hf b hb).1⟩⟩
    rcases hty with rfl | rfl
    · exact (Walks.strAscii (prog := X.prog) (w := X.w) (I.ok.hd hc) it (S l) t).item i s _ _ hg' st.2 fun v h' tk hv st' kk => fin v h' tk hv st' kk
    · exact (Walks.strWide (prog := X.prog) (w := X.w) (I.ok.hd hc) it (S l) t).item i s _ _ hg' st.2 fun v h' tk hv st' kk => fin v h' tk hv st' kk
  done := by
    intro X hP hw hK hc i pins s σ H E I hf st hg
    subst hP hw hK
    obtain ⟨f0, f1, f2, f3, f4, f5⟩ := hf it (by simp)
    have hi : i = (S l).cps.size := Nat.le_antisymm st.1 hg
    have st' := st.2
    rw [hi] at st'
    rcases hty with rfl | rfl
    · exact (Walks.strAscii (prog := X.prog) (w := X.w) (I.ok.hd hc) it (S l) t).done s _ _ st' fun h' tk kk => ⟨rfl, I.turned (fun b o hb e => kk b o (by simpa using hb) e) f0 f1 f3 f4 f5⟩
    · exact (Walks.strWide (prog := X.prog) (w := X.w) (I.ok.hd hc) it (S l) t).done s _ _ st' fun h' tk kk => ⟨rfl, I.turned (fun b o hb e => kk b o (by simpa using hb) e) f0 f1 f3 f4 f5⟩
  self := fun A i s Q E st h => by
    rcases hty with rfl | rfl
    · exact wpAny_pyIter_striter_ascii st.2 h
    · exact wpAny_pyIter_striter_wide st.2 h
section
variable {X : Cx} {tg : Expr}
def iStr (tl : TE) : TI := fun σ H R => tl σ H fun x H1 => ∃ l, x = .str (S l) ∧ R (Its l) H1
theorem qi_str {l : Expr} {tl : TE} (hl : QE X l tl) : QI X tg l (iStr tl) := ⟨by
  intro pins s σ H R I h
  refine thn (hl.out pins s σ H _ I h) fun v s1 ⟨x, H1, I1, r1, q1⟩ => ?_
  obtain ⟨l, e, q⟩ := q1
  subst e
  obtain ⟨t, rfl⟩ := r1
  refine wpAny_pyIter_strU ?_
  have hty : strIterType (S l) = "str_ascii_iterator" ∨ strIterType (S l) = "str_iterator" := by unfold strIterType; split <;> simp
  refine ⟨s1.heap.objs.size, [s1.heap.objs.size], _, _, H1, rfl, I1.kept (t' := s1.toks) fun b o e => Heap.get?_push_of_some _ e, turn_str hty l t _, ⟨Nat.zero_le _, _, Heap.get?_push_size _ rfl, rfl, rfl⟩, fun b hb => ?_, q⟩
  have e : b = s1.heap.objs.size := by simpa using hb
  subst e
  exact I1.fpOk (Nat.le_refl _) (I1.hok.fresh (Nat.le_refl _))⟩
theorem comp_str {l : List Nat} {D : Addr} {te : TE} {σ : St} {H : Hp} {R : Hp → Prop} (Pv : Nat → List V → Hp → Prop) (h0 : Pv 0 [] (upd H D (.lst [])))
    (hs : ∀ i c ys H, l[i]? = some c → Pv i ys H → te (some (.str (S [c])) :: σ) H fun y H3 => H3 D = some (.lst ys) ∧ ys.length < sizeLine ∧ Nxt l.length i (Pv (i + 1) (ys ++ [y]) (upd H3 D (.lst (ys ++ [y])))))
    (hd : ∀ ys H, Pv l.length ys H → R H) :
    ∃ W : Nat → Nat → List V → Hp → Prop, (∃ m, W 0 m [] (upd H D (.lst []))) ∧
      ∀ i m ys H, W i m ys H → ((Its l).stop i H ∧ R H) ∨ ((Its l).go i H ∧ ∀ x H', (Its l).yld i H x H' → tYes (some x :: σ) H' fun b H2 =>
        if b = true then te (some x :: σ) H2 fun y H3 => H3 D = some (.lst ys) ∧ ys.length < sizeLine ∧ ∃ m', m' < m ∧ W (i + 1) m' (ys ++ [y]) (upd H3 D (.lst (ys ++ [y])))
        else ∃ m', m' < m ∧ W (i + 1) m' ys H2) := by
  refine ⟨fun i m ys H => m = l.length - i ∧ i ≤ l.length ∧ Pv i ys H, ⟨l.length, by simp, Nat.zero_le _, h0⟩, ?_⟩
  rintro i m ys H ⟨rfl, hi, p⟩
  by_cases hlt : i < l.length
  · refine .inr ⟨hlt, fun x H' y => ?_⟩
    obtain ⟨e, c, hc, e2⟩ := y
    subst e e2
    exact hs i c ys H' hc p
  · have e : i = l.length := by omega
    subst e
    exact .inl ⟨Nat.le_refl _, hd ys H p⟩
theorem call_all (hc : X.calm = true) : CallR X (.builtin "all") (fun xs H Q => ∃ (p : Addr) (bs : List Bool), xs = [.ref p] ∧ SqL X.K H p (bs.map V.bl) ∧ Q (.bl (bs.all id)) H) := by
  intro pins s σ H xs us Q I r h
  obtain ⟨p, bs, rfl, hq, q⟩ := h
  obtain ⟨u, rfl, ru⟩ := vals1 r
  cases ru
  obtain ⟨its, rv, pl, hz⟩ := I.list hq
  have hne : p ≠ s.heap.objs.size := by
    obtain ⟨o, ho, _⟩ := pl.isList
    exact Nat.ne_of_lt (Heap.lt_size ho)
  have hb : ∀ (i : Nat) (v : Value), its[i]? = some v → v = .bool (bs.getD i true) := fun i v hv => by
    have hlen := rv.length
    have hi : i < bs.length := by have := (List.getElem?_eq_some_iff.mp hv).1; simp at hlen; omega
    obtain ⟨u, hu, ru⟩ := rv.get (i := i) (x := .bl bs[i]) (by simp [hi])
    rw [hv] at hu; cases hu
    cases ru
    simp [List.getD, hi]
  refine call_all_walk (wpAny_pyIter_list pl.isList ?_)
  refine ⟨s.heap.objs.size, _, _, _, _, _, fun i => bs.getD i true, rfl, Walks.list (A := X.A.in1) (I.ok.hd hc) s.heap.objs.size p hne its.toArray, ⟨⟨_, Heap.get?_push_size _ rfl, rfl, rfl⟩, pl.isList.at fun o e => Heap.get?_push_of_some _ e⟩, ?_, fun h' tk kk => ?_⟩
  · intro i v s' Q' E' hv hq'
    have e := hb i v (by simpa using hv)
    subst e
    exact wpAny_truthy_bool hq'
  · have I1 : Inv X pins σ H { s with heap := h', toks := tk } := I.kept fun b o e => kk b o (by
      intro hm
      have : b = s.heap.objs.size := by simpa using hm
      subst this
      exact absurd (Heap.lt_size e) (Nat.lt_irrefl _)) (Heap.get?_push_of_some _ e)
    refine ⟨.bl (bs.all id), H, I1, ?_, q⟩
    show Value.bool _ = Value.bool _
    have hlen : its.toArray.size = bs.length := by have := rv.length; simp at this; simp [this]
    rw [hlen]
    congr 1
    have key : ∀ bs : List Bool, (List.range bs.length).all (fun i => bs.getD i true) = bs.all id := fun bs => by
      rw [Bool.eq_iff_iff, List.all_eq_true, List.all_eq_true]
      constructor
      · intro h x hx
        obtain ⟨i, hi, rfl⟩ := List.mem_iff_getElem.mp hx
        have := h i (List.mem_range.mpr hi)
        simpa [List.getD, hi] using this
      · intro h i hi
        have hi' := List.mem_range.mp hi
        have := h bs[i] (List.getElem_mem _)
        simpa [List.getD, hi'] using this
    exact key bs
def rLeS : R2 := fun x y H Q => ∃ i j, x = .str (S i) ∧ y = .str (S j) ∧ Q (.bl (!decide (j < i))) H
theorem op_leS : OpR X (compareOp .LtE) rLeS := by
  intro pins s σ H x y v u Q I rx ry h
  obtain ⟨i, j, rfl, rfl, q⟩ := h
  obtain ⟨t, rfl⟩ := rx
  obtain ⟨t', rfl⟩ := ry
  exact PySem.P.le_str ⟨.bl _, H, I, rfl, q⟩
abbrev keyS (l : List Nat) : Key := Sum.inr (S l)
end
end L2
end

section
set_option Elab.async false
set_option linter.all false
set_option maxRecDepth 100000
set_option maxHeartbeats 2000000
namespace L2
open PySem PySem.Spec PyProof.Rows PySem.W
section
variable {X : Cx}
end
end L2
end

section
set_option Elab.async false
set_option linter.all false
set_option maxRecDepth 100000
namespace L2
open PySem PySem.Spec PyProof.Rows PySem.SeqAt PySem.MeetsSeq PySem.MeetsSeq3
open AutoSeq1 (wpAny_loadPart')
section
variable {X : Cx}
end
end L2
end

section
set_option Elab.async false
set_option linter.all false
set_option maxRecDepth 100000
namespace L2
open PySem PySem.Spec PyProof.Rows
section
variable {X : Cx}
def rUpA : V → List V → Hp → VK → Prop := fun x vs H Q => ∃ l, x = .str (S l) ∧ vs = [] ∧ l.length ≤ 1000 ∧ (∀ c ∈ l, c < 128) ∧ Q (.str (S (l.map up1))) H
theorem mt_upA : MtR X "str.upper" rUpA := by
  intro pins s σ H x vs v us Q I rx rv h
  obtain ⟨l, rfl, rfl, hz, ha, q⟩ := h
  obtain ⟨t, rfl⟩ := rx
  have hus := rv.zero
  subst hus
  have hfit : Builtin.Str.tooLong (Txt.upper (S l)).length = false := fit_upper (by rw [S_len]; omega)
  refine call_gives F.slot_str_upper (typeIs_str s _ t) F.entry_str_upper (F.args_str_upper_1 _) (gives_str_upper (S l) t hfit) ⟨fit_le hfit, ?_⟩
  have e : Txt.upper (S l) = S (l.map up1) := by rw [upper_ascii (x := S l) ha]; simp [S]
  exact ⟨.str (S (l.map up1)), H, I.tok _, ⟨s.toks, congrArg (fun z => Value.str z s.toks) e⟩, q⟩
def rLoA : V → List V → Hp → VK → Prop := fun x vs H Q => ∃ l, x = .str (S l) ∧ vs = [] ∧ l.length ≤ 1000 ∧ (∀ c ∈ l, c < 128) ∧ Q (.str (S (l.map lo1))) H
theorem mt_loA : MtR X "str.lower" rLoA := by
  intro pins s σ H x vs v us Q I rx rv h
  obtain ⟨l, rfl, rfl, hz, ha, q⟩ := h
  obtain ⟨t, rfl⟩ := rx
  have hus := rv.zero
  subst hus
  have hfit : Builtin.Str.tooLong (Txt.lower (S l)).length = false := fit_lower (by rw [S_len]; omega)
  refine call_gives F.slot_str_lower (typeIs_str s _ t) F.entry_str_lower (F.args_str_lower_1 _) (gives_str_lower (S l) t hfit) ⟨fit_le hfit, ?_⟩
  have e : Txt.lower (S l) = S (l.map lo1) := by rw [lower_ascii (x := S l) ha]; simp [S]
  exact ⟨.str (S (l.map lo1)), H, I.tok _, ⟨s.toks, congrArg (fun z => Value.str z s.toks) e⟩, q⟩
end
theorem for_str {l : List Nat} {g : TG} {tb : TS} {D : Ends} {σ : St} {H : Hp} (Pv : Nat → St → Hp → Prop) (h0 : Pv 0 σ H)
    (hs : ∀ i c σ H, l[i]? = some c → Pv i σ H → g (.str (S [c])) σ H fun σ2 H2 => tb { D with nx := Pv (i + 1), ct := Pv (i + 1), bk := D.nx } σ2 H2) (hd : ∀ σ H, Pv l.length σ H → D.nx σ H) :
    ∃ W : Nat → Nat → St → Hp → Prop, (∃ m, W 0 m σ H) ∧ ∀ i m σ H, W i m σ H →
      ((Its l).stop i H ∧ D.nx σ H) ∨ ((Its l).go i H ∧ ∃ N : St → Hp → Prop, (∀ σ' H', N σ' H' → ∃ m', m' < m ∧ W (i + 1) m' σ' H') ∧ ∀ x H', (Its l).yld i H x H' → g x σ H' fun σ2 H2 => tb { D with nx := N, ct := N, bk := D.nx } σ2 H2) := by
  refine ⟨fun i m σ H => m = l.length - i ∧ i ≤ l.length ∧ Pv i σ H, ⟨l.length, by simp, Nat.zero_le _, h0⟩, ?_⟩
  rintro i m σ H ⟨rfl, hi, p⟩
  by_cases hlt : i < l.length
  · refine .inr ⟨hlt, Pv (i + 1), fun σ' H' p' => ⟨l.length - (i + 1), by omega, rfl, hlt, p'⟩, fun x H' y => ?_⟩
    obtain ⟨e, c, hc, e2⟩ := y
    subst e e2
    exact hs i c σ _ hc p
  · have e : i = l.length := by omega
    subst e
    exact .inl ⟨Nat.le_refl _, hd σ H p⟩
def AL : List Nat := (List.range 26).map (97 + ·)
end L2
end

section
set_option Elab.async false
set_option linter.all false
set_option maxRecDepth 100000
namespace L2
open PySem PySem.Spec PyProof.Rows
inductive Dt where
  | non | int (i : Int) | str (l : List Nat) | tup (ds : List Dt) | lst (ds : List Dt)
mutual
def toP : Dt → PyData
  | .non => .none
  | .int i => .int i
  | .str l => .str (S l)
  | .tup ds => .tuple (toPs ds)
  | .lst ds => .list (toPs ds)
def toPs : List Dt → List PyData
  | [] => []
  | d :: ds => toP d :: toPs ds
end
mutual
theorem eqv_D : ∀ d e : Dt, PyData.eqv (toP d) (toP e) = true ↔ d = e
  | .non, .non => by simp [toP, PyData.eqv]
  | .non, .int _ => by simp [toP, PyData.eqv]
  | .non, .str _ => by simp [toP, PyData.eqv]
  | .non, .tup _ => by simp [toP, PyData.eqv]
  | .non, .lst _ => by simp [toP, PyData.eqv]
  | .int _, .non => by simp [toP, PyData.eqv]
  | .int _, .int _ => by simp [toP, PyData.eqv]
  | .int _, .str _ => by simp [toP, PyData.eqv]
  | .int _, .tup _ => by simp [toP, PyData.eqv]
  | .int _, .lst _ => by simp [toP, PyData.eqv]
  | .str _, .non => by simp [toP, PyData.eqv]
  | .str _, .int _ => by simp [toP, PyData.eqv]
  | .str a, .str b => by
    simp only [toP, PyData.eqv, beq_iff_eq, Dt.str.injEq]
    exact ⟨S_inj, fun z => by rw [z]⟩
  | .str _, .tup _ => by simp [toP, PyData.eqv]
  | .str _, .lst _ => by simp [toP, PyData.eqv]
  | .tup _, .non => by simp [toP, PyData.eqv]
  | .tup _, .int _ => by simp [toP, PyData.eqv]
  | .tup _, .str _ => by simp [toP, PyData.eqv]
  | .tup ds, .tup es => by simp only [toP, PyData.eqv, Dt.tup.injEq]; exact eqv_Ds ds es
  | .tup _, .lst _ => by simp [toP, PyData.eqv]
  | .lst _, .non => by simp [toP, PyData.eqv]
  | .lst _, .int _ => by simp [toP, PyData.eqv]
  | .lst _, .str _ => by simp [toP, PyData.eqv]
  | .lst _, .tup _ => by simp [toP, PyData.eqv]
  | .lst ds, .lst es => by simp only [toP, PyData.eqv, Dt.lst.injEq]; exact eqv_Ds ds es
theorem eqv_Ds : ∀ ds es : List Dt, PyData.eqvAll (toPs ds) (toPs es) = true ↔ ds = es
  | [], [] => by simp [toPs, PyData.eqvAll]
  | [], _ :: _ => by simp [toPs, PyData.eqvAll]
  | _ :: _, [] => by simp [toPs, PyData.eqvAll]
  | d :: ds, e :: es => by
    simp only [toPs, PyData.eqvAll, Bool.and_eq_true, List.cons.injEq]
    rw [eqv_D d e, eqv_Ds ds es]
end
open Classical in
theorem eqv_dec (d e : Dt) : PyData.eqv (toP d) (toP e) = decide (d = e) := by
  by_cases h : d = e
  · rw [decide_eq_true h]; exact (eqv_D d e).mpr h
  · rw [decide_eq_false h]
    cases z : PyData.eqv (toP d) (toP e) with
    | false => rfl
    | true => exact absurd ((eqv_D d e).mp z) h
mutual
inductive HasD (K : PySem.W.Frag) (H : Hp) : Nat → Dt → V → Prop
  | non {n} : HasD K H n .non .non
  | int {n} (i : Int) : HasD K H n (.int i) (.int i)
  | str {n} (l : List Nat) (h : ∀ c ∈ l, c < 128) : HasD K H n (.str l) (.str (S l))
  | tup {n a ds xs} (h : SqT K H a xs) (hs : HasDs K H n ds xs) : HasD K H (n + 1) (.tup ds) (.ref a)
  | lst {n a ds xs} (h : SqL K H a xs) (hs : HasDs K H n ds xs) : HasD K H (n + 1) (.lst ds) (.ref a)
inductive HasDs (K : PySem.W.Frag) (H : Hp) : Nat → List Dt → List V → Prop
  | nil {n} : HasDs K H n [] []
  | cons {n d ds x xs} (h : HasD K H n d x) (hs : HasDs K H n ds xs) : HasDs K H n (d :: ds) (x :: xs)
end
theorem strOk_S {l : List Nat} (h : ∀ c ∈ l, c < 128) : PyData.strOk (S l) = true := by
  unfold PyData.strOk
  show l.toArray.all _ = true
  rw [Array.all_eq_true_iff_forall_mem]
  intro x hx
  have := h x (by simpa using hx)
  exact decide_eq_true (by omega)
mutual
theorem HasD.lay {K : PySem.W.Frag} {H : Hp} : ∀ {n : Nat} {d : Dt} {x : V}, HasD K H n d x → (toP d).canLay0 = true ∧ (toP d).depth ≤ n
  | _, _, _, .non => by simp [toP, PyData.canLay0, PyData.depth]
  | _, _, _, .int _ => by simp [toP, PyData.canLay0, PyData.depth]
  | _, _, _, .str l h => by simp only [toP, PyData.canLay0, PyData.depth]; exact ⟨strOk_S h, Nat.zero_le _⟩
  | _, _, _, .tup _ hs => by
    simp only [toP, PyData.canLay0, PyData.depth]
    have := hs.lay
    exact ⟨this.1, Nat.succ_le_succ this.2⟩
  | _, _, _, .lst _ hs => by
    simp only [toP, PyData.canLay0, PyData.depth]
    have := hs.lay
    exact ⟨this.1, Nat.succ_le_succ this.2⟩
theorem HasDs.lay {K : PySem.W.Frag} {H : Hp} : ∀ {n : Nat} {ds : List Dt} {xs : List V}, HasDs K H n ds xs → PyData.canLayAll0 (toPs ds) = true ∧ PyData.depthAll (toPs ds) ≤ n
  | _, _, _, .nil => by simp [toPs, PyData.canLayAll0, PyData.depthAll]
  | _, _, _, .cons h hs => by
    have a := h.lay
    have b := hs.lay
    simp only [toPs, PyData.canLayAll0, PyData.depthAll, Bool.and_eq_true]
    exact ⟨⟨a.1, b.1⟩, Nat.max_le.mpr ⟨a.2, b.2⟩⟩
end
mutual
theorem HasD.same {K : PySem.W.Frag} {H H' : Hp} (sm : Same H H') (st : ∀ a xs, SqT K H a xs → SqT K H' a xs) : ∀ {n : Nat} {d : Dt} {x : V}, HasD K H n d x → HasD K H' n d x
  | _, _, _, .non => .non
  | _, _, _, .int i => .int i
  | _, _, _, .str l h => .str l h
  | _, _, _, .tup h hs => .tup (st _ _ h) (hs.same sm st)
  | _, _, _, .lst h hs => .lst (sm.seq h) (hs.same sm st)
theorem HasDs.same {K : PySem.W.Frag} {H H' : Hp} (sm : Same H H') (st : ∀ a xs, SqT K H a xs → SqT K H' a xs) : ∀ {n : Nat} {ds : List Dt} {xs : List V}, HasDs K H n ds xs → HasDs K H' n ds xs
  | _, _, _, .nil => .nil
  | _, _, _, .cons h hs => .cons (h.same sm st) (hs.same sm st)
end
section
variable {X : Cx}
mutual
theorem HasD.reads {pins : List (Addr × Obj)} {σ : St} {H : Hp} {s : Shared} (I : Inv X pins σ H s) : ∀ {n : Nat} {d : Dt} {x : V} {u : Value}, HasD X.K H n d x → RelV x u → ∃ as, Reads s.heap u (toP d) as
  | _, _, _, u, .non, r => by cases r; exact ⟨[], by rw [toP]; exact .none⟩
  | _, _, _, u, .int i, r => by obtain ⟨t, rfl⟩ := r; exact ⟨[], by rw [toP]; exact .int i t⟩
  | _, _, _, u, .str l h, r => by obtain ⟨t, rfl⟩ := r; exact ⟨[], by rw [toP]; exact .str _ t⟩
  | _, _, _, u, .tup h hs, r => by
    cases r
    obtain ⟨its, rv, pl, _⟩ := I.tuple h
    obtain ⟨as, ra⟩ := hs.reads I rv
    obtain ⟨o, ho, hc, n, hd⟩ := pl
    exact ⟨as, by rw [toP]; exact .tuple ho hc hd (by simpa using ra)⟩
  | _, _, _, u, .lst h hs, r => by
    cases r
    obtain ⟨its, rv, pl, _⟩ := I.list h
    obtain ⟨as, ra⟩ := hs.reads I rv
    obtain ⟨o, ho, hc, n, hd⟩ := pl.isList
    exact ⟨_ :: as, by rw [toP]; exact .list ho hc hd (by simpa using ra)⟩
theorem HasDs.reads {pins : List (Addr × Obj)} {σ : St} {H : Hp} {s : Shared} (I : Inv X pins σ H s) : ∀ {n : Nat} {ds : List Dt} {xs : List V} {us : List Value}, HasDs X.K H n ds xs → Vals xs us → ∃ as, ReadsAll s.heap us (toPs ds) as
  | _, _, _, us, .nil, r => by cases r; exact ⟨[], by rw [toPs]; exact .nil⟩
  | _, _, _, us, .cons h hs, r => by
    cases r with
    | cons q t =>
      obtain ⟨as, a⟩ := h.reads I q
      obtain ⟨bs, b⟩ := hs.reads I t
      exact ⟨as ++ bs, by rw [toPs]; exact .cons a b⟩
end
theorem HasD.shaped {K : PySem.W.Frag} {H : Hp} {n : Nat} {d : Dt} {x : V} (h : HasD K H n d x) (hn : n ≤ 64) : SeqAt.shaped (toP d) = true := by
  unfold SeqAt.shaped
  rw [h.lay.1, decide_eq_true (Nat.le_trans h.lay.2 hn)]
  rfl
open Classical in
def rEqD (K : PySem.W.Frag) (neg : Bool) : R2 := fun x y H Q => ∃ n d e, n ≤ 64 ∧ HasD K H n d x ∧ HasD K H n e y ∧ Q (.bl (if neg then !decide (d = e) else decide (d = e))) H
theorem op_neD (hu : X.A.units + 64 < cLine) : OpR X (compareOp .NotEq) (rEqD X.K true) := by
  intro pins s σ H x y v u Q I rx ry h
  obtain ⟨n, d, e, hn, hd, he, q⟩ := h
  obtain ⟨as, ra⟩ := hd.reads I rx
  obtain ⟨bs, rb⟩ := he.reads I ry
  refine SeqAt.compareNe_shaped ra rb (hd.shaped hn) (he.shaped hn) hu ⟨.bl _, H, I, rfl, ?_⟩
  rw [eqv_dec]; exact q
def rJoinT (K : PySem.W.Frag) : V → List V → Hp → VK → Prop := fun x vs H Q => ∃ p ls, x = .str (S []) ∧ vs = [.ref p] ∧ SqT K H p (Ts ls) ∧ ls.flatten.length ≤ 1000 ∧ Q (.str (S ls.flatten)) H
theorem mt_joinT : MtR X "str.join" (rJoinT X.K) := by
  intro pins s σ H x vs v us Q I rx rv h
  obtain ⟨p, ls, rfl, rfl, hq, hz, q⟩ := h
  obtain ⟨t, rfl⟩ := rx
  obtain ⟨u, rfl, ru⟩ := vals1 rv
  cases ru
  obtain ⟨its, r, pl, _⟩ := I.tuple hq
  refine join_tuple pl (ys := ls.map S) (by simpa using strs_of r) ?_ fun t' k => ?_
  · rw [sum_len]; show _ + _ * 0 ≤ _; omega
  · exact ⟨.str (S ls.flatten), H, I.tok k, ⟨t', congrArg (fun z => Value.str z t') (joinNil ls)⟩, q⟩
variable {tg : Expr}
end
theorem comp_tup {K : PySem.W.Frag} {a D : Addr} {xs : List V} {te : TE} {σ : St} {H : Hp} {R : Hp → Prop} (Pv : Nat → List V → Hp → Prop) (h0 : Pv 0 [] (upd H D (.lst []))) (hl : ∀ i ys H, i ≤ xs.length → Pv i ys H → SqT K H a xs)
    (hs : ∀ i x ys H, xs[i]? = some x → Pv i ys H → te (some x :: σ) H fun y H3 => H3 D = some (.lst ys) ∧ ys.length < sizeLine ∧ Nxt xs.length i (Pv (i + 1) (ys ++ [y]) (upd H3 D (.lst (ys ++ [y])))))
    (hd : ∀ ys H, Pv xs.length ys H → R H) :
    ∃ W : Nat → Nat → List V → Hp → Prop, (∃ m, W 0 m [] (upd H D (.lst []))) ∧
      ∀ i m ys H, W i m ys H → ((Itt K a).stop i H ∧ R H) ∨ ((Itt K a).go i H ∧ ∀ x H', (Itt K a).yld i H x H' → tYes (some x :: σ) H' fun b H2 =>
        if b = true then te (some x :: σ) H2 fun y H3 => H3 D = some (.lst ys) ∧ ys.length < sizeLine ∧ ∃ m', m' < m ∧ W (i + 1) m' (ys ++ [y]) (upd H3 D (.lst (ys ++ [y])))
        else ∃ m', m' < m ∧ W (i + 1) m' ys H2) := by
  refine ⟨fun i m ys H => m = xs.length - i ∧ i ≤ xs.length ∧ Pv i ys H, ⟨xs.length, by simp, Nat.zero_le _, h0⟩, ?_⟩
  rintro i m ys H ⟨rfl, hi, p⟩
  have q := hl i ys H hi p
  by_cases hlt : i < xs.length
  · refine .inr ⟨⟨xs, xs[i], q, by simp [hlt]⟩, fun x H' y => ?_⟩
    obtain ⟨e, y⟩ := y
    subst e
    exact hs i x ys H' (y xs q) p
  · have e : i = xs.length := by omega
    subst e
    exact .inl ⟨⟨xs, q, Nat.le_refl _⟩, hd ys H p⟩
end L2
namespace L2
open PySem PySem.Spec PyProof.Rows
section
variable {X : Cx} {x : Str} {pos : Pos}
theorem qe_gS {l : List Nat} (hg : Gl X x) (hm : ∃ t, X.mg x = some (.str (S l) t)) (hd : (x == ("__debug__" : Str)) = false := by decide) : QE X (.Name x pos) (tC (.str (S l))) :=
  let ⟨t, e⟩ := hm; qe_glob hg e ⟨t, rfl⟩ hd
theorem qe_gI {i : Int} (hg : Gl X x) (hm : ∃ t, X.mg x = some (.int i t)) (hd : (x == ("__debug__" : Str)) = false := by decide) : QE X (.Name x pos) (tC (.int i)) :=
  let ⟨t, e⟩ := hm; qe_glob hg e ⟨t, rfl⟩ hd
theorem qg_sub {o i : Expr} {to ti : TE} {t : TSet} (ho : QE X o to) (hi : QE X i ti) (hs : PSet X t)
    (ha : ∀ v, assign (.Subscript o i pos) X.env v = (do
      let ov ← holding [v] (eval o X.env)
      let iv ← holding [v, ov] (eval i X.env)
      standAt pos
      holding [v, ov, iv] (setItem ov iv v)
      release [v, ov, iv] []) := by intro _; rfl) : QG X (.Subscript o i pos) (gSub to ti t) := ⟨pg_sub ho.out hi.out hs ha⟩
end
theorem boot_allX : bootBuiltins "all" = some (.builtin "all") := by decide +kernel
theorem glob_str {K : PySem.W.Frag} {h : Heap} {mg : Str → Option Value} {x : Str} {l : List Nat} {t : Tok} (X : K.In h) (G : h.Ns mainGlobals mg) (a : PySem.W.nsIn K mainGlobals x = some (some (.str (S l) t))) : ∃ t, mg x = some (.str (S l) t) := ⟨t, PySem.W.mg_of X G a⟩
theorem glob_int {K : PySem.W.Frag} {h : Heap} {mg : Str → Option Value} {x : Str} {i : Int} {t : Tok} (X : K.In h) (G : h.Ns mainGlobals mg) (a : PySem.W.nsIn K mainGlobals x = some (some (.int i t))) : ∃ t, mg x = some (.int i t) := ⟨t, PySem.W.mg_of X G a⟩
end L2
namespace L2
open PySem PySem.Spec PyProof.Rows
section
variable {X : Cx}
theorem ix_tupK (K : PySem.W.Frag)  (h : X.K = K := by rfl) : IxR X (rIxT K) := by subst h; exact ix_tup
theorem call_isinstK (K : PySem.W.Frag)  (h : X.K = K := by rfl) : CallR X (.builtin "isinstance") (rInst K) := by subst h; exact call_isinst
theorem mt_joinK (K : PySem.W.Frag)  (h : X.K = K := by rfl) : MtR X "str.join" (rJoin K) := by subst h; exact mt_join
theorem qe_bmK  {o e : Expr} {es : List Expr} {to : TE} {t : TA} {name : Str} {apos cpos : Pos} {T id : String} {r : V → List V → Hp → VK → Prop} (K : PySem.W.Frag) (pa : PlainAttrs T) (slot : Slot T name id) (hty : typeOf (.builtin id) = pure (.type "method_descriptor")) (hm : MtR X id r) (ho : QE X o to) (ha : QA X (e :: es) t) (hbase : attributeBase o name X.env (eval o X.env) = eval o X.env := by rfl) (hfew : ((backTo cpos (starEach (e :: es) X.env)).all (fun x => !x.1) && (backToKw cpos (keywordEach [] X.env)).all (fun x => x.1.isSome)
      && decide ((e :: es).length + ([] : List Keyword).length + (if ([] : List Keyword).isEmpty then 0 else 1) < 30)) = true := by rfl) (hline : (apos.endLine == cpos.line) = true := by rfl) (hs : starEach (e :: es) X.env = (false, eval e X.env) :: starEach es X.env := by rfl) (hplain : (backTo cpos (starEach es X.env)).any (·.1) = false := by rfl) (h : X.K = K := by rfl) : QE X (.Call (.Attribute o name apos) (e :: es) [] cpos) (tBM K T r to t) := by subst h; exact qe_bm pa slot hty hm ho ha hbase hfew hline hs hplain
end
end L2
end

section
set_option Elab.async false
set_option linter.all false
set_option maxRecDepth 100000
namespace L2
open PySem PySem.Spec PyProof.Rows
def headF (l : List Nat) : List Nat := l.takeWhile fun c => c != 46
def tailF (l : List Nat) : List Nat := (l.reverse.takeWhile fun c => c != 46).reverse
theorem headF_at : ∀ {l : List Nat} {i : Nat}, l[i]? = some 46 → (∀ k, k < i → l[k]? ≠ some 46) → headF l = l.take i
  | [], i, h, _ => by simp at h
  | c :: l, 0, h, _ => by
    have : c = 46 := by simpa using h
    subst this
    simp [headF]
  | c :: l, i + 1, h, hk => by
    have hc : c ≠ 46 := fun e => hk 0 (by omega) (by simp [e])
    have ih := headF_at (l := l) (i := i) (by simpa using h) (fun k hk' => by have := hk (k + 1) (by omega); simpa using this)
    unfold headF at ih ⊢
    rw [List.takeWhile_cons_of_pos (by simpa using hc), ih, List.take_succ_cons]
theorem headF_all {l : List Nat} (h : 46 ∉ l) : headF l = l := by
  unfold headF
  induction l with
  | nil => rfl
  | cons c r ih =>
    have hc : c ≠ 46 := fun e => h (by rw [e]; exact List.mem_cons_self)
    rw [List.takeWhile_cons_of_pos (by simpa using hc), ih fun z => h (List.mem_cons_of_mem _ z)]
theorem tailF_all {l : List Nat} (h : 46 ∉ l) : tailF l = l := by
  have := headF_all (l := l.reverse) (by simpa using h)
  unfold headF at this
  unfold tailF
  rw [this, List.reverse_reverse]
theorem tailF_at {l : List Nat} {i : Nat} (h : l[i]? = some 46) (hk : ∀ k, i < k → l[k]? ≠ some 46) : tailF l = l.drop (i + 1) := by
  have hi : i < l.length := (List.getElem?_eq_some_iff.mp h).1
  have e : headF l.reverse = l.reverse.take (l.length - (i + 1)) := by
    refine headF_at ?_ fun k hk' => ?_
    · rw [List.getElem?_reverse (by omega), show l.length - 1 - (l.length - (i + 1)) = i by omega]; exact h
    · rw [List.getElem?_reverse (by omega)]
      exact hk _ (by omega)
  unfold headF at e
  unfold tailF
  rw [e, List.take_reverse, List.reverse_reverse, show l.length - (l.length - (i + 1)) = i + 1 by omega]
theorem cut_to (l : List Nat) (n : Nat) : cutN l none (some (n : Int)) = l.take n := by
  unfold cutN
  rw [HT.sIx_nat]
  show (l.drop 0).take (min n l.length - 0) = _
  rw [List.drop_zero, Nat.sub_zero]
  by_cases h : n ≤ l.length
  · rw [Nat.min_eq_left h]
  · rw [Nat.min_eq_right (by omega), List.take_of_length_le (Nat.le_refl _), List.take_of_length_le (by omega)]
theorem cut_from (l : List Nat) (n : Nat) : cutN l (some (n : Int)) none = l.drop n := by
  unfold cutN
  rw [HT.sIx_nat]
  show (l.drop (min n l.length)).take (l.length - min n l.length) = _
  rw [List.take_of_length_le (by rw [List.length_drop]; omega)]
  by_cases h : n ≤ l.length
  · rw [Nat.min_eq_left h]
  · rw [Nat.min_eq_right (by omega), List.drop_of_length_le (Nat.le_refl _), List.drop_of_length_le (by omega)]
theorem sub_S (l : List Nat) (i j : Nat) : Builtin.Str.strSub (S l) i j = S ((l.take j).drop i) := by
  unfold Builtin.Str.strSub S
  congr 1
  apply Array.toList_inj.mp
  simp [List.drop_take]
section
variable {X : Cx}
theorem part_head (l : List Nat) : (Txt.partition (S l) (S [46])).1 = S (headF l) := by
  rcases partition_head (S l) (S [46]) with ⟨e, h⟩ | ⟨i, e, h, hk⟩
  · rw [e, headF_all fun hm => ?_]
    obtain ⟨i, hi⟩ := List.mem_iff_getElem?.mp hm
    exact h i ((StrLaws.subAt_one (S l) 46 i).mpr hi)
  · rw [e, sub_S, List.drop_zero, headF_at (l := l) ((StrLaws.subAt_one (S l) 46 i).mp h) fun k hk' z => hk k hk' ((StrLaws.subAt_one (S l) 46 k).mpr z)]
theorem rpart_tail (l : List Nat) : (Txt.rpartition (S l) (S [46])).2.2 = S (tailF l) := by
  unfold Txt.rpartition
  rcases StrLaws.last_spec (S l) (S [46]) with ⟨e, h⟩ | ⟨i, e, h, hk⟩
  · rw [e]
    show S l = _
    rw [tailF_all fun hm => ?_]
    obtain ⟨i, hi⟩ := List.mem_iff_getElem?.mp hm
    exact h i ((StrLaws.subAt_one (S l) 46 i).mpr hi)
  · rw [e]
    show Builtin.Str.strSub (S l) (i + 1) l.length = _
    rw [sub_S, List.take_of_length_le (Nat.le_refl _), tailF_at (l := l) ((StrLaws.subAt_one (S l) 46 i).mp h) fun k hk' z => hk k hk' ((StrLaws.subAt_one (S l) 46 k).mpr z)]
def rPart : V → List V → Hp → VK → Prop := fun x vs H Q => ∃ l, x = .str (S l) ∧ vs = [.str (S [46])] ∧ l.length ≤ 1000 ∧ ∀ (p : Addr) (b c : Str), H p = none → Q (.ref p) (upd H p (.tup [.str (S (headF l)), .str b, .str c]))
theorem mt_part : MtR X "str.partition" rPart := by
  intro pins s σ H x vs v us Q I rx rv h
  obtain ⟨l, rfl, rfl, hz, q⟩ := h
  obtain ⟨t, rfl⟩ := rx
  obtain ⟨u, rfl, ru⟩ := vals1 rv
  obtain ⟨t2, rfl⟩ := ru
  have hsz : (S l).length ≤ sizeLine := Nat.le_of_lt (small1000 hz)
  refine call_meets F.slot_str_partition (typeIs_str _ _ _) F.entry_str_partition (F.args_str_partition_2 _ _) (meets_str_partition (S l) (S [46]) t t2 rfl hsz) ?_
  have e := part_head l
  have q' := fun b c => q s.heap.objs.size b c (I.hok.fresh (Nat.le_refl _))
  rw [← e] at q'
  unfold Txt.partition at q'
  revert q'
  cases Builtin.Str.occurrences (S l) (S [46]) 0 (S l).length 1 with
  | nil =>
    intro q'
    refine ⟨.ref s.heap.objs.size, _, I.laid (o := .tup _) (t' := s.toks + 1) (fun b ob z => Heap.get?_push_of_some _ z) (Nat.le_refl _) ?_, rfl, q' Str.empty Str.empty⟩
    exact ⟨by show 3 ≤ sizeLine; decide, _, .cons ⟨_, rfl⟩ (.cons ⟨_, rfl⟩ (.cons ⟨_, rfl⟩ .nil)), ⟨_, Heap.get?_push_size _ rfl, rfl, 0, rfl⟩⟩
  | cons i r =>
    intro q'
    refine ⟨.ref s.heap.objs.size, _, I.laid (o := .tup _) (t' := s.toks + 1 + 1) (fun b ob z => Heap.get?_push_of_some _ z) (Nat.le_refl _) ?_, rfl, q' (S [46]) (Builtin.Str.strSub (S l) (i + (S [46]).length) (S l).length)⟩
    exact ⟨by show 3 ≤ sizeLine; decide, _, .cons ⟨_, rfl⟩ (.cons ⟨_, rfl⟩ (.cons ⟨_, rfl⟩ .nil)), ⟨_, Heap.get?_push_size _ rfl, rfl, 0, rfl⟩⟩
def rRPart : V → List V → Hp → VK → Prop := fun x vs H Q => ∃ l, x = .str (S l) ∧ vs = [.str (S [46])] ∧ l.length ≤ 1000 ∧ ∀ (p : Addr) (a b : Str), H p = none → Q (.ref p) (upd H p (.tup [.str a, .str b, .str (S (tailF l))]))
theorem mt_rpart : MtR X "str.rpartition" rRPart := by
  intro pins s σ H x vs v us Q I rx rv h
  obtain ⟨l, rfl, rfl, hz, q⟩ := h
  obtain ⟨t, rfl⟩ := rx
  obtain ⟨u, rfl, ru⟩ := vals1 rv
  obtain ⟨t2, rfl⟩ := ru
  have hsz : (S l).length ≤ sizeLine := Nat.le_of_lt (small1000 hz)
  refine call_meets F.slot_str_rpartition (typeIs_str _ _ _) F.entry_str_rpartition (F.args_str_rpartition_2 _ _) (meets_str_rpartition (S l) (S [46]) t t2 rfl hsz) ?_
  have e := rpart_tail l
  have q' := fun b c => q s.heap.objs.size b c (I.hok.fresh (Nat.le_refl _))
  rw [← e] at q'
  unfold Txt.rpartition at q'
  revert q'
  cases Builtin.Str.lastOccurrence (S l) (S [46]) 0 (S l).length with
  | none =>
    intro q'
    refine ⟨.ref s.heap.objs.size, _, I.laid (o := .tup _) (t' := s.toks + 1) (fun b ob z => Heap.get?_push_of_some _ z) (Nat.le_refl _) ?_, rfl, q' Str.empty Str.empty⟩
    exact ⟨by show 3 ≤ sizeLine; decide, _, .cons ⟨_, rfl⟩ (.cons ⟨_, rfl⟩ (.cons ⟨_, rfl⟩ .nil)), ⟨_, Heap.get?_push_size _ rfl, rfl, 0, rfl⟩⟩
  | some i =>
    intro q'
    refine ⟨.ref s.heap.objs.size, _, I.laid (o := .tup _) (t' := s.toks + 1 + 1) (fun b ob z => Heap.get?_push_of_some _ z) (Nat.le_refl _) ?_, rfl, q' (Builtin.Str.strSub (S l) 0 i) (S [46])⟩
    exact ⟨by show 3 ≤ sizeLine; decide, _, .cons ⟨_, rfl⟩ (.cons ⟨_, rfl⟩ (.cons ⟨_, rfl⟩ .nil)), ⟨_, Heap.get?_push_size _ rfl, rfl, 0, rfl⟩⟩
end
end L2
end

section
set_option Elab.async false
set_option linter.all false
set_option maxRecDepth 100000
namespace L2
open PySem PySem.Spec PyProof.Rows
def blkG (X : Cx) (scope : Scope) (cl : List (Str × Addr)) (C : Addr) (N : List Str) (s₀ : Shared) (H₀ : Hp) (fp : List Addr) : Cx :=
  { X with N := N, s₀ := s₀, H₀ := H₀, env := compEnvC scope cl C X.env, outer := X.stack, ex := fp, fn := fun _ => false, pn := [], xe := fun _ _ => False }
structure CompG (X : Cx) (scope : Scope) (ns N2 : List Str) (f : St → St) : Prop where
  kind : scope.kind = .function
  ncell : ∀ y ∈ scope.names, y.2 ≠ .cell
  names : ∀ y ∈ scope.names, y.2 = .local → scope.names.lookup y.1 = some .local
  free : ∀ y ∈ scope.names, y.2 = .free → X.env.kindOf y.1 = some .cell ∨ X.env.kindOf y.1 = some .free
  lenf : ∀ σ : St, (f σ).length = σ.length
  lenN : N2.length = X.N.length
  out : ∀ (σ : St) (i : Nat) (y : Str) (v : V), N2[i]? = some y → (f σ)[i]? = some (some v) → X.N[i]? = some y ∧ σ[i]? = some (some v) ∧ scope.names.lookup y ≠ some .local
def PTg (X : Cx) (tg : Expr) (k : Nat) (TP : V → Hp → (St → Prop) → Prop) : Prop :=
  ∀ (pins : List (Addr × Obj)) (s : Shared) (pre rest : St) (H : Hp) (v : V) (u : Value) (Q : St → Prop), pre.length = k → Inv X pins (pre ++ rest) H s → RelV v u → TP v H Q →
    wpAny (model X.prog X.w) X.A (assign tg X.env u) (fun _ s' => ∃ pre', pre'.length = k ∧ Inv X pins (pre' ++ rest) H s' ∧ Q pre') (fun _ _ => False) s
def tCompG (f : St → St) (k : Nat) (wi : TI) (TP : V → Hp → (St → Prop) → Prop) (tt : TT) (te : TE) : TE := fun σ H Q => wi σ H fun J H1 => ∀ D, H1 D = none → ∃ W : Nat → Nat → List V → Hp → Prop, (∃ m, W 0 m [] (upd H1 D (.lst []))) ∧
  ∀ i m ys H, W i m ys H → (J.stop i H ∧ Q (.ref D) H) ∨ (J.go i H ∧ ∀ x H', J.yld i H x H' → TP x H' fun pre => tt (pre ++ f σ) H' fun b H2 =>
    if b = true then te (pre ++ f σ) H2 fun y H3 => H3 D = some (.lst ys) ∧ ys.length < sizeLine ∧ ∃ m', m' < m ∧ W (i + 1) m' (ys ++ [y]) (upd H3 D (.lst (ys ++ [y])))
    else ∃ m', m' < m ∧ W (i + 1) m' ys H2)
theorem pe_compG {X : Cx} {elt iter tg : Expr} {ns N2 : List Str} {f : St → St} {TP : V → Hp → (St → Prop) → Prop} {ifs : List Expr} {scope : Scope} {pos : Pos} {wi : TI} {tt : TT} {te : TE} (hc : X.calm = true) (ok : CompG X scope ns N2 f) (hi : PI X tg iter wi)
    (hg : ∀ cl C s₀ H₀ fp, PTg (blkG X scope cl C (ns ++ N2) s₀ H₀ fp) tg ns.length TP)
    (ht : ∀ cl C s₀ H₀ fp, PTs (blkG X scope cl C (ns ++ N2) s₀ H₀ fp) ifs tt) (he : ∀ cl C s₀ H₀ fp, PE (blkG X scope cl C (ns ++ N2) s₀ H₀ fp) elt te)
    (hs : ∀ x, foldedSetIterable iter X.env x = pure x := by intro _; rfl) : PE X (.ListComp elt [⟨tg, iter, ifs, 0⟩] scope pos) (tCompG f ns.length wi TP tt te) := by
  intro pins s σ H Q I h
  obtain ⟨cl, hcl, hsub, _, hall⟩ := closure_ok (env := X.env) scope.names (fun y hy e => I.ok.has y.1 (ok.free y hy e)) [] (fun _ _ z => by simp at z)
  have hclos : closureFor scope X.env = pure cl := by
    unfold closureFor
    simp only [bind_pure]
    exact hcl
  rw [eval_ListComp]
  refine wpAny_comprehension_free (use := none) (E := X.xe) (cl := cl) rfl hs hclos ok.kind ok.names (thn (hi pins s σ H _ I h) fun v s1 h1 => thn h1 fun itv s2 h2 => ?_)
  obtain ⟨it, fp, tn, J, H2, e, I2, T, st2, f2, R⟩ := h2
  subst e
  obtain ⟨W, ⟨m0, w0⟩, turn⟩ := R s2.heap.objs.size I2.fresh
  refine wpAny_newObj_type (wpAny_newFunctionEnv ok.ncell (by intro y hy; simp at hy) (fun h₁ hns₁ hsb₁ => ?_) ok.kind)
  dsimp only at hns₁ hsb₁ ⊢
  have I3 : Inv X pins σ (upd H2 s2.heap.objs.size (.lst [])) { s2 with heap := s2.heap.push { cls := .type "list", data := .seq ([] : List Value).toArray } } := I2.lnew (t' := s2.toks) (ys := []) (its := []) .nil (Nat.zero_le _)
  generalize hH3 : upd H2 s2.heap.objs.size (HO.lst []) = H3 at *
  generalize hs3 : s2.heap.push { cls := .type "list", data := .seq ([] : List Value).toArray } = hp3 at *
  generalize hD : s2.heap.objs.size = D at *
  generalize hC : hp3.objs.size = C at *
  have hDC : D < C := by rw [← hC, ← hs3, Heap.size_push, hD]; exact Nat.lt_succ_self _
  have old : ∀ b o, hp3.get? b = some o → h₁.get? b = some o := fun b o e => (hsb₁.2 b (by rw [← hC]; exact Nat.ne_of_lt (Heap.lt_size e))).trans (Heap.get?_push_of_some _ e)
  have fpl : ∀ b ∈ fp, b < C := fun b hb => by
    obtain ⟨o, e, _⟩ := T.obj _ _ st2 b hb
    rw [← hC, ← hs3, Heap.size_push]
    exact Nat.lt_succ_of_lt (Heap.lt_size e)
  have f3 : ∀ b ∈ fp, FpOk X pins H3 b := fun b hb => by
    obtain ⟨o, e, _⟩ := T.obj _ _ st2 b hb
    refine ⟨?_, (f2 b hb).2⟩
    rw [← hH3, upd_ne (by rw [← hD]; exact Nat.ne_of_lt (Heap.lt_size e))]
    exact (f2 b hb).1
  have nstk : ∀ b ∈ fp, b ∉ frs X.stack := fun b hb z => by
    obtain ⟨_, g1, g2, _⟩ := f3 b hb
    rcases List.mem_cons.mp (I3.stkSub b z) with q | q
    · exact g1 q
    · exact g2 q
  -- the block's context
  have YOk : (blkG X scope cl C (ns ++ N2) { s2 with heap := hp3 } H3 fp).Ok := by
    refine ⟨I.ok.mod, ?_, I.ok.glob, I.ok.blt, Nat.le_of_eq hC, ?_, ?_, ?_, I.ok.hd, I.ok.frames, .inl rfl, ?_, ?_, ?_, ?_, ?_, ?_, ?_⟩
    · exact ok.kind
    · exact fun a b c h1 h2 => I.ok.inj a b c (hsub a c h1) (hsub b c h2)
    · intro a ha
      refine hall a ?_
      rcases ha with z | z
      · rcases lookup_relabel (env := X.env) z with q | ⟨_, q⟩
        · exact absurd rfl (ok.ncell _ (lookup_mem' q))
        · exact lookup_mem' q
      · rcases lookup_relabel (env := X.env) z with q | ⟨q, _⟩
        · exact lookup_mem' q
        · cases q
    · intro a c hf; cases hf
    · intro b hb
      refine ⟨Nat.ne_of_lt (fpl b hb), fun a c h1 => (f3 b hb).2.2.2.2.1 a c (hsub a c h1)⟩
    · exact I3.bs
    · exact Nat.le_trans I.ok.bsz I3.sz
    · intro b o e hb
      rcases (f3 b hb).2.2.2.1 with z | z
      · exact I.ok.noex b o e z
      · exact absurd (Nat.lt_of_lt_of_le (Heap.lt_size e) (Nat.le_trans I.ok.bsz z)) (Nat.lt_irrefl _)
    · exact nstk
    · exact I3.stack
    · exact I3.stkFree
  have Y0 : Inv (blkG X scope cl C (ns ++ N2) { s2 with heap := hp3 } H3 fp) [] (List.replicate ns.length none ++ f σ) H3 { s2 with heap := h₁, toks := s2.toks + ([] : List (Str × Value)).length } := by
    refine ⟨YOk, rfl, I3.bare, Un.kept old, ⟨_, hns₁, ?_⟩, ?_, ?_, ?_, fun p hp => by simp [blkG] at hp, I3.hok.kept old, ?_⟩
    · intro i y v e1 e2 e3
      by_cases hin : i < ns.length
      · rw [List.getElem?_append_left (by rw [List.length_replicate]; exact hin), List.getElem?_replicate, if_pos hin] at e2
        simp at e2
      · obtain ⟨i, rfl⟩ : ∃ k, i = ns.length + k := ⟨i - ns.length, by omega⟩
        have e1a : (ns ++ N2)[ns.length + i]? = some y := e1
        rw [List.getElem?_append_right (by omega), Nat.add_sub_cancel_left] at e1a
        rw [List.getElem?_append_right (by rw [List.length_replicate]; omega), List.length_replicate, Nat.add_sub_cancel_left] at e2
        obtain ⟨e1', e2', hout⟩ := ok.out σ i y v e1a e2
        have hfree : (y, NameKind.free) ∈ scope.names := by
          have key : ∀ k, (relabel scope X.env).names.lookup y = some k → k ≠ .local → k = .cell ∨ k = .free → (y, NameKind.free) ∈ scope.names := fun k q n hk => by
            rcases lookup_relabel (env := X.env) q with z | ⟨_, z⟩
            · rcases hk with rfl | rfl
              · exact absurd rfl (ok.ncell _ (lookup_mem' z))
              · exact lookup_mem' z
            · exact lookup_mem' z
          rcases e3 with z | z | z
          · rcases lookup_relabel (env := X.env) z with q | ⟨q, _⟩
            · exact absurd q hout
            · cases q
          · exact key _ z (by decide) (.inl rfl)
          · exact key _ z (by decide) (.inr rfl)
        have hk := ok.free _ hfree rfl
        obtain ⟨m, hn, hl⟩ := I3.loc
        obtain ⟨u, r, q⟩ := hl i y v e1' e2' (by rcases hk with z | z; exact .inr (.inl z); exact .inr (.inr z))
        refine ⟨u, r, .inr ⟨?_, ?_⟩⟩
        · rcases e3 with z | z | z
          · rcases lookup_relabel (env := X.env) z with q | ⟨q, _⟩
            · exact absurd q hout
            · cases q
          · exact .inl z
          · exact .inr z
        · rcases q with ⟨z, _⟩ | ⟨_, c, hc', hcell⟩
          · rcases hk with q | q <;> (rw [z] at q; cases q)
          · obtain ⟨c', hc2⟩ := hall y hfree
            have : c' = c := by have := hsub y c' hc2; rw [hc'] at this; exact (Option.some.inj this).symm
            subst this
            obtain ⟨o, ho, hd⟩ := hcell
            exact ⟨c', hc2, o, old _ _ ho, hd⟩
    · intro a c h1
      obtain ⟨v, o, ho, hd⟩ := I3.cell a c (hsub a c h1)
      exact ⟨v, o, old _ _ ho, hd⟩
    · show H3 C = none
      exact I3.hok.fresh (Nat.le_of_eq hC)
    · exact fun a c h1 => I3.freeC a c (hsub a c h1)
    · show (List.replicate ns.length none ++ f σ).length = (ns ++ N2).length
      rw [List.length_append, List.length_append, List.length_replicate, ok.lenf, I.len, ok.lenN]
  -- behind the block
  have back : ∀ (s' : Shared) (v : St) (H' : Hp) (h' : Heap), Inv (blkG X scope cl C (ns ++ N2) { s2 with heap := hp3 } H3 fp) [] v H' s' → Heap.SameBut C s'.heap h' → (∀ b ∈ fp, H' b = none) → Inv X pins σ H' { s' with heap := h' } := by
    intro s' v H' h' I' sb fr
    have neC : ∀ b o, hp3.get? b = some o → b ≠ C := fun b o e => by rw [← hC]; exact Nat.ne_of_lt (Heap.lt_size e)
    have U : Un (frs X.stack) fp H3 H' hp3 s'.heap := I'.base
    refine I3.call' (ch := fp) (H' := H') (s' := { s' with heap := h' }) I'.os ⟨fun b o e n h1 h2 => (sb.2 b (neC b o e)).trans (U.keep b o e n h1 h2), fun b o e n h1 h2 => ?_, U.free, fun b o e h2 => ?_, U.tups, U.frzs, U.tbls⟩ (fun b ob e => ?_) I'.bare fun b hb => ?_
    · obtain ⟨sl, q⟩ := U.slot b o e n h1 h2
      exact ⟨sl, (sb.2 b (neC b o e)).trans q⟩
    · obtain ⟨o', q⟩ := U.there b o e h2
      exact ⟨o', (sb.2 b (neC b o e)).trans q⟩
    · have fC : H' C = none := I'.free
      refine (I'.hok b ob e).stay (fun c w' hc q => (sb.2 c ?_).trans q) (fun _ q => q) fun _ _ q => q
      rintro rfl
      rcases hc with rfl | hc
      · rw [fC] at e; cases e
      · rw [fC] at hc; cases hc
    · obtain ⟨_, g1, _, g3, g4, g5⟩ := f3 b hb
      exact ⟨g3, g1, g4, g5⟩
  have stat : ∀ {H' : Hp}, (∀ b ∈ fp, H' b = none) → ∀ b ∈ fp, FpOk (blkG X scope cl C (ns ++ N2) { s2 with heap := hp3 } H3 fp) [] H' b := fun hn b hb =>
    ⟨hn b hb, Nat.ne_of_lt (fpl b hb), nstk b hb, .inl hb, fun a c h1 => (f3 b hb).2.2.2.2.1 a c (hsub a c h1), fun p hp => by simp [blkG] at hp⟩
  have st₁ : tn 0 h₁ := T.keep _ _ _ st2 fun b _ o e => old b o (by rw [← hs3]; exact Heap.get?_push_of_some _ e)
  have loop : codeAny (model X.prog X.w) X.A (.compLoop (.ListComp elt [⟨tg, iter, ifs, 0⟩] scope pos) 0 (.ref it) (.ref D) (compEnvC scope cl C X.env)) (compPost (model X.prog X.w) X.A X.xe none (EP X pins σ Q) (.ref D) C)
      { s2 with heap := h₁, toks := s2.toks + ([] : List (Str × Value)).length } := by
    refine compLoop_T (fun n s' => ∃ i v ys H', v.length = ns.length ∧ Inv (blkG X scope cl C (ns ++ N2) { s2 with heap := hp3 } H3 fp) [] (v ++ f σ) H' s' ∧ tn i s'.heap ∧ (∀ b ∈ fp, H' b = none) ∧ W i n ys H') ?_ m0 ⟨0, List.replicate ns.length none, [], H3, List.length_replicate, Y0, st₁, fun b hb => (f3 b hb).1, w0⟩
    rintro n s4 ⟨i, v, ys, H4, hv4, I4, st4, fr4, w4⟩
    rcases turn i n ys H4 w4 with ⟨stop, qn⟩ | ⟨go, step⟩
    · refine thn (T.done (blkG X scope cl C (ns ++ N2) { s2 with heap := hp3 } H3 fp) rfl rfl rfl hc i [] s4 (v ++ f σ) H4 _ I4 (stat fr4) st4 stop) fun r s5 ⟨hr, I5⟩ => ?_
      subst hr
      obtain ⟨m, hn, _⟩ := id I5.loc
      exact ⟨m, hn, fun h' sb => ⟨.ref D, H4, back s5 (v ++ f σ) H4 h' I5 sb fr4, rfl, qn⟩⟩
    · refine thn (T.item (blkG X scope cl C (ns ++ N2) { s2 with heap := hp3 } H3 fp) rfl rfl rfl hc i [] s4 (v ++ f σ) H4 _ I4 (stat fr4) st4 go) fun r s5 ⟨u, hr, h5⟩ => ?_
      subst hr
      refine thn h5 fun _ s6 ⟨y, H6, I6, r6, y6, st6, fr6⟩ => ?_
      have I6' := I6.pinned (stat fr6) (T.obj _ _ st6)
      refine thn (hg cl C { s2 with heap := hp3 } H3 fp _ s6 v (f σ) H6 y u _ hv4 I6' r6 (step y H6 y6)) fun _ s7 ⟨pre, hpre, I7', q7⟩ => ?_
      refine thn (ht cl C { s2 with heap := hp3 } H3 fp _ s7 _ H6 _ I7' q7) fun b s8 ⟨H8, I8, q8⟩ => ?_
      have keepIt : ∀ {σ' : St} {H' : Hp} {s' : Shared}, Inv (blkG X scope cl C (ns ++ N2) { s2 with heap := hp3 } H3 fp) ([] ++ pinsAt fp s6.heap) σ' H' s' → tn (i + 1) s'.heap ∧ ∀ b ∈ fp, H' b = none := fun {σ' H' s'} I9 => by
        refine ⟨T.keep _ _ _ st6 fun b hb o e => (I9.pin (b, o) (List.mem_append_right _ (List.mem_append_right _ (mem_pinsAt hb e)))).1, fun b hb => ?_⟩
        obtain ⟨o, e, d⟩ := T.obj _ _ st6 b hb
        exact (I9.pin (b, o) (List.mem_append_right _ (List.mem_append_right _ (mem_pinsAt hb e)))).2.1
      cases b with
      | false =>
        obtain ⟨m', hm, w'⟩ := q8
        obtain ⟨k1, k2⟩ := keepIt I8
        exact ⟨m', hm, i + 1, pre, ys, H8, hpre, I8.unpinned, k1, k2, w'⟩
      | true =>
        have q8' : te (pre ++ f σ) H8 _ := q8
        show wpAny _ _ (eval elt _) _ _ _
        refine thn (he cl C { s2 with heap := hp3 } H3 fp _ s8 _ H8 _ I8 q8') fun z s9 ⟨zv, H9, I9, r9, hD9, hz9, m', hm, w'⟩ => ?_
        refine thn (mt_append (X := blkG X scope cl C (ns ++ N2) { s2 with heap := hp3 } H3 fp) _ s9 _ H9 (.ref D) [zv] (.ref D) [z] (fun _ H' => H' = upd H9 D (.lst (ys ++ [zv]))) I9 rfl (.cons r9 .nil) ⟨D, ys, zv, rfl, rfl, hD9, hz9, rfl⟩) fun _ s10 ⟨_, H10, I10, _, e10⟩ => ?_
        subst e10
        obtain ⟨k1, k2⟩ := keepIt I10
        exact ⟨m', hm, i + 1, pre, ys ++ [zv], _, hpre, I10.unpinned, k1, k2, w'⟩
  exact codeAny_compStart_list loop (T.self X.A 0 _ _ _ st₁ loop)
end L2
namespace L2
open PySem PySem.Spec PyProof.Rows
def hideS (ks : List Nat) : Nat → St → St
  | _, [] => []
  | i, v :: r => (if ks.contains i = true then none else v) :: hideS ks (i + 1) r
theorem hideS_len (ks : List Nat) : ∀ (i : Nat) (σ : St), (hideS ks i σ).length = σ.length
  | _, [] => rfl
  | i, _ :: r => by rw [hideS, List.length_cons, List.length_cons, hideS_len ks (i + 1) r]
theorem hideS_get (ks : List Nat) : ∀ (i : Nat) (σ : St) (j : Nat) (v : V), (hideS ks i σ)[j]? = some (some v) → ks.contains (i + j) = false ∧ σ[j]? = some (some v)
  | _, [], j, v, h => by simp [hideS] at h
  | i, x :: r, 0, v, h => by
    rw [hideS] at h
    cases e : ks.contains i with
    | true => rw [e] at h; simp at h
    | false => rw [e] at h; exact ⟨by first | rfl | exact e, by simpa using h⟩
  | i, x :: r, j + 1, v, h => by
    rw [hideS, List.getElem?_cons_succ] at h
    obtain ⟨a, b⟩ := hideS_get ks (i + 1) r j v h
    exact ⟨by rw [show i + (j + 1) = i + 1 + j by omega]; exact a, by rw [List.getElem?_cons_succ]; exact b⟩
def chkG (sc : Scope) (N : List Str) (scope : Scope) (N2 : List Str) (ks : List Nat) : Bool :=
  scope.kind == .function && scope.names.all (fun y => y.2 != .cell) && scope.names.all (fun y => y.2 != .local || scope.names.lookup y.1 == some .local) &&
  scope.names.all (fun y => y.2 != .free || sc.names.lookup y.1 == some .cell || sc.names.lookup y.1 == some .free) && N2.length == N.length &&
  (List.range N.length).all (fun i => ks.contains i || (N2[i]? == N[i]? && (N[i]?.map fun y => scope.names.lookup y != some .local) == some true))
theorem CompG.of {X : Cx} {scope : Scope} {ns : List Str} (N2 : List Str) (ks : List Nat) (h : chkG X.env.scope X.N scope N2 ks = true) : CompG X scope ns N2 (hideS ks 0) := by
  unfold chkG at h
  simp only [Bool.and_eq_true, List.all_eq_true, Bool.or_eq_true, bne_iff_ne, beq_iff_eq, ne_eq] at h
  obtain ⟨⟨⟨⟨⟨h1, h2⟩, h3⟩, h5⟩, h6⟩, h7⟩ := h
  refine ⟨h1, fun y hy => h2 y hy, fun y hy e => (h3 y hy).resolve_left fun z => z e, fun y hy e => ?_, hideS_len ks 0, h6, fun σ i y v e1 e2 => ?_⟩
  · rcases h5 y hy with (z | z) | z
    · exact absurd e z
    · exact .inl z
    · exact .inr z
  · obtain ⟨a, b⟩ := hideS_get ks 0 σ i v e2
    rw [Nat.zero_add] at a
    have hi : i < X.N.length := by rw [← h6]; exact (List.getElem?_eq_some_iff.mp e1).1
    rcases h7 i (List.mem_range.mpr hi) with z | ⟨z1, z2⟩
    · rw [a] at z; cases z
    · rw [← z1, e1] at z2
      rw [z1] at e1
      exact ⟨e1, b, by simpa using z2⟩
theorem tg_name {X : Cx} {scope : Scope} {cl : List (Str × Addr)} {C : Addr} {N : List Str} {s₀ : Shared} {H₀ : Hp} {fp : List Addr} {x : Str} {pos : Pos} (hN : N.Nodup) (h0 : N[0]? = some x) (hx : scope.names.lookup x = some .local) :
    PTg (blkG X scope cl C N s₀ H₀ fp) (.Name x pos) 1 (fun v _ Q => Q [some v]) := by
  intro pins s pre rest H v u Q hp I r q
  obtain ⟨p0, rfl⟩ := List.length_eq_one_iff.mp hp
  refine thn (pg_name (X := blkG X scope cl C N s₀ H₀ fp) (i := 0) hN h0 (.inl (lookup_relabel_local hx)) (.inr (lookup_relabel_local hx)) pins s _ H v u (fun σ' H' => H' = H ∧ σ' = some v :: rest) I r ⟨rfl, rfl⟩) fun _ s' ⟨σ', H', I', e1, e2⟩ => ?_
  subst e1 e2
  exact ⟨[some v], rfl, I', q⟩
theorem tg_tup3 {X : Cx} {scope : Scope} {cl : List (Str × Addr)} {C : Addr} {N : List Str} {s₀ : Shared} {H₀ : Hp} {fp : List Addr} {x y z : Str} {px py pz pos : Pos} {k : Nat} (K : PySem.W.Frag) (hc : X.calm = true) (hN : N.Nodup) (h0 : N[0]? = some x) (h1 : N[1]? = some y) (h2 : N[2]? = some z) (hx : scope.names.lookup x = some .local) (hy : scope.names.lookup y = some .local) (hz : scope.names.lookup z = some .local) (hK : X.K = K := by rfl) :
    PTg (blkG X scope cl C N s₀ H₀ fp) (.Tuple [.Name x px, .Name y py, .Name z pz] k pos) 3 (fun v H Q => ∃ a p q r, v = .ref a ∧ SqT K H a [p, q, r] ∧ Q [some p, some q, some r]) := by
  subst hK
  intro pins s pre rest H v u Q hp I r q
  obtain ⟨a, p, q', r', rfl, hq, q⟩ := q
  obtain ⟨p0, p1, p2, rfl⟩ : ∃ p0 p1 p2, pre = [p0, p1, p2] := by
    match pre, hp with
    | [p0, p1, p2], _ => exact ⟨p0, p1, p2, rfl⟩
  have P : PG (blkG X scope cl C N s₀ H₀ fp) (.Tuple [.Name x px, .Name y py, .Name z pz] k pos) (gTup X.K 3 (gCons (gName 0) (gCons (gName 1) (gCons (gName 2) gNil)))) := pg_tup (X := blkG X scope cl C N s₀ H₀ fp) hc (pgs_cons (pg_name (i := 0) hN h0 (.inl (lookup_relabel_local hx)) (.inr (lookup_relabel_local hx))) (pgs_cons (pg_name (i := 1) hN h1 (.inl (lookup_relabel_local hy)) (.inr (lookup_relabel_local hy))) (pgs_cons (pg_name (i := 2) hN h2 (.inl (lookup_relabel_local hz)) (.inr (lookup_relabel_local hz))) pgs_nil)))
  refine thn (P pins s _ H (.ref a) u (fun σ' H' => H' = H ∧ σ' = some p :: some q' :: some r' :: rest) I r
    ⟨a, [p, q', r'], rfl, hq, rfl, p, [q', r'], rfl, q', [r'], rfl, r', [], rfl, rfl, rfl, rfl⟩) fun _ s' ⟨σ', H', I', e1, e2⟩ => ?_
  subst e1 e2
  exact ⟨[some p, some q', some r'], rfl, I', q⟩
theorem qe_compG {X : Cx} {elt iter tg : Expr} {ns N2 : List Str} {f : St → St} {TP : V → Hp → (St → Prop) → Prop} {ifs : List Expr} {scope : Scope} {pos : Pos} {wi : TI} {tt : TT} {te : TE} (hc : X.calm = true) (ok : CompG X scope ns N2 f) (hi : QI X tg iter wi)
    (hg : ∀ cl C s₀ H₀ fp, PTg (blkG X scope cl C (ns ++ N2) s₀ H₀ fp) tg ns.length TP)
    (ht : ∀ cl C s₀ H₀ fp, QTs (blkG X scope cl C (ns ++ N2) s₀ H₀ fp) ifs tt) (he : ∀ cl C s₀ H₀ fp, QE (blkG X scope cl C (ns ++ N2) s₀ H₀ fp) elt te)
    (hs : ∀ x, foldedSetIterable iter X.env x = pure x := by intro _; rfl) : QE X (.ListComp elt [⟨tg, iter, ifs, 0⟩] scope pos) (tCompG f ns.length wi TP tt te) :=
  ⟨pe_compG hc ok hi.out hg (fun cl C s₀ H₀ fp => (ht cl C s₀ H₀ fp).out) (fun cl C s₀ H₀ fp => (he cl C s₀ H₀ fp).out) hs⟩
def TurnG (n i : Nat) (D : Addr) (TP : V → Hp → (St → Prop) → Prop) (f : St → St) (σ : St) (tt : TT) (te : TE) (x : V) (H : Hp) (ys : List V) (P : List V → Hp → Prop) : Prop :=
  TP x H fun pre => tt (pre ++ f σ) H fun b H2 => if b = true then te (pre ++ f σ) H2 fun y H3 => H3 D = some (.lst ys) ∧ ys.length < sizeLine ∧ Nxt n i (P (ys ++ [y]) (upd H3 D (.lst (ys ++ [y])))) else Nxt n i (P ys H2)
theorem compG1_list {K : PySem.W.Frag} {a : Addr} {xs : List V} {D : Addr} {f : St → St} {tt : TT} {te : TE} {σ : St} {H : Hp} {R : Hp → Prop} (Pv : Nat → List V → Hp → Prop) (h0 : Pv 0 [] (upd H D (.lst []))) (hl : ∀ i ys H, i ≤ xs.length → Pv i ys H → SqL K H a xs)
    (hs : ∀ i x ys H, xs[i]? = some x → Pv i ys H → TurnG xs.length i D (fun v _ Q => Q [some v]) f σ tt te x H ys (Pv (i + 1)))
    (hd : ∀ ys H, Pv xs.length ys H → R H) :
    ∃ W : Nat → Nat → List V → Hp → Prop, (∃ m, W 0 m [] (upd H D (.lst []))) ∧
      ∀ i m ys H, W i m ys H → ((Itl K a).stop i H ∧ R H) ∨ ((Itl K a).go i H ∧ ∀ x H', (Itl K a).yld i H x H' → tt ([some x] ++ f σ) H' fun b H2 =>
        if b = true then te ([some x] ++ f σ) H2 fun y H3 => H3 D = some (.lst ys) ∧ ys.length < sizeLine ∧ ∃ m', m' < m ∧ W (i + 1) m' (ys ++ [y]) (upd H3 D (.lst (ys ++ [y])))
        else ∃ m', m' < m ∧ W (i + 1) m' ys H2) := by
  refine ⟨fun i m ys H => m = xs.length - i ∧ i ≤ xs.length ∧ Pv i ys H, ⟨xs.length, by simp, Nat.zero_le _, h0⟩, ?_⟩
  rintro i m ys H ⟨rfl, hi, p⟩
  have q := hl i ys H hi p
  by_cases hlt : i < xs.length
  · refine .inr ⟨⟨xs, xs[i], q, by simp [hlt]⟩, fun x H' y => ?_⟩
    obtain ⟨e, y⟩ := y
    subst e
    exact hs i x ys H' (y xs q) p
  · have e : i = xs.length := by omega
    subst e
    exact .inl ⟨⟨xs, q, Nat.le_refl _⟩, hd ys H p⟩
theorem compG1_tup {K : PySem.W.Frag} {a : Addr} {xs : List V} {D : Addr} {f : St → St} {tt : TT} {te : TE} {σ : St} {H : Hp} {R : Hp → Prop} (Pv : Nat → List V → Hp → Prop) (h0 : Pv 0 [] (upd H D (.lst []))) (hl : ∀ i ys H, i ≤ xs.length → Pv i ys H → SqT K H a xs)
    (hs : ∀ i x ys H, xs[i]? = some x → Pv i ys H → TurnG xs.length i D (fun v _ Q => Q [some v]) f σ tt te x H ys (Pv (i + 1)))
    (hd : ∀ ys H, Pv xs.length ys H → R H) :
    ∃ W : Nat → Nat → List V → Hp → Prop, (∃ m, W 0 m [] (upd H D (.lst []))) ∧
      ∀ i m ys H, W i m ys H → ((Itt K a).stop i H ∧ R H) ∨ ((Itt K a).go i H ∧ ∀ x H', (Itt K a).yld i H x H' → tt ([some x] ++ f σ) H' fun b H2 =>
        if b = true then te ([some x] ++ f σ) H2 fun y H3 => H3 D = some (.lst ys) ∧ ys.length < sizeLine ∧ ∃ m', m' < m ∧ W (i + 1) m' (ys ++ [y]) (upd H3 D (.lst (ys ++ [y])))
        else ∃ m', m' < m ∧ W (i + 1) m' ys H2) := by
  refine ⟨fun i m ys H => m = xs.length - i ∧ i ≤ xs.length ∧ Pv i ys H, ⟨xs.length, by simp, Nat.zero_le _, h0⟩, ?_⟩
  rintro i m ys H ⟨rfl, hi, p⟩
  have q := hl i ys H hi p
  by_cases hlt : i < xs.length
  · refine .inr ⟨⟨xs, xs[i], q, by simp [hlt]⟩, fun x H' y => ?_⟩
    obtain ⟨e, y⟩ := y
    subst e
    exact hs i x ys H' (y xs q) p
  · have e : i = xs.length := by omega
    subst e
    exact .inl ⟨⟨xs, q, Nat.le_refl _⟩, hd ys H p⟩
theorem compG1_str {l : List Nat} {D : Addr} {f : St → St} {tt : TT} {te : TE} {σ : St} {H : Hp} {R : Hp → Prop} (Pv : Nat → List V → Hp → Prop) (h0 : Pv 0 [] (upd H D (.lst []))) (hs : ∀ i c ys H, l[i]? = some c → Pv i ys H → TurnG l.length i D (fun v _ Q => Q [some v]) f σ tt te (.str (S [c])) H ys (Pv (i + 1)))
    (hd : ∀ ys H, Pv l.length ys H → R H) :
    ∃ W : Nat → Nat → List V → Hp → Prop, (∃ m, W 0 m [] (upd H D (.lst []))) ∧
      ∀ i m ys H, W i m ys H → ((Its l).stop i H ∧ R H) ∨ ((Its l).go i H ∧ ∀ x H', (Its l).yld i H x H' → tt ([some x] ++ f σ) H' fun b H2 =>
        if b = true then te ([some x] ++ f σ) H2 fun y H3 => H3 D = some (.lst ys) ∧ ys.length < sizeLine ∧ ∃ m', m' < m ∧ W (i + 1) m' (ys ++ [y]) (upd H3 D (.lst (ys ++ [y])))
        else ∃ m', m' < m ∧ W (i + 1) m' ys H2) := by
  refine ⟨fun i m ys H => m = l.length - i ∧ i ≤ l.length ∧ Pv i ys H, ⟨l.length, by simp, Nat.zero_le _, h0⟩, ?_⟩
  rintro i m ys H ⟨rfl, hi, p⟩
  by_cases hlt : i < l.length
  · refine .inr ⟨hlt, fun x H' y => ?_⟩
    obtain ⟨e, c, hc, e2⟩ := y
    subst e e2
    exact hs i c ys H' hc p
  · have e : i = l.length := by omega
    subst e
    exact .inl ⟨Nat.le_refl _, hd ys H p⟩
theorem compG3_tup {K : PySem.W.Frag} {a : Addr} {xs : List V} {D : Addr} {f : St → St} {KT : PySem.W.Frag} {tt : TT} {te : TE} {σ : St} {H : Hp} {R : Hp → Prop} (Pv : Nat → List V → Hp → Prop) (h0 : Pv 0 [] (upd H D (.lst []))) (hl : ∀ i ys H, i ≤ xs.length → Pv i ys H → SqT K H a xs)
    (hs : ∀ i x ys H, xs[i]? = some x → Pv i ys H → TurnG xs.length i D (fun v H Q => ∃ a p q r, v = .ref a ∧ SqT KT H a [p, q, r] ∧ Q [some p, some q, some r]) f σ tt te x H ys (Pv (i + 1)))
    (hd : ∀ ys H, Pv xs.length ys H → R H) :
    ∃ W : Nat → Nat → List V → Hp → Prop, (∃ m, W 0 m [] (upd H D (.lst []))) ∧
      ∀ i m ys H, W i m ys H → ((Itt K a).stop i H ∧ R H) ∨ ((Itt K a).go i H ∧ ∀ x H', (Itt K a).yld i H x H' → ∃ a p q r, x = .ref a ∧ SqT KT H' a [p, q, r] ∧ (tt ([some p, some q, some r] ++ f σ) H' fun b H2 =>
        if b = true then te ([some p, some q, some r] ++ f σ) H2 fun y H3 => H3 D = some (.lst ys) ∧ ys.length < sizeLine ∧ ∃ m', m' < m ∧ W (i + 1) m' (ys ++ [y]) (upd H3 D (.lst (ys ++ [y])))
        else ∃ m', m' < m ∧ W (i + 1) m' ys H2)) := by
  refine ⟨fun i m ys H => m = xs.length - i ∧ i ≤ xs.length ∧ Pv i ys H, ⟨xs.length, by simp, Nat.zero_le _, h0⟩, ?_⟩
  rintro i m ys H ⟨rfl, hi, p⟩
  have q := hl i ys H hi p
  by_cases hlt : i < xs.length
  · refine .inr ⟨⟨xs, xs[i], q, by simp [hlt]⟩, fun x H' y => ?_⟩
    obtain ⟨e, y⟩ := y
    subst e
    exact hs i x ys H' (y xs q) p
  · have e : i = xs.length := by omega
    subst e
    exact .inl ⟨⟨xs, q, Nat.le_refl _⟩, hd ys H p⟩
theorem turn1 {n i : Nat} {D : Addr} {f : St → St} {σ : St} {te : TE} {x : V} {H : Hp} {ys : List V} {P : List V → Hp → Prop} (h : te ([some x] ++ f σ) H fun y H3 => H3 D = some (.lst ys) ∧ ys.length < sizeLine ∧ Nxt n i (P (ys ++ [y]) (upd H3 D (.lst (ys ++ [y]))))) :
    TurnG n i D (fun v _ Q => Q [some v]) f σ tYes te x H ys P := by
  show (if true = true then (te ([some x] ++ f σ) H fun y H3 => H3 D = some (.lst ys) ∧ ys.length < sizeLine ∧ Nxt n i (P (ys ++ [y]) (upd H3 D (.lst (ys ++ [y]))))) else Nxt n i (P ys H))
  rw [if_pos rfl]
  exact h
theorem turn3 {KT : PySem.W.Frag} {n i : Nat} {D a : Addr} {p q r : V} {f : St → St} {σ : St} {te : TE} {x : V} {H : Hp} {ys : List V} {P : List V → Hp → Prop} (hx : x = .ref a) (hS : SqT KT H a [p, q, r]) (h : te ([some p, some q, some r] ++ f σ) H fun y H3 => H3 D = some (.lst ys) ∧ ys.length < sizeLine ∧ Nxt n i (P (ys ++ [y]) (upd H3 D (.lst (ys ++ [y]))))) :
    TurnG n i D (fun v H Q => ∃ a p q r, v = .ref a ∧ SqT KT H a [p, q, r] ∧ Q [some p, some q, some r]) f σ tYes te x H ys P := by
  refine ⟨a, p, q, r, hx, hS, ?_⟩
  show (if true = true then (te ([some p, some q, some r] ++ f σ) H fun y H3 => H3 D = some (.lst ys) ∧ ys.length < sizeLine ∧ Nxt n i (P (ys ++ [y]) (upd H3 D (.lst (ys ++ [y]))))) else Nxt n i (P ys H))
  rw [if_pos rfl]
  exact h
end L2
end

section
set_option Elab.async false
set_option linter.all false
set_option maxRecDepth 100000
namespace L2
open PySem PySem.Spec PyProof.Rows
section
variable {X : Cx}
def tCut (t : TS) : TS := fun D σ H => ∃ Iv : St → Hp → Prop, t { D with nx := Iv } σ H ∧ ∀ σ' H', Iv σ' H' → D.nx σ' H'
theorem qs_cut {st : Stmt} {t : TS} (h : QS X st t) : QS X st (tCut t) := ⟨fun pins s σ H D I ⟨Iv, a, b⟩ => by
  refine thn (h.out pins s σ H _ I a) fun f s' q => ?_
  cases f with
  | next => obtain ⟨σ7, H7, I7, n7⟩ := q; exact ⟨σ7, H7, I7, b _ _ n7⟩
  | cont => exact q
  | brk => exact q
  | ret v => exact q⟩
end
end L2
end

section
set_option Elab.async false
set_option linter.all false
set_option maxRecDepth 100000
namespace L2
open PySem PySem.Spec PyProof.Rows PySem.W
def Sem' {α : Type} (I : Nat → Prop) (lt : Nat → Nat → Bool) : KasT α → (α → Prop) → Prop
  | .ret a, Q => Q a
  | .ask i j k, Q => I i ∧ I j ∧ Sem' I lt (k (lt i j)) Q
theorem Sem'.bind {α β : Type} {I : Nat → Prop} {lt : Nat → Nat → Bool} {f : α → KasT β} {Q : β → Prop} : ∀ (t : KasT α), Sem' I lt t (fun a => Sem' I lt (f a) Q) → Sem' I lt (t.bind f) Q
  | .ret _, h => h
  | .ask i j k, h => ⟨h.1, h.2.1, Sem'.bind (k (lt i j)) h.2.2⟩
theorem Sem'.mono {α : Type} {I : Nat → Prop} {lt : Nat → Nat → Bool} {Q Q' : α → Prop} (hq : ∀ a, Q a → Q' a) : ∀ (t : KasT α), Sem' I lt t Q → Sem' I lt t Q'
  | .ret _, h => hq _ h
  | .ask i j k, h => ⟨h.1, h.2.1, Sem'.mono hq (k (lt i j)) h.2.2⟩
theorem Sem'.wp {α : Type} {I : Nat → Prop} {lt : Nat → Nat → Bool} {cmp : Nat → Nat → (Bool → Shared → Prop) → Shared → Prop} {s : Shared} (hc : ∀ i j C, I i → I j → C (lt i j) s → cmp i j C s) {Q : α → Prop} {R : α → Shared → Prop} (hr : ∀ a, Q a → R a s) :
    ∀ (t : KasT α), Sem' I lt t Q → t.kasWp cmp R s
  | .ret _, h => hr _ h
  | .ask i j k, h => hc i j _ h.1 h.2.1 (Sem'.wp hc hr (k (lt i j)) h.2.2)
section
variable {n : Nat} {r : Nat → Nat}
structure PermA (n : Nat) (p : Array Nat) : Prop where
  sz : p.size = n
  pm : p.toList.Perm (List.range n)
theorem PermA.lt {p : Array Nat} (h : PermA n p) {i : Nat} (hi : i < n) : p.getD i 0 < n := by
  have hs := h.sz
  have e : p.getD i 0 = p[i] := by simp [Array.getD, hs, hi]
  rw [e]
  exact List.mem_range.mp (h.pm.mem_iff.mp (by simp))
theorem PermA.inj {p : Array Nat} (h : PermA n p) {i j : Nat} (hi : i < n) (hj : j < n) (e : p.getD i 0 = p.getD j 0) : i = j := by
  have hs := h.sz
  have nd : p.toList.Nodup := h.pm.symm.nodup List.nodup_range
  have e1 : p.getD i 0 = p.toList[i]'(by simp; omega) := by simp [Array.getD, hs, hi]
  have e2 : p.getD j 0 = p.toList[j]'(by simp; omega) := by simp [Array.getD, hs, hj]
  rw [e1, e2] at e
  have pw := List.pairwise_iff_getElem.mp nd
  rcases Nat.lt_trichotomy i j with z | z | z
  · exact absurd e (pw i j (by simp; omega) (by simp; omega) z)
  · exact z
  · exact absurd e.symm (pw j i (by simp; omega) (by simp; omega) z)
abbrev RR (r : Nat → Nat) (p : Array Nat) (i : Nat) : Nat := r (p.getD i 0)
abbrev ltR (r : Nat → Nat) : Nat → Nat → Bool := fun i j => decide (r i < r j)
def SortT (r : Nat → Nat) (p : Array Nat) (k : Nat) : Prop := ∀ i j, i < j → j < k → RR r p i < RR r p j
def DescT (r : Nat → Nat) (p : Array Nat) (k : Nat) : Prop := ∀ i j, i < j → j < k → RR r p j < RR r p i
def InjR (n : Nat) (r : Nat → Nat) : Prop := ∀ i j, i < n → j < n → r i = r j → i = j
theorem RR_ne (hr : InjR n r) {p : Array Nat} (h : PermA n p) {i j : Nat} (hi : i < n) (hj : j < n) (hne : i ≠ j) : RR r p i ≠ RR r p j := fun e => hne (h.inj hi hj (hr _ _ (h.lt hi) (h.lt hj) e))
theorem asc_sem (hr : InjR n r) {p : Array Nat} (hp : PermA n p) : ∀ f m : Nat, 1 ≤ m → m + f ≤ n → SortT r p m → Sem' (· < n) (ltR r) (kas_asc p f m) (fun m' => m ≤ m' ∧ m' ≤ m + f ∧ SortT r p m' ∧ (m' = m + f ∨ (m' < n ∧ RR r p m' < RR r p (m' - 1))))
  | 0, m, _, _, hs => ⟨Nat.le_refl _, Nat.le_refl _, hs, .inl rfl⟩
  | f + 1, m, h1, hf, hs => by
    refine ⟨hp.lt (by omega), hp.lt (by omega), ?_⟩
    show Sem' _ _ (if decide (RR r p m < RR r p (m - 1)) = true then KasT.ret m else kas_asc p f (m + 1)) _
    by_cases c : RR r p m < RR r p (m - 1)
    · rw [decide_eq_true c, if_pos rfl]
      exact ⟨Nat.le_refl _, by omega, hs, .inr ⟨by omega, c⟩⟩
    · rw [decide_eq_false c, if_neg Bool.false_ne_true]
      have ne := RR_ne hr hp (i := m) (j := m - 1) (by omega) (by omega) (by omega)
      refine Sem'.mono (fun m' h => ⟨by omega, by omega, h.2.2.1, ?_⟩) _ (asc_sem hr hp f (m + 1) (by omega) (by omega) fun i j hij hj => ?_)
      · rcases h.2.2.2 with z | z
        · exact .inl (by omega)
        · exact .inr z
      · by_cases ej : j = m
        · subst ej
          by_cases ei : i = j - 1
          · subst ei; omega
          · have := hs i (j - 1) (by omega) (by omega); omega
        · exact hs i j hij (by omega)
theorem desc_sem (hr : InjR n r) {p : Array Nat} (hp : PermA n p) : ∀ f m : Nat, 2 ≤ m → m + f ≤ n → DescT r p m → Sem' (· < n) (ltR r) (kas_desc f p m 0) (fun x => ∃ m', x = (p, m', 0) ∧ m ≤ m' ∧ m' ≤ m + f ∧ DescT r p m')
  | 0, m, _, _, hs => ⟨m, rfl, Nat.le_refl _, Nat.le_refl _, hs⟩
  | f + 1, m, h1, hf, hs => by
    refine ⟨hp.lt (by omega), hp.lt (by omega), ?_⟩
    have ne := RR_ne hr hp (i := m) (j := m - 1) (by omega) (by omega) (by omega)
    show Sem' _ _ (if decide (RR r p m < RR r p (m - 1)) = true then (if 0 > 0 then _ else kas_desc f p (m + 1) 0) else _) _
    by_cases c : RR r p m < RR r p (m - 1)
    · rw [decide_eq_true c, if_pos rfl, if_neg (by omega)]
      refine Sem'.mono (fun x ⟨m', e, a, b, d⟩ => ⟨m', e, by omega, by omega, d⟩) _ (desc_sem hr hp f (m + 1) (by omega) (by omega) fun i j hij hj => ?_)
      by_cases ej : j = m
      · subst ej
        by_cases ei : i = j - 1
        · subst ei; omega
        · have := hs i (j - 1) (by omega) (by omega); omega
      · exact hs i j hij (by omega)
    · rw [decide_eq_false c, if_neg Bool.false_ne_true]
      refine ⟨hp.lt (by omega), hp.lt (by omega), ?_⟩
      show Sem' _ _ (if decide (RR r p (m - 1) < RR r p m) = true then KasT.ret (p, m, 0) else _) _
      rw [decide_eq_true (show RR r p (m - 1) < RR r p m by omega), if_pos rfl]
      exact ⟨m, rfl, Nat.le_refl _, by omega, hs⟩
theorem rev_perm {p : Array Nat} (hp : PermA n p) (i j : Nat) : PermA n (kas_rev p i j) :=
  ⟨(mirror_size _ _ _ _).trans hp.sz, ((Array.perm_iff_toList_perm.mp (mirror_perm p i j _)).trans hp.pm)⟩
theorem rev_get {p : Array Nat} (hp : PermA n p) {m k : Nat} (hm : m ≤ n) (hk : k < m) : (kas_rev p 0 m).getD k 0 = p.getD (m - 1 - k) 0 := by
  have e := getElem?_mirror_all (xs := p) (i := 0) (j := m) (by rw [hp.sz]; exact hm) k
  rw [if_pos ⟨Nat.zero_le _, hk⟩, Nat.zero_add] at e
  rw [Array.getD_eq_getD_getElem?, Array.getD_eq_getD_getElem?]
  exact congrArg (fun x => x.getD 0) e
theorem count_sem (hr : InjR n r) {p : Array Nat} (hp : PermA n p) (hn : 1 ≤ n) : Sem' (· < n) (ltR r) (kas_count n p) (fun x => 1 ≤ x.1 ∧ x.1 ≤ n ∧ PermA n x.2 ∧ SortT r x.2 x.1) := by
  unfold kas_count
  refine Sem'.bind _ (Sem'.mono (fun m h => ?_) _ (asc_sem hr hp (n - 1) 1 (Nat.le_refl _) (by omega) fun i j hij hj => by omega))
  obtain ⟨a, b, hs, hend⟩ := h
  have tail : ∀ m, 2 ≤ m → m ≤ n → DescT r p m → Sem' (· < n) (ltR r) (kas_tail3 m n p) (fun x => 1 ≤ x.1 ∧ x.1 ≤ n ∧ PermA n x.2 ∧ SortT r x.2 x.1) := fun m h2 hm hd => by
    unfold kas_tail3
    refine Sem'.bind _ (Sem'.mono (fun m' h => ?_) _ (asc_sem hr (rev_perm hp 0 m) (n - m) m (by omega) (by omega) fun i j hij hj => ?_))
    · exact ⟨by show 1 ≤ m'; omega, by show m' ≤ n; omega, rev_perm hp 0 m, h.2.2.1⟩
    · show r _ < r _
      rw [rev_get hp hm (by omega), rev_get hp hm hj]
      exact hd (m - 1 - j) (m - 1 - i) (by omega) (by omega)
  by_cases e : m = n
  · subst e
    rw [if_pos (by simp)]
    exact ⟨a, Nat.le_refl _, hp, hs⟩
  · rw [if_neg (by simpa using e)]
    have hlt : m < n ∧ RR r p m < RR r p (m - 1) := by
      rcases hend with z | z
      · exact absurd z (by omega)
      · exact z
    by_cases h1 : m > 1
    · rw [if_pos h1]
      refine ⟨hp.lt (by omega), hp.lt (by omega), ?_⟩
      show Sem' _ _ (if decide (RR r p 0 < RR r p (m - 1)) = true then KasT.ret (m, p) else _) _
      rw [decide_eq_true (hs 0 (m - 1) (by omega) (by omega)), if_pos rfl]
      exact ⟨a, by show m ≤ n; omega, hp, hs⟩
    · rw [if_neg h1]
      have em : m = 1 := by omega
      subst em
      unfold kas_descPart
      refine Sem'.bind _ (Sem'.mono (fun x h => ?_) _ (desc_sem hr hp (n - (1 + 1)) (1 + 1) (by omega) (by omega) fun i j hij hj => ?_))
      · obtain ⟨m', rfl, c1, c2, c3⟩ := h
        show Sem' _ _ (if (0 : Nat) > 0 then _ else kas_tail3 m' n p) _
        rw [if_neg (by omega)]
        exact tail m' (by omega) (by omega) c3
      · have ei : i = 0 := by omega
        have ej : j = 1 := by omega
        subst ei ej
        exact hlt.2
theorem place_sem (hr : InjR n r) {p : Array Nat} (hp : PermA n p) {k : Nat} (hk : k < n) (hs : SortT r p k) : ∀ f l t : Nat, l ≤ t → t ≤ k → t - l ≤ f → (∀ i, i < l → RR r p i < RR r p k) → (∀ i, t ≤ i → i < k → RR r p k < RR r p i) →
    Sem' (· < n) (ltR r) (kas_place p k f l t) (fun l' => l' ≤ k ∧ (∀ i, i < l' → RR r p i < RR r p k) ∧ ∀ i, l' ≤ i → i < k → RR r p k < RR r p i)
  | 0, l, t, h1, h2, h3, a, b => ⟨by omega, a, fun i hi hk => b i (by omega) hk⟩
  | f + 1, l, t, h1, h2, h3, a, b => by
    unfold kas_place
    by_cases c : l ≥ t
    · rw [if_pos c]
      exact ⟨by omega, a, fun i hi hk => b i (by omega) hk⟩
    · rw [if_neg c]
      refine ⟨hp.lt hk, hp.lt (by omega), ?_⟩
      show Sem' _ _ (if decide (RR r p k < RR r p ((l + t) / 2)) = true then kas_place p k f l ((l + t) / 2) else kas_place p k f ((l + t) / 2 + 1) t) _
      have ne := RR_ne hr hp (i := k) (j := (l + t) / 2) hk (by omega) (by omega)
      by_cases d : RR r p k < RR r p ((l + t) / 2)
      · rw [decide_eq_true d, if_pos rfl]
        refine place_sem hr hp hk hs f l ((l + t) / 2) (by omega) (by omega) (by omega) a fun i hi hik => ?_
        by_cases e : i = (l + t) / 2
        · rw [e]; exact d
        · have := hs ((l + t) / 2) i (by omega) hik; omega
      · rw [decide_eq_false d, if_neg Bool.false_ne_true]
        refine place_sem hr hp hk hs f ((l + t) / 2 + 1) t (by omega) h2 (by omega) (fun i hi => ?_) b
        by_cases e : i = (l + t) / 2
        · rw [e]; omega
        · have := hs i ((l + t) / 2) (by omega) (by omega); omega
theorem bub_get {p : Array Nat} (hp : PermA n p) {k l j : Nat} (hk : k < n) (hl : l ≤ k) : (bubble p k (k - l)).getD j 0 = if j = l then p.getD k 0 else if l < j ∧ j ≤ k then p.getD (j - 1) 0 else p.getD j 0 := by
  have e := getElem?_bubble (xs := p) (src := k) (by rw [hp.sz]; exact hk) (k - l) (by omega) j
  rw [show k - (k - l) = l by omega] at e
  rw [Array.getD_eq_getD_getElem?, e]
  split
  · rw [Array.getD_eq_getD_getElem?]
  · split <;> rw [Array.getD_eq_getD_getElem?]
theorem bin_sem (hr : InjR n r) : ∀ (f : Nat) (p : Array Nat) (k : Nat), PermA n p → k + f = n → 1 ≤ k → SortT r p k → Sem' (· < n) (ltR r) (kas_bin f p k) (fun p' => PermA n p' ∧ SortT r p' n)
  | 0, p, k, hp, hf, _, hs => ⟨hp, (show k = n by omega) ▸ hs⟩
  | f + 1, p, k, hp, hf, h1, hs => by
    unfold kas_bin
    refine Sem'.bind _ (Sem'.mono (fun l h => ?_) _ (place_sem hr hp (by omega) hs k 0 k (by omega) (Nat.le_refl _) (by omega) (fun i hi => by omega) fun i hi hik => by omega))
    obtain ⟨hl, a, b⟩ := h
    have hk : k < n := by omega
    refine bin_sem hr f _ (k + 1) ⟨(bubble_size _ _ _).trans hp.sz, (Array.perm_iff_toList_perm.mp (bubble_perm p k _)).trans hp.pm⟩ (by omega) (by omega) fun i j hij hj => ?_
    show r _ < r _
    rw [bub_get hp hk hl, bub_get hp hk hl]
    have key : ∀ x y : Nat, x < y → y < k → RR r p x < RR r p y := fun x y h1 h2 => hs x y h1 h2
    by_cases c1 : i = l
    · rw [if_pos c1, if_neg (by omega), if_pos ⟨by omega, by omega⟩]
      exact b (j - 1) (by omega) (by omega)
    · rw [if_neg c1]
      by_cases c2 : l < i ∧ i ≤ k
      · rw [if_pos c2, if_neg (by omega), if_pos ⟨by omega, by omega⟩]
        exact key (i - 1) (j - 1) (by omega) (by omega)
      · rw [if_neg c2]
        by_cases c3 : j = l
        · rw [if_pos c3]
          exact a i (by omega)
        · rw [if_neg c3]
          by_cases c4 : l < j ∧ j ≤ k
          · rw [if_pos c4]
            by_cases c5 : i = j - 1
            · omega
            · exact key i (j - 1) (by omega) (by omega)
          · rw [if_neg c4]
            exact key i j hij (by omega)
theorem sort_sem (hr : InjR n r) (hn : 1 ≤ n) : Sem' (· < n) (ltR r) (kas_sort n) (fun p => PermA n p ∧ SortT r p n) := by
  unfold kas_sort
  have h0 : PermA n (List.toArray (List.range n)) := ⟨by simp, by simp⟩
  refine Sem'.bind _ (Sem'.mono (fun x h => ?_) _ (count_sem hr h0 hn))
  obtain ⟨a, b, c, d⟩ := h
  by_cases e : x.1 < n
  · rw [if_pos e, show max x.1 1 = x.1 by omega]
    exact bin_sem hr _ _ _ c (by omega) a d
  · rw [if_neg e]
    have : x.1 = n := by omega
    rw [this] at d
    exact ⟨c, d⟩
end
end L2
end

section
set_option Elab.async false
set_option linter.all false
set_option maxRecDepth 100000
set_option maxHeartbeats 1000000
namespace L2
open PySem PySem.Spec PyProof.Rows PySem.W
section
variable {prog : Program} {w : World} {A : Around} {E : Value → Shared → Prop} {s : Shared}
theorem list_sort_tup {a : Addr} {vs : List Value} {n : Nat} {P : PySem.Fin → Shared → Prop} {r : Nat → Nat} (ho : s.heap.get? a = some (seqObj "list" vs.toArray n)) (h64 : vs.length < 64) (hr : InjR vs.length r)
    (hk : 2 ≤ vs.length → ∀ (h' : Heap) (Q : SortKind → Shared → Prop), (∀ b o, s.heap.get? b = some o → b ≠ a → h'.get? b = some o) → Q (tuples' true) { s with heap := h' } → wpAny (model prog w) A (keyKind' vs.toArray) Q E { s with heap := h' })
    (hc : ∀ (h' : Heap), (∀ b o, s.heap.get? b = some o → b ≠ a → h'.get? b = some o) → ∀ i j C, i < vs.length → j < vs.length → C (ltR r i j) { s with heap := h' } → kas_ask prog w A (tuples' true) vs i j C { s with heap := h' })
    (h : ∀ (h' : Heap) (p : Array Nat), PermA vs.length p → SortT r p vs.length → (∀ b o, s.heap.get? b = some o → b ≠ a → h'.get? b = some o) → (∃ e, h'.get? a = some (seqObj "list" (p.toList.map fun i => vs.getD i Value.none).toArray e)) → P (.done (.ret .none)) { s with heap := h' }) :
    wpAny (model prog w) A (Builtin.«list.sort» ⟨[.ref a], []⟩) P E s := by
  rw [list_sort_plain]
  have ha : a < s.heap.objs.size := Heap.lt_size ho
  have hv63 : vs.length ≤ sizeLine := Nat.le_of_lt (small1000 (by omega))
  refine wpAny_bind (listItems_at ho rfl ?_)
  refine wpAny_bind (listUpdate_at ho rfl ?_ (by rw [List.size_toArray]; exact hv63) (Nat.zero_le _))
  obtain ⟨e1, ho1⟩ : ∃ e1, (s.heap.update a (Obj.mapSeq fun _ => #[])).get? a = some (seqObj "list" #[] e1) := ⟨_, get?_update_seq ho (fun _ => #[])⟩
  refine wpAny_bind (seqEpoch_at ho1 rfl ?_)
  refine wpAny_bind (wpAny_newTuple ?_ (by show vs.length ≤ _; exact hv63))
  refine wpAny_bind (wpAny_newList ?_ (Nat.zero_le _))
  refine wpAny_holding ?_
  have ho6 : (((s.heap.update a (Obj.mapSeq fun _ => #[])).push (seqObj "tuple" vs.toArray 0)).push (seqObj "list" #[] 0)).get? a = some (seqObj "list" #[] e1) := by
    rw [Heap.get?_push_ne _ _ _ (by rw [size_push', Heap.size_update]; exact Nat.ne_of_lt (Nat.lt_succ_of_lt ha)), Heap.get?_push_ne _ _ _ (by rw [Heap.size_update]; exact Nat.ne_of_lt ha)]
    exact ho1
  have keep6 : ∀ b o, s.heap.get? b = some o → b ≠ a → (((s.heap.update a (Obj.mapSeq fun _ => (#[] : Array Value))).push (seqObj "tuple" vs.toArray 0)).push (seqObj "list" #[] 0)).get? b = some o := fun b o e hb => by
    refine Heap.get?_push_of_some _ (Heap.get?_push_of_some _ ?_)
    rw [Heap.get?_update_ne _ _ _ _ hb]; exact e
  show wpAny (model prog w) A _ P E { s with heap := ((s.heap.update a (Obj.mapSeq fun _ => #[])).push (seqObj "tuple" vs.toArray 0)).push (seqObj "list" #[] 0) }
  dsimp only
  generalize ((s.heap.update a (Obj.mapSeq fun _ => (#[] : Array Value))).push (seqObj "tuple" vs.toArray 0)).push (seqObj "list" #[] 0) = hp6 at ho6 keep6 ⊢
  have fin : ∀ (p : Array Nat), PermA vs.length p → SortT r p vs.length → ∀ (out : Array Value), out = (p.toList.map fun i => vs.getD i Value.none).toArray → P (.done (.ret .none)) { s with heap := hp6.update a (Obj.mapSeq fun _ => out) } := fun p pp sp out eo => by
    refine h _ p pp sp (fun b o e hb => ?_) ?_
    · rw [Heap.get?_update_ne _ _ _ _ hb]; exact keep6 b o e hb
    · rw [← eo]; exact ⟨_, get?_update_seq ho6 fun _ => out⟩
  have outsz : ∀ (p : Array Nat), PermA vs.length p → (p.toList.map fun i => vs.getD i Value.none).toArray.size ≤ sizeLine := fun p pp => by
    rw [List.size_toArray, List.length_map, Array.length_toList, pp.sz]; exact hv63
  by_cases h2 : vs.toArray.size < 2
  · have hn2 : vs.length < 2 := by rw [List.size_toArray] at h2; exact h2
    rw [if_pos h2, if_pos h2]
    refine wpAny_bind (wpAny_pure ?_)
    rw [StateT.run_pure]
    refine wpAny_bind (wpAny_pure ?_)
    dsimp only
    have h0 : PermA vs.length (List.toArray (List.range vs.length)) := ⟨by simp, by simp⟩
    have eo : (arrOf (SortSt.mk' general' (vs.toArray.zip vs.toArray) #[] 7 none)).map (·.2) = ((List.toArray (List.range vs.length)).toList.map fun i => vs.getD i Value.none).toArray := by
      have e0 : (arrOf (SortSt.mk' general' (vs.toArray.zip vs.toArray) #[] 7 none)) = vs.toArray.zip vs.toArray := rfl
      rw [e0]
      match vs, hn2 with
      | [], _ => simp
      | [v], _ => apply Array.toList_inj.mp; simp [List.range_succ]
    refine wpAny_bind (seqEpoch_at ho6 rfl ?_)
    refine wpAny_bind (listUpdate_at ho6 rfl ?_ (Nat.zero_le _) (by rw [eo]; exact Nat.le_succ_of_le (outsz _ h0)))
    simp only [bne_self_eq_false, Bool.false_eq_true, if_false]
    exact wpAny_pure (fin _ h0 (fun i j hij hj => by omega) _ eo)
  · have hn2 : 2 ≤ vs.length := by rw [List.size_toArray] at h2; omega
    rw [if_neg h2, if_neg h2]
    refine wpAny_bind (hk hn2 hp6 _ keep6 ?_)
    refine wpAny_bind (wpAny_mono (kat_run (κ := tuples' true) (ks := vs) (vs := vs) (Q := fun st' s' => ∃ p : Array Nat, PermA vs.length p ∧ SortT r p vs.length ∧ arrOf st' = p.map (kas_item (vs.toArray.zip vs.toArray)) ∧ failedOf st' = none ∧ s' = { s with heap := hp6 })
      (G := fun p s' => PermA vs.length p ∧ SortT r p vs.length ∧ s' = { s with heap := hp6 }) rfl hn2 h64 (fun p' st' s' a1 a2 a3 ⟨a4, a5, a6⟩ => ⟨p', a4, a5, a2, a3, a6⟩)
      (Sem'.wp (fun i j C hi hj hC => hc hp6 keep6 i j C hi hj hC) (fun p ⟨a1, a2⟩ => ⟨a1, a2, rfl⟩) _ (sort_sem hr (by omega)))) ?_ fun _ _ e => e)
    rintro ⟨⟨⟩, st'⟩ s' ⟨p, pp, sp, har, hf, rfl⟩
    dsimp only
    have eo := kat_snds (ks := vs) (vs := vs) rfl har
    refine wpAny_bind (seqEpoch_at ho6 rfl ?_)
    refine wpAny_bind (listUpdate_at ho6 rfl ?_ (Nat.zero_le _) (by rw [eo]; exact Nat.le_succ_of_le (outsz _ pp)))
    rw [hf]
    simp only [bne_self_eq_false, Bool.false_eq_true, if_false]
    exact wpAny_pure (fin p pp sp _ eo)
theorem sorted_tup {l : Addr} {vs : List Value} {Q : Value → Shared → Prop} {r : Nat → Nat} (hl : s.heap.IsList l vs.toArray) (h64 : vs.length < 64) (hr : InjR vs.length r)
    (hk : 2 ≤ vs.length → ∀ (h' : Heap) (Q : SortKind → Shared → Prop) (E : Value → Shared → Prop), (∀ b o, s.heap.get? b = some o → h'.get? b = some o) → Q (tuples' true) { s with heap := h' } → wpAny (model prog w) A.in1.in1 (keyKind' vs.toArray) Q E { s with heap := h' })
    (hc : ∀ (h' : Heap), (∀ b o, s.heap.get? b = some o → h'.get? b = some o) → ∀ i j C, i < vs.length → j < vs.length → C (ltR r i j) { s with heap := h' } → kas_ask prog w A.in1.in1 (tuples' true) vs i j C { s with heap := h' })
    (h : ∀ (h' : Heap) (p : Array Nat), PermA vs.length p → SortT r p vs.length → (∀ b o, s.heap.get? b = some o → h'.get? b = some o) → (∃ e, h'.get? (s.heap.objs.size + 1) = some (seqObj "list" (p.toList.map fun i => vs.getD i Value.none).toArray e)) → Q (.ref (s.heap.objs.size + 1)) { s with heap := h' }) :
    wpAny (model prog w) A (call (.builtin "sorted") [.ref l]) Q E s := by
  refine Calls.call_function_entry kind_sorted plain_sorted entry_sorted (args_sorted1 _) ?_
  unfold Builtin.«sorted»
  refine wpAny_bind (m := checkCount "sorted" 1 1 _) (wpAny_pure ?_)
  refine wpAny_bind (collect_list hl ?_ (by exact Nat.le_of_lt (small1000 (by omega))))
  refine wpAny_bind (wpAny_newList ?_ (by exact Nat.le_of_lt (small1000 (by omega))))
  have hsz : ((s.heap.push (seqObj "list" #[] 0)).update s.heap.objs.size (Obj.mapSeq (· ++ vs.toArray))).objs.size = s.heap.objs.size + 1 := by
    rw [Heap.size_update, size_push']
  have hoL : (((s.heap.push (seqObj "list" #[] 0)).update s.heap.objs.size (Obj.mapSeq (· ++ vs.toArray))).push (seqObj "list" vs.toArray 0)).get? (s.heap.objs.size + 1) = some (seqObj "list" vs.toArray 0) := by
    rw [← hsz]; exact Heap.get?_push_size _ rfl
  have keep : ∀ b o, s.heap.get? b = some o → (((s.heap.push (seqObj "list" #[] 0)).update s.heap.objs.size (Obj.mapSeq (· ++ vs.toArray))).push (seqObj "list" vs.toArray 0)).get? b = some o := fun b o q => by
    have hlt : b < s.heap.objs.size := Heap.lt_size q
    rw [Heap.get?_push_ne _ _ _ (by rw [hsz]; exact Nat.ne_of_lt (Nat.lt_succ_of_lt hlt)), Heap.get?_update_ne _ _ _ _ (Nat.ne_of_lt hlt), Heap.get?_push_ne _ _ _ (Nat.ne_of_lt hlt)]
    exact q
  have nb : ∀ b o, s.heap.get? b = some o → b ≠ s.heap.objs.size + 1 := fun b o q => Nat.ne_of_lt (Nat.lt_succ_of_lt (Heap.lt_size q))
  show wpAny _ _ _ _ _ { s with heap := ((s.heap.push (seqObj "list" #[] 0)).update s.heap.objs.size (Obj.mapSeq (· ++ vs.toArray))).push (seqObj "list" vs.toArray 0) }
  rw [hsz]
  refine wpAny_bind (wpAny_holding (wpAny_call_entry slot_list_sort ⟨_, hoL, rfl⟩ entry_list_sort (list_sort_tup (s := { s with heap := ((s.heap.push (seqObj "list" #[] 0)).update s.heap.objs.size (Obj.mapSeq (· ++ vs.toArray))).push (seqObj "list" vs.toArray 0) }) hoL h64 hr
    (fun h2 h' Q' kp => hk h2 h' Q' _ fun b o e => kp b o (keep b o e) (nb b o e)) (fun h' kp => hc h' fun b o e => kp b o (keep b o e) (nb b o e)) fun h' p pp sp kp he => ⟨_, rfl, ?_⟩) (args_list_sort _)))
  exact wpAny_pure ⟨_, rfl, h h' p pp sp (fun b o e => kp b o (keep b o e) (nb b o e)) he⟩
end
def CellAt (H : Hp) (cf : Addr → Nat) (a : Addr) : Prop := ∃ (x y : Nat) (rest : List V), H a = some (.tup (.int x :: .int y :: rest)) ∧ y < 1000 ∧ cf a = x * 1000 + y ∧ (rest = [] ∨ ∃ z, rest = [.str z])
section
variable {X : Cx}
def rSortT (K : PySem.W.Frag) : List V → Hp → VK → Prop := fun xs H Q => ∃ (L : Addr) (as : List Addr) (cf : Addr → Nat), xs = [.ref L] ∧ SqL K H L (as.map V.ref) ∧ as.length < 64 ∧ (∀ a ∈ as, CellAt H cf a) ∧ (as.map cf).Nodup ∧
  ∀ (p : Addr) (as' : List Addr), H p = none → as'.Perm as → (as'.map cf).Pairwise (· < ·) → Q (.ref p) (upd H p (.lst (as'.map V.ref)))
theorem vals_refs : ∀ {as : List Addr} {us : List Value}, Vals (as.map V.ref) us → us = as.map Value.ref
  | [], _, .nil => rfl
  | a :: as, _, .cons r t => by cases r; rw [List.map_cons, vals_refs t]
theorem refs_vals : ∀ (as : List Addr), Vals (as.map V.ref) (as.map Value.ref)
  | [] => .nil
  | a :: as => .cons rfl (refs_vals as)
theorem call_sortedT : CallR X (.builtin "sorted") (rSortT X.K) := by
  intro pins s σ H xs us Q I r h
  obtain ⟨L, as, cf, rfl, hS, h64, hcell, hnd, q⟩ := h
  obtain ⟨u, rfl, ru⟩ := vals1 r
  cases ru
  obtain ⟨its, rv, pl, _⟩ := I.list hS
  have eits := vals_refs rv
  subst eits
  -- the tuples as they stand
  have tup : ∀ i : Nat, i < as.length → ∃ (x y : Nat) (t1 t2 : Tok) (o : Obj) (n : Nat) (rest : List Value), s.heap.get? (as.getD i 0) = some o ∧ o.cls = .type "tuple" ∧ o.data = .seq (Value.int x t1 :: Value.int y t2 :: rest).toArray n ∧ y < 1000 ∧ cf (as.getD i 0) = x * 1000 + y ∧ (rest = [] ∨ ∃ z t3, rest = [Value.str z t3]) := fun i hi => by
    have hm : as.getD i 0 ∈ as := by rw [List.getD_eq_getElem?_getD, List.getElem?_eq_getElem hi]; exact List.getElem_mem _
    obtain ⟨x, y, rest, e, hy, hcf, hrest⟩ := hcell _ hm
    obtain ⟨_, tv, rtv, o, ho, hc, n, hd⟩ := I.hok _ _ e
    cases rtv with
    | cons r1 rr =>
      cases rr with
      | cons r2 rr =>
        obtain ⟨t1, rfl⟩ := r1
        obtain ⟨t2, rfl⟩ := r2
        refine ⟨x, y, t1, t2, o, n, _, ho, hc, hd, hy, hcf, ?_⟩
        rcases hrest with rfl | ⟨z, rfl⟩
        · cases rr; exact .inl rfl
        · cases rr with
          | cons r3 rr =>
            cases rr
            obtain ⟨t3, rfl⟩ := r3
            exact .inr ⟨z, t3, rfl⟩
  have gv : ∀ i : Nat, i < as.length → (as.map Value.ref).getD i Value.none = .ref (as.getD i 0) := fun i hi => by simp [hi]
  have hlen : (as.map Value.ref).length = as.length := List.length_map _
  have pwi := List.pairwise_iff_getElem.mp hnd
  have hinj : InjR (as.map Value.ref).length (fun i => cf (as.getD i 0)) := fun i j hi hj e => by
    rw [hlen] at hi hj
    have e' : cf as[i] = cf as[j] := by simpa [hi, hj] using e
    rcases Nat.lt_trichotomy i j with z | z | z
    · exact absurd e' (by have := pwi i j (by simpa using hi) (by simpa using hj) z; simpa using this)
    · exact z
    · exact absurd e'.symm (by have := pwi j i (by simpa using hj) (by simpa using hi) z; simpa using this)
  refine sorted_tup (r := fun i => cf (as.getD i 0)) pl.isList (by rw [hlen]; exact h64) hinj ?_ ?_ ?_
  · intro h2 h' Q' E' kp hQ
    have kt : ∀ (bs : List Addr), (∀ b ∈ bs, b ∈ as) → ∃ fs, KatTups h' (bs.map Value.ref) fs ∧ fs.length = bs.length ∧ ∀ v ∈ fs, ∃ (x : Int) (t : Tok), v = .int x t := by
      intro bs
      induction bs with
      | nil => exact fun _ => ⟨[], trivial, rfl, fun v hv => by simp at hv⟩
      | cons b bs ih =>
        intro hb
        obtain ⟨fs, k1, k2, k3⟩ := ih fun x hx => hb x (List.mem_cons_of_mem _ hx)
        obtain ⟨i, hi, e⟩ := List.mem_iff_getElem.mp (hb b List.mem_cons_self)
        obtain ⟨x, y, t1, t2, o, n, rest, ho, hc, hd, _⟩ := tup i hi
        have eb : as.getD i 0 = b := by simp [hi, e]
        rw [eb] at ho
        exact ⟨.int x t1 :: fs, KatTups.cons (kp _ _ ho) hc hd rfl k1, by simp [k2], fun v hv => by
          rcases List.mem_cons.mp hv with z | z
          · exact ⟨_, _, z⟩
          · exact k3 v z⟩
    obtain ⟨fs, k1, k2, k3⟩ := kt as fun _ h => h
    rw [hlen] at h2
    exact kat_kind (s := { s with heap := h' }) (T := .type "int") k1 (by omega) (fun v hv => by obtain ⟨x, t, rfl⟩ := k3 v hv; exact Looks.of_pure rfl) (by decide) hQ
  · intro h' kp i j C hi hj hC
    rw [hlen] at hi hj
    obtain ⟨x1, y1, t1, t2, o1, n1, r1, ho1, hc1, hd1, hy1, hcf1, hr1⟩ := tup i hi
    obtain ⟨x2, y2, t3, t4, o2, n2, r2, ho2, hc2, hd2, hy2, hcf2, hr2⟩ := tup j hj
    have hC' : C (decide (x1 * 1000 + y1 < x2 * 1000 + y2)) { s with heap := h' } := by
      have : ltR (fun i => cf (as.getD i 0)) i j = decide (x1 * 1000 + y1 < x2 * 1000 + y2) := by show decide (cf _ < cf _) = _; rw [hcf1, hcf2]
      rw [← this]; exact hC
    unfold kas_ask
    rw [gv i hi, gv j hj]
    refine kat_lt (s := { s with heap := h' }) (kp _ _ ho1) hd1 (kp _ _ ho2) hd2 ?_
    rw [show (Value.int (x1 : Int) t1 :: Value.int (y1 : Int) t2 :: r1).toArray.toList.zip (Value.int (x2 : Int) t3 :: Value.int (y2 : Int) t4 :: r2).toArray.toList = (Value.int (x1 : Int) t1, Value.int (x2 : Int) t3) :: (Value.int (y1 : Int) t2, Value.int (y2 : Int) t4) :: r1.zip r2 from rfl]
    refine kat_cons (SeqAt.EqAt.int_int _ _ _ _ X.prog X.w _ _ ?_)
    refine kat_go (fun e => kat_yes ?_) (fun e => kat_no ?_)
    · have ex : x1 = x2 := by have : ((x1 : Int) == (x2 : Int)) = true := e; have := eq_of_beq this; omega
      refine kat_cons (SeqAt.EqAt.int_int _ _ _ _ X.prog X.w _ _ ?_)
      refine kat_go (fun e => kat_yes ?_) (fun e => kat_no ?_)
      · have ey : y1 = y2 := by have : ((y1 : Int) == (y2 : Int)) = true := e; have := eq_of_beq this; omega
        have eij : i = j := hinj i j (by rw [hlen]; exact hi) (by rw [hlen]; exact hj) (by show cf _ = cf _; rw [hcf1, hcf2, ex, ey])
        subst eij
        have eo : o1 = o2 := by rw [ho1] at ho2; exact Option.some.inj ho2
        subst eo
        rw [hd1] at hd2
        have er : r1 = r2 := by
          injection hd2 with hd2 _
          have := congrArg Array.toList hd2
          simp at this
          exact this.2.2
        subst er
        have fl : decide ((Value.int (x1 : Int) t1 :: Value.int (y1 : Int) t2 :: r1).toArray.size < (Value.int (x2 : Int) t3 :: Value.int (y2 : Int) t4 :: r1).toArray.size) = decide (x1 * 1000 + y1 < x2 * 1000 + y2) := by
          rw [ex, ey]; simp
        rcases hr1 with rfl | ⟨z, t5, rfl⟩
        · exact kat_nil (by rw [fl]; exact hC')
        · refine kat_cons (SeqAt.EqAt.same _ X.prog X.w _ _ ?_)
          exact kat_yes (kat_nil (by rw [fl]; exact hC'))
      · have ey : y1 ≠ y2 := fun z => by have : ((y1 : Int) == (y2 : Int)) = false := e; simp [z] at this
        refine kat_one _ _ (lt_int ?_)
        show C (decide ((y1 : Int) < (y2 : Int))) _
        rw [show decide ((y1 : Int) < (y2 : Int)) = decide (x1 * 1000 + y1 < x2 * 1000 + y2) by rw [ex]; simp]
        exact hC'
    · have ex : x1 ≠ x2 := fun z => by have : ((x1 : Int) == (x2 : Int)) = false := e; simp [z] at this
      show wpAny _ _ (oneLt' true _ _) _ _ _
      refine oneLt_int ?_
      rw [show decide ((x1 : Int) < (x2 : Int)) = decide (x1 * 1000 + y1 < x2 * 1000 + y2) by
        by_cases z : x1 < x2
        · rw [decide_eq_true (by omega), decide_eq_true (by omega)]
        · rw [decide_eq_false (by omega), decide_eq_false (by omega)]]
      exact hC'
  · intro h' p pp sp kp he
    rw [hlen] at pp sp
    obtain ⟨e, he⟩ := he
    have eo : (p.toList.map fun i => (as.map Value.ref).getD i Value.none) = (p.toList.map fun i => as.getD i 0).map Value.ref := by
      rw [List.map_map]
      refine List.map_congr_left fun i hi => ?_
      exact gv i (List.mem_range.mp (pp.pm.mem_iff.mp hi))
    rw [eo] at he
    have pm : (p.toList.map fun i => as.getD i 0).Perm as := by
      have := pp.pm.map fun i => as.getD i 0
      have e2 : (List.range as.length).map (fun i => as.getD i 0) = as := by
        apply List.ext_getElem
        · simp
        · intro k h1 h2; simp at h1; simp [h1]
      rw [e2] at this
      exact this
    have pw : ((p.toList.map fun i => as.getD i 0).map cf).Pairwise (· < ·) := by
      rw [List.map_map, List.pairwise_iff_getElem]
      intro i j hi hj hij
      rw [List.length_map, Array.length_toList, pp.sz] at hi hj
      have := sp i j hij hj
      have g1 : p.getD i 0 = p.toList[i]'(by rw [Array.length_toList, pp.sz]; exact hi) := by simp [Array.getD, pp.sz, hi]
      have g2 : p.getD j 0 = p.toList[j]'(by rw [Array.length_toList, pp.sz]; exact hj) := by simp [Array.getD, pp.sz, hj]
      simp only [List.getElem_map, Function.comp]
      rw [← g1, ← g2]
      exact this
    have hl : ((p.toList.map fun i => as.getD i 0).map V.ref).length ≤ sizeLine := by
      rw [List.length_map, pm.length_eq]; exact Nat.le_of_lt (small1000 (by omega))
    refine ⟨.ref (s.heap.objs.size + 1), _, I.laid (o := .lst _) (t' := s.toks) (fun b o z => kp b o z) (Nat.le_succ _) ⟨hl, (p.toList.map fun i => as.getD i 0).map Value.ref, e, refs_vals _, he⟩, rfl, q _ _ (I.hok.fresh (Nat.le_succ _)) pm pw⟩
end
end L2
end

section
set_option Elab.async false
set_option linter.all false
set_option maxRecDepth 100000
set_option maxHeartbeats 1000000
namespace L2
open PySem PySem.Spec PyProof.Rows PySem.W
section
variable {prog : Program} {w : World} {A : Around} {E : Value → Shared → Prop} {s : Shared} {d a : Addr} {g : Array DictEntry} {e i : Nat}
end
section
variable {X : Cx}
open Classical in
theorem any_eqv (d : Dt) : ∀ es : List Dt, ((toPs es).any fun y => PyData.eqv y (toP d)) = decide (d ∈ es)
  | [] => by simp [toPs]
  | e :: es => by
    rw [toPs, List.any_cons, any_eqv d es, eqv_dec]
    by_cases z : e = d
    · subst z; simp
    · have z' : ¬ d = e := fun y => z y.symm
      simp [z, z']
end
section
variable {X : Cx} {pos : Pos}
theorem qe_dget {o i : Expr} {td ty : TE} (hu : X.A.units + 1 < cLine) (ho : QE X o td) (hi : QE X i ty) (hs : NoSl i) : QE X (.Subscript o i pos) (tDGet td ty) := ⟨pe_dget hu ho.out hi.out hs⟩
end
end L2
end

section
set_option Elab.async false
set_option linter.all false
set_option maxRecDepth 100000
set_option maxHeartbeats 1000000
namespace L2
open PySem PySem.Spec PyProof.Rows PySem.W
section
variable {prog : Program} {w : World} {A : Around} {E : Value → Shared → Prop} {s : Shared}
end
section
variable {X : Cx}
end
end L2
end

section
set_option Elab.async false
set_option linter.all false
set_option maxRecDepth 100000
set_option maxHeartbeats 1000000
namespace L2
open PySem PySem.Spec PyProof.Rows PySem.W
section
variable {X : Cx}
structure InstOk (K : PySem.W.Frag) (C : Addr) : Prop where
  ha : PySem.W.findIn K (.ref C) "__class__" = some (some (.builtin "object.__class__"))
  hn : PySem.W.specialIn K (.builtin "object.__class__") "__get__" = some (some (.builtin "getset_descriptor.__get__"))
  ht : PySem.W.takesIn K (.builtin "object.__class__") = some true
  hm : PySem.W.mroIn K C (.type "object") = some true
  ki : PySem.W.kitOne K (.ref C) (.ref C) = some true
def rListS : List V → Hp → VK → Prop := fun xs H Q => ∃ l : List Nat, xs = [.str (S l)] ∧ l.length ≤ 1000 ∧ ∀ p, H p = none → Q (.ref p) (upd H p (.lst (Ts (l.map fun c => [c]))))
theorem sign_vals : ∀ (l : List Nat) (us : List Value), us.length = l.length → (∀ (i c : Nat), l[i]? = some c → ∃ t, us[i]? = some (.str (S [c]) t)) → Vals (Ts (l.map fun c => [c])) us
  | [], [], _, _ => .nil
  | [], _ :: _, h, _ => by simp at h
  | _ :: _, [], h, _ => by simp at h
  | c :: l, u :: us, h, k => by
    obtain ⟨t, e⟩ := k 0 c rfl
    have e : u = .str (S [c]) t := Option.some.inj e
    exact .cons ⟨t, e⟩ (sign_vals l us (by simpa using h) fun i d hd => k (i + 1) d hd)
theorem call_listS (hc : X.calm = true) : CallR X (.type "list") rListS := by
  intro pins s σ H xs us Q I r h
  obtain ⟨l, rfl, hl, q⟩ := h
  obtain ⟨u, rfl, ru⟩ := vals1 r
  obtain ⟨t, rfl⟩ := ru
  have hz : l.length ≤ sizeLine := Nat.le_of_lt (small1000 (by omega))
  refine call_list_str (I.ok.hd hc) (S l) t (fun h' tk acc c' hk hD hacc => ?_) (by show l.toArray.size ≤ _; simpa using hz)
  have hsz : acc.size = l.length := by rw [hacc.1]; show l.toArray.size = _; simp
  refine ⟨.ref s.heap.objs.size, _, I.laid (o := .lst (Ts (l.map fun c => [c]))) (t' := tk) hk (Nat.le_refl _) ⟨by rw [List.length_map, List.length_map]; exact hz, acc.toList, c', ?_, by simpa using hD⟩, rfl, q _ (I.hok.fresh (Nat.le_refl _))⟩
  refine sign_vals l acc.toList (by rw [Array.length_toList]; exact hsz) fun i c hc => ?_
  have hi : i < acc.size := by rw [hsz]; exact (List.getElem?_eq_some_iff.mp hc).1
  obtain ⟨c2, t2, e1, e2⟩ := hacc.2 i acc[i] (by simp [hi])
  have e1 : l.toArray[i]? = some c2 := e1
  rw [List.getElem?_toArray, hc] at e1
  have e1 := Option.some.inj e1
  exact ⟨t2, by rw [Array.getElem?_toList, Array.getElem?_eq_getElem hi, e2, e1]; rfl⟩
end
end L2
end

section
set_option Elab.async false
set_option linter.all false
set_option maxRecDepth 100000
set_option maxHeartbeats 1000000
namespace L2
open PySem PySem.Spec PyProof.Rows
theorem ps_setG {X : Cx} {ix : Nat} {xn : Str} {pos0 spos : Pos} {elt iter tg : Expr} {ns N2 : List Str} {f : St → St} {TP : V → Hp → (St → Prop) → Prop} {ifs : List Expr} {scope : Scope} {pos : Pos} {wi : TI} {tt : TT} {te : TE} (hN : X.N.Nodup) (hxi : X.N[ix]? = some xn) (hxl : Loc X.env.scope xn) (hc : X.calm = true) (ok : CompG X scope ns N2 f) (hi : PI X tg iter wi)
    (hg : ∀ cl C s₀ H₀ fp, PTg (blkG X scope cl C (ns ++ N2) s₀ H₀ fp) tg ns.length TP)
    (ht : ∀ cl C s₀ H₀ fp, PTs (blkG X scope cl C (ns ++ N2) s₀ H₀ fp) ifs tt) (he : ∀ cl C s₀ H₀ fp, PE (blkG X scope cl C (ns ++ N2) s₀ H₀ fp) elt te)
    (hs : ∀ x, foldedSetIterable iter X.env x = pure x := by intro _; rfl) (hsw : swapsWith (.ListComp elt [⟨tg, iter, ifs, 0⟩] scope pos) (some (.Name xn pos0)) spos.line X.env = pure true := by rfl)
    (hf : X.fn xn = true ∨ X.env.scope.names.lookup xn = some .local := by first | exact .inl rfl | exact .inr rfl | assumption) :
    PS X (.Assign [.Name xn pos0] (.ListComp elt [⟨tg, iter, ifs, 0⟩] scope pos) spos) (tAsg (tCompG f ns.length wi TP tt te) (gName ix)) := by
  intro pins s σ H De I h
  obtain ⟨cl, hcl, hsub, _, hall⟩ := closure_ok (env := X.env) scope.names (fun y hy e => I.ok.has y.1 (ok.free y hy e)) [] (fun _ _ z => by simp at z)
  have hclos : closureFor scope X.env = pure cl := by
    unfold closureFor
    simp only [bind_pure]
    exact hcl
  rw [exec_Assign_Name_used _ _ _ _ hsw]
  refine wpAny_bind (wpAny_standAt (wpAny_bind (wpAny_bind ?_)))
  refine thn (Q := fun _ s' => ∃ σ' H', Inv X pins σ' H' s' ∧ De.nx σ' H') ?_ fun _ s' hq => wpAny_pure (wpAny_pure hq)
  refine wpAny_comprehension_free (use := some (assign (.Name xn pos0) X.env)) (E := X.xe) (cl := cl) rfl hs hclos ok.kind ok.names (thn (hi pins s σ H _ I h) fun v s1 h1 => thn h1 fun itv s2 h2 => ?_)
  obtain ⟨it, fp, tn, J, H2, e, I2, T, st2, f2, R⟩ := h2
  subst e
  obtain ⟨W, ⟨m0, w0⟩, turn⟩ := R s2.heap.objs.size I2.fresh
  refine wpAny_newObj_type (wpAny_newFunctionEnv ok.ncell (by intro y hy; simp at hy) (fun h₁ hns₁ hsb₁ => ?_) ok.kind)
  dsimp only at hns₁ hsb₁ ⊢
  have I3 : Inv X pins σ (upd H2 s2.heap.objs.size (.lst [])) { s2 with heap := s2.heap.push { cls := .type "list", data := .seq ([] : List Value).toArray } } := I2.lnew (t' := s2.toks) (ys := []) (its := []) .nil (Nat.zero_le _)
  generalize hH3 : upd H2 s2.heap.objs.size (HO.lst []) = H3 at *
  generalize hs3 : s2.heap.push { cls := .type "list", data := .seq ([] : List Value).toArray } = hp3 at *
  generalize hD : s2.heap.objs.size = D at *
  generalize hC : hp3.objs.size = C at *
  have hDC : D < C := by rw [← hC, ← hs3, Heap.size_push, hD]; exact Nat.lt_succ_self _
  have old : ∀ b o, hp3.get? b = some o → h₁.get? b = some o := fun b o e => (hsb₁.2 b (by rw [← hC]; exact Nat.ne_of_lt (Heap.lt_size e))).trans (Heap.get?_push_of_some _ e)
  have fpl : ∀ b ∈ fp, b < C := fun b hb => by
    obtain ⟨o, e, _⟩ := T.obj _ _ st2 b hb
    rw [← hC, ← hs3, Heap.size_push]
    exact Nat.lt_succ_of_lt (Heap.lt_size e)
  have f3 : ∀ b ∈ fp, FpOk X pins H3 b := fun b hb => by
    obtain ⟨o, e, _⟩ := T.obj _ _ st2 b hb
    refine ⟨?_, (f2 b hb).2⟩
    rw [← hH3, upd_ne (by rw [← hD]; exact Nat.ne_of_lt (Heap.lt_size e))]
    exact (f2 b hb).1
  have nstk : ∀ b ∈ fp, b ∉ frs X.stack := fun b hb z => by
    obtain ⟨_, g1, g2, _⟩ := f3 b hb
    rcases List.mem_cons.mp (I3.stkSub b z) with q | q
    · exact g1 q
    · exact g2 q
  -- the block's context
  have YOk : (blkG X scope cl C (ns ++ N2) { s2 with heap := hp3 } H3 fp).Ok := by
    refine ⟨I.ok.mod, ?_, I.ok.glob, I.ok.blt, Nat.le_of_eq hC, ?_, ?_, ?_, I.ok.hd, I.ok.frames, .inl rfl, ?_, ?_, ?_, ?_, ?_, ?_, ?_⟩
    · exact ok.kind
    · exact fun a b c h1 h2 => I.ok.inj a b c (hsub a c h1) (hsub b c h2)
    · intro a ha
      refine hall a ?_
      rcases ha with z | z
      · rcases lookup_relabel (env := X.env) z with q | ⟨_, q⟩
        · exact absurd rfl (ok.ncell _ (lookup_mem' q))
        · exact lookup_mem' q
      · rcases lookup_relabel (env := X.env) z with q | ⟨q, _⟩
        · exact lookup_mem' q
        · cases q
    · intro a c hf; cases hf
    · intro b hb
      refine ⟨Nat.ne_of_lt (fpl b hb), fun a c h1 => (f3 b hb).2.2.2.2.1 a c (hsub a c h1)⟩
    · exact I3.bs
    · exact Nat.le_trans I.ok.bsz I3.sz
    · intro b o e hb
      rcases (f3 b hb).2.2.2.1 with z | z
      · exact I.ok.noex b o e z
      · exact absurd (Nat.lt_of_lt_of_le (Heap.lt_size e) (Nat.le_trans I.ok.bsz z)) (Nat.lt_irrefl _)
    · exact nstk
    · exact I3.stack
    · exact I3.stkFree
  have Y0 : Inv (blkG X scope cl C (ns ++ N2) { s2 with heap := hp3 } H3 fp) [] (List.replicate ns.length none ++ f σ) H3 { s2 with heap := h₁, toks := s2.toks + ([] : List (Str × Value)).length } := by
    refine ⟨YOk, rfl, I3.bare, Un.kept old, ⟨_, hns₁, ?_⟩, ?_, ?_, ?_, fun p hp => by simp [blkG] at hp, I3.hok.kept old, ?_⟩
    · intro i y v e1 e2 e3
      by_cases hin : i < ns.length
      · rw [List.getElem?_append_left (by rw [List.length_replicate]; exact hin), List.getElem?_replicate, if_pos hin] at e2
        simp at e2
      · obtain ⟨i, rfl⟩ : ∃ k, i = ns.length + k := ⟨i - ns.length, by omega⟩
        have e1a : (ns ++ N2)[ns.length + i]? = some y := e1
        rw [List.getElem?_append_right (by omega), Nat.add_sub_cancel_left] at e1a
        rw [List.getElem?_append_right (by rw [List.length_replicate]; omega), List.length_replicate, Nat.add_sub_cancel_left] at e2
        obtain ⟨e1', e2', hout⟩ := ok.out σ i y v e1a e2
        have hfree : (y, NameKind.free) ∈ scope.names := by
          have key : ∀ k, (relabel scope X.env).names.lookup y = some k → k ≠ .local → k = .cell ∨ k = .free → (y, NameKind.free) ∈ scope.names := fun k q n hk => by
            rcases lookup_relabel (env := X.env) q with z | ⟨_, z⟩
            · rcases hk with rfl | rfl
              · exact absurd rfl (ok.ncell _ (lookup_mem' z))
              · exact lookup_mem' z
            · exact lookup_mem' z
          rcases e3 with z | z | z
          · rcases lookup_relabel (env := X.env) z with q | ⟨q, _⟩
            · exact absurd q hout
            · cases q
          · exact key _ z (by decide) (.inl rfl)
          · exact key _ z (by decide) (.inr rfl)
        have hk := ok.free _ hfree rfl
        obtain ⟨m, hn, hl⟩ := I3.loc
        obtain ⟨u, r, q⟩ := hl i y v e1' e2' (by rcases hk with z | z; exact .inr (.inl z); exact .inr (.inr z))
        refine ⟨u, r, .inr ⟨?_, ?_⟩⟩
        · rcases e3 with z | z | z
          · rcases lookup_relabel (env := X.env) z with q | ⟨q, _⟩
            · exact absurd q hout
            · cases q
          · exact .inl z
          · exact .inr z
        · rcases q with ⟨z, _⟩ | ⟨_, c, hc', hcell⟩
          · rcases hk with q | q <;> (rw [z] at q; cases q)
          · obtain ⟨c', hc2⟩ := hall y hfree
            have : c' = c := by have := hsub y c' hc2; rw [hc'] at this; exact (Option.some.inj this).symm
            subst this
            obtain ⟨o, ho, hd⟩ := hcell
            exact ⟨c', hc2, o, old _ _ ho, hd⟩
    · intro a c h1
      obtain ⟨v, o, ho, hd⟩ := I3.cell a c (hsub a c h1)
      exact ⟨v, o, old _ _ ho, hd⟩
    · show H3 C = none
      exact I3.hok.fresh (Nat.le_of_eq hC)
    · exact fun a c h1 => I3.freeC a c (hsub a c h1)
    · show (List.replicate ns.length none ++ f σ).length = (ns ++ N2).length
      rw [List.length_append, List.length_append, List.length_replicate, ok.lenf, I.len, ok.lenN]
  -- behind the block
  have back : ∀ (s' : Shared) (v : St) (H' : Hp) (h' : Heap), Inv (blkG X scope cl C (ns ++ N2) { s2 with heap := hp3 } H3 fp) [] v H' s' → Heap.SameBut C s'.heap h' → (∀ b ∈ fp, H' b = none) → Inv X pins σ H' { s' with heap := h' } := by
    intro s' v H' h' I' sb fr
    have neC : ∀ b o, hp3.get? b = some o → b ≠ C := fun b o e => by rw [← hC]; exact Nat.ne_of_lt (Heap.lt_size e)
    have U : Un (frs X.stack) fp H3 H' hp3 s'.heap := I'.base
    refine I3.call' (ch := fp) (H' := H') (s' := { s' with heap := h' }) I'.os ⟨fun b o e n h1 h2 => (sb.2 b (neC b o e)).trans (U.keep b o e n h1 h2), fun b o e n h1 h2 => ?_, U.free, fun b o e h2 => ?_, U.tups, U.frzs, U.tbls⟩ (fun b ob e => ?_) I'.bare fun b hb => ?_
    · obtain ⟨sl, q⟩ := U.slot b o e n h1 h2
      exact ⟨sl, (sb.2 b (neC b o e)).trans q⟩
    · obtain ⟨o', q⟩ := U.there b o e h2
      exact ⟨o', (sb.2 b (neC b o e)).trans q⟩
    · have fC : H' C = none := I'.free
      refine (I'.hok b ob e).stay (fun c w' hc q => (sb.2 c ?_).trans q) (fun _ q => q) fun _ _ q => q
      rintro rfl
      rcases hc with rfl | hc
      · rw [fC] at e; cases e
      · rw [fC] at hc; cases hc
    · obtain ⟨_, g1, _, g3, g4, g5⟩ := f3 b hb
      exact ⟨g3, g1, g4, g5⟩
  have stat : ∀ {H' : Hp}, (∀ b ∈ fp, H' b = none) → ∀ b ∈ fp, FpOk (blkG X scope cl C (ns ++ N2) { s2 with heap := hp3 } H3 fp) [] H' b := fun hn b hb =>
    ⟨hn b hb, Nat.ne_of_lt (fpl b hb), nstk b hb, .inl hb, fun a c h1 => (f3 b hb).2.2.2.2.1 a c (hsub a c h1), fun p hp => by simp [blkG] at hp⟩
  have st₁ : tn 0 h₁ := T.keep _ _ _ st2 fun b _ o e => old b o (by rw [← hs3]; exact Heap.get?_push_of_some _ e)
  have loop : codeAny (model X.prog X.w) X.A (.compLoop (.ListComp elt [⟨tg, iter, ifs, 0⟩] scope pos) 0 (.ref it) (.ref D) (compEnvC scope cl C X.env)) (compPost (model X.prog X.w) X.A X.xe (some (assign (.Name xn pos0) X.env)) (fun _ s' => ∃ σ' H', Inv X pins σ' H' s' ∧ De.nx σ' H') (.ref D) C)
      { s2 with heap := h₁, toks := s2.toks + ([] : List (Str × Value)).length } := by
    refine compLoop_T (fun n s' => ∃ i v ys H', v.length = ns.length ∧ Inv (blkG X scope cl C (ns ++ N2) { s2 with heap := hp3 } H3 fp) [] (v ++ f σ) H' s' ∧ tn i s'.heap ∧ (∀ b ∈ fp, H' b = none) ∧ W i n ys H') ?_ m0 ⟨0, List.replicate ns.length none, [], H3, List.length_replicate, Y0, st₁, fun b hb => (f3 b hb).1, w0⟩
    rintro n s4 ⟨i, v, ys, H4, hv4, I4, st4, fr4, w4⟩
    rcases turn i n ys H4 w4 with ⟨stop, qn⟩ | ⟨go, step⟩
    · refine thn (T.done (blkG X scope cl C (ns ++ N2) { s2 with heap := hp3 } H3 fp) rfl rfl rfl hc i [] s4 (v ++ f σ) H4 _ I4 (stat fr4) st4 stop) fun r s5 ⟨hr, I5⟩ => ?_
      subst hr
      obtain ⟨m, hn, _⟩ := id I5.loc
      have I5' : Inv X pins σ H4 s5 := back s5 (v ++ f σ) H4 s5.heap I5 (Heap.SameBut.refl _ _) fr4
      have fC : FpOk X pins H4 C := ⟨I5.free, (I3.fpOk (H' := H3) (Nat.le_of_eq hC) (I3.hok.fresh (Nat.le_of_eq hC))).2⟩
      refine wpAny_assign_Name (store_ok2 I5' hN hxi hxl (show RelV (.ref D) (.ref D) from rfl) (fun s6 I6 ⟨a, sb6, ha⟩ => ?_) hf)
      have nCa : C ≠ a := by
        rcases ha with z | z
        · rw [z]; exact fC.2.1
        · exact fun y => fC.2.2.2.2.1 _ _ z y.symm
      obtain ⟨o, es, ep, e1, e2⟩ := hn
      refine ⟨m, ⟨o, es, ep, (sb6.2 C nCa).trans e1, e2⟩, fun h' sb => ⟨_, H4, I6.turned (t' := s6.toks) (fun b o hb e => (sb.2 b hb).trans e) fC.1 fC.2.1 fC.2.2.2.1 fC.2.2.2.2.1 fC.2.2.2.2.2, qn⟩⟩
    · refine thn (T.item (blkG X scope cl C (ns ++ N2) { s2 with heap := hp3 } H3 fp) rfl rfl rfl hc i [] s4 (v ++ f σ) H4 _ I4 (stat fr4) st4 go) fun r s5 ⟨u, hr, h5⟩ => ?_
      subst hr
      refine thn h5 fun _ s6 ⟨y, H6, I6, r6, y6, st6, fr6⟩ => ?_
      have I6' := I6.pinned (stat fr6) (T.obj _ _ st6)
      refine thn (hg cl C { s2 with heap := hp3 } H3 fp _ s6 v (f σ) H6 y u _ hv4 I6' r6 (step y H6 y6)) fun _ s7 ⟨pre, hpre, I7', q7⟩ => ?_
      refine thn (ht cl C { s2 with heap := hp3 } H3 fp _ s7 _ H6 _ I7' q7) fun b s8 ⟨H8, I8, q8⟩ => ?_
      have keepIt : ∀ {σ' : St} {H' : Hp} {s' : Shared}, Inv (blkG X scope cl C (ns ++ N2) { s2 with heap := hp3 } H3 fp) ([] ++ pinsAt fp s6.heap) σ' H' s' → tn (i + 1) s'.heap ∧ ∀ b ∈ fp, H' b = none := fun {σ' H' s'} I9 => by
        refine ⟨T.keep _ _ _ st6 fun b hb o e => (I9.pin (b, o) (List.mem_append_right _ (List.mem_append_right _ (mem_pinsAt hb e)))).1, fun b hb => ?_⟩
        obtain ⟨o, e, d⟩ := T.obj _ _ st6 b hb
        exact (I9.pin (b, o) (List.mem_append_right _ (List.mem_append_right _ (mem_pinsAt hb e)))).2.1
      cases b with
      | false =>
        obtain ⟨m', hm, w'⟩ := q8
        obtain ⟨k1, k2⟩ := keepIt I8
        exact ⟨m', hm, i + 1, pre, ys, H8, hpre, I8.unpinned, k1, k2, w'⟩
      | true =>
        have q8' : te (pre ++ f σ) H8 _ := q8
        show wpAny _ _ (eval elt _) _ _ _
        refine thn (he cl C { s2 with heap := hp3 } H3 fp _ s8 _ H8 _ I8 q8') fun z s9 ⟨zv, H9, I9, r9, hD9, hz9, m', hm, w'⟩ => ?_
        refine thn (mt_append (X := blkG X scope cl C (ns ++ N2) { s2 with heap := hp3 } H3 fp) _ s9 _ H9 (.ref D) [zv] (.ref D) [z] (fun _ H' => H' = upd H9 D (.lst (ys ++ [zv]))) I9 rfl (.cons r9 .nil) ⟨D, ys, zv, rfl, rfl, hD9, hz9, rfl⟩) fun _ s10 ⟨_, H10, I10, _, e10⟩ => ?_
        subst e10
        obtain ⟨k1, k2⟩ := keepIt I10
        exact ⟨m', hm, i + 1, pre, ys ++ [zv], _, hpre, I10.unpinned, k1, k2, w'⟩
  exact codeAny_compStart_list loop (T.self X.A 0 _ _ _ st₁ loop)
theorem qs_setG {X : Cx} {ix : Nat} {xn : Str} {pos0 spos : Pos} {elt iter tg : Expr} {ns N2 : List Str} {f : St → St} {TP : V → Hp → (St → Prop) → Prop} {ifs : List Expr} {scope : Scope} {pos : Pos} {wi : TI} {tt : TT} {te : TE} (hN : X.N.Nodup) (hxi : X.N[ix]? = some xn) (hxl : Loc X.env.scope xn) (hc : X.calm = true) (ok : CompG X scope ns N2 f) (hi : QI X tg iter wi)
    (hg : ∀ cl C s₀ H₀ fp, PTg (blkG X scope cl C (ns ++ N2) s₀ H₀ fp) tg ns.length TP)
    (ht : ∀ cl C s₀ H₀ fp, QTs (blkG X scope cl C (ns ++ N2) s₀ H₀ fp) ifs tt) (he : ∀ cl C s₀ H₀ fp, QE (blkG X scope cl C (ns ++ N2) s₀ H₀ fp) elt te)
    (hs : ∀ x, foldedSetIterable iter X.env x = pure x := by intro _; rfl) (hsw : swapsWith (.ListComp elt [⟨tg, iter, ifs, 0⟩] scope pos) (some (.Name xn pos0)) spos.line X.env = pure true := by rfl)
    (hf : X.fn xn = true ∨ X.env.scope.names.lookup xn = some .local := by first | exact .inl rfl | exact .inr rfl | assumption) :
    QS X (.Assign [.Name xn pos0] (.ListComp elt [⟨tg, iter, ifs, 0⟩] scope pos) spos) (tAsg (tCompG f ns.length wi TP tt te) (gName ix)) :=
  ⟨ps_setG hN hxi hxl hc ok hi.out hg (fun a b c d e => (ht a b c d e).out) (fun a b c d e => (he a b c d e).out) hs hsw hf⟩
end L2
end

section
set_option Elab.async false
set_option linter.all false
set_option maxRecDepth 100000
set_option maxHeartbeats 1000000
namespace L2
open PySem PySem.Spec PyProof.Rows
section
variable {M : Model} {A : Around} {E : Value → Shared → Prop} {s : Shared}
end
structure CompC (X : Cx) (scope : Scope) (xn : Str) (N2 : List Str) (f : St → St) : Prop where
  kind : scope.kind = .function
  one : ∀ y ∈ scope.names, y.2 = .cell → y.1 = xn
  cf : ∀ k acc, cellsFrom k scope.names acc = (xn, k) :: acc
  pc : ∀ h : Heap, pushCells h scope.names = h.push { cls := .type "cell", data := .cell none }
  names : ∀ y ∈ scope.names, y.2 = .local → scope.names.lookup y.1 = some .local
  free : ∀ y ∈ scope.names, y.2 = .free → X.env.kindOf y.1 = some .cell ∨ X.env.kindOf y.1 = some .free
  lenf : ∀ σ : St, (f σ).length = σ.length
  lenN : N2.length = X.N.length
  out : ∀ (σ : St) (i : Nat) (y : Str) (v : V), N2[i]? = some y → (f σ)[i]? = some (some v) → X.N[i]? = some y ∧ σ[i]? = some (some v) ∧ scope.names.lookup y ≠ some .local ∧ y ≠ xn
end L2
end

section
set_option Elab.async false
set_option linter.all false
set_option maxRecDepth 100000
namespace L2
open PySem PySem.Spec PyProof.Rows
section
variable {X : Cx}
end
end L2
end

section
set_option Elab.async false
set_option linter.all false
set_option maxRecDepth 100000
set_option maxHeartbeats 1000000
namespace L2
open PySem PySem.Spec PyProof.Rows PySem.W
section
variable {X : Cx}
end
end L2
end

section
set_option Elab.async false
set_option linter.all false
set_option maxRecDepth 100000
set_option maxHeartbeats 2000000
namespace L2
open PySem PySem.Spec PyProof.Rows PySem.W
open AutoSeq1 (wpAny_loadPart')
section
variable {prog : Program} {w : World} {A : Around} {E : Value → Shared → Prop} {s : Shared}
end
section
variable {X : Cx} {pins : List (Addr × Obj)} {σ : St} {H : Hp} {s : Shared} {h' : Heap}
theorem Inv.turnedL {t' : Nat} {fp : List Addr} (I : Inv X pins σ H s) (k : ∀ b o, b ∉ fp → s.heap.get? b = some o → h'.get? b = some o) (hf : ∀ b ∈ fp, FpOk X pins H b) : Inv X pins σ H { s with heap := h', toks := t' } := by
  have nit : ∀ b u, H b = some u → b ∉ fp := fun b u e z => by rw [(hf b z).1] at e; cases e
  refine I.step (g' := s.gens) (d' := s.drawn) (ch := fp) (fun b hb => ?_) (fun b o _ _ hc e _ => k b o hc e) (fun b o _ _ hc e _ => ⟨o.slots, k b o hc e⟩) (fun _ _ _ _ n => n)
    (fun b o hc e => ⟨o, k b o hc e⟩) (fun _ _ e => e) (fun _ _ _ e => e) (fun b ps e => ⟨#[], by rw [e]; simp⟩) (fun m hm => ?_) (fun b u e => ?_) I.bare
  · obtain ⟨f0, f1, f2, f3, f4, f5⟩ := hf b hb
    exact ⟨f3, f1, f4, f5⟩
  · obtain ⟨o, es, ep, ho, r⟩ := hm
    exact ⟨o, es, ep, k _ o (fun z => (hf _ z).2.1 rfl) ho, r⟩
  · refine (I.hok b u e).stay (fun c v hc q => k c v ?_ q) (fun _ q => q) fun _ _ q => q
    rcases hc with z | z
    · rw [z]; exact nit b u e
    · exact nit c _ z
theorem Inv.pair {e it : Addr} {i tk : Nat} {x : V} {u : Value} {h1 h2 : Heap} (I : Inv X pins σ H s) (hf : ∀ b ∈ [e, it], FpOk X pins H b) (le : e < s.heap.objs.size) (li : it < s.heap.objs.size) (rx : RelV x u)
    (hT : h1.get? s.heap.objs.size = some { cls := .type "tuple", data := .seq #[.int i tk, u] }) (hk : ∀ b o, b ≠ e → b ≠ it → s.heap.get? b = some o → h1.get? b = some o) (hs : Heap.SameBut e h1 h2) :
    Inv X pins σ (upd H s.heap.objs.size (.tup [.int i, x])) { s with heap := h2, toks := tk + 1 } ∧ ∀ b ∈ [e, it], upd H s.heap.objs.size (.tup [.int i, x]) b = none := by
  have I2 : Inv X pins σ (upd H s.heap.objs.size (.tup [.int i, x])) { s with heap := s.heap.push { cls := .type "tuple", data := .seq #[.int i tk, u] }, toks := tk + 1 } :=
    I.laid (fun b v e => Heap.get?_push_of_some _ e) (Nat.le_refl _) ⟨by show 2 ≤ sizeLine; decide, [.int i tk, u], .cons ⟨tk, rfl⟩ (.cons rx .nil), ⟨_, Heap.get?_push_size _ rfl, rfl, _, rfl⟩⟩
  have ne : ∀ b ∈ [e, it], b ≠ s.heap.objs.size := fun b hb => by
    rcases List.mem_cons.mp hb with z | z
    · rw [z]; exact Nat.ne_of_lt le
    · rw [List.mem_singleton.mp z]; exact Nat.ne_of_lt li
  have fr : ∀ b ∈ [e, it], upd H s.heap.objs.size (.tup [.int i, x]) b = none := fun b hb => by rw [upd_ne (ne b hb)]; exact (hf b hb).1
  have I3 := Inv.turnedL (s := { s with heap := s.heap.push { cls := .type "tuple", data := .seq #[.int i tk, u] }, toks := tk + 1 }) (h' := h2) (fp := [e, it]) (t' := tk + 1) I2 (fun b o hb g => ?_) fun b hb => ?_
  · exact ⟨I3, fr⟩
  · have nbe : b ≠ e := fun z => hb (by simp [z])
    have nbi : b ≠ it := fun z => hb (by simp [z])
    rw [hs.2 b nbe]
    rcases Heap.get?_push_cases g with ⟨z1, z2⟩ | z
    · rw [z1, z2]; exact hT
    · exact hk b o nbe nbi z
  · obtain ⟨f0, f1, f2, f3, f4, f5⟩ := hf b hb
    exact ⟨fr b hb, f1, f2, f3, f4, f5⟩
end
def IteS (l : List Nat) : It :=
  ⟨fun i _ => i < l.length, fun i H v H' => ∃ T c, H T = none ∧ v = .ref T ∧ l[i]? = some c ∧ H' = upd H T (.tup [.int i, .str (S [c])]), fun i _ => l.length ≤ i⟩
theorem turn_enumS {P : Program} {w : World} {K : PySem.W.Frag} {elts : List Expr} {x1} {pos : Pos} {ty : String} (hty : ty = "str_ascii_iterator" ∨ ty = "str_iterator") (l : List Nat) (t : Tok) (it e : Addr) :
    Turn P w K (.Tuple elts x1 pos) (IteS l) [e, it] e (fun i h => e ≠ it ∧ i ≤ l.length ∧ (∃ old, IsEnum h e it i old) ∧ h.IsStrIter it ty (S l) t i) where
  mem := by simp
  obj := fun i h st b hb => by
    obtain ⟨_, _, ⟨old, he⟩, o, ho, _, hd⟩ := st
    rcases List.mem_cons.mp hb with z | z
    · exact ⟨_, by rw [z]; exact he, fun v y => by cases y⟩
    · exact ⟨o, by rw [List.mem_singleton.mp z]; exact ho, fun v y => by rw [hd] at y; cases y⟩
  keep := fun i h h' st k => by
    obtain ⟨n, le, ⟨old, he⟩, o, ho, r⟩ := st
    exact ⟨n, le, ⟨old, k e (by simp) _ he⟩, o, k it (by simp) o ho, r⟩
  item := by
    intro X hP hw hK hc i pins s σ H E I hf st hg
    subst hP hw hK
    obtain ⟨ne, le, ⟨old, he⟩, hs⟩ := st
    have hh : X.A.in1.handled = none := by simp [I.ok.hd hc]
    have hg' : i < (S l).cps.size := hg
    have fin : ∀ (D : Draws X.prog X.w X.A.in1 it [it] (S l).cps.size (fun i v => ∃ c u, (S l).cps[i]? = some c ∧ v = .str ⟨#[c]⟩ u) (fun i h => h.IsStrIter it ty (S l) t i)),
        wpAny (model X.prog X.w) X.A (pyNext (.ref e)) (fun r s1 => ∃ u, r = some u ∧ wpAny (model X.prog X.w) X.A (letOwnedTupleGo (.Tuple elts x1 pos) (.ref e) u) (fun _ s2 => ∃ x H', Inv X pins σ H' s2 ∧ RelV x u ∧ (IteS l).yld i H x H' ∧ (e ≠ it ∧ i + 1 ≤ l.length ∧ (∃ old, IsEnum s2.heap e it ((i + 1 : Nat) : Int) old) ∧ s2.heap.IsStrIter it ty (S l) t (i + 1)) ∧ ∀ b ∈ [e, it], H' b = none) E s1) E s := by
      intro D
      refine wpAny_pyNext_enum_itemD D he hs hg' ne (by simp [ne]) fun x h' tk hP ho hs' hT hsz hk => ?_
      obtain ⟨c, u, hc', rfl⟩ := hP
      refine ⟨_, rfl, wpAny_letOwnedTupleGo_enum ho fun h2 he2 hs2 => ?_⟩
      obtain ⟨o, ho2, r2⟩ := hs'
      obtain ⟨oi, hoi, _⟩ := id hs
      obtain ⟨I3, fr⟩ := Inv.pair (x := .str (S [c])) I hf (Heap.lt_size he) (Heap.lt_size hoi) ⟨u, rfl⟩ hT hk hs2
      refine ⟨.ref s.heap.objs.size, _, I3, rfl, ⟨s.heap.objs.size, c, I.hok.fresh (Nat.le_refl _), rfl, by simpa [S] using hc', rfl⟩, ⟨ne, hg, ⟨_, by simpa using he2⟩, o, (hs2.2 it (Ne.symm ne)).trans ho2, r2⟩, fr⟩
    rcases hty with rfl | rfl
    · exact fin (Draws.strAscii hh it (S l) t)
    · exact fin (Draws.strWide hh it (S l) t)
  done := by
    intro X hP hw hK hc i pins s σ H E I hf st hg
    subst hP hw hK
    obtain ⟨ne, le, ⟨old, he⟩, hs⟩ := st
    have hh : X.A.in1.handled = none := by simp [I.ok.hd hc]
    have hi : i = (S l).cps.size := Nat.le_antisymm le hg
    have hs' := hs
    rw [hi] at hs'
    obtain ⟨f0, f1, f2, f3, f4, f5⟩ := hf it (by simp)
    rcases hty with rfl | rfl
    · exact wpAny_pyNext_enum_endD (Draws.strAscii hh it (S l) t) he hs' fun h' eb => ⟨rfl, I.turned (t' := s.toks) (fun b o hb e => eb b o hb e) f0 f1 f3 f4 f5⟩
    · exact wpAny_pyNext_enum_endD (Draws.strWide hh it (S l) t) he hs' fun h' eb => ⟨rfl, I.turned (t' := s.toks) (fun b o hb e => eb b o hb e) f0 f1 f3 f4 f5⟩
  self := fun A i s Q E st h => by
    obtain ⟨_, _, ⟨old, he⟩, _⟩ := st
    exact wpAny_pyIter_enum he h
section
variable {X : Cx} {elts : List Expr} {x1 : Nat} {tp : Pos}
def iEnumS (ta : TA) : TI := fun σ H R => ta σ H fun vs H1 => ∃ l, vs = [.str (S l)] ∧ R (IteS l) H1
theorem qi_enumS {a : Expr} {ta : TA} {p pos : Pos} (hg : Gl X "enumerate") (hm : X.mg "enumerate" = none) (ha : QA X [a] ta) (hs : starEach [a] X.env = [(false, eval a X.env)] := by rfl) : QI X (.Tuple elts x1 tp) (.Call (.Name "enumerate" p) [a] [] pos) (iEnumS ta) := ⟨by
  intro pins s σ H R I h
  refine Call_ (ld_blt I hg hm boot_enumerate (PyProof.Rows.callWith_type1 (thn (ha.out pos pins s σ H _ I h) fun us s1 ⟨vs, H1, I1, r1, q1⟩ => ?_) hs rfl))
  obtain ⟨l, e, q⟩ := q1
  subst e
  cases r1 with
  | cons r rr =>
    cases rr
    obtain ⟨t, rfl⟩ := r
    have hty : strIterType (S l) = "str_ascii_iterator" ∨ strIterType (S l) = "str_iterator" := by unfold strIterType; split <;> simp
    refine call_enumerate_str fun h' he hit hsz hk => wpAny_pyIter_enum he ?_
    refine ⟨s1.heap.objs.size + 1, [s1.heap.objs.size + 1, s1.heap.objs.size], _, _, H1, rfl, I1.kept (t' := s1.toks) hk, turn_enumS hty l t s1.heap.objs.size _, ⟨Nat.succ_ne_self _, Nat.zero_le _, ⟨_, he⟩, hit⟩, fun b hb => ?_, q⟩
    rcases List.mem_cons.mp hb with z | z
    · rw [z]; exact I1.fpOk (Nat.le_succ _) (I1.hok.fresh (Nat.le_succ _))
    · rw [List.mem_singleton.mp z]; exact I1.fpOk (Nat.le_refl _) (I1.hok.fresh (Nat.le_refl _))⟩
end
section
variable {X : Cx}
end
end L2
end

section
set_option Elab.async false
set_option linter.all false
set_option maxRecDepth 100000
set_option maxHeartbeats 2000000
namespace L2
open PySem PySem.Spec PyProof.Rows PySem.W
structure ZA (z ti to u v a b : Addr) : Prop where
  q1 : ti ≠ z
  q2 : to ≠ z
  q3 : u ≠ z
  q4 : v ≠ z
  q5 : ti ≠ to
  q6 : ti ≠ u
  q7 : ti ≠ v
  q8 : to ≠ u
  q9 : to ≠ v
  p1 : u ≠ v
  p2 : a ≠ z
  p3 : a ≠ to
  p4 : a ≠ u
  p5 : a ≠ v
  p6 : b ≠ z
  p7 : b ≠ to
  p8 : b ≠ u
  p9 : b ≠ v
section
variable {prog : Program} {w : World} {A : Around} {E : Value → Shared → Prop} {s : Shared} {z ti to u v a b : Addr} {i : Nat} {f g : Array Value} {x y m n : Value}
end
section
variable {X : Cx} {pins : List (Addr × Obj)} {σ : St} {H : Hp} {s : Shared}
end
section
variable {X : Cx} {elts : List Expr} {x1 : Nat} {tp : Pos}
end
end L2
end

section
set_option Elab.async false
set_option linter.all false
set_option maxRecDepth 100000
set_option maxHeartbeats 2000000
namespace L2
open PySem PySem.Spec PyProof.Rows PySem.W
section
variable {X : Cx}
end
end L2
end

section
set_option Elab.async false
set_option linter.all false
set_option maxRecDepth 100000
set_option maxHeartbeats 2000000
namespace HT
open PySem PySem.Spec PyProof.Rows
section
variable {prog : Program} {w : World} {A : Around} {E : Value → Shared → Prop} {s : Shared}
end
end HT
namespace L2
open PySem PySem.Spec PyProof.Rows PySem.W
section
variable {X : Cx}
end
end L2
end

section
set_option Elab.async false
set_option linter.all false
set_option maxRecDepth 100000
set_option maxHeartbeats 2000000
namespace L2
open PySem PySem.Spec PyProof.Rows PySem.W
section
variable {prog : Program} {w : World} {A : Around} {E : Value → Shared → Prop} {s : Shared} {z ti to u v a b : Addr} {i : Nat} {f g : Array Value} {x y m n : Value}
end
section
variable {X : Cx} {elts : List Expr} {x1 : Nat} {tp : Pos}
end
section
variable {prog : Program} {w : World} {A : Around} {E : Value → Shared → Prop} {s : Shared}
end
section
variable {X : Cx}
end
section
variable {X : Cx}
open Classical in
def rInDL (K : PySem.W.Frag) (neg : Bool) : R2 := fun x y H Q => ∃ n d es, n ≤ 60 ∧ HasD K H n d x ∧ HasD K H n (.lst es) y ∧ Q (.bl (if neg then !decide (d ∈ es) else decide (d ∈ es))) H
theorem op_inDL (hu : X.A.units + 64 < cLine) : OpR X (compareOp .In) (rInDL X.K false) := by
  intro pins s σ H x y v u Q I rx ry h
  obtain ⟨n, d, es, hn, hd, he, q⟩ := h
  obtain ⟨as, ra⟩ := hd.reads I rx
  obtain ⟨bs, rb⟩ := he.reads I ry
  have l1 := hd.lay
  have l2 := he.lay
  rw [toP] at rb
  simp only [toP, PyData.canLay0, PyData.depth] at l2
  refine SeqAt.in_list_reads rb ra l2.1 l1.1 (by have := Nat.min_le_right (PyData.depthAll (toPs es)) (toP d).depth; omega) ⟨.bl _, H, I, rfl, ?_⟩
  rw [any_eqv]; exact q
end
end L2
end

section
set_option Elab.async false
set_option linter.all false
set_option maxRecDepth 100000
set_option maxHeartbeats 2000000
namespace L2
open PySem PySem.Spec PyProof.Rows PySem.W
section
variable {X : Cx}
end
end L2
end

section
set_option Elab.async false
set_option linter.all false
set_option maxRecDepth 100000
set_option maxHeartbeats 2000000
namespace L2
open PySem PySem.Spec PyProof.Rows PySem.W
section
variable {P : Program} {wd : World} {Ar : Around} {Ex : Value → Shared → Prop}
end
section
variable {X : Cx} {pos : Pos}
end
end L2
end

section
set_option Elab.async false
set_option linter.all false
set_option maxRecDepth 100000
set_option maxHeartbeats 2000000
namespace L2
open PySem PySem.Spec PyProof.Rows PySem.W
section
variable {X : Cx} {o e f : Expr} {apos cpos : Pos} {td ty tx : TE}
theorem qe_dget2 (hu : X.A.units + 1 < cLine) (ho : QE X o td) (he : QE X e ty) (hf : QE X f tx) (m : M2 X o "get" apos e f cpos) : QE X (.Call (.Attribute o "get" apos) [e, f] [] cpos) (tDGet2 td ty tx) :=
  ⟨pe_dget2 hu ho.out he.out hf.out m⟩
structure KDict (P : Program) (w : World) (K : PySem.W.Frag) (a : Addr) (kvs : List (Key × V)) : Prop where
  z : (a == sysModules) = false
  ex : ∃ o vs, K.lookup a = some o ∧ KV kvs vs ∧ o.IsDictOf (mixKind P w) vs
def tDGetG (P : Program) (w : World) (K : PySem.W.Frag) (td ty tx : TE) : TE := fun σ H Q => td σ H fun x H1 => ∃ a kvs, x = .ref a ∧ KDict P w K a kvs ∧ ty σ H1 fun y H2 => tx σ H2 fun z H3 => ∃ k, y = kV k ∧ Q ((valV kvs k).getD z) H3
theorem qe_dgetG (ho : QE X o td) (he : QE X e ty) (hf : QE X f tx) (m : M2 X o "get" apos e f cpos) : QE X (.Call (.Attribute o "get" apos) [e, f] [] cpos) (tDGetG X.prog X.w X.K td ty tx) := ⟨by
  intro pins s σ H Q I h
  refine wpAny_Call_method m.base m.few m.line PySem.F.plainAttrs_dict PySem.F.slot_dict_get PySem.F.type_dict_get (thn (ho.out pins s σ H _ I h) fun u s1 ⟨x, H1, I1, rx, a, kvs, ex, d, q1⟩ => ?_)
  subst ex
  obtain rfl : u = Value.ref a := rx
  obtain ⟨ob, vs, hk, rel, hd⟩ := d.ex
  have dd : ∀ {s' : Shared} {σ' : St} {H' : Hp}, Inv X pins σ' H' s' → s'.heap.DictOf (mixKind X.prog X.w) a vs := fun J => Heap.dictOf_iff.mpr ⟨ob, J.kIn a ob hk, hd⟩
  refine ⟨(dd I1).typeIs, fun b q => ?_, ?_⟩
  · cases q
    obtain ⟨ob, _, _, h1, h2, _⟩ := dd I1
    exact ⟨ob, h1, h2.2.1⟩
  rw [m.trees]
  refine Calls.callWith_builtin rfl (Calls.evalArgs_plain (Calls.spliced_cons (thn (he.out pins s1 σ H1 _ I1 q1) fun iv s2 ⟨y, H2, I2, ry, q2⟩ =>
    Calls.spliced_cons (thn (hf.out pins s2 σ H2 _ I2 q2) fun fv s3 ⟨z, H3, I3, rz, k, ey, q3⟩ => Calls.spliced_nil ?_))))
  subst ey
  refine call_meetsIn PySem.F.slot_dict_get (dd I3).typeIs PySem.F.entry_dict_get (PySem.F.args_dict_get_3 _ _ _) (meets_dict_get_default (mixKind X.prog X.w) a (kV_is ry) d.z fv) ⟨_, (dd I3).mapOf, ?_⟩
  exact ⟨_, H3, I3.tok _, (rel.val k).getD rz, q3⟩⟩
end
section
variable {X : Cx}
def rIntS : List V → Hp → VK → Prop := fun xs H Q => ∃ (l : List Nat) (n : Int), xs = [.str (S l)] ∧ l.length ≤ 640 ∧ PySem.intText? (S l) = some n ∧ Q (.int n) H
theorem call_intS : CallR X (.type "int") rIntS := by
  intro pins s σ H xs us Q I r h
  obtain ⟨l, n, rfl, hl, hn, q⟩ := h
  obtain ⟨u, rfl, t, rfl⟩ := vals1 r
  exact KIN.call_text hn (by simpa [S, Str.length] using hl) ⟨.int n, H, I.tok _, ⟨_, rfl⟩, q⟩
def rIndexS : V → List V → Hp → VK → Prop := fun x vs H Q => ∃ (l w : List Nat) (i : Nat) (rest : List Nat), x = .str (S l) ∧ vs = [.str (S w)] ∧ Builtin.Str.occurrences (S l) (S w) 0 (S l).length 1 = i :: rest ∧ Q (.int i) H
theorem mt_indexS : MtR X "str.index" rIndexS := by
  intro pins s σ H x vs v us Q I rx rv h
  obtain ⟨l, w, i, rest, rfl, rfl, ho, q⟩ := h
  obtain ⟨t, rfl⟩ := rx
  obtain ⟨u, rfl, ru⟩ := rv.one
  obtain ⟨t', rfl⟩ := ru
  refine call_gives F.slot_str_index (typeIs_str s _ t) F.entry_str_index (F.args_str_index_2 _ _) (gives_str_index (S l) (S w) t t' i rest ho) ?_
  show EP X pins σ Q _ _
  exact ⟨.int i, H, I.tok _, ⟨s.toks, rfl⟩, q⟩
end
theorem for_enumS {l : List Nat} {g : TG} {tb : TS} {D : Ends} {σ : St} {H : Hp} (Pv : Nat → St → Hp → Prop) (h0 : Pv 0 σ H)
    (hs : ∀ i c σ H T, l[i]? = some c → Pv i σ H → H T = none → g (.ref T) σ (upd H T (.tup [.int i, .str (S [c])])) fun σ2 H2 => tb { D with nx := Pv (i + 1), ct := Pv (i + 1), bk := D.nx } σ2 H2) (hd : ∀ σ H, Pv l.length σ H → D.nx σ H) :
    ∃ W : Nat → Nat → St → Hp → Prop, (∃ m, W 0 m σ H) ∧ ∀ i m σ H, W i m σ H →
      ((IteS l).stop i H ∧ D.nx σ H) ∨ ((IteS l).go i H ∧ ∃ N : St → Hp → Prop, (∀ σ' H', N σ' H' → ∃ m', m' < m ∧ W (i + 1) m' σ' H') ∧ ∀ x H', (IteS l).yld i H x H' → g x σ H' fun σ2 H2 => tb { D with nx := N, ct := N, bk := D.nx } σ2 H2) := by
  refine ⟨fun i m σ H => m = l.length - i ∧ i ≤ l.length ∧ Pv i σ H, ⟨l.length, by simp, Nat.zero_le _, h0⟩, ?_⟩
  rintro i m σ H ⟨rfl, hi, p⟩
  by_cases hlt : i < l.length
  · refine .inr ⟨hlt, Pv (i + 1), fun σ' H' p' => ⟨l.length - (i + 1), by omega, rfl, hlt, p'⟩, fun x H' y => ?_⟩
    obtain ⟨T, c, hT, rfl, hc, rfl⟩ := y
    exact hs i c σ _ T hc p hT
  · have e : i = l.length := by omega
    subst e
    exact .inl ⟨Nat.le_refl _, hd σ H p⟩
end L2
end

section
set_option Elab.async false
set_option linter.all false
set_option maxRecDepth 100000
set_option maxHeartbeats 2000000
namespace L2
open PySem PySem.Spec PyProof.Rows PySem.W
section
variable {X : Cx}
theorem sum_snoc (a : List Int) (x : Int) : (a ++ [x]).sum = a.sum + x := by
  induction a with
  | nil => simp
  | cons y r ih => rw [List.cons_append, List.sum_cons, List.sum_cons, ih]; omega
theorem preSum_get (ns : List Int) : ∀ k, k ≤ ns.length → preSum (fun i => ns.getD i 0) k = (ns.take k).sum
  | 0, _ => by simp [preSum]
  | k + 1, h => by
    show preSum (fun i => ns.getD i 0) k + ns.getD k 0 = _
    have e : ns.take (k + 1) = ns.take k ++ [ns[k]] := by rw [List.take_add_one, List.getElem?_eq_getElem (by omega)]; rfl
    rw [preSum_get ns k (by omega), e, sum_snoc]
    simp [List.getD, show k < ns.length by omega]
theorem sum_le (ns : List Int) (b : Int) (hb : 0 ≤ b) (h : ∀ x ∈ ns, -b ≤ x ∧ x ≤ b) : -(b * ns.length) ≤ ns.sum ∧ ns.sum ≤ b * ns.length := by
  induction ns with
  | nil => simp
  | cons a r ih =>
    have h1 := h a List.mem_cons_self
    have h2 := ih fun x hx => h x (List.mem_cons_of_mem _ hx)
    rw [List.sum_cons, List.length_cons]
    have e : b * ((r.length + 1 : Nat) : Int) = b * r.length + b := by rw [Int.natCast_add, Int.mul_add]; simp
    rw [e]
    omega
end
end L2
end

section
set_option Elab.async false
set_option linter.all false
set_option maxRecDepth 100000
set_option maxHeartbeats 2000000
namespace L2
open PySem PySem.Spec PyProof.Rows PySem.SeqAt PySem.MeetsSeq PySem.MeetsSeq3 PySem.W
open AutoSeq1 (wpAny_loadPart')
section
variable {X : Cx}
end
section
variable {X : Cx}
end
end L2
end

section
set_option Elab.async false
set_option linter.all false
set_option maxRecDepth 100000
set_option maxHeartbeats 2000000
namespace L2
open PySem PySem.Spec PyProof.Rows PySem.W
section
variable {X : Cx}
def rNotinS : R2 := fun x y H Q => ∃ c l, x = .str (S [c]) ∧ y = .str (S l) ∧ Q (.bl (!decide (c ∈ l))) H
theorem op_notinS : OpR X (compareOp .NotIn) rNotinS := by
  intro pins s σ H x y v u Q I rx ry h
  obtain ⟨c, l, rfl, rfl, q⟩ := h
  exact op_notIn_str pins s σ H _ _ v u Q I rx ry ⟨S [c], S l, rfl, rfl, by
    have e := StrLaws.found_one (S l) c
    rw [S_cps] at e
    rw [show (S [c]) = (⟨#[c]⟩ : Str) from rfl, e]; exact q⟩
def rSumB (K : PySem.W.Frag) : List V → Hp → VK → Prop := fun xs H Q => ∃ (p : Addr) (ns : List Int), xs = [.ref p] ∧ SqL K H p (ns.map V.int) ∧ ns.length ≤ 1000 ∧ (∀ x ∈ ns, -1000000000000000 ≤ x ∧ x ≤ 1000000000000000) ∧ Q (.int ns.sum) H
theorem call_sumB (hc : X.calm = true) : CallR X (.builtin "sum") (rSumB X.K) := by
  intro pins s σ H xs us Q I r h
  obtain ⟨p, ns, rfl, hq, hn, hb, q⟩ := h
  obtain ⟨u, rfl, ru⟩ := vals1 r
  cases ru
  obtain ⟨its, rv, pl, hz⟩ := I.list hq
  have hlen := rv.length
  rw [List.length_map] at hlen
  have hne : p ≠ s.heap.objs.size := by
    obtain ⟨o, ho, _⟩ := pl.isList
    exact Nat.ne_of_lt (Heap.lt_size ho)
  have hv : ∀ (i : Nat) (v : Value), its.toArray[i]? = some v → ∃ t, v = .int (ns.getD i 0) t := fun i v hv => by
    have hv : its[i]? = some v := by simpa using hv
    have hi : i < ns.length := by have := (List.getElem?_eq_some_iff.mp hv).1; omega
    obtain ⟨u, hu, ru⟩ := rv.get (i := i) (x := .int ns[i]) (by simp [hi])
    rw [hv] at hu; cases hu
    obtain ⟨t, e⟩ := ru
    exact ⟨t, by rw [e]; simp [List.getD, hi]⟩
  have hsz : its.toArray.size = ns.length := by simp [hlen]
  refine call_sum_walk (wpAny_pyIter_list pl.isList ?_)
  refine ⟨s.heap.objs.size, _, _, _, _, _, _, rfl, Walks.list (A := X.A.in1) (I.ok.hd hc) s.heap.objs.size p hne its.toArray, ⟨⟨_, Heap.get?_push_size _ rfl, rfl, rfl⟩, pl.isList.at fun o e => Heap.get?_push_of_some _ e⟩, ?_, hv, fun j hj => ?_, fun h' tk t' kk => ?_⟩
  · intro b hb
    have : b = s.heap.objs.size ∨ b = p := by simpa using hb
    rw [Heap.size_push]
    rcases this with e | e
    · rw [e]; exact Nat.lt_succ_self _
    · rw [e]
      obtain ⟨o, ho, _⟩ := pl.isList
      exact Nat.lt_succ_of_lt (Heap.lt_size ho)
  · have hj' : j < ns.length := by omega
    have h1 := hb _ (List.getElem_mem hj')
    have e1 : ns.getD j 0 = ns[j] := by simp [List.getD, hj']
    have h2 := sum_le (ns.take (j + 1)) 1000000000000000 (by decide) fun x hx => hb x (List.mem_of_mem_take hx)
    have hl : (ns.take (j + 1)).length ≤ 1000 := by rw [List.length_take]; omega
    rw [preSum_get ns (j + 1) (by omega), e1]
    unfold InLong
    omega
  · have I1 : Inv X pins σ H { s with heap := h', toks := tk } := I.kept fun b o e => kk b o (by
      intro hm
      have : b = s.heap.objs.size := by simpa using hm
      subst this
      exact absurd (Heap.lt_size e) (Nat.lt_irrefl _)) (Heap.get?_push_of_some _ e)
    rw [hsz, preSum_get ns ns.length (Nat.le_refl _), List.take_length]
    exact ⟨.int _, H, I1, ⟨t', rfl⟩, q⟩
theorem rel_key {P : Program} {w : World} {k : Key} {v : Value} (h : (mixKind P w).is k v = true) : RelV (kV k) v := by
  rcases keyIs_shape (show keyIs k v = true from h) with ⟨i, t, rfl, rfl⟩ | ⟨x, t, rfl, rfl⟩
  · exact ⟨t, rfl⟩
  · exact ⟨t, rfl⟩
def Itd (o : Obj) (d : Addr) (kvs : List (Key × V)) : It :=
  ⟨fun i H => i < kvs.length ∧ H d = some (.frz o (.dK kvs)), fun i H x H' => H' = H ∧ ∃ k v, kvs[i]? = some (k, v) ∧ x = kV k, fun i H => kvs.length ≤ i ∧ H d = some (.frz o (.dK kvs))⟩
theorem frz_at {P : Program} {w : World} {H : Hp} {h : Heap} {o : Obj} {d : Addr} {kvs : List (Key × V)} {es0 : Array DictEntry} {ep : Nat} (ok : HOk P w H h) (e : H d = some (.frz o (.dK kvs))) (ho : o.data = .dict es0 ep) :
    kvs.length ≤ sizeLine ∧ (d == sysModules) = false ∧ ∃ vs, KV kvs vs ∧ h.DictAt (mixKind P w) d vs ep := by
  obtain ⟨hg, z, y, vs, r, ob, es, ep', e1, c, e2, r2⟩ := (show ObjOk P w H h d (.frz o (.dK kvs)) from ok d _ e)
  rw [hg] at e1
  cases e1
  rw [ho] at e2
  cases e2
  exact ⟨z, y, vs, r, o, es0, hg, c, ho, r2⟩
theorem turn_dict {P : Program} {w : World} {K : PySem.W.Frag} {tg : Expr} {o : Obj} {d it : Addr} {kvs : List (Key × V)} {es0 : Array DictEntry} {ep : Nat} (ho : o.data = .dict es0 ep) : Turn P w K tg (Itd o d kvs) [it] it (fun i h => h.IsKeyIter it d i kvs.length ep) where
  mem := by simp
  obj := fun i h st b hb => by
    have e : b = it := by simpa using hb
    subst e
    obtain ⟨o, e, c, d⟩ := st
    exact ⟨o, e, fun v z => by rw [d] at z; cases z⟩
  keep := fun i h h' st k => st.at fun o e => k it (by simp) o e
  item := by
    intro X hP hw hK hc i pins s σ H E I hf st hg
    subst hP hw hK
    obtain ⟨hi, hq⟩ := hg
    obtain ⟨_, _, vs, r, da⟩ := frz_at I.hok hq ho
    have hl := KV.length r
    obtain ⟨f0, f1, f2, f3, f4, f5⟩ := hf it (by simp)
    obtain ⟨⟨k, v⟩, hx⟩ : ∃ p, vs[i]? = some p := ⟨vs[i]'(by omega), by simp [show i < vs.length by omega]⟩
    refine wpAny_pyNext_dict_item (kvs := vs) (by rw [← hl]; exact st) da hx fun key h' hk st' sb => ?_
    rw [← hl] at st'
    have I1 : Inv X pins σ H { s with heap := h' } := I.turned (t' := s.toks) (fun b o hb e => (sb.2 b hb).trans e) f0 f1 f3 f4 f5
    obtain ⟨o', e, c, dd⟩ := id st'
    refine ⟨key, rfl, go_of (s := { s with heap := h' }) e c dd (by decide) ⟨kV k, H, I1, rel_key hk, ⟨rfl, ?_⟩, st', fun b hb => (hf b hb).1⟩⟩
    have hk2 : (kvs.map (·.1))[i]? = some k := by rw [KV.keys r, List.getElem?_map, hx]; rfl
    rw [List.getElem?_map, List.getElem?_eq_getElem hi] at hk2
    have hk2 : kvs[i].1 = k := Option.some.inj hk2
    exact ⟨k, kvs[i].2, by rw [List.getElem?_eq_getElem hi, ← hk2], rfl⟩
  done := by
    intro X hP hw hK hc i pins s σ H E I hf st hg
    subst hP hw hK
    obtain ⟨hi, hq⟩ := hg
    obtain ⟨_, _, vs, r, da⟩ := frz_at I.hok hq ho
    have hl := KV.length r
    obtain ⟨f0, f1, f2, f3, f4, f5⟩ := hf it (by simp)
    exact wpAny_pyNext_dict_end (kvs := vs) (I.ok.hd hc) (by rw [← hl]; exact st) da (by simp; omega) fun h' eb => ⟨rfl, I.turned (t' := s.toks) (fun b o hb e => eb b o hb e) f0 f1 f3 f4 f5⟩
  self := fun _ _ _ _ _ st h => wpAny_pyIter_keyiter st h
def iDict (tl : TE) : TI := fun σ H R => tl σ H fun x H1 => ∃ d kvs, x = .ref d ∧ H1 d = some (.dK kvs) ∧ ∀ o : Obj, R (Itd o d kvs) (upd H1 d (.frz o (.dK kvs)))
theorem qi_dict {tg : Expr} {l : Expr} {tl : TE} (hl : QE X l tl) : QI X tg l (iDict tl) := ⟨by
  intro pins s σ H R I h
  refine thn (hl.out pins s σ H _ I h) fun v s1 ⟨x, H1, I1, r1, q1⟩ => ?_
  obtain ⟨d, kvs, e, hd, q⟩ := q1
  subst e
  cases r1
  obtain ⟨z, y, vs, r, o, es, ep, e1, c, e2, r2⟩ := (show ObjOk X.prog X.w H1 s1.heap d (.dK kvs) from I1.hok d _ hd)
  have da : s1.heap.DictAt (mixKind X.prog X.w) d vs ep := ⟨o, es, e1, c, e2, r2⟩
  have I2 : Inv X pins σ (upd H1 d (.frz o (.dK kvs))) { s1 with heap := s1.heap, toks := s1.toks } := I1.write (x := d) (e := d) (by rw [hd]; trivial) (.inl rfl) (fun _ _ _ e => e) ⟨o, e1⟩ ⟨e1, z, y, vs, r, o, es, ep, e1, c, e2, r2⟩
  have I2 : Inv X pins σ (upd H1 d (.frz o (.dK kvs))) s1 := I2
  refine wpAny_pyIter_dict y da ?_
  refine ⟨s1.heap.objs.size, [s1.heap.objs.size], _, _, _, rfl, I2.kept (t' := s1.toks) fun b o e => Heap.get?_push_of_some _ e, turn_dict (kvs := kvs) e2, ⟨_, Heap.get?_push_size _ rfl, rfl, by rw [KV.length r]; rfl⟩, fun b hb => ?_, q o⟩
  have e : b = s1.heap.objs.size := by simpa using hb
  subst e
  exact I2.fpOk (Nat.le_refl _) (I2.hok.fresh (Nat.le_refl _))⟩
theorem for_dict {o : Obj} {d : Addr} {kvs : List (Key × V)} {g : TG} {tb : TS} {D : Ends} {σ : St} {H : Hp} (Pv : Nat → St → Hp → Prop) (h0 : Pv 0 σ H) (hl : ∀ i σ H, i ≤ kvs.length → Pv i σ H → H d = some (.frz o (.dK kvs)))
    (hs : ∀ i k v σ H, kvs[i]? = some (k, v) → Pv i σ H → g (kV k) σ H fun σ2 H2 => tb { D with nx := Pv (i + 1), ct := Pv (i + 1), bk := D.nx } σ2 H2) (hd : ∀ σ H, Pv kvs.length σ H → D.nx σ H) :
    ∃ W : Nat → Nat → St → Hp → Prop, (∃ m, W 0 m σ H) ∧ ∀ i m σ H, W i m σ H →
      ((Itd o d kvs).stop i H ∧ D.nx σ H) ∨ ((Itd o d kvs).go i H ∧ ∃ N : St → Hp → Prop, (∀ σ' H', N σ' H' → ∃ m', m' < m ∧ W (i + 1) m' σ' H') ∧ ∀ x H', (Itd o d kvs).yld i H x H' → g x σ H' fun σ2 H2 => tb { D with nx := N, ct := N, bk := D.nx } σ2 H2) := by
  refine ⟨fun i m σ H => m = kvs.length - i ∧ i ≤ kvs.length ∧ Pv i σ H, ⟨kvs.length, by simp, Nat.zero_le _, h0⟩, ?_⟩
  rintro i m σ H ⟨rfl, hi, p⟩
  have q := hl i σ H hi p
  by_cases hlt : i < kvs.length
  · refine .inr ⟨⟨hlt, q⟩, Pv (i + 1), fun σ' H' p' => ⟨kvs.length - (i + 1), by omega, rfl, hlt, p'⟩, fun x H' y => ?_⟩
    obtain ⟨e, k, v, hk, hx⟩ := y
    subst e hx
    exact hs i k v σ _ hk p
  · have e : i = kvs.length := by omega
    subst e
    exact .inl ⟨⟨Nat.le_refl _, q⟩, hd σ H p⟩
theorem DGet.rd {H : Hp} {a : Addr} {kvs : List (Key × V)} {k : Key} (e : Rd H a (.dK kvs)) : DGet H a (kV k) (valV kvs k) := .inl ⟨kvs, k, e, rfl, rfl⟩
theorem Rd.mv {H H' : Hp} {a : Addr} {u : HO} (k : Same H H') (r : Rd H a u) : Rd H' a u := by
  rcases r with r | ⟨o, r⟩
  · exact .inl (k _ _ r)
  · exact .inr ⟨o, k _ _ r⟩
end
end L2
end

section
set_option Elab.async false
set_option linter.all false
set_option maxRecDepth 100000
set_option maxHeartbeats 4000000
namespace L2
open PySem
@[elab_as_elim] theorem e1 {P : List Value → Prop} (h : ∀ a, P [a]) (us : List Value) (hl : us.length = 1) : P us := match us, hl with
  | [a], _ => h _
@[elab_as_elim] theorem e2 {P : List Value → Prop} (h : ∀ a b, P [a, b]) (us : List Value) (hl : us.length = 2) : P us := match us, hl with
  | [a, b], _ => h _ _
@[elab_as_elim] theorem e3 {P : List Value → Prop} (h : ∀ a b c, P [a, b, c]) (us : List Value) (hl : us.length = 3) : P us := match us, hl with
  | [a, b, c], _ => h _ _ _
@[elab_as_elim] theorem e4 {P : List Value → Prop} (h : ∀ a b c d, P [a, b, c, d]) (us : List Value) (hl : us.length = 4) : P us := match us, hl with
  | [a, b, c, d], _ => h _ _ _ _
end L2
namespace My
open PySem L2
def top (i : Nat) : Stmt := PySem.Challenge.pw_letterrack_k31_whole_points_of_a_laying.main.body.getD i (.Pass ⟨0, 0, 0, 0⟩)
abbrev s_is_whole : Stmt := top 5
theorem sc_is_whole : FnScope ["thing"] ["thing"] (defScope s_is_whole) := ⟨rfl, rfl, rfl, by decide +kernel, rfl, by decide +kernel, by decide +kernel⟩
abbrev s_is_sign : Stmt := top 6
theorem sc_is_sign : FnScope ["thing"] ["thing"] (defScope s_is_sign) := ⟨rfl, rfl, rfl, by decide +kernel, rfl, by decide +kernel, by decide +kernel⟩
abbrev s_is_block : Stmt := top 11
theorem sc_is_block : FnScope ["thing", "width"] ["thing"] (defScope s_is_block) := ⟨rfl, rfl, rfl, by decide +kernel, rfl, by decide +kernel, by decide +kernel⟩
abbrev s_are_rows : Stmt := top 12
theorem sc_are_rows : FnScope ["thing"] ["thing"] (defScope s_are_rows) := ⟨rfl, rfl, rfl, by decide +kernel, rfl, by decide +kernel, by decide +kernel⟩
abbrev s_are_marks : Stmt := top 13
theorem sc_are_marks : FnScope ["thing"] ["thing"] (defScope s_are_marks) := ⟨rfl, rfl, rfl, by decide +kernel, rfl, by decide +kernel, by decide +kernel⟩
abbrev s_is_cell_of : Stmt := top 14
theorem sc_is_cell_of : FnScope ["rows", "row", "column"] ["rows", "row", "column"] (defScope s_is_cell_of) := ⟨rfl, rfl, rfl, by decide +kernel, rfl, by decide +kernel, by decide +kernel⟩
abbrev s_is_begin_of : Stmt := top 15
theorem sc_is_begin_of : FnScope ["rows", "thing"] ["rows", "thing"] (defScope s_is_begin_of) := ⟨rfl, rfl, rfl, by decide +kernel, rfl, by decide +kernel, by decide +kernel⟩
abbrev s_is_board : Stmt := top 16
theorem sc_is_board : FnScope ["rows", "marks", "begin"] ["rows", "marks", "begin"] (defScope s_is_board) := ⟨rfl, rfl, rfl, by decide +kernel, rfl, by decide +kernel, by decide +kernel⟩
abbrev s_column_text : Stmt := top 17
theorem sc_column_text : FnScope ["rows", "column"] ["rows", "column"] (defScope s_column_text) := ⟨rfl, rfl, rfl, by decide +kernel, rfl, by decide +kernel, by decide +kernel⟩
abbrev s_turned_rows : Stmt := top 18
theorem sc_turned_rows : FnScope ["rows"] ["rows"] (defScope s_turned_rows) := ⟨rfl, rfl, rfl, by decide +kernel, rfl, by decide +kernel, by decide +kernel⟩
abbrev s_Board_init : Stmt := inClass (top 19) 0
theorem sc_Board_init : FnScope ["self", "rows", "marks", "begin"] ["self", "rows", "marks", "begin"] (defScope s_Board_init) := ⟨rfl, rfl, rfl, by decide +kernel, rfl, by decide +kernel, by decide +kernel⟩
abbrev s_Board_run : Stmt := inClass (top 19) 3
theorem sc_Board_run : FnScope ["self", "row", "column", "way", "line", "place", "ahead", "signs", "first"] ["self", "row", "column", "way"] (defScope s_Board_run) := ⟨rfl, rfl, rfl, by decide +kernel, rfl, by decide +kernel, by decide +kernel⟩
abbrev s_Board_turned : Stmt := inClass (top 19) 4
theorem sc_Board_turned : FnScope ["self", "begin"] ["self"] (defScope s_Board_turned) := ⟨rfl, rfl, rfl, by decide +kernel, rfl, by decide +kernel, by decide +kernel⟩
abbrev s_Board_laid : Stmt := inClass (top 19) 5
theorem sc_Board_laid : FnScope ["self", "laying", "lines", "row", "column", "sign"] ["self", "laying"] (defScope s_Board_laid) := ⟨rfl, rfl, rfl, by decide +kernel, rfl, by decide +kernel, by decide +kernel⟩
abbrev s_cells_of : Stmt := top 21
theorem sc_cells_of : FnScope ["laying"] ["laying"] (defScope s_cells_of) := ⟨rfl, rfl, rfl, by decide +kernel, rfl, by decide +kernel, by decide +kernel⟩
abbrev s_is_across : Stmt := top 22
theorem sc_is_across : FnScope ["laying"] ["laying"] (defScope s_is_across) := ⟨rfl, rfl, rfl, by decide +kernel, rfl, by decide +kernel, by decide +kernel⟩
abbrev s_formed : Stmt := top 23
theorem sc_formed : FnScope ["board", "laying", "after", "way", "asked", "row", "column", "words", "along", "run"] ["board", "laying"] (defScope s_formed) := ⟨rfl, rfl, rfl, by decide +kernel, rfl, by decide +kernel, by decide +kernel⟩
abbrev s_worth_of : Stmt := top 27
theorem sc_worth_of : FnScope ["worths", "sign"] ["worths", "sign"] (defScope s_worth_of) := ⟨rfl, rfl, rfl, by decide +kernel, rfl, by decide +kernel, by decide +kernel⟩
abbrev s_cell_in : Stmt := top 28
theorem sc_cell_in : FnScope ["word", "place"] ["word", "place"] (defScope s_cell_in) := ⟨rfl, rfl, rfl, by decide +kernel, rfl, by decide +kernel, by decide +kernel⟩
abbrev s_word_points : Stmt := top 29
theorem sc_word_points : FnScope ["board", "worths", "laying", "word", "cells", "total", "times", "place", "sign", "cell", "worth", "mark"] ["board", "worths", "laying", "word"] (defScope s_word_points) := ⟨rfl, rfl, rfl, by decide +kernel, rfl, by decide +kernel, by decide +kernel⟩
abbrev s_bonus_of : Stmt := top 30
theorem sc_bonus_of : FnScope ["bonus", "laying"] ["bonus", "laying"] (defScope s_bonus_of) := ⟨rfl, rfl, rfl, by decide +kernel, rfl, by decide +kernel, by decide +kernel⟩
abbrev s_points_of : Stmt := top 31
theorem sc_points_of : FnScope ["board", "worths", "bonus", "laying", "counted"] ["board", "worths", "bonus", "laying"] (defScope s_points_of) := ⟨rfl, rfl, rfl, by decide +kernel, rfl, by decide +kernel, by decide +kernel⟩
abbrev s_cell_at : Stmt := top 33
theorem sc_cell_at : FnScope ["_law_script", "_law_k"] ["_law_script", "_law_k"] (defScope s_cell_at) := ⟨rfl, rfl, rfl, by decide +kernel, rfl, by decide +kernel, by decide +kernel⟩
abbrev s_take : Stmt := top 34
theorem sc_take : FnScope ["_law_rest_here", "_law_base", "_law_digit"] ["_law_rest_here", "_law_base"] (defScope s_take) := ⟨rfl, rfl, rfl, by decide +kernel, rfl, by decide +kernel, by decide +kernel⟩
abbrev s_rest : Stmt := top 35
theorem sc_rest : FnScope ["_law_cell", "_law_number", "_law_found", "_law_k"] ["_law_cell"] (defScope s_rest) := ⟨rfl, rfl, rfl, by decide +kernel, rfl, by decide +kernel, by decide +kernel⟩
abbrev s_letters : Stmt := top 36
theorem sc_letters : FnScope ["_law_rest_here", "_law_every", "_law_found", "_law_k", "_law_left"] ["_law_rest_here"] (defScope s_letters) := ⟨rfl, rfl, rfl, by decide +kernel, rfl, by decide +kernel, by decide +kernel⟩
abbrev s_sign : Stmt := top 37
theorem sc_sign : FnScope ["_law_rest_here", "_law_letters_here", "_law_great", "_law_letter"] ["_law_rest_here", "_law_letters_here", "_law_great"] (defScope s_sign) := ⟨rfl, rfl, rfl, by decide +kernel, rfl, by decide +kernel, by decide +kernel⟩
abbrev s_rows : Stmt := top 38
theorem sc_rows : FnScope ["_law_rest_here", "_law_letters_here", "_law_most", "_law_size", "_law_tall", "_law_wide", "_law_full", "_law_rows_here", "_law_row", "_law_text", "_law_column", "_law_free", "_law_line", "_law_spot"] ["_law_rest_here", "_law_letters_here", "_law_most"] (defScope s_rows) := ⟨rfl, rfl, rfl, by decide +kernel, rfl, by decide +kernel, by decide +kernel⟩
abbrev s_marks : Stmt := top 39
theorem sc_marks : FnScope ["_law_rest_here", "_law_rows_here", "_law_found", "_law_row"] ["_law_rest_here", "_law_rows_here"] (defScope s_marks) := ⟨rfl, rfl, rfl, by decide +kernel, rfl, by decide +kernel, by decide +kernel⟩
abbrev s_begin : Stmt := top 40
theorem sc_begin : FnScope ["_law_rest_here", "_law_rows_here", "_law_spot"] ["_law_rest_here", "_law_rows_here"] (defScope s_begin) := ⟨rfl, rfl, rfl, by decide +kernel, rfl, by decide +kernel, by decide +kernel⟩
abbrev s_grid : Stmt := top 41
theorem sc_grid : FnScope ["_law_rows_here", "_law_laying", "_law_grid_here", "_law_row", "_law_column", "_law_sign_here"] ["_law_rows_here", "_law_laying"] (defScope s_grid) := ⟨rfl, rfl, rfl, by decide +kernel, rfl, by decide +kernel, by decide +kernel⟩
abbrev s_run : Stmt := top 42
theorem sc_run : FnScope ["_law_grid_here", "_law_row", "_law_column", "_law_way", "_law_signs", "_law_here"] ["_law_grid_here", "_law_row", "_law_column", "_law_way"] (defScope s_run) := ⟨rfl, rfl, rfl, by decide +kernel, rfl, by decide +kernel, by decide +kernel⟩
abbrev s_words : Stmt := top 43
theorem sc_words : FnScope ["_law_rows_here", "_law_laying", "_law_grid_here", "_law_line", "_law_runs", "_law_row", "_law_column", "_law_sign_here"] ["_law_rows_here", "_law_laying"] (defScope s_words) := ⟨rfl, rfl, rfl, by decide +kernel, rfl, by decide +kernel, by decide +kernel⟩
abbrev s_is_near : Stmt := top 44
theorem sc_is_near : FnScope ["_law_rows_here", "_law_row", "_law_column", "_law_there"] ["_law_rows_here", "_law_row", "_law_column"] (defScope s_is_near) := ⟨rfl, rfl, rfl, by decide +kernel, rfl, by decide +kernel, by decide +kernel⟩
abbrev s_starts : Stmt := top 45
theorem sc_starts : FnScope ["_law_rows_here", "_law_rest_here", "_law_free", "_law_near", "_law_row", "_law_column"] ["_law_rows_here", "_law_rest_here"] (defScope s_starts) := ⟨rfl, rfl, rfl, by decide +kernel, rfl, by decide +kernel, by decide +kernel⟩
abbrev s_straight : Stmt := top 46
theorem sc_straight : FnScope ["_law_rows_here", "_law_rest_here", "_law_letters_here", "_law_way", "_law_many", "_law_row", "_law_column", "_law_found", "_law_blanks", "_law_sign_here"] ["_law_rows_here", "_law_rest_here", "_law_letters_here"] (defScope s_straight) := ⟨rfl, rfl, rfl, by decide +kernel, rfl, by decide +kernel, by decide +kernel⟩
abbrev s_whole : Stmt := top 47
theorem sc_whole : FnScope ["_law_found"] ["_law_found"] (defScope s_whole) := ⟨rfl, rfl, rfl, by decide +kernel, rfl, by decide +kernel, by decide +kernel⟩
abbrev s_worths : Stmt := top 48
theorem sc_worths : FnScope ["_law_rest_here", "_law_letters_here", "_law_most", "_law_worths_here", "_law_letter"] ["_law_rest_here", "_law_letters_here", "_law_most"] (defScope s_worths) := ⟨rfl, rfl, rfl, by decide +kernel, rfl, by decide +kernel, by decide +kernel⟩
abbrev s_count : Stmt := top 49
theorem sc_count : FnScope ["_law_marks_here", "_law_worths_here", "_law_laying", "_law_word", "_law_laid", "_law_row", "_law_column", "_law_way", "_law_signs", "_law_whole_here", "_law_times", "_law_k", "_law_spot", "_law_worth", "_law_mark"] ["_law_marks_here", "_law_worths_here", "_law_laying", "_law_word"] (defScope s_count) := ⟨rfl, rfl, rfl, by decide +kernel, rfl, by decide +kernel, by decide +kernel⟩
abbrev s_turned : Stmt := top 50
theorem sc_turned : FnScope ["_law_laying"] ["_law_laying"] (defScope s_turned) := ⟨rfl, rfl, rfl, by decide +kernel, rfl, by decide +kernel, by decide +kernel⟩
abbrev s_law : Stmt := top 51
theorem sc_law : FnScope ["_law_script", "_law_rest_here", "_law_letters_here", "_law_worths_here", "_law_bonus", "_law_twice", "_law_one", "_law_rows_here", "_law_begin_here", "_law_marks_here", "_law_board", "_law_other", "_law_cell", "_law_laying", "_law_due", "_law_found"] ["_law_script"] (defScope s_law) := ⟨rfl, rfl, rfl, by decide +kernel, rfl, by decide +kernel, by decide +kernel⟩
-- DEFS _wall|_wall|k is_whole|is_whole|thing is_sign|is_sign|thing is_block|is_block|thing are_rows|are_rows|thing are_marks|are_marks|thing is_cell_of|is_cell_of|rows,row,column is_begin_of|is_begin_of|rows,thing is_board|is_board|rows,marks,begin column_text|column_text|rows,column turned_rows|turned_rows|rows Board_init|Board.__init__|self,rows,marks,begin Board_at|Board.at|self,row,column Board_is_free|Board.is_free|self Board_run|Board.run|self,row,column,way Board_turned|Board.turned|self Board_laid|Board.laid|self,laying cells_of|cells_of|laying is_across|is_across|laying formed|formed|board,laying worth_of|worth_of|worths,sign cell_in|cell_in|word,place word_points|word_points|board,worths,laying,word bonus_of|bonus_of|bonus,laying points_of|points_of|board,worths,bonus,laying cell_at|_law_cell_at|_law_script,_law_k take|_law_take|_law_rest_here,_law_base rest|_law_rest|_law_cell letters|_law_letters|_law_rest_here sign|_law_sign|_law_rest_here,_law_letters_here,_law_great rows|_law_rows|_law_rest_here,_law_letters_here,_law_most marks|_law_marks|_law_rest_here,_law_rows_here begin|_law_begin|_law_rest_here,_law_rows_here grid|_law_grid|_law_rows_here,_law_laying run|_law_run|_law_grid_here,_law_row,_law_column,_law_way words|_law_words|_law_rows_here,_law_laying is_near|_law_is_near|_law_rows_here,_law_row,_law_column starts|_law_starts|_law_rows_here,_law_rest_here straight|_law_straight|_law_rows_here,_law_rest_here,_law_letters_here whole|_law_whole|_law_found worths|_law_worths|_law_rest_here,_law_letters_here,_law_most count|_law_count|_law_marks_here,_law_worths_here,_law_laying,_law_word turned|_law_turned|_law_laying law|law|_law_script

section
variable {P : Program} {w : World} {K : PySem.W.Frag} {mg : Str → Option Value} {base : Heap}
def azB (c : Nat) : Bool := decide (97 ≤ c) && decide (c ≤ 122)
def upB (c : Nat) : Bool := decide (65 ≤ c) && decide (c ≤ 90)
def sgB (l : List Nat) : Bool := match l with | [c] => azB c || upB c | _ => false
theorem lt1 (a b : Nat) : ([a] < [b]) ↔ a < b := by simp [List.cons_lt_cons_iff]
theorem dlt1 (a b : Nat) : (!decide ([a] < [b])) = decide (b ≤ a) := by
  by_cases h : a < b
  · rw [decide_eq_true ((lt1 a b).mpr h), decide_eq_false (by omega)]; rfl
  · rw [decide_eq_false (fun z => h ((lt1 a b).mp z)), decide_eq_true (by omega)]; rfl
def NoStr (K : PySem.W.Frag) (H : Hp) (x : V) : Prop := ∃ t, TyOf K H x t ∧ PySem.W.kitOne K t (.type "str") = some false
def spSign (K : PySem.W.Frag) : Sp := fun vs H Q _ => (∃ x, vs = [x] ∧ NoStr K H x ∧ Q (.bl false) H) ∨ (∃ l, vs = [.str (S l)] ∧ l.length ≤ 1000 ∧ Q (.bl (sgB l)) H)
theorem ok_is_sign (D : DefAt K mg "is_sign" s_is_sign ["thing"]) (hlen : mg "len" = none) (hstr : mg "str" = none) (hisi : mg "isinstance" = none) : Def P w K mg base "is_sign" 1 ["thing"] (spSign K) := by
  refine D.qok sc_is_sign (fun vs H Q E h => ?_) (fun f cdv A outer s H vs Q E hr h => ?_)
  · rcases h with ⟨x, rfl, _⟩ | ⟨x, rfl, _⟩ <;> rfl
  · refine ⟨_, qss_cons (qs_if (QW.qt (qw_or (qt_not (qt_val (qe_callB call_isinst (by rfl) hisi PyProof.Rows.boot_isinstance (qa_cons (qv 0) (qa_cons (qe_bltn (v := .ty "str") (by rfl) hstr PyProof.Rows.boot_str rfl) qa_nil)))))
          (qw_or1 (qt_cmpR op_ne (qe_callB call_lenS (by rfl) hlen PySem.boot_len (qa_cons (qv 0) qa_nil)) qe_int (nomark _))))) (qss_one (qs_ret qe_bl)) qss_nil)
      (qss_one (qs_ret (qe_or (qe_chain op_leS op_leS (qe_strS [97] (by decide +kernel)) (qv 0) (qe_strS [122] (by decide +kernel)))
        (qe_one (qe_chain op_leS op_leS (qe_strS [65] (by decide +kernel)) (qv 0) (qe_strS [90] (by decide +kernel))))))), ?_⟩
    rcases h with ⟨x, rfl, ⟨t, ty, hk⟩, q⟩ | ⟨l, rfl, hl, q⟩
    · exact ⟨_, rfl, _, _, _, false, rfl, ty, hk, _, rfl, iteT (iteT q)⟩
    · have hz : l.length ≤ sizeLine := Nat.le_of_lt (small1000 (by omega))
      refine ⟨_, rfl, _, _, _, true, rfl, .str _, (by kernel_rfl), _, rfl, iteF ⟨_, rfl, l, rfl, hz, rfl, _, rfl, ?_⟩⟩
      by_cases h1 : l.length = 1
      · obtain ⟨c, rfl⟩ := List.length_eq_one_iff.mp h1
        refine iteNS rfl ?_
        refine ⟨_, rfl, [97], [c], rfl, rfl, decide (97 ≤ c), by rw [dlt1], ?_⟩
        have q' : Q (.bl (azB c || upB c)) H := q
        have tail : (upB c = (azB c || upB c)) → tChain rLeS rLeS (tC (.str (S [65]))) (tVar 0) (tC (.str (S [90]))) [some (.str (S [c]))] H Q := fun e => by
          refine ⟨_, rfl, [65], [c], rfl, rfl, decide (65 ≤ c), by rw [dlt1], ?_⟩
          rw [← e] at q'
          by_cases h2 : 65 ≤ c
          · rw [decide_eq_true h2]
            refine iteT ⟨[c], [90], rfl, rfl, ?_⟩
            rw [dlt1]
            simpa [upB, h2] using q'
          · rw [decide_eq_false h2]
            refine iteF ?_
            simpa [upB, h2] using q'
        by_cases h2 : 97 ≤ c
        · rw [decide_eq_true h2]
          refine iteT ⟨[c], [122], rfl, rfl, _, rfl, ?_⟩
          rw [dlt1]
          by_cases h3 : c ≤ 122
          · rw [decide_eq_true h3]
            refine iteT ?_
            simpa [azB, h2, h3] using q'
          · rw [decide_eq_false h3]
            exact iteF (tail (by simp [azB, h2, h3]))
        · rw [decide_eq_false h2]
          exact iteF ⟨_, rfl, iteF (tail (by simp [azB, h2]))⟩
      · have e : (!decide (V.int (l.length : Int) = V.int 1)) = true := by
          rw [decide_eq_false]; rfl
          intro z; injection z with z; omega
        rw [e]
        have e2 : sgB l = false := by
          match l, h1 with
          | [], _ => rfl
          | [c], h => exact absurd rfl h
          | _ :: _ :: _, _ => rfl
        rw [e2] at q
        exact iteT q
def spCell (K : PySem.W.Frag) : Sp := fun vs H Q _ => ∃ (a : Addr) (ns : List Int) (k : Nat), vs = [.ref a, .int k] ∧ SqL K H a (ns.map V.int) ∧ ∀ v : Int, Q (.int v) H
def isLet (c : Nat) : Prop := 97 ≤ c ∧ c ≤ 122
structure Alph (ls : List Nat) : Prop where
  lo : 2 ≤ ls.length
  hi : ls.length ≤ 26
  az : ∀ c ∈ ls, isLet c
theorem ok_cell_at (D : DefAt K mg "_law_cell_at" s_cell_at ["_law_script", "_law_k"]) (hlen : mg "len" = none) : Def P w K mg base "_law_cell_at" 1 ["_law_script", "_law_k"] (spCell K) := by
  refine D.qok sc_cell_at (fun vs H Q E h => ?_) (fun f cdv A outer s H vs Q E hr h => ?_)
  · obtain ⟨a, ns, k, rfl, _⟩ := h
    rfl
  · obtain ⟨a, ns, k, rfl, hS, q⟩ := h
    refine ⟨_, qss_cons (qs_if (qt_cmpR op_lt (qv 1) (qe_callB call_len_seq (by rfl) hlen PySem.boot_len (qa_cons (qv 0) qa_nil)) (nomark _)) (qss_one (qs_ret (qe_ix ix_list (qv 0) (qv 1) (fun _ _ => rfl)))) qss_nil) (qss_one (qs_ret qe_int)), ?_⟩
    refine ⟨_, rfl, _, rfl, a, _, rfl, .inl hS, _, _, rfl, rfl, _, rfl, ?_⟩
    refine ite2 (fun hc => ?_) (fun _ => ?_)
    · have hk : k < ns.length := by
        have := of_decide_eq_true hc
        rw [List.length_map] at this
        omega
      exact ⟨_, rfl, _, rfl, a, _, _, .int ns[k], rfl, rfl, hS, atI_nat (by simp [hk]), q _⟩
    · exact q _
theorem flat1 (l : List Nat) : (l.map fun c => [c]).flatten = l := by
  induction l with
  | nil => rfl
  | cons c r ih => rw [List.map_cons, List.flatten_cons, ih]; rfl
theorem AL_az : ∀ c ∈ AL, isLet c := fun c hc => by
  obtain ⟨k, hk, rfl⟩ := List.mem_map.mp hc
  have := List.mem_range.mp hk
  exact ⟨by omega, by omega⟩
def sgC (c : Nat) : Prop := sgB [c] = true
theorem sgC.lt {c : Nat} (h : sgC c) : c < 128 := by
  unfold sgC sgB azB upB at h
  simp at h
  omega
theorem sgC_az {c : Nat} (h : isLet c) : sgC c := by simp [sgC, sgB, azB, h.1, h.2]
theorem sgC_up {c : Nat} (h : isLet c) : sgC (c - 32) := by
  have h1 := h.1
  have h2 := h.2
  simp [sgC, sgB, azB, upB]
  omega
abbrev ones (cs : List Nat) : List (List Nat) := cs.map fun c => [c]
structure Blk (r w : Nat) (ls : List (List Nat)) : Prop where
  len : ls.length = r
  wid : ∀ l ∈ ls, l.length = w
def MK : List Nat := [46, 50, 51, 52, 98, 99, 100]
def roC (c : Nat) : Prop := c = 46 ∨ sgC c
def mkC (c : Nat) : Prop := c ∈ MK
structure Brd (r w : Nat) (rows marks : List (List Nat)) (i j : Nat) : Prop where
  r1 : 1 ≤ r
  r9 : r ≤ 9
  w1 : 1 ≤ w
  w9 : w ≤ 9
  br : Blk r w rows
  bm : Blk r w marks
  cr : ∀ l ∈ rows, ∀ c ∈ l, roC c
  cm : ∀ l ∈ marks, ∀ c ∈ l, mkC c
  bi : i < r
  bj : j < w
theorem Ts_snoc (ls : List (List Nat)) (l : List Nat) : Ts ls ++ [V.str (S l)] = Ts (ls ++ [l]) := by simp [Ts]
theorem ones_snoc (cs : List Nat) (c : Nat) : ones cs ++ [[c]] = ones (cs ++ [c]) := by simp [ones]

def cell (R : List (List Nat)) (i j : Nat) : Nat := (R.getD i []).getD j 0
theorem cell_eq {R : List (List Nat)} {i j : Nat} (hi : i < R.length) (hj : j < R[i].length) : cell R i j = R[i][j] := by
  unfold cell
  rw [List.getD_eq_getElem?_getD (l := R), List.getElem?_eq_getElem hi]
  show (R[i]).getD j 0 = _
  rw [List.getD_eq_getElem?_getD, List.getElem?_eq_getElem hj]
  rfl

end
end My
end

section
set_option Elab.async false
set_option linter.all false
set_option maxRecDepth 100000
set_option maxHeartbeats 2000000
namespace My
open PySem L2
section
variable {P : Program} {w : World} {K : PySem.W.Frag} {mg : Str → Option Value} {base : Heap}
def spWhole : Sp := fun vs H Q _ => ∃ i : Int, vs = [.int i] ∧ Q (.bl true) H
theorem ok_is_whole (D : DefAt K mg "is_whole" s_is_whole ["thing"]) (n_int : mg "int" = none) (n_bool : mg "bool" = none) (n_isinstance : mg "isinstance" = none) : Def P w K mg base "is_whole" 1 ["thing"] spWhole := by
  refine D.qok sc_is_whole (fun vs H Q E h => ?_) (fun f cdv A outer s H vs Q E hr h => ?_)
  · obtain ⟨i, rfl, _⟩ := h
    rfl
  · obtain ⟨i, rfl, q⟩ := h
    refine ⟨_, (qss_one (qs_ret (qe_and (qe_callB call_isinst (by rfl) n_isinstance PyProof.Rows.boot_isinstance (qa_cons (qv 0) (qa_cons (qe_bltn (v := .ty "int") (by rfl) n_int PyProof.Rows.boot_int rfl) qa_nil))) (qe_one (qe_not (qe_callB call_isinst (by rfl) n_isinstance PyProof.Rows.boot_isinstance (qa_cons (qv 0) (qa_cons (qe_bltn (v := .ty "bool") (by rfl) n_bool PyProof.Rows.boot_bool rfl) qa_nil)))))))), ?_⟩
    exact ⟨_, rfl, _, _, _, true, rfl, .int _, (by kernel_rfl), true, rfl, iteT ⟨_, rfl, _, _, _, false, rfl, .int _, (by kernel_rfl), false, rfl, q⟩⟩
theorem Ts_at {ls : List (List Nat)} {i : Nat} {l : List Nat} (h : ls[i]? = some l) : (Ts ls)[i]? = some (.str (S l)) := by simp [Ts, h]
theorem Ts_get {ls : List (List Nat)} {i : Nat} {x : V} (h : (Ts ls)[i]? = some x) : ∃ l, ls[i]? = some l ∧ x = .str (S l) := by
  rw [List.getElem?_map] at h
  obtain ⟨l, h1, h2⟩ := Option.map_eq_some_iff.mp h
  exact ⟨l, h1, h2.symm⟩
theorem all_rep (n : Nat) : ((List.replicate n true).all id) = true := by simp
theorem snoc_rep (n : Nat) : (List.replicate n true).map V.bl ++ [V.bl true] = (List.replicate (n + 1) true).map V.bl := by rw [List.replicate_succ', List.map_append]; rfl
def spBlock : Sp := fun vs H Q _ => ∃ (p : Addr) (ls : List (List Nat)) (r w : Nat), vs = [.ref p] ∧ H p = some (.tup (Ts ls)) ∧ Blk r w ls ∧ 1 ≤ r ∧ r ≤ 9 ∧ 1 ≤ w ∧ w ≤ 9 ∧ ∀ H', Same H H' → Q (.bl true) H'
theorem ok_is_block (D : DefAt K mg "is_block" s_is_block ["thing"]) (n_len : mg "len" = none) (n_tuple : mg "tuple" = none) (n_str : mg "str" = none) (n_all : mg "all" = none) (n_isinstance : mg "isinstance" = none) (g_MOST : ∃ t, mg "MOST" = some (.int 9 t)) : Def P w K mg base "is_block" 1 ["thing"] spBlock := by
  refine D.qok sc_is_block (fun vs H Q E h => ?_) (fun f cdv A outer s H vs Q E hr h => ?_)
  · obtain ⟨p, ls, r, w, rfl, _⟩ := h
    rfl
  · obtain ⟨p, ls, r, w, rfl, hp, hb, r1, r9, w1, w9, q⟩ := h
    have hln : (Ts ls).length = r := by rw [List.length_map, hb.len]
    have h0 : 0 < ls.length := by rw [hb.len]; omega
    refine ⟨_, (qss_cons (qs_if (QW.qt (qw_or (qt_not (qt_val (qe_callB call_isinst (by rfl) n_isinstance PyProof.Rows.boot_isinstance (qa_cons (qv 0) (qa_cons (qe_bltn (v := .ty "tuple") (by rfl) n_tuple PyProof.Rows.boot_tuple rfl) qa_nil))))) (qw_or1 (qt_not (qt_chain op_le op_le qe_int (qe_callB call_len_seq (by rfl) n_len PySem.boot_len (qa_cons (qv 0) qa_nil)) (qe_gI (by rfl) g_MOST)))))) (qss_one (qs_ret qe_bl)) qss_nil) (qss_cons (qs_if (qt_not (qt_val (qe_callB (call_all rfl) (by rfl) n_all boot_allX (qa_cons (qe_comp rfl (CompOk.of sc_is_block.nd (by kernel_rfl)) (qi_tup (qv 0)) (fun _ _ _ _ _ => qts_nil) (fun _ _ _ _ _ => (qe_callB (call_isinstK K) (by rfl) n_isinstance PyProof.Rows.boot_isinstance (qa_cons (qv 0) (qa_cons (qe_bltn (v := .ty "str") (by rfl) n_str PyProof.Rows.boot_str rfl) qa_nil))))) qa_nil)))) (qss_one (qs_ret qe_bl)) qss_nil) (qss_cons (qs_set (i := 1) sc_is_block.nd rfl (Or.inr rfl) (qe_callB call_lenS (by rfl) n_len PySem.boot_len (qa_cons (qe_ix ix_tup (qv 0) qe_int (fun _ _ => rfl)) qa_nil))) (qss_one (qs_ret (qe_and (qe_chain op_le op_le qe_int (qv 1) (qe_gI (by rfl) g_MOST)) (qe_one (qe_callB (call_all rfl) (by rfl) n_all boot_allX (qa_cons (qe_comp rfl (CompOk.of sc_is_block.nd (by kernel_rfl)) (qi_tup (qv 0)) (fun _ _ _ _ _ => qts_nil) (fun _ _ _ _ _ => (qe_cmpR op_eq (qe_callB call_lenS (by rfl) n_len PySem.boot_len (qa_cons (qv 0) qa_nil)) (qv 2) (nomark _)))) qa_nil))))))))), ?_⟩
    refine ⟨_, rfl, _, _, _, true, rfl, .tup hp, (by kernel_rfl), _, rfl, iteF ?_⟩
    refine ⟨_, rfl, p, _, rfl, .inr (SqT.of hp), _, _, rfl, rfl, true, by rw [hln]; simp; omega, iteT ⟨_, _, rfl, rfl, true, by rw [hln]; simp; omega, iteF ?_⟩⟩
    refine ⟨_, rfl, p, rfl, ⟨_, SqT.of hp⟩, fun L hL => comp_tup (xs := Ts ls) (fun i ys H2 => ys = (List.replicate i true).map V.bl ∧ H2 L = some (.lst ys) ∧ Same H H2) ⟨rfl, upd_same, Same.upd hL⟩ (fun i ys H2 _ h => SqT.of (h.2.2 _ _ hp)) ?_ ?_⟩
    · rintro i x ys H2 hi ⟨rfl, hL2, sm⟩
      obtain ⟨l, hl, rfl⟩ := Ts_get hi
      have hil : i < (Ts ls).length := (List.getElem?_eq_some_iff.mp hi).1
      refine ⟨_, rfl, _, _, _, true, rfl, .str _, (by kernel_rfl), hL2, by rw [List.length_map, List.length_replicate]; exact small1000 (by omega), Nxt.mk hil ⟨snoc_rep i, upd_same, sm.upd' hL⟩⟩
    · rintro ys H2 ⟨rfl, hL2, sm⟩
      refine ⟨L, _, rfl, SqL.of hL2, ?_⟩
      rw [all_rep]
      refine ⟨_, rfl, iteF ?_⟩
      have hw0 : ls[0].length = w := hb.wid _ (List.getElem_mem _)
      have hz : ls[0].length ≤ sizeLine := Nat.le_of_lt (small1000 (by omega))
      refine ⟨_, rfl, p, _, _, .str (S ls[0]), rfl, rfl, SqT.of (sm _ _ hp), atI_nat (j := 0) (Ts_at (by simp [h0])), _, rfl, hz, ?_⟩
      refine ⟨_, rfl, _, _, rfl, rfl, true, by rw [hw0]; simp; omega, iteT ⟨_, _, rfl, rfl, true, by rw [hw0]; simp; omega, iteT ?_⟩⟩
      refine ⟨_, rfl, p, rfl, ⟨_, SqT.of (sm _ _ hp)⟩, fun L2 hL3 => comp_tup (xs := Ts ls) (fun i ys H3 => ys = (List.replicate i true).map V.bl ∧ H3 L2 = some (.lst ys) ∧ Same H H3) ⟨rfl, upd_same, sm.upd' (sm.free hL3)⟩ (fun i ys H2 _ h => SqT.of (h.2.2 _ _ hp)) ?_ ?_⟩
      · rintro i x ys H3 hi ⟨rfl, hL4, sm3⟩
        obtain ⟨l, hl, rfl⟩ := Ts_get hi
        have hil : i < (Ts ls).length := (List.getElem?_eq_some_iff.mp hi).1
        have hlw : l.length = w := hb.wid _ (List.mem_of_getElem? hl)
        refine ⟨_, rfl, _, rfl, Nat.le_of_lt (small1000 (by omega)), _, rfl, rfl, hL4, by rw [List.length_map, List.length_replicate]; exact small1000 (by omega), Nxt.mk hil ⟨?_, upd_same, sm3.upd' (sm.free hL3)⟩⟩
        rw [hlw, hw0, decide_eq_true rfl]
        exact snoc_rep i
      · rintro ys H3 ⟨rfl, hL4, sm3⟩
        refine ⟨L2, _, rfl, SqL.of hL4, ?_⟩
        rw [all_rep]
        exact q H3 sm3
theorem flat_len {r w : Nat} {ls : List (List Nat)} (h : Blk r w ls) : ls.flatten.length = r * w := by
  rw [List.length_flatten]
  have : ls.map List.length = List.replicate r w := by
    rw [← h.len, List.eq_replicate_iff]
    exact ⟨by simp, fun b hb => by obtain ⟨l, hl, rfl⟩ := List.mem_map.mp hb; exact h.wid l hl⟩
  rw [this, List.sum_replicate_nat]
def spRows : Sp := fun vs H Q _ => ∃ (p : Addr) (ls : List (List Nat)) (r w : Nat), vs = [.ref p] ∧ H p = some (.tup (Ts ls)) ∧ Blk r w ls ∧ 1 ≤ r ∧ r ≤ 9 ∧ 1 ≤ w ∧ w ≤ 9 ∧ (∀ l ∈ ls, ∀ c ∈ l, roC c) ∧ ∀ H', Same H H' → Q (.bl true) H'
theorem ok_are_rows (D : DefAt K mg "are_rows" s_are_rows ["thing"]) (n_all : mg "all" = none) (g_FREE : ∃ t, mg "FREE" = some (.str (S [46]) t)) (D_is_block : Def P w K mg base "is_block" 1 ["thing"] spBlock) (D_is_sign : Def P w K mg base "is_sign" 1 ["thing"] (spSign K)) : Def P w K mg base "are_rows" 2 ["thing"] spRows := by
  refine D.qok sc_are_rows (fun vs H Q E h => ?_) (fun f cdv A outer s H vs Q E hr h => ?_)
  · obtain ⟨p, ls, r, w, rfl, _⟩ := h
    rfl
  · obtain ⟨p, ls, r, w, rfl, hp, hb, r1, r9, w1, w9, hc, q⟩ := h
    have hrw : r * w ≤ 81 := Nat.mul_le_mul r9 w9
    have hfl := flat_len hb
    refine ⟨_, (qss_one (qs_ret (qe_and (qe_own D_is_block (hr.mono (by decide)) rfl (qa_cons (qv 0) qa_nil)) (qe_one (qe_callB (call_all rfl) (by rfl) n_all boot_allX (qa_cons (qe_comp rfl (CompOk.of sc_are_rows.nd (by kernel_rfl)) (qi_str (qe_bm PySem.F.plainAttrs_str PySem.F.slot_str_join PySem.F.type_str_join mt_joinT (qe_strS [] (by decide +kernel)) (qa_cons (qv 0) qa_nil))) (fun _ _ _ _ _ => qts_nil) (fun _ _ _ _ _ => (qe_or (qe_cmpR op_eqS (qv 0) (qe_gS (by rfl) g_FREE) (nomark _)) (qe_one (qe_own D_is_sign (hr.mono (by decide)) rfl (qa_cons (qv 0) qa_nil)))))) qa_nil)))))), ?_⟩
    refine ⟨_, rfl, p, ls, r, w, rfl, hp, hb, r1, r9, w1, w9, fun H1 s1 => ⟨true, rfl, iteT ?_⟩⟩
    refine ⟨rfl, _, rfl, p, ls, rfl, rfl, SqT.of (s1 _ _ hp), by omega, _, rfl, fun L hL => ?_⟩
    refine comp_str (fun i ys H2 => ys = (List.replicate i true).map V.bl ∧ H2 L = some (.lst ys) ∧ Same H H2) ⟨rfl, upd_same, s1.upd' (s1.free hL)⟩ ?_ ?_
    · rintro i c ys H2 hi ⟨rfl, hL2, sm⟩
      have hil : i < ls.flatten.length := (List.getElem?_eq_some_iff.mp hi).1
      obtain ⟨l, hl, hcl⟩ := List.mem_flatten.mp (List.mem_of_getElem? hi)
      have fin : H2 L = some (.lst ((List.replicate i true).map V.bl)) ∧ ((List.replicate i true).map V.bl).length < sizeLine ∧ Nxt ls.flatten.length i ((List.replicate i true).map V.bl ++ [V.bl true] = (List.replicate (i + 1) true).map V.bl ∧ upd H2 L (.lst ((List.replicate i true).map V.bl ++ [V.bl true])) L = some (.lst ((List.replicate i true).map V.bl ++ [V.bl true])) ∧ Same H (upd H2 L (.lst ((List.replicate i true).map V.bl ++ [V.bl true])))) :=
        ⟨hL2, by rw [List.length_map, List.length_replicate]; exact small1000 (by omega), Nxt.mk hil ⟨snoc_rep i, upd_same, sm.upd' (s1.free hL)⟩⟩
      refine ⟨_, rfl, [c], [46], rfl, rfl, _, rfl, ?_⟩
      rcases hc l hl c hcl with e | e
      · subst e
        rw [decide_eq_true rfl]
        exact iteT fin
      · by_cases h46 : [c] = [46]
        · rw [decide_eq_true h46]; exact iteT fin
        · rw [decide_eq_false h46]
          refine iteF ⟨_, rfl, .inr ⟨[c], rfl, by show 1 ≤ 1000; decide, ?_⟩⟩
          rw [show sgB [c] = true from e]
          exact fin
    · rintro ys H2 ⟨rfl, hL2, sm⟩
      refine ⟨L, _, rfl, SqL.of hL2, ?_⟩
      rw [all_rep]
      exact q H2 sm
def spMarks : Sp := fun vs H Q _ => ∃ (p : Addr) (ls : List (List Nat)) (r w : Nat), vs = [.ref p] ∧ H p = some (.tup (Ts ls)) ∧ Blk r w ls ∧ 1 ≤ r ∧ r ≤ 9 ∧ 1 ≤ w ∧ w ≤ 9 ∧ (∀ l ∈ ls, ∀ c ∈ l, mkC c) ∧ ∀ H', Same H H' → Q (.bl true) H'
theorem ok_are_marks (D : DefAt K mg "are_marks" s_are_marks ["thing"]) (n_all : mg "all" = none) (g_MARKS : ∃ t, mg "MARKS" = some (.str (S MK) t)) (D_is_block : Def P w K mg base "is_block" 1 ["thing"] spBlock) : Def P w K mg base "are_marks" 2 ["thing"] spMarks := by
  refine D.qok sc_are_marks (fun vs H Q E h => ?_) (fun f cdv A outer s H vs Q E hr h => ?_)
  · obtain ⟨p, ls, r, w, rfl, _⟩ := h
    rfl
  · obtain ⟨p, ls, r, w, rfl, hp, hb, r1, r9, w1, w9, hc, q⟩ := h
    have hrw : r * w ≤ 81 := Nat.mul_le_mul r9 w9
    have hfl := flat_len hb
    refine ⟨_, (qss_one (qs_ret (qe_and (qe_own D_is_block (hr.mono (by decide)) rfl (qa_cons (qv 0) qa_nil)) (qe_one (qe_callB (call_all rfl) (by rfl) n_all boot_allX (qa_cons (qe_comp rfl (CompOk.of sc_are_marks.nd (by kernel_rfl)) (qi_str (qe_bm PySem.F.plainAttrs_str PySem.F.slot_str_join PySem.F.type_str_join mt_joinT (qe_strS [] (by decide +kernel)) (qa_cons (qv 0) qa_nil))) (fun _ _ _ _ _ => qts_nil) (fun _ _ _ _ _ => (qe_cmpR op_inS (qv 0) (qe_gS (by rfl) g_MARKS) rfl))) qa_nil)))))), ?_⟩
    refine ⟨_, rfl, p, ls, r, w, rfl, hp, hb, r1, r9, w1, w9, fun H1 s1 => ⟨true, rfl, iteT ?_⟩⟩
    refine ⟨rfl, _, rfl, p, ls, rfl, rfl, SqT.of (s1 _ _ hp), by omega, _, rfl, fun L hL => ?_⟩
    refine comp_str (fun i ys H2 => ys = (List.replicate i true).map V.bl ∧ H2 L = some (.lst ys) ∧ Same H H2) ⟨rfl, upd_same, s1.upd' (s1.free hL)⟩ ?_ ?_
    · rintro i c ys H2 hi ⟨rfl, hL2, sm⟩
      have hil : i < ls.flatten.length := (List.getElem?_eq_some_iff.mp hi).1
      obtain ⟨l, hl, hcl⟩ := List.mem_flatten.mp (List.mem_of_getElem? hi)
      refine ⟨_, rfl, c, MK, rfl, rfl, hL2, by rw [List.length_map, List.length_replicate]; exact small1000 (by omega), Nxt.mk hil ⟨?_, upd_same, sm.upd' (s1.free hL)⟩⟩
      rw [decide_eq_true (show c ∈ MK from hc l hl c hcl)]
      exact snoc_rep i
    · rintro ys H2 ⟨rfl, hL2, sm⟩
      refine ⟨L, _, rfl, SqL.of hL2, ?_⟩
      rw [all_rep]
      exact q H2 sm
def spCellOf (K : PySem.W.Frag) : Sp := fun vs H Q _ => ∃ (p : Addr) (ls : List (List Nat)) (r w : Nat) (i j : Int), vs = [.ref p, .int i, .int j] ∧ SqT K H p (Ts ls) ∧ Blk r w ls ∧ 1 ≤ r ∧ r ≤ 9 ∧ w ≤ 9 ∧ Q (.bl (decide (0 ≤ i ∧ i < r ∧ 0 ≤ j ∧ j < w))) H
theorem ok_is_cell_of (D : DefAt K mg "is_cell_of" s_is_cell_of ["rows", "row", "column"]) (n_len : mg "len" = none) (D_is_whole : Def P w K mg base "is_whole" 1 ["thing"] spWhole) : Def P w K mg base "is_cell_of" 2 ["rows", "row", "column"] (spCellOf K) := by
  refine D.qok sc_is_cell_of (fun vs H Q E h => ?_) (fun f cdv A outer s H vs Q E hr h => ?_)
  · obtain ⟨p, ls, r, w, i, j, rfl, _⟩ := h
    rfl
  · obtain ⟨p, ls, r, w, i, j, rfl, hp, hb, r1, r9, w9, q⟩ := h
    have hln : (Ts ls).length = r := by rw [List.length_map, hb.len]
    have h0 : 0 < ls.length := by rw [hb.len]; omega
    have hw0 : ls[0].length = w := hb.wid _ (List.getElem_mem _)
    refine ⟨_, (qss_cons (qs_if (QW.qt (qw_or (qt_not (qt_val (qe_own D_is_whole (hr.mono (by decide)) rfl (qa_cons (qv 1) qa_nil)))) (qw_or1 (qt_not (qt_val (qe_own D_is_whole (hr.mono (by decide)) rfl (qa_cons (qv 2) qa_nil))))))) (qss_one (qs_ret qe_bl)) qss_nil) (qss_one (qs_ret (qe_and (qe_chain op_le op_lt qe_int (qv 1) (qe_callB call_len_seq (by rfl) n_len PySem.boot_len (qa_cons (qv 0) qa_nil))) (qe_one (qe_chain op_le op_lt qe_int (qv 2) (qe_callB call_lenS (by rfl) n_len PySem.boot_len (qa_cons (qe_ix ix_tup (qv 0) qe_int (fun _ _ => rfl)) qa_nil)))))))), ?_⟩
    refine ⟨_, rfl, i, rfl, _, rfl, iteF ⟨_, rfl, j, rfl, _, rfl, iteF ?_⟩⟩
    refine ⟨_, rfl, _, _, rfl, rfl, _, rfl, ?_⟩
    by_cases h1 : 0 ≤ i
    · rw [decide_eq_true h1]
      refine iteT ⟨_, rfl, p, _, rfl, .inr hp, _, _, rfl, rfl, _, rfl, ?_⟩
      rw [hln]
      by_cases h2 : i < (r : Int)
      · rw [decide_eq_true h2]
        refine iteT ⟨_, rfl, _, _, rfl, rfl, _, rfl, ?_⟩
        by_cases h3 : 0 ≤ j
        · rw [decide_eq_true h3]
          refine iteT ⟨_, rfl, p, _, _, .str (S ls[0]), rfl, rfl, hp, atI_nat (j := 0) (Ts_at (by simp [h0])), _, rfl, Nat.le_of_lt (small1000 (by omega)), _, _, rfl, rfl, ?_⟩
          rw [hw0]
          simpa [h1, h2, h3] using q
        · rw [decide_eq_false h3]
          refine iteF ?_
          simpa [h1, h2, h3] using q
      · rw [decide_eq_false h2]
        refine iteF ?_
        simpa [h1, h2] using q
    · rw [decide_eq_false h1]
      refine iteF ⟨_, rfl, iteF ?_⟩
      simpa [h1] using q
def spBegin (K : PySem.W.Frag) : Sp := fun vs H Q _ => ∃ (p b : Addr) (ls : List (List Nat)) (r w : Nat) (i j : Nat), vs = [.ref p, .ref b] ∧ H p = some (.tup (Ts ls)) ∧ H b = some (.tup [.int i, .int j]) ∧ Blk r w ls ∧ 1 ≤ r ∧ r ≤ 9 ∧ w ≤ 9 ∧ i < r ∧ j < w ∧ Q (.bl true) H
theorem ok_is_begin_of (D : DefAt K mg "is_begin_of" s_is_begin_of ["rows", "thing"]) (n_len : mg "len" = none) (n_tuple : mg "tuple" = none) (n_isinstance : mg "isinstance" = none) (D_is_cell_of : Def P w K mg base "is_cell_of" 2 ["rows", "row", "column"] (spCellOf K)) : Def P w K mg base "is_begin_of" 3 ["rows", "thing"] (spBegin K) := by
  refine D.qok sc_is_begin_of (fun vs H Q E h => ?_) (fun f cdv A outer s H vs Q E hr h => ?_)
  · obtain ⟨p, b, ls, r, w, i, j, rfl, _⟩ := h
    rfl
  · obtain ⟨p, b, ls, r, w, i, j, rfl, hp, hb, hB, r1, r9, w9, hi, hj, q⟩ := h
    refine ⟨_, (qss_one (qs_ret (qe_and (qe_callB call_isinst (by rfl) n_isinstance PyProof.Rows.boot_isinstance (qa_cons (qv 1) (qa_cons (qe_bltn (v := .ty "tuple") (by rfl) n_tuple PyProof.Rows.boot_tuple rfl) qa_nil))) (qe_and (qe_cmpR op_eq (qe_callB call_len_seq (by rfl) n_len PySem.boot_len (qa_cons (qv 1) qa_nil)) qe_int (nomark _)) (qe_one (qe_own D_is_cell_of (hr.mono (by decide)) rfl (qa_cons (qv 0) (qa_cons (qe_ix ix_tup (qv 1) qe_int (fun _ _ => rfl)) (qa_cons (qe_ix ix_tup (qv 1) qe_int (fun _ _ => rfl)) qa_nil))))))))), ?_⟩
    refine ⟨_, rfl, _, _, _, true, rfl, .tup hb, (by kernel_rfl), true, rfl, iteT ?_⟩
    refine ⟨_, rfl, b, _, rfl, .inr (SqT.of hb), rfl, true, rfl, iteT ?_⟩
    refine ⟨_, rfl, _, rfl, b, _, _, .int i, rfl, rfl, SqT.of hb, atI_nat (j := 0) rfl, _, rfl, b, _, _, .int j, rfl, rfl, SqT.of hb, atI_nat (j := 1) rfl, ?_⟩
    refine ⟨p, ls, r, w, i, j, rfl, SqT.of hp, hB, r1, r9, w9, ?_⟩
    rw [decide_eq_true ⟨by omega, by omega, by omega, by omega⟩]
    exact q
def spBoard : Sp := fun vs H Q _ => ∃ (pr pm pb : Addr) (r w : Nat) (rows marks : List (List Nat)) (i j : Nat), vs = [.ref pr, .ref pm, .ref pb] ∧ H pr = some (.tup (Ts rows)) ∧ H pm = some (.tup (Ts marks)) ∧ H pb = some (.tup [.int i, .int j]) ∧ Brd r w rows marks i j ∧ ∀ H', Same H H' → Q (.bl true) H'
theorem ok_is_board (D : DefAt K mg "is_board" s_is_board ["rows", "marks", "begin"]) (n_len : mg "len" = none) (D_are_rows : Def P w K mg base "are_rows" 2 ["thing"] spRows) (D_are_marks : Def P w K mg base "are_marks" 2 ["thing"] spMarks) (D_is_begin_of : Def P w K mg base "is_begin_of" 3 ["rows", "thing"] (spBegin K)) :
    Def P w K mg base "is_board" 4 ["rows", "marks", "begin"] spBoard := by
  refine D.qok sc_is_board (fun vs H Q E h => ?_) (fun f cdv A outer s H vs Q E hr h => ?_)
  · obtain ⟨pr, pm, pb, r, w, rows, marks, i, j, rfl, _⟩ := h
    rfl
  · obtain ⟨pr, pm, pb, r, w, rows, marks, i, j, rfl, hr', hm, hb, B, q⟩ := h
    have l1 : (Ts rows).length = r := by rw [List.length_map, B.br.len]
    have l2 : (Ts marks).length = r := by rw [List.length_map, B.bm.len]
    have h0 : 0 < rows.length := by rw [B.br.len]; exact B.r1
    have h0' : 0 < marks.length := by rw [B.bm.len]; exact B.r1
    have w0 : rows[0].length = w := B.br.wid _ (List.getElem_mem _)
    have w0' : marks[0].length = w := B.bm.wid _ (List.getElem_mem _)
    have w9 := B.w9
    refine ⟨_, (qss_cons (qs_if (QW.qt (qw_or (qt_not (qt_val (qe_own D_are_rows (hr.mono (by decide)) rfl (qa_cons (qv 0) qa_nil)))) (qw_or1 (qt_not (qt_val (qe_own D_are_marks (hr.mono (by decide)) rfl (qa_cons (qv 1) qa_nil))))))) (qss_one (qs_ret qe_bl)) qss_nil) (qss_cons (qs_if (QW.qt (qw_or (qt_cmpR op_ne (qe_callB call_len_seq (by rfl) n_len PySem.boot_len (qa_cons (qv 1) qa_nil)) (qe_callB call_len_seq (by rfl) n_len PySem.boot_len (qa_cons (qv 0) qa_nil)) (nomark _)) (qw_or1 (qt_cmpR op_ne (qe_callB call_lenS (by rfl) n_len PySem.boot_len (qa_cons (qe_ix ix_tup (qv 1) qe_int (fun _ _ => rfl)) qa_nil)) (qe_callB call_lenS (by rfl) n_len PySem.boot_len (qa_cons (qe_ix ix_tup (qv 0) qe_int (fun _ _ => rfl)) qa_nil)) (nomark _))))) (qss_one (qs_ret qe_bl)) qss_nil) (qss_one (qs_ret (qe_own D_is_begin_of (hr.mono (by decide)) rfl (qa_cons (qv 0) (qa_cons (qv 2) qa_nil))))))), ?_⟩
    refine ⟨_, rfl, pr, rows, r, w, rfl, hr', B.br, B.r1, B.r9, B.w1, B.w9, B.cr, fun H1 s1 => ⟨_, rfl, iteF ?_⟩⟩
    refine ⟨_, rfl, pm, marks, r, w, rfl, s1 _ _ hm, B.bm, B.r1, B.r9, B.w1, B.w9, B.cm, fun H2 s2 => ⟨_, rfl, iteF ?_⟩⟩
    have s12 := s1.trans s2
    refine ⟨_, rfl, pm, _, rfl, .inr (SqT.of (s12 _ _ hm)), _, rfl, pr, _, rfl, .inr (SqT.of (s12 _ _ hr')), rfl, _, rfl, ?_⟩
    refine iteNS (by rw [l1, l2]) ?_
    refine ⟨_, rfl, pm, _, _, .str (S marks[0]), rfl, rfl, SqT.of (s12 _ _ hm), atI_nat (j := 0) (Ts_at (by simp [h0'])), _, rfl, Nat.le_of_lt (small1000 (by omega)), _, rfl, pr, _, _, .str (S rows[0]), rfl, rfl, SqT.of (s12 _ _ hr'), atI_nat (j := 0) (Ts_at (by simp [h0])), _, rfl, Nat.le_of_lt (small1000 (by omega)), rfl, _, rfl, ?_⟩
    refine iteNS (by rw [w0, w0']) ?_
    refine ⟨_, rfl, _, rfl, pr, pb, rows, r, w, i, j, rfl, s12 _ _ hr', s12 _ _ hb, B.br, B.r1, B.r9, B.w9, B.bi, B.bj, ?_⟩
    exact q H2 s12
structure BoardCls (K : PySem.W.Frag) (C : Addr) : Prop where
  cl : Cls K C
  nr : NoAttr K C "rows"
  nm : NoAttr K C "marks"
  nb : NoAttr K C "begin"
structure BoardAt (C : Addr) (H : Hp) (p : Addr) (r w : Nat) (rows marks : List (List Nat)) (i j : Nat) : Prop where
  ex : ∃ dx pr pm pb, H p = some (.ins C dx [("rows", .ref pr), ("marks", .ref pm), ("begin", .ref pb)]) ∧ H pr = some (.tup (Ts rows)) ∧ H pm = some (.tup (Ts marks)) ∧ H pb = some (.tup [.int i, .int j])
  ok : Brd r w rows marks i j
theorem BoardAt.mv {C : Addr} {H H' : Hp} {p : Addr} {r w : Nat} {rows marks : List (List Nat)} {i j : Nat} (B : BoardAt C H p r w rows marks i j) (s : Same H H') : BoardAt C H' p r w rows marks i j := by
  obtain ⟨⟨dx, pr, pm, pb, a, b, c, d⟩, o⟩ := B
  exact ⟨⟨dx, pr, pm, pb, s _ _ a, s _ _ b, s _ _ c, s _ _ d⟩, o⟩
def spBInit (C : Addr) : Sp := fun vs H Q _ => ∃ (p dx pr pm pb : Addr) (r w : Nat) (rows marks : List (List Nat)) (i j : Nat), vs = [.ref p, .ref pr, .ref pm, .ref pb] ∧ H p = some (.ins C dx []) ∧ H pr = some (.tup (Ts rows)) ∧ H pm = some (.tup (Ts marks)) ∧ H pb = some (.tup [.int i, .int j]) ∧ Brd r w rows marks i j ∧
  ∀ H', (∀ b o, H b = some o → b ≠ p → H' b = some o) → H' p = some (.ins C dx [("rows", .ref pr), ("marks", .ref pm), ("begin", .ref pb)]) → Q .non H'
theorem ok_board_init {f C : Addr} {fd : FuncData} (F : Fun K "__init__" "Board.__init__" s_Board_init f fd) (T : BoardCls K C) (D_is_board : Def P w K mg base "is_board" 4 ["rows", "marks", "begin"] spBoard) : FnOk P w K mg base CX0 5 f fd ["self", "rows", "marks", "begin"] (spBInit C) := by
  refine F.qok sc_Board_init (fun vs H Q E h => ?_) (fun cdv A outer s H vs Q E hr h => ?_)
  · obtain ⟨p, dx, pr, pm, pb, r, w, rows, marks, i, j, rfl, _⟩ := h
    rfl
  · obtain ⟨p, dx, pr, pm, pb, r, w, rows, marks, i, j, rfl, hp, hr', hm, hb, B, q⟩ := h
    refine ⟨_, (qss_cons (qs_if (qt_not (qt_val (qe_own D_is_board (hr.mono (by decide)) rfl (qa_cons (qv 1) (qa_cons (qv 2) (qa_cons (qv 3) qa_nil)))))) qss_never qss_nil) (qss_cons (qs_fld (qv 0) (qv 1) rfl) (qss_cons (qs_fld (qv 0) (qv 2) rfl) (qss_one (qs_fld (qv 0) (qv 3) rfl))))), ?_⟩
    refine ⟨_, rfl, _, rfl, _, rfl, pr, pm, pb, r, w, rows, marks, i, j, rfl, hr', hm, hb, B, fun H1 s1 => ⟨_, rfl, iteF ?_⟩⟩
    refine ⟨_, rfl, _, rfl, p, C, dx, _, rfl, s1 _ _ hp, T.cl, T.nr, by show 0 < 1000; decide, ?_⟩
    refine ⟨_, rfl, _, rfl, p, C, dx, _, rfl, upd_same, T.cl, T.nm, by show 1 < 1000; decide, ?_⟩
    refine ⟨_, rfl, _, rfl, p, C, dx, _, rfl, upd_same, T.cl, T.nb, by show 2 < 1000; decide, ?_⟩
    refine q _ (fun b o e hne => ?_) ?_
    · rw [upd_ne hne, upd_ne hne, upd_ne hne]; exact s1 _ _ e
    · exact upd_same

end
end My
end

section
set_option Elab.async false
set_option linter.all false
set_option maxRecDepth 100000
set_option maxHeartbeats 2000000
namespace My
open PySem L2
section
variable {P : Program} {w : World} {K : PySem.W.Frag} {mg : Str → Option Value} {base : Heap}
def Kp (R : Addr) (H H' : Hp) : Prop := (∀ b o, H b = some o → b ≠ R → H' b = some o) ∧ ∃ y : Int, H' R = some (.lst [.int y])
theorem Kp.trans {R : Addr} {H H1 H2 : Hp} (h : Kp R H H1) (g : Kp R H1 H2) : Kp R H H2 := ⟨fun b o e n => g.1 b o (h.1 b o e n) n, g.2⟩
theorem Kp.same {R : Addr} {H H1 H2 : Hp} (h : Kp R H H1) (s : Same H1 H2) : Kp R H H2 := ⟨fun b o e n => s _ _ (h.1 b o e n), let ⟨y, e⟩ := h.2; ⟨y, s _ _ e⟩⟩
theorem Kp.of {R : Addr} {H H' : Hp} {x : Int} (h : H R = some (.lst [.int x])) (s : Same H H') : Kp R H H' := ⟨fun b o e _ => s _ _ e, x, s _ _ h⟩
theorem Kp.up {R : Addr} {H : Hp} (y : Int) : Kp R H (upd H R (.lst [.int y])) := ⟨fun b o e n => by rw [upd_ne n]; exact e, y, upd_same⟩
theorem Kp.new {R p : Addr} {H H1 : Hp} {o : HO} (h : Kp R H H1) (hp : H p = none) (hr : R ≠ p) : Kp R H (upd H1 p o) := ⟨fun b o e n => by rw [upd_ne fun z => by rw [z, hp] at e; cases e]; exact h.1 b o e n, let ⟨y, e⟩ := h.2; ⟨y, by rw [upd_ne hr]; exact e⟩⟩
def spTake : Sp := fun vs H Q _ => ∃ (R : Addr) (x : Int) (b : Nat), vs = [.ref R, .int b] ∧ H R = some (.lst [.int x]) ∧ 1 ≤ b ∧ b ≤ 1000000 ∧ ∀ (d : Nat) (y : Int), d < b → Q (.int d) (upd H R (.lst [.int y]))
theorem ok_take (D : DefAt K mg "_law_take" s_take ["_law_rest_here", "_law_base"]) : Def P w K mg base "_law_take" 1 ["_law_rest_here", "_law_base"] spTake := by
  refine D.qok sc_take (fun vs H Q E h => ?_) (fun f cdv A outer s H vs Q E hr h => ?_)
  · obtain ⟨R, x, b, rfl, _⟩ := h
    rfl
  · obtain ⟨R, x, b, rfl, hR, b1, b2, q⟩ := h
    have h1 := Int.emod_nonneg x (show (b : Int) ≠ 0 by omega)
    have h2 := Int.emod_lt_of_pos x (show (0 : Int) < b by omega)
    obtain ⟨d, hd⟩ : ∃ d : Nat, x % (b : Int) = d := ⟨(x % (b : Int)).toNat, by omega⟩
    refine ⟨_, (qss_cons (qs_set (i := 2) sc_take.nd rfl (Or.inl rfl) (qe_op op_mod (qe_ix ix_list (qv 0) qe_int (fun _ _ => rfl)) (qv 1))) (qss_cons (qs_asg (qe_op op_fdiv (qe_ix ix_list (qv 0) qe_int (fun _ _ => rfl)) (qv 1)) (qg_sub (qv 0) qe_int set_list)) (qss_one (qs_ret (qv 2))))), ?_⟩
    refine ⟨_, rfl, R, _, _, _, rfl, rfl, SqL.of hR, atI_nat (j := 0) rfl, _, rfl, _, _, rfl, rfl, (by show (0 : Int) < (b : Int); omega), ?_⟩
    refine ⟨_, rfl, R, _, _, _, rfl, rfl, SqL.of hR, atI_nat (j := 0) rfl, _, rfl, _, _, rfl, rfl, ⟨by show (0 : Int) < (b : Int); omega, by show (b : Int) < 1073741824; omega⟩, ?_⟩
    have := q d (x / (b : Int)) (by omega)
    rw [← hd] at this
    exact ⟨_, rfl, R, _, _, 0, rfl, rfl, hR, rfl, _, rfl, this⟩
def spRest : Sp := fun vs H Q _ => ∃ c : Int, vs = [.int c] ∧ ∀ (R : Addr) (x : Int) (H' : Hp), Same H H' → H' R = some (.lst [.int x]) → H R = none → Q (.ref R) H'
theorem ok_rest (D : DefAt K mg "_law_rest" s_rest ["_law_cell"]) (n_range : mg "range" = none) : Def P w K mg base "_law_rest" 1 ["_law_cell"] spRest := by
  refine D.qok sc_rest (fun vs H Q E h => ?_) (fun f cdv A outer s H vs Q E hr h => ?_)
  · obtain ⟨c, rfl, _⟩ := h
    rfl
  · obtain ⟨c, rfl, q⟩ := h
    refine ⟨_, (qss_cons (qs_if (qt_cmpR op_eq (qe_op op_mod (qv 0) qe_int) qe_int (nomark _)) (qss_one (qs_ret (qe_lst (qa_cons (qe_op op_fdiv (qv 0) qe_int) qa_nil)))) qss_nil) (qss_cons (qs_set (i := 1) sc_rest.nd rfl (Or.inl rfl) (qv 0)) (qss_cons (qs_set (i := 2) sc_rest.nd rfl (Or.inl rfl) qe_int) (qss_cons (qs_for PassesOwn.never rfl (qi_range1 (by rfl) n_range (qa_cons qe_int qa_nil)) (qg_name (i := 3) sc_rest.nd rfl (Or.inl rfl)) (qss_cons (qs_set (i := 1) sc_rest.nd rfl (Or.inl rfl) (qe_op op_mod (qe_op op_add (qe_op op_add (qe_op op_mul (qv 1) qe_int) (qe_op op_mul qe_int (qv 3))) qe_int) qe_int)) (qss_cons (qs_set (i := 1) sc_rest.nd rfl (Or.inl rfl) (qe_op op_mod (qe_op op_add (qe_op op_add (qe_op op_mul (qv 1) qe_int) (qe_op op_mul qe_int (qv 3))) qe_int) qe_int)) (qss_one (qs_set (i := 2) sc_rest.nd rfl (Or.inl rfl) (qe_op op_add (qe_op op_mul (qv 2) qe_int) (qv 1))))))) (qss_one (qs_ret (qe_lst (qa_cons (qv 2) qa_nil)))))))), ?_⟩
    refine ⟨_, rfl, _, _, rfl, rfl, (by show (0 : Int) < 2; decide), rfl, _, rfl, ite2 (fun _ => ?_) (fun _ => ?_)⟩
    · refine ⟨_, rfl, _, _, rfl, rfl, ⟨by decide, by decide⟩, by show 1 ≤ sizeLine; decide, fun R hR => ?_⟩
      exact q R _ _ (Same.upd hR) upd_same hR
    · refine ⟨_, rfl, ?_⟩
      refine ⟨_, rfl, by decide, by decide, for_range (lo := 0) (n := 40) (fun i σ H2 => H2 = H ∧ ∃ (n fo : Int) (v3 : Option V), σ = [some (.int c), some (.int n), some (.int fo), v3]) ⟨rfl, _, _, none, rfl⟩ ?_ ?_⟩
      · rintro i σ H2 hi ⟨rfl, n, fo, v3, rfl⟩
        refine ⟨_, rfl, _, _, rfl, rfl, .inr ⟨by decide, by decide⟩, _, rfl, _, _, rfl, rfl, .inl ⟨by decide, by decide⟩, _, _, rfl, rfl, _, _, rfl, rfl, _, _, rfl, rfl, (by show (0 : Int) < 2147483629; decide), ?_⟩
        refine ⟨_, rfl, _, _, rfl, rfl, .inr ⟨by decide, by decide⟩, _, rfl, _, _, rfl, rfl, .inl ⟨by decide, by decide⟩, _, _, rfl, rfl, _, _, rfl, rfl, _, _, rfl, rfl, (by show (0 : Int) < 2147483587; decide), ?_⟩
        refine ⟨_, rfl, _, _, rfl, rfl, .inr ⟨by decide, by decide⟩, _, rfl, _, _, rfl, rfl, ?_⟩
        exact ⟨rfl, _, _, _, rfl⟩
      · rintro σ H2 ⟨rfl, n, fo, v3, rfl⟩
        refine ⟨_, rfl, by show 1 ≤ sizeLine; decide, fun R hR => ?_⟩
        exact q R _ _ (Same.upd hR) upd_same hR

end
end My
end

section
set_option Elab.async false
set_option linter.all false
set_option maxRecDepth 100000
set_option maxHeartbeats 2000000
namespace My
open PySem L2
section
variable {P : Program} {w : World} {K : PySem.W.Frag} {mg : Str → Option Value} {base : Heap}
theorem some_out : ∀ (F : List Nat) (L : List Nat), L.Nodup → F.length < L.length → ∃ x ∈ L, x ∉ F := fun F L nd h => by
  by_cases c : ∃ x ∈ L, x ∉ F
  · exact c
  · have : L ⊆ F := fun x hx => by
      by_cases m : x ∈ F
      · exact m
      · exact absurd ⟨x, hx, m⟩ c
    have := nd.length_le_of_subset this
    omega
def spLetR : Sp := fun vs H Q _ => ∃ (R : Addr) (x : Int), vs = [.ref R] ∧ H R = some (.lst [.int x]) ∧ ∀ (ls : List Nat) (H' : Hp), Kp R H H' → Alph ls → Q (.str (S ls)) H'
theorem ok_lettersR (D : DefAt K mg "_law_letters" s_letters ["_law_rest_here"]) (n_len : mg "len" = none) (n_range : mg "range" = none) (D_take : Def P w K mg base "_law_take" 1 ["_law_rest_here", "_law_base"] spTake) : Def P w K mg base "_law_letters" 2 ["_law_rest_here"] spLetR := by
  refine D.qok sc_letters (fun vs H Q E h => ?_) (fun f cdv A outer s H vs Q E hr h => ?_)
  · obtain ⟨R, x, rfl, _⟩ := h
    rfl
  · obtain ⟨R, x, rfl, hR, q⟩ := h
    refine ⟨_, (qss_cons (qs_set (i := 1) sc_letters.nd rfl (Or.inl rfl) (qe_strS AL (by decide +kernel))) (qss_cons (qs_if (qt_cmpR op_eq (qe_own D_take (hr.mono (by decide)) rfl (qa_cons (qv 0) (qa_cons qe_int qa_nil))) qe_int (nomark _)) (qss_one (qs_ret (qv 1))) qss_nil) (qss_cons (qs_set (i := 2) sc_letters.nd rfl (Or.inr rfl) (qe_strS [] (by decide +kernel))) (qss_cons (qs_for PassesOwn.never rfl (qi_range1 (by rfl) n_range (qa_cons (qe_op op_add qe_int (qe_own D_take (hr.mono (by decide)) rfl (qa_cons (qv 0) (qa_cons qe_int qa_nil)))) qa_nil)) (qg_name (i := 3) sc_letters.nd rfl (Or.inl rfl)) (qss_cons (qs_setG (ix := 4) (ns := ["_law_letter"]) sc_letters.nd rfl (Or.inl rfl) rfl (CompG.of ["_law_rest_here", "_law_every", "_law_found", "_law_k", "_law_left"] [] (by kernel_rfl)) (qi_str (qv 1)) (fun _ _ _ _ _ => (tg_name (show (["_law_letter", "_law_rest_here", "_law_every", "_law_found", "_law_k", "_law_left"] : List Str).Nodup by decide +kernel) rfl (by rfl))) (fun _ _ _ _ _ => (qts_one (qt_cmpR op_notinS (qv 0) (qv 3) rfl))) (fun _ _ _ _ _ => (qv 0))) (qss_one (qs_set (i := 2) sc_letters.nd rfl (Or.inr rfl) (qe_op op_addS (qv 2) (qe_ix ix_list (qv 4) (qe_own D_take (hr.mono (by decide)) rfl (qa_cons (qv 0) (qa_cons (qe_callB call_len_seq (by rfl) n_len PySem.boot_len (qa_cons (qv 4) qa_nil)) qa_nil))) (fun _ _ => rfl))))))) (qss_one (qs_ret (qv 2))))))), ?_⟩
    refine ⟨_, rfl, R, x, 8, rfl, hR, by decide, by decide, fun d y hd => ⟨rfl, _, rfl, ite2 (fun _ => ?_) (fun _ => ?_)⟩⟩
    · exact ⟨_, rfl, q AL _ (Kp.up y) ⟨by decide, by decide, AL_az⟩⟩
    have k0 : Kp R H (upd H R (.lst [.int y])) := Kp.up y
    have hR0 : upd H R (.lst [.int y]) R = some (.lst [.int y]) := upd_same
    generalize upd H R (.lst [.int y]) = H0 at k0 hR0 ⊢
    refine ⟨_, rfl, R, y, 3, rfl, hR0, by decide, by decide, fun d2 y2 hd2 => ?_⟩
    have k1 := k0.trans (Kp.up (H := H0) y2)
    generalize upd H0 R (.lst [.int y2]) = H1 at k1 ⊢
    refine ⟨_, _, rfl, rfl, _, rfl, by omega, by omega, ?_⟩
    rw [show ((2 : Int) + (d2 : Int)).toNat = 2 + d2 by omega]
    refine for_range (lo := 0) (n := 2 + d2) (fun i σ H2 => ∃ (v3 v4 : Option V) (fo : List Nat), σ = [some (.ref R), some (.str (S AL)), some (.str (S fo)), v3, v4] ∧ Kp R H H2 ∧ fo.length = i ∧ ∀ c ∈ fo, isLet c)
      ⟨none, none, [], rfl, k1, rfl, fun c h => nomatch h⟩ ?_ ?_
    · rintro i σ H2 hi ⟨v3, v4, fo, rfl, k2, hfl, hfc⟩
      obtain ⟨y3, hR2⟩ := k2.2
      refine ⟨_, rfl, AL, rfl, fun M hM => compG1_str (l := AL) (f := hideS [] 0) (tt := tTest (tOp rNotinS (tVar 0) (tVar 3))) (te := tVar 0) (fun j ys H3 => ys = Ts (ones ((AL.take j).filter fun c => !decide (c ∈ fo))) ∧ H3 M = some (.lst ys) ∧ Same H2 H3) ⟨rfl, upd_same, Same.upd hM⟩ ?_ ?_⟩
      · rintro j c ys H3 hj ⟨rfl, hM3, s3⟩
        have hjl : j < AL.length := (List.getElem?_eq_some_iff.mp hj).1
        have hj26 : j < 26 := hjl
        have hfl2 : ((AL.take j).filter fun c => !decide (c ∈ fo)).length ≤ 26 := Nat.le_trans (List.length_filter_le ..) (by rw [List.length_take]; omega)
        refine ⟨_, rfl, _, rfl, c, fo, rfl, rfl, _, rfl, ?_⟩
        by_cases m : c ∈ fo
        · rw [decide_eq_true m]
          refine iteF (Nxt.mk hjl ⟨?_, hM3, s3⟩)
          rw [List.take_add_one, hj, List.filter_append]
          simp [m]
        · rw [decide_eq_false m]
          refine iteT ⟨_, rfl, hM3, by rw [List.length_map, List.length_map]; exact small1000 (by omega), Nxt.mk hjl ⟨?_, upd_same, s3.upd' hM⟩⟩
          rw [List.take_add_one, hj, List.filter_append, Ts_snoc, ones_snoc]
          simp [m]
      · rintro ys H3 ⟨rfl, hM3, s3⟩
        rw [List.take_length] at hM3
        generalize hgs : (AL.filter fun c => !decide (c ∈ fo)) = gs at hM3
        have hgl : gs.length ≤ 26 := by rw [← hgs]; exact List.length_filter_le ..
        have hg0 : 0 < gs.length := by
          obtain ⟨c, c1, c2⟩ := some_out fo AL (by decide) (by show fo.length < 26; omega)
          exact List.length_pos_of_mem (a := c) (by rw [← hgs]; simp [c1, c2])
        have hgc : ∀ c ∈ gs, isLet c := fun c hc => by rw [← hgs] at hc; exact AL_az c (List.mem_filter.mp hc).1
        have hM3' : H3 M = some (.lst (Ts (ones gs))) := hM3
        have hR3 := s3 _ _ hR2
        have nMR : M ≠ R := fun z => by rw [z, hR3] at hM3'; injection hM3' with e1; injection e1 with e2; cases gs with
          | nil => cases hg0
          | cons a r => injection e2 with e3 e4; cases e3
        refine ⟨_, rfl, _, rfl, _, rfl, _, rfl, M, _, rfl, .inl (SqL.of hM3'), R, y3, gs.length, by show [V.ref R, V.int ((Ts (ones gs)).length : Nat)] = _; rw [List.length_map, List.length_map], hR3, hg0, by omega, fun d3 y4 hd3 => ?_⟩
        have k4 := (k2.same s3).trans (Kp.up (H := H3) y4)
        have hM4 : upd H3 R (.lst [.int y4]) M = some (.lst (Ts (ones gs))) := by rw [upd_ne nMR]; exact hM3'
        generalize upd H3 R (.lst [.int y4]) = H4 at k4 hM4 ⊢
        have hd3' : d3 < gs.length := hd3
        refine ⟨M, _, _, .str (S [gs[d3]]), rfl, rfl, SqL.of hM4, atI_nat (j := d3) (by simp [hd3']), fo, [gs[d3]], rfl, rfl, Nat.le_of_lt (small1000 (by show fo.length + 1 ≤ 1000; omega)), ?_⟩
        refine ⟨_, _, fo ++ [gs[d3]], rfl, k4, by simp [hfl], fun c hc => ?_⟩
        rcases List.mem_append.mp hc with z | z
        · exact hfc c z
        · rw [List.mem_singleton.mp z]; exact hgc _ (List.getElem_mem hd3')
    · rintro σ H2 ⟨v3, v4, fo, rfl, k2, hfl, hfc⟩
      exact ⟨_, rfl, q fo H2 k2 ⟨by omega, by omega, hfc⟩⟩
def spSignR : Sp := fun vs H Q _ => ∃ (R : Addr) (x : Int) (ls : List Nat) (g : Bool), vs = [.ref R, .str (S ls), .bl g] ∧ H R = some (.lst [.int x]) ∧ Alph ls ∧ ∀ (c : Nat) (H' : Hp), Kp R H H' → sgC c → Q (.str (S [c])) H'
theorem ok_signR (D : DefAt K mg "_law_sign" s_sign ["_law_rest_here", "_law_letters_here", "_law_great"]) (n_len : mg "len" = none) (D_take : Def P w K mg base "_law_take" 1 ["_law_rest_here", "_law_base"] spTake) : Def P w K mg base "_law_sign" 2 ["_law_rest_here", "_law_letters_here", "_law_great"] spSignR := by
  refine D.qok sc_sign (fun vs H Q E h => ?_) (fun f cdv A outer s H vs Q E hr h => ?_)
  · obtain ⟨R, x, ls, g, rfl, _⟩ := h
    rfl
  · obtain ⟨R, x, ls, g, rfl, hR, hA, q⟩ := h
    have hl1 := hA.lo
    have hl2 := hA.hi
    have hz : ls.length ≤ sizeLine := Nat.le_of_lt (small1000 (by omega))
    refine ⟨_, (qss_cons (qs_set (i := 3) sc_sign.nd rfl (Or.inl rfl) (qe_ix ix_S (qv 1) (qe_own D_take (hr.mono (by decide)) rfl (qa_cons (qv 0) (qa_cons (qe_callB call_lenS (by rfl) n_len PySem.boot_len (qa_cons (qv 1) qa_nil)) qa_nil))) (fun _ _ => rfl))) (qss_cons (qs_if (QW.qt (qw_and (qt_cmpR op_eq (qe_own D_take (hr.mono (by decide)) rfl (qa_cons (qv 0) (qa_cons qe_int qa_nil))) qe_int (nomark _)) (qw_and1 (qt_val (qv 2))))) (qss_one (qs_ret (qe_bm0 PySem.F.plainAttrs_str PySem.F.slot_str_upper PySem.F.type_str_upper mt_upA (qv 3)))) qss_nil) (qss_one (qs_ret (qv 3))))), ?_⟩
    refine ⟨_, rfl, _, rfl, _, rfl, ls, rfl, hz, R, x, ls.length, rfl, hR, by omega, by omega, fun d y hd => ?_⟩
    have k1 : Kp R H (upd H R (.lst [.int y])) := Kp.up y
    have hR1 : upd H R (.lst [.int y]) R = some (.lst [.int y]) := upd_same
    generalize upd H R (.lst [.int y]) = H1 at k1 hR1 ⊢
    have hc := hA.az _ (List.getElem_mem hd)
    refine ⟨ls, _, ls[d], rfl, rfl, hz, atI_nat (List.getElem?_eq_getElem hd), ?_⟩
    refine ⟨_, rfl, R, y, 5, rfl, hR1, by decide, by decide, fun d2 y2 hd2 => ⟨rfl, _, rfl, ?_⟩⟩
    have k2 := k1.trans (Kp.up (H := H1) y2)
    generalize upd H1 R (.lst [.int y2]) = H2 at k2 ⊢
    refine ite2 (fun _ => ?_) (fun _ => ?_)
    · refine ⟨_, rfl, g, rfl, ite2 (fun _ => ?_) (fun _ => ?_)⟩
      · refine ⟨_, rfl, rfl, [ls[d]], rfl, rfl, by show 1 ≤ 1000; decide, fun e he => by rw [List.mem_singleton.mp he]; have := hc.2; omega, ?_⟩
        have eu : [ls[d]].map PyProof.Rows.up1 = [ls[d] - 32] := by
          rw [List.map_singleton]; unfold PyProof.Rows.up1; rw [if_pos (show 97 ≤ ls[d] ∧ ls[d] ≤ 122 from hc)]
        rw [eu]
        exact q _ H2 k2 (sgC_up hc)
      · exact ⟨_, rfl, q _ H2 k2 (sgC_az hc)⟩
    · exact ⟨_, rfl, q _ H2 k2 (sgC_az hc)⟩

end
end My
end

section
set_option Elab.async false
set_option linter.all false
set_option maxRecDepth 100000
set_option maxHeartbeats 2000000
namespace My
open PySem L2
section
variable {P : Program} {w : World} {K : PySem.W.Frag} {mg : Str → Option Value} {base : Heap}
theorem cutT_to (l : List Nat) (m : Nat) : cutN l none (some (m : Int)) = l.take m := by
  unfold cutN
  rw [HT.sIx_nat, HT.sIx_none]
  simp
theorem cutT_from (l : List Nat) (m : Nat) : cutN l (some (m : Int)) none = l.drop m := by
  unfold cutN
  rw [HT.sIx_nat, HT.sIx_none, List.take_of_length_le (by rw [List.length_drop]; omega)]
  by_cases h : m ≤ l.length
  · rw [Nat.min_eq_left h]
  · rw [Nat.min_eq_right (by omega), List.drop_of_length_le (Nat.le_refl _), List.drop_of_length_le (by omega)]
theorem cut_dot {l : List Nat} {k : Nat} (h : k < l.length) : l.take k ++ [46] ++ l.drop (k + 1) = l.set k 46 := by
  rw [List.set_eq_take_append_cons_drop, if_pos h, List.append_assoc]; rfl
theorem set_list_mem {R : List (List Nat)} {i : Nat} {x l : List Nat} (h : l ∈ R.set i x) : l ∈ R ∨ l = x := List.mem_or_eq_of_mem_set h
theorem eight5 {d : Nat} (h : d < 8) : ∃ n : Int, atI [V.int 0, V.int 1, V.int 1, V.int 2, V.int 2, V.int 3, V.int 4, V.int 5] (d : Int) = some (.int n) := by
  match d, h with
  | 0, _ => exact ⟨_, rfl⟩
  | 1, _ => exact ⟨_, rfl⟩
  | 2, _ => exact ⟨_, rfl⟩
  | 3, _ => exact ⟨_, rfl⟩
  | 4, _ => exact ⟨_, rfl⟩
  | 5, _ => exact ⟨_, rfl⟩
  | 6, _ => exact ⟨_, rfl⟩
  | 7, _ => exact ⟨_, rfl⟩
def spRowsR : Sp := fun vs H Q _ => ∃ (R : Addr) (x : Int) (ls : List Nat) (m : Nat), vs = [.ref R, .str (S ls), .int m] ∧ H R = some (.lst [.int x]) ∧ Alph ls ∧ 1 ≤ m ∧ m ≤ 9 ∧
  ∀ (p : Addr) (rows : List (List Nat)) (r w : Nat) (H' : Hp), Kp R H H' → H' p = some (.tup (Ts rows)) → Blk r w rows → 1 ≤ r → r ≤ 9 → 1 ≤ w → w ≤ 9 → (∀ l ∈ rows, ∀ c ∈ l, roC c) → (∃ i j, i < r ∧ j < w ∧ cell rows i j = 46) → Q (.ref p) H'
theorem ok_rowsR (D : DefAt K mg "_law_rows" s_rows ["_law_rest_here", "_law_letters_here", "_law_most"]) (n_int : mg "int" = none) (n_range : mg "range" = none) (n_tuple : mg "tuple" = none) (D_take : Def P w K mg base "_law_take" 1 ["_law_rest_here", "_law_base"] spTake) (D_sign : Def P w K mg base "_law_sign" 2 ["_law_rest_here", "_law_letters_here", "_law_great"] spSignR) : Def P w K mg base "_law_rows" 3 ["_law_rest_here", "_law_letters_here", "_law_most"] spRowsR := by
  refine D.qok sc_rows (fun vs H Q E h => ?_) (fun f cdv A outer s H vs Q E hr h => ?_)
  · obtain ⟨R, x, ls, m, rfl, _⟩ := h
    rfl
  · obtain ⟨R, x, ls, m, rfl, hR, hA, m1, m9, q⟩ := h
    refine ⟨_, (qss_cons (qs_set (i := 3) sc_rows.nd rfl (Or.inl rfl) (qe_ix ix_list (qe_lst (qa_cons (qv 2) (qa_cons qe_int qa_nil))) (qe_callTy call_int1 (by rfl) n_int PyProof.Rows.boot_int (qa_cons (qe_cmpR op_eq (qe_own D_take (hr.mono (by decide)) rfl (qa_cons (qv 0) (qa_cons qe_int qa_nil))) qe_int (nomark _)) qa_nil)) (fun _ _ => rfl))) (qss_cons (qs_set (i := 4) sc_rows.nd rfl (Or.inl rfl) (qe_op op_add qe_int (qe_own D_take (hr.mono (by decide)) rfl (qa_cons (qv 0) (qa_cons (qv 3) qa_nil))))) (qss_cons (qs_set (i := 5) sc_rows.nd rfl (Or.inl rfl) (qe_op op_add qe_int (qe_own D_take (hr.mono (by decide)) rfl (qa_cons (qv 0) (qa_cons (qv 3) qa_nil))))) (qss_cons (qs_set (i := 6) sc_rows.nd rfl (Or.inl rfl) (qe_ix ix_list (qe_lst (qa_cons qe_int (qa_cons qe_int (qa_cons qe_int (qa_cons qe_int (qa_cons qe_int (qa_cons qe_int (qa_cons qe_int (qa_cons qe_int qa_nil))))))))) (qe_own D_take (hr.mono (by decide)) rfl (qa_cons (qv 0) (qa_cons qe_int qa_nil))) (fun _ _ => rfl))) (qss_cons (qs_set (i := 7) sc_rows.nd rfl (Or.inl rfl) (qe_lst qa_nil)) (qss_cons (qs_for PassesOwn.never rfl (qi_range1 (by rfl) n_range (qa_cons (qv 4) qa_nil)) (qg_name (i := 8) sc_rows.nd rfl (Or.inl rfl)) (qss_cons (qs_set (i := 9) sc_rows.nd rfl (Or.inl rfl) (qe_strS [] (by decide +kernel))) (qss_cons (qs_for PassesOwn.never rfl (qi_range1 (by rfl) n_range (qa_cons (qv 5) qa_nil)) (qg_name (i := 10) sc_rows.nd rfl (Or.inl rfl)) (qss_one (qs_if (qt_cmpR op_lt (qe_own D_take (hr.mono (by decide)) rfl (qa_cons (qv 0) (qa_cons qe_int qa_nil))) (qv 6) (nomark _)) (qss_one (qs_set (i := 9) sc_rows.nd rfl (Or.inl rfl) (qe_op op_addS (qv 9) (qe_own D_sign (hr.mono (by decide)) rfl (qa_cons (qv 0) (qa_cons (qv 1) (qa_cons qe_bl qa_nil))))))) (qss_one (qs_set (i := 9) sc_rows.nd rfl (Or.inl rfl) (qe_op op_addS (qv 9) (qe_strS [46] (by decide +kernel)))))))) (qss_one (qs_expr (qe_bm PySem.F.plainAttrs_list PySem.F.slot_list_append PySem.F.type_list_append mt_append (qv 7) (qa_cons (qv 9) qa_nil))))))) (qss_cons (qs_set (i := 11) sc_rows.nd rfl (Or.inl rfl) (qe_own D_take (hr.mono (by decide)) rfl (qa_cons (qv 0) (qa_cons (qe_op op_mul (qv 4) (qv 5)) qa_nil)))) (qss_cons (qs_set (i := 12) sc_rows.nd rfl (Or.inl rfl) (qe_ix ix_list (qv 7) (qe_op op_fdiv (qv 11) (qv 5)) (fun _ _ => rfl))) (qss_cons (qs_set (i := 13) sc_rows.nd rfl (Or.inl rfl) (qe_op op_mod (qv 11) (qv 5))) (qss_cons (qs_asg (qe_op op_addS (qe_op op_addS (qe_slice sl_S (qv 12) qo_none (qo_some (qv 13))) (qe_strS [46] (by decide +kernel))) (qe_slice sl_S (qv 12) (qo_some (qe_op op_add (qv 13) qe_int)) qo_none)) (qg_sub (qv 7) (qe_op op_fdiv (qv 11) (qv 5)) set_list)) (qss_one (qs_ret (qe_callTy call_tuple_of (by rfl) n_tuple PyProof.Rows.boot_tuple (qa_cons (qv 7) qa_nil)))))))))))))), ?_⟩
    refine ⟨_, rfl, by show 2 ≤ sizeLine; decide, fun t ht => ?_⟩
    have nRt : R ≠ t := ne_of_none hR ht
    have hR0 : upd H t (.lst [.int m, .int 9]) R = some (.lst [.int x]) := by rw [upd_ne nRt]; exact hR
    have k0 : Kp R H (upd H t (.lst [.int m, .int 9])) := Kp.of hR (Same.upd ht)
    have ht0 : upd H t (.lst [.int m, .int 9]) t = some (.lst [.int m, .int 9]) := upd_same
    generalize upd H t (.lst [.int m, .int 9]) = H0 at hR0 k0 ht0 ⊢
    refine ⟨_, rfl, R, x, 8, rfl, hR0, by decide, by decide, fun d y hd => ⟨rfl, .inr ⟨_, rfl, ?_⟩⟩⟩
    have k1 := k0.trans (Kp.up (H := H0) y)
    have ht1 : upd H0 R (.lst [.int y]) t = some (.lst [.int m, .int 9]) := by rw [upd_ne nRt.symm]; exact ht0
    have hR1 : upd H0 R (.lst [.int y]) R = some (.lst [.int y]) := upd_same
    generalize upd H0 R (.lst [.int y]) = H1 at k1 ht1 hR1 ⊢
    obtain ⟨sz, hsz, s1, s9⟩ : ∃ sz : Nat, atI [V.int m, V.int 9] (if decide (V.int (d : Int) = V.int 3) = true then 1 else 0) = some (.int sz) ∧ 1 ≤ sz ∧ sz ≤ 9 := by
      by_cases e : decide (V.int (d : Int) = V.int 3) = true
      · rw [if_pos e]; exact ⟨9, rfl, by decide, by decide⟩
      · rw [if_neg e]; exact ⟨m, rfl, m1, m9⟩
    refine ⟨t, _, _, _, rfl, rfl, SqL.of ht1, hsz, ?_⟩
    refine ⟨_, rfl, _, rfl, R, y, sz, rfl, hR1, s1, by omega, fun r0 y2 hr0 => ⟨_, _, rfl, rfl, ?_⟩⟩
    have k2 := k1.trans (Kp.up (H := H1) y2)
    have hR2 : upd H1 R (.lst [.int y2]) R = some (.lst [.int y2]) := upd_same
    generalize upd H1 R (.lst [.int y2]) = H2 at k2 hR2 ⊢
    refine ⟨_, rfl, _, rfl, R, y2, sz, rfl, hR2, s1, by omega, fun w0 y3 hw0 => ⟨_, _, rfl, rfl, ?_⟩⟩
    have k3 := k2.trans (Kp.up (H := H2) y3)
    have hR3 : upd H2 R (.lst [.int y3]) R = some (.lst [.int y3]) := upd_same
    generalize upd H2 R (.lst [.int y3]) = H3 at k3 hR3 ⊢
    obtain ⟨r, hr0', r1, r9⟩ : ∃ r : Nat, (1 : Int) + (r0 : Int) = (r : Int) ∧ 1 ≤ r ∧ r ≤ 9 := ⟨1 + r0, by omega, by omega, by omega⟩
    obtain ⟨w, hw0', w1, w9⟩ : ∃ w : Nat, (1 : Int) + (w0 : Int) = (w : Int) ∧ 1 ≤ w ∧ w ≤ 9 := ⟨1 + w0, by omega, by omega, by omega⟩
    show gName 5 (V.int (1 + (w0 : Int))) (([some (.ref R), some (.str (S ls)), some (.int m), some (.int sz), none, none, none, none, none, none, none, none, none, none] : St).set 4 (some (V.int (1 + (r0 : Int))))) _ _
    rw [hr0', hw0']
    refine ⟨by show 8 ≤ sizeLine; decide, fun t2 ht2 => ?_⟩
    have nRt2 : R ≠ t2 := ne_of_none hR3 ht2
    have hR4 : upd H3 t2 (.lst [.int 0, .int 1, .int 1, .int 2, .int 2, .int 3, .int 4, .int 5]) R = some (.lst [.int y3]) := by rw [upd_ne nRt2]; exact hR3
    have k4 : Kp R H (upd H3 t2 (.lst [.int 0, .int 1, .int 1, .int 2, .int 2, .int 3, .int 4, .int 5])) := k3.same (Same.upd ht2)
    have ht4 : upd H3 t2 (.lst [.int 0, .int 1, .int 1, .int 2, .int 2, .int 3, .int 4, .int 5]) t2 = some (.lst [.int 0, .int 1, .int 1, .int 2, .int 2, .int 3, .int 4, .int 5]) := upd_same
    generalize upd H3 t2 (.lst [.int 0, .int 1, .int 1, .int 2, .int 2, .int 3, .int 4, .int 5]) = H4 at hR4 k4 ht4 ⊢
    refine ⟨_, rfl, R, y3, 8, rfl, hR4, by decide, by decide, fun d4 y5 hd4 => ?_⟩
    have k5 := k4.trans (Kp.up (H := H4) y5)
    have ht5 : upd H4 R (.lst [.int y5]) t2 = some (.lst [.int 0, .int 1, .int 1, .int 2, .int 2, .int 3, .int 4, .int 5]) := by rw [upd_ne nRt2.symm]; exact ht4
    have hR5 : upd H4 R (.lst [.int y5]) R = some (.lst [.int y5]) := upd_same
    generalize upd H4 R (.lst [.int y5]) = H5 at k5 ht5 hR5 ⊢
    obtain ⟨fu, hfu⟩ := eight5 hd4
    refine ⟨t2, _, _, _, rfl, rfl, SqL.of ht5, hfu, ?_⟩
    refine ⟨by show 0 ≤ sizeLine; decide, fun L hL => ?_⟩
    have nRL : R ≠ L := ne_of_none hR5 hL
    have hLH : H L = none := by
      cases e : H L with
      | none => rfl
      | some o => rw [k5.1 _ _ e nRL.symm] at hL; cases hL
    have hR6 : upd H5 L (.lst []) R = some (.lst [.int y5]) := by rw [upd_ne nRL]; exact hR5
    refine ⟨_, rfl, _, rfl, by omega, by omega, ?_⟩
    rw [Int.toNat_natCast]
    refine for_range (lo := 0) (n := r) (fun i σ H2 => ∃ (v8 v9 v10 : Option V) (rows : List (List Nat)), σ = [some (.ref R), some (.str (S ls)), some (.int m), some (.int sz), some (.int r), some (.int w), some (.int fu), some (.ref L), v8, v9, v10, none, none, none] ∧ Kp R H H2 ∧ H2 L = some (.lst (Ts rows)) ∧ rows.length = i ∧ ∀ l ∈ rows, l.length = w ∧ ∀ c ∈ l, roC c)
      ⟨none, none, none, [], rfl, k5.new hLH nRL, upd_same, rfl, fun l h => by simp at h⟩ ?_ ?_
    · rintro i σ H7 hi ⟨v8, v9, v10, rows, rfl, k7, hL7, lr, okr⟩
      refine ⟨_, rfl, _, rfl, by omega, by omega, ?_⟩
      rw [Int.toNat_natCast]
      refine for_range (lo := 0) (n := w) (fun j σ H8 => ∃ (v10 : Option V) (cs : List Nat), σ = [some (.ref R), some (.str (S ls)), some (.int m), some (.int sz), some (.int r), some (.int w), some (.int fu), some (.ref L), some (.int (0 + (i : Int))), some (.str (S cs)), v10, none, none, none] ∧ Kp R H H8 ∧ H8 L = some (.lst (Ts rows)) ∧ cs.length = j ∧ ∀ c ∈ cs, roC c)
        ⟨v10, [], rfl, k7, hL7, rfl, fun c h => by simp at h⟩ ?_ ?_
      · rintro j σ H8 hj ⟨v10, cs, rfl, k8, hL8, lc, okc⟩
        obtain ⟨y8, hR8⟩ := k8.2
        refine ⟨_, rfl, R, y8, 6, rfl, hR8, by decide, by decide, fun d9 y9 hd9 => ?_⟩
        have k9 := k8.trans (Kp.up (H := H8) y9)
        have hL9 : upd H8 R (.lst [.int y9]) L = some (.lst (Ts rows)) := by rw [upd_ne nRL.symm]; exact hL8
        have hR9 : upd H8 R (.lst [.int y9]) R = some (.lst [.int y9]) := upd_same
        generalize upd H8 R (.lst [.int y9]) = H9 at k9 hL9 hR9 ⊢
        have hzc : cs.length + 1 ≤ sizeLine := Nat.le_of_lt (small1000 (by omega))
        refine ⟨_, rfl, _, _, rfl, rfl, _, rfl, ite2 (fun _ => ?_) (fun _ => ?_)⟩
        · refine ⟨_, rfl, _, rfl, _, rfl, R, y9, ls, true, rfl, hR9, hA, fun z H10 k10 hz => ?_⟩
          refine ⟨cs, [z], rfl, rfl, hzc, ?_⟩
          refine ⟨_, cs ++ [z], rfl, k9.trans k10, k10.1 _ _ hL9 nRL.symm, by simp [lc], fun e he => ?_⟩
          rcases List.mem_append.mp he with k | k
          · exact okc e k
          · rw [List.mem_singleton.mp k]; exact .inr hz
        · refine ⟨_, rfl, cs, [46], rfl, rfl, hzc, ?_⟩
          refine ⟨_, cs ++ [46], rfl, k9, hL9, by simp [lc], fun e he => ?_⟩
          rcases List.mem_append.mp he with k | k
          · exact okc e k
          · rw [List.mem_singleton.mp k]; exact .inl rfl
      · rintro σ H8 ⟨v10, cs, rfl, k8, hL8, lc, okc⟩
        refine ⟨_, rfl, .inl ⟨rfl, _, SqL.of hL8⟩, _, rfl, L, _, _, rfl, rfl, hL8, by rw [List.length_map]; exact small1000 (by omega), ?_⟩
        refine ⟨_, _, _, rows ++ [cs], rfl, k8.new hLH nRL, by rw [upd_same, Ts_snoc], by simp [lr], fun l hl => ?_⟩
        rcases List.mem_append.mp hl with k | k
        · exact okr l k
        · rw [List.mem_singleton.mp k]; exact ⟨lc, okc⟩
    · rintro σ H7 ⟨v8, v9, v10, rows, rfl, k7, hL7, lr, okr⟩
      obtain ⟨y7, hR7⟩ := k7.2
      have hrw : 1 ≤ r * w := Nat.mul_pos r1 w1
      have hrw2 : r * w ≤ 81 := Nat.mul_le_mul r9 w9
      have emul : (r : Int) * (w : Int) = ((r * w : Nat) : Int) := by push_cast; rfl
      refine ⟨_, rfl, _, rfl, _, rfl, _, _, rfl, rfl, .inl ⟨by omega, by omega⟩, R, y7, r * w, by show [V.ref R, V.int ((r : Int) * (w : Int))] = _; rw [emul], hR7, hrw, by omega, fun fr y8 hfr => ?_⟩
      have k8 := k7.trans (Kp.up (H := H7) y8)
      have hL8 : upd H7 R (.lst [.int y8]) L = some (.lst (Ts rows)) := by rw [upd_ne nRL.symm]; exact hL7
      generalize upd H7 R (.lst [.int y8]) = H8 at k8 hL8 ⊢
      obtain ⟨ri, eri⟩ : ∃ ri, ri = fr / w := ⟨_, rfl⟩
      obtain ⟨sp, esp⟩ : ∃ sp, sp = fr % w := ⟨_, rfl⟩
      have hir : ri < r := by rw [eri]; exact Nat.div_lt_of_lt_mul (by rw [Nat.mul_comm]; exact hfr)
      have hjw : sp < w := by rw [esp]; exact Nat.mod_lt _ w1
      have hirl : ri < rows.length := by rw [lr]; exact hir
      have hlw : rows[ri].length = w := (okr _ (List.getElem_mem _)).1
      have ediv : (fr : Int) / (w : Int) = (ri : Int) := by rw [eri]; push_cast; rfl
      have emod : (fr : Int) % (w : Int) = (sp : Int) := by rw [esp]; push_cast; rfl
      have hz : ∀ n, n ≤ 100 → n ≤ sizeLine := fun n h => Nat.le_of_lt (small1000 (by omega))
      refine ⟨_, rfl, _, rfl, _, rfl, _, _, rfl, rfl, ⟨by show (0 : Int) < (w : Int); omega, by show (w : Int) < 1073741824; omega⟩, L, _, _, .str (S rows[ri]), rfl, rfl, SqL.of hL8, by show atI _ ((fr : Int) / (w : Int)) = _; rw [ediv]; exact atI_nat (Ts_at (by simp [hirl])), ?_⟩
      refine ⟨_, rfl, _, rfl, _, _, rfl, rfl, (by show (0 : Int) < (w : Int); omega), ?_⟩
      show gName 13 (V.int ((fr : Int) % (w : Int))) _ _ _
      rw [emod]
      generalize hl : rows[ri] = l at hlw
      have e1 : (sp : Int) + 1 = ((sp + 1 : Nat) : Int) := by omega
      refine ⟨_, rfl, _, rfl, _, rfl, l, rfl, hz _ (by omega), ?_⟩
      rw [cutT_to]
      refine ⟨l.take (sp), [46], rfl, rfl, hz _ (by rw [List.length_take]; simp; omega), ?_⟩
      refine ⟨_, rfl, _, rfl, _, _, rfl, rfl, _, rfl, l, rfl, hz _ (by omega), ?_⟩
      rw [e1, cutT_from]
      refine ⟨_, _, rfl, rfl, hz _ (by rw [List.length_append, List.length_take, List.length_drop]; simp; omega), ?_⟩
      rw [cut_dot (by omega)]
      refine ⟨_, rfl, _, rfl, _, rfl, _, _, rfl, rfl, ⟨by show (0 : Int) < (w : Int); omega, by show (w : Int) < 1073741824; omega⟩, L, _, _, ri, rfl, rfl, hL8, ?_, ?_⟩
      · show ixN (Ts rows).length ((fr : Int) / (w : Int)) = some ri
        rw [ediv]
        unfold ixN
        rw [List.length_map, lr, if_pos (by omega), if_pos (by omega)]
        congr 1
      · have eset : (Ts rows).set (ri) (.str (S (l.set (sp) 46))) = Ts (rows.set (ri) (l.set (sp) 46)) := by unfold Ts; rw [List.map_set]
        rw [eset]
        have hbl : Blk r w (rows.set (ri) (l.set (sp) 46)) := ⟨by rw [List.length_set, lr], fun x hx => by
          rcases set_list_mem hx with k | k
          · exact (okr x k).1
          · rw [k, List.length_set]; exact hlw⟩
        refine ⟨_, rfl, L, _, rfl, .inl ⟨SqL.of upd_same, fun T hT => ?_⟩⟩
        have k9 : Kp R H (upd H8 L (HO.lst (Ts (rows.set (ri) (l.set (sp) 46))))) := k8.new hLH nRL
        refine q T _ r w _ (k9.same (Same.upd hT)) upd_same hbl r1 r9 w1 w9 (fun x hx y hy => ?_) ⟨ri, sp, hir, hjw, ?_⟩
        · rcases set_list_mem hx with k | k
          · exact (okr x k).2 y hy
          · rw [k] at hy
            rcases List.mem_or_eq_of_mem_set hy with z | z
            · exact (okr l (hl ▸ List.getElem_mem _)).2 y z
            · rw [z]; exact .inl rfl
        · have h1 : ri < (rows.set (ri) (l.set (sp) 46)).length := by rw [List.length_set]; exact hirl
          have h2 : (rows.set (ri) (l.set (sp) 46))[ri] = l.set (sp) 46 := List.getElem_set_self h1
          rw [cell_eq h1 (by rw [h2, List.length_set]; omega)]
          simp [h2]

end
end My
end

section
set_option Elab.async false
set_option linter.all false
set_option maxRecDepth 100000
set_option maxHeartbeats 2000000
namespace My
open PySem L2
section
variable {P : Program} {w : World} {K : PySem.W.Frag} {mg : Str → Option Value} {base : Heap}
theorem Kp.tup {R : Addr} {H H' : Hp} {x : Int} (k : Kp R H H') (hR : H R = some (.lst [.int x])) : ∀ a xs, H a = some (.tup xs) → H' a = some (.tup xs) := fun a xs e => k.1 a _ e fun z => by rw [z, hR] at e; cases e
def MKS2 : List Nat := [50, 51, 52, 98, 99, 100] ++ (List.replicate 12 [46]).flatten
def spMarksR : Sp := fun vs H Q _ => ∃ (R : Addr) (x : Int) (p : Addr) (rows : List (List Nat)) (r w : Nat), vs = [.ref R, .ref p] ∧ H R = some (.lst [.int x]) ∧ H p = some (.tup (Ts rows)) ∧ Blk r w rows ∧ 1 ≤ r ∧ r ≤ 9 ∧ w ≤ 9 ∧
  ∀ (t : Addr) (marks : List (List Nat)) (H' : Hp), Kp R H H' → H' t = some (.tup (Ts marks)) → Blk r w marks → (∀ l ∈ marks, ∀ c ∈ l, mkC c) → Q (.ref t) H'
theorem ok_marksR (D : DefAt K mg "_law_marks" s_marks ["_law_rest_here", "_law_rows_here"]) (n_tuple : mg "tuple" = none) (D_take : Def P w K mg base "_law_take" 1 ["_law_rest_here", "_law_base"] spTake) : Def P w K mg base "_law_marks" 2 ["_law_rest_here", "_law_rows_here"] spMarksR := by
  refine D.qok sc_marks (fun vs H Q E h => ?_) (fun f cdv A outer s H vs Q E hr h => ?_)
  · obtain ⟨R, x, p, rows, r, w, rfl, _⟩ := h
    rfl
  · obtain ⟨R, x, p, rows, r, w, rfl, hR, hp, hb, r1, r9, w9, q⟩ := h
    refine ⟨_, (qss_cons (qs_set (i := 2) sc_marks.nd rfl (Or.inl rfl) (qe_lst qa_nil)) (qss_cons (qs_for PassesOwn.never rfl (qi_tup (qv 1)) (qg_name (i := 3) sc_marks.nd rfl (Or.inl rfl)) (qss_one (qs_expr (qe_bm PySem.F.plainAttrs_list PySem.F.slot_list_append PySem.F.type_list_append mt_append (qv 2) (qa_cons (qe_bm PySem.F.plainAttrs_str PySem.F.slot_str_join PySem.F.type_str_join mt_join (qe_strS [] (by decide +kernel)) (qa_cons (qe_comp rfl (CompOk.of sc_marks.nd (by kernel_rfl)) (qi_str (qv 3)) (fun _ _ _ _ _ => qts_nil) (fun _ _ _ _ _ => (qe_ix ix_S (qe_op op_addS (qe_strS [50, 51, 52, 98, 99, 100] (by decide +kernel)) (qe_op op_mulS (qe_strS [46] (by decide +kernel)) qe_int)) (qe_own D_take (hr.mono (by decide)) rfl (qa_cons (qv 1) (qa_cons qe_int qa_nil))) (fun _ _ => rfl)))) qa_nil)) qa_nil))))) (qss_one (qs_ret (qe_callTy call_tuple_of (by rfl) n_tuple PyProof.Rows.boot_tuple (qa_cons (qv 2) qa_nil)))))), ?_⟩
    refine ⟨by show 0 ≤ sizeLine; decide, fun L hL => ?_⟩
    have nRL : R ≠ L := ne_of_none hR hL
    have nRp : p ≠ R := fun z => by rw [z, hR] at hp; cases hp
    have nLp : p ≠ L := ne_of_none hp hL
    have k0 : Kp R H (upd H L (.lst [])) := Kp.of hR (Same.upd hL)
    have hp0 : upd H L (.lst []) p = some (.tup (Ts rows)) := Same.upd hL _ _ hp
    refine ⟨_, rfl, p, rfl, ⟨_, SqT.of hp0⟩, for_tup (K := K) (a := p) (xs := Ts rows) (fun i σ H2 => ∃ (v3 : Option V) (ms : List (List Nat)), σ = [some (.ref R), some (.ref p), some (.ref L), v3] ∧ Kp R H H2 ∧ H2 L = some (.lst (Ts ms)) ∧ ms.length = i ∧ ∀ l ∈ ms, l.length = w ∧ ∀ c ∈ l, mkC c)
      ⟨none, [], rfl, k0, upd_same, rfl, fun l h => by simp at h⟩ (fun i σ H2 _ h => by obtain ⟨_, _, _, k, _⟩ := h; exact SqT.of (k.1 _ _ hp nRp)) ?_ ?_⟩
    · rintro i y σ H2 hy ⟨v3, ms, rfl, k2, hL2, lr, okr⟩
      have hi : i < rows.length := by have := (List.getElem?_eq_some_iff.mp hy).1; simpa using this
      have ey : y = .str (S rows[i]) := by
        have : (Ts rows)[i]? = some (.str (S rows[i])) := by simp [hi]
        rw [this] at hy; exact (Option.some.inj hy).symm
      subst ey
      have hwi : rows[i].length = w := hb.wid _ (List.getElem_mem _)
      obtain ⟨y2, hR2⟩ := k2.2
      refine ⟨_, rfl, .inl ⟨rfl, _, SqL.of hL2⟩, rfl, _, rfl, rows[i], rfl, fun M hM => ?_⟩
      have nRM : R ≠ M := ne_of_none hR2 hM
      have nLM : L ≠ M := ne_of_none hL2 hM
      have hMH : H M = none := by
        cases e : H M with
        | none => rfl
        | some o => rw [k2.1 _ _ e nRM.symm] at hM; cases hM
      refine comp_str (fun j ys H3 => ∃ cs : List Nat, ys = Ts (ones cs) ∧ H3 M = some (.lst ys) ∧ Kp R H H3 ∧ H3 L = some (.lst (Ts ms)) ∧ cs.length = j ∧ ∀ c ∈ cs, mkC c) ⟨[], rfl, upd_same, k2.new hMH nRM, by rw [upd_ne nLM]; exact hL2, rfl, fun c h => by simp at h⟩ ?_ ?_
      · rintro j c ys H3 hj ⟨cs, rfl, hM3, k3, hL3, lc, okc⟩
        have hjl : j < rows[i].length := (List.getElem?_eq_some_iff.mp hj).1
        obtain ⟨y3, hR3⟩ := k3.2
        refine ⟨[46], 12, rfl, rfl, by decide, by decide, by decide, [50, 51, 52, 98, 99, 100], _, rfl, rfl, by decide, _, rfl, R, y3, 18, rfl, hR3, by decide, by decide, fun d y4 hd => ?_⟩
        have k4 := k3.trans (Kp.up (H := H3) y4)
        have hM4 : upd H3 R (.lst [.int y4]) M = some (.lst (Ts (ones cs))) := by rw [upd_ne nRM.symm]; exact hM3
        have hL4 : upd H3 R (.lst [.int y4]) L = some (.lst (Ts ms)) := by rw [upd_ne nRL.symm]; exact hL3
        generalize upd H3 R (.lst [.int y4]) = H4 at k4 hM4 hL4 ⊢
        have hd18 : d < MKS2.length := by rw [show MKS2.length = 18 by decide]; exact hd
        have hmk : mkC MKS2[d] := by
          have : ∀ x ∈ MKS2, x ∈ MK := by decide
          exact this _ (List.getElem_mem hd18)
        refine ⟨MKS2, _, MKS2[d], rfl, rfl, by decide, atI_nat (List.getElem?_eq_getElem hd18), hM4, by rw [List.length_map, List.length_map]; exact small1000 (by omega), Nxt.mk hjl ⟨cs ++ [MKS2[d]], by rw [Ts_snoc, ones_snoc], upd_same, k4.new hMH nRM, by rw [upd_ne nLM]; exact hL4, by simp [lc], fun e he => ?_⟩⟩
        rcases List.mem_append.mp he with k | k
        · exact okc e k
        · rw [List.mem_singleton.mp k]; exact hmk
      · rintro ys H3 ⟨cs, rfl, hM3, k3, hL3, lc, okc⟩
        refine ⟨M, ones cs, rfl, rfl, SqL.of hM3, by rw [flat1]; omega, ?_⟩
        rw [flat1]
        refine ⟨L, _, _, rfl, rfl, hL3, by rw [List.length_map]; exact small1000 (by have := hb.len; omega), ?_⟩
        refine ⟨_, ms ++ [cs], rfl, k3.new hL nRL, by rw [upd_same, Ts_snoc], by simp [lr], fun l hl => ?_⟩
        rcases List.mem_append.mp hl with k | k
        · exact okr l k
        · rw [List.mem_singleton.mp k]; exact ⟨by omega, okc⟩
    · rintro σ H2 ⟨v3, ms, rfl, k2, hL2, lr, okr⟩
      rw [List.length_map, hb.len] at lr
      refine ⟨_, rfl, L, _, rfl, .inl ⟨SqL.of hL2, fun T hT => ?_⟩⟩
      exact q T ms _ (k2.same (Same.upd hT)) upd_same ⟨lr, fun l h => (okr l h).1⟩ fun l h => (okr l h).2
def spBeginR : Sp := fun vs H Q _ => ∃ (R : Addr) (x : Int) (p : Addr) (rows : List (List Nat)) (r w : Nat), vs = [.ref R, .ref p] ∧ H R = some (.lst [.int x]) ∧ H p = some (.tup (Ts rows)) ∧ Blk r w rows ∧ 1 ≤ r ∧ r ≤ 9 ∧ 1 ≤ w ∧ w ≤ 9 ∧
  ∀ (t : Addr) (i j : Nat) (H' : Hp), Kp R H H' → H' t = some (.tup [.int i, .int j]) → i < r → j < w → Q (.ref t) H'
theorem ok_beginR (D : DefAt K mg "_law_begin" s_begin ["_law_rest_here", "_law_rows_here"]) (n_len : mg "len" = none) (D_take : Def P w K mg base "_law_take" 1 ["_law_rest_here", "_law_base"] spTake) : Def P w K mg base "_law_begin" 2 ["_law_rest_here", "_law_rows_here"] spBeginR := by
  refine D.qok sc_begin (fun vs H Q E h => ?_) (fun f cdv A outer s H vs Q E hr h => ?_)
  · obtain ⟨R, x, p, rows, r, w, rfl, _⟩ := h
    rfl
  · obtain ⟨R, x, p, rows, r, w, rfl, hR, hp, hb, r1, r9, w1, w9, q⟩ := h
    have hln : (Ts rows).length = r := by rw [List.length_map, hb.len]
    have h0 : 0 < rows.length := by rw [hb.len]; omega
    have hw0 : rows[0].length = w := hb.wid _ (List.getElem_mem _)
    have hz : rows[0].length ≤ sizeLine := Nat.le_of_lt (small1000 (by omega))
    have nRp : p ≠ R := fun z => by rw [z, hR] at hp; cases hp
    have hrw : 1 ≤ r * w := Nat.mul_pos r1 w1
    have hrw2 : r * w ≤ 81 := Nat.mul_le_mul r9 w9
    have emul : (((Ts rows).length : Nat) : Int) * ((rows[0].length : Nat) : Int) = ((r * w : Nat) : Int) := by rw [hln, hw0]; push_cast; rfl
    refine ⟨_, (qss_cons (qs_set (i := 2) sc_begin.nd rfl (Or.inl rfl) (qe_own D_take (hr.mono (by decide)) rfl (qa_cons (qv 0) (qa_cons (qe_op op_mul (qe_callB call_len_seq (by rfl) n_len PySem.boot_len (qa_cons (qv 1) qa_nil)) (qe_callB call_lenS (by rfl) n_len PySem.boot_len (qa_cons (qe_ix ix_tup (qv 1) qe_int (fun _ _ => rfl)) qa_nil))) qa_nil)))) (qss_one (qs_ret (qe_tup (qa_cons (qe_op op_fdiv (qv 2) (qe_callB call_lenS (by rfl) n_len PySem.boot_len (qa_cons (qe_ix ix_tup (qv 1) qe_int (fun _ _ => rfl)) qa_nil))) (qa_cons (qe_op op_mod (qv 2) (qe_callB call_lenS (by rfl) n_len PySem.boot_len (qa_cons (qe_ix ix_tup (qv 1) qe_int (fun _ _ => rfl)) qa_nil))) qa_nil)))))), ?_⟩
    refine ⟨_, rfl, _, rfl, p, _, rfl, .inr (SqT.of hp), _, rfl, p, _, _, .str (S rows[0]), rfl, rfl, SqT.of hp, atI_nat (j := 0) (Ts_at (by simp [h0])), _, rfl, hz, _, _, rfl, rfl, .inl ⟨by rw [hln]; omega, by rw [hln]; omega⟩, R, x, r * w, by show [V.ref R, V.int ((((Ts rows).length : Nat) : Int) * ((rows[0].length : Nat) : Int))] = _; rw [emul], hR, hrw, by omega, fun fr y hfr => ?_⟩
    have k1 : Kp R H (upd H R (.lst [.int y])) := Kp.up y
    have hp1 := k1.1 _ _ hp nRp
    generalize upd H R (.lst [.int y]) = H1 at k1 hp1 ⊢
    refine ⟨_, rfl, _, rfl, p, _, _, .str (S rows[0]), rfl, rfl, SqT.of hp1, atI_nat (j := 0) (Ts_at (by simp [h0])), _, rfl, hz, _, _, rfl, rfl, ⟨by rw [hw0]; omega, by rw [hw0]; omega⟩, ?_⟩
    refine ⟨_, rfl, _, rfl, p, _, _, .str (S rows[0]), rfl, rfl, SqT.of hp1, atI_nat (j := 0) (Ts_at (by simp [h0])), _, rfl, hz, _, _, rfl, rfl, (by show (0 : Int) < ((rows[0].length : Nat) : Int); rw [hw0]; omega), by show 2 ≤ sizeLine; decide, fun t ht => ?_⟩
    refine q t (fr / w) (fr % w) _ (k1.same (Same.upd ht)) ?_ (Nat.div_lt_of_lt_mul (by rw [Nat.mul_comm]; exact hfr)) (Nat.mod_lt _ w1)
    rw [upd_same, hw0]
    push_cast
    rfl
def WD (kvs : List (Key × V)) : Prop := ∀ kv ∈ kvs, ∃ (c : Nat) (i : Int), kv = (keyS [c], V.int i) ∧ 97 ≤ c ∧ c ≤ 122

end
end My
end

section
set_option Elab.async false
set_option linter.all false
set_option maxRecDepth 100000
set_option maxHeartbeats 2000000
namespace My
open PySem L2
section
variable {P : Program} {w : World} {K : PySem.W.Frag} {mg : Str → Option Value} {base : Heap}
def spNearW : Sp := fun vs H Q _ => ∃ (p : Addr) (rows : List (List Nat)) (r w : Nat) (i j : Int), vs = [.ref p, .int i, .int j] ∧ H p = some (.tup (Ts rows)) ∧ Blk r w rows ∧ 1 ≤ r ∧ r ≤ 9 ∧ w ≤ 9 ∧ ∀ (b : Bool) (H' : Hp), Same H H' → Q (.bl b) H'
theorem four_any {t1 t2 t3 t4 : Addr} {a1 b1 a2 b2 a3 b3 a4 b4 : Int} {H : Hp} (h1 : H t1 = some (.tup [.int a1, .int b1])) (h2 : H t2 = some (.tup [.int a2, .int b2])) (h3 : H t3 = some (.tup [.int a3, .int b3])) (h4 : H t4 = some (.tup [.int a4, .int b4]))
    {n : Nat} {x : V} (h : ([V.ref t1, V.ref t2, V.ref t3, V.ref t4] : List V)[n]? = some x) : ∃ (t : Addr) (u v : Int), x = .ref t ∧ H t = some (.tup [.int u, .int v]) := by
  match n, h with
  | 0, h => exact ⟨t1, _, _, (Option.some.inj h).symm, h1⟩
  | 1, h => exact ⟨t2, _, _, (Option.some.inj h).symm, h2⟩
  | 2, h => exact ⟨t3, _, _, (Option.some.inj h).symm, h3⟩
  | 3, h => exact ⟨t4, _, _, (Option.some.inj h).symm, h4⟩
  | n + 4, h => exact absurd h (by simp)
theorem ok_is_near (D : DefAt K mg "_law_is_near" s_is_near ["_law_rows_here", "_law_row", "_law_column"]) (n_len : mg "len" = none) : Def P w K mg base "_law_is_near" 1 ["_law_rows_here", "_law_row", "_law_column"] spNearW := by
  refine D.qok sc_is_near (fun vs H Q E h => ?_) (fun f cdv A outer s H vs Q E hr h => ?_)
  · obtain ⟨p, rows, r, w, i, j, rfl, _⟩ := h
    rfl
  · obtain ⟨pr, rows, r, w, i, j, rfl, hp0, hb, r1, r9, w9, q⟩ := h
    refine ⟨_, (qss_cons (qs_for PassesOwn.never rfl (qi_list (qe_lst (qa_cons (qe_tup (qa_cons (qe_op op_sub (qv 1) qe_int) (qa_cons (qv 2) qa_nil))) (qa_cons (qe_tup (qa_cons (qv 1) (qa_cons (qe_op op_sub (qv 2) qe_int) qa_nil))) (qa_cons (qe_tup (qa_cons (qv 1) (qa_cons (qe_op op_add (qv 2) qe_int) qa_nil))) (qa_cons (qe_tup (qa_cons (qe_op op_add (qv 1) qe_int) (qa_cons (qv 2) qa_nil))) qa_nil)))))) (qg_name (i := 3) sc_is_near.nd rfl (Or.inl rfl)) (qss_one (qs_if (QW.qt (qw_and (qt_chain op_le op_lt qe_int (qe_ix ix_tup (qv 3) qe_int (fun _ _ => rfl)) (qe_callB call_len_seq (by rfl) n_len PySem.boot_len (qa_cons (qv 0) qa_nil))) (qw_and (qt_chain op_le op_lt qe_int (qe_ix ix_tup (qv 3) qe_int (fun _ _ => rfl)) (qe_callB call_lenS (by rfl) n_len PySem.boot_len (qa_cons (qe_ix ix_tup (qv 0) qe_int (fun _ _ => rfl)) qa_nil))) (qw_and1 (qt_cmpR op_neS (qe_ix ix_S (qe_ix ix_tup (qv 0) (qe_ix ix_tup (qv 3) qe_int (fun _ _ => rfl)) (fun _ _ => rfl)) (qe_ix ix_tup (qv 3) qe_int (fun _ _ => rfl)) (fun _ _ => rfl)) (qe_strS [46] (by decide +kernel)) (nomark _)))))) (qss_one (qs_ret qe_bl)) qss_nil))) (qss_one (qs_ret qe_bl))), ?_⟩
    refine ⟨_, rfl, _, _, rfl, rfl, _, rfl, by show 2 ≤ sizeLine; decide, fun t1 h1 => ⟨_, rfl, _, rfl, _, _, rfl, rfl, by show 2 ≤ sizeLine; decide, fun t2 h2 => ⟨_, rfl, _, rfl, _, _, rfl, rfl, by show 2 ≤ sizeLine; decide, fun t3 h3 => ⟨_, rfl, _, _, rfl, rfl, _, rfl, by show 2 ≤ sizeLine; decide, fun t4 h4 => ⟨by show 4 ≤ sizeLine; decide, fun T hT => ?_⟩⟩⟩⟩⟩
    have s1 : Same H (upd H t1 (HO.tup [.int (i - 1), .int j])) := Same.upd h1
    have s2 := s1.upd' (o := HO.tup [.int i, .int (j - 1)]) (s1.free h2)
    have s3 := s2.upd' (o := HO.tup [.int i, .int (j + 1)]) (s2.free h3)
    have s4 := s3.upd' (o := HO.tup [.int (i + 1), .int j]) (s3.free h4)
    have s5 := s4.upd' (o := HO.lst [.ref t1, .ref t2, .ref t3, .ref t4]) (s4.free hT)
    have k5 : Same _ _ := Same.upd (o := HO.lst [.ref t1, .ref t2, .ref t3, .ref t4]) hT
    have k4 : Same _ _ := Same.upd (o := HO.tup [.int (i + 1), .int j]) h4
    have k3 : Same _ _ := Same.upd (o := HO.tup [.int i, .int (j + 1)]) h3
    have k2 : Same _ _ := Same.upd (o := HO.tup [.int i, .int (j - 1)]) h2
    have e1 := k5 _ _ (k4 _ _ (k3 _ _ (k2 _ _ (upd_same (H := H) (a := t1) (o := HO.tup [.int (i - 1), .int j])))))
    have e2 := k5 _ _ (k4 _ _ (k3 _ _ (upd_same (a := t2) (o := HO.tup [.int i, .int (j - 1)]))))
    have e3 := k5 _ _ (k4 _ _ (upd_same (a := t3) (o := HO.tup [.int i, .int (j + 1)])))
    have e4 := k5 _ _ (upd_same (a := t4) (o := HO.tup [.int (i + 1), .int j]))
    have e5 : upd (upd (upd (upd (upd H t1 (HO.tup [.int (i - 1), .int j])) t2 (HO.tup [.int i, .int (j - 1)])) t3 (HO.tup [.int i, .int (j + 1)])) t4 (HO.tup [.int (i + 1), .int j])) T (HO.lst [.ref t1, .ref t2, .ref t3, .ref t4]) T = some (.lst [.ref t1, .ref t2, .ref t3, .ref t4]) := upd_same
    generalize upd (upd (upd (upd (upd H t1 (HO.tup [.int (i - 1), .int j])) t2 (HO.tup [.int i, .int (j - 1)])) t3 (HO.tup [.int i, .int (j + 1)])) t4 (HO.tup [.int (i + 1), .int j])) T (HO.lst [.ref t1, .ref t2, .ref t3, .ref t4]) = H5 at s5 e1 e2 e3 e4 e5 ⊢
    have hp := SqT.of (K := K) (s5 _ _ hp0)
    have hln : (Ts rows).length = r := by rw [List.length_map, hb.len]
    have h0 : 0 < rows.length := by rw [hb.len]; omega
    have hw0 : rows[0].length = w := hb.wid _ (List.getElem_mem _)
    refine ⟨T, rfl, ⟨_, SqL.of e5⟩, for_list (K := K) (a := T) (xs := [V.ref t1, V.ref t2, V.ref t3, V.ref t4]) (fun n σ H6 => H6 = H5 ∧ ∃ v3 : Option V, σ = [some (.ref pr), some (.int i), some (.int j), v3])
      ⟨rfl, none, rfl⟩ (fun n σ H6 _ h => by rw [h.1]; exact SqL.of e5) ?_ ?_⟩
    · rintro n x σ H6 hx ⟨rfl, v3, rfl⟩
      obtain ⟨t, u, v, rfl, ht⟩ := four_any e1 e2 e3 e4 hx
      have hS := SqT.of (K := K) ht
      have nx : H6 = H6 ∧ ∃ v3 : Option V, ([some (.ref pr), some (.int i), some (.int j), some (.ref t)] : St) = [some (.ref pr), some (.int i), some (.int j), v3] := ⟨rfl, _, rfl⟩
      refine ⟨_, rfl, t, _, _, _, rfl, rfl, hS, atI_nat (j := 0) rfl, _, _, rfl, rfl, _, rfl, ?_⟩
      by_cases c1 : 0 ≤ u
      · rw [decide_eq_true c1]
        refine iteT ⟨_, rfl, pr, _, rfl, .inr hp, _, _, rfl, rfl, _, rfl, ?_⟩
        rw [hln]
        by_cases c2 : u < (r : Int)
        · rw [decide_eq_true c2]
          refine iteT ⟨_, rfl, t, _, _, _, rfl, rfl, hS, atI_nat (j := 1) rfl, _, _, rfl, rfl, _, rfl, ?_⟩
          by_cases c3 : 0 ≤ v
          · rw [decide_eq_true c3]
            refine iteT ⟨_, rfl, pr, _, _, .str (S rows[0]), rfl, rfl, hp, atI_nat (j := 0) (Ts_at (by simp [h0])), _, rfl, Nat.le_of_lt (small1000 (by omega)), _, _, rfl, rfl, _, rfl, ?_⟩
            rw [hw0]
            by_cases c4 : v < (w : Int)
            · rw [decide_eq_true c4]
              obtain ⟨u, rfl⟩ : ∃ k : Nat, u = k := ⟨u.toNat, by omega⟩
              obtain ⟨v, rfl⟩ : ∃ k : Nat, v = k := ⟨v.toNat, by omega⟩
              have hi : u < rows.length := by rw [hb.len]; omega
              have hgi : rows[u]? = some (rows.getD u []) := by rw [List.getD_eq_getElem?_getD, List.getElem?_eq_getElem hi]; rfl
              have hw : (rows.getD u []).length = w := hb.wid _ (List.mem_of_getElem? hgi)
              have hgj : (rows.getD u [])[v]? = some ((rows.getD u []).getD v 0) := by rw [List.getD_eq_getElem?_getD (l := rows.getD u []), List.getElem?_eq_getElem (by omega)]; rfl
              refine iteT ⟨_, rfl, _, rfl, t, _, _, _, rfl, rfl, hS, atI_nat (j := 0) rfl, pr, _, _, _, rfl, rfl, hp, atI_nat (Ts_at hgi), _, rfl, t, _, _, _, rfl, rfl, hS, atI_nat (j := 1) rfl, _, _, _, rfl, rfl, Nat.le_of_lt (small1000 (by omega)), atI_nat hgj, _, _, rfl, rfl, _, rfl, ?_⟩
              exact ite2 (fun _ => q true H6 s5) (fun _ => nx)
            · rw [decide_eq_false c4]
              exact iteF (iteF nx)
          · rw [decide_eq_false c3]
            exact iteF ⟨_, rfl, iteF (iteF nx)⟩
        · rw [decide_eq_false c2]
          exact iteF (iteF nx)
      · rw [decide_eq_false c1]
        exact iteF ⟨_, rfl, iteF (iteF nx)⟩
    · rintro σ H6 ⟨rfl, v3, rfl⟩
      exact q false H6 s5
def PairF (rows : List (List Nat)) (r w : Nat) (H : Hp) (a : Addr) : Prop := ∃ i j : Nat, H a = some (.tup [.int i, .int j]) ∧ i < r ∧ j < w ∧ cell rows i j = 46
theorem PairF.mvT {rows : List (List Nat)} {r w : Nat} {H H' : Hp} {a : Addr} (h : PairF rows r w H a) (k : ∀ a xs, H a = some (.tup xs) → H' a = some (.tup xs)) : PairF rows r w H' a := by
  obtain ⟨i, j, e, b⟩ := h
  exact ⟨i, j, k _ _ e, b⟩
theorem pairF_has {rows : List (List Nat)} {H : Hp} {r w : Nat} : ∀ {fs : List Addr}, (∀ a ∈ fs, PairF rows r w H a) → ∃ ds, HasDs K H 1 ds (fs.map V.ref) ∧ ds.length = fs.length
  | [], _ => ⟨[], .nil, rfl⟩
  | a :: fs, h => by
    obtain ⟨ds, h1, h2⟩ := pairF_has (fs := fs) fun x hx => h x (List.mem_cons_of_mem _ hx)
    obtain ⟨i, j, e, _, _⟩ := h a List.mem_cons_self
    exact ⟨.tup [.int i, .int j] :: ds, .cons (.tup (SqT.of e) (.cons (.int _) (.cons (.int _) .nil))) h1, by simp [h2]⟩
theorem tupL {H : Hp} {M : Addr} {ys zs : List V} (hM : H M = some (.lst ys)) : ∀ a xs, H a = some (.tup xs) → upd H M (.lst zs) a = some (.tup xs) := fun a xs e => by
  have ne : a ≠ M := fun z => by rw [z, hM] at e; cases e
  rw [upd_ne ne]; exact e
def spStartsR : Sp := fun vs H Q _ => ∃ (p : Addr) (rows : List (List Nat)) (r w : Nat) (R : Addr) (x : Int), vs = [.ref p, .ref R] ∧ H R = some (.lst [.int x]) ∧ H p = some (.tup (Ts rows)) ∧ Blk r w rows ∧ 1 ≤ r ∧ r ≤ 9 ∧ 1 ≤ w ∧ w ≤ 9 ∧ (∃ i j, i < r ∧ j < w ∧ cell rows i j = 46) ∧
  ∀ (t : Addr) (i j : Nat) (H' : Hp), Kp R H H' → H' t = some (.tup [.int i, .int j]) → i < r → j < w → cell rows i j = 46 → Q (.ref t) H'
theorem ok_startsR (D : DefAt K mg "_law_starts" s_starts ["_law_rows_here", "_law_rest_here"]) (n_len : mg "len" = none) (n_range : mg "range" = none) (D_take : Def P w K mg base "_law_take" 1 ["_law_rest_here", "_law_base"] spTake) (D_is_near : Def P w K mg base "_law_is_near" 1 ["_law_rows_here", "_law_row", "_law_column"] spNearW) : Def P w K mg base "_law_starts" 2 ["_law_rows_here", "_law_rest_here"] spStartsR := by
  refine D.qok sc_starts (fun vs H Q E h => ?_) (fun f cdv A outer s H vs Q E hr h => ?_)
  · obtain ⟨p, rows, r, w, R, x, rfl, _⟩ := h
    rfl
  · obtain ⟨p, rows, r, w, R, x, rfl, hR, hp, hb, r1, r9, w1, w9, hfree, q⟩ := h
    have hln : (Ts rows).length = r := by rw [List.length_map, hb.len]
    have h0 : 0 < rows.length := by rw [hb.len]; omega
    have hw0 : rows[0].length = w := hb.wid _ (List.getElem_mem _)
    refine ⟨_, (qss_cons (qs_set (i := 2) sc_starts.nd rfl (Or.inl rfl) (qe_lst qa_nil)) (qss_cons (qs_set (i := 3) sc_starts.nd rfl (Or.inl rfl) (qe_lst qa_nil)) (qss_cons (qs_for PassesOwn.never rfl (qi_range1 (by rfl) n_range (qa_cons (qe_callB call_len_seq (by rfl) n_len PySem.boot_len (qa_cons (qv 0) qa_nil)) qa_nil)) (qg_name (i := 4) sc_starts.nd rfl (Or.inl rfl)) (qss_one (qs_for PassesOwn.never rfl (qi_range1 (by rfl) n_range (qa_cons (qe_callB call_lenS (by rfl) n_len PySem.boot_len (qa_cons (qe_ix ix_tup (qv 0) qe_int (fun _ _ => rfl)) qa_nil)) qa_nil)) (qg_name (i := 5) sc_starts.nd rfl (Or.inl rfl)) (qss_one (qs_if (qt_cmpR op_eqS (qe_ix ix_S (qe_ix ix_tup (qv 0) (qv 4) (fun _ _ => rfl)) (qv 5) (fun _ _ => rfl)) (qe_strS [46] (by decide +kernel)) (nomark _)) (qss_cons (qs_expr (qe_bm PySem.F.plainAttrs_list PySem.F.slot_list_append PySem.F.type_list_append mt_append (qv 2) (qa_cons (qe_tup (qa_cons (qv 4) (qa_cons (qv 5) qa_nil))) qa_nil))) (qss_one (qs_if (qt_val (qe_own D_is_near (hr.mono (by decide)) rfl (qa_cons (qv 0) (qa_cons (qv 4) (qa_cons (qv 5) qa_nil))))) (qss_one (qs_expr (qe_bm PySem.F.plainAttrs_list PySem.F.slot_list_append PySem.F.type_list_append mt_append (qv 3) (qa_cons (qe_tup (qa_cons (qv 4) (qa_cons (qv 5) qa_nil))) qa_nil)))) qss_nil))) qss_nil))))) (qss_cons (qs_if (QW.qt (qw_and (qt_cmpR (op_neD hr.units) (qv 3) (qe_lst qa_nil) (nomark _)) (qw_and1 (qt_cmpR op_gt (qe_own D_take (hr.mono (by decide)) rfl (qa_cons (qv 1) (qa_cons qe_int qa_nil))) qe_int (nomark _))))) (qss_one (qs_ret (qe_ix ix_list (qv 3) (qe_own D_take (hr.mono (by decide)) rfl (qa_cons (qv 1) (qa_cons (qe_callB call_len_seq (by rfl) n_len PySem.boot_len (qa_cons (qv 3) qa_nil)) qa_nil))) (fun _ _ => rfl)))) qss_nil) (qss_one (qs_ret (qe_ix ix_list (qv 2) (qe_own D_take (hr.mono (by decide)) rfl (qa_cons (qv 1) (qa_cons (qe_callB call_len_seq (by rfl) n_len PySem.boot_len (qa_cons (qv 2) qa_nil)) qa_nil))) (fun _ _ => rfl)))))))), ?_⟩
    refine ⟨by show 0 ≤ sizeLine; decide, fun F hF => ⟨by show 0 ≤ sizeLine; decide, fun G hG => ?_⟩⟩
    have sF : Same H (upd H F (HO.lst [])) := Same.upd hF
    have hG0 := sF.free hG
    have nFG : F ≠ G := fun z => by rw [← z, upd_same] at hG; cases hG
    have sG := sF.upd' (o := HO.lst []) hG0
    refine ⟨_, rfl, p, _, rfl, .inr (SqT.of (sG _ _ hp)), _, rfl, by rw [hln]; omega, by rw [hln]; omega, ?_⟩
    rw [hln, Int.toNat_natCast]
    refine for_range (lo := 0) (n := r) (fun i σ H2 => ∃ (v4 v5 : Option V) (fs gs : List Addr), σ = [some (.ref p), some (.ref R), some (.ref F), some (.ref G), v4, v5] ∧ Same H H2 ∧ H2 F = some (.lst (fs.map V.ref)) ∧ H2 G = some (.lst (gs.map V.ref)) ∧ (∀ a ∈ fs, PairF rows r w H2 a) ∧ (∀ a ∈ gs, PairF rows r w H2 a) ∧ fs.length ≤ i * 9 ∧ gs.length ≤ i * 9 ∧ ∀ i' j', i' < i → j' < w → cell rows i' j' = 46 → fs ≠ [])
      ⟨none, none, [], [], rfl, sG, by rw [upd_ne nFG, upd_same]; rfl, upd_same, fun a h => by simp at h, fun a h => by simp at h, Nat.zero_le _, Nat.zero_le _, fun i' j' h => by omega⟩ ?_ ?_
    · rintro i σ H2 hi ⟨v4, v5, fs, gs, rfl, sm, hF2, hG2, okf, okg, lf, lg, hsome⟩
      refine ⟨_, rfl, p, _, _, .str (S rows[0]), rfl, rfl, SqT.of (sm _ _ hp), atI_nat (j := 0) (Ts_at (by simp [h0])), _, rfl, Nat.le_of_lt (small1000 (by omega)), _, rfl, by rw [hw0]; omega, by rw [hw0]; omega, ?_⟩
      rw [hw0, Int.toNat_natCast]
      refine for_range (lo := 0) (n := w) (fun j σ H3 => ∃ (v5 : Option V) (fs gs : List Addr), σ = [some (.ref p), some (.ref R), some (.ref F), some (.ref G), some (.int (0 + (i : Int))), v5] ∧ Same H H3 ∧ H3 F = some (.lst (fs.map V.ref)) ∧ H3 G = some (.lst (gs.map V.ref)) ∧ (∀ a ∈ fs, PairF rows r w H3 a) ∧ (∀ a ∈ gs, PairF rows r w H3 a) ∧ fs.length ≤ i * 9 + j ∧ gs.length ≤ i * 9 + j ∧ ∀ i' j', (i' < i ∨ (i' = i ∧ j' < j)) → j' < w → cell rows i' j' = 46 → fs ≠ [])
        ⟨v5, fs, gs, rfl, sm, hF2, hG2, okf, okg, lf, lg, fun i' j' h h1 h2 => hsome i' j' (by omega) h1 h2⟩ ?_ ?_
      · rintro j σ H3 hj ⟨v5, fs, gs, rfl, s3, hF3, hG3, okf3, okg3, lf3, lg3, hsome3⟩
        have g1 : i < rows.length := by rw [hb.len]; exact hi
        have hwi : rows[i].length = w := hb.wid _ (List.getElem_mem _)
        have g2 : j < rows[i].length := by omega
        have hce := cell_eq g1 g2
        refine ⟨_, rfl, _, rfl, p, _, _, .str (S rows[i]), rfl, rfl, SqT.of (s3 _ _ hp), by rw [Int.zero_add]; exact atI_nat (Ts_at (by simp [g1])), _, rfl, rows[i], _, rows[i][j], rfl, rfl, Nat.le_of_lt (small1000 (by omega)), by rw [Int.zero_add]; exact atI_nat (by simp [g2]), [rows[i][j]], [46], rfl, rfl, _, rfl, ?_⟩
        rw [← hce]
        by_cases hc : cell rows i j = 46
        · rw [decide_eq_true (show [cell rows i j] = [46] by rw [hc])]
          refine iteT ⟨_, rfl, .inl ⟨rfl, _, SqL.of hF3⟩, _, rfl, _, rfl, by show 2 ≤ sizeLine; decide, fun b hbn => ?_⟩
          have k4 : Same H3 (upd H3 b (HO.tup [.int (0 + (i : Int)), .int (0 + (j : Int))])) := Same.upd hbn
          have hF4 := k4 _ _ hF3
          refine ⟨F, _, _, rfl, rfl, hF4, by rw [List.length_map]; exact small1000 (by omega), ?_⟩
          have hPb : PairF rows r w (upd (upd H3 b (HO.tup [.int (0 + (i : Int)), .int (0 + (j : Int))])) F (HO.lst (fs.map V.ref ++ [V.ref b]))) b := ⟨i, j, tupL hF4 _ _ (by rw [upd_same, Int.zero_add, Int.zero_add]), hi, hj, hc⟩
          have okf5 : ∀ a ∈ fs ++ [b], PairF rows r w (upd (upd H3 b (HO.tup [.int (0 + (i : Int)), .int (0 + (j : Int))])) F (HO.lst (fs.map V.ref ++ [V.ref b]))) a := fun a ha => by
            rcases List.mem_append.mp ha with z | z
            · exact ((okf3 a z).mvT fun a xs e => k4 a _ e).mvT (tupL hF4)
            · rw [List.mem_singleton.mp z]; exact hPb
          have okg5 : ∀ a ∈ gs, PairF rows r w (upd (upd H3 b (HO.tup [.int (0 + (i : Int)), .int (0 + (j : Int))])) F (HO.lst (fs.map V.ref ++ [V.ref b]))) a := fun a ha => ((okg3 a ha).mvT fun a xs e => k4 a _ e).mvT (tupL hF4)
          have hF5 : upd (upd H3 b (HO.tup [.int (0 + (i : Int)), .int (0 + (j : Int))])) F (HO.lst (fs.map V.ref ++ [V.ref b])) F = some (.lst ((fs ++ [b]).map V.ref)) := by rw [upd_same]; simp
          have hG5 : upd (upd H3 b (HO.tup [.int (0 + (i : Int)), .int (0 + (j : Int))])) F (HO.lst (fs.map V.ref ++ [V.ref b])) G = some (.lst (gs.map V.ref)) := by rw [upd_ne nFG.symm]; exact k4 _ _ hG3
          have s5 : Same H (upd (upd H3 b (HO.tup [.int (0 + (i : Int)), .int (0 + (j : Int))])) F (HO.lst (fs.map V.ref ++ [V.ref b]))) := (s3.trans k4).upd' hF
          generalize upd (upd H3 b (HO.tup [.int (0 + (i : Int)), .int (0 + (j : Int))])) F (HO.lst (fs.map V.ref ++ [V.ref b])) = H5 at okf5 okg5 hF5 hG5 s5 ⊢
          refine ⟨_, rfl, _, rfl, _, rfl, p, rows, r, w, (i : Int), (j : Int), by show [V.ref p, V.int (0 + (i : Int)), V.int (0 + (j : Int))] = _; rw [Int.zero_add, Int.zero_add], s5 _ _ hp, hb, r1, r9, w9, fun bb H6 s6 => ⟨_, rfl, ?_⟩⟩
          refine ite2 (fun _ => ?_) (fun _ => ?_)
          · have hG6 := s6 _ _ hG5
            refine ⟨_, rfl, .inl ⟨rfl, _, SqL.of hG6⟩, _, rfl, _, rfl, by show 2 ≤ sizeLine; decide, fun b2 hb2 => ?_⟩
            have k7 : Same H6 (upd H6 b2 (HO.tup [.int (0 + (i : Int)), .int (0 + (j : Int))])) := Same.upd hb2
            have hG7 := k7 _ _ hG6
            refine ⟨G, _, _, rfl, rfl, hG7, by rw [List.length_map]; exact small1000 (by omega), ?_⟩
            refine ⟨_, fs ++ [b], gs ++ [b2], rfl, ((s5.trans s6).trans k7).upd' hG0, by rw [upd_ne nFG]; exact k7 _ _ (s6 _ _ hF5), by rw [upd_same]; simp, fun a ha => ?_, fun a ha => ?_, by simp; omega, by simp; omega, fun _ _ _ _ _ => by simp⟩
            · exact (((okf5 a ha).mvT fun a xs e => s6 a _ e).mvT fun a xs e => k7 a _ e).mvT (tupL hG7)
            · rcases List.mem_append.mp ha with z | z
              · exact (((okg5 a z).mvT fun a xs e => s6 a _ e).mvT fun a xs e => k7 a _ e).mvT (tupL hG7)
              · rw [List.mem_singleton.mp z]
                exact ⟨i, j, tupL hG7 _ _ (by rw [upd_same, Int.zero_add, Int.zero_add]), hi, hj, hc⟩
          · exact ⟨_, fs ++ [b], gs, rfl, s5.trans s6, s6 _ _ hF5, s6 _ _ hG5, fun a ha => (okf5 a ha).mvT fun a xs e => s6 a _ e, fun a ha => (okg5 a ha).mvT fun a xs e => s6 a _ e, by simp; omega, by omega, fun _ _ _ _ _ => by simp⟩
        · rw [decide_eq_false (show ¬ [cell rows i j] = [46] from fun z => hc (by injection z))]
          refine iteF ⟨_, fs, gs, rfl, s3, hF3, hG3, okf3, okg3, by omega, by omega, fun i' j' h h1 h2 => ?_⟩
          by_cases he : i' = i ∧ j' = j
          · rw [he.1, he.2] at h2; exact absurd h2 hc
          · exact hsome3 i' j' (by omega) h1 h2
      · rintro σ H3 ⟨v5, fs, gs, rfl, s3, hF3, hG3, okf3, okg3, lf3, lg3, hsome3⟩
        exact ⟨_, _, fs, gs, rfl, s3, hF3, hG3, okf3, okg3, by omega, by omega, fun i' j' h h1 h2 => hsome3 i' j' (by omega) h1 h2⟩
    · rintro σ H2 ⟨v4, v5, fs, gs, rfl, sm, hF2, hG2, okf, okg, lf, lg, hsome⟩
      have hfne : fs ≠ [] := by
        obtain ⟨i, j, hi, hj, hc⟩ := hfree
        exact hsome i j hi hj hc
      have hR2 := sm _ _ hR
      have last : ∀ (H4 : Hp) (y : Int) (v : Nat) (F' : Addr) (hs : List Addr), hs ≠ [] → hs.length ≤ 81 → H4 R = some (.lst [.int y]) → Kp R H H4 → F' ≠ R → H4 F' = some (.lst (hs.map V.ref)) → (∀ a ∈ hs, PairF rows r w H4 a) → ([some (.ref p), some (.ref R), some (.ref F), some (.ref G), v4, v5] : St)[v]? = some (some (.ref F')) →
          tRet (tOp (rIxL K) (tVar v) (tCall spTake [] E0 (tCons (tVar 1) (tCons (tCB (fun xs H Q => ∃ p ys, xs = [.ref p] ∧ (SqL K H p ys ∨ SqT K H p ys) ∧ Q (.int ys.length) H) (tCons (tVar v) tNil)) tNil)))) { nx := fun x H' => Q V.non H', rt := Q } [some (.ref p), some (.ref R), some (.ref F), some (.ref G), v4, v5] H4 := fun H4 y v F' hs hne hle hR4 k4 nF hF4 ok hv => by
        have hl0 : 0 < hs.length := List.length_pos_iff.mpr hne
        refine ⟨_, hv, _, rfl, _, hv, F', _, rfl, .inl (SqL.of hF4), R, y, hs.length, by show [V.ref R, V.int ((hs.map V.ref).length : Nat)] = _; rw [List.length_map], hR4, hl0, by omega, fun d y5 hd => ?_⟩
        have k5 := Kp.up (R := R) (H := H4) y5
        obtain ⟨i, j, e, hi, hj, hc⟩ := ok _ (List.getElem_mem hd)
        exact ⟨F', _, _, .ref hs[d], rfl, rfl, SqL.of (by rw [upd_ne nF]; exact hF4), atI_nat (j := d) (by simp [hd]), q hs[d] i j _ (k4.trans k5) (k5.tup hR4 _ _ e) hi hj hc⟩
      refine ⟨_, rfl, by show 0 ≤ sizeLine; decide, fun e he => ?_⟩
      have k3 : Same H2 (upd H2 e (HO.lst [])) := Same.upd he
      have okf3 : ∀ a ∈ fs, PairF rows r w (upd H2 e (HO.lst [])) a := fun a ha => (okf a ha).mvT fun a xs z => k3 a _ z
      have okg3 : ∀ a ∈ gs, PairF rows r w (upd H2 e (HO.lst [])) a := fun a ha => (okg a ha).mvT fun a xs z => k3 a _ z
      obtain ⟨es, hes, hel⟩ := pairF_has (K := K) okg3
      have he3 : upd H2 e (HO.lst []) e = some (.lst []) := upd_same
      have hF3 := k3 _ _ hF2
      have hG3 := k3 _ _ hG2
      have s3 := sm.trans k3
      have hR3 := k3 _ _ hR2
      have nFR : F ≠ R := fun z => by rw [← z] at hR; rw [hF] at hR; cases hR
      have nGR : G ≠ R := fun z => by rw [← z] at hR; rw [hG0] at hR; cases hR
      generalize upd H2 e (HO.lst []) = H3 at k3 okf3 okg3 hes he3 hF3 hG3 s3 hR3 ⊢
      refine ⟨2, .lst es, .lst [], by decide, .lst (SqL.of hG3) hes, .lst (SqL.of he3) .nil, _, rfl, ?_⟩
      have lf81 : fs.length ≤ 81 := by have := Nat.mul_le_mul r9 w9; omega
      have lg81 : gs.length ≤ 81 := by have := Nat.mul_le_mul r9 w9; omega
      by_cases hz : gs = []
      · have ez : es = [] := List.eq_nil_of_length_eq_zero (by rw [hel, hz]; rfl)
        subst ez
        simp only [if_true, decide_true, Bool.not_true]
        exact iteF (iteF (last H3 x 2 F fs hfne lf81 hR3 (Kp.of hR s3) nFR hF3 okf3 rfl))
      · have ez : ¬ Dt.lst es = Dt.lst [] := fun y => hz (by
          injection y with y
          rw [y] at hel
          exact List.eq_nil_of_length_eq_zero hel.symm)
        simp only [if_true, ez, decide_false, Bool.not_false]
        refine ⟨_, rfl, R, x, 4, rfl, hR3, by decide, by decide, fun d y hd => ?_⟩
        have k4 := Kp.up (R := R) (H := H3) y
        have k34 := (Kp.of hR s3).trans k4
        have tp : ∀ a xs, H3 a = some (.tup xs) → upd H3 R (.lst [.int y]) a = some (.tup xs) := k4.tup hR3
        refine ⟨_, _, rfl, rfl, _, rfl, ite2 (fun _ => ?_) (fun _ => ?_)⟩
        · exact last _ y 3 G gs hz lg81 upd_same k34 nGR (by rw [upd_ne nGR]; exact hG3) (fun a ha => (okg3 a ha).mvT tp) rfl
        · exact last _ y 2 F fs hfne lf81 upd_same k34 nFR (by rw [upd_ne nFR]; exact hF3) (fun a ha => (okf3 a ha).mvT tp) rfl

end
end My
end

section
set_option Elab.async false
set_option linter.all false
set_option maxRecDepth 100000
set_option maxHeartbeats 2000000
namespace My
open PySem L2
section
variable {P : Program} {w : World} {K : PySem.W.Frag} {mg : Str → Option Value} {base : Heap}
def colOf (rows : List (List Nat)) (j : Nat) : List Nat := rows.map fun l => l.getD j 0
def lineOf (rows : List (List Nat)) (i j : Nat) (way : Int) : List Nat := if way = 0 then rows.getD i [] else colOf rows j
def placeOf (i j : Nat) (way : Int) : Nat := if way = 0 then j else i
def spCol : Sp := fun vs H Q _ => ∃ (p : Addr) (rows : List (List Nat)) (r w j : Nat), vs = [.ref p, .int j] ∧ H p = some (.tup (Ts rows)) ∧ Blk r w rows ∧ r ≤ 9 ∧ w ≤ 9 ∧ j < w ∧ ∀ H', Same H H' → Q (.str (S (colOf rows j))) H'
theorem ok_column_text (D : DefAt K mg "column_text" s_column_text ["rows", "column"]) : Def P w K mg base "column_text" 1 ["rows", "column"] spCol := by
  refine D.qok sc_column_text (fun vs H Q E h => ?_) (fun f cdv A outer s H vs Q E hr h => ?_)
  · obtain ⟨p, rows, r, w, j, rfl, _⟩ := h
    rfl
  · obtain ⟨p, rows, r, w, j, rfl, hp, hb, r9, w9, hj, q⟩ := h
    refine ⟨_, (qss_one (qs_ret (qe_bm PySem.F.plainAttrs_str PySem.F.slot_str_join PySem.F.type_str_join mt_join (qe_strS [] (by decide +kernel)) (qa_cons (qe_comp rfl (CompOk.of sc_column_text.nd (by kernel_rfl)) (qi_tup (qv 0)) (fun _ _ _ _ _ => qts_nil) (fun _ _ _ _ _ => (qe_ix ix_S (qv 0) (qv 2) (fun _ _ => rfl)))) qa_nil)))), ?_⟩
    have hln : (Ts rows).length = r := by rw [List.length_map, hb.len]
    refine ⟨rfl, _, rfl, p, rfl, ⟨_, SqT.of hp⟩, fun L hL => comp_tup (xs := Ts rows) (fun i ys H2 => ys = Ts (ones ((rows.take i).map fun l => l.getD j 0)) ∧ H2 L = some (.lst ys) ∧ Same H H2) ⟨rfl, upd_same, Same.upd hL⟩ (fun i ys H2 _ h => SqT.of (h.2.2 _ _ hp)) ?_ ?_⟩
    · rintro i x ys H2 hi ⟨rfl, hL2, sm⟩
      obtain ⟨l, hl, rfl⟩ := Ts_get hi
      have hil : i < (Ts rows).length := (List.getElem?_eq_some_iff.mp hi).1
      have hlw : l.length = w := hb.wid _ (List.mem_of_getElem? hl)
      refine ⟨_, rfl, _, rfl, l, _, l.getD j 0, rfl, rfl, Nat.le_of_lt (small1000 (by omega)), ?_, hL2, ?_, Nxt.mk hil ⟨?_, upd_same, sm.upd' hL⟩⟩
      · exact atI_nat (by rw [List.getD_eq_getElem?_getD, List.getElem?_eq_getElem (by omega)]; rfl)
      · rw [List.length_map, List.length_map, List.length_map, List.length_take]; exact small1000 (by omega)
      · rw [Ts_snoc, ones_snoc, List.take_add_one, hl]
        simp
    · rintro ys H2 ⟨rfl, hL2, sm⟩
      rw [hln, ← hb.len, List.take_length] at hL2
      refine ⟨L, _, rfl, rfl, SqL.of hL2, ?_, ?_⟩
      · rw [flat1, List.length_map, hb.len]; omega
      · rw [flat1]; exact q H2 sm
theorem lineOf_len {r w : Nat} {rows : List (List Nat)} (hb : Blk r w rows) {i j : Nat} (hi : i < r) {way : Int} : (lineOf rows i j way).length = if way = 0 then w else r := by
  unfold lineOf
  by_cases h : way = 0
  · rw [if_pos h, if_pos h, List.getD_eq_getElem?_getD, List.getElem?_eq_getElem (by rw [hb.len]; exact hi)]
    exact hb.wid _ (List.getElem_mem _)
  · rw [if_neg h, if_neg h]; unfold colOf; rw [List.length_map, hb.len]
structure Run (l : List Nat) (k : Nat) where
  ahead : List Nat
  signs : List Nat
theorem tailF_len (l : List Nat) : (tailF l).length ≤ l.length := by
  unfold tailF
  rw [List.length_reverse]
  exact Nat.le_trans (List.takeWhile_prefix _).length_le (by rw [List.length_reverse]; exact Nat.le_refl _)
theorem headF_len (l : List Nat) : (headF l).length ≤ l.length := (List.takeWhile_prefix _).length_le
def runV (i j : Nat) (way : Int) (l : List Nat) : List V :=
  if way = 0 then [.int i, .int ((j : Int) - (tailF (l.take j)).length), .str (S (tailF (l.take j) ++ headF (l.drop j)))] else [.int ((i : Int) - (tailF (l.take i)).length), .int j, .str (S (tailF (l.take i) ++ headF (l.drop i)))]
def spRun (C : Addr) : Sp := fun vs H Q _ => ∃ (p : Addr) (r w : Nat) (rows marks : List (List Nat)) (bi bj i j : Nat) (way : Int), vs = [.ref p, .int i, .int j, .int way] ∧ BoardAt C H p r w rows marks bi bj ∧ i < r ∧ j < w ∧ (way = 0 ∨ way = 1) ∧
  ∀ (t : Addr) (H' : Hp), Same H H' → H t = none → H' t = some (.tup (runV i j way (lineOf rows i j way))) → Q (.ref t) H'
theorem ok_run {f C : Addr} {fd : FuncData} (F : Fun K "run" "Board.run" s_Board_run f fd) (T : BoardCls K C) (n_len : mg "len" = none) (g_FREE : ∃ t, mg "FREE" = some (.str (S [46]) t)) (D_column_text : Def P w K mg base "column_text" 1 ["rows", "column"] spCol) : FnOk P w K mg base CX0 2 f fd ["self", "row", "column", "way"] (spRun C) := by
  refine F.qok sc_Board_run (fun vs H Q E h => ?_) (fun cdv A outer s H vs Q E hr h => ?_)
  · obtain ⟨p, r, w, rows, marks, bi, bj, i, j, way, rfl, _⟩ := h
    rfl
  · obtain ⟨p, r, w, rows, marks, bi, bj, i, j, way, rfl, B, hi, hj, hway, q⟩ := h
    obtain ⟨⟨dx, pr, pm, pb, hp, hr', hm, hb⟩, O⟩ := B
    have r9 := O.r9
    have w9 := O.w9
    refine ⟨_, (qss_cons (qs_set (i := 4) sc_Board_run.nd rfl (Or.inl rfl) (qe_ifExp (qt_cmpR op_eq (qv 3) qe_int (nomark _)) (qe_ix ix_tup (qe_fld (qv 0) rfl) (qv 1) (fun _ _ => rfl)) (qe_own D_column_text (hr.mono (by decide)) rfl (qa_cons (qe_fld (qv 0) rfl) (qa_cons (qv 2) qa_nil))))) (qss_cons (qs_set (i := 5) sc_Board_run.nd rfl (Or.inl rfl) (qe_ifExp (qt_cmpR op_eq (qv 3) qe_int (nomark _)) (qv 2) (qv 1))) (qss_cons (qs_set (i := 6) sc_Board_run.nd rfl (Or.inl rfl) (qe_ix ix_tup (qe_bm PySem.F.plainAttrs_str PySem.F.slot_str_rpartition PySem.F.type_str_rpartition mt_rpart (qe_slice sl_S (qv 4) qo_none (qo_some (qv 5))) (qa_cons (qe_gS (by rfl) g_FREE) qa_nil)) qe_int (fun _ _ => rfl))) (qss_cons (qs_set (i := 7) sc_Board_run.nd rfl (Or.inl rfl) (qe_op op_addS (qv 6) (qe_ix ix_tup (qe_bm PySem.F.plainAttrs_str PySem.F.slot_str_partition PySem.F.type_str_partition mt_part (qe_slice sl_S (qv 4) (qo_some (qv 5)) qo_none) (qa_cons (qe_gS (by rfl) g_FREE) qa_nil)) qe_int (fun _ _ => rfl)))) (qss_cons (qs_set (i := 8) sc_Board_run.nd rfl (Or.inl rfl) (qe_op op_sub (qv 5) (qe_callB call_lenS (by rfl) n_len PySem.boot_len (qa_cons (qv 6) qa_nil)))) (qss_one (qs_ret (qe_ifExp (qt_cmpR op_eq (qv 3) qe_int (nomark _)) (qe_tup (qa_cons (qv 1) (qa_cons (qv 8) (qa_cons (qv 7) qa_nil)))) (qe_tup (qa_cons (qv 8) (qa_cons (qv 2) (qa_cons (qv 7) qa_nil)))))))))))), ?_⟩
    have hgi : rows[i]? = some (rows.getD i []) := by rw [List.getD_eq_getElem?_getD, List.getElem?_eq_getElem (by rw [O.br.len]; exact hi)]; rfl
    rcases hway with rfl | rfl
    · have hll : (lineOf rows i j 0).length = w := lineOf_len O.br hi
      have el : rows.getD i [] = lineOf rows i j 0 := rfl
      rw [el] at hgi
      have hz : ∀ l : List Nat, l.length ≤ 100 → l.length ≤ sizeLine := fun l h => Nat.le_of_lt (small1000 (by omega))
      refine ⟨_, rfl, rfl, _, rfl, iteT ?_⟩
      refine ⟨_, rfl, p, C, dx, _, _, rfl, hp, T.cl, T.nr, rfl, _, rfl, pr, _, _, _, rfl, rfl, SqT.of hr', atI_nat (Ts_at hgi), ?_⟩
      generalize hL : lineOf rows i j 0 = l at hll hgi ⊢
      refine ⟨_, rfl, rfl, _, rfl, iteT ⟨_, rfl, ?_⟩⟩
      refine ⟨_, rfl, _, rfl, _, rfl, l, rfl, hz _ (by omega), rfl, ?_⟩
      rw [cut_to]
      refine ⟨_, rfl, rfl, by rw [List.length_take]; omega, fun p1 a1 b1 hp1 => ?_⟩
      refine ⟨p1, _, _, _, rfl, rfl, SqT.of upd_same, atI_nat (j := 2) rfl, ?_⟩
      have s1 : Same H (upd H p1 (.tup [.str a1, .str b1, .str (S (tailF (l.take j)))])) := Same.upd hp1
      generalize upd H p1 (.tup [.str a1, .str b1, .str (S (tailF (l.take j)))]) = H1 at s1 ⊢
      have t1 := tailF_len (l.take j)
      have t2 := headF_len (l.drop j)
      rw [List.length_take] at t1
      rw [List.length_drop] at t2
      refine ⟨_, rfl, _, rfl, _, rfl, _, rfl, l, rfl, hz _ (by omega), rfl, ?_⟩
      rw [cut_from]
      refine ⟨_, rfl, rfl, by rw [List.length_drop]; omega, fun p2 b2 c2 hp2 => ?_⟩
      refine ⟨p2, _, _, _, rfl, rfl, SqT.of upd_same, atI_nat (j := 0) rfl, _, _, rfl, rfl, Nat.le_of_lt (small1000 (by omega)), ?_⟩
      have s2 := s1.upd' (o := HO.tup [.str (S (headF (l.drop j))), .str b2, .str c2]) (s1.free hp2)
      generalize upd H1 p2 (HO.tup [.str (S (headF (l.drop j))), .str b2, .str c2]) = H2 at s2 ⊢
      refine ⟨_, rfl, _, rfl, _, rfl, hz _ (by omega), _, _, rfl, rfl, ?_⟩
      refine ⟨_, rfl, rfl, _, rfl, iteT ?_⟩
      refine ⟨_, rfl, _, rfl, _, rfl, by show 3 ≤ sizeLine; decide, fun t ht => ?_⟩
      exact q t _ (s2.upd' (s2.free ht)) (s2.free ht) (by rw [upd_same, hL]; rfl)
    · have hll : (lineOf rows i j 1).length = r := lineOf_len O.br hi
      have el : colOf rows j = lineOf rows i j 1 := rfl
      have hz : ∀ l : List Nat, l.length ≤ 100 → l.length ≤ sizeLine := fun l h => Nat.le_of_lt (small1000 (by omega))
      refine ⟨_, rfl, rfl, _, rfl, iteF ?_⟩
      refine ⟨_, rfl, p, C, dx, _, _, rfl, hp, T.cl, T.nr, rfl, _, rfl, pr, rows, r, w, j, rfl, hr', O.br, r9, w9, hj, fun H0 s0 => ?_⟩
      rw [el]
      generalize hL : lineOf rows i j 1 = l at hll ⊢
      refine ⟨_, rfl, rfl, _, rfl, iteF ⟨_, rfl, ?_⟩⟩
      refine ⟨_, rfl, _, rfl, _, rfl, l, rfl, hz _ (by omega), rfl, ?_⟩
      rw [cut_to]
      refine ⟨_, rfl, rfl, by rw [List.length_take]; omega, fun p1 a1 b1 hp1 => ?_⟩
      refine ⟨p1, _, _, _, rfl, rfl, SqT.of upd_same, atI_nat (j := 2) rfl, ?_⟩
      have s1 : Same H (upd H0 p1 (.tup [.str a1, .str b1, .str (S (tailF (l.take i)))])) := s0.upd' (s0.free hp1)
      generalize upd H0 p1 (.tup [.str a1, .str b1, .str (S (tailF (l.take i)))]) = H1 at s1 ⊢
      have t1 := tailF_len (l.take i)
      have t2 := headF_len (l.drop i)
      rw [List.length_take] at t1
      rw [List.length_drop] at t2
      refine ⟨_, rfl, _, rfl, _, rfl, _, rfl, l, rfl, hz _ (by omega), rfl, ?_⟩
      rw [cut_from]
      refine ⟨_, rfl, rfl, by rw [List.length_drop]; omega, fun p2 b2 c2 hp2 => ?_⟩
      refine ⟨p2, _, _, _, rfl, rfl, SqT.of upd_same, atI_nat (j := 0) rfl, _, _, rfl, rfl, Nat.le_of_lt (small1000 (by omega)), ?_⟩
      have s2 := s1.upd' (o := HO.tup [.str (S (headF (l.drop i))), .str b2, .str c2]) (s1.free hp2)
      generalize upd H1 p2 (HO.tup [.str (S (headF (l.drop i))), .str b2, .str c2]) = H2 at s2 ⊢
      refine ⟨_, rfl, _, rfl, _, rfl, hz _ (by omega), _, _, rfl, rfl, ?_⟩
      refine ⟨_, rfl, rfl, _, rfl, iteF ?_⟩
      refine ⟨_, rfl, _, rfl, _, rfl, by show 3 ≤ sizeLine; decide, fun t ht => ?_⟩
      exact q t _ (s2.upd' (s2.free ht)) (s2.free ht) (by rw [upd_same, hL]; rfl)
abbrev Trip := Nat × Nat × Nat
def rk (t : Trip) : Nat := t.1 * 1000 + t.2.1
def sw (t : Trip) : Trip := (t.2.1, t.1, t.2.2)
def okT (t : Trip) : Prop := t.1 < 9 ∧ t.2.1 < 9 ∧ t.2.2 < 128
def TripAt (H : Hp) (a : Addr) (t : Trip) : Prop := H a = some (.tup [.int t.1, .int t.2.1, .str (S [t.2.2])])
def tO (H : Hp) (a : Addr) : Trip := match H a with
  | some (.tup [.int x, .int y, .str z]) => (x.toNat, y.toNat, z.cps.toList.headD 0)
  | _ => (0, 0, 0)
theorem tO_of {H : Hp} {a : Addr} {t : Trip} (h : TripAt H a t) : tO H a = t := by
  unfold tO
  rw [show H a = _ from h]
  rfl
structure LayL (H : Hp) (as : List Addr) (ts : List Trip) : Prop where
  at_ : ∀ a ∈ as, TripAt H a (tO H a)
  eq : as.map (tO H) = ts
theorem LayL.mvT {H H' : Hp} {as : List Addr} {ts : List Trip} (k : ∀ a xs, H a = some (.tup xs) → H' a = some (.tup xs)) (h : LayL H as ts) : LayL H' as ts := by
  have e : ∀ a ∈ as, tO H' a = tO H a := fun a ha => tO_of (k a _ (h.at_ a ha))
  exact ⟨fun a ha => by rw [e a ha]; exact k a _ (h.at_ a ha), by rw [← h.eq]; exact List.map_congr_left e⟩
theorem LayL.mv {H H' : Hp} {as : List Addr} {ts : List Trip} (k : Same H H') (h : LayL H as ts) : LayL H' as ts := h.mvT fun a xs e => k a _ e
theorem tup_updL {H : Hp} {M : Addr} {ys zs : List V} (hM : H M = some (.lst ys)) : ∀ a xs, H a = some (.tup xs) → upd H M (.lst zs) a = some (.tup xs) := fun a xs e => by
  have ne : a ≠ M := fun z => by rw [z, hM] at e; cases e
  rw [upd_ne ne]; exact e
theorem LayL.snoc {H : Hp} {as : List Addr} {ts : List Trip} {a : Addr} {t : Trip} (h : LayL H as ts) (ha : TripAt H a t) : LayL H (as ++ [a]) (ts ++ [t]) := by
  refine ⟨fun b hb => ?_, by rw [List.map_append, h.eq, List.map_singleton, tO_of ha]⟩
  rcases List.mem_append.mp hb with z | z
  · exact h.at_ b z
  · rw [List.mem_singleton.mp z, tO_of ha]; exact ha
theorem LayL.nil {H : Hp} : LayL H [] [] := ⟨fun a h => by simp at h, rfl⟩
theorem LayL.len {H : Hp} {as : List Addr} {ts : List Trip} (h : LayL H as ts) : as.length = ts.length := by rw [← h.eq, List.length_map]
theorem LayL.get {H : Hp} {as : List Addr} {ts : List Trip} (h : LayL H as ts) {i : Nat} (hi : i < as.length) : ∃ t, ts[i]? = some t ∧ TripAt H as[i] t :=
  ⟨tO H as[i], by rw [← h.eq]; simp [hi], h.at_ _ (List.getElem_mem _)⟩
theorem LayL.perm {H : Hp} {as as' : List Addr} {ts : List Trip} (h : LayL H as ts) (p : as'.Perm as) : LayL H as' (as'.map (tO H)) ∧ (as'.map (tO H)).Perm ts :=
  ⟨⟨fun a ha => h.at_ a (p.mem_iff.mp ha), rfl⟩, by rw [← h.eq]; exact p.map _⟩
def turnR (rows : List (List Nat)) (w : Nat) : List (List Nat) := (List.range w).map (colOf rows)
theorem turn_blk {r w : Nat} {rows : List (List Nat)} (h : Blk r w rows) : Blk w r (turnR rows w) :=
  ⟨by unfold turnR; rw [List.length_map, List.length_range], fun l hl => by
    obtain ⟨j, _, rfl⟩ := List.mem_map.mp hl
    unfold colOf; rw [List.length_map, h.len]⟩
theorem turn_mem {r w : Nat} {rows : List (List Nat)} (h : Blk r w rows) {Pc : Nat → Prop} (hp : ∀ l ∈ rows, ∀ c ∈ l, Pc c) : ∀ l ∈ turnR rows w, ∀ c ∈ l, Pc c := fun l hl c hc => by
  obtain ⟨j, hj, rfl⟩ := List.mem_map.mp hl
  have hj := List.mem_range.mp hj
  obtain ⟨l', hl', rfl⟩ := List.mem_map.mp hc
  have hw := h.wid l' hl'
  rw [List.getD_eq_getElem?_getD, List.getElem?_eq_getElem (by omega)]
  exact hp l' hl' _ (List.getElem_mem _)
theorem turn_turn {r w : Nat} {rows : List (List Nat)} (h : Blk r w rows) : turnR (turnR rows w) r = rows := by
  apply List.ext_getElem
  · unfold turnR; rw [List.length_map, List.length_range, h.len]
  · intro i h1 h2
    have hw := h.wid rows[i] (List.getElem_mem _)
    rw [show (turnR (turnR rows w) r)[i] = colOf (turnR rows w) i by simp [turnR]]
    unfold colOf turnR
    rw [List.map_map]
    apply List.ext_getElem
    · rw [List.length_map, List.length_range, hw]
    · intro j h3 h4
      rw [List.getElem_map, List.getElem_range]
      show (rows.map fun l => l.getD j 0).getD i 0 = rows[i][j]
      rw [List.getD_eq_getElem?_getD, List.getElem?_eq_getElem (by rw [List.length_map]; exact h2), List.getElem_map]
      show (rows[i]).getD j 0 = _
      rw [List.getD_eq_getElem?_getD, List.getElem?_eq_getElem h4]
      rfl
theorem brd_turn {r w : Nat} {rows marks : List (List Nat)} {bi bj : Nat} (B : Brd r w rows marks bi bj) : Brd w r (turnR rows w) (turnR marks w) bj bi :=
  ⟨B.w1, B.w9, B.r1, B.r9, turn_blk B.br, turn_blk B.bm, turn_mem B.br B.cr, turn_mem B.bm B.cm, B.bj, B.bi⟩
def setAt (R : List (List Nat)) (i j z : Nat) : List (List Nat) := R.set i ((R.getD i []).set j z)
def laidF (R : List (List Nat)) (ts : List Trip) : List (List Nat) := ts.foldl (fun R t => setAt R t.1 t.2.1 t.2.2) R
theorem set_blk {r w : Nat} {R : List (List Nat)} (h : Blk r w R) {i j z : Nat} (hi : i < r) : Blk r w (setAt R i j z) := by
  refine ⟨by unfold setAt; rw [List.length_set, h.len], fun l hl => ?_⟩
  rcases List.mem_or_eq_of_mem_set hl with y | y
  · exact h.wid l y
  · rw [y, List.length_set, List.getD_eq_getElem?_getD, List.getElem?_eq_getElem (by rw [h.len]; exact hi)]
    exact h.wid _ (List.getElem_mem _)
theorem set_mem {r w : Nat} {R : List (List Nat)} (h : Blk r w R) {i j z : Nat} (hi : i < r) {Pc : Nat → Prop} (hp : ∀ l ∈ R, ∀ c ∈ l, Pc c) (hz : Pc z) : ∀ l ∈ setAt R i j z, ∀ c ∈ l, Pc c := fun l hl c hc => by
  rcases List.mem_or_eq_of_mem_set hl with y | y
  · exact hp l y c hc
  · rw [y] at hc
    rcases List.mem_or_eq_of_mem_set hc with u | u
    · rw [List.getD_eq_getElem?_getD, List.getElem?_eq_getElem (by rw [h.len]; exact hi)] at u
      exact hp _ (List.getElem_mem _) c u
    · rw [u]; exact hz
def inB (r w : Nat) (t : Trip) : Prop := t.1 < r ∧ t.2.1 < w ∧ sgC t.2.2
theorem laid_blk {r w : Nat} : ∀ {ts : List Trip} {R : List (List Nat)}, Blk r w R → (∀ t ∈ ts, inB r w t) → Blk r w (laidF R ts)
  | [], _, h, _ => h
  | t :: ts, _, h, k => laid_blk (ts := ts) (set_blk h (k t List.mem_cons_self).1) fun x hx => k x (List.mem_cons_of_mem _ hx)
theorem laid_mem {r w : Nat} : ∀ {ts : List Trip} {R : List (List Nat)}, Blk r w R → (∀ t ∈ ts, inB r w t) → (∀ l ∈ R, ∀ c ∈ l, roC c) → ∀ l ∈ laidF R ts, ∀ c ∈ l, roC c
  | [], _, _, _, g => g
  | t :: ts, _, h, k, g => laid_mem (ts := ts) (set_blk h (k t List.mem_cons_self).1) (fun x hx => k x (List.mem_cons_of_mem _ hx)) (set_mem h (k t List.mem_cons_self).1 g (.inr (k t List.mem_cons_self).2.2))
theorem brd_laid {r w : Nat} {rows marks : List (List Nat)} {bi bj : Nat} (B : Brd r w rows marks bi bj) {ts : List Trip} (k : ∀ t ∈ ts, inB r w t) : Brd r w (laidF rows ts) marks bi bj :=
  ⟨B.r1, B.r9, B.w1, B.w9, laid_blk B.br k, B.bm, laid_mem B.br k B.cr, B.cm, B.bi, B.bj⟩
theorem laid_snoc (R : List (List Nat)) (ts : List Trip) (t : Trip) : laidF R (ts ++ [t]) = setAt (laidF R ts) t.1 t.2.1 t.2.2 := by unfold laidF; rw [List.foldl_append]; rfl
structure LinesAt (H0 H : Hp) (ps : List Addr) (R : List (List Nat)) : Prop where
  len : ps.length = R.length
  nd : ps.Nodup
  fr : ∀ p ∈ ps, H0 p = none
  at_ : ∀ (i : Nat) (h : i < ps.length), H ps[i] = some (.lst (Ts (ones (R.getD i []))))
theorem LinesAt.mv {H0 H H' : Hp} {ps : List Addr} {R : List (List Nat)} (h : LinesAt H0 H ps R) (k : ∀ p ∈ ps, H' p = H p) : LinesAt H0 H' ps R :=
  ⟨h.len, h.nd, h.fr, fun i hi => by rw [k _ (List.getElem_mem _)]; exact h.at_ i hi⟩
theorem LinesAt.mvS {H0 H H' : Hp} {ps : List Addr} {R : List (List Nat)} (h : LinesAt H0 H ps R) (k : Same H H') : LinesAt H0 H' ps R :=
  ⟨h.len, h.nd, h.fr, fun i hi => k _ _ (h.at_ i hi)⟩
theorem LinesAt.snoc {H0 H : Hp} {ps : List Addr} {R : List (List Nat)} (h : LinesAt H0 H ps R) {p : Addr} {l : List Nat} (hn : p ∉ ps) (h0 : H0 p = none) (hp : H p = some (.lst (Ts (ones l)))) : LinesAt H0 H (ps ++ [p]) (R ++ [l]) := by
  refine ⟨by simp [h.len], ?_, fun x hx => ?_, fun i hi => ?_⟩
  · rw [List.nodup_append]
    refine ⟨h.nd, by simp, fun a ha b hb => ?_⟩
    rw [List.mem_singleton.mp hb]
    exact fun z => hn (z ▸ ha)
  · rcases List.mem_append.mp hx with z | z
    · exact h.fr x z
    · rw [List.mem_singleton.mp z]; exact h0
  · by_cases c : i < ps.length
    · rw [List.getElem_append_left c, h.at_ i c, List.getD_eq_getElem?_getD, List.getD_eq_getElem?_getD, List.getElem?_append_left (by rw [← h.len]; exact c)]
    · have e : i = ps.length := by simp at hi; omega
      subst e
      rw [List.getElem_append_right (Nat.le_refl _)]
      simp only [Nat.sub_self, List.getElem_singleton]
      rw [hp, List.getD_eq_getElem?_getD, List.getElem?_append_right (by rw [h.len]; exact Nat.le_refl _), h.len]
      simp
theorem LinesAt.set {H0 H : Hp} {ps : List Addr} {R : List (List Nat)} (h : LinesAt H0 H ps R) {i j z : Nat} (hi : i < ps.length) : LinesAt H0 (upd H ps[i] (.lst ((Ts (ones (R.getD i []))).set j (.str (S [z]))))) ps (setAt R i j z) := by
  have e : (Ts (ones (R.getD i []))).set j (.str (S [z])) = Ts (ones ((R.getD i []).set j z)) := by
    show List.set (((R.getD i []).map fun c => [c]).map fun l => V.str (S l)) j (V.str (S [z])) = ((List.set (R.getD i []) j z).map fun c => [c]).map fun l => V.str (S l)
    rw [List.map_set, List.map_set]
  rw [e]
  refine ⟨by unfold setAt; rw [List.length_set]; exact h.len, h.nd, h.fr, fun k hk => ?_⟩
  by_cases c : k = i
  · subst c
    rw [upd_same]
    unfold setAt
    rw [List.getD_eq_getElem?_getD (l := R.set _ _), List.getElem?_set_self (by rw [← h.len]; exact hi)]
    rfl
  · rw [upd_ne (fun z => c ((List.getElem_inj h.nd).mp z)), h.at_ k hk]
    unfold setAt
    rw [List.getD_eq_getElem?_getD (l := R.set _ _), List.getElem?_set_ne (fun z => c z.symm), ← List.getD_eq_getElem?_getD]
def spTR : Sp := fun vs H Q _ => ∃ (p : Addr) (rows : List (List Nat)) (r w : Nat), vs = [.ref p] ∧ H p = some (.tup (Ts rows)) ∧ Blk r w rows ∧ 1 ≤ r ∧ r ≤ 9 ∧ w ≤ 9 ∧ ∀ (p' : Addr) (H' : Hp), Same H H' → H' p' = some (.tup (Ts (turnR rows w))) → Q (.ref p') H'
theorem ok_turned_rows (D : DefAt K mg "turned_rows" s_turned_rows ["rows"]) (n_len : mg "len" = none) (n_range : mg "range" = none) (n_tuple : mg "tuple" = none) (D_column_text : Def P w K mg base "column_text" 1 ["rows", "column"] spCol) : Def P w K mg base "turned_rows" 2 ["rows"] spTR := by
  refine D.qok sc_turned_rows (fun vs H Q E h => ?_) (fun f cdv A outer s H vs Q E hr h => ?_)
  · obtain ⟨p, rows, r, w, rfl, _⟩ := h
    rfl
  · obtain ⟨p, rows, r, w, rfl, hp, hb, r1, r9, w9, q⟩ := h
    refine ⟨_, (qss_one (qs_ret (qe_callTy call_tuple_of (by rfl) n_tuple PyProof.Rows.boot_tuple (qa_cons (qe_comp rfl (CompOk.of sc_turned_rows.nd (by kernel_rfl)) (qi_range1 (by rfl) n_range (qa_cons (qe_callB call_lenS (by rfl) n_len PySem.boot_len (qa_cons (qe_ix ix_tup (qv 0) qe_int (fun _ _ => rfl)) qa_nil)) qa_nil)) (fun _ _ _ _ _ => qts_nil) (fun _ _ _ _ _ => (qe_own D_column_text (hr.mono (by decide)) rfl (qa_cons (qv 1) (qa_cons (qv 0) qa_nil))))) qa_nil)))), ?_⟩
    have h0 : 0 < rows.length := by rw [hb.len]; exact r1
    have w0 : rows[0].length = w := hb.wid _ (List.getElem_mem _)
    refine ⟨_, rfl, p, _, _, .str (S rows[0]), rfl, rfl, SqT.of hp, atI_nat (j := 0) (Ts_at (by simp [h0])), _, rfl, Nat.le_of_lt (small1000 (by omega)), _, rfl, by omega, by omega, ?_⟩
    intro M hM
    rw [Int.toNat_natCast, w0]
    refine comp_range (lo := 0) (n := w) (fun i ys H2 => ys = Ts ((List.range i).map (colOf rows)) ∧ H2 M = some (.lst ys) ∧ Same H H2) ⟨rfl, upd_same, Same.upd hM⟩ ?_ ?_
    · rintro i ys H2 hi ⟨rfl, hM2, sm⟩
      refine ⟨_, rfl, _, rfl, p, rows, r, w, i, by rw [Int.zero_add]; rfl, sm _ _ hp, hb, r9, w9, hi, fun H3 s3 => ⟨s3 _ _ hM2, ?_, Nxt.mk hi ⟨?_, upd_same, (sm.trans s3).upd' hM⟩⟩⟩
      · rw [List.length_map, List.length_map, List.length_range]; exact small1000 (by omega)
      · rw [Ts_snoc, List.range_succ, List.map_append]; rfl
    · rintro ys H2 ⟨rfl, hM2, sm⟩
      refine ⟨M, _, rfl, .inl ⟨SqL.of hM2, fun l hl => ?_⟩⟩
      exact q l _ (sm.upd' (sm.free hl)) upd_same
def spTurned (C : Addr) : Sp := fun vs H Q _ => ∃ (p : Addr) (r w : Nat) (rows marks : List (List Nat)) (bi bj : Nat), vs = [.ref p] ∧ BoardAt C H p r w rows marks bi bj ∧ ∀ (p' : Addr) (H' : Hp), Same H H' → BoardAt C H' p' w r (turnR rows w) (turnR marks w) bj bi → Q (.ref p') H'
theorem ok_turned {f C f0 : Addr} {fd fd0 : FuncData} (F : Fun K "turned" "Board.turned" s_Board_turned f fd) (T : BoardCls K C) (mg_Board : mg "Board" = some (.ref C)) (M_Board : Mk K C f0) (G_Board : FnOk P w K mg base CX0 5 f0 fd0 ["self", "rows", "marks", "begin"] (spBInit C)) (b_Board : Binds K fd0 ["self", "rows", "marks", "begin"] [])
    (D_turned_rows : Def P w K mg base "turned_rows" 2 ["rows"] spTR) : FnOk P w K mg base CX0 8 f fd ["self"] (spTurned C) := by
  refine F.qok sc_Board_turned (fun vs H Q E h => ?_) (fun cdv A outer s H vs Q E hr h => ?_)
  · obtain ⟨p, r, w, rows, marks, bi, bj, rfl, _⟩ := h
    rfl
  · obtain ⟨p, r, w, rows, marks, bi, bj, rfl, BA, q⟩ := h
    obtain ⟨⟨dx, pr, pm, pb, hx, hpr, hpm, hpb⟩, B⟩ := BA
    refine ⟨_, (qss_cons (qs_set (i := 1) sc_Board_turned.nd rfl (Or.inl rfl) (qe_tup (qa_cons (qe_ix ix_tup (qe_fld (qv 0) rfl) qe_int (fun _ _ => rfl)) (qa_cons (qe_ix ix_tup (qe_fld (qv 0) rfl) qe_int (fun _ _ => rfl)) qa_nil)))) (qss_one (qs_ret (qe_make M_Board G_Board (hr.mono (by decide)) rfl mg_Board b_Board .nil pass0 (qa_cons (qe_own D_turned_rows (hr.mono (by decide)) rfl (qa_cons (qe_fld (qv 0) rfl) qa_nil)) (qa_cons (qe_own D_turned_rows (hr.mono (by decide)) rfl (qa_cons (qe_fld (qv 0) rfl) qa_nil)) (qa_cons (qv 1) qa_nil))))))), ?_⟩
    refine ⟨_, rfl, p, C, dx, _, _, rfl, hx, T.cl, T.nb, rfl, pb, _, _, .int bj, rfl, rfl, SqT.of hpb, atI_nat (j := 1) rfl, ?_⟩
    refine ⟨_, rfl, p, C, dx, _, _, rfl, hx, T.cl, T.nb, rfl, pb, _, _, .int bi, rfl, rfl, SqT.of hpb, atI_nat (j := 0) rfl, by show 2 ≤ sizeLine; decide, fun b hb => ?_⟩
    have s1 : Same H (upd H b (.tup [.int bj, .int bi])) := Same.upd hb
    refine ⟨_, rfl, p, C, dx, _, _, rfl, s1 _ _ hx, T.cl, T.nr, rfl, pr, rows, r, w, rfl, s1 _ _ hpr, B.br, B.r1, B.r9, B.w9, fun p1 H1 t1 h1 => ?_⟩
    have s2 := s1.trans t1
    refine ⟨_, rfl, p, C, dx, _, _, rfl, s2 _ _ hx, T.cl, T.nm, rfl, pm, marks, r, w, rfl, s2 _ _ hpm, B.bm, B.r1, B.r9, B.w9, fun p2 H2 t2 h2 => ?_⟩
    have s3 := s2.trans t2
    refine ⟨_, rfl, fun x dy nx ndx nex => ?_⟩
    have s4 : Same H2 (upd (upd H2 dy (HO.own x)) x (HO.ins C dy [])) := fun b o e => by rw [upd_ne (ne_of_none e nx), upd_ne (ne_of_none e ndx)]; exact e
    have hb2 : H2 b = some (.tup [.int bj, .int bi]) := t2 _ _ (t1 _ _ upd_same)
    refine ⟨x, dy, p1, p2, b, w, r, turnR rows w, turnR marks w, bj, bi, rfl, upd_same, s4 _ _ (t2 _ _ h1), s4 _ _ h2, s4 _ _ hb2, brd_turn B, fun H3 kp hx3 => ⟨rfl, ?_⟩⟩
    have s5 : Same H2 H3 := fun b o e => kp b o (s4 b o e) (ne_of_none e nx)
    exact q x H3 (s3.trans s5) ⟨⟨dy, p1, p2, b, hx3, s5 _ _ (t2 _ _ h1), s5 _ _ h2, s5 _ _ hb2⟩, brd_turn B⟩
def spLaid (C : Addr) : Sp := fun vs H Q _ => ∃ (p t : Addr) (as : List Addr) (ts : List Trip) (r w : Nat) (rows marks : List (List Nat)) (bi bj : Nat), vs = [.ref p, .ref t] ∧ BoardAt C H p r w rows marks bi bj ∧ H t = some (.tup (as.map V.ref)) ∧ LayL H as ts ∧ (∀ t ∈ ts, inB r w t) ∧
  ∀ (p' : Addr) (H' : Hp), Same H H' → BoardAt C H' p' r w (laidF rows ts) marks bi bj → Q (.ref p') H'
theorem ok_laid {f C f0 : Addr} {fd fd0 : FuncData} (F : Fun K "laid" "Board.laid" s_Board_laid f fd) (T : BoardCls K C) (n_list : mg "list" = none) (n_tuple : mg "tuple" = none) (mg_Board : mg "Board" = some (.ref C)) (M_Board : Mk K C f0) (G_Board : FnOk P w K mg base CX0 5 f0 fd0 ["self", "rows", "marks", "begin"] (spBInit C)) (b_Board : Binds K fd0 ["self", "rows", "marks", "begin"] []) :
    FnOk P w K mg base CX0 8 f fd ["self", "laying"] (spLaid C) := by
  refine F.qok sc_Board_laid (fun vs H Q E h => ?_) (fun cdv A outer s H vs Q E hr h => ?_)
  · obtain ⟨p, t, as, ts, r, w, rows, marks, bi, bj, rfl, _⟩ := h
    rfl
  · obtain ⟨p, t, as, ts, r, w, rows, marks, bi, bj, rfl, BA, ht, hL, hin, q⟩ := h
    obtain ⟨⟨dx, pr, pm, pb, hx, hpr, hpm, hpb⟩, B⟩ := BA
    have r9 := B.r9
    have w9 := B.w9
    have hbr := B.br
    refine ⟨_, (qss_cons (qs_setG (ix := 2) (ns := ["row"]) sc_Board_laid.nd rfl (Or.inl rfl) rfl (CompG.of ["self", "laying", "lines", ".3", "column", "sign"] [3] (by kernel_rfl)) (qi_tup (qe_fld (qv 0) rfl)) (fun _ _ _ _ _ => (tg_name (show (["row", "self", "laying", "lines", ".3", "column", "sign"] : List Str).Nodup by decide +kernel) rfl (by rfl))) (fun _ _ _ _ _ => qts_nil) (fun _ _ _ _ _ => (qe_callTy (call_listS rfl) (by rfl) n_list PyProof.Rows.boot_list (qa_cons (qv 0) qa_nil)))) (qss_cons (qs_for PassesOwn.never rfl (qi_tup (qv 1)) (qg_tup rfl (qgs_cons (qg_name (i := 3) sc_Board_laid.nd rfl (Or.inl rfl)) (qgs_cons (qg_name (i := 4) sc_Board_laid.nd rfl (Or.inl rfl)) (qgs_cons (qg_name (i := 5) sc_Board_laid.nd rfl (Or.inl rfl)) qgs_nil)))) (qss_one (qs_asg (qv 5) (qg_sub (qe_ix ix_list (qv 2) (qv 3) (fun _ _ => rfl)) (qv 4) set_list)))) (qss_one (qs_ret (qe_make M_Board G_Board (hr.mono (by decide)) rfl mg_Board b_Board .nil pass0 (qa_cons (qe_callTy call_tuple_of (by rfl) n_tuple PyProof.Rows.boot_tuple (qa_cons (qe_comp rfl (CompOk.of sc_Board_laid.nd (by kernel_rfl)) (qi_list (qv 2)) (fun _ _ _ _ _ => qts_nil) (fun _ _ _ _ _ => (qe_bmK K PySem.F.plainAttrs_str PySem.F.slot_str_join PySem.F.type_str_join (mt_joinK K) (qe_strS [] (by decide +kernel)) (qa_cons (qv 0) qa_nil)))) qa_nil)) (qa_cons (qe_fld (qv 0) rfl) (qa_cons (qe_fld (qv 0) rfl) qa_nil)))))))), ?_⟩
    refine ⟨_, rfl, p, C, dx, _, _, rfl, hx, T.cl, T.nr, rfl, pr, rfl, ⟨_, SqT.of hpr⟩, fun M hM => compG1_tup (f := hideS [3] 0) (tt := tYes) (xs := Ts rows) (fun i ys H2 => ∃ ps : List Addr, ys = ps.map V.ref ∧ H2 M = some (.lst ys) ∧ Same H H2 ∧ LinesAt H H2 ps (rows.take i) ∧ M ∉ ps)
      ⟨[], rfl, upd_same, Same.upd hM, ⟨by simp, List.nodup_nil, fun p h => by simp at h, fun i h => by simp at h⟩, by simp⟩ (fun i ys H2 _ h => by obtain ⟨_, _, _, sm, _⟩ := h; exact SqT.of (sm _ _ hpr)) ?_ ?_⟩
    · rintro i x ys H2 hi ⟨ps, rfl, hM2, sm, hLn, nM⟩
      obtain ⟨l, hl, rfl⟩ := Ts_get hi
      have hil : i < (Ts rows).length := (List.getElem?_eq_some_iff.mp hi).1
      have hlw : l.length = w := hbr.wid _ (List.mem_of_getElem? hl)
      have hln : (Ts rows).length = r := by rw [List.length_map, hbr.len]
      have hpl : ps.length ≤ 9 := by rw [hLn.len, List.length_take, hbr.len]; omega
      refine turn1 ⟨_, rfl, l, rfl, by omega, fun c hc => ?_⟩
      have ncM : M ≠ c := fun z => by rw [← z, hM2] at hc; cases hc
      have ncp : c ∉ ps := fun z => by
        obtain ⟨k, hk, e⟩ := List.mem_iff_getElem.mp z
        have := hLn.at_ k hk
        rw [e, hc] at this
        cases this
      refine ⟨by rw [upd_ne ncM]; exact hM2, by rw [List.length_map]; exact small1000 (by omega), Nxt.mk hil ⟨ps ++ [c], by simp, upd_same, (sm.upd' (sm.free hc)).upd' hM, ?_, ?_⟩⟩
      · rw [show rows.take (i + 1) = rows.take i ++ [l] by rw [List.take_add_one, hl]; rfl]
        refine LinesAt.mv ((hLn.mvS (Same.upd hc)).snoc ncp (sm.free hc) upd_same) fun y hy => upd_ne fun z => ?_
        rcases List.mem_append.mp hy with u | u
        · exact nM (z ▸ u)
        · exact ncM (z.symm.trans (List.mem_singleton.mp u))
      · intro z
        rcases List.mem_append.mp z with u | u
        · exact nM u
        · exact ncM (List.mem_singleton.mp u)
    · rintro ys H2 ⟨ps, rfl, hM2, sm, hLn, nM⟩
      rw [List.take_of_length_le (by rw [List.length_map]; exact Nat.le_refl _)] at hLn
      refine ⟨_, rfl, t, rfl, ⟨_, SqT.of (sm _ _ ht)⟩, for_tup (K := K) (a := t) (xs := as.map V.ref) (fun i σ H3 => ∃ v3 v4 v5 : Option V, σ = [some (.ref p), some (.ref t), some (.ref M), v3, v4, v5] ∧ Same H H3 ∧ H3 M = some (.lst (ps.map V.ref)) ∧ LinesAt H H3 ps (laidF rows (ts.take i)))
        ⟨none, none, none, rfl, sm, hM2, hLn⟩ (fun i σ H3 _ h => by obtain ⟨_, _, _, _, sm, _⟩ := h; exact SqT.of (sm _ _ ht)) ?_ ?_⟩
      · rintro i x σ H3 hx' ⟨v3, v4, v5, rfl, sm3, hM3, hLn3⟩
        rw [List.getElem?_map] at hx'
        have hi : i < as.length := by
          rcases Nat.lt_or_ge i as.length with z | z
          · exact z
          · rw [List.getElem?_eq_none z] at hx'; cases hx'
        rw [List.getElem?_eq_getElem hi] at hx'
        have hx' : V.ref as[i] = x := Option.some.inj hx'
        subst hx'
        obtain ⟨u, eu, hU⟩ := hL.get hi
        have hum := List.mem_of_getElem? eu
        obtain ⟨u1, u2, u3⟩ := hin u hum
        have hb3 : Blk r w (laidF rows (ts.take i)) := laid_blk hbr fun y hy => hin y (List.mem_of_mem_take hy)
        have hpl : ps.length = r := by rw [hLn3.len, hb3.len]
        have hps : u.1 < ps.length := by omega
        refine ⟨as[i], _, rfl, SqT.of (sm3 _ _ hU), rfl, _, _, rfl, _, _, rfl, _, _, rfl, rfl, ?_⟩
        refine ⟨_, rfl, _, rfl, _, rfl, M, _, _, .ref ps[u.1], rfl, rfl, SqL.of hM3, atI_nat (by simp [hps]), _, rfl, ps[u.1], _, _, u.2.1, rfl, rfl, hLn3.at_ u.1 hps, ?_, ?_⟩
        · have : ((laidF rows (ts.take i)).getD u.1 []).length = w := by
            rw [List.getD_eq_getElem?_getD, List.getElem?_eq_getElem (by rw [hb3.len]; exact u1)]
            exact hb3.wid _ (List.getElem_mem _)
          unfold ixN
          rw [List.length_map, List.length_map, this, if_pos (by omega), if_pos (by omega)]
          congr 1
        · refine ⟨_, _, _, rfl, sm3.upd' (hLn3.fr _ (List.getElem_mem _)), ?_, ?_⟩
          · have ne : M ≠ ps[u.1] := fun z => nM (by rw [z]; exact List.getElem_mem _)
            rw [upd_ne ne]; exact hM3
          · rw [show laidF rows (ts.take (i + 1)) = setAt (laidF rows (ts.take i)) u.1 u.2.1 u.2.2 by rw [List.take_add_one, eu]; exact laid_snoc _ _ _]
            exact hLn3.set hps
      · rintro σ H3 ⟨v3, v4, v5, rfl, sm3, hM3, hLn3⟩
        rw [List.take_of_length_le (by rw [List.length_map, hL.len]; exact Nat.le_refl _)] at hLn3
        have B' := brd_laid B hin
        have hpl : ps.length = r := by rw [hLn3.len, B'.br.len]
        refine ⟨_, rfl, M, rfl, ⟨_, SqL.of hM3⟩, fun N hN => comp_list (xs := ps.map V.ref) (fun i ys H4 => ys = Ts ((laidF rows ts).take i) ∧ H4 N = some (.lst ys) ∧ Same H3 H4) ⟨rfl, upd_same, Same.upd hN⟩ (fun i ys H4 _ h => SqL.of (h.2.2 _ _ hM3)) ?_ ?_⟩
        · rintro i x ys H4 hi ⟨rfl, hN4, sm4⟩
          rw [List.getElem?_map] at hi
          have hi' : i < ps.length := by
            rcases Nat.lt_or_ge i ps.length with z | z
            · exact z
            · rw [List.getElem?_eq_none z] at hi; cases hi
          rw [List.getElem?_eq_getElem hi'] at hi
          have hi : V.ref ps[i] = x := Option.some.inj hi
          subst hi
          have hri : i < (laidF rows ts).length := by rw [← hLn3.len]; exact hi'
          have hg : (laidF rows ts).getD i [] = (laidF rows ts)[i] := by rw [List.getD_eq_getElem?_getD, List.getElem?_eq_getElem hri]; rfl
          have hw : (laidF rows ts)[i].length = w := B'.br.wid _ (List.getElem_mem _)
          have hat := hLn3.at_ i hi'
          rw [hg] at hat
          refine ⟨rfl, _, rfl, ps[i], ones (laidF rows ts)[i], rfl, rfl, SqL.of (sm4 _ _ hat), by rw [flat1, hw]; omega, hN4, ?_, Nxt.mk (by rw [List.length_map]; exact hi') ⟨?_, upd_same, sm4.upd' hN⟩⟩
          · rw [List.length_map, List.length_take]; exact small1000 (by omega)
          · rw [flat1, Ts_snoc, List.take_add_one, List.getElem?_eq_getElem hri]; rfl
        · rintro ys H4 ⟨rfl, hN4, sm4⟩
          rw [List.take_of_length_le (by rw [List.length_map, hLn3.len]; exact Nat.le_refl _)] at hN4
          refine ⟨N, _, rfl, .inl ⟨SqL.of hN4, fun l hl => ?_⟩⟩
          have s5 := (sm3.trans sm4).upd' (o := .tup (Ts (laidF rows ts))) ((sm3.trans sm4).free hl)
          refine ⟨_, rfl, p, C, dx, _, _, rfl, s5 _ _ hx, T.cl, T.nm, rfl, _, rfl, p, C, dx, _, _, rfl, s5 _ _ hx, T.cl, T.nb, rfl, fun x dy nx ndx nex => ?_⟩
          have s6 : Same (upd H4 l (.tup (Ts (laidF rows ts)))) (upd (upd (upd H4 l (.tup (Ts (laidF rows ts)))) dy (HO.own x)) x (HO.ins C dy [])) := fun b o e => by rw [upd_ne (ne_of_none e nx), upd_ne (ne_of_none e ndx)]; exact e
          refine ⟨x, dy, l, pm, pb, r, w, laidF rows ts, marks, bi, bj, rfl, upd_same, s6 _ _ upd_same, s6 _ _ (s5 _ _ hpm), s6 _ _ (s5 _ _ hpb), B', fun H5 kp hx5 => ⟨rfl, ?_⟩⟩
          have s7 : Same (upd H4 l (.tup (Ts (laidF rows ts)))) H5 := fun b o e => kp b o (s6 b o e) (ne_of_none e nx)
          exact q x H5 (s5.trans s7) ⟨⟨dy, l, pm, pb, hx5, s7 _ _ upd_same, s7 _ _ (s5 _ _ hpm), s7 _ _ (s5 _ _ hpb)⟩, B'⟩

end
end My
end

section
set_option Elab.async false
set_option linter.all false
set_option maxRecDepth 100000
set_option maxHeartbeats 2000000
namespace My
open PySem L2
section
variable {P : Program} {w : World} {K : PySem.W.Frag} {mg : Str → Option Value} {base : Heap}
theorem pw_eq {i : Nat} : ∀ {ts : List Trip}, (∀ t ∈ ts, t.1 = i) → ts.Pairwise (fun a b => a.1 = b.1)
  | [], _ => .nil
  | t :: ts, h => .cons (fun b hb => by rw [h t List.mem_cons_self, h b (List.mem_cons_of_mem _ hb)]) (pw_eq fun b hb => h b (List.mem_cons_of_mem _ hb))
def Line1 (ts : List Trip) : Prop := ts.Pairwise (fun a b => a.1 = b.1) ∨ ts.Pairwise (fun a b => a.1 < b.1)
def Line2 (ts : List Trip) : Prop := (∃ i, (∀ t ∈ ts, t.1 = i) ∧ ts.Pairwise (fun a b => a.2.1 < b.2.1)) ∨ (∃ j, (∀ t ∈ ts, t.2.1 = j) ∧ ts.Pairwise (fun a b => a.1 < b.1))
theorem Line2.one {ts : List Trip} (h : Line2 ts) : Line1 ts := by
  rcases h with ⟨i, h, _⟩ | ⟨_, _, h⟩
  · exact .inl (pw_eq h)
  · exact .inr h
def LineW (wy i j : Nat) (ts : List Trip) : Prop := (wy = 0 → (∀ t ∈ ts, t.1 = i ∧ t.2.1 < j) ∧ ts.Pairwise (fun a b => a.2.1 < b.2.1)) ∧ (wy = 1 → (∀ t ∈ ts, t.2.1 = j ∧ t.1 < i) ∧ ts.Pairwise (fun a b => a.1 < b.1))
theorem LineW.nil {wy i j : Nat} : LineW wy i j [] := ⟨fun _ => ⟨fun t h => (by simp at h), List.Pairwise.nil⟩, fun _ => ⟨fun t h => (by simp at h), List.Pairwise.nil⟩⟩
theorem LineW.two {wy i j : Nat} {ts : List Trip} (hw : wy ≤ 1) (h : LineW wy i j ts) : Line2 ts := by
  by_cases z : wy = 0
  · exact .inl ⟨i, fun t ht => ((h.1 z).1 t ht).1, (h.1 z).2⟩
  · have z : wy = 1 := by omega
    exact .inr ⟨j, fun t ht => ((h.2 z).1 t ht).1, (h.2 z).2⟩
theorem LineW.step {wy i j : Nat} {ts : List Trip} (h : LineW wy i j ts) : LineW wy (i + wy) (j + 1 - wy) ts :=
  ⟨fun z => ⟨fun t ht => by have := (h.1 z).1 t ht; omega, (h.1 z).2⟩, fun z => ⟨fun t ht => by have := (h.2 z).1 t ht; omega, (h.2 z).2⟩⟩
theorem LineW.snoc {wy i j z : Nat} {ts : List Trip} (h : LineW wy i j ts) : LineW wy (i + wy) (j + 1 - wy) (ts ++ [(i, j, z)]) := by
  refine ⟨fun y => ⟨fun t ht => ?_, ?_⟩, fun y => ⟨fun t ht => ?_, ?_⟩⟩
  · rcases List.mem_append.mp ht with x | x
    · have := (h.1 y).1 t x; omega
    · rw [List.mem_singleton.mp x]; simp only; omega
  · rw [List.pairwise_append]
    refine ⟨(h.1 y).2, List.pairwise_singleton _ _, fun a ha b' hb' => ?_⟩
    rw [List.mem_singleton.mp hb']
    exact ((h.1 y).1 a ha).2
  · rcases List.mem_append.mp ht with x | x
    · have := (h.2 y).1 t x; omega
    · rw [List.mem_singleton.mp x]; simp only; omega
  · rw [List.pairwise_append]
    refine ⟨(h.2 y).2, List.pairwise_singleton _ _, fun a ha b' hb' => ?_⟩
    rw [List.mem_singleton.mp hb']
    exact ((h.2 y).1 a ha).2
theorem Kp.free {R F : Addr} {H H1 : Hp} (k : Kp R H H1) (h : H1 F = none) : H F = none ∧ R ≠ F := by
  have n : R ≠ F := fun z => by obtain ⟨y, e⟩ := k.2; rw [z, h] at e; cases e
  refine ⟨?_, n⟩
  cases e : H F with
  | none => rfl
  | some o => rw [k.1 _ _ e n.symm] at h; cases h
def spStraightR : Sp := fun vs H Q _ => ∃ (p : Addr) (rows : List (List Nat)) (r w : Nat) (R : Addr) (x : Int) (ls : List Nat), vs = [.ref p, .ref R, .str (S ls)] ∧ H R = some (.lst [.int x]) ∧ H p = some (.tup (Ts rows)) ∧ Blk r w rows ∧ 1 ≤ r ∧ r ≤ 9 ∧ 1 ≤ w ∧ w ≤ 9 ∧ (∃ i j, i < r ∧ j < w ∧ cell rows i j = 46) ∧ Alph ls ∧
  ∀ (t : Addr) (as : List Addr) (ts : List Trip) (H' : Hp), Kp R H H' → H' t = some (.tup (as.map V.ref)) → LayL H' as ts → (∀ t ∈ ts, inB r w t) → ts ≠ [] → ts.length ≤ 7 → Line2 ts → Q (.ref t) H'
theorem ok_straightR (D : DefAt K mg "_law_straight" s_straight ["_law_rows_here", "_law_rest_here", "_law_letters_here"]) (n_len : mg "len" = none) (n_int : mg "int" = none) (n_tuple : mg "tuple" = none) (D_take : Def P w K mg base "_law_take" 1 ["_law_rest_here", "_law_base"] spTake) (D_starts : Def P w K mg base "_law_starts" 2 ["_law_rows_here", "_law_rest_here"] spStartsR) (D_sign : Def P w K mg base "_law_sign" 2 ["_law_rest_here", "_law_letters_here", "_law_great"] spSignR) : Def P w K mg base "_law_straight" 3 ["_law_rows_here", "_law_rest_here", "_law_letters_here"] spStraightR := by
  refine D.qok sc_straight (fun vs H Q E h => ?_) (fun f cdv A outer s H vs Q E hr h => ?_)
  · obtain ⟨p, rows, r, w, R, x, ls, rfl, _⟩ := h
    rfl
  · obtain ⟨p, rows, r, w, R, x, ls, rfl, hR, hp, hb, r1, r9, w1, w9, hfree, hA, q⟩ := h
    have hln : (Ts rows).length = r := by rw [List.length_map, hb.len]
    have h0 : 0 < rows.length := by rw [hb.len]; omega
    have hw0 : rows[0].length = w := hb.wid _ (List.getElem_mem _)
    have npR : p ≠ R := fun z => by rw [z, hR] at hp; cases hp
    refine ⟨_, (qss_cons (qs_set (i := 3) sc_straight.nd rfl (Or.inl rfl) (qe_own D_take (hr.mono (by decide)) rfl (qa_cons (qv 1) (qa_cons qe_int qa_nil)))) (qss_cons (qs_set (i := 4) sc_straight.nd rfl (Or.inl rfl) (qe_op op_add qe_int (qe_own D_take (hr.mono (by decide)) rfl (qa_cons (qv 1) (qa_cons qe_int qa_nil))))) (qss_cons (qs_asg (qe_own D_starts (hr.mono (by decide)) rfl (qa_cons (qv 0) (qa_cons (qv 1) qa_nil))) (qg_tup rfl (qgs_cons (qg_name (i := 5) sc_straight.nd rfl (Or.inl rfl)) (qgs_cons (qg_name (i := 6) sc_straight.nd rfl (Or.inl rfl)) qgs_nil)))) (qss_cons (qs_set (i := 7) sc_straight.nd rfl (Or.inl rfl) (qe_lst qa_nil)) (qss_cons (qs_set (i := 8) sc_straight.nd rfl (Or.inl rfl) qe_int) (qss_cons (qs_cut (qs_while PassesOwn.never (QW.qt (qw_and (qt_cmpR op_lt (qv 5) (qe_callB call_len_seq (by rfl) n_len PySem.boot_len (qa_cons (qv 0) qa_nil)) (nomark _)) (qw_and (qt_cmpR op_lt (qv 6) (qe_callB call_lenS (by rfl) n_len PySem.boot_len (qa_cons (qe_ix ix_tup (qv 0) qe_int (fun _ _ => rfl)) qa_nil)) (nomark _)) (qw_and1 (qt_cmpR op_lt (qe_callB call_len_seq (by rfl) n_len PySem.boot_len (qa_cons (qv 7) qa_nil)) (qv 4) (nomark _)))))) (qss_cons (qs_cut (qs_if (qt_cmpR op_eqS (qe_ix ix_S (qe_ix ix_tup (qv 0) (qv 5) (fun _ _ => rfl)) (qv 6) (fun _ _ => rfl)) (qe_strS [46] (by decide +kernel)) (nomark _)) (qss_cons (qs_set (i := 9) sc_straight.nd rfl (Or.inl rfl) (qe_own D_sign (hr.mono (by decide)) rfl (qa_cons (qv 1) (qa_cons (qv 2) (qa_cons (qe_cmpR op_lt (qv 8) qe_int (nomark _)) qa_nil))))) (qss_cons (qs_set (i := 8) sc_straight.nd rfl (Or.inl rfl) (qe_op op_add (qv 8) (qe_callTy call_int1 (by rfl) n_int PyProof.Rows.boot_int (qa_cons (qe_cmpR op_neS (qv 9) (qe_bm0 PySem.F.plainAttrs_str PySem.F.slot_str_lower PySem.F.type_str_lower mt_loA (qv 9)) (nomark _)) qa_nil)))) (qss_one (qs_expr (qe_bm PySem.F.plainAttrs_list PySem.F.slot_list_append PySem.F.type_list_append mt_append (qv 7) (qa_cons (qe_tup (qa_cons (qv 5) (qa_cons (qv 6) (qa_cons (qv 9) qa_nil)))) qa_nil)))))) qss_nil)) (qss_cons (qs_set (i := 5) sc_straight.nd rfl (Or.inl rfl) (qe_op op_add (qv 5) (qv 3))) (qss_one (qs_set (i := 6) sc_straight.nd rfl (Or.inl rfl) (qe_op op_sub (qe_op op_add (qv 6) qe_int) (qv 3)))))))) (qss_one (qs_ret (qe_callTy call_tuple_of (by rfl) n_tuple PyProof.Rows.boot_tuple (qa_cons (qv 7) qa_nil)))))))))), ?_⟩
    refine ⟨_, rfl, R, x, 2, rfl, hR, by decide, by decide, fun wy y1 hwy => ?_⟩
    have k1 : Kp R H (upd H R (.lst [.int y1])) := Kp.up y1
    have hR1 : upd H R (.lst [.int y1]) R = some (.lst [.int y1]) := upd_same
    generalize upd H R (.lst [.int y1]) = H1 at k1 hR1 ⊢
    refine ⟨_, rfl, R, y1, 7, rfl, hR1, by decide, by decide, fun md y2 hmd => ?_⟩
    have k2 : Kp R H (upd H1 R (.lst [.int y2])) := k1.trans (Kp.up y2)
    have hR2 : upd H1 R (.lst [.int y2]) R = some (.lst [.int y2]) := upd_same
    generalize upd H1 R (.lst [.int y2]) = H2 at k2 hR2 ⊢
    refine ⟨_, _, rfl, rfl, ?_⟩
    have em : (1 : Int) + (md : Int) = ((1 + md : Nat) : Int) := by omega
    dsimp only
    rw [em]
    have m1 : 1 ≤ 1 + md := by omega
    have m7 : 1 + md ≤ 7 := by omega
    generalize 1 + md = m at m1 m7 ⊢
    refine ⟨_, rfl, _, rfl, p, rows, r, w, R, y2, rfl, hR2, k2.1 _ _ hp npR, hb, r1, r9, w1, w9, hfree, fun t0 i0 j0 H3 k23 ht0 hi0 hj0 hc0 => ?_⟩
    have k3 := k2.trans k23
    refine ⟨t0, _, rfl, SqT.of ht0, rfl, _, _, rfl, _, _, rfl, rfl, ?_⟩
    refine ⟨by show 0 ≤ sizeLine; decide, fun F hF => ?_⟩
    obtain ⟨hF0, nRF⟩ := k3.free hF
    refine ⟨fun σ' H' => ∃ (v5 v6 v8 v9 : Option V) (as : List Addr) (ts : List Trip), σ' = [some (.ref p), some (.ref R), some (.str (S ls)), some (.int wy), some (.int m), v5, v6, some (.ref F), v8, v9] ∧ Kp R H H' ∧ H' F = some (.lst (as.map V.ref)) ∧ LayL H' as ts ∧ (∀ t ∈ ts, inB r w t) ∧ ts ≠ [] ∧ ts.length ≤ 7 ∧ Line2 ts, ?_, ?_⟩
    · refine ⟨fun mm σ H' => ∃ (i j : Nat) (bl : Int) (v9 : Option V) (as : List Addr) (ts : List Trip), σ = [some (.ref p), some (.ref R), some (.str (S ls)), some (.int wy), some (.int m), some (.int i), some (.int j), some (.ref F), some (.int bl), v9] ∧ Kp R H H' ∧ H' F = some (.lst (as.map V.ref)) ∧ LayL H' as ts ∧ (∀ t ∈ ts, inB r w t) ∧ ts.length ≤ m ∧ LineW wy i j ts ∧ ((i = i0 ∧ j = j0 ∧ ts = []) ∨ ts ≠ []) ∧ i ≤ r ∧ j ≤ w ∧ mm = (r + w) - (i + j),
        ⟨_, i0, j0, _, none, [], [], rfl, k3.new hF0 nRF, upd_same, LayL.nil, fun t h => by simp at h, Nat.zero_le _, LineW.nil, .inl ⟨rfl, rfl, rfl⟩, by omega, by omega, rfl⟩, ?_⟩
      rintro mm σ H4 ⟨i, j, bl, v9, as, ts, rfl, k4, hF4, hL, hin, hlen, hlw, hst, hir, hjw, rfl⟩
      have hp4 := k4.1 _ _ hp npR
      have hpS := SqT.of (K := K) hp4
      have hal := hL.len
      have ex : ts ≠ [] → ∃ (v5 v6 v8 w9 : Option V) (as : List Addr) (ts : List Trip), ([some (.ref p), some (.ref R), some (.str (S ls)), some (.int wy), some (.int m), some (.int i), some (.int j), some (.ref F), some (.int bl), v9] : St) = [some (.ref p), some (.ref R), some (.str (S ls)), some (.int wy), some (.int m), v5, v6, some (.ref F), v8, w9] ∧ Kp R H H4 ∧ H4 F = some (.lst (as.map V.ref)) ∧ LayL H4 as ts ∧ (∀ t ∈ ts, inB r w t) ∧ ts ≠ [] ∧ ts.length ≤ 7 ∧ Line2 ts := fun hne =>
        ⟨_, _, _, _, as, ts, rfl, k4, hF4, hL, hin, hne, by omega, hlw.two (by omega)⟩
      refine ⟨_, rfl, _, rfl, p, _, rfl, .inr hpS, _, _, rfl, rfl, _, rfl, ?_⟩
      rw [hln]
      by_cases c1 : (i : Int) < (r : Int)
      · rw [decide_eq_true c1]
        refine iteT ⟨_, rfl, _, rfl, p, _, _, .str (S rows[0]), rfl, rfl, hpS, atI_nat (j := 0) (Ts_at (by simp [h0])), _, rfl, Nat.le_of_lt (small1000 (by omega)), _, _, rfl, rfl, _, rfl, ?_⟩
        rw [hw0]
        by_cases c2 : (j : Int) < (w : Int)
        · rw [decide_eq_true c2]
          refine iteT ⟨_, rfl, F, _, rfl, .inl (SqL.of hF4), _, rfl, _, _, rfl, rfl, _, rfl, ?_⟩
          rw [List.length_map]
          by_cases c3 : (as.length : Int) < (m : Int)
          · rw [decide_eq_true c3]
            have g1 : i < rows.length := by rw [hb.len]; omega
            have hwi : rows[i].length = w := hb.wid _ (List.getElem_mem _)
            have g2 : j < rows[i].length := by omega
            have hce := cell_eq g1 g2
            refine iteT ⟨fun σ' H' => ∃ (bl : Int) (v9 : Option V) (as : List Addr) (ts : List Trip), σ' = [some (.ref p), some (.ref R), some (.str (S ls)), some (.int wy), some (.int m), some (.int ((i + wy : Nat) : Int)), some (.int ((j + 1 - wy : Nat) : Int)), some (.ref F), some (.int bl), v9] ∧ Kp R H H' ∧ H' F = some (.lst (as.map V.ref)) ∧ LayL H' as ts ∧ (∀ t ∈ ts, inB r w t) ∧ ts.length ≤ m ∧ LineW wy (i + wy) (j + 1 - wy) ts ∧ ts ≠ [], ?_, ?_⟩
            · rintro σ' H' ⟨bl, v9, as, ts, rfl, k', hF', hL', hin', hlen', hlw', hne⟩
              exact ⟨(r + w) - (i + wy + (j + 1 - wy)), by omega, i + wy, j + 1 - wy, bl, v9, as, ts, rfl, k', hF', hL', hin', hlen', hlw', .inr hne, by omega, by omega, rfl⟩
            refine ⟨fun σ' H' => ∃ (bl : Int) (v9 : Option V) (as : List Addr) (ts : List Trip), σ' = [some (.ref p), some (.ref R), some (.str (S ls)), some (.int wy), some (.int m), some (.int i), some (.int j), some (.ref F), some (.int bl), v9] ∧ Kp R H H' ∧ H' F = some (.lst (as.map V.ref)) ∧ LayL H' as ts ∧ (∀ t ∈ ts, inB r w t) ∧ ts.length ≤ m ∧ LineW wy (i + wy) (j + 1 - wy) ts ∧ ts ≠ [], ?_, ?_⟩
            · refine ⟨_, rfl, _, rfl, p, _, _, .str (S rows[i]), rfl, rfl, hpS, atI_nat (Ts_at (by simp [g1])), _, rfl, rows[i], _, rows[i][j], rfl, rfl, Nat.le_of_lt (small1000 (by omega)), atI_nat (by simp [g2]), [rows[i][j]], [46], rfl, rfl, _, rfl, ?_⟩
              rw [← hce]
              by_cases hc : cell rows i j = 46
              · rw [decide_eq_true (show [cell rows i j] = [46] by rw [hc])]
                obtain ⟨y4, hR4⟩ := k4.2
                refine iteT ⟨_, rfl, _, rfl, _, rfl, _, _, rfl, rfl, R, y4, ls, _, rfl, hR4, hA, fun z H5 k45 hz => ?_⟩
                have k5 := k4.trans k45
                have hF5 := k45.1 _ _ hF4 nRF.symm
                have hL5 := hL.mvT (k45.tup hR4)
                refine ⟨_, rfl, _, rfl, _, rfl, rfl, [z], rfl, rfl, by show 1 ≤ 1000; decide, fun d hd => by rw [List.mem_singleton.mp hd]; exact hz.lt, _, _, rfl, rfl, .inr ⟨_, rfl, _, _, rfl, rfl, ?_⟩⟩
                refine ⟨_, rfl, .inl ⟨rfl, _, SqL.of hF5⟩, _, rfl, _, rfl, _, rfl, by show 3 ≤ sizeLine; decide, fun b hbn => ?_⟩
                have k6 : Same H5 (upd H5 b (HO.tup [.int i, .int j, .str (S [z])])) := Same.upd hbn
                have hF6 := k6 _ _ hF5
                refine ⟨F, _, _, rfl, rfl, hF6, by rw [List.length_map]; exact small1000 (by omega), ?_⟩
                refine ⟨_, _, as ++ [b], ts ++ [(i, j, z)], rfl, (k5.same k6).new hF0 nRF, by rw [upd_same]; simp, ?_, fun t ht => ?_, by rw [List.length_append]; simp; omega, hlw.snoc, by simp⟩
                · exact ((hL5.mv k6).snoc (t := (i, j, z)) upd_same).mvT (tupL hF6)
                · rcases List.mem_append.mp ht with y | y
                  · exact hin t y
                  · rw [List.mem_singleton.mp y]; exact ⟨by show i < r; omega, by show j < w; omega, hz⟩
              · rw [decide_eq_false (show ¬ [cell rows i j] = [46] from fun z => hc (by injection z))]
                refine iteF ⟨bl, v9, as, ts, rfl, k4, hF4, hL, hin, hlen, hlw.step, ?_⟩
                rcases hst with ⟨z1, z2, _⟩ | z
                · rw [z1, z2] at hc; exact absurd hc0 hc
                · exact z
            · rintro σ' H' ⟨bl, v9, as, ts, rfl, k', hF', hL', hin', hlen', hlw', hne⟩
              refine ⟨_, rfl, _, rfl, _, _, rfl, rfl, ?_⟩
              refine ⟨_, rfl, _, _, rfl, rfl, _, rfl, _, _, rfl, rfl, ?_⟩
              refine ⟨bl, v9, as, ts, ?_, k', hF', hL', hin', hlen', hlw', hne⟩
              rw [show ((i + wy : Nat) : Int) = (i : Int) + (wy : Int) by omega, show ((j + 1 - wy : Nat) : Int) = (j : Int) + 1 - (wy : Int) by omega]
              rfl
          · rw [decide_eq_false c3]
            refine iteF (ex ?_)
            rcases hst with ⟨_, _, z⟩ | z
            · rw [z] at hal
              have : as.length = 0 := hal
              omega
            · exact z
        · rw [decide_eq_false c2]
          refine iteF (iteF (ex ?_))
          rcases hst with ⟨_, z, _⟩ | z
          · omega
          · exact z
      · rw [decide_eq_false c1]
        refine iteF (iteF (ex ?_))
        rcases hst with ⟨z, _, _⟩ | z
        · omega
        · exact z
    · rintro σ' H' ⟨v5, v6, v8, v9, as, ts, rfl, k', hF2, hL, hin, hne, h7, hline⟩
      refine ⟨_, rfl, F, _, rfl, .inl ⟨SqL.of hF2, fun T hT => ?_⟩⟩
      have k : Same H' (upd H' T (HO.tup (as.map V.ref))) := Same.upd hT
      exact q T as ts _ (k'.same k) upd_same (hL.mv k) hin hne h7 hline

end
end My
end

section
set_option Elab.async false
set_option linter.all false
set_option maxRecDepth 100000
set_option maxHeartbeats 2000000
namespace My
open PySem L2
section
variable {P : Program} {w : World} {K : PySem.W.Frag} {mg : Str → Option Value} {base : Heap}
def spGrid : Sp := fun vs H Q _ => ∃ (pr t : Addr) (as : List Addr) (ts : List Trip) (r w : Nat) (rows : List (List Nat)), vs = [.ref pr, .ref t] ∧ H pr = some (.tup (Ts rows)) ∧ Blk r w rows ∧ r ≤ 9 ∧ w ≤ 9 ∧ H t = some (.tup (as.map V.ref)) ∧ LayL H as ts ∧ (∀ t ∈ ts, inB r w t) ∧
  ∀ (M : Addr) (ps : List Addr) (H' : Hp), Same H H' → H' M = some (.lst (ps.map V.ref)) → LinesAt H H' ps (laidF rows ts) → Q (.ref M) H'
theorem ok_grid (D : DefAt K mg "_law_grid" s_grid ["_law_rows_here", "_law_laying"]) (n_list : mg "list" = none) : Def P w K mg base "_law_grid" 1 ["_law_rows_here", "_law_laying"] spGrid := by
  refine D.qok sc_grid (fun vs H Q E h => ?_) (fun f cdv A outer s H vs Q E hr h => ?_)
  · obtain ⟨pr, t, as, ts, r, w, rows, rfl, _⟩ := h
    rfl
  · obtain ⟨pr, t, as, ts, r, w, rows, rfl, hpr, hbr, r9, w9, ht, hL, hin, q⟩ := h
    refine ⟨_, (qss_cons (qs_setG (ix := 2) (ns := ["_law_row"]) sc_grid.nd rfl (Or.inl rfl) rfl (CompG.of ["_law_rows_here", "_law_laying", "_law_grid_here", ".3", "_law_column", "_law_sign_here"] [3] (by kernel_rfl)) (qi_tup (qv 0)) (fun _ _ _ _ _ => (tg_name (show (["_law_row", "_law_rows_here", "_law_laying", "_law_grid_here", ".3", "_law_column", "_law_sign_here"] : List Str).Nodup by decide +kernel) rfl (by rfl))) (fun _ _ _ _ _ => qts_nil) (fun _ _ _ _ _ => (qe_callTy (call_listS rfl) (by rfl) n_list PyProof.Rows.boot_list (qa_cons (qv 0) qa_nil)))) (qss_cons (qs_for PassesOwn.never rfl (qi_tup (qv 1)) (qg_tup rfl (qgs_cons (qg_name (i := 3) sc_grid.nd rfl (Or.inl rfl)) (qgs_cons (qg_name (i := 4) sc_grid.nd rfl (Or.inl rfl)) (qgs_cons (qg_name (i := 5) sc_grid.nd rfl (Or.inl rfl)) qgs_nil)))) (qss_one (qs_asg (qv 5) (qg_sub (qe_ix ix_list (qv 2) (qv 3) (fun _ _ => rfl)) (qv 4) set_list)))) (qss_one (qs_ret (qv 2))))), ?_⟩
    refine ⟨_, rfl, pr, rfl, ⟨_, SqT.of hpr⟩, fun M hM => compG1_tup (f := hideS [3] 0) (tt := tYes) (xs := Ts rows) (fun i ys H2 => ∃ ps : List Addr, ys = ps.map V.ref ∧ H2 M = some (.lst ys) ∧ Same H H2 ∧ LinesAt H H2 ps (rows.take i) ∧ M ∉ ps)
      ⟨[], rfl, upd_same, Same.upd hM, ⟨by simp, List.nodup_nil, fun p h => by simp at h, fun i h => by simp at h⟩, by simp⟩ (fun i ys H2 _ h => by obtain ⟨_, _, _, sm, _⟩ := h; exact SqT.of (sm _ _ hpr)) ?_ ?_⟩
    · rintro i x ys H2 hi ⟨ps, rfl, hM2, sm, hLn, nM⟩
      obtain ⟨l, hl, rfl⟩ := Ts_get hi
      have hil : i < (Ts rows).length := (List.getElem?_eq_some_iff.mp hi).1
      have hlw : l.length = w := hbr.wid _ (List.mem_of_getElem? hl)
      have hln : (Ts rows).length = r := by rw [List.length_map, hbr.len]
      have hpl : ps.length ≤ 9 := by rw [hLn.len, List.length_take, hbr.len]; omega
      refine turn1 ⟨_, rfl, l, rfl, by omega, fun c hc => ?_⟩
      have ncM : M ≠ c := fun z => by rw [← z, hM2] at hc; cases hc
      have ncp : c ∉ ps := fun z => by
        obtain ⟨k, hk, e⟩ := List.mem_iff_getElem.mp z
        have := hLn.at_ k hk
        rw [e, hc] at this
        cases this
      refine ⟨by rw [upd_ne ncM]; exact hM2, by rw [List.length_map]; exact small1000 (by omega), Nxt.mk hil ⟨ps ++ [c], by simp, upd_same, (sm.upd' (sm.free hc)).upd' hM, ?_, ?_⟩⟩
      · rw [show rows.take (i + 1) = rows.take i ++ [l] by rw [List.take_add_one, hl]; rfl]
        refine LinesAt.mv ((hLn.mvS (Same.upd hc)).snoc ncp (sm.free hc) upd_same) fun y hy => upd_ne fun z => ?_
        rcases List.mem_append.mp hy with u | u
        · exact nM (z ▸ u)
        · exact ncM (z.symm.trans (List.mem_singleton.mp u))
      · intro z
        rcases List.mem_append.mp z with u | u
        · exact nM u
        · exact ncM (List.mem_singleton.mp u)
    · rintro ys H2 ⟨ps, rfl, hM2, sm, hLn, nM⟩
      rw [List.take_of_length_le (by rw [List.length_map]; exact Nat.le_refl _)] at hLn
      refine ⟨_, rfl, t, rfl, ⟨_, SqT.of (sm _ _ ht)⟩, for_tup (K := K) (a := t) (xs := as.map V.ref) (fun i σ H3 => ∃ v3 v4 v5 : Option V, σ = [some (.ref pr), some (.ref t), some (.ref M), v3, v4, v5] ∧ Same H H3 ∧ H3 M = some (.lst (ps.map V.ref)) ∧ LinesAt H H3 ps (laidF rows (ts.take i)))
        ⟨none, none, none, rfl, sm, hM2, hLn⟩ (fun i σ H3 _ h => by obtain ⟨_, _, _, _, sm, _⟩ := h; exact SqT.of (sm _ _ ht)) ?_ ?_⟩
      · rintro i x σ H3 hx' ⟨v3, v4, v5, rfl, sm3, hM3, hLn3⟩
        rw [List.getElem?_map] at hx'
        have hi : i < as.length := by
          rcases Nat.lt_or_ge i as.length with z | z
          · exact z
          · rw [List.getElem?_eq_none z] at hx'; cases hx'
        rw [List.getElem?_eq_getElem hi] at hx'
        have hx' : V.ref as[i] = x := Option.some.inj hx'
        subst hx'
        obtain ⟨u, eu, hU⟩ := hL.get hi
        have hum := List.mem_of_getElem? eu
        obtain ⟨u1, u2, u3⟩ := hin u hum
        have hb3 : Blk r w (laidF rows (ts.take i)) := laid_blk hbr fun y hy => hin y (List.mem_of_mem_take hy)
        have hpl : ps.length = r := by rw [hLn3.len, hb3.len]
        have hps : u.1 < ps.length := by omega
        refine ⟨as[i], _, rfl, SqT.of (sm3 _ _ hU), rfl, _, _, rfl, _, _, rfl, _, _, rfl, rfl, ?_⟩
        refine ⟨_, rfl, _, rfl, _, rfl, M, _, _, .ref ps[u.1], rfl, rfl, SqL.of hM3, atI_nat (by simp [hps]), _, rfl, ps[u.1], _, _, u.2.1, rfl, rfl, hLn3.at_ u.1 hps, ?_, ?_⟩
        · have : ((laidF rows (ts.take i)).getD u.1 []).length = w := by
            rw [List.getD_eq_getElem?_getD, List.getElem?_eq_getElem (by rw [hb3.len]; exact u1)]
            exact hb3.wid _ (List.getElem_mem _)
          unfold ixN
          rw [List.length_map, List.length_map, this, if_pos (by omega), if_pos (by omega)]
          congr 1
        · refine ⟨_, _, _, rfl, sm3.upd' (hLn3.fr _ (List.getElem_mem _)), ?_, ?_⟩
          · have ne : M ≠ ps[u.1] := fun z => nM (by rw [z]; exact List.getElem_mem _)
            rw [upd_ne ne]; exact hM3
          · rw [show laidF rows (ts.take (i + 1)) = setAt (laidF rows (ts.take i)) u.1 u.2.1 u.2.2 by rw [List.take_add_one, eu]; exact laid_snoc _ _ _]
            exact hLn3.set hps
      · rintro σ H3 ⟨v3, v4, v5, rfl, sm3, hM3, hLn3⟩
        rw [List.take_of_length_le (by rw [List.length_map, hL.len]; exact Nat.le_refl _)] at hLn3
        have B' := laid_blk hbr hin
        have hpl : ps.length = r := by rw [hLn3.len, B'.len]
        exact ⟨_, rfl, q M ps H3 sm3 hM3 hLn3⟩
theorem tail_low {l : List Nat} {k low : Nat} (h1 : low ≤ k) (hk : k ≤ l.length) (h2 : ∀ m, low ≤ m → m < k → l[m]? ≠ some 46) (h3 : low = 0 ∨ l[low - 1]? = some 46) : tailF (l.take k) = (l.take k).drop low := by
  rcases h3 with e | e
  · subst e
    rw [List.drop_zero]
    refine tailF_all fun hm => ?_
    obtain ⟨m, hm⟩ := List.mem_iff_getElem?.mp hm
    have hmk : m < (l.take k).length := (List.getElem?_eq_some_iff.mp hm).1
    rw [List.length_take] at hmk
    exact h2 m (by omega) (by omega) (by rw [List.getElem?_take, if_pos (by omega)] at hm; exact hm)
  · by_cases h0 : low = 0
    · subst h0
      rw [List.drop_zero]
      refine tailF_all fun hm => ?_
      obtain ⟨m, hm⟩ := List.mem_iff_getElem?.mp hm
      have hmk : m < (l.take k).length := (List.getElem?_eq_some_iff.mp hm).1
      rw [List.length_take] at hmk
      exact h2 m (by omega) (by omega) (by rw [List.getElem?_take, if_pos (by omega)] at hm; exact hm)
    · have := tailF_at (l := l.take k) (i := low - 1) (by rw [List.getElem?_take, if_pos (by omega)]; exact e) (fun m hm z => by
        have hmk : m < (l.take k).length := (List.getElem?_eq_some_iff.mp z).1
        rw [List.length_take] at hmk
        rw [List.getElem?_take, if_pos (by omega)] at z
        exact h2 m (by omega) (by omega) z)
      rw [this, show low - 1 + 1 = low by omega]
theorem head_high {l : List Nat} {k high : Nat} (h1 : k ≤ high) (hk : high ≤ l.length) (h2 : ∀ m, k ≤ m → m < high → l[m]? ≠ some 46) (h3 : high = l.length ∨ l[high]? = some 46) : headF (l.drop k) = (l.drop k).take (high - k) := by
  rcases h3 with e | e
  · rw [List.take_of_length_le (by rw [List.length_drop]; omega)]
    refine headF_all fun hm => ?_
    obtain ⟨m, hm⟩ := List.mem_iff_getElem?.mp hm
    have hmk : m < (l.drop k).length := (List.getElem?_eq_some_iff.mp hm).1
    rw [List.length_drop] at hmk
    rw [List.getElem?_drop] at hm
    exact h2 (k + m) (by omega) (by omega) hm
  · refine headF_at (by rw [List.getElem?_drop, show k + (high - k) = high by omega]; exact e) fun m hm z => ?_
    rw [List.getElem?_drop] at z
    exact h2 (k + m) (by omega) (by omega) z
theorem run_cut {l : List Nat} {k low high : Nat} (a1 : low ≤ k) (a2 : k ≤ high) (a3 : high ≤ l.length) (b1 : tailF (l.take k) = (l.take k).drop low) (b2 : headF (l.drop k) = (l.drop k).take (high - k)) :
    tailF (l.take k) ++ headF (l.drop k) = (l.drop low).take (high - low) ∧ (tailF (l.take k)).length = k - low := by
  constructor
  · rw [b1, b2, List.drop_take, show high - low = (k - low) + (high - k) by omega, List.take_add, List.drop_drop, show low + (k - low) = k by omega]
  · rw [b1, List.length_drop, List.length_take]; omega
abbrev Quad := Nat × Nat × Nat × List Nat
def QuadAt (H : Hp) (a : Addr) (q : Quad) : Prop := H a = some (.tup [.int q.1, .int q.2.1, .int q.2.2.1, .str (S q.2.2.2)])
def quad (R : List (List Nat)) (i j wy : Nat) : Quad :=
  (if wy = 0 then i else i - (tailF ((lineOf R i j (wy : Int)).take i)).length, if wy = 0 then j - (tailF ((lineOf R i j (wy : Int)).take j)).length else j, wy, tailF ((lineOf R i j (wy : Int)).take (placeOf i j (wy : Int))) ++ headF ((lineOf R i j (wy : Int)).drop (placeOf i j (wy : Int))))
def rwo (wy i x : Nat) : Nat := if wy = 0 then i else x
def clo (wy j x : Nat) : Nat := if wy = 0 then x else j
theorem line_cell {r w : Nat} {R : List (List Nat)} (hb : Blk r w R) {i j wy x : Nat} (hi : i < r) (hx : x < (lineOf R i j (wy : Int)).length) : cell R (rwo wy i x) (clo wy j x) = (lineOf R i j (wy : Int))[x] := by
  unfold rwo clo
  by_cases h : wy = 0
  · subst h
    rw [if_pos rfl, if_pos rfl]
    have hx' : x < (R.getD i []).length := hx
    have h1 : (R.getD i []).getD x 0 = (R.getD i [])[x] := by rw [List.getD_eq_getElem?_getD (l := R.getD i []), List.getElem?_eq_getElem hx']; rfl
    exact h1
  · rw [if_neg h, if_neg h]
    have e : lineOf R i j (wy : Int) = colOf R j := if_neg (by omega)
    have hx' : x < (colOf R j).length := by rw [← e]; exact hx
    have : (lineOf R i j (wy : Int))[x] = (colOf R j)[x] := by simp only [e]
    rw [this]
    unfold colOf at hx' ⊢
    rw [List.length_map] at hx'
    rw [List.getElem_map]
    unfold cell
    rw [List.getD_eq_getElem?_getD (l := R), List.getElem?_eq_getElem hx']
    rfl
theorem lines_item {H0 H : Hp} {ps : List Addr} {R : List (List Nat)} {r w a b : Nat} (h : LinesAt H0 H ps R) (hb : Blk r w R) (ha : a < r) (hbw : b < w) : ∃ (hp : a < ps.length), H ps[a] = some (.lst (Ts (ones (R.getD a [])))) ∧ (Ts (ones (R.getD a [])))[b]? = some (.str (S [cell R a b])) ∧ (Ts (ones (R.getD a []))).length = w := by
  have hp : a < ps.length := by rw [h.len, hb.len]; exact ha
  have hra : a < R.length := by rw [hb.len]; exact ha
  have hg : R.getD a [] = R[a] := by rw [List.getD_eq_getElem?_getD, List.getElem?_eq_getElem hra]; rfl
  have hl : R[a].length = w := hb.wid _ (List.getElem_mem _)
  refine ⟨hp, h.at_ a hp, ?_, by rw [List.length_map, List.length_map, hg, hl]⟩
  have hbl : b < R[a].length := by omega
  rw [hg, cell_eq hra hbl]
  simp [Ts, ones, hbl]
def spRunL (K : PySem.W.Frag) : Sp := fun vs H Q _ => ∃ (M : Addr) (H0 : Hp) (ps : List Addr) (R : List (List Nat)) (r w i j wy : Nat), vs = [.ref M, .int i, .int j, .int wy] ∧ H M = some (.lst (ps.map V.ref)) ∧ LinesAt H0 H ps R ∧ Blk r w R ∧ r ≤ 9 ∧ w ≤ 9 ∧ i < r ∧ j < w ∧ wy ≤ 1 ∧
  ∀ (t : Addr) (H' : Hp), Same H H' → QuadAt H' t (quad R i j wy) → Q (.ref t) H'
theorem ok_law_run (D : DefAt K mg "_law_run" s_run ["_law_grid_here", "_law_row", "_law_column", "_law_way"]) (n_len : mg "len" = none) : Def P w K mg base "_law_run" 1 ["_law_grid_here", "_law_row", "_law_column", "_law_way"] (spRunL K) := by
  refine D.qok sc_run (fun vs H Q E h => ?_) (fun f cdv A outer s H vs Q E hr h => ?_)
  · obtain ⟨M, H0, ps, R, r, w, i, j, wy, rfl, _⟩ := h
    rfl
  · obtain ⟨M, H0, ps, R, r, w, i, j, wy, rfl, hM, hLn, hb, r9, w9, hi, hj, hwy, q⟩ := h
    have hll := lineOf_len hb hi (j := j) (way := (wy : Int))
    have hk : placeOf i j (wy : Int) < (lineOf R i j (wy : Int)).length := by
      rw [hll]; unfold placeOf
      split <;> assumption
    have hl9 : (lineOf R i j (wy : Int)).length ≤ 9 := by rw [hll]; split <;> assumption
    have hcell := fun x (hx : x < (lineOf R i j (wy : Int)).length) => line_cell hb hi (j := j) (wy := wy) hx
    have hq : QuadAt = QuadAt := rfl
    have hkw : placeOf i j (wy : Int) = if wy = 0 then j else i := by
      unfold placeOf
      by_cases z : wy = 0
      · rw [if_pos z, if_pos (by omega)]
      · rw [if_neg z, if_neg (by omega)]
    have hlw : (lineOf R i j (wy : Int)).length = if wy = 0 then w else r := by
      rw [hll]
      by_cases z : wy = 0
      · rw [if_pos z, if_pos (by omega)]
      · rw [if_neg z, if_neg (by omega)]
    have hquad : ∀ k low : Nat, k = placeOf i j (wy : Int) → low + (tailF ((lineOf R i j (wy : Int)).take k)).length = k → quad R i j wy = (rwo wy i low, clo wy j low, wy, tailF ((lineOf R i j (wy : Int)).take k) ++ headF ((lineOf R i j (wy : Int)).drop k)) := by
      intro k low ek hlow
      unfold quad rwo clo
      rw [← ek]
      rw [hkw] at ek
      by_cases z : wy = 0
      · rw [if_pos z] at ek
        subst ek
        rw [if_pos z, if_pos z, if_pos z, if_pos z, show k - (tailF ((lineOf R i k (wy : Int)).take k)).length = low by omega]
      · rw [if_neg z] at ek
        subst ek
        rw [if_neg z, if_neg z, if_neg z, if_neg z, show k - (tailF ((lineOf R k j (wy : Int)).take k)).length = low by omega]
    generalize hLL : lineOf R i j (wy : Int) = l at hk hl9 hcell hlw hquad
    generalize hKK : placeOf i j (wy : Int) = k at hk hkw hquad
    have hquad := hquad k
    have hz : ∀ n, n ≤ 100 → n ≤ sizeLine := fun n h => Nat.le_of_lt (small1000 (by omega))
    have hpl : ps.length = r := by rw [hLn.len, hb.len]
    have rr : ∀ x, x < l.length → rwo wy i x < r := fun x hx => by
      unfold rwo; split
      · exact hi
      · rw [hlw, if_neg (by assumption)] at hx; exact hx
    have cc : ∀ x, x < l.length → clo wy j x < w := fun x hx => by
      unfold clo; split
      · rw [hlw, if_pos (by assumption)] at hx; exact hx
      · exact hj
    refine ⟨_, (qss_cons (qs_cut (qs_while PassesOwn.never (QW.qt (qw_and (qt_cmpR op_ge (qv 1) (qv 3) (nomark _)) (qw_and (qt_cmpR op_ge (qv 2) (qe_op op_sub qe_int (qv 3)) (nomark _)) (qw_and1 (qt_cmpR op_neS (qe_ix ix_list (qe_ix ix_list (qv 0) (qe_op op_sub (qv 1) (qv 3)) (fun _ _ => rfl)) (qe_op op_add (qe_op op_sub (qv 2) qe_int) (qv 3)) (fun _ _ => rfl)) (qe_strS [46] (by decide +kernel)) (nomark _)))))) (qss_cons (qs_set (i := 1) sc_run.nd rfl (Or.inl rfl) (qe_op op_sub (qv 1) (qv 3))) (qss_one (qs_set (i := 2) sc_run.nd rfl (Or.inl rfl) (qe_op op_add (qe_op op_sub (qv 2) qe_int) (qv 3))))))) (qss_cons (qs_set (i := 4) sc_run.nd rfl (Or.inl rfl) (qe_strS [] (by decide +kernel))) (qss_cons (qs_set (i := 5) sc_run.nd rfl (Or.inl rfl) (qe_tup (qa_cons (qv 1) (qa_cons (qv 2) qa_nil)))) (qss_cons (qs_cut (qs_while PassesOwn.never (QW.qt (qw_and (qt_cmpR op_lt (qe_ix ix_tup (qv 5) qe_int (fun _ _ => rfl)) (qe_callB call_len_seq (by rfl) n_len PySem.boot_len (qa_cons (qv 0) qa_nil)) (nomark _)) (qw_and (qt_cmpR op_lt (qe_ix ix_tup (qv 5) qe_int (fun _ _ => rfl)) (qe_callB call_len_seq (by rfl) n_len PySem.boot_len (qa_cons (qe_ix ix_list (qv 0) qe_int (fun _ _ => rfl)) qa_nil)) (nomark _)) (qw_and1 (qt_cmpR op_neS (qe_ix ix_list (qe_ix ix_list (qv 0) (qe_ix ix_tup (qv 5) qe_int (fun _ _ => rfl)) (fun _ _ => rfl)) (qe_ix ix_tup (qv 5) qe_int (fun _ _ => rfl)) (fun _ _ => rfl)) (qe_strS [46] (by decide +kernel)) (nomark _)))))) (qss_cons (qs_set (i := 4) sc_run.nd rfl (Or.inl rfl) (qe_op op_addS (qv 4) (qe_ix ix_list (qe_ix ix_list (qv 0) (qe_ix ix_tup (qv 5) qe_int (fun _ _ => rfl)) (fun _ _ => rfl)) (qe_ix ix_tup (qv 5) qe_int (fun _ _ => rfl)) (fun _ _ => rfl)))) (qss_one (qs_set (i := 5) sc_run.nd rfl (Or.inl rfl) (qe_tup (qa_cons (qe_op op_add (qe_ix ix_tup (qv 5) qe_int (fun _ _ => rfl)) (qv 3)) (qa_cons (qe_op op_sub (qe_op op_add (qe_ix ix_tup (qv 5) qe_int (fun _ _ => rfl)) qe_int) (qv 3)) qa_nil)))))))) (qss_one (qs_ret (qe_tup (qa_cons (qv 1) (qa_cons (qv 2) (qa_cons (qv 3) (qa_cons (qv 4) qa_nil))))))))))), ?_⟩
    have hM' : SqL K H M (ps.map V.ref) := SqL.of hM
    refine ⟨fun σ H' => H' = H ∧ ∃ low : Nat, low ≤ k ∧ σ = [some (.ref M), some (.int (rwo wy i low)), some (.int (clo wy j low)), some (.int wy), none, none] ∧ (∀ x, low ≤ x → x < k → l[x]? ≠ some 46) ∧ (low = 0 ∨ l[low - 1]? = some 46), ?_, ?_⟩
    · refine ⟨fun m σ H' => H' = H ∧ m ≤ k ∧ σ = [some (.ref M), some (.int (rwo wy i m)), some (.int (clo wy j m)), some (.int wy), none, none] ∧ ∀ x, m ≤ x → x < k → l[x]? ≠ some 46, ⟨k, rfl, Nat.le_refl _, ?_, fun x h1 h2 => by omega⟩, ?_⟩
      · unfold rwo clo
        by_cases z : wy = 0
        · rw [if_pos z, if_pos z, hkw, if_pos z]; rfl
        · rw [if_neg z, if_neg z, hkw, if_neg z]; rfl
      rintro m σ H' ⟨rfl, hm, rfl, hx⟩
      have fin0 : m = 0 → H' = H' ∧ ∃ low : Nat, low ≤ k ∧ ([some (.ref M), some (.int (rwo wy i m)), some (.int (clo wy j m)), some (.int wy), none, none] : St) = [some (.ref M), some (.int (rwo wy i low)), some (.int (clo wy j low)), some (.int wy), none, none] ∧ (∀ x, low ≤ x → x < k → l[x]? ≠ some 46) ∧ (low = 0 ∨ l[low - 1]? = some 46) := fun z => ⟨rfl, m, hm, rfl, hx, .inl z⟩
      refine ⟨_, rfl, _, rfl, _, _, rfl, rfl, _, rfl, ite2 (fun hc1 => ?_) (fun hc1 => ?_)⟩
      · refine ⟨_, rfl, _, rfl, _, _, rfl, rfl, _, _, rfl, rfl, _, rfl, ite2 (fun hc2 => ?_) (fun hc2 => ?_)⟩
        · have d1 : (wy : Int) ≤ (rwo wy i m : Int) := of_decide_eq_true hc1
          have d2 : 1 - (wy : Int) ≤ (clo wy j m : Int) := of_decide_eq_true hc2
          have hm0 : 0 < m := by
            unfold rwo at d1
            unfold clo at d2
            by_cases z : wy = 0
            · rw [if_pos z] at d2; omega
            · rw [if_neg z] at d1; omega
          have hm1 : m - 1 < l.length := by omega
          obtain ⟨g1, g2, g3, _⟩ := lines_item hLn hb (rr (m - 1) hm1) (cc (m - 1) hm1)
          have er : (rwo wy i m : Int) - (wy : Int) = (rwo wy i (m - 1) : Int) := by
            unfold rwo
            by_cases z : wy = 0
            · rw [if_pos z, if_pos z]; omega
            · rw [if_neg z, if_neg z]; omega
          have ec : (clo wy j m : Int) - 1 + (wy : Int) = (clo wy j (m - 1) : Int) := by
            unfold clo
            by_cases z : wy = 0
            · rw [if_pos z, if_pos z]; omega
            · rw [if_neg z, if_neg z]; omega
          refine ⟨_, rfl, _, rfl, _, rfl, _, _, rfl, rfl, M, _, _, .ref ps[rwo wy i (m - 1)], rfl, rfl, hM', by show atI _ ((rwo wy i m : Int) - (wy : Int)) = _; rw [er]; exact atI_nat (by simp [g1]), _, rfl, _, _, rfl, rfl, _, rfl, _, _, rfl, rfl, ps[rwo wy i (m - 1)], _, _, .str (S [cell R (rwo wy i (m - 1)) (clo wy j (m - 1))]), rfl, rfl, SqL.of g2, by show atI _ ((clo wy j m : Int) - 1 + (wy : Int)) = _; rw [ec]; exact atI_nat g3, _, _, rfl, rfl, _, rfl, ?_⟩
          rw [hcell _ hm1]
          by_cases hne : l[m - 1] = 46
          · rw [decide_eq_true (show [l[m - 1]] = [46] by rw [hne])]
            exact iteF ⟨rfl, m, hm, rfl, hx, .inr (by rw [List.getElem?_eq_getElem hm1, hne])⟩
          · rw [decide_eq_false (show ¬ [l[m - 1]] = [46] by simpa using hne)]
            refine iteT ⟨fun σ H4 => H4 = H' ∧ σ = [some (.ref M), some (.int (rwo wy i (m - 1))), some (.int (clo wy j (m - 1))), some (.int wy), none, none], fun σ' H'' ⟨e1, e2⟩ => ⟨m - 1, by omega, e1, by omega, e2, fun x h1 h2 => ?_⟩, ?_⟩
            · by_cases hx2 : x = m - 1
              · subst hx2; rw [List.getElem?_eq_getElem hm1]; simpa using hne
              · exact hx x (by omega) h2
            · refine ⟨_, rfl, _, rfl, _, _, rfl, rfl, _, rfl, _, _, rfl, rfl, _, rfl, _, _, rfl, rfl, rfl, ?_⟩
              rw [← er, ← ec]
              rfl
        · refine iteF (fin0 ?_)
          have d2 : ¬ 1 - (wy : Int) ≤ (clo wy j m : Int) := fun z => hc2 (decide_eq_true z)
          unfold clo at d2
          by_cases z : wy = 0
          · rw [if_pos z] at d2; omega
          · rw [if_neg z] at d2; omega
      · refine iteF (fin0 ?_)
        have d1 : ¬ (wy : Int) ≤ (rwo wy i m : Int) := fun z => hc1 (decide_eq_true z)
        unfold rwo at d1
        by_cases z : wy = 0
        · rw [if_pos z] at d1; omega
        · rw [if_neg z] at d1; omega
    rintro σ H' ⟨rfl, low, hlk, rfl, hx, hlow⟩
    have etail := tail_low hlk (by omega) hx hlow
    refine ⟨_, rfl, _, rfl, by show 2 ≤ sizeLine; decide, fun t0 ht0 => ?_⟩
    have k0 : Same H' (upd H' t0 (HO.tup [.int (rwo wy i low), .int (clo wy j low)])) := Same.upd ht0
    refine ⟨fun σ H'' => Same H' H'' ∧ ∃ v5 : Option V, σ = [some (.ref M), some (.int (rwo wy i low)), some (.int (clo wy j low)), some (.int wy), some (.str (S (tailF (l.take k) ++ headF (l.drop k)))), v5], ?_, ?_⟩
    · refine ⟨fun m σ H'' => ∃ (hg : Nat) (t : Addr), low ≤ hg ∧ hg ≤ l.length ∧ m = l.length - hg ∧ Same H' H'' ∧ H'' t = some (.tup [.int (rwo wy i hg), .int (clo wy j hg)]) ∧ σ = [some (.ref M), some (.int (rwo wy i low)), some (.int (clo wy j low)), some (.int wy), some (.str (S ((l.drop low).take (hg - low)))), some (.ref t)] ∧ ∀ x, low ≤ x → x < hg → l[x]? ≠ some 46,
        ⟨_, low, t0, Nat.le_refl _, by omega, rfl, k0, upd_same, by rw [Nat.sub_self]; rfl, fun x h1 h2 => by omega⟩, ?_⟩
      rintro m σ H2 ⟨hg, t, h1, h2, rfl, sm, ht, rfl, hy⟩
      have hS := SqT.of (K := K) ht
      have hM2 := SqL.of (K := K) (sm _ _ hM)
      have hLn2 := hLn.mvS sm
      have ex : (hg = l.length ∨ l[hg]? = some 46) → Same H' H2 ∧ ∃ v5 : Option V, ([some (.ref M), some (.int (rwo wy i low)), some (.int (clo wy j low)), some (.int wy), some (.str (S ((l.drop low).take (hg - low)))), some (.ref t)] : St) = [some (.ref M), some (.int (rwo wy i low)), some (.int (clo wy j low)), some (.int wy), some (.str (S (tailF (l.take k) ++ headF (l.drop k)))), v5] := fun hend => by
        have hkg : k ≤ hg := by
          rcases Nat.lt_or_ge hg k with z | z
          · rcases hend with e | e
            · omega
            · exact absurd e (hx hg h1 z)
          · exact z
        obtain ⟨c1, _⟩ := run_cut hlk hkg h2 etail (head_high hkg h2 (fun x a b => hy x (by omega) b) hend)
        exact ⟨sm, _, by rw [c1]⟩
      have hlz : l.length - 0 = l.length := rfl
      obtain ⟨gz, gz1, _, gz2⟩ := lines_item hLn2 hb (show 0 < r by omega) (show 0 < w by omega)
      refine ⟨_, rfl, t, _, _, _, rfl, rfl, hS, atI_nat (j := 0) rfl, _, rfl, M, _, rfl, .inl hM2, _, _, rfl, rfl, _, rfl, ite2 (fun hc1 => ?_) (fun hc1 => ?_)⟩
      · refine ⟨_, rfl, t, _, _, _, rfl, rfl, hS, atI_nat (j := 1) rfl, _, rfl, M, _, _, .ref ps[0], rfl, rfl, hM2, atI_nat (j := 0) (by simp [gz]), ps[0], _, rfl, .inl (SqL.of gz1), _, _, rfl, rfl, _, rfl, ite2 (fun hc2 => ?_) (fun hc2 => ?_)⟩
        · have d1 : (rwo wy i hg : Int) < ((ps.map V.ref).length : Int) := of_decide_eq_true hc1
          have d2 : (clo wy j hg : Int) < ((Ts (ones (R.getD 0 []))).length : Int) := of_decide_eq_true hc2
          rw [List.length_map, hpl] at d1
          rw [gz2] at d2
          have hgl : hg < l.length := by
            rw [hlw]
            unfold rwo at d1
            unfold clo at d2
            by_cases z : wy = 0
            · rw [if_pos z] at d2 ⊢; omega
            · rw [if_neg z] at d1 ⊢; omega
          obtain ⟨g1, g2, g3, _⟩ := lines_item hLn2 hb (rr hg hgl) (cc hg hgl)
          refine ⟨_, rfl, _, rfl, t, _, _, _, rfl, rfl, hS, atI_nat (j := 0) rfl, M, _, _, .ref ps[rwo wy i hg], rfl, rfl, hM2, atI_nat (by simp [g1]), _, rfl, t, _, _, _, rfl, rfl, hS, atI_nat (j := 1) rfl, ps[rwo wy i hg], _, _, .str (S [cell R (rwo wy i hg) (clo wy j hg)]), rfl, rfl, SqL.of g2, atI_nat g3, _, _, rfl, rfl, _, rfl, ?_⟩
          rw [hcell _ hgl]
          by_cases hne : l[hg] = 46
          · rw [decide_eq_true (show [l[hg]] = [46] by rw [hne])]
            exact iteF (ex (.inr (by rw [List.getElem?_eq_getElem hgl, hne])))
          · rw [decide_eq_false (show ¬ [l[hg]] = [46] by simpa using hne)]
            have er : (rwo wy i hg : Int) + (wy : Int) = (rwo wy i (hg + 1) : Int) := by
              unfold rwo
              by_cases z : wy = 0
              · rw [if_pos z, if_pos z]; omega
              · rw [if_neg z, if_neg z]; omega
            have ec : (clo wy j hg : Int) + 1 - (wy : Int) = (clo wy j (hg + 1) : Int) := by
              unfold clo
              by_cases z : wy = 0
              · rw [if_pos z, if_pos z]; omega
              · rw [if_neg z, if_neg z]; omega
            have esig : (l.drop low).take (hg - low) ++ [l[hg]] = (l.drop low).take (hg + 1 - low) := by
              have hlen : hg - low < (l.drop low).length := by rw [List.length_drop]; omega
              rw [show hg + 1 - low = hg - low + 1 by omega, List.take_succ, List.getElem?_eq_getElem hlen, List.getElem_drop]
              simp only [show low + (hg - low) = hg by omega]
              rfl
            refine iteT ⟨fun σ H4 => ∃ t2 : Addr, Same H' H4 ∧ H4 t2 = some (.tup [.int (rwo wy i (hg + 1)), .int (clo wy j (hg + 1))]) ∧ σ = [some (.ref M), some (.int (rwo wy i low)), some (.int (clo wy j low)), some (.int wy), some (.str (S ((l.drop low).take (hg + 1 - low)))), some (.ref t2)], fun σ' H'' ⟨t2, e1, e2, e3⟩ => ⟨l.length - (hg + 1), by omega, hg + 1, t2, by omega, by omega, rfl, e1, e2, e3, fun x a1 a2 => ?_⟩, ?_⟩
            · by_cases hx2 : x = hg
              · subst hx2; rw [List.getElem?_eq_getElem hgl]; simpa using hne
              · exact hy x a1 (by omega)
            · refine ⟨_, rfl, _, rfl, _, rfl, t, _, _, _, rfl, rfl, hS, atI_nat (j := 0) rfl, M, _, _, .ref ps[rwo wy i hg], rfl, rfl, hM2, atI_nat (by simp [g1]), _, rfl, t, _, _, _, rfl, rfl, hS, atI_nat (j := 1) rfl, ps[rwo wy i hg], _, _, .str (S [cell R (rwo wy i hg) (clo wy j hg)]), rfl, rfl, SqL.of g2, atI_nat g3, (l.drop low).take (hg - low), _, rfl, rfl, hz _ (by rw [List.length_take, List.length_drop]; simp; omega), ?_⟩
              rw [hcell _ hgl, esig]
              refine ⟨_, rfl, t, _, _, _, rfl, rfl, hS, atI_nat (j := 0) rfl, _, rfl, _, _, rfl, rfl, _, rfl, t, _, _, _, rfl, rfl, hS, atI_nat (j := 1) rfl, _, _, rfl, rfl, _, rfl, _, _, rfl, rfl, by show 2 ≤ sizeLine; decide, fun t2 ht2 => ?_⟩
              refine ⟨t2, sm.upd' (sm.free ht2), ?_, rfl⟩
              rw [upd_same, ← er, ← ec]
        · refine iteF (ex (.inl ?_))
          have d2 : ¬ (clo wy j hg : Int) < ((Ts (ones (R.getD 0 []))).length : Int) := fun z => hc2 (decide_eq_true z)
          rw [gz2] at d2
          rw [hlw] at h2 ⊢
          unfold clo at d2
          by_cases z : wy = 0
          · rw [if_pos z] at d2 h2 ⊢; omega
          · rw [if_neg z] at d2; omega
      · refine iteF (ex (.inl ?_))
        have d1 : ¬ (rwo wy i hg : Int) < ((ps.map V.ref).length : Int) := fun z => hc1 (decide_eq_true z)
        rw [List.length_map, hpl] at d1
        rw [hlw] at h2 ⊢
        unfold rwo at d1
        by_cases z : wy = 0
        · rw [if_pos z] at d1; omega
        · rw [if_neg z] at d1 h2 ⊢; omega
    · rintro σ H'' ⟨sm, v5, rfl⟩
      refine ⟨_, rfl, _, rfl, _, rfl, _, rfl, by show 4 ≤ sizeLine; decide, fun T hT => ?_⟩
      refine q T _ (sm.upd' (sm.free hT)) ?_
      have hlen : low + (tailF (l.take k)).length = k := by rw [etail, List.length_drop, List.length_take]; omega
      rw [hquad low rfl hlen]
      exact upd_same

end
end My
end

section
set_option Elab.async false
set_option linter.all false
set_option maxRecDepth 100000
set_option maxHeartbeats 2000000
namespace My
open PySem L2
section
variable {P : Program} {w : World} {K : PySem.W.Frag} {mg : Str → Option Value} {base : Heap}
structure ObjL {α : Type} (enc : α → List V) (H : Hp) (as : List Addr) (xs : List α) : Prop where
  len : as.length = xs.length
  at_ : ∀ (i : Nat) (a : Addr) (x : α), as[i]? = some a → xs[i]? = some x → H a = some (.tup (enc x))
theorem ObjL.mvT {α : Type} {enc : α → List V} {H H' : Hp} {as : List Addr} {xs : List α} (k : ∀ a ys, H a = some (.tup ys) → H' a = some (.tup ys)) (h : ObjL enc H as xs) : ObjL enc H' as xs := ⟨h.len, fun i a x h1 h2 => k _ _ (h.at_ i a x h1 h2)⟩
theorem ObjL.mv {α : Type} {enc : α → List V} {H H' : Hp} {as : List Addr} {xs : List α} (k : Same H H') (h : ObjL enc H as xs) : ObjL enc H' as xs := h.mvT fun a ys e => k a _ e
theorem ObjL.nil {α : Type} {enc : α → List V} {H : Hp} : ObjL enc H [] [] := ⟨rfl, fun i a x h => by simp at h⟩
theorem ObjL.one {α : Type} {enc : α → List V} {H : Hp} {a : Addr} {x : α} (h : H a = some (.tup (enc x))) : ObjL enc H [a] [x] := ⟨rfl, fun i b y h1 h2 => by
  match i, h1, h2 with
  | 0, h1, h2 =>
    have e1 : a = b := Option.some.inj h1
    have e2 : x = y := Option.some.inj h2
    rw [← e1, ← e2]; exact h
  | n + 1, h1, h2 => exact absurd h1 (by simp)⟩
theorem ObjL.app {α : Type} {enc : α → List V} {H : Hp} {as bs : List Addr} {xs ys : List α} (h : ObjL enc H as xs) (g : ObjL enc H bs ys) : ObjL enc H (as ++ bs) (xs ++ ys) := by
  refine ⟨by rw [List.length_append, List.length_append, h.len, g.len], fun i a x h1 h2 => ?_⟩
  by_cases c : i < as.length
  · rw [List.getElem?_append_left c] at h1
    rw [List.getElem?_append_left (by rw [← h.len]; exact c)] at h2
    exact h.at_ i a x h1 h2
  · rw [List.getElem?_append_right (by omega)] at h1
    rw [List.getElem?_append_right (by rw [← h.len]; omega), ← h.len] at h2
    exact g.at_ _ a x h1 h2
theorem ObjL.get {α : Type} {enc : α → List V} {H : Hp} {as : List Addr} {xs : List α} (h : ObjL enc H as xs) {i : Nat} (hi : i < as.length) : ∃ x, xs[i]? = some x ∧ H as[i] = some (.tup (enc x)) := by
  have hx : i < xs.length := by rw [← h.len]; exact hi
  exact ⟨xs[i], List.getElem?_eq_getElem hx, h.at_ i _ _ (List.getElem?_eq_getElem hi) (List.getElem?_eq_getElem hx)⟩
abbrev QL := ObjL (fun q : Quad => [V.int q.1, V.int q.2.1, V.int q.2.2.1, V.str (S q.2.2.2)])
abbrev AL3 := ObjL (fun q : Nat × Nat × Nat => [V.int q.1, V.int q.2.1, V.int q.2.2])
def lnB (ts : List Trip) : Nat := if ts.head?.map (·.1) = ts.getLast?.map (·.1) then 0 else 1
def askL (ts : List Trip) : List (Nat × Nat × Nat) := (ts.take 1).map (fun t => (t.1, t.2.1, lnB ts)) ++ ts.map fun t => (t.1, t.2.1, 1 - lnB ts)
def qd (R : List (List Nat)) (a : Nat × Nat × Nat) : Quad := quad R a.1 a.2.1 a.2.2
def longQ (q : Quad) : Bool := decide (1 < q.2.2.2.length)
def wordsF (rows : List (List Nat)) (ts : List Trip) : List Quad := ((askL ts).map (qd (laidF rows ts))).filter longQ
theorem lnB_le (ts : List Trip) : lnB ts ≤ 1 := by unfold lnB; split <;> decide
theorem quad_len {r w : Nat} {R : List (List Nat)} (hb : Blk r w R) (r9 : r ≤ 9) (w9 : w ≤ 9) {i j wy : Nat} (hi : i < r) : (quad R i j wy).2.2.2.length ≤ 20 := by
  have hll := lineOf_len hb hi (j := j) (way := (wy : Int))
  have h9 : (lineOf R i j (wy : Int)).length ≤ 9 := by rw [hll]; split <;> assumption
  show (tailF _ ++ headF _).length ≤ 20
  have a1 := tailF_len ((lineOf R i j (wy : Int)).take (placeOf i j (wy : Int)))
  have a2 := headF_len ((lineOf R i j (wy : Int)).drop (placeOf i j (wy : Int)))
  rw [List.length_take] at a1
  rw [List.length_drop] at a2
  rw [List.length_append]
  omega
theorem head_last {ts : List Trip} (h : 0 < ts.length) : lnB ts = if ts[0].1 = ts[ts.length - 1].1 then 0 else 1 := by
  unfold lnB
  rw [List.head?_eq_getElem?, List.getLast?_eq_getElem?, List.getElem?_eq_getElem h, List.getElem?_eq_getElem (by omega)]
  simp only [Option.map_some, Option.some.injEq]
theorem lay_at {H : Hp} {as : List Addr} {ts : List Trip} (hL : LayL H as ts) {i : Nat} (hi : i < ts.length) : ∃ (h : i < as.length), H as[i] = some (.tup [.int ts[i].1, .int ts[i].2.1, .str (S [ts[i].2.2])]) := by
  have h : i < as.length := by rw [hL.len]; exact hi
  obtain ⟨t, e, ht⟩ := hL.get h
  rw [List.getElem?_eq_getElem hi] at e
  have e := Option.some.inj e
  rw [← e] at ht
  exact ⟨h, ht⟩
theorem last_at {as : List Addr} (h : 0 < as.length) : atI (as.map V.ref) (-1) = some (.ref as[as.length - 1]) := by
  have e : as.map V.ref = (as.take (as.length - 1)).map V.ref ++ [V.ref as[as.length - 1]] := by
    rw [← List.map_singleton, ← List.map_append]
    congr 1
    have := List.take_append_drop (as.length - 1) as
    rw [List.drop_eq_getElem_cons (by omega), show as.length - 1 + 1 = as.length by omega, List.drop_length] at this
    exact this.symm
  rw [e]
  exact atI_last _ _
theorem ite_ne (a b : Nat) : (if (!decide (V.int (a : Int) = V.int (b : Int))) = true then (1 : Int) else 0) = ((if a = b then 0 else 1 : Nat) : Int) := by
  by_cases h : a = b
  · subst h; simp
  · have : ¬ V.int (a : Int) = V.int (b : Int) := fun z => h (by injection z with z; exact Int.ofNat.inj z)
    simp [h, this]
def spWordsQ : Sp := fun vs H Q _ => ∃ (pr t : Addr) (as : List Addr) (ts : List Trip) (r w : Nat) (rows : List (List Nat)), vs = [.ref pr, .ref t] ∧ H pr = some (.tup (Ts rows)) ∧ Blk r w rows ∧ r ≤ 9 ∧ w ≤ 9 ∧ H t = some (.tup (as.map V.ref)) ∧ LayL H as ts ∧ (∀ t ∈ ts, inB r w t) ∧ 0 < ts.length ∧ ts.length ≤ 7 ∧
  ∀ (T : Addr) (bs : List Addr) (H' : Hp), Same H H' → H' T = some (.tup (bs.map V.ref)) → QL H' bs (wordsF rows ts) → Q (.ref T) H'
theorem ok_law_words (D : DefAt K mg "_law_words" s_words ["_law_rows_here", "_law_laying"]) (n_len : mg "len" = none) (n_int : mg "int" = none) (n_tuple : mg "tuple" = none) (D_grid : Def P w K mg base "_law_grid" 1 ["_law_rows_here", "_law_laying"] spGrid) (D_run : Def P w K mg base "_law_run" 1 ["_law_grid_here", "_law_row", "_law_column", "_law_way"] (spRunL K)) : Def P w K mg base "_law_words" 2 ["_law_rows_here", "_law_laying"] spWordsQ := by
  refine D.qok sc_words (fun vs H Q E h => ?_) (fun f cdv A outer s H vs Q E hr h => ?_)
  · obtain ⟨pr, t, as, ts, r, w, rows, rfl, _⟩ := h
    rfl
  · obtain ⟨pr, t, as, ts, r, w, rows, rfl, hpr, hb, r9, w9, ht, hL, hin, h0, h7, q⟩ := h
    refine ⟨_, (qss_cons (qs_set (i := 2) sc_words.nd rfl (Or.inl rfl) (qe_own D_grid (hr.mono (by decide)) rfl (qa_cons (qv 0) (qa_cons (qv 1) qa_nil)))) (qss_cons (qs_set (i := 3) sc_words.nd rfl (Or.inl rfl) (qe_callTy call_int1 (by rfl) n_int PyProof.Rows.boot_int (qa_cons (qe_cmpR op_ne (qe_ix ix_tup (qe_ix ix_tup (qv 1) qe_int (fun _ _ => rfl)) qe_int (fun _ _ => rfl)) (qe_ix ix_tup (qe_ix ix_tup (qv 1) (qe_un un_neg qe_int) (fun _ _ => rfl)) qe_int (fun _ _ => rfl)) (nomark _)) qa_nil))) (qss_cons (qs_set (i := 4) sc_words.nd rfl (Or.inl rfl) (qe_lst (qa_cons (qe_own D_run (hr.mono (by decide)) rfl (qa_cons (qv 2) (qa_cons (qe_ix ix_tup (qe_ix ix_tup (qv 1) qe_int (fun _ _ => rfl)) qe_int (fun _ _ => rfl)) (qa_cons (qe_ix ix_tup (qe_ix ix_tup (qv 1) qe_int (fun _ _ => rfl)) qe_int (fun _ _ => rfl)) (qa_cons (qv 3) qa_nil))))) qa_nil))) (qss_cons (qs_for PassesOwn.never rfl (qi_tup (qv 1)) (qg_tup rfl (qgs_cons (qg_name (i := 5) sc_words.nd rfl (Or.inl rfl)) (qgs_cons (qg_name (i := 6) sc_words.nd rfl (Or.inl rfl)) (qgs_cons (qg_name (i := 7) sc_words.nd rfl (Or.inl rfl)) qgs_nil)))) (qss_one (qs_expr (qe_bm PySem.F.plainAttrs_list PySem.F.slot_list_append PySem.F.type_list_append mt_append (qv 4) (qa_cons (qe_own D_run (hr.mono (by decide)) rfl (qa_cons (qv 2) (qa_cons (qv 5) (qa_cons (qv 6) (qa_cons (qe_op op_sub qe_int (qv 3)) qa_nil))))) qa_nil))))) (qss_one (qs_ret (qe_callTy call_tuple_of (by rfl) n_tuple PyProof.Rows.boot_tuple (qa_cons (qe_compG (ns := ["_law_run_here"]) rfl (CompG.of ["_law_rows_here", "_law_laying", "_law_grid_here", "_law_line", "_law_runs", "_law_row", "_law_column", "_law_sign_here"] [] (by kernel_rfl)) (qi_list (qv 4)) (fun _ _ _ _ _ => (tg_name (show (["_law_run_here", "_law_rows_here", "_law_laying", "_law_grid_here", "_law_line", "_law_runs", "_law_row", "_law_column", "_law_sign_here"] : List Str).Nodup by decide +kernel) rfl (by rfl))) (fun _ _ _ _ _ => (qts_one (qt_cmpR op_gt (qe_callB call_lenS (by rfl) n_len PySem.boot_len (qa_cons (qe_ix (ix_tupK K) (qv 0) qe_int (fun _ _ => rfl)) qa_nil)) qe_int (nomark _)))) (fun _ _ _ _ _ => (qv 0))) qa_nil)))))))), ?_⟩
    refine ⟨_, rfl, _, rfl, pr, t, as, ts, r, w, rows, rfl, hpr, hb, r9, w9, ht, hL, hin, fun M ps H1 s1 hM hLn => ?_⟩
    have hb' := laid_blk hb hin
    generalize hR : laidF rows ts = R at hLn hb'
    have hal := hL.len
    have hL1 := hL.mv s1
    obtain ⟨g0, e0⟩ := lay_at hL1 h0
    obtain ⟨gl, el⟩ := lay_at hL1 (show ts.length - 1 < ts.length by omega)
    have ht1 := SqT.of (K := K) (s1 _ _ ht)
    have eal : as.length - 1 = ts.length - 1 := by omega
    have hlast : atI (as.map V.ref) (-1) = some (.ref as[ts.length - 1]) := by
      rw [last_at (show 0 < as.length by omega)]
      simp only [eal]
    refine ⟨_, rfl, t, _, _, .ref as[0], rfl, rfl, ht1, atI_nat (j := 0) (by simp [g0]), as[0], _, _, _, rfl, rfl, SqT.of e0, atI_nat (j := 0) rfl, _, rfl, _, rfl, t, _, _, .ref as[ts.length - 1], rfl, rfl, ht1, hlast, as[ts.length - 1], _, _, _, rfl, rfl, SqT.of el, atI_nat (j := 0) rfl, rfl, .inr ⟨_, rfl, ?_⟩⟩
    dsimp only
    rw [ite_ne, ← head_last h0]
    have hln := lnB_le ts
    obtain ⟨b1, b2, _⟩ := hin _ (List.getElem_mem h0)
    refine ⟨_, rfl, _, rfl, t, _, _, .ref as[0], rfl, rfl, ht1, atI_nat (j := 0) (by simp [g0]), as[0], _, _, _, rfl, rfl, SqT.of e0, atI_nat (j := 0) rfl, _, rfl, t, _, _, .ref as[0], rfl, rfl, ht1, atI_nat (j := 0) (by simp [g0]), as[0], _, _, _, rfl, rfl, SqT.of e0, atI_nat (j := 1) rfl, _, rfl, M, H, ps, R, r, w, ts[0].1, ts[0].2.1, lnB ts, rfl, hM, hLn, hb', r9, w9, b1, b2, hln, fun t1 H2 s2 hq1 => ?_⟩
    refine ⟨by show 1 ≤ sizeLine; decide, fun L hLl => ?_⟩
    have k3 : Same H2 (upd H2 L (HO.lst [.ref t1])) := Same.upd hLl
    have s3 := s2.trans k3
    have hL0 := s2.free hLl
    refine ⟨_, rfl, t, rfl, ⟨_, SqT.of (s3 _ _ (s1 _ _ ht))⟩, for_tup (K := K) (a := t) (xs := as.map V.ref) (fun n σ H' => ∃ (v5 v6 v7 : Option V) (bs : List Addr), σ = [some (.ref pr), some (.ref t), some (.ref M), some (.int (lnB ts)), some (.ref L), v5, v6, v7] ∧ Same H1 H' ∧ H' L = some (.lst (bs.map V.ref)) ∧ bs.length = n + 1 ∧ QL H' bs (((ts.take 1).map (fun t => (t.1, t.2.1, lnB ts)) ++ (ts.take n).map fun t => (t.1, t.2.1, 1 - lnB ts)).map (qd R)))
      ⟨none, none, none, [t1], rfl, s3, upd_same, rfl, ?_⟩ (fun n σ H' _ h => by obtain ⟨_, _, _, _, _, sm, _⟩ := h; exact SqT.of (sm _ _ (s1 _ _ ht))) ?_ ?_⟩
    · have e1 : ts.take 1 = [ts[0]] := by rw [List.take_one, List.head?_eq_getElem?, List.getElem?_eq_getElem h0]; rfl
      rw [e1, List.take_zero, List.map_nil, List.append_nil]
      exact ObjL.one (k3 _ _ hq1)
    · rintro n x σ H' hx ⟨v5, v6, v7, bs, rfl, sm, hLb, hbl, hQ⟩
      have hn : n < as.length := by have := (List.getElem?_eq_some_iff.mp hx).1; simpa using this
      have hnt : n < ts.length := by omega
      rw [List.getElem?_map, List.getElem?_eq_getElem hn] at hx
      have hx : V.ref as[n] = x := Option.some.inj hx
      subst hx
      obtain ⟨_, en⟩ := lay_at (hL1.mv sm) hnt
      obtain ⟨c1, c2, _⟩ := hin _ (List.getElem_mem hnt)
      refine ⟨as[n], _, rfl, SqT.of en, rfl, _, _, rfl, _, _, rfl, _, _, rfl, rfl, ?_⟩
      have e1l : (1 : Int) - (lnB ts : Int) = ((1 - lnB ts : Nat) : Int) := by omega
      refine ⟨_, rfl, .inl ⟨rfl, _, SqL.of hLb⟩, _, rfl, _, rfl, _, rfl, _, rfl, _, _, rfl, rfl, M, H, ps, R, r, w, ts[n].1, ts[n].2.1, 1 - lnB ts, by show [V.ref M, V.int (ts[n].1 : Int), V.int (ts[n].2.1 : Int), V.int (1 - (lnB ts : Int))] = _; rw [e1l], sm _ _ hM, hLn.mvS sm, hb', r9, w9, c1, c2, by omega, fun t2 H4 s4 hq2 => ?_⟩
      have hLb4 := s4 _ _ hLb
      refine ⟨L, _, _, rfl, rfl, hLb4, by rw [List.length_map]; exact small1000 (by omega), ?_⟩
      refine ⟨_, _, _, bs ++ [t2], rfl, (sm.trans s4).upd' hL0, by rw [upd_same]; simp, by simp [hbl], ?_⟩
      rw [show ts.take (n + 1) = ts.take n ++ (some ts[n]).toList by rw [List.take_add_one, List.getElem?_eq_getElem hnt]]
      have e2 : (((ts.take 1).map (fun t => (t.1, t.2.1, lnB ts)) ++ (ts.take n ++ (some ts[n]).toList).map fun t => (t.1, t.2.1, 1 - lnB ts)).map (qd R)) = (((ts.take 1).map (fun t => (t.1, t.2.1, lnB ts)) ++ (ts.take n).map fun t => (t.1, t.2.1, 1 - lnB ts)).map (qd R)) ++ [qd R (ts[n].1, ts[n].2.1, 1 - lnB ts)] := by
        rw [List.map_append (l₁ := ts.take n), ← List.append_assoc, List.map_append]
        rfl
      rw [e2]
      exact ((hQ.mv s4).app (ObjL.one hq2)).mvT (tupL hLb4)
    · rintro σ H' ⟨v5, v6, v7, bs, rfl, sm, hLb, hbl, hQ⟩
      rw [List.length_map] at hbl
      rw [List.length_map, hal, List.take_length] at hQ
      have hQ' : QL H' bs ((askL ts).map (qd R)) := hQ
      have hqb : ∀ n (x : Quad), ((askL ts).map (qd R))[n]? = some x → x.2.2.2.length ≤ 20 := fun n x hx => by
        obtain ⟨a, ha, rfl⟩ := List.mem_map.mp (List.mem_of_getElem? hx)
        have hi : a.1 < r := by
          rcases List.mem_append.mp ha with z | z
          · obtain ⟨u, hu, rfl⟩ := List.mem_map.mp z
            exact (hin u (List.mem_of_mem_take hu)).1
          · obtain ⟨u, hu, rfl⟩ := List.mem_map.mp z
            exact (hin u hu).1
        exact quad_len hb' r9 w9 hi
      refine ⟨_, rfl, L, rfl, ⟨_, SqL.of hLb⟩, fun N hN => compG1_list (K := K) (a := L) (f := hideS [] 0) (tt := tTest (tOp (rI0 fun i j => V.bl (decide (j < i))) (tCB rLenS (tCons (tOp (rIxT K) (tVar 0) (tC (V.int 3))) tNil)) (tC (V.int 1)))) (te := tVar 0) (xs := bs.map V.ref) (fun n ys H3 => ∃ cs : List Addr, ys = cs.map V.ref ∧ cs.length ≤ n ∧ H3 N = some (.lst ys) ∧ Same H' H3 ∧ QL H3 cs ((((askL ts).map (qd R)).take n).filter longQ))
        ⟨[], rfl, Nat.le_refl _, upd_same, Same.upd hN, ObjL.nil⟩ (fun n ys H3 _ h => by obtain ⟨_, _, _, _, sm, _⟩ := h; exact SqL.of (sm _ _ hLb)) ?_ ?_⟩
      · rintro n x ys H3 hx ⟨cs, rfl, hcl, hN3, sm3, hQ3⟩
        have hn : n < bs.length := by have := (List.getElem?_eq_some_iff.mp hx).1; simpa using this
        rw [List.getElem?_map, List.getElem?_eq_getElem hn] at hx
        have hx : V.ref bs[n] = x := Option.some.inj hx
        subst hx
        obtain ⟨qq, eq, hat⟩ := (hQ'.mv sm3).get hn
        have hl20 := hqb n qq eq
        refine ⟨_, rfl, bs[n], _, _, _, rfl, rfl, SqT.of hat, atI_nat (j := 3) rfl, _, rfl, Nat.le_of_lt (small1000 (by omega)), _, _, rfl, rfl, _, rfl, ?_⟩
        by_cases hc : longQ qq = true
        · have : decide ((1 : Int) < (qq.2.2.2.length : Int)) = true := decide_eq_true (by have := of_decide_eq_true hc; omega)
          rw [this]
          refine iteT ⟨_, rfl, hN3, by rw [List.length_map]; exact small1000 (by omega), Nxt.mk (by rw [List.length_map]; exact hn) ⟨cs ++ [bs[n]], by simp, by simp; omega, by rw [upd_same], sm3.upd' hN, ?_⟩⟩
          rw [List.take_add_one, eq, List.filter_append]
          have e2 : ((some qq).toList).filter longQ = [qq] := by simp [hc]
          rw [e2]
          exact (hQ3.app (ObjL.one hat)).mvT (tupL hN3)
        · have : decide ((1 : Int) < (qq.2.2.2.length : Int)) = false := decide_eq_false (fun z => hc (decide_eq_true (by omega)))
          rw [this]
          refine iteF (Nxt.mk (by rw [List.length_map]; exact hn) ⟨cs, rfl, by omega, hN3, sm3, ?_⟩)
          rw [List.take_add_one, eq, List.filter_append]
          have e2 : ((some qq).toList).filter longQ = [] := by simp [hc]
          rw [e2, List.append_nil]
          exact hQ3
      · rintro ys H3 ⟨cs, rfl, hcl, hN3, sm3, hQ3⟩
        rw [List.length_map, hQ'.len, List.take_length] at hQ3
        refine ⟨N, _, rfl, .inl ⟨SqL.of hN3, fun T hT => ?_⟩⟩
        have k : Same H3 (upd H3 T (HO.tup (cs.map V.ref))) := Same.upd hT
        refine q T cs _ (((s1.trans sm).trans sm3).trans k) upd_same ?_
        unfold wordsF
        rw [hR]
        exact hQ3.mv k

end
end My
end

section
set_option Elab.async false
set_option linter.all false
set_option maxRecDepth 100000
set_option maxHeartbeats 2000000
namespace My
open PySem L2
section
variable {P : Program} {w : World} {K : PySem.W.Frag} {mg : Str → Option Value} {base : Heap}
theorem across_eq {ts : List Trip} (hl : Line1 ts) (h0 : 0 < ts.length) : ((ts.map fun t => decide (V.int (t.1 : Int) = V.int (ts[0].1 : Int))).all id) = decide (lnB ts = 0) := by
  have hd : ∀ a b : Nat, decide (V.int (a : Int) = V.int (b : Int)) = decide (a = b) := fun a b => by
    by_cases h : a = b
    · subst h; simp
    · have : ¬ V.int (a : Int) = V.int (b : Int) := fun z => h (by injection z with z; exact Int.ofNat.inj z)
      simp [h, this]
  have key : (∀ t ∈ ts, t.1 = ts[0].1) ↔ ts[0].1 = ts[ts.length - 1].1 := by
    constructor
    · intro h
      exact (h _ (List.getElem_mem _)).symm
    · intro h t ht
      obtain ⟨i, hi, rfl⟩ := List.mem_iff_getElem.mp ht
      rcases hl with hl | hl
      · rw [List.pairwise_iff_getElem] at hl
        rcases Nat.eq_zero_or_pos i with z | z
        · subst z; rfl
        · exact (hl 0 i h0 hi z).symm
      · rw [List.pairwise_iff_getElem] at hl
        rcases Nat.eq_zero_or_pos (ts.length - 1) with z | z
        · have : i = 0 := by omega
          subst this; rfl
        · have := hl 0 (ts.length - 1) h0 (by omega) z
          omega
  rw [head_last h0, Bool.eq_iff_iff, List.all_eq_true, decide_eq_true_iff]
  constructor
  · intro h
    rw [if_pos]
    refine key.mp fun t ht => ?_
    have := h _ (List.mem_map.mpr ⟨t, ht, rfl⟩)
    rw [hd] at this
    exact of_decide_eq_true this
  · intro h x hx
    obtain ⟨t, ht, rfl⟩ := List.mem_map.mp hx
    have he : ts[0].1 = ts[ts.length - 1].1 := by
      by_cases z : ts[0].1 = ts[ts.length - 1].1
      · exact z
      · rw [if_neg z] at h; cases h
    rw [hd]
    exact decide_eq_true (key.mpr he t ht)
def spAcross : Sp := fun vs H Q _ => ∃ (t : Addr) (as : List Addr) (ts : List Trip), vs = [.ref t] ∧ H t = some (.tup (as.map V.ref)) ∧ LayL H as ts ∧ 0 < ts.length ∧ ts.length ≤ 7 ∧ Line1 ts ∧ ∀ H', Same H H' → Q (.bl (decide (lnB ts = 0))) H'
theorem ok_is_across (D : DefAt K mg "is_across" s_is_across ["laying"]) (n_all : mg "all" = none) : Def P w K mg base "is_across" 1 ["laying"] spAcross := by
  refine D.qok sc_is_across (fun vs H Q E h => ?_) (fun f cdv A outer s H vs Q E hr h => ?_)
  · obtain ⟨t, as, ts, rfl, _⟩ := h
    rfl
  · obtain ⟨t, as, ts, rfl, ht, hL, h0, h7, hl, q⟩ := h
    have hal := hL.len
    refine ⟨_, (qss_one (qs_ret (qe_callB (call_all rfl) (by rfl) n_all boot_allX (qa_cons (qe_compG (ns := ["row", "column", "sign"]) rfl (CompG.of ["laying"] [] (by kernel_rfl)) (qi_tup (qv 0)) (fun _ _ _ _ _ => (tg_tup3 K rfl (show (["row", "column", "sign", "laying"] : List Str).Nodup by decide +kernel) rfl rfl rfl (by rfl) (by rfl) (by rfl))) (fun _ _ _ _ _ => qts_nil) (fun _ _ _ _ _ => (qe_cmpR op_eq (qv 0) (qe_ix (ix_tupK K) (qe_ix (ix_tupK K) (qv 3) qe_int (fun _ _ => rfl)) qe_int (fun _ _ => rfl)) (nomark _)))) qa_nil)))), ?_⟩
    refine ⟨_, rfl, t, rfl, ⟨_, SqT.of ht⟩, fun N hN => compG3_tup (K := K) (KT := K) (a := t) (f := hideS [] 0) (tt := tYes) (xs := as.map V.ref) (fun n ys H3 => ys = ((ts.take n).map fun t => decide (V.int (t.1 : Int) = V.int (ts[0].1 : Int))).map V.bl ∧ H3 N = some (.lst ys) ∧ Same H H3)
      ⟨rfl, upd_same, Same.upd hN⟩ (fun n ys H3 _ h => SqT.of (h.2.2 _ _ ht)) ?_ ?_⟩
    · rintro n x ys H3 hx ⟨rfl, hN3, sm3⟩
      have hn : n < as.length := by have := (List.getElem?_eq_some_iff.mp hx).1; simpa using this
      have hnt : n < ts.length := by omega
      rw [List.getElem?_map, List.getElem?_eq_getElem hn] at hx
      have hx : V.ref as[n] = x := Option.some.inj hx
      obtain ⟨_, en⟩ := lay_at (hL.mv sm3) hnt
      obtain ⟨g0, e0⟩ := lay_at (hL.mv sm3) h0
      refine turn3 hx.symm (SqT.of en) ?_
      refine ⟨_, rfl, _, rfl, t, _, _, .ref as[0], rfl, rfl, SqT.of (sm3 _ _ ht), atI_nat (j := 0) (by simp [g0]), as[0], _, _, _, rfl, rfl, SqT.of e0, atI_nat (j := 0) rfl, rfl, hN3, ?_, Nxt.mk (by rw [List.length_map]; exact hn) ⟨?_, upd_same, sm3.upd' hN⟩⟩
      · rw [List.length_map, List.length_map, List.length_take]; exact small1000 (by omega)
      · rw [show ts.take (n + 1) = ts.take n ++ (some ts[n]).toList by rw [List.take_add_one, List.getElem?_eq_getElem hnt], List.map_append, List.map_append]
        rfl
    · rintro ys H3 ⟨rfl, hN3, sm3⟩
      refine ⟨N, _, rfl, SqL.of hN3, ?_⟩
      rw [List.length_map, hal, List.take_length, across_eq hl h0]
      exact q H3 sm3
theorem runV_quad {r w : Nat} {R : List (List Nat)} {i j wy : Nat} (hwy : wy ≤ 1) : runV i j (wy : Int) (lineOf R i j (wy : Int)) = [.int (quad R i j wy).1, .int (quad R i j wy).2.1, .str (S (quad R i j wy).2.2.2)] := by
  unfold runV quad placeOf
  by_cases z : wy = 0
  · subst z
    have a1 := tailF_len ((lineOf R i j ((0 : Nat) : Int)).take j)
    rw [List.length_take] at a1
    rw [if_pos rfl]
    show [V.int (i : Int), V.int ((j : Int) - _), _] = [V.int (i : Int), V.int ((j - _ : Nat) : Int), _]
    rw [Int.ofNat_sub (by omega)]
    rfl
  · have : wy = 1 := by omega
    subst this
    have a1 := tailF_len ((lineOf R i j ((1 : Nat) : Int)).take i)
    rw [List.length_take] at a1
    rw [if_neg (by decide)]
    show [V.int ((i : Int) - _), V.int (j : Int), _] = [V.int ((i - _ : Nat) : Int), V.int (j : Int), _]
    rw [Int.ofNat_sub (by omega)]
    rfl
def spFormed (C : Addr) : Sp := fun vs H Q _ => ∃ (b t : Addr) (as : List Addr) (ts : List Trip) (r w : Nat) (rows marks : List (List Nat)) (bi bj : Nat), vs = [.ref b, .ref t] ∧ BoardAt C H b r w rows marks bi bj ∧ H t = some (.tup (as.map V.ref)) ∧ LayL H as ts ∧ (∀ t ∈ ts, inB r w t) ∧ 0 < ts.length ∧ ts.length ≤ 7 ∧ Line1 ts ∧
  ∀ (T : Addr) (bs : List Addr) (H' : Hp), Same H H' → H' T = some (.tup (bs.map V.ref)) → QL H' bs (wordsF rows ts) → Q (.ref T) H'
theorem ok_formed {C f1 f2 : Addr} {fd1 fd2 : FuncData} (D : DefAt K mg "formed" s_formed ["board", "laying"]) (n_len : mg "len" = none) (n_tuple : mg "tuple" = none) (T_Board : BoardCls K C) (m_Board_laid : Meth K C "laid" f1) (G_Board_laid : FnOk P w K mg base CX0 8 f1 fd1 ["self", "laying"] (spLaid C)) (b_Board_laid : Binds K fd1 ["self", "laying"] [])
    (m_Board_run : Meth K C "run" f2) (G_Board_run : FnOk P w K mg base CX0 2 f2 fd2 ["self", "row", "column", "way"] (spRun C)) (b_Board_run : Binds K fd2 ["self", "row", "column", "way"] []) (D_is_across : Def P w K mg base "is_across" 1 ["laying"] spAcross) : Def P w K mg base "formed" 10 ["board", "laying"] (spFormed C) := by
  refine D.qok sc_formed (fun vs H Q E h => ?_) (fun f cdv A outer s H vs Q E hr h => ?_)
  · obtain ⟨b, t, as, ts, r, w, rows, marks, bi, bj, rfl, _⟩ := h
    rfl
  · obtain ⟨b, t, as, ts, r, w, rows, marks, bi, bj, rfl, BA, ht, hL, hin, h0, h7, hl, q⟩ := h
    obtain ⟨dx, _, _, _, ex, _⟩ := id BA.ex
    have r9 := BA.ok.r9
    have w9 := BA.ok.w9
    have hal := hL.len
    have hln := lnB_le ts
    refine ⟨_, (qss_cons (qs_set (i := 2) sc_formed.nd rfl (Or.inl rfl) (qe_meth (qv 0) T_Board.cl m_Board_laid G_Board_laid (hr.mono (by decide)) b_Board_laid .nil pass0 (qa_cons (qv 1) qa_nil))) (qss_cons (qs_cut (qs_set (i := 3) sc_formed.nd rfl (Or.inr rfl) (qe_ifExp (qt_val (qe_own D_is_across (hr.mono (by decide)) rfl (qa_cons (qv 1) qa_nil))) qe_int qe_int))) (qss_cons (qs_set (i := 4) sc_formed.nd rfl (Or.inl rfl) (qe_lst (qa_cons (qe_tup (qa_cons (qe_ix ix_tup (qe_ix ix_tup (qv 1) qe_int (fun _ _ => rfl)) qe_int (fun _ _ => rfl)) (qa_cons (qe_ix ix_tup (qe_ix ix_tup (qv 1) qe_int (fun _ _ => rfl)) qe_int (fun _ _ => rfl)) (qa_cons (qv 3) qa_nil)))) qa_nil))) (qss_cons (qs_expr (qe_bm PySem.F.plainAttrs_list PySem.F.slot_list_extend PySem.F.type_list_extend mt_extend (qv 4) (qa_cons (qe_compG (ns := ["row", "column", "sign"]) rfl (CompG.of ["board", "laying", "after", "way", "asked", ".5", ".6", "words", "along", "run"] [5, 6] (by kernel_rfl)) (qi_tup (qv 1)) (fun _ _ _ _ _ => (tg_tup3 K rfl (show (["row", "column", "sign", "board", "laying", "after", "way", "asked", ".5", ".6", "words", "along", "run"] : List Str).Nodup by decide +kernel) rfl rfl rfl (by rfl) (by rfl) (by rfl))) (fun _ _ _ _ _ => qts_nil) (fun _ _ _ _ _ => (qe_tup (qa_cons (qv 0) (qa_cons (qv 1) (qa_cons (qe_op op_sub qe_int (qv 6)) qa_nil)))))) qa_nil))) (qss_cons (qs_set (i := 7) sc_formed.nd rfl (Or.inl rfl) (qe_lst qa_nil)) (qss_cons (qs_for PassesOwn.never rfl (qi_list (qv 4)) (qg_tup rfl (qgs_cons (qg_name (i := 5) sc_formed.nd rfl (Or.inl rfl)) (qgs_cons (qg_name (i := 6) sc_formed.nd rfl (Or.inl rfl)) (qgs_cons (qg_name (i := 8) sc_formed.nd rfl (Or.inl rfl)) qgs_nil)))) (qss_cons (qs_set (i := 9) sc_formed.nd rfl (Or.inl rfl) (qe_meth (qv 2) T_Board.cl m_Board_run G_Board_run (hr.mono (by decide)) b_Board_run .nil pass0 (qa_cons (qv 5) (qa_cons (qv 6) (qa_cons (qv 8) qa_nil))))) (qss_one (qs_if (qt_cmpR op_ge (qe_callB call_lenS (by rfl) n_len PySem.boot_len (qa_cons (qe_ix ix_tup (qv 9) qe_int (fun _ _ => rfl)) qa_nil)) qe_int (nomark _)) (qss_one (qs_expr (qe_bm PySem.F.plainAttrs_list PySem.F.slot_list_append PySem.F.type_list_append mt_append (qv 7) (qa_cons (qe_tup (qa_cons (qe_ix ix_tup (qv 9) qe_int (fun _ _ => rfl)) (qa_cons (qe_ix ix_tup (qv 9) qe_int (fun _ _ => rfl)) (qa_cons (qv 8) (qa_cons (qe_ix ix_tup (qv 9) qe_int (fun _ _ => rfl)) qa_nil))))) qa_nil)))) qss_nil)))) (qss_one (qs_ret (qe_callTy call_tuple_of (by rfl) n_tuple PyProof.Rows.boot_tuple (qa_cons (qv 7) qa_nil)))))))))), ?_⟩
    refine ⟨_, rfl, b, dx, _, rfl, ex, rfl, _, rfl, b, t, as, ts, r, w, rows, marks, bi, bj, rfl, BA, ht, hL, hin, fun x1 H1 s1 B1 => ?_⟩
    have hb' := laid_blk BA.ok.br hin
    generalize hR : laidF rows ts = R at B1 hb'
    refine ⟨fun σ H' => Same H1 H' ∧ σ = [some (.ref b), some (.ref t), some (.ref x1), some (.int (lnB ts)), none, none, none, none, none, none], ?_, ?_⟩
    · refine ⟨_, rfl, t, as, ts, rfl, s1 _ _ ht, hL.mv s1, h0, h7, hl, fun H2 s2 => ⟨_, rfl, ?_⟩⟩
      by_cases z : lnB ts = 0
      · rw [decide_eq_true z]
        refine iteT ⟨s2, ?_⟩
        rw [z]; rfl
      · rw [decide_eq_false z]
        refine iteF ⟨s2, ?_⟩
        rw [show lnB ts = 1 by omega]; rfl
    rintro σ H2 ⟨s2, rfl⟩
    have s12 := s1.trans s2
    have hL2 := hL.mv s12
    have ht2 := s12 _ _ ht
    obtain ⟨g0, e0⟩ := lay_at hL2 h0
    refine ⟨_, rfl, t, _, _, .ref as[0], rfl, rfl, SqT.of ht2, atI_nat (j := 0) (by simp [g0]), as[0], _, _, _, rfl, rfl, SqT.of e0, atI_nat (j := 0) rfl, _, rfl, t, _, _, .ref as[0], rfl, rfl, SqT.of ht2, atI_nat (j := 0) (by simp [g0]), as[0], _, _, _, rfl, rfl, SqT.of e0, atI_nat (j := 1) rfl, _, rfl, by show 3 ≤ sizeLine; decide, fun t1 ht1 => ⟨by show 1 ≤ sizeLine; decide, fun A0 hA0 => ?_⟩⟩
    have k3 : Same H2 (upd H2 t1 (HO.tup [.int ts[0].1, .int ts[0].2.1, .int (lnB ts)])) := Same.upd ht1
    have k4 := k3.upd' (o := HO.lst [.ref t1]) (k3.free hA0)
    have hA0' := k3.free hA0
    have n1A : t1 ≠ A0 := fun z => by rw [← z, upd_same] at hA0; cases hA0
    have e1 : upd (upd H2 t1 (HO.tup [.int ts[0].1, .int ts[0].2.1, .int (lnB ts)])) A0 (HO.lst [.ref t1]) t1 = some (.tup [.int ts[0].1, .int ts[0].2.1, .int (lnB ts)]) := by rw [upd_ne n1A, upd_same]
    have eA : upd (upd H2 t1 (HO.tup [.int ts[0].1, .int ts[0].2.1, .int (lnB ts)])) A0 (HO.lst [.ref t1]) A0 = some (.lst [.ref t1]) := upd_same
    generalize upd (upd H2 t1 (HO.tup [.int ts[0].1, .int ts[0].2.1, .int (lnB ts)])) A0 (HO.lst [.ref t1]) = H4 at k4 e1 eA ⊢
    have ht4 := k4 _ _ ht2
    have hL4 := hL2.mv k4
    have e1l : (1 : Int) - (lnB ts : Int) = ((1 - lnB ts : Nat) : Int) := by omega
    refine ⟨_, rfl, .inl ⟨rfl, _, SqL.of eA⟩, _, rfl, t, rfl, ⟨_, SqT.of ht4⟩, fun N hN => compG3_tup (K := K) (KT := K) (a := t) (f := hideS [5, 6] 0) (tt := tYes) (xs := as.map V.ref) (fun n ys H5 => ∃ cs : List Addr, ys = cs.map V.ref ∧ cs.length = n ∧ H5 N = some (.lst ys) ∧ Same H4 H5 ∧ AL3 H5 cs ((ts.take n).map fun t => (t.1, t.2.1, 1 - lnB ts)))
      ⟨[], rfl, rfl, upd_same, Same.upd hN, ObjL.nil⟩ (fun n ys H5 _ h => by obtain ⟨_, _, _, _, sm, _⟩ := h; exact SqT.of (sm _ _ ht4)) ?_ ?_⟩
    · rintro n x ys H5 hx ⟨cs, rfl, hcl, hN5, sm5, hA5⟩
      have hn : n < as.length := by have := (List.getElem?_eq_some_iff.mp hx).1; simpa using this
      have hnt : n < ts.length := by omega
      rw [List.getElem?_map, List.getElem?_eq_getElem hn] at hx
      have hx : V.ref as[n] = x := Option.some.inj hx
      obtain ⟨_, en⟩ := lay_at (hL4.mv sm5) hnt
      refine turn3 hx.symm (SqT.of en) ?_
      refine ⟨_, rfl, _, rfl, _, rfl, _, _, rfl, rfl, by show 3 ≤ sizeLine; decide, fun g hg => ?_⟩
      have kg : Same H5 (upd H5 g (HO.tup [.int ts[n].1, .int ts[n].2.1, .int (1 - (lnB ts : Int))])) := Same.upd hg
      have hNg := kg _ _ hN5
      refine ⟨hNg, by rw [List.length_map]; exact small1000 (by omega), Nxt.mk (by rw [List.length_map]; exact hn) ⟨cs ++ [g], by simp, by simp [hcl], by rw [upd_same], (sm5.trans kg).upd' hN, ?_⟩⟩
      rw [show ts.take (n + 1) = ts.take n ++ [ts[n]] by rw [List.take_add_one, List.getElem?_eq_getElem hnt]; rfl, List.map_append]
      refine ((hA5.mv kg).app (ObjL.one (x := (ts[n].1, ts[n].2.1, 1 - lnB ts)) ?_)).mvT (tupL hNg)
      rw [upd_same, e1l]
    rintro ys H5 ⟨cs, rfl, hcl, hN5, sm5, hA5⟩
    rw [List.length_map] at hcl
    rw [List.length_map, hal, List.take_length] at hA5
    have eA5 := sm5 _ _ eA
    refine ⟨A0, N, _, _, rfl, rfl, eA5, hN5, by rw [List.length_map, hcl]; exact Nat.le_of_lt (small1000 (by simp; omega)), ?_⟩
    have hask : AL3 (upd H5 A0 (HO.lst ([V.ref t1] ++ cs.map V.ref))) ([t1] ++ cs) (askL ts) := by
      have hone : AL3 H5 [t1] ((ts.take 1).map fun t => (t.1, t.2.1, lnB ts)) := by
        rw [List.take_one, List.head?_eq_getElem?, List.getElem?_eq_getElem h0]
        exact ObjL.one (x := (ts[0].1, ts[0].2.1, lnB ts)) (sm5 _ _ e1)
      exact (hone.app hA5).mvT (tupL eA5)
    have sH6 : Same H1 (upd H5 A0 (HO.lst ([V.ref t1] ++ cs.map V.ref))) := fun a o e => by
      have := (k4.trans sm5) _ _ (s2 _ _ e)
      rw [upd_ne (fun z => by rw [z] at e; have := s2 _ _ e; rw [hA0'] at this; cases this)]
      exact this
    have eA6 : upd H5 A0 (HO.lst ([V.ref t1] ++ cs.map V.ref)) A0 = some (.lst (([t1] ++ cs).map V.ref)) := by rw [upd_same]; simp
    generalize upd H5 A0 (HO.lst ([V.ref t1] ++ cs.map V.ref)) = H6 at hask sH6 eA6 ⊢
    have hasl := hask.len
    have hak : (askL ts).length = 1 + ts.length := by
      unfold askL
      rw [List.length_append, List.length_map, List.length_map, List.length_take]
      omega
    have hain : ∀ n (a : Nat × Nat × Nat), (askL ts)[n]? = some a → a.1 < r ∧ a.2.1 < w ∧ a.2.2 ≤ 1 := fun n a ha => by
      rcases List.mem_append.mp (List.mem_of_getElem? ha) with z | z
      · obtain ⟨u, hu, rfl⟩ := List.mem_map.mp z
        have := hin u (List.mem_of_mem_take hu)
        exact ⟨this.1, this.2.1, hln⟩
      · obtain ⟨u, hu, rfl⟩ := List.mem_map.mp z
        have := hin u hu
        exact ⟨this.1, this.2.1, by show 1 - lnB ts ≤ 1; omega⟩
    refine ⟨by show 0 ≤ sizeLine; decide, fun W hW => ?_⟩
    have hW0 := sH6.free hW
    have nWA : A0 ≠ W := fun z => by rw [← z, eA6] at hW; cases hW
    have kW : Same H6 (upd H6 W (HO.lst [])) := Same.upd hW
    refine ⟨_, rfl, A0, rfl, ⟨_, SqL.of (kW _ _ eA6)⟩, for_list (K := K) (a := A0) (xs := ([t1] ++ cs).map V.ref) (fun n σ H' => ∃ (v6 v7 v8 v9 : Option V) (bs : List Addr), σ = [some (.ref b), some (.ref t), some (.ref x1), some (.int (lnB ts)), some (.ref A0), v6, v7, some (.ref W), v8, v9] ∧ Same H6 H' ∧ H' W = some (.lst (bs.map V.ref)) ∧ bs.length ≤ n ∧ QL H' bs ((((askL ts).take n).map (qd R)).filter longQ))
      ⟨none, none, none, none, [], rfl, kW, upd_same, Nat.le_refl _, ObjL.nil⟩ (fun n σ H' _ h => by obtain ⟨_, _, _, _, _, _, sm, _⟩ := h; exact SqL.of (sm _ _ eA6)) ?_ ?_⟩
    · rintro n x σ H' hx ⟨v6, v7, v8, v9, bs, rfl, sm, hWb, hbl, hQ⟩
      have hn : n < ([t1] ++ cs).length := by have := (List.getElem?_eq_some_iff.mp hx).1; simpa using this
      rw [List.getElem?_map, List.getElem?_eq_getElem hn] at hx
      have hx : V.ref ([t1] ++ cs)[n] = x := Option.some.inj hx
      subst hx
      obtain ⟨a, ea, hat⟩ := (hask.mv sm).get hn
      obtain ⟨c1, c2, c3⟩ := hain n a ea
      have hn9 : n < 9 := by rw [hasl, hak] at hn; omega
      refine ⟨([t1] ++ cs)[n], _, rfl, SqT.of hat, rfl, _, _, rfl, _, _, rfl, _, _, rfl, rfl, ?_⟩
      have B2 := B1.mv (sH6.trans sm)
      obtain ⟨dx1, _, _, _, ex1, _⟩ := id B2.ex
      refine ⟨_, rfl, x1, dx1, _, rfl, ex1, rfl, _, rfl, _, rfl, _, rfl, x1, r, w, R, marks, bi, bj, a.1, a.2.1, (a.2.2 : Int), rfl, B2, c1, c2, by omega, fun t2 H7 s7 _ ht7 => ?_⟩
      rw [runV_quad (r := r) (w := w) c3] at ht7
      have hlen := quad_len hb' r9 w9 c1 (j := a.2.1) (wy := a.2.2)
      have hS7 := SqT.of (K := K) ht7
      have hWb7 := s7 _ _ hWb
      refine ⟨_, rfl, t2, _, _, _, rfl, rfl, hS7, atI_nat (j := 2) rfl, _, rfl, Nat.le_of_lt (small1000 (by omega)), _, _, rfl, rfl, _, rfl, ?_⟩
      have etake : (askL ts).take (n + 1) = (askL ts).take n ++ [a] := by rw [List.take_add_one, ea]; rfl
      by_cases hc : longQ (qd R a) = true
      · have : decide ((2 : Int) ≤ ((quad R a.1 a.2.1 a.2.2).2.2.2.length : Int)) = true := decide_eq_true (by have := of_decide_eq_true hc; show (2 : Int) ≤ ((qd R a).2.2.2.length : Int); omega)
        rw [this]
        refine iteT ⟨_, rfl, .inl ⟨rfl, _, SqL.of hWb7⟩, _, rfl, t2, _, _, _, rfl, rfl, hS7, atI_nat (j := 0) rfl, _, rfl, t2, _, _, _, rfl, rfl, hS7, atI_nat (j := 1) rfl, _, rfl, _, rfl, t2, _, _, _, rfl, rfl, hS7, atI_nat (j := 2) rfl, by show 4 ≤ sizeLine; decide, fun g hg => ?_⟩
        have kg : Same H7 (upd H7 g (HO.tup [.int (quad R a.1 a.2.1 a.2.2).1, .int (quad R a.1 a.2.1 a.2.2).2.1, .int a.2.2, .str (S (quad R a.1 a.2.1 a.2.2).2.2.2)])) := Same.upd hg
        have hWg := kg _ _ hWb7
        refine ⟨W, _, _, rfl, rfl, hWg, by rw [List.length_map]; exact small1000 (by omega), ?_⟩
        refine ⟨_, _, _, _, bs ++ [g], rfl, ((sm.trans s7).trans kg).upd' hW, by rw [upd_same]; simp, by simp; omega, ?_⟩
        rw [etake, List.map_append, List.filter_append]
        have e2 : ([a].map (qd R)).filter longQ = [qd R a] := by simp [hc]
        rw [e2]
        exact (((hQ.mv s7).mv kg).app (ObjL.one (x := qd R a) upd_same)).mvT (tupL hWg)
      · have : decide ((2 : Int) ≤ ((quad R a.1 a.2.1 a.2.2).2.2.2.length : Int)) = false := decide_eq_false (fun z => hc (decide_eq_true (by have z : (2 : Int) ≤ ((qd R a).2.2.2.length : Int) := z; omega)))
        rw [this]
        refine iteF ⟨_, _, _, _, bs, rfl, sm.trans s7, hWb7, by omega, ?_⟩
        rw [etake, List.map_append, List.filter_append]
        have e2 : ([a].map (qd R)).filter longQ = [] := by simp [hc]
        rw [e2, List.append_nil]
        exact hQ.mv s7
    · rintro σ H' ⟨v6, v7, v8, v9, bs, rfl, sm, hWb, hbl, hQ⟩
      rw [List.length_map, hasl, List.take_length] at hQ
      refine ⟨_, rfl, W, _, rfl, .inl ⟨SqL.of hWb, fun T hT => ?_⟩⟩
      have k : Same H' (upd H' T (HO.tup (bs.map V.ref))) := Same.upd hT
      refine q T bs _ (((s1.trans sH6).trans sm).trans k) upd_same ?_
      unfold wordsF
      rw [hR]
      exact hQ.mv k

end
end My
end

section
set_option Elab.async false
set_option linter.all false
set_option maxRecDepth 100000
set_option maxHeartbeats 2000000
namespace My
open PySem L2
section
variable {P : Program} {w : World} {K : PySem.W.Frag} {mg : Str → Option Value} {base : Heap}
abbrev PL2 := ObjL (fun q : Nat × Nat => [V.int q.1, V.int q.2])
def spCellsOf : Sp := fun vs H Q _ => ∃ (t : Addr) (as : List Addr) (ts : List Trip), vs = [.ref t] ∧ H t = some (.tup (as.map V.ref)) ∧ LayL H as ts ∧ ts.length ≤ 100 ∧
  ∀ (L : Addr) (cs : List Addr) (H' : Hp), Same H H' → H' L = some (.lst (cs.map V.ref)) → PL2 H' cs (ts.map fun t => (t.1, t.2.1)) → Q (.ref L) H'
theorem ok_cells_of (D : DefAt K mg "cells_of" s_cells_of ["laying"]) : Def P w K mg base "cells_of" 1 ["laying"] spCellsOf := by
  refine D.qok sc_cells_of (fun vs H Q E h => ?_) (fun f cdv A outer s H vs Q E hr h => ?_)
  · obtain ⟨t, as, ts, rfl, _⟩ := h
    rfl
  · obtain ⟨t, as, ts, rfl, ht, hL, h7, q⟩ := h
    have hal := hL.len
    refine ⟨_, (qss_one (qs_ret (qe_compG (ns := ["row", "column", "sign"]) rfl (CompG.of ["laying"] [] (by kernel_rfl)) (qi_tup (qv 0)) (fun _ _ _ _ _ => (tg_tup3 K rfl (show (["row", "column", "sign", "laying"] : List Str).Nodup by decide +kernel) rfl rfl rfl (by rfl) (by rfl) (by rfl))) (fun _ _ _ _ _ => qts_nil) (fun _ _ _ _ _ => (qe_tup (qa_cons (qv 0) (qa_cons (qv 1) qa_nil))))))), ?_⟩
    refine ⟨_, rfl, t, rfl, ⟨_, SqT.of ht⟩, fun N hN => compG3_tup (K := K) (KT := K) (a := t) (f := hideS [] 0) (tt := tYes) (xs := as.map V.ref) (fun n ys H5 => ∃ cs : List Addr, ys = cs.map V.ref ∧ cs.length = n ∧ H5 N = some (.lst ys) ∧ Same H H5 ∧ PL2 H5 cs ((ts.take n).map fun t => (t.1, t.2.1)))
      ⟨[], rfl, rfl, upd_same, Same.upd hN, ObjL.nil⟩ (fun n ys H5 _ h => by obtain ⟨_, _, _, _, sm, _⟩ := h; exact SqT.of (sm _ _ ht)) ?_ ?_⟩
    · rintro n x ys H5 hx ⟨cs, rfl, hcl, hN5, sm5, hA5⟩
      have hn : n < as.length := by have := (List.getElem?_eq_some_iff.mp hx).1; simpa using this
      have hnt : n < ts.length := by omega
      rw [List.getElem?_map, List.getElem?_eq_getElem hn] at hx
      have hx : V.ref as[n] = x := Option.some.inj hx
      obtain ⟨_, en⟩ := lay_at (hL.mv sm5) hnt
      refine turn3 hx.symm (SqT.of en) ?_
      refine ⟨_, rfl, _, rfl, by show 2 ≤ sizeLine; decide, fun g hg => ?_⟩
      have kg : Same H5 (upd H5 g (HO.tup [.int ts[n].1, .int ts[n].2.1])) := Same.upd hg
      have hNg := kg _ _ hN5
      refine ⟨hNg, by rw [List.length_map]; exact small1000 (by omega), Nxt.mk (by rw [List.length_map]; exact hn) ⟨cs ++ [g], by simp, by simp [hcl], by rw [upd_same], (sm5.trans kg).upd' hN, ?_⟩⟩
      rw [show ts.take (n + 1) = ts.take n ++ [ts[n]] by rw [List.take_add_one, List.getElem?_eq_getElem hnt]; rfl, List.map_append]
      exact ((hA5.mv kg).app (ObjL.one (x := (ts[n].1, ts[n].2.1)) upd_same)).mvT (tupL hNg)
    · rintro ys H5 ⟨cs, rfl, hcl, hN5, sm5, hA5⟩
      rw [List.length_map, hal, List.take_length] at hA5
      exact q N cs H5 sm5 hN5 hA5

def cellT (t : Trip) : Nat × Nat := (t.1, t.2.1)
theorem HasDs.ofP {H : Hp} : ∀ {cs : List Addr} {cc : List (Nat × Nat)}, PL2 H cs cc → HasDs K H 1 (cc.map fun c => Dt.tup [.int c.1, .int c.2]) (cs.map V.ref)
  | [], [], _ => .nil
  | [], _ :: _, h => by have := h.len; simp at this
  | _ :: _, [], h => by have := h.len; simp at this
  | a :: cs, c :: cc, h => .cons (.tup (SqT.of (h.at_ 0 a c rfl rfl)) (.cons (.int _) (.cons (.int _) .nil))) (HasDs.ofP ⟨by have := h.len; simpa using this, fun i a x h1 h2 => h.at_ (i + 1) a x h1 h2⟩)
theorem mem_dt {c : Nat × Nat} {cc : List (Nat × Nat)} : Dt.tup [.int c.1, .int c.2] ∈ (cc.map fun c => Dt.tup [.int (c.1 : Int), .int (c.2 : Int)]) ↔ c ∈ cc := by
  constructor
  · intro h
    obtain ⟨d, hd, e⟩ := List.mem_map.mp h
    injection e with e
    injection e with e1 e2
    injection e1 with e1
    injection e2 with e2
    injection e2 with e2
    have : d = c := Prod.ext (Int.ofNat.inj e1) (Int.ofNat.inj e2)
    rw [← this]; exact hd
  · intro h
    exact List.mem_map.mpr ⟨c, h, rfl⟩
def wf (kvs : List (Key × V)) (c : Nat) : Int := match valV kvs (keyS [c]) with
  | some (.int i) => i
  | _ => 0
theorem val_in {kvs : List (Key × V)} {k : Key} {v : V} (h : valV kvs k = some v) : (k, v) ∈ kvs := by
  unfold valV at h
  cases e : kvs.find? (fun kv => decide (kv.1 = k)) with
  | none => rw [e] at h; cases h
  | some p =>
    rw [e] at h
    have h : p.2 = v := Option.some.inj h
    have m := List.mem_of_find?_eq_some e
    have q := List.find?_some e
    have q : p.1 = k := by simpa using q
    rw [← h, ← q]; exact m
theorem wf_get {kvs : List (Key × V)} (h : WD kvs) (c : Nat) : (valV kvs (keyS [c])).getD (.int 0) = .int (wf kvs c) := by
  unfold wf
  cases e : valV kvs (keyS [c]) with
  | none => rfl
  | some v =>
    obtain ⟨d, i, q, _⟩ := h _ (val_in e)
    have : v = V.int i := congrArg Prod.snd q
    subst this; rfl
theorem wf_no {kvs : List (Key × V)} (h : WD kvs) {c : Nat} (hc : ¬ (97 ≤ c ∧ c ≤ 122)) : wf kvs c = 0 := by
  unfold wf
  cases e : valV kvs (keyS [c]) with
  | none => rfl
  | some v =>
    obtain ⟨d, i, q, h1, h2⟩ := h _ (val_in e)
    have : keyS [c] = keyS [d] := congrArg Prod.fst q
    have : S [c] = S [d] := Sum.inr.inj this
    have : [c] = [d] := S_inj this
    have : c = d := by simpa using this
    omega
def spWorth : Sp := fun vs H Q _ => ∃ (d : Addr) (kvs : List (Key × V)) (c : Nat), vs = [.ref d, .str (S [c])] ∧ Rd H d (.dK kvs) ∧ WD kvs ∧ Q (.int (wf kvs c)) H
theorem ok_worth_of (D : DefAt K mg "worth_of" s_worth_of ["worths", "sign"]) : Def P w K mg base "worth_of" 1 ["worths", "sign"] spWorth := by
  refine D.qok sc_worth_of (fun vs H Q E h => ?_) (fun f cdv A outer s H vs Q E hr h => ?_)
  · obtain ⟨d, kvs, c, rfl, _⟩ := h
    rfl
  · obtain ⟨d, kvs, c, rfl, hd, hW, q⟩ := h
    have hu := hu_of hr
    refine ⟨_, (qss_one (qs_ret (qe_ifExp (qt_chain op_leS op_leS (qe_strS [97] (by decide +kernel)) (qv 1) (qe_strS [122] (by decide +kernel))) (qe_dget2 hu (qv 0) (qv 1) qe_int ⟨rfl, rfl, rfl, rfl⟩) qe_int))), ?_⟩
    refine ⟨_, rfl, [97], [c], rfl, rfl, decide (97 ≤ c), by rw [dlt1], ?_⟩
    by_cases c1 : 97 ≤ c
    · rw [decide_eq_true c1]
      refine iteT ⟨[c], [122], rfl, rfl, _, rfl, ?_⟩
      rw [dlt1]
      by_cases c2 : c ≤ 122
      · rw [decide_eq_true c2]
        refine iteT ⟨_, rfl, d, rfl, .inl ⟨_, hd⟩, _, rfl, _, DGet.rd (k := keyS [c]) hd, ?_⟩
        rw [wf_get hW]; exact q
      · rw [decide_eq_false c2]
        refine iteF ?_
        have e := wf_no hW (c := c) (by omega)
        rw [e] at q; exact q
    · rw [decide_eq_false c1]
      refine iteF ⟨_, rfl, iteF ?_⟩
      have e := wf_no hW (c := c) (by omega)
      rw [e] at q; exact q
def spCellIn : Sp := fun vs H Q _ => ∃ (a : Addr) (q : Quad) (n : Nat), vs = [.ref a, .int n] ∧ QuadAt H a q ∧ q.2.2.1 ≤ 1 ∧
  ∀ (t : Addr) (H' : Hp), Same H H' → H' t = some (.tup [.int ((q.1 + n * q.2.2.1 : Nat) : Int), .int ((q.2.1 + n * (1 - q.2.2.1) : Nat) : Int)]) → Q (.ref t) H'
theorem ok_cell_in (D : DefAt K mg "cell_in" s_cell_in ["word", "place"]) : Def P w K mg base "cell_in" 1 ["word", "place"] spCellIn := by
  refine D.qok sc_cell_in (fun vs H Q E h => ?_) (fun f cdv A outer s H vs Q E hr h => ?_)
  · obtain ⟨a, q, n, rfl, _⟩ := h
    rfl
  · obtain ⟨a, ⟨i, j, wy, l⟩, n, rfl, ha, hwy, q⟩ := h
    have hS := SqT.of (K := K) ha
    refine ⟨_, (qss_one (qs_ret (qe_ifExp (qt_cmpR op_eq (qe_ix ix_tup (qv 0) qe_int (fun _ _ => rfl)) qe_int (nomark _)) (qe_tup (qa_cons (qe_ix ix_tup (qv 0) qe_int (fun _ _ => rfl)) (qa_cons (qe_op op_add (qe_ix ix_tup (qv 0) qe_int (fun _ _ => rfl)) (qv 1)) qa_nil))) (qe_tup (qa_cons (qe_op op_add (qe_ix ix_tup (qv 0) qe_int (fun _ _ => rfl)) (qv 1)) (qa_cons (qe_ix ix_tup (qv 0) qe_int (fun _ _ => rfl)) qa_nil)))))), ?_⟩
    refine ⟨_, rfl, a, _, _, _, rfl, rfl, hS, atI_nat (j := 2) rfl, ?_⟩
    by_cases z : wy = 0
    · subst z
      refine ⟨rfl, _, rfl, iteT ⟨_, rfl, a, _, _, _, rfl, rfl, hS, atI_nat (j := 0) rfl, _, rfl, a, _, _, _, rfl, rfl, hS, atI_nat (j := 1) rfl, _, rfl, _, _, rfl, rfl, by show 2 ≤ sizeLine; decide, fun t ht => ?_⟩⟩
      refine q t _ (Same.upd ht) ?_
      rw [upd_same]
      simp
    · have z1 : wy = 1 := by simp only at hwy; omega
      subst z1
      refine ⟨rfl, _, rfl, iteF ⟨_, rfl, a, _, _, _, rfl, rfl, hS, atI_nat (j := 0) rfl, _, rfl, _, _, rfl, rfl, _, rfl, a, _, _, _, rfl, rfl, hS, atI_nat (j := 1) rfl, by show 2 ≤ sizeLine; decide, fun t ht => ?_⟩⟩
      refine q t _ (Same.upd ht) ?_
      rw [upd_same]
      simp


end
end My
end

section
set_option Elab.async false
set_option linter.all false
set_option maxRecDepth 100000
set_option maxHeartbeats 2000000
namespace My
open PySem L2
section
variable {P : Program} {w : World} {K : PySem.W.Frag} {mg : Str → Option Value} {base : Heap}
def lmF (c : Nat) : Int := if c = 50 then 2 else if c = 51 then 3 else if c = 52 then 4 else 1
def wmF (c : Nat) : Int := if c = 98 then 2 else if c = 99 then 3 else if c = 100 then 4 else 1
def LMK : List (Key × V) := [(keyS [50], .int 2), (keyS [51], .int 3), (keyS [52], .int 4)]
def WMK : List (Key × V) := [(keyS [98], .int 2), (keyS [99], .int 3), (keyS [100], .int 4)]
theorem key_one (a b : Nat) : decide (keyS [a] = keyS [b]) = decide (a = b) := by
  by_cases h : a = b
  · subst h; simp
  · have : ¬ keyS [a] = keyS [b] := fun z => h (by have := S_inj (Sum.inr.inj z); simpa using this)
    rw [decide_eq_false h, decide_eq_false this]
theorem lm_get (c : Nat) : (valV LMK (keyS [c])).getD (.int 1) = .int (lmF c) := by
  unfold valV LMK lmF
  simp only [List.find?_cons, key_one]
  by_cases h1 : c = 50
  · subst h1; rfl
  by_cases h2 : c = 51
  · subst h2; rfl
  by_cases h3 : c = 52
  · subst h3; rfl
  rw [decide_eq_false (fun z => h1 z.symm), decide_eq_false (fun z => h2 z.symm), decide_eq_false (fun z => h3 z.symm), if_neg h1, if_neg h2, if_neg h3]
  rfl
theorem wm_get (c : Nat) : (valV WMK (keyS [c])).getD (.int 1) = .int (wmF c) := by
  unfold valV WMK wmF
  simp only [List.find?_cons, key_one]
  by_cases h1 : c = 98
  · subst h1; rfl
  by_cases h2 : c = 99
  · subst h2; rfl
  by_cases h3 : c = 100
  · subst h3; rfl
  rw [decide_eq_false (fun z => h1 z.symm), decide_eq_false (fun z => h2 z.symm), decide_eq_false (fun z => h3 z.symm), if_neg h1, if_neg h2, if_neg h3]
  rfl
def sx (q : Quad) (k : Nat) : Nat := q.1 + k * q.2.2.1
def sy (q : Quad) (k : Nat) : Nat := q.2.1 + k * (1 - q.2.2.1)
def ptS (M : List (List Nat)) (kvs : List (Key × V)) (ts : List Trip) (q : Quad) (k c : Nat) (p : Int × Int) : Int × Int :=
  if (sx q k, sy q k) ∈ ts.map cellT then (p.1 + wf kvs c * lmF (cell M (sx q k) (sy q k)), p.2 * wmF (cell M (sx q k) (sy q k))) else (p.1 + wf kvs c, p.2)
def ptN (M : List (List Nat)) (kvs : List (Key × V)) (ts : List Trip) (q : Quad) : Nat → Int × Int
  | 0 => (0, 1)
  | n + 1 => ptS M kvs ts q n (q.2.2.2.getD n 0) (ptN M kvs ts q n)
def ptF (M : List (List Nat)) (kvs : List (Key × V)) (ts : List Trip) (q : Quad) : Int := (ptN M kvs ts q q.2.2.2.length).1 * (ptN M kvs ts q q.2.2.2.length).2
theorem lm_b (c : Nat) : 1 ≤ lmF c ∧ lmF c ≤ 4 := by
  unfold lmF; split
  · omega
  split
  · omega
  split <;> omega
theorem wm_b (c : Nat) : 1 ≤ wmF c ∧ wmF c ≤ 4 := by
  unfold wmF; split
  · omega
  split
  · omega
  split <;> omega
theorem pt_b (M : List (List Nat)) (kvs : List (Key × V)) (ts : List Trip) (q : Quad) : ∀ n, 1 ≤ (ptN M kvs ts q n).2 ∧ (ptN M kvs ts q n).2 ≤ 4 ^ n
  | 0 => ⟨Int.le_refl _, Int.le_refl _⟩
  | n + 1 => by
    obtain ⟨h1, h2⟩ := pt_b M kvs ts q n
    show 1 ≤ (ptS _ _ _ _ _ _ _).2 ∧ (ptS _ _ _ _ _ _ _).2 ≤ 4 ^ (n + 1)
    unfold ptS
    rw [Int.pow_succ]
    split
    · obtain ⟨w1, w2⟩ := wm_b (cell M (sx q n) (sy q n))
      refine ⟨?_, Int.mul_le_mul h2 w2 (by omega) (by omega)⟩
      have := Int.mul_le_mul h1 w1 (by omega) (by omega)
      simpa using this
    · refine ⟨h1, ?_⟩
      simp only
      omega
theorem pt_c (M : List (List Nat)) (kvs : List (Key × V)) (ts : List Trip) (q : Quad) {n : Nat} (hn : n ≤ 20) : -(2 ^ 64) < (ptN M kvs ts q n).2 ∧ (ptN M kvs ts q n).2 < 2 ^ 64 := by
  obtain ⟨h1, h2⟩ := pt_b M kvs ts q n
  have h3 : (4 : Int) ^ n ≤ 4 ^ 20 := by
    have := Nat.pow_le_pow_right (show 0 < 4 by decide) hn
    exact_mod_cast this
  have h4 : (4 : Int) ^ 20 = 1099511627776 := by decide
  have h5 : (2 : Int) ^ 64 = 18446744073709551616 := by decide
  omega
structure QIn (r w : Nat) (q : Quad) : Prop where
  way : q.2.2.1 ≤ 1
  len : q.2.2.2.length ≤ 20
  inn : ∀ k, k < q.2.2.2.length → sx q k < r ∧ sy q k < w
def spPoints (C : Addr) : Sp := fun vs H Q _ => ∃ (b d t a : Addr) (kvs : List (Key × V)) (as : List Addr) (ts : List Trip) (q : Quad) (r w : Nat) (rows marks : List (List Nat)) (bi bj : Nat), vs = [.ref b, .ref d, .ref t, .ref a] ∧ BoardAt C H b r w rows marks bi bj ∧ Rd H d (.dK kvs) ∧ WD kvs ∧ H t = some (.tup (as.map V.ref)) ∧ LayL H as ts ∧ ts.length ≤ 7 ∧ QuadAt H a q ∧ QIn r w q ∧
  ∀ H', Same H H' → Q (.int (ptF marks kvs ts q)) H'
open Classical in
theorem ok_points {C gl gw : Addr} (D : DefAt K mg "word_points" s_word_points ["board", "worths", "laying", "word"]) (n_enumerate : mg "enumerate" = none) (T_Board : BoardCls K C) (g_LETTER_MARKS : mg "LETTER_MARKS" = some (.ref gl)) (g_WORD_MARKS : mg "WORD_MARKS" = some (.ref gw)) (kl : KDict P w K gl LMK) (kw : KDict P w K gw WMK) (D_cells_of : Def P w K mg base "cells_of" 1 ["laying"] spCellsOf) (D_cell_in : Def P w K mg base "cell_in" 1 ["word", "place"] spCellIn) (D_worth_of : Def P w K mg base "worth_of" 1 ["worths", "sign"] spWorth) : Def P w K mg base "word_points" 2 ["board", "worths", "laying", "word"] (spPoints C) := by
  refine D.qok sc_word_points (fun vs H Q E h => ?_) (fun f cdv A outer s H vs Q E hr h => ?_)
  · obtain ⟨b, d, t, a, kvs, as, ts, q, r, w, rows, marks, bi, bj, rfl, _⟩ := h
    rfl
  · obtain ⟨b, d, t, a, kvs, as, ts, qq, r, w', rows, marks, bi, bj, rfl, BA, hd, hW, ht, hL, h7, ha, hq, q⟩ := h
    obtain ⟨⟨dx, pr, pm, pb, hb, hpr, hpm, hpb⟩, B⟩ := BA
    refine ⟨_, (qss_cons (qs_set (i := 4) sc_word_points.nd rfl (Or.inl rfl) (qe_own D_cells_of (hr.mono (by decide)) rfl (qa_cons (qv 2) qa_nil))) (qss_cons (qs_set (i := 5) sc_word_points.nd rfl (Or.inl rfl) qe_int) (qss_cons (qs_set (i := 6) sc_word_points.nd rfl (Or.inl rfl) qe_int) (qss_cons (qs_for PassesOwn.never rfl (qi_enumS (by rfl) n_enumerate (qa_cons (qe_ix ix_tup (qv 3) qe_int (fun _ _ => rfl)) qa_nil)) (qg_tup rfl (qgs_cons (qg_name (i := 7) sc_word_points.nd rfl (Or.inl rfl)) (qgs_cons (qg_name (i := 8) sc_word_points.nd rfl (Or.inl rfl)) qgs_nil))) (qss_cons (qs_set (i := 9) sc_word_points.nd rfl (Or.inl rfl) (qe_own D_cell_in (hr.mono (by decide)) rfl (qa_cons (qv 3) (qa_cons (qv 7) qa_nil)))) (qss_cons (qs_set (i := 10) sc_word_points.nd rfl (Or.inl rfl) (qe_own D_worth_of (hr.mono (by decide)) rfl (qa_cons (qv 1) (qa_cons (qv 8) qa_nil)))) (qss_cons (qs_cut (qs_if (qt_cmpR (op_inDL hr.units) (qv 9) (qv 4) rfl) (qss_cons (qs_set (i := 11) sc_word_points.nd rfl (Or.inl rfl) (qe_ix ix_S (qe_ix ix_tup (qe_fld (qv 0) rfl) (qe_ix ix_tup (qv 9) qe_int (fun _ _ => rfl)) (fun _ _ => rfl)) (qe_ix ix_tup (qv 9) qe_int (fun _ _ => rfl)) (fun _ _ => rfl))) (qss_cons (qs_set (i := 10) sc_word_points.nd rfl (Or.inl rfl) (qe_op op_mul (qv 10) (qe_dgetG (qe_glob (v := .ref _) (by rfl) g_LETTER_MARKS rfl) (qv 11) qe_int ⟨rfl, rfl, rfl, rfl⟩))) (qss_one (qs_set (i := 6) sc_word_points.nd rfl (Or.inl rfl) (qe_op op_mul (qv 6) (qe_dgetG (qe_glob (v := .ref _) (by rfl) g_WORD_MARKS rfl) (qv 11) qe_int ⟨rfl, rfl, rfl, rfl⟩)))))) qss_nil)) (qss_one (qs_set (i := 5) sc_word_points.nd rfl (Or.inl rfl) (qe_op op_add (qv 5) (qv 10)))))))) (qss_one (qs_ret (qe_op op_mul (qv 5) (qv 6)))))))), ?_⟩
    refine ⟨_, rfl, t, as, ts, rfl, ht, hL, by omega, fun Lc cs H1 s1 hLc hcs => ?_⟩
    refine ⟨_, rfl, a, _, _, _, rfl, rfl, SqT.of (s1 _ _ ha), atI_nat (j := 3) rfl, _, rfl, for_enumS (l := qq.2.2.2) (fun n σ H2 => ∃ v7 v8 v9 v10 v11 : Option V, σ = [some (.ref b), some (.ref d), some (.ref t), some (.ref a), some (.ref Lc), some (.int (ptN marks kvs ts qq n).1), some (.int (ptN marks kvs ts qq n).2), v7, v8, v9, v10, v11] ∧ Same H1 H2)
      ⟨none, none, none, none, none, rfl, Same.refl _⟩ ?_ ?_⟩
    · rintro n c σ H2 T hc ⟨v7, v8, v9, v10, v11, rfl, s2⟩ hT
      have hn : n < qq.2.2.2.length := (List.getElem?_eq_some_iff.mp hc).1
      obtain ⟨hx, hy⟩ := hq.inn n hn
      have kT : Same H2 (upd H2 T (HO.tup [.int n, .str (S [c])])) := Same.upd hT
      refine ⟨T, _, rfl, SqT.of upd_same, rfl, _, _, rfl, _, _, rfl, rfl, ?_⟩
      have s3 := (s1.trans s2).trans kT
      have s13 := s2.trans kT
      generalize upd H2 T (HO.tup [.int n, .str (S [c])]) = H3 at kT s3 s13 ⊢
      refine ⟨_, rfl, _, rfl, a, qq, n, rfl, s3 _ _ ha, hq.way, fun g H4 s4 hg => ?_⟩
      have s34 := s3.trans s4
      refine ⟨_, rfl, _, rfl, d, kvs, c, rfl, hd.mv s34, hW, ?_⟩
      have gi : sx qq n < marks.length := by rw [B.bm.len]; exact hx
      have hwi : marks[sx qq n].length = w' := B.bm.wid _ (List.getElem_mem _)
      have gj : sy qq n < marks[sx qq n].length := by rw [hwi]; exact hy
      have hmr : marks.getD (sx qq n) [] = marks[sx qq n] := by rw [List.getD_eq_getElem?_getD, List.getElem?_eq_getElem gi]; rfl
      have w9 := B.w9
      have hgd : qq.2.2.2.getD n 0 = c := by rw [List.getD_eq_getElem?_getD, hc]; rfl
      have hstep : ptN marks kvs ts qq (n + 1) = ptS marks kvs ts qq n c (ptN marks kvs ts qq n) := by rw [← hgd]; rfl
      have hg : H4 g = some (.tup [.int (sx qq n : Nat), .int (sy qq n : Nat)]) := hg
      refine ⟨fun σ H' => ∃ (wv : Int) (u11 : Option V), σ = [some (.ref b), some (.ref d), some (.ref t), some (.ref a), some (.ref Lc), some (.int (ptN marks kvs ts qq n).1), some (.int (ptN marks kvs ts qq (n + 1)).2), some (.int n), some (.str (S [c])), some (.ref g), some (.int wv), u11] ∧ Same H1 H' ∧ (ptN marks kvs ts qq n).1 + wv = (ptN marks kvs ts qq (n + 1)).1, ?_, ?_⟩
      · have hcs4 := hcs.mv (s13.trans s4)
        refine ⟨_, rfl, _, rfl, 2, .tup [.int (sx qq n : Nat), .int (sy qq n : Nat)], (ts.map cellT).map fun c => Dt.tup [.int c.1, .int c.2], by decide, .tup (SqT.of hg) (.cons (.int _) (.cons (.int _) .nil)), .lst (SqL.of ((s13.trans s4) _ _ hLc)) (HasDs.ofP hcs4), ?_⟩
        simp only [Bool.false_eq_true, if_false]
        by_cases hm : (sx qq n, sy qq n) ∈ ts.map cellT
        · rw [decide_eq_true (mem_dt (c := (sx qq n, sy qq n)).mpr hm)]
          refine ⟨_, rfl, iteT ⟨_, rfl, b, C, dx, _, _, rfl, s34 _ _ hb, T_Board.cl, T_Board.nm, rfl, _, rfl, g, _, _, _, rfl, rfl, SqT.of hg, atI_nat (j := 0) rfl, pm, _, _, .str (S (marks.getD (sx qq n) [])), rfl, rfl, SqT.of (s34 _ _ hpm), atI_nat ?_, _, rfl, g, _, _, _, rfl, rfl, SqT.of hg, atI_nat (j := 1) rfl, ?_⟩⟩
          · rw [hmr]; exact Ts_at (List.getElem?_eq_getElem gi)
          generalize hmm : cell marks (sx qq n) (sy qq n) = m
          refine ⟨_, _, m, rfl, rfl, Nat.le_of_lt (small1000 (by rw [hmr, hwi]; omega)), atI_nat (by rw [← hmm, hmr, cell_eq gi gj]; exact List.getElem?_eq_getElem gj), ?_⟩
          obtain ⟨l1, l2⟩ := lm_b m
          obtain ⟨w1, w2⟩ := wm_b m
          have e : ptN marks kvs ts qq (n + 1) = ((ptN marks kvs ts qq n).1 + wf kvs c * lmF m, (ptN marks kvs ts qq n).2 * wmF m) := by rw [hstep]; unfold ptS; rw [if_pos hm, hmm]
          refine ⟨_, rfl, gl, LMK, rfl, kl, _, rfl, keyS [m], rfl, _, lmF m, rfl, lm_get m, .inr ⟨by omega, by omega⟩, ?_⟩
          refine ⟨_, rfl, gw, WMK, rfl, kw, _, rfl, keyS [m], rfl, _, wmF m, rfl, wm_get m, .inr ⟨by omega, by omega⟩, ?_⟩
          refine ⟨wf kvs c * lmF m, some (.str (S [m])), ?_, s13.trans s4, ?_⟩
          · rw [e]; rfl
          · rw [e]
        · rw [decide_eq_false (fun z => hm (mem_dt (c := (sx qq n, sy qq n)).mp z))]
          have e : ptN marks kvs ts qq (n + 1) = ((ptN marks kvs ts qq n).1 + wf kvs c, (ptN marks kvs ts qq n).2) := by rw [hstep]; unfold ptS; rw [if_neg hm]
          refine ⟨_, rfl, iteF ⟨wf kvs c, v11, ?_, s13.trans s4, ?_⟩⟩
          · rw [e]; rfl
          · rw [e]
      · rintro σ H' ⟨wv, u11, rfl, s5, ew⟩
        refine ⟨_, rfl, _, rfl, _, _, rfl, rfl, ?_⟩
        exact ⟨_, _, _, _, _, by rw [← ew]; rfl, s5⟩
    · rintro σ H2 ⟨v7, v8, v9, v10, v11, rfl, s2⟩
      refine ⟨_, rfl, _, rfl, _, _, rfl, rfl, ?_⟩
      exact ⟨.inr (pt_c _ _ _ _ hq.len), q _ (s1.trans s2)⟩

end
end My
end

section
set_option Elab.async false
set_option linter.all false
set_option maxRecDepth 100000
set_option maxHeartbeats 2000000
namespace My
open PySem L2
section
variable {P : Program} {w : World} {K : PySem.W.Frag} {mg : Str → Option Value} {base : Heap}
theorem in_two {m : Nat} (h : mkC m) : (m ∈ [50, 51, 52] ∧ PySem.intText? (S [m]) = some (lmF m)) ∨ (m ∉ [50, 51, 52] ∧ lmF m = 1) := by
  have h : m ∈ [46, 50, 51, 52, 98, 99, 100] := h
  simp only [List.mem_cons, List.not_mem_nil, or_false] at h
  rcases h with rfl | rfl | rfl | rfl | rfl | rfl | rfl
  · exact .inr ⟨by decide, by decide⟩
  · exact .inl ⟨by decide, by decide +kernel⟩
  · exact .inl ⟨by decide, by decide +kernel⟩
  · exact .inl ⟨by decide, by decide +kernel⟩
  · exact .inr ⟨by decide, by decide⟩
  · exact .inr ⟨by decide, by decide⟩
  · exact .inr ⟨by decide, by decide⟩
theorem in_bcd {m : Nat} (h : mkC m) : (m ∈ [98, 99, 100] ∧ ∃ (i : Nat) (rest : List Nat), Builtin.Str.occurrences (S [98, 99, 100]) (S [m]) 0 (S [98, 99, 100]).length 1 = i :: rest ∧ (2 : Int) + (i : Int) = wmF m) ∨ (m ∉ [98, 99, 100] ∧ wmF m = 1) := by
  have h : m ∈ [46, 50, 51, 52, 98, 99, 100] := h
  simp only [List.mem_cons, List.not_mem_nil, or_false] at h
  rcases h with rfl | rfl | rfl | rfl | rfl | rfl | rfl
  · exact .inr ⟨by decide, by decide⟩
  · exact .inr ⟨by decide, by decide⟩
  · exact .inr ⟨by decide, by decide⟩
  · exact .inr ⟨by decide, by decide⟩
  · exact .inl ⟨by decide, 0, [], by decide +kernel, by decide⟩
  · exact .inl ⟨by decide, 1, [], by decide +kernel, by decide⟩
  · exact .inl ⟨by decide, 2, [], by decide +kernel, by decide⟩
def spCount : Sp := fun vs H Q _ => ∃ (pm d t a : Addr) (kvs : List (Key × V)) (as : List Addr) (ts : List Trip) (q : Quad) (r w : Nat) (marks : List (List Nat)), vs = [.ref pm, .ref d, .ref t, .ref a] ∧ H pm = some (.tup (Ts marks)) ∧ Blk r w marks ∧ w ≤ 9 ∧ (∀ l ∈ marks, ∀ c ∈ l, mkC c) ∧ Rd H d (.dK kvs) ∧ WD kvs ∧ H t = some (.tup (as.map V.ref)) ∧ LayL H as ts ∧ ts.length ≤ 7 ∧ QuadAt H a q ∧ QIn r w q ∧
  ∀ H', Same H H' → Q (.int (ptF marks kvs ts q)) H'
open Classical in
theorem ok_count (D : DefAt K mg "_law_count" s_count ["_law_marks_here", "_law_worths_here", "_law_laying", "_law_word"]) (n_len : mg "len" = none) (n_int : mg "int" = none) (n_range : mg "range" = none) : Def P w K mg base "_law_count" 1 ["_law_marks_here", "_law_worths_here", "_law_laying", "_law_word"] spCount := by
  refine D.qok sc_count (fun vs H Q E h => ?_) (fun f cdv A outer s H vs Q E hr h => ?_)
  · obtain ⟨pm, d, t, a, kvs, as, ts, q, r, w, marks, rfl, _⟩ := h
    rfl
  · obtain ⟨pm, d, t, a, kvs, as, ts, qq, r, w', marks, rfl, hpm, hbm, w9, hmk, hd, hW, ht, hL, h7, ha, hq, q⟩ := h
    have hu := hu_of hr
    have hal := hL.len
    have hln := hq.len
    refine ⟨_, (qss_cons (qs_setG (ix := 4) (ns := ["_law_row", "_law_column", "_law_sign_here"]) sc_count.nd rfl (Or.inl rfl) rfl (CompG.of ["_law_marks_here", "_law_worths_here", "_law_laying", "_law_word", "_law_laid", ".5", ".6", "_law_way", "_law_signs", "_law_whole_here", "_law_times", "_law_k", "_law_spot", "_law_worth", "_law_mark"] [5, 6] (by kernel_rfl)) (qi_tup (qv 2)) (fun _ _ _ _ _ => (tg_tup3 K rfl (show (["_law_row", "_law_column", "_law_sign_here", "_law_marks_here", "_law_worths_here", "_law_laying", "_law_word", "_law_laid", ".5", ".6", "_law_way", "_law_signs", "_law_whole_here", "_law_times", "_law_k", "_law_spot", "_law_worth", "_law_mark"] : List Str).Nodup by decide +kernel) rfl rfl rfl (by rfl) (by rfl) (by rfl))) (fun _ _ _ _ _ => qts_nil) (fun _ _ _ _ _ => (qe_tup (qa_cons (qv 0) (qa_cons (qv 1) qa_nil))))) (qss_cons (qs_asg (qv 3) (qg_tup rfl (qgs_cons (qg_name (i := 5) sc_count.nd rfl (Or.inl rfl)) (qgs_cons (qg_name (i := 6) sc_count.nd rfl (Or.inl rfl)) (qgs_cons (qg_name (i := 7) sc_count.nd rfl (Or.inl rfl)) (qgs_cons (qg_name (i := 8) sc_count.nd rfl (Or.inl rfl)) qgs_nil)))))) (qss_cons (qs_set (i := 9) sc_count.nd rfl (Or.inl rfl) qe_int) (qss_cons (qs_set (i := 10) sc_count.nd rfl (Or.inl rfl) qe_int) (qss_cons (qs_for PassesOwn.never rfl (qi_range1 (by rfl) n_range (qa_cons (qe_callB call_lenS (by rfl) n_len PySem.boot_len (qa_cons (qv 8) qa_nil)) qa_nil)) (qg_name (i := 11) sc_count.nd rfl (Or.inl rfl)) (qss_cons (qs_set (i := 12) sc_count.nd rfl (Or.inl rfl) (qe_tup (qa_cons (qe_op op_add (qv 5) (qe_op op_mul (qv 11) (qv 7))) (qa_cons (qe_op op_add (qv 6) (qe_op op_mul (qv 11) (qe_op op_sub qe_int (qv 7)))) qa_nil)))) (qss_cons (qs_set (i := 13) sc_count.nd rfl (Or.inl rfl) (qe_dget2 hu (qv 1) (qe_ix ix_S (qv 8) (qv 11) (fun _ _ => rfl)) qe_int ⟨rfl, rfl, rfl, rfl⟩)) (qss_cons (qs_set (i := 14) sc_count.nd rfl (Or.inl rfl) (qe_ix ix_S (qe_ix ix_tup (qv 0) (qe_ix ix_tup (qv 12) qe_int (fun _ _ => rfl)) (fun _ _ => rfl)) (qe_ix ix_tup (qv 12) qe_int (fun _ _ => rfl)) (fun _ _ => rfl))) (qss_cons (qs_cut (qs_if (QW.qt (qw_and (qt_cmpR (op_inDL hr.units) (qv 12) (qv 4) rfl) (qw_and1 (qt_cmpR op_inS (qv 14) (qe_strS [50, 51, 52] (by decide +kernel)) rfl)))) (qss_one (qs_set (i := 13) sc_count.nd rfl (Or.inl rfl) (qe_op op_mul (qv 13) (qe_callTy call_intS (by rfl) n_int PyProof.Rows.boot_int (qa_cons (qv 14) qa_nil))))) qss_nil)) (qss_cons (qs_cut (qs_if (QW.qt (qw_and (qt_cmpR (op_inDL hr.units) (qv 12) (qv 4) rfl) (qw_and1 (qt_cmpR op_inS (qv 14) (qe_strS [98, 99, 100] (by decide +kernel)) rfl)))) (qss_one (qs_set (i := 10) sc_count.nd rfl (Or.inl rfl) (qe_op op_mul (qv 10) (qe_op op_add qe_int (qe_bm PySem.F.plainAttrs_str PySem.F.slot_str_index PySem.F.type_str_index mt_indexS (qe_strS [98, 99, 100] (by decide +kernel)) (qa_cons (qv 14) qa_nil)))))) qss_nil)) (qss_one (qs_set (i := 9) sc_count.nd rfl (Or.inl rfl) (qe_op op_add (qv 9) (qv 13)))))))))) (qss_one (qs_ret (qe_op op_mul (qv 9) (qv 10))))))))), ?_⟩
    refine ⟨_, rfl, t, rfl, ⟨_, SqT.of ht⟩, fun Lc hLc0 => compG3_tup (K := K) (KT := K) (a := t) (f := hideS [5, 6] 0) (tt := tYes) (xs := as.map V.ref) (fun n ys H5 => ∃ cs : List Addr, ys = cs.map V.ref ∧ cs.length = n ∧ H5 Lc = some (.lst ys) ∧ Same H H5 ∧ PL2 H5 cs ((ts.take n).map cellT))
      ⟨[], rfl, rfl, upd_same, Same.upd hLc0, ObjL.nil⟩ (fun n ys H5 _ h => by obtain ⟨_, _, _, _, sm, _⟩ := h; exact SqT.of (sm _ _ ht)) ?_ ?_⟩
    · rintro n x ys H5 hx ⟨cs, rfl, hcl, hN5, sm5, hA5⟩
      have hn : n < as.length := by have := (List.getElem?_eq_some_iff.mp hx).1; simpa using this
      have hnt : n < ts.length := by omega
      rw [List.getElem?_map, List.getElem?_eq_getElem hn] at hx
      have hx : V.ref as[n] = x := Option.some.inj hx
      obtain ⟨_, en⟩ := lay_at (hL.mv sm5) hnt
      refine turn3 hx.symm (SqT.of en) ?_
      refine ⟨_, rfl, _, rfl, by show 2 ≤ sizeLine; decide, fun g hg => ?_⟩
      have kg : Same H5 (upd H5 g (HO.tup [.int ts[n].1, .int ts[n].2.1])) := Same.upd hg
      have hNg := kg _ _ hN5
      refine ⟨hNg, by rw [List.length_map]; exact small1000 (by omega), Nxt.mk (by rw [List.length_map]; exact hn) ⟨cs ++ [g], by simp, by simp [hcl], by rw [upd_same], (sm5.trans kg).upd' hLc0, ?_⟩⟩
      rw [show ts.take (n + 1) = ts.take n ++ [ts[n]] by rw [List.take_add_one, List.getElem?_eq_getElem hnt]; rfl, List.map_append]
      exact ((hA5.mv kg).app (ObjL.one (x := (ts[n].1, ts[n].2.1)) upd_same)).mvT (tupL hNg)
    · rintro ys H1 ⟨cs, rfl, hcl, hLc, s1, hcs⟩
      rw [List.length_map, hal, List.take_length] at hcs
      refine ⟨_, rfl, a, _, rfl, SqT.of (s1 _ _ ha), rfl, _, _, rfl, _, _, rfl, _, _, rfl, _, _, rfl, rfl, ?_⟩
      refine ⟨_, rfl, _, rfl, Nat.le_of_lt (small1000 (by omega)), _, rfl, by omega, by omega, ?_⟩
      rw [Int.toNat_natCast]
      refine for_range (lo := 0) (n := qq.2.2.2.length) (fun n σ H2 => ∃ v11 v12 v13 v14 : Option V, σ = [some (.ref pm), some (.ref d), some (.ref t), some (.ref a), some (.ref Lc), some (.int qq.1), some (.int qq.2.1), some (.int qq.2.2.1), some (.str (S qq.2.2.2)), some (.int (ptN marks kvs ts qq n).1), some (.int (ptN marks kvs ts qq n).2), v11, v12, v13, v14] ∧ Same H1 H2)
        ⟨none, none, none, none, rfl, Same.refl _⟩ ?_ ?_
      · rintro n σ H2 hn ⟨v11, v12, v13, v14, rfl, s2⟩
        obtain ⟨hx, hy⟩ := hq.inn n hn
        have gi : sx qq n < marks.length := by rw [hbm.len]; exact hx
        have hwi : marks[sx qq n].length = w' := hbm.wid _ (List.getElem_mem _)
        have gj : sy qq n < marks[sx qq n].length := by rw [hwi]; exact hy
        have hway := hq.way
        have hgd : qq.2.2.2.getD n 0 = qq.2.2.2[n] := by rw [List.getD_eq_getElem?_getD, List.getElem?_eq_getElem hn]; rfl
        generalize hcc : qq.2.2.2[n] = c at hgd
        have hstep : ptN marks kvs ts qq (n + 1) = ptS marks kvs ts qq n c (ptN marks kvs ts qq n) := by rw [← hgd]; rfl
        have ex : (qq.1 : Int) + (0 + (n : Int)) * (qq.2.2.1 : Int) = ((sx qq n : Nat) : Int) := by unfold sx; push_cast; rw [Int.zero_add]
        have ey : (qq.2.1 : Int) + (0 + (n : Int)) * (1 - (qq.2.2.1 : Int)) = ((sy qq n : Nat) : Int) := by
          unfold sy
          rw [show (1 : Int) - (qq.2.2.1 : Int) = ((1 - qq.2.2.1 : Nat) : Int) by omega]; push_cast; rw [Int.zero_add]
        refine ⟨_, rfl, _, rfl, _, rfl, _, _, rfl, rfl, .inl ⟨by omega, by omega⟩, _, _, rfl, rfl, _, rfl, _, rfl, _, rfl, _, _, rfl, rfl, _, _, rfl, rfl, .inl ⟨by omega, by omega⟩, _, _, rfl, rfl, by show 2 ≤ sizeLine; decide, fun g hg => ?_⟩
        have kg : Same H2 (upd H2 g (HO.tup [.int ((qq.1 : Int) + (0 + (n : Int)) * (qq.2.2.1 : Int)), .int ((qq.2.1 : Int) + (0 + (n : Int)) * (1 - (qq.2.2.1 : Int)))])) := Same.upd hg
        have hg3 : (upd H2 g (HO.tup [.int ((qq.1 : Int) + (0 + (n : Int)) * (qq.2.2.1 : Int)), .int ((qq.2.1 : Int) + (0 + (n : Int)) * (1 - (qq.2.2.1 : Int)))])) g = some (.tup [.int (sx qq n : Nat), .int (sy qq n : Nat)]) := by rw [upd_same, ex, ey]
        have s13 := s2.trans kg
        dsimp only
        generalize (upd H2 g (HO.tup [.int ((qq.1 : Int) + (0 + (n : Int)) * (qq.2.2.1 : Int)), .int ((qq.2.1 : Int) + (0 + (n : Int)) * (1 - (qq.2.2.1 : Int)))])) = H3 at kg hg3 s13 ⊢
        have s3 := s1.trans s13
        have hd3 := hd.mv s3
        have hmm := cell_eq gi gj
        have hmc : mkC (cell marks (sx qq n) (sy qq n)) := by rw [hmm]; exact hmk _ (List.getElem_mem gi) _ (List.getElem_mem gj)
        generalize hm0 : cell marks (sx qq n) (sy qq n) = m at hmm hmc
        refine ⟨_, rfl, d, rfl, .inl ⟨_, hd3⟩, _, rfl, _, rfl, qq.2.2.2, _, c, rfl, rfl, Nat.le_of_lt (small1000 (by omega)), by rw [Int.zero_add]; exact atI_nat (by rw [List.getElem?_eq_getElem hn, hcc]), _, DGet.rd (k := keyS [c]) hd3, ?_⟩
        rw [wf_get hW]
        refine ⟨_, rfl, _, rfl, g, _, _, _, rfl, rfl, SqT.of hg3, atI_nat (j := 0) rfl, pm, _, _, .str (S marks[sx qq n]), rfl, rfl, SqT.of (s3 _ _ hpm), atI_nat (Ts_at (List.getElem?_eq_getElem gi)), _, rfl, g, _, _, _, rfl, rfl, SqT.of hg3, atI_nat (j := 1) rfl, marks[sx qq n], _, m, rfl, rfl, Nat.le_of_lt (small1000 (by omega)), atI_nat (by rw [List.getElem?_eq_getElem gj, hmm]), ?_⟩
        have hcs3 := hcs.mv s13
        have hdat : HasD K H3 2 (.tup [.int (sx qq n : Nat), .int (sy qq n : Nat)]) (.ref g) := .tup (SqT.of hg3) (.cons (.int _) (.cons (.int _) .nil))
        have hlst : HasD K H3 2 (.lst ((ts.map cellT).map fun c => Dt.tup [.int c.1, .int c.2])) (.ref Lc) := .lst (SqL.of (s13 _ _ hLc)) (HasDs.ofP hcs3)
        obtain ⟨l1, l2⟩ := lm_b m
        obtain ⟨w1, w2⟩ := wm_b m
        refine ⟨fun σ H' => H' = H3 ∧ ∃ wv : Int, σ = [some (.ref pm), some (.ref d), some (.ref t), some (.ref a), some (.ref Lc), some (.int qq.1), some (.int qq.2.1), some (.int qq.2.2.1), some (.str (S qq.2.2.2)), some (.int (ptN marks kvs ts qq n).1), some (.int (ptN marks kvs ts qq n).2), some (.int (0 + (n : Int))), some (.ref g), some (.int wv), some (.str (S [m]))] ∧ (ptN marks kvs ts qq n).1 + wv = (ptN marks kvs ts qq (n + 1)).1, ?_, ?_⟩
        · refine ⟨_, rfl, _, rfl, 2, _, _, by decide, hdat, hlst, ?_⟩
          simp only [Bool.false_eq_true, if_false]
          by_cases hm : (sx qq n, sy qq n) ∈ ts.map cellT
          · rw [decide_eq_true (mem_dt (c := (sx qq n, sy qq n)).mpr hm)]
            have e : ptN marks kvs ts qq (n + 1) = ((ptN marks kvs ts qq n).1 + wf kvs c * lmF m, (ptN marks kvs ts qq n).2 * wmF m) := by rw [hstep]; unfold ptS; rw [if_pos hm, hm0]
            refine ⟨_, rfl, iteT ⟨_, rfl, m, _, rfl, rfl, ?_⟩⟩
            rcases in_two hmc with ⟨hin, hi⟩ | ⟨hin, h1⟩
            · rw [decide_eq_true hin]
              refine ⟨_, rfl, iteT ⟨_, rfl, _, rfl, [m], lmF m, rfl, by show 1 ≤ 640; decide, hi, _, _, rfl, rfl, .inr ⟨by omega, by omega⟩, ?_⟩⟩
              exact ⟨rfl, wf kvs c * lmF m, rfl, by rw [e]⟩
            · rw [decide_eq_false hin]
              exact ⟨_, rfl, iteF ⟨rfl, wf kvs c, rfl, by rw [e, h1, Int.mul_one]⟩⟩
          · rw [decide_eq_false (fun z => hm (mem_dt (c := (sx qq n, sy qq n)).mp z))]
            have e : ptN marks kvs ts qq (n + 1) = ((ptN marks kvs ts qq n).1 + wf kvs c, (ptN marks kvs ts qq n).2) := by rw [hstep]; unfold ptS; rw [if_neg hm]
            refine ⟨_, rfl, iteF ⟨rfl, wf kvs c, rfl, ?_⟩⟩
            rw [e]
        · rintro σ H' ⟨rfl, wv, rfl, ew⟩
          refine ⟨fun σ H2 => H2 = H' ∧ σ = [some (.ref pm), some (.ref d), some (.ref t), some (.ref a), some (.ref Lc), some (.int qq.1), some (.int qq.2.1), some (.int qq.2.2.1), some (.str (S qq.2.2.2)), some (.int (ptN marks kvs ts qq n).1), some (.int (ptN marks kvs ts qq (n + 1)).2), some (.int (0 + (n : Int))), some (.ref g), some (.int wv), some (.str (S [m]))], ?_, ?_⟩
          · refine ⟨_, rfl, _, rfl, 2, _, _, by decide, hdat, hlst, ?_⟩
            simp only [Bool.false_eq_true, if_false]
            by_cases hm : (sx qq n, sy qq n) ∈ ts.map cellT
            · rw [decide_eq_true (mem_dt (c := (sx qq n, sy qq n)).mpr hm)]
              have e : ptN marks kvs ts qq (n + 1) = ((ptN marks kvs ts qq n).1 + wf kvs c * lmF m, (ptN marks kvs ts qq n).2 * wmF m) := by rw [hstep]; unfold ptS; rw [if_pos hm, hm0]
              refine ⟨_, rfl, iteT ⟨_, rfl, m, _, rfl, rfl, ?_⟩⟩
              rcases in_bcd hmc with ⟨hin, i, rest, ho, ei⟩ | ⟨hin, h1⟩
              · rw [decide_eq_true hin]
                refine ⟨_, rfl, iteT ⟨_, rfl, rfl, _, rfl, [98, 99, 100], [m], i, rest, rfl, rfl, ho, _, _, rfl, rfl, _, _, rfl, rfl, .inr ⟨by rw [ei]; omega, by rw [ei]; omega⟩, ?_⟩⟩
                refine ⟨rfl, ?_⟩
                rw [e, ← ei]
                rfl
              · rw [decide_eq_false hin]
                refine ⟨_, rfl, iteF ⟨rfl, ?_⟩⟩
                rw [e, h1, Int.mul_one]
            · rw [decide_eq_false (fun z => hm (mem_dt (c := (sx qq n, sy qq n)).mp z))]
              have e : ptN marks kvs ts qq (n + 1) = ((ptN marks kvs ts qq n).1 + wf kvs c, (ptN marks kvs ts qq n).2) := by rw [hstep]; unfold ptS; rw [if_neg hm]
              refine ⟨_, rfl, iteF ⟨rfl, ?_⟩⟩
              rw [e]
          · rintro σ H2' ⟨rfl, rfl⟩
            refine ⟨_, rfl, _, rfl, _, _, rfl, rfl, ?_⟩
            exact ⟨_, _, _, _, by rw [← ew]; rfl, s13⟩
      · rintro σ H2 ⟨v11, v12, v13, v14, rfl, s2⟩
        refine ⟨_, rfl, _, rfl, _, _, rfl, rfl, ?_⟩
        exact ⟨.inr (pt_c _ _ _ _ hln), q _ (s1.trans s2)⟩
theorem quad_in {r w : Nat} {R : List (List Nat)} (hb : Blk r w R) (r9 : r ≤ 9) (w9 : w ≤ 9) {i j wy : Nat} (hi : i < r) (hj : j < w) (hwy : wy ≤ 1) : QIn r w (quad R i j wy) := by
  refine ⟨hwy, quad_len hb r9 w9 hi, fun k hk => ?_⟩
  have hll := lineOf_len hb hi (j := j) (way := (wy : Int))
  have hk : k < (tailF ((lineOf R i j (wy : Int)).take (placeOf i j (wy : Int))) ++ headF ((lineOf R i j (wy : Int)).drop (placeOf i j (wy : Int)))).length := hk
  rw [List.length_append] at hk
  have a1 := tailF_len ((lineOf R i j (wy : Int)).take (placeOf i j (wy : Int)))
  have a2 := headF_len ((lineOf R i j (wy : Int)).drop (placeOf i j (wy : Int)))
  rw [List.length_take] at a1
  rw [List.length_drop] at a2
  unfold sx sy
  by_cases z : wy = 0
  · subst z
    have ep : placeOf i j ((0 : Nat) : Int) = j := if_pos rfl
    rw [ep] at hk a1 a2
    have hll : (lineOf R i j ((0 : Nat) : Int)).length = w := by rw [hll]; exact if_pos rfl
    rw [hll] at a1 a2
    show i + k * 0 < r ∧ (j - (tailF ((lineOf R i j ((0 : Nat) : Int)).take j)).length) + k * (1 - 0) < w
    omega
  · have z1 : wy = 1 := by omega
    subst z1
    have ep : placeOf i j ((1 : Nat) : Int) = i := if_neg (by decide)
    rw [ep] at hk a1 a2
    have hll : (lineOf R i j ((1 : Nat) : Int)).length = r := by rw [hll]; exact if_neg (by decide)
    rw [hll] at a1 a2
    show (i - (tailF ((lineOf R i j ((1 : Nat) : Int)).take i)).length) + k * 1 < r ∧ j + k * (1 - 1) < w
    omega
theorem words_in {r w : Nat} {rows : List (List Nat)} (hb : Blk r w rows) (r9 : r ≤ 9) (w9 : w ≤ 9) {ts : List Trip} (hin : ∀ t ∈ ts, inB r w t) {q : Quad} (h : q ∈ wordsF rows ts) : QIn r w q := by
  unfold wordsF at h
  obtain ⟨a, ha, rfl⟩ := List.mem_map.mp (List.mem_filter.mp h).1
  have hb' := laid_blk hb hin
  have hln := lnB_le ts
  rcases List.mem_append.mp ha with z | z
  · obtain ⟨u, hu, rfl⟩ := List.mem_map.mp z
    obtain ⟨h1, h2, _⟩ := hin u (List.mem_of_mem_take hu)
    exact quad_in hb' r9 w9 h1 h2 hln
  · obtain ⟨u, hu, rfl⟩ := List.mem_map.mp z
    obtain ⟨h1, h2, _⟩ := hin u hu
    exact quad_in hb' r9 w9 h1 h2 (show 1 - lnB ts ≤ 1 by omega)

end
end My
end

section
set_option Elab.async false
set_option linter.all false
set_option maxRecDepth 100000
set_option maxHeartbeats 2000000
namespace My
open PySem L2
section
variable {P : Program} {w : World} {K : PySem.W.Frag} {mg : Str → Option Value} {base : Heap}
def spWholeL : Sp := fun vs H Q _ => ∃ i : Int, vs = [.int i] ∧ Q (.bl true) H
theorem ok_whole (D : DefAt K mg "_law_whole" s_whole ["_law_found"]) (n_int : mg "int" = none) (n_bool : mg "bool" = none) (n_isinstance : mg "isinstance" = none) : Def P w K mg base "_law_whole" 1 ["_law_found"] spWholeL := by
  refine D.qok sc_whole (fun vs H Q E h => ?_) (fun f cdv A outer s H vs Q E hr h => ?_)
  · obtain ⟨i, rfl, _⟩ := h
    rfl
  · obtain ⟨i, rfl, q⟩ := h
    refine ⟨_, (qss_one (qs_ret (qe_and (qe_callB call_isinst (by rfl) n_isinstance PyProof.Rows.boot_isinstance (qa_cons (qv 0) (qa_cons (qe_bltn (v := .ty "int") (by rfl) n_int PyProof.Rows.boot_int rfl) qa_nil))) (qe_one (qe_not (qe_callB call_isinst (by rfl) n_isinstance PyProof.Rows.boot_isinstance (qa_cons (qv 0) (qa_cons (qe_bltn (v := .ty "bool") (by rfl) n_bool PyProof.Rows.boot_bool rfl) qa_nil)))))))), ?_⟩
    exact ⟨_, rfl, _, _, _, true, rfl, .int _, (by kernel_rfl), true, rfl, iteT ⟨_, rfl, _, _, _, false, rfl, .int _, (by kernel_rfl), false, rfl, q⟩⟩
theorem wf_put {kvs : List (Key × V)} {c0 : Nat} {i : Int} (c : Nat) : wf (putK kvs (keyS [c0]) (.int i)) c = if c = c0 then i else wf kvs c := by
  unfold wf
  rw [valV_put]
  by_cases h : c = c0
  · rw [if_pos h, if_pos (by rw [h])]
  · rw [if_neg h, if_neg (fun z => h (by have := S_inj (Sum.inr.inj z); simpa using this))]
theorem WD.put {kvs : List (Key × V)} (h : WD kvs) {c : Nat} (i : Int) (h1 : 97 ≤ c) (h2 : c ≤ 122) : WD (putK kvs (keyS [c]) (.int i)) := by
  unfold putK
  intro kv m
  split at m
  · obtain ⟨p, hp, rfl⟩ := List.mem_map.mp m
    split
    · rename_i e
      exact ⟨c, i, by rw [e], h1, h2⟩
    · exact h p hp
  · rcases List.mem_append.mp m with m | m
    · exact h kv m
    · rw [List.mem_singleton.mp m]; exact ⟨c, i, rfl, h1, h2⟩
def WB (b : Int) (kvs : List (Key × V)) : Prop := ∀ c, 0 ≤ wf kvs c ∧ wf kvs c ≤ b
theorem WB.put {b : Int} {kvs : List (Key × V)} (h : WB b kvs) {c : Nat} {i : Int} (h1 : 0 ≤ i) (h2 : i ≤ b) : WB b (putK kvs (keyS [c]) (.int i)) := fun e => by
  rw [wf_put]
  split
  · exact ⟨h1, h2⟩
  · exact h e
def spWorthsR : Sp := fun vs H Q _ => ∃ (R : Addr) (x : Int) (ls : List Nat), vs = [.ref R, .str (S ls), .int 500000] ∧ H R = some (.lst [.int x]) ∧ Alph ls ∧
  ∀ (d : Addr) (kvs : List (Key × V)) (H' : Hp), Kp R H H' → H d = none → H' d = some (.dK kvs) → WD kvs → WB 500000 kvs → kvs.length ≤ 26 → Q (.ref d) H'
theorem ok_worthsR (D : DefAt K mg "_law_worths" s_worths ["_law_rest_here", "_law_letters_here", "_law_most"]) (D_take : Def P w K mg base "_law_take" 1 ["_law_rest_here", "_law_base"] spTake) : Def P w K mg base "_law_worths" 2 ["_law_rest_here", "_law_letters_here", "_law_most"] spWorthsR := by
  refine D.qok sc_worths (fun vs H Q E h => ?_) (fun f cdv A outer s H vs Q E hr h => ?_)
  · obtain ⟨R, x, ls, rfl, _⟩ := h
    rfl
  · obtain ⟨R, x, ls, rfl, hR, hA, q⟩ := h
    have hu := hu_of hr
    refine ⟨_, (qss_cons (qs_set (i := 3) sc_worths.nd rfl (Or.inl rfl) qe_dnewK) (qss_cons (qs_for PassesOwn.never rfl (qi_str (qv 1)) (qg_name (i := 4) sc_worths.nd rfl (Or.inl rfl)) (qss_one (qs_if (qt_cmpR op_gt (qe_own D_take (hr.mono (by decide)) rfl (qa_cons (qv 0) (qa_cons qe_int qa_nil))) qe_int (nomark _)) (qss_one (qs_dput hu (qv 3) (qv 4) (qe_own D_take (hr.mono (by decide)) rfl (qa_cons (qv 0) (qa_cons (qe_ix ix_list (qe_lst (qa_cons qe_int (qa_cons (qe_op op_add (qv 2) qe_int) qa_nil))) (qe_own D_take (hr.mono (by decide)) rfl (qa_cons (qv 0) (qa_cons qe_int qa_nil))) (fun _ _ => rfl)) qa_nil))) rfl)) qss_nil))) (qss_one (qs_ret (qv 3))))), ?_⟩
    refine fun d hd => ?_
    have nRd : R ≠ d := fun z => by rw [z, hd] at hR; cases hR
    have hhi := hA.hi
    refine ⟨_, rfl, ls, rfl, for_str (fun i σ H2 => ∃ (v4 : Option V) (kvs : List (Key × V)), σ = [some (.ref R), some (.str (S ls)), some (.int 500000), some (.ref d), v4] ∧ Kp R H H2 ∧ H2 d = some (.dK kvs) ∧ WD kvs ∧ WB 500000 kvs ∧ kvs.length ≤ i)
      ⟨none, [], rfl, (Kp.of hR (Same.refl _)).new hd nRd, upd_same, (fun kv m => nomatch m), (fun c => ⟨by show (0 : Int) ≤ 0; decide, by show (0 : Int) ≤ 500000; decide⟩), Nat.le_refl _⟩ ?_ ?_⟩
    · rintro i c σ H2 hc ⟨v4, kvs, rfl, k2, hd2, hW, hB, hl⟩
      have hi : i < ls.length := (List.getElem?_eq_some_iff.mp hc).1
      obtain ⟨c1, c2⟩ := hA.az _ (List.mem_of_getElem? hc)
      obtain ⟨x2, hR2⟩ := k2.2
      refine ⟨_, rfl, R, x2, 8, rfl, hR2, by decide, by decide, fun d1 y1 hd1 => ?_⟩
      have k3 := k2.trans (Kp.up (H := H2) y1)
      have hR3 : upd H2 R (.lst [.int y1]) R = some (.lst [.int y1]) := upd_same
      have hd3 : upd H2 R (.lst [.int y1]) d = some (.dK kvs) := by rw [upd_ne nRd.symm]; exact hd2
      generalize upd H2 R (.lst [.int y1]) = H3 at k3 hR3 hd3 ⊢
      refine ⟨_, _, rfl, rfl, _, rfl, ite2 (fun _ => ?_) (fun _ => ?_)⟩
      · refine ⟨_, rfl, _, rfl, _, _, rfl, rfl, by show 2 ≤ sizeLine; decide, fun L hL => ?_⟩
        have sL : Same H3 (upd H3 L (HO.lst [V.int 11, V.int (500000 + 1)])) := Same.upd hL
        have hL4 : upd H3 L (HO.lst [V.int 11, V.int (500000 + 1)]) L = some (.lst [V.int 11, V.int 500001]) := upd_same
        have k4 := k3.same sL
        have hR4 := sL _ _ hR3
        have hd4 := sL _ _ hd3
        have nLR : L ≠ R := fun z => by rw [← z, hL] at hR3; cases hR3
        have nLd : L ≠ d := fun z => by rw [← z, hL] at hd3; cases hd3
        generalize upd H3 L (HO.lst [V.int 11, V.int (500000 + 1)]) = H4 at k4 hL4 hR4 hd4 ⊢
        refine ⟨_, rfl, R, y1, 2, rfl, hR4, by decide, by decide, fun d2 y2 hd2' => ?_⟩
        have k5 := k4.trans (Kp.up (H := H4) y2)
        have hR5 : upd H4 R (.lst [.int y2]) R = some (.lst [.int y2]) := upd_same
        have hd5 : upd H4 R (.lst [.int y2]) d = some (.dK kvs) := by rw [upd_ne nRd.symm]; exact hd4
        have hL5 : upd H4 R (.lst [.int y2]) L = some (.lst [V.int 11, V.int 500001]) := by rw [upd_ne nLR]; exact hL4
        generalize upd H4 R (.lst [.int y2]) = H5 at k5 hR5 hd5 hL5 ⊢
        obtain ⟨m, hm, hm1, hm2⟩ : ∃ m : Nat, atI [V.int 11, V.int 500001] (d2 : Int) = some (.int (m : Int)) ∧ 1 ≤ m ∧ m ≤ 500001 := by
          rcases (show d2 = 0 ∨ d2 = 1 by omega) with e | e
          · rw [e]; exact ⟨11, rfl, by decide, by decide⟩
          · rw [e]; exact ⟨500001, rfl, by decide, by decide⟩
        refine ⟨L, _, _, _, rfl, rfl, SqL.of hL5, hm, R, y2, m, rfl, hR5, hm1, by omega, fun d3 y3 hd3' => ?_⟩
        have k6 := k5.trans (Kp.up (H := H5) y3)
        have hd6 : upd H5 R (.lst [.int y3]) d = some (.dK kvs) := by rw [upd_ne nRd.symm]; exact hd5
        generalize upd H5 R (.lst [.int y3]) = H6 at k6 hd6 ⊢
        refine ⟨_, rfl, _, rfl, d, _, rfl, DPut.k (k := keyS [c]) hd6 (small1000 (by omega)), ?_⟩
        exact ⟨_, _, rfl, k6.new hd nRd, upd_same, hW.put _ c1 c2, hB.put (by omega) (by omega), Nat.le_trans (length_putK _ _ _) (by omega)⟩
      · exact ⟨_, kvs, rfl, k3, hd3, hW, hB, by omega⟩
    · rintro σ H2 ⟨v4, kvs, rfl, k2, hd2, hW, hB, hl⟩
      exact ⟨_, rfl, q d kvs H2 k2 hd hd2 hW hB (by omega)⟩

end
end My
end

section
set_option Elab.async false
set_option linter.all false
set_option maxRecDepth 100000
set_option maxHeartbeats 2000000
namespace My
open PySem L2
section
variable {P : Program} {w : World} {K : PySem.W.Frag} {mg : Str → Option Value} {base : Heap}
theorem wordsF_len {rows : List (List Nat)} {ts : List Trip} (h : ts.length ≤ 7) : (wordsF rows ts).length ≤ 100 := by
  refine Nat.le_trans (List.length_filter_le _ _) ?_
  rw [List.length_map]
  unfold askL
  rw [List.length_append, List.length_map, List.length_map, List.length_take]
  omega

def spBonus : Sp := fun vs H Q _ => ∃ (pb t : Addr) (as : List Addr) (n m : Int), vs = [.ref pb, .ref t] ∧ H pb = some (.tup [.int n, .int m]) ∧ H t = some (.tup (as.map V.ref)) ∧ Q (.int (if n ≤ (as.length : Int) then m else 0)) H
theorem ok_bonus_of (D : DefAt K mg "bonus_of" s_bonus_of ["bonus", "laying"]) (n_len : mg "len" = none) : Def P w K mg base "bonus_of" 1 ["bonus", "laying"] spBonus := by
  refine D.qok sc_bonus_of (fun vs H Q E h => ?_) (fun f cdv A outer s H vs Q E hr h => ?_)
  · obtain ⟨pb, t, as, n, m, rfl, _⟩ := h
    rfl
  · obtain ⟨pb, t, as, n, m, rfl, hpb, ht, q⟩ := h
    refine ⟨_, (qss_one (qs_ret (qe_ifExp (qt_cmpR op_ge (qe_callB call_len_seq (by rfl) n_len PySem.boot_len (qa_cons (qv 1) qa_nil)) (qe_ix ix_tup (qv 0) qe_int (fun _ _ => rfl)) (nomark _)) (qe_ix ix_tup (qv 0) qe_int (fun _ _ => rfl)) qe_int))), ?_⟩
    refine ⟨_, rfl, t, _, rfl, .inr (SqT.of ht), _, rfl, pb, _, _, _, rfl, rfl, SqT.of hpb, atI_nat (j := 0) rfl, _, _, rfl, rfl, _, rfl, ?_⟩
    rw [List.length_map]
    by_cases c : n ≤ (as.length : Int)
    · rw [if_pos c] at q
      rw [decide_eq_true c]
      exact iteT ⟨_, rfl, pb, _, _, _, rfl, rfl, SqT.of hpb, atI_nat (j := 1) rfl, q⟩
    · rw [if_neg c] at q
      rw [decide_eq_false c]
      exact iteF q
theorem pt_w {M : List (List Nat)} {kvs : List (Key × V)} {ts : List Trip} {q : Quad} (hB : WB 1000000 kvs) : ∀ n, 0 ≤ (ptN M kvs ts q n).1 ∧ (ptN M kvs ts q n).1 ≤ 4000000 * (n : Int)
  | 0 => ⟨Int.le_refl _, by show (0 : Int) ≤ 4000000 * 0; decide⟩
  | n + 1 => by
    obtain ⟨h1, h2⟩ := pt_w (M := M) (ts := ts) (q := q) hB n
    obtain ⟨b1, b2⟩ := hB (q.2.2.2.getD n 0)
    show 0 ≤ (ptS _ _ _ _ _ _ _).1 ∧ (ptS _ _ _ _ _ _ _).1 ≤ 4000000 * ((n + 1 : Nat) : Int)
    unfold ptS
    split
    · obtain ⟨w1, w2⟩ := lm_b (cell M (sx q n) (sy q n))
      have m1 := Int.mul_nonneg b1 (show 0 ≤ lmF (cell M (sx q n) (sy q n)) by omega)
      have m2 := Int.mul_le_mul b2 w2 (by omega) (by decide)
      simp only
      omega
    · simp only
      omega
theorem pt_f {M : List (List Nat)} {kvs : List (Key × V)} {ts : List Trip} {q : Quad} {r w : Nat} (hB : WB 1000000 kvs) (hq : QIn r w q) (r9 : r ≤ 9) (w9 : w ≤ 9) : -1000000000000000 ≤ ptF M kvs ts q ∧ ptF M kvs ts q ≤ 1000000000000000 := by
  have hl : q.2.2.2.length ≤ 9 := by
    rcases Nat.eq_zero_or_pos q.2.2.2.length with z | z
    · omega
    have h := hq.inn (q.2.2.2.length - 1) (by omega)
    have hw := hq.way
    unfold sx sy at h
    by_cases c : q.2.2.1 = 0
    · rw [c] at h; omega
    · rw [show q.2.2.1 = 1 by omega] at h; omega
  unfold ptF
  obtain ⟨h1, h2⟩ := pt_w (M := M) (ts := ts) (q := q) hB q.2.2.2.length
  obtain ⟨h3, h4⟩ := pt_b M kvs ts q q.2.2.2.length
  have h5 : (4 : Int) ^ q.2.2.2.length ≤ 4 ^ 9 := by
    have := Nat.pow_le_pow_right (show 0 < 4 by decide) hl
    exact_mod_cast this
  have h6 : (4 : Int) ^ 9 = 262144 := by decide
  rw [h6] at h5
  have h7 := Int.mul_nonneg h1 (show 0 ≤ (ptN M kvs ts q q.2.2.2.length).2 by omega)
  have h8 := Int.mul_le_mul (show (ptN M kvs ts q q.2.2.2.length).1 ≤ 36000000 by omega) (show (ptN M kvs ts q q.2.2.2.length).2 ≤ 262144 by omega) (by omega) (by decide)
  omega
def totF (rows marks : List (List Nat)) (kvs : List (Key × V)) (ts : List Trip) (n m : Int) : Int := ((wordsF rows ts).map (ptF marks kvs ts)).sum + if n ≤ (ts.length : Int) then m else 0
def spTot (C : Addr) : Sp := fun vs H Q _ => ∃ (b d pb t : Addr) (kvs : List (Key × V)) (n m : Int) (as : List Addr) (ts : List Trip) (r w : Nat) (rows marks : List (List Nat)) (bi bj : Nat), vs = [.ref b, .ref d, .ref pb, .ref t] ∧ BoardAt C H b r w rows marks bi bj ∧ Rd H d (.dK kvs) ∧ WD kvs ∧ WB 1000000 kvs ∧ H pb = some (.tup [.int n, .int m]) ∧ H t = some (.tup (as.map V.ref)) ∧ LayL H as ts ∧ (∀ t ∈ ts, inB r w t) ∧ 0 < ts.length ∧ ts.length ≤ 7 ∧ Line1 ts ∧
  ∀ H', Same H H' → Q (.int (totF rows marks kvs ts n m)) H'
theorem ok_points_of {C : Addr} (D : DefAt K mg "points_of" s_points_of ["board", "worths", "bonus", "laying"]) (n_sum : mg "sum" = none) (D_formed : Def P w K mg base "formed" 10 ["board", "laying"] (spFormed C)) (D_word_points : Def P w K mg base "word_points" 2 ["board", "worths", "laying", "word"] (spPoints C)) (D_bonus_of : Def P w K mg base "bonus_of" 1 ["bonus", "laying"] spBonus) : Def P w K mg base "points_of" 11 ["board", "worths", "bonus", "laying"] (spTot C) := by
  refine D.qok sc_points_of (fun vs H Q E h => ?_) (fun f cdv A outer s H vs Q E hr h => ?_)
  · obtain ⟨b, d, pb, t, kvs, n, m, as, ts, r, w, rows, marks, bi, bj, rfl, _⟩ := h
    rfl
  · obtain ⟨b, d, pb, t, kvs, n, m, as, ts, r, w, rows, marks, bi, bj, rfl, BA, hd, hW, hB, hpb, ht, hL, hin, h0, h7, hl1, q⟩ := h
    refine ⟨_, (qss_cons (qs_setG (ix := 4) (ns := ["word"]) sc_points_of.nd rfl (Or.inl rfl) rfl (CompG.of ["board", "worths", "bonus", "laying", "counted"] [] (by kernel_rfl)) (qi_tup (qe_own D_formed (hr.mono (by decide)) rfl (qa_cons (qv 0) (qa_cons (qv 3) qa_nil)))) (fun _ _ _ _ _ => (tg_name (show (["word", "board", "worths", "bonus", "laying", "counted"] : List Str).Nodup by decide +kernel) rfl (by rfl))) (fun _ _ _ _ _ => qts_nil) (fun _ _ _ _ _ => (qe_own D_word_points (hr.mono (by decide)) rfl (qa_cons (qv 1) (qa_cons (qv 2) (qa_cons (qv 4) (qa_cons (qv 0) qa_nil))))))) (qss_one (qs_ret (qe_op op_add (qe_callB (call_sumB rfl) (by rfl) n_sum PyProof.Rows.boot_sum (qa_cons (qv 4) qa_nil)) (qe_own D_bonus_of (hr.mono (by decide)) rfl (qa_cons (qv 2) (qa_cons (qv 3) qa_nil))))))), ?_⟩
    refine ⟨_, rfl, _, rfl, b, t, as, ts, r, w, rows, marks, bi, bj, rfl, BA, ht, hL, hin, h0, h7, hl1, fun T bs H1 s1 hT hQ => ?_⟩
    have hql := wordsF_len (rows := rows) h7
    have hbl : bs.length = (wordsF rows ts).length := hQ.len
    refine ⟨T, rfl, ⟨_, SqT.of hT⟩, fun M hM => compG1_tup (K := K) (a := T) (f := hideS [] 0) (tt := tYes) (xs := bs.map V.ref) (fun i ys H2 => ys = ((wordsF rows ts).take i).map (fun q => V.int (ptF marks kvs ts q)) ∧ H2 M = some (.lst ys) ∧ Same H1 H2)
      ⟨rfl, upd_same, Same.upd hM⟩ (fun i ys H2 _ h => SqT.of (h.2.2 _ _ hT)) ?_ ?_⟩
    · rintro i x ys H2 hx ⟨rfl, hM2, s2⟩
      have hi : i < bs.length := by have := (List.getElem?_eq_some_iff.mp hx).1; simpa using this
      have hiw : i < (wordsF rows ts).length := by omega
      rw [List.getElem?_map, List.getElem?_eq_getElem hi] at hx
      have hx : V.ref bs[i] = x := Option.some.inj hx
      subst hx
      obtain ⟨qq, eq, hat⟩ := (hQ.mv s2).get hi
      have hB2 := BA.1
      obtain ⟨_, Bd⟩ := id BA
      have hqi := words_in Bd.br Bd.r9 Bd.w9 hin (List.mem_of_getElem? eq)
      have s12 := s1.trans s2
      refine turn1 ⟨_, rfl, _, rfl, _, rfl, _, rfl, b, d, t, bs[i], kvs, as, ts, qq, r, w, rows, marks, bi, bj, rfl, BA.mv s12, hd.mv s12, hW, s12 _ _ ht, hL.mv s12, h7, hat, hqi, fun H3 s3 => ?_⟩
      refine ⟨s3 _ _ hM2, by rw [List.length_map, List.length_take]; exact small1000 (by omega), Nxt.mk (by rw [List.length_map]; exact hi) ⟨?_, upd_same, (s2.trans s3).upd' hM⟩⟩
      rw [List.take_add_one, eq, List.map_append]
      rfl
    · rintro ys H2 ⟨rfl, hM2, s2⟩
      rw [List.length_map, hbl, List.take_length] at hM2
      obtain ⟨_, Bd⟩ := id BA
      have s12 := s1.trans s2
      have hM2' : H2 M = some (.lst (((wordsF rows ts).map (ptF marks kvs ts)).map V.int)) := by rw [List.map_map]; exact hM2
      refine ⟨_, rfl, M, (wordsF rows ts).map (ptF marks kvs ts), rfl, SqL.of hM2', by rw [List.length_map]; omega, fun x hx => ?_, _, rfl, _, rfl, pb, t, as, n, m, rfl, s12 _ _ hpb, s12 _ _ ht, _, _, rfl, rfl, ?_⟩
      · obtain ⟨qq, hq, rfl⟩ := List.mem_map.mp hx
        exact pt_f hB (words_in Bd.br Bd.r9 Bd.w9 hin hq) Bd.r9 Bd.w9
      · rw [hL.len]
        exact q H2 s12
def spTurn : Sp := fun vs H Q _ => ∃ (p : Addr) (as : List Addr) (ts : List Trip), vs = [.ref p] ∧ H p = some (.tup (as.map V.ref)) ∧ LayL H as ts ∧ (∀ t ∈ ts, okT t) ∧ (ts.map fun t => rk (sw t)).Nodup ∧ ts.length ≤ 63 ∧
  ∀ (p' : Addr) (as' : List Addr) (ts' : List Trip) (H' : Hp), Same H H' → H' p' = some (.tup (as'.map V.ref)) → LayL H' as' ts' → ts'.Perm (ts.map sw) → (ts'.map rk).Pairwise (· < ·) → Q (.ref p') H'
theorem ok_law_turned (D : DefAt K mg "_law_turned" s_turned ["_law_laying"]) (n_tuple : mg "tuple" = none) (n_sorted : mg "sorted" = none) : Def P w K mg base "_law_turned" 1 ["_law_laying"] spTurn := by
  refine D.qok sc_turned (fun vs H Q E h => ?_) (fun f cdv A outer s H vs Q E hr h => ?_)
  · obtain ⟨p, as, ts, rfl, _⟩ := h
    rfl
  · obtain ⟨p, as, ts, rfl, hp, hL, hok, hnd, h63, q⟩ := h
    refine ⟨_, (qss_one (qs_ret (qe_callTy call_tuple_of (by rfl) n_tuple PyProof.Rows.boot_tuple (qa_cons (qe_callB call_sortedT (by rfl) n_sorted PyProof.Rows.boot_sorted (qa_cons (qe_compG (ns := ["_law_row", "_law_column", "_law_sign_here"]) rfl (CompG.of ["_law_laying"] [] (by kernel_rfl)) (qi_tup (qv 0)) (fun _ _ _ _ _ => (tg_tup3 K rfl (show (["_law_row", "_law_column", "_law_sign_here", "_law_laying"] : List Str).Nodup by decide +kernel) rfl rfl rfl (by rfl) (by rfl) (by rfl))) (fun _ _ _ _ _ => qts_nil) (fun _ _ _ _ _ => (qe_tup (qa_cons (qv 1) (qa_cons (qv 0) (qa_cons (qv 2) qa_nil)))))) qa_nil)) qa_nil)))), ?_⟩
    have hlen := hL.len
    refine ⟨_, rfl, p, rfl, ⟨_, SqT.of hp⟩, fun M hM => compG3_tup (f := hideS [] 0) (tt := tYes) (xs := as.map V.ref) (fun i ys H6 => ∃ bs : List Addr, ys = bs.map V.ref ∧ bs.length = i ∧ H6 M = some (.lst ys) ∧ Same H H6 ∧ LayL H6 bs ((ts.take i).map sw))
      ⟨[], rfl, rfl, upd_same, Same.upd hM, LayL.nil⟩ (fun i ys H6 _ h => by obtain ⟨_, _, _, _, sm, _⟩ := h; exact SqT.of (sm _ _ hp)) ?_ ?_⟩
    · rintro i x ys H6 hx ⟨bs, rfl, hbl, hM6, sm, hB⟩
      rw [List.getElem?_map] at hx
      have hi : i < as.length := by
        rcases Nat.lt_or_ge i as.length with z | z
        · exact z
        · rw [List.getElem?_eq_none z] at hx; cases hx
      rw [List.getElem?_eq_getElem hi] at hx
      have hx : V.ref as[i] = x := Option.some.inj hx
      obtain ⟨t, et, hT⟩ := hL.get hi
      refine turn3 hx.symm (SqT.of (sm _ _ hT)) ?_
      refine ⟨_, rfl, _, rfl, _, rfl, by show 3 ≤ sizeLine; decide, fun c hc => ?_⟩
      have nM : M ≠ c := fun z => by rw [← z, hM6] at hc; cases hc
      have hM7 : upd H6 c (.tup [.int t.2.1, .int t.1, .str (S [t.2.2])]) M = some (.lst (bs.map V.ref)) := by rw [upd_ne nM]; exact hM6
      refine ⟨hM7, by rw [List.length_map, hbl]; exact small1000 (by omega), Nxt.mk (by rw [List.length_map]; exact hi) ⟨bs ++ [c], by simp, by simp [hbl], by rw [upd_same], ?_, ?_⟩⟩
      · exact (sm.upd' (sm.free hc)).upd' hM
      · rw [show (ts.take (i + 1)).map sw = (ts.take i).map sw ++ [sw t] by rw [List.take_succ, et]; simp]
        refine LayL.snoc ?_ ?_
        · exact (hB.mv (Same.upd hc)).mvT (tup_updL hM7)
        · exact tup_updL hM7 _ _ upd_same
    · rintro ys H6 ⟨bs, rfl, hbl, hM6, sm, hB⟩
      rw [List.length_map] at hbl
      rw [List.take_of_length_le (by rw [List.length_map]; omega)] at hB
      have ecf : bs.map (fun a => rk (tO H6 a)) = ts.map fun t => rk (sw t) := by
        have : (bs.map (tO H6)).map rk = (ts.map sw).map rk := by rw [hB.eq]
        rw [List.map_map, List.map_map] at this
        exact this
      have hokB : ∀ a ∈ bs, okT (tO H6 a) := fun a ha => by
        have : tO H6 a ∈ ts.map sw := by rw [← hB.eq]; exact List.mem_map_of_mem ha
        obtain ⟨t, ht, e⟩ := List.mem_map.mp this
        rw [← e]
        have := hok t ht
        exact ⟨this.2.1, this.1, this.2.2⟩
      refine ⟨M, bs, fun a => rk (tO H6 a), rfl, SqL.of hM6, by omega, fun a ha => ?_, by rw [ecf]; exact hnd, fun p1 as' hp1 pm pw => ?_⟩
      · have := hokB a ha
        exact ⟨(tO H6 a).1, (tO H6 a).2.1, [.str (S [(tO H6 a).2.2])], hB.at_ a ha, by have := this.2.1; omega, rfl, .inr ⟨_, rfl⟩⟩
      · obtain ⟨l1, l2⟩ := hB.perm pm
        refine ⟨p1, _, rfl, .inl ⟨SqL.of upd_same, fun l hl => ?_⟩⟩
        have s1 : Same H6 (upd H6 p1 (.lst (as'.map V.ref))) := Same.upd hp1
        have s2 := s1.upd' (o := .tup (as'.map V.ref)) (s1.free hl)
        exact q l as' _ _ (sm.trans s2) upd_same (l1.mv s2) l2 (by rw [List.map_map]; exact pw)


end
end My
end

section
set_option Elab.async false
set_option linter.all false
set_option maxRecDepth 100000
set_option maxHeartbeats 2000000
namespace My
open PySem L2
section
variable {P : Program} {w : World} {K : PySem.W.Frag} {mg : Str → Option Value} {base : Heap}
theorem blk_ext {r w : Nat} {A B : List (List Nat)} (ha : Blk r w A) (hb : Blk r w B) (h : ∀ i j, i < r → j < w → cell A i j = cell B i j) : A = B := by
  apply List.ext_getElem
  · rw [ha.len, hb.len]
  · intro i h1 h2
    have wa := ha.wid A[i] (List.getElem_mem _)
    have wb := hb.wid B[i] (List.getElem_mem _)
    have hr : i < r := by rw [← ha.len]; exact h1
    apply List.ext_getElem
    · rw [wa, wb]
    · intro j h3 h4
      have := h i j hr (by omega)
      rw [cell_eq h1 h3, cell_eq h2 h4] at this
      exact this
theorem turn_cell {r w : Nat} {rows : List (List Nat)} (hb : Blk r w rows) {i j : Nat} (hi : i < r) (hj : j < w) : cell (turnR rows w) j i = cell rows i j := by
  have hi' : i < rows.length := by rw [hb.len]; exact hi
  unfold cell
  rw [show (turnR rows w).getD j [] = colOf rows j by
    unfold turnR; rw [List.getD_eq_getElem?_getD, List.getElem?_map, List.getElem?_range hj]; rfl]
  unfold colOf
  rw [List.getD_eq_getElem?_getD, List.getElem?_map, List.getElem?_eq_getElem hi', List.getD_eq_getElem?_getD (l := rows), List.getElem?_eq_getElem hi']
  rfl
theorem set_same {r w : Nat} {R : List (List Nat)} (hb : Blk r w R) {i j z : Nat} (hi : i < r) (hj : j < w) : cell (setAt R i j z) i j = z := by
  have hi' : i < R.length := by rw [hb.len]; exact hi
  have hw : (R.getD i []).length = w := by
    rw [List.getD_eq_getElem?_getD, List.getElem?_eq_getElem hi']; exact hb.wid _ (List.getElem_mem _)
  unfold cell setAt
  rw [List.getD_eq_getElem?_getD (l := R.set _ _), List.getElem?_set_self hi']
  show ((R.getD i []).set j z).getD j 0 = z
  rw [List.getD_eq_getElem?_getD, List.getElem?_set_self (by rw [hw]; exact hj)]
  rfl
theorem set_other {R : List (List Nat)} {i j z i' j' : Nat} (h : ¬ (i = i' ∧ j = j')) : cell (setAt R i j z) i' j' = cell R i' j' := by
  unfold cell setAt
  by_cases e : i = i'
  · subst e
    have ne : j ≠ j' := fun y => h ⟨rfl, y⟩
    rw [List.getD_eq_getElem?_getD (l := R.set _ _)]
    by_cases hi : i < R.length
    · rw [List.getElem?_set_self hi]
      show ((R.getD i []).set j z).getD j' 0 = _
      rw [List.getD_eq_getElem?_getD, List.getElem?_set_ne ne, ← List.getD_eq_getElem?_getD]
    · rw [List.set_eq_of_length_le (by omega), ← List.getD_eq_getElem?_getD]
  · rw [List.getD_eq_getElem?_getD (l := R.set _ _), List.getElem?_set_ne e, ← List.getD_eq_getElem?_getD]
theorem laid_other {i j : Nat} : ∀ {ts : List Trip} {R : List (List Nat)}, (∀ t ∈ ts, ¬ (t.1 = i ∧ t.2.1 = j)) → cell (laidF R ts) i j = cell R i j
  | [], _, _ => rfl
  | t :: ts, R, h => (laid_other (ts := ts) fun x hx => h x (List.mem_cons_of_mem _ hx)).trans (set_other (h t List.mem_cons_self))
theorem laid_at {r w : Nat} : ∀ {ts : List Trip} {R : List (List Nat)} {t : Trip}, Blk r w R → (∀ t ∈ ts, inB r w t) → ts.Pairwise (fun a b => ¬ (a.1 = b.1 ∧ a.2.1 = b.2.1)) → t ∈ ts → cell (laidF R ts) t.1 t.2.1 = t.2.2
  | u :: ts, R, t, hb, hin, pw, hm => by
    obtain ⟨p1, p2⟩ := List.pairwise_cons.mp pw
    have hu := hin u List.mem_cons_self
    rcases List.mem_cons.mp hm with z | z
    · subst z
      exact (laid_other fun x hx y => p1 x hx ⟨y.1.symm, y.2.symm⟩).trans (set_same hb hu.1 hu.2.1)
    · exact laid_at (ts := ts) (R := setAt R u.1 u.2.1 u.2.2) (set_blk hb hu.1) (fun x hx => hin x (List.mem_cons_of_mem _ hx)) p2 z
theorem dist_of {ts : List Trip} (pw : (ts.map rk).Pairwise (· < ·)) : ts.Pairwise (fun a b => ¬ (a.1 = b.1 ∧ a.2.1 = b.2.1)) := by
  rw [List.pairwise_map] at pw
  refine pw.imp fun {a b} h z => ?_
  unfold rk at h
  omega
theorem laid_turn {r w : Nat} {rows : List (List Nat)} {ts ts' : List Trip} (hb : Blk r w rows) (hin : ∀ t ∈ ts, inB r w t) (pw : (ts.map rk).Pairwise (· < ·)) (pm : ts'.Perm (ts.map sw)) (pw' : (ts'.map rk).Pairwise (· < ·)) : turnR (laidF rows ts) w = laidF (turnR rows w) ts' := by
  have hin' : ∀ t ∈ ts', inB w r t := fun t ht => by
    obtain ⟨u, hu, e⟩ := List.mem_map.mp (pm.mem_iff.mp ht)
    have := hin u hu
    rw [← e]
    exact ⟨this.2.1, this.1, this.2.2⟩
  refine blk_ext (turn_blk (laid_blk hb hin)) (laid_blk (turn_blk hb) hin') fun j i hj hi => ?_
  rw [turn_cell (laid_blk hb hin) hi hj]
  by_cases h : ∃ t ∈ ts, t.1 = i ∧ t.2.1 = j
  · obtain ⟨t, ht, e1, e2⟩ := h
    have h1 := laid_at hb hin (dist_of pw) ht
    have hm : sw t ∈ ts' := pm.mem_iff.mpr (List.mem_map_of_mem ht)
    have h2 := laid_at (turn_blk hb) hin' (dist_of pw') hm
    rw [e1, e2] at h1
    have h2' : cell (laidF (turnR rows w) ts') t.2.1 t.1 = t.2.2 := h2
    rw [e1, e2] at h2'
    rw [h1, h2']
  · have n1 : ∀ t ∈ ts, ¬ (t.1 = i ∧ t.2.1 = j) := fun t ht z => h ⟨t, ht, z⟩
    have n2 : ∀ t ∈ ts', ¬ (t.1 = j ∧ t.2.1 = i) := fun t ht z => by
      obtain ⟨u, hu, e⟩ := List.mem_map.mp (pm.mem_iff.mp ht)
      rw [← e] at z
      exact n1 u hu ⟨z.2, z.1⟩
    rw [laid_other n1, laid_other n2, turn_cell hb hi hj]
theorem line_turn0 {r w : Nat} {rows : List (List Nat)} (hb : Blk r w rows) {i j : Nat} (hi : i < r) : lineOf (turnR rows w) j i 1 = lineOf rows i j 0 := by
  unfold lineOf
  rw [if_neg (by decide), if_pos rfl]
  have e := turn_turn hb
  have : (turnR (turnR rows w) r).getD i [] = colOf (turnR rows w) i := by
    unfold turnR; rw [List.getD_eq_getElem?_getD, List.getElem?_map, List.getElem?_range hi]; rfl
  rw [← this, e]
theorem line_turn1 {w : Nat} {rows : List (List Nat)} {i j : Nat} (hj : j < w) : lineOf (turnR rows w) j i 0 = lineOf rows i j 1 := by
  unfold lineOf
  rw [if_pos rfl, if_neg (by decide)]
  unfold turnR; rw [List.getD_eq_getElem?_getD, List.getElem?_map, List.getElem?_range hj]; rfl
theorem rk_line {ts : List Trip} (h : Line2 ts) : (ts.map rk).Pairwise (· < ·) := by
  rw [List.pairwise_map]
  rcases h with ⟨i, h1, h2⟩ | ⟨j, h1, h2⟩
  · exact h2.imp_of_mem fun {a b} ha hb hl => by unfold rk; have := h1 a ha; have := h1 b hb; omega
  · exact h2.imp_of_mem fun {a b} ha hb hl => by unfold rk; have := h1 a ha; have := h1 b hb; omega
theorem Line2.turn {ts : List Trip} (h : Line2 ts) : Line2 (ts.map sw) := by
  rcases h with ⟨i, h1, h2⟩ | ⟨j, h1, h2⟩
  · refine .inr ⟨i, fun t ht => ?_, by rw [List.pairwise_map]; exact h2⟩
    obtain ⟨u, hu, rfl⟩ := List.mem_map.mp ht
    exact h1 u hu
  · refine .inl ⟨j, fun t ht => ?_, by rw [List.pairwise_map]; exact h2⟩
    obtain ⟨u, hu, rfl⟩ := List.mem_map.mp ht
    exact h1 u hu
theorem turned_eq {ts ts' : List Trip} (h : Line2 ts) (pm : ts'.Perm (ts.map sw)) (pw' : (ts'.map rk).Pairwise (· < ·)) : ts' = ts.map sw := by
  rw [List.pairwise_map] at pw'
  have h2 := rk_line h.turn
  rw [List.pairwise_map] at h2
  exact pm.eq_of_pairwise (le := fun a b => rk a < rk b) (fun a b _ _ z1 z2 => absurd z1 (by omega)) pw' h2
theorem in_turn {r w : Nat} {ts : List Trip} (hin : ∀ t ∈ ts, inB r w t) : ∀ t ∈ ts.map sw, inB w r t := fun t ht => by
  obtain ⟨u, hu, rfl⟩ := List.mem_map.mp ht
  have := hin u hu
  exact ⟨this.2.1, this.1, this.2.2⟩
def swA (a : Nat × Nat × Nat) : Nat × Nat × Nat := (a.2.1, a.1, 1 - a.2.2)
def swQ (q : Quad) : Quad := (q.2.1, q.1, 1 - q.2.2.1, q.2.2.2)
theorem quad_turn {r w : Nat} {R : List (List Nat)} (hb : Blk r w R) {i j wy : Nat} (hi : i < r) (hj : j < w) (hwy : wy ≤ 1) : quad (turnR R w) j i (1 - wy) = swQ (quad R i j wy) := by
  rcases (show wy = 0 ∨ wy = 1 by omega) with z | z
  · subst z
    have e : lineOf (turnR R w) j i ((1 : Nat) : Int) = lineOf R i j ((0 : Nat) : Int) := line_turn0 hb hi
    show quad (turnR R w) j i 1 = _
    unfold quad swQ
    rw [e]
    rfl
  · subst z
    have e : lineOf (turnR R w) j i ((0 : Nat) : Int) = lineOf R i j ((1 : Nat) : Int) := line_turn1 hj
    show quad (turnR R w) j i 0 = _
    unfold quad swQ
    rw [e]
    rfl
theorem lnB_turn {ts : List Trip} (h : Line2 ts) (h2 : 2 ≤ ts.length) : lnB (ts.map sw) = 1 - lnB ts := by
  have h0 : 0 < ts.length := by omega
  have h0' : 0 < (ts.map sw).length := by rw [List.length_map]; exact h0
  rw [head_last h0, head_last h0']
  have e1 : (ts.map sw)[0].1 = ts[0].2.1 := by rw [List.getElem_map]; rfl
  have e2 : (ts.map sw)[(ts.map sw).length - 1].1 = ts[ts.length - 1].2.1 := by
    rw [List.getElem_map]
    simp only [List.length_map]
    rfl
  rw [e1, e2]
  rcases h with ⟨i, a1, a2⟩ | ⟨j, a1, a2⟩
  · have p := (List.pairwise_iff_getElem.mp a2) 0 (ts.length - 1) h0 (by omega) (by omega)
    rw [if_neg (by omega), if_pos (by rw [a1 _ (List.getElem_mem _), a1 _ (List.getElem_mem _)])]
  · have p := (List.pairwise_iff_getElem.mp a2) 0 (ts.length - 1) h0 (by omega) (by omega)
    rw [if_pos (by rw [a1 _ (List.getElem_mem _), a1 _ (List.getElem_mem _)]), if_neg (by omega)]
theorem ask_turn {ts : List Trip} (h : Line2 ts) (h0 : 0 < ts.length) : (askL (ts.map sw)).Perm ((askL ts).map swA) := by
  by_cases c : 2 ≤ ts.length
  · have e : askL (ts.map sw) = (askL ts).map swA := by
      unfold askL
      rw [lnB_turn h c, List.map_append, ← List.map_take, List.map_map, List.map_map, List.map_map, List.map_map]
      rfl
    rw [e]
  · obtain ⟨t, rfl⟩ : ∃ t, ts = [t] := by
      match ts, h0, c with
      | [t], _, _ => exact ⟨t, rfl⟩
      | _ :: _ :: _, _, c => exact absurd (by simp) c
    have l1 : lnB [t] = 0 := if_pos rfl
    have l2 : lnB ([t].map sw) = 0 := if_pos rfl
    unfold askL
    rw [l1, l2]
    exact List.Perm.swap _ _ _
theorem ask_in {r w : Nat} {ts : List Trip} (hin : ∀ t ∈ ts, inB r w t) {a : Nat × Nat × Nat} (h : a ∈ askL ts) : a.1 < r ∧ a.2.1 < w ∧ a.2.2 ≤ 1 := by
  have hln := lnB_le ts
  rcases List.mem_append.mp h with z | z
  · obtain ⟨u, hu, rfl⟩ := List.mem_map.mp z
    obtain ⟨h1, h2, _⟩ := hin u (List.mem_of_mem_take hu)
    exact ⟨h1, h2, hln⟩
  · obtain ⟨u, hu, rfl⟩ := List.mem_map.mp z
    obtain ⟨h1, h2, _⟩ := hin u hu
    exact ⟨h1, h2, show 1 - lnB ts ≤ 1 by omega⟩
theorem words_turn {r w : Nat} {rows : List (List Nat)} {ts : List Trip} (hb : Blk r w rows) (hin : ∀ t ∈ ts, inB r w t) (h : Line2 ts) (h0 : 0 < ts.length) : (wordsF (turnR rows w) (ts.map sw)).Perm ((wordsF rows ts).map swQ) := by
  unfold wordsF
  rw [← laid_turn hb hin (rk_line h) (List.Perm.refl _) (rk_line h.turn)]
  have hb' := laid_blk hb hin
  generalize laidF rows ts = R at hb'
  have p := ((ask_turn h h0).map (qd (turnR R w))).filter longQ
  refine p.trans ?_
  have e : ((askL ts).map swA).map (qd (turnR R w)) = ((askL ts).map (qd R)).map swQ := by
    rw [List.map_map, List.map_map]
    refine List.map_congr_left fun a ha => ?_
    obtain ⟨a1, a2, a3⟩ := ask_in hin ha
    exact quad_turn hb' a1 a2 a3
  rw [e, List.filter_map]
  exact List.Perm.refl _
theorem pt_turn {r w : Nat} {M : List (List Nat)} {kvs : List (Key × V)} {ts : List Trip} {q : Quad} (hb : Blk r w M) (hq : QIn r w q) : ptF (turnR M w) kvs (ts.map sw) (swQ q) = ptF M kvs ts q := by
  have hw := hq.way
  have key : ∀ n, n ≤ q.2.2.2.length → ptN (turnR M w) kvs (ts.map sw) (swQ q) n = ptN M kvs ts q n := by
    intro n
    induction n with
    | zero => intro _; rfl
    | succ n ih =>
      intro hn
      show ptS (turnR M w) kvs (ts.map sw) (swQ q) n (q.2.2.2.getD n 0) (ptN (turnR M w) kvs (ts.map sw) (swQ q) n) = ptS M kvs ts q n (q.2.2.2.getD n 0) (ptN M kvs ts q n)
      rw [ih (by omega)]
      obtain ⟨h1, h2⟩ := hq.inn n (by omega)
      have ex : sx (swQ q) n = sy q n := rfl
      have ey : sy (swQ q) n = sx q n := by
        show q.1 + n * (1 - (1 - q.2.2.1)) = q.1 + n * q.2.2.1
        rw [show 1 - (1 - q.2.2.1) = q.2.2.1 by omega]
      unfold ptS
      rw [ex, ey, turn_cell hb h1 h2]
      have ec : ((sy q n, sx q n) ∈ (ts.map sw).map cellT) ↔ ((sx q n, sy q n) ∈ ts.map cellT) := by
        constructor
        · intro z
          obtain ⟨u, hu, e⟩ := List.mem_map.mp z
          obtain ⟨v, hv, rfl⟩ := List.mem_map.mp hu
          have e1 : v.2.1 = sy q n := congrArg Prod.fst e
          have e2 : v.1 = sx q n := congrArg Prod.snd e
          exact List.mem_map.mpr ⟨v, hv, by unfold cellT; rw [e1, e2]⟩
        · intro z
          obtain ⟨v, hv, e⟩ := List.mem_map.mp z
          have e1 : v.1 = sx q n := congrArg Prod.fst e
          have e2 : v.2.1 = sy q n := congrArg Prod.snd e
          exact List.mem_map.mpr ⟨sw v, List.mem_map_of_mem hv, by unfold cellT sw; rw [e1, e2]⟩
      by_cases z : (sx q n, sy q n) ∈ ts.map cellT
      · rw [if_pos z, if_pos (ec.mpr z)]
      · rw [if_neg z, if_neg (fun y => z (ec.mp y))]
  unfold ptF
  have hl : (swQ q).2.2.2.length = q.2.2.2.length := rfl
  rw [hl, key _ (Nat.le_refl _)]
theorem sum_perm {a b : List Int} (h : a.Perm b) : a.sum = b.sum := by
  induction h with
  | nil => rfl
  | cons x _ ih => rw [List.sum_cons, List.sum_cons, ih]
  | swap x y l => rw [List.sum_cons, List.sum_cons, List.sum_cons, List.sum_cons]; omega
  | trans _ _ i1 i2 => exact i1.trans i2
theorem tot_turn {r w : Nat} {rows marks : List (List Nat)} {kvs : List (Key × V)} {ts : List Trip} {n m : Int} (hb : Blk r w rows) (hm : Blk r w marks) (r9 : r ≤ 9) (w9 : w ≤ 9) (hin : ∀ t ∈ ts, inB r w t) (h : Line2 ts) (h0 : 0 < ts.length) : totF (turnR rows w) (turnR marks w) kvs (ts.map sw) n m = totF rows marks kvs ts n m := by
  unfold totF
  rw [List.length_map, sum_perm ((words_turn hb hin h h0).map _), List.map_map]
  have e : (wordsF rows ts).map (ptF (turnR marks w) kvs (ts.map sw) ∘ swQ) = (wordsF rows ts).map (ptF marks kvs ts) := List.map_congr_left fun q hq => pt_turn hm (words_in hb r9 w9 hin hq)
  rw [e]
theorem pt_twice {M : List (List Nat)} {kvs tw : List (Key × V)} {ts : List Trip} {q : Quad} (h : ∀ c, wf tw c = 2 * wf kvs c) : ptF M tw ts q = 2 * ptF M kvs ts q := by
  have key : ∀ n, (ptN M tw ts q n).1 = 2 * (ptN M kvs ts q n).1 ∧ (ptN M tw ts q n).2 = (ptN M kvs ts q n).2 := by
    intro n
    induction n with
    | zero => exact ⟨rfl, rfl⟩
    | succ n ih =>
      show (ptS _ _ _ _ _ _ _).1 = 2 * (ptS _ _ _ _ _ _ _).1 ∧ (ptS _ _ _ _ _ _ _).2 = (ptS _ _ _ _ _ _ _).2
      unfold ptS
      rw [h]
      split
      · refine ⟨?_, by simp only; rw [ih.2]⟩
        simp only
        rw [ih.1, Int.mul_assoc, Int.mul_add]
      · refine ⟨?_, ih.2⟩
        simp only
        rw [ih.1, Int.mul_add]
  unfold ptF
  rw [(key _).1, (key _).2, Int.mul_assoc]
theorem sum_twice {α : Type} {f g : α → Int} : ∀ {l : List α}, (∀ x, g x = 2 * f x) → (l.map g).sum = 2 * (l.map f).sum
  | [], _ => rfl
  | x :: l, h => by rw [List.map_cons, List.map_cons, List.sum_cons, List.sum_cons, sum_twice h, h x, Int.mul_add]
theorem tot_twice {rows marks : List (List Nat)} {kvs tw : List (Key × V)} {ts : List Trip} {n m : Int} (h : ∀ c, wf tw c = 2 * wf kvs c) : totF rows marks tw ts n (2 * m) = 2 * totF rows marks kvs ts n m := by
  unfold totF
  rw [sum_twice (f := ptF marks kvs ts) fun q => pt_twice h, Int.mul_add]
  congr 1
  split <;> rfl

end
end My
end

section
set_option Elab.async false
set_option linter.all false
set_option maxRecDepth 100000
set_option maxHeartbeats 2000000
namespace My
open PySem L2
section
variable {P : Program} {w : World} {K : PySem.W.Frag} {mg : Str → Option Value} {base : Heap}
theorem cut_mem {ds : List Int} {lo hi : Option Int} {v : V} (h : v ∈ cutV (ds.map V.int) lo hi) : ∃ d : Int, v = .int d := by
  unfold cutV at h
  have h2 := List.mem_of_mem_drop (List.mem_of_mem_take h)
  obtain ⟨d, hd, e⟩ := List.mem_map.mp h2
  exact ⟨d, e.symm⟩
theorem Same.kp {R : Addr} {H H1 H2 : Hp} (s : Same H H1) (n : H R = none) (k : Kp R H1 H2) : Same H H2 := fun b o e => k.1 b o (s b o e) (ne_of_none e n)
theorem wf_in {kvs : List (Key × V)} (hW : WD kvs) {c : Nat} {v : V} (h : (keyS [c], v) ∈ kvs) : valV kvs (keyS [c]) = some (.int (wf kvs c)) := by
  unfold wf
  cases e : valV kvs (keyS [c]) with
  | none =>
    exfalso
    unfold valV at e
    cases e2 : kvs.find? (fun kv => decide (kv.1 = keyS [c])) with
    | none =>
      have := List.find?_eq_none.mp e2 _ h
      simp at this
    | some p => rw [e2] at e; cases e
  | some u =>
    obtain ⟨d, i, q, _⟩ := hW _ (val_in e)
    have : u = V.int i := congrArg Prod.snd q
    subst this; rfl
theorem wf_out {kvs : List (Key × V)} {c : Nat} (h : keyS [c] ∉ kvs.map (·.1)) : wf kvs c = 0 := by
  unfold wf
  cases e : valV kvs (keyS [c]) with
  | none => rfl
  | some u => exact absurd (List.mem_map.mpr ⟨_, val_in e, rfl⟩) h
open Classical in
def HalfW (kvs tw : List (Key × V)) (i : Nat) : Prop := ∀ c, wf tw c = if keyS [c] ∈ (kvs.take i).map (·.1) then 2 * wf kvs c else 0
theorem HalfW.full {kvs tw : List (Key × V)} (h : HalfW kvs tw kvs.length) (c : Nat) : wf tw c = 2 * wf kvs c := by
  rw [h c, List.take_length]
  split
  · rfl
  · rename_i z; rw [wf_out z]; rfl
theorem HalfW.next {kvs tw : List (Key × V)} {i c0 : Nat} {v : V} (h : HalfW kvs tw i) (hk : kvs[i]? = some (keyS [c0], v)) : HalfW kvs (putK tw (keyS [c0]) (.int (2 * wf kvs c0))) (i + 1) := fun c => by
  rw [wf_put, List.take_add_one, hk, List.map_append]
  by_cases z : c = c0
  · subst z
    rw [if_pos rfl, if_pos (by simp)]
  · rw [if_neg z, h c]
    have e : (keyS [c] ∈ (kvs.take i).map (·.1) ++ (some (keyS [c0], v)).toList.map (·.1)) ↔ keyS [c] ∈ (kvs.take i).map (·.1) := by
      rw [List.mem_append]
      refine ⟨fun y => y.elim id fun y => ?_, .inl⟩
      have y : keyS [c] = keyS [c0] := by simpa using y
      exact absurd (by have := S_inj (Sum.inr.inj y); simpa using this) z
    by_cases y : keyS [c] ∈ (kvs.take i).map (·.1)
    · rw [if_pos y, if_pos (e.mpr y)]
    · rw [if_neg y, if_neg (fun x => y (e.mp x))]
theorem tot_due {rows marks : List (List Nat)} {kvs : List (Key × V)} {ts : List Trip} {n m : Int} : ((wordsF rows ts).map (ptF marks kvs ts)).sum + (if n ≤ (ts.length : Int) then m else 0) = totF rows marks kvs ts n m := rfl
theorem ok_law {C f g0 g1 : Addr} {fd fe0 fe1 : FuncData} (F : Fun K "law" "law" s_law f fd) (n_len : mg "len" = none) (n_sum : mg "sum" = none) (T_Board : BoardCls K C) (mg_Board : mg "Board" = some (.ref C)) (M_Board : Mk K C g0) (G_Board : FnOk P w K mg base CX0 5 g0 fe0 ["self", "rows", "marks", "begin"] (spBInit C)) (b_Board : Binds K fe0 ["self", "rows", "marks", "begin"] [])
    (m_Board_turned : Meth K C "turned" g1) (G_Board_turned : FnOk P w K mg base CX0 8 g1 fe1 ["self"] (spTurned C)) (b_Board_turned : Binds K fe1 ["self"] [])
    (D_cell_at : Def P w K mg base "_law_cell_at" 1 ["_law_script", "_law_k"] (spCell K)) (D_rest : Def P w K mg base "_law_rest" 1 ["_law_cell"] spRest) (D_take : Def P w K mg base "_law_take" 1 ["_law_rest_here", "_law_base"] spTake) (D_letters : Def P w K mg base "_law_letters" 2 ["_law_rest_here"] spLetR) (D_worths : Def P w K mg base "_law_worths" 2 ["_law_rest_here", "_law_letters_here", "_law_most"] spWorthsR)
    (D_rows : Def P w K mg base "_law_rows" 3 ["_law_rest_here", "_law_letters_here", "_law_most"] spRowsR) (D_begin : Def P w K mg base "_law_begin" 2 ["_law_rest_here", "_law_rows_here"] spBeginR) (D_marks : Def P w K mg base "_law_marks" 2 ["_law_rest_here", "_law_rows_here"] spMarksR)
    (D_straight : Def P w K mg base "_law_straight" 3 ["_law_rows_here", "_law_rest_here", "_law_letters_here"] spStraightR) (D_words : Def P w K mg base "_law_words" 2 ["_law_rows_here", "_law_laying"] spWordsQ) (D_count : Def P w K mg base "_law_count" 1 ["_law_marks_here", "_law_worths_here", "_law_laying", "_law_word"] spCount)
    (D_whole : Def P w K mg base "_law_whole" 1 ["_law_found"] spWholeL) (D_turned : Def P w K mg base "_law_turned" 1 ["_law_laying"] spTurn) (D_points_of : Def P w K mg base "points_of" 11 ["board", "worths", "bonus", "laying"] (spTot C)) : FnOk P w K mg base CX0 13 f fd ["_law_script"] (spLaw K) := by
  refine F.qok sc_law (fun vs H Q E h => ?_) (fun cdv A outer s H vs Q E hr h => ?_)
  · obtain ⟨a, ns, rfl, _⟩ := h
    rfl
  · obtain ⟨a, ns, rfl, hS, hn, q⟩ := h
    have hu := hu_of hr
    refine ⟨_, (qss_cons (qs_set (i := 1) sc_law.nd rfl (Or.inl rfl) (qe_own D_rest (hr.mono (by decide)) rfl (qa_cons (qe_own D_cell_at (hr.mono (by decide)) rfl (qa_cons (qv 0) (qa_cons qe_int qa_nil))) qa_nil))) (qss_cons (qs_set (i := 2) sc_law.nd rfl (Or.inl rfl) (qe_own D_letters (hr.mono (by decide)) rfl (qa_cons (qv 1) qa_nil))) (qss_cons (qs_set (i := 3) sc_law.nd rfl (Or.inr rfl) (qe_own D_worths (hr.mono (by decide)) rfl (qa_cons (qv 1) (qa_cons (qv 2) (qa_cons qe_int qa_nil))))) (qss_cons (qs_set (i := 4) sc_law.nd rfl (Or.inl rfl) (qe_tup (qa_cons (qe_own D_take (hr.mono (by decide)) rfl (qa_cons (qv 1) (qa_cons qe_int qa_nil))) (qa_cons (qe_own D_take (hr.mono (by decide)) rfl (qa_cons (qv 1) (qa_cons (qe_ix ix_list (qe_lst (qa_cons qe_int (qa_cons qe_int qa_nil))) (qe_own D_take (hr.mono (by decide)) rfl (qa_cons (qv 1) (qa_cons qe_int qa_nil))) (fun _ _ => rfl)) qa_nil))) qa_nil)))) (qss_cons (qs_set (i := 5) sc_law.nd rfl (Or.inl rfl) qe_dnewK) (qss_cons (qs_for PassesOwn.never rfl (qi_dict (qv 3)) (qg_name (i := 6) sc_law.nd rfl (Or.inl rfl)) (qss_one (qs_dput hu (qv 5) (qv 6) (qe_op op_mul qe_int (qe_dget hu (qv 3) (qv 6) (fun _ _ => rfl))) rfl))) (qss_cons (qs_set (i := 7) sc_law.nd rfl (Or.inl rfl) (qe_own D_rows (hr.mono (by decide)) rfl (qa_cons (qe_own D_rest (hr.mono (by decide)) rfl (qa_cons (qe_own D_cell_at (hr.mono (by decide)) rfl (qa_cons (qv 0) (qa_cons qe_int qa_nil))) qa_nil)) (qa_cons (qv 2) (qa_cons qe_int qa_nil))))) (qss_cons (qs_set (i := 1) sc_law.nd rfl (Or.inl rfl) (qe_own D_rest (hr.mono (by decide)) rfl (qa_cons (qe_own D_cell_at (hr.mono (by decide)) rfl (qa_cons (qv 0) (qa_cons qe_int qa_nil))) qa_nil))) (qss_cons (qs_set (i := 8) sc_law.nd rfl (Or.inl rfl) (qe_own D_begin (hr.mono (by decide)) rfl (qa_cons (qv 1) (qa_cons (qv 7) qa_nil)))) (qss_cons (qs_set (i := 9) sc_law.nd rfl (Or.inr rfl) (qe_own D_marks (hr.mono (by decide)) rfl (qa_cons (qv 1) (qa_cons (qv 7) qa_nil)))) (qss_cons (qs_set (i := 10) sc_law.nd rfl (Or.inl rfl) (qe_make M_Board G_Board (hr.mono (by decide)) rfl mg_Board b_Board .nil pass0 (qa_cons (qv 7) (qa_cons (qv 9) (qa_cons (qv 8) qa_nil))))) (qss_cons (qs_set (i := 11) sc_law.nd rfl (Or.inl rfl) (qe_meth0 (qv 10) T_Board.cl m_Board_turned G_Board_turned (hr.mono (by decide)) b_Board_turned .nil pass0)) (qss_cons (qs_for PassesOwn.never rfl (qi_list (qe_slice sl_list (qv 0) (qo_some qe_int) (qo_some qe_int))) (qg_name (i := 12) sc_law.nd rfl (Or.inl rfl)) (qss_cons (qs_set (i := 13) sc_law.nd rfl (Or.inr rfl) (qe_own D_straight (hr.mono (by decide)) rfl (qa_cons (qv 7) (qa_cons (qe_own D_rest (hr.mono (by decide)) rfl (qa_cons (qv 12) qa_nil)) (qa_cons (qv 2) qa_nil))))) (qss_cons (qs_set (i := 14) sc_law.nd rfl (Or.inl rfl) (qe_callB (call_sumB rfl) (by rfl) n_sum PyProof.Rows.boot_sum (qa_cons (qe_comp rfl (CompOk.of sc_law.nd (by kernel_rfl)) (qi_tup (qe_own D_words (hr.mono (by decide)) rfl (qa_cons (qv 7) (qa_cons (qv 13) qa_nil)))) (fun _ _ _ _ _ => qts_nil) (fun _ _ _ _ _ => (qe_own D_count (hr.mono (by decide)) rfl (qa_cons (qv 10) (qa_cons (qv 4) (qa_cons (qv 14) (qa_cons (qv 0) qa_nil))))))) qa_nil))) (qss_cons (qs_cut (qs_if (qt_cmpR op_ge (qe_callB call_len_seq (by rfl) n_len PySem.boot_len (qa_cons (qv 13) qa_nil)) (qe_ix ix_tup (qv 4) qe_int (fun _ _ => rfl)) (nomark _)) (qss_one (qs_set (i := 14) sc_law.nd rfl (Or.inl rfl) (qe_op op_add (qv 14) (qe_ix ix_tup (qv 4) qe_int (fun _ _ => rfl))))) qss_nil)) (qss_cons (qs_set (i := 15) sc_law.nd rfl (Or.inl rfl) (qe_own D_points_of (hr.mono (by decide)) rfl (qa_cons (qv 10) (qa_cons (qv 3) (qa_cons (qv 4) (qa_cons (qv 13) qa_nil)))))) (qss_cons (qs_if (QW.qt (qw_or (qt_not (qt_val (qe_own D_whole (hr.mono (by decide)) rfl (qa_cons (qv 15) qa_nil)))) (qw_or (qt_cmpR op_ne (qv 15) (qv 14) (nomark _)) (qw_or1 (qt_cmpR op_ne (qe_own D_points_of (hr.mono (by decide)) rfl (qa_cons (qv 11) (qa_cons (qv 3) (qa_cons (qv 4) (qa_cons (qe_own D_turned (hr.mono (by decide)) rfl (qa_cons (qv 13) qa_nil)) qa_nil))))) (qv 14) (nomark _)))))) (qss_one (qs_ret qe_bl)) qss_nil) (qss_cons (qs_if (qt_cmpR op_ne (qe_own D_points_of (hr.mono (by decide)) rfl (qa_cons (qv 10) (qa_cons (qv 5) (qa_cons (qe_tup (qa_cons (qe_ix ix_tup (qv 4) qe_int (fun _ _ => rfl)) (qa_cons (qe_op op_mul qe_int (qe_ix ix_tup (qv 4) qe_int (fun _ _ => rfl))) qa_nil))) (qa_cons (qv 13) qa_nil))))) (qe_op op_mul qe_int (qv 14)) (nomark _)) (qss_one (qs_ret qe_bl)) qss_nil) (qss_one (qs_if (qt_cmpR op_ne (qe_own D_points_of (hr.mono (by decide)) rfl (qa_cons (qv 10) (qa_cons (qv 3) (qa_cons (qv 4) (qa_cons (qv 13) qa_nil))))) (qv 14) (nomark _)) (qss_one (qs_ret qe_bl)) qss_nil))))))))) (qss_one (qs_ret qe_bl))))))))))))))), ?_⟩
    refine ⟨_, rfl, a, ns, 0, rfl, hS, fun c0 => ⟨c0, rfl, fun R1 x1 H1 s1 hR1 hRn1 => ?_⟩⟩
    refine ⟨_, rfl, R1, x1, rfl, hR1, fun ls H2 k2 hA => ?_⟩
    obtain ⟨x2, hR2⟩ := k2.2
    refine ⟨_, rfl, _, rfl, R1, x2, ls, rfl, hR2, hA, fun d kvs H3 k3 hdn hd hW hB hl26 => ?_⟩
    have S3 : Same H H3 := Same.kp s1 hRn1 (k2.trans k3)
    have hd0 : H d = none := (Same.kp s1 hRn1 k2).free hdn
    have nRd : R1 ≠ d := fun z => by rw [z, hdn] at hR2; cases hR2
    obtain ⟨x3, hR3⟩ := k3.2
    refine ⟨_, rfl, R1, x3, 9, rfl, hR3, by decide, by decide, fun n0 y1 hn0 => ?_⟩
    have S4 : Same H (upd H3 R1 (.lst [.int y1])) := S3.upd' hRn1
    have hR4 : upd H3 R1 (.lst [.int y1]) R1 = some (.lst [.int y1]) := upd_same
    have hd4 : upd H3 R1 (.lst [.int y1]) d = some (.dK kvs) := by rw [upd_ne nRd.symm]; exact hd
    generalize upd H3 R1 (.lst [.int y1]) = H4 at S4 hR4 hd4 ⊢
    refine ⟨_, rfl, by show 2 ≤ sizeLine; decide, fun L hL => ?_⟩
    have sL : Same H4 (upd H4 L (HO.lst [V.int 60, V.int 500001])) := Same.upd hL
    have hL5 : upd H4 L (HO.lst [V.int 60, V.int 500001]) L = some (.lst [V.int 60, V.int 500001]) := upd_same
    have S5 := S4.trans sL
    have hR5 := sL _ _ hR4
    have hd5 := sL _ _ hd4
    have nLR : L ≠ R1 := fun z => by rw [← z, hL] at hR4; cases hR4
    generalize upd H4 L (HO.lst [V.int 60, V.int 500001]) = H5 at S5 hL5 hR5 hd5 ⊢
    refine ⟨_, rfl, R1, y1, 2, rfl, hR5, by decide, by decide, fun d2 y2 hd2 => ?_⟩
    have S6 : Same H (upd H5 R1 (.lst [.int y2])) := S5.upd' hRn1
    have hR6 : upd H5 R1 (.lst [.int y2]) R1 = some (.lst [.int y2]) := upd_same
    have hd6 : upd H5 R1 (.lst [.int y2]) d = some (.dK kvs) := by rw [upd_ne nRd.symm]; exact hd5
    have hL6 : upd H5 R1 (.lst [.int y2]) L = some (.lst [V.int 60, V.int 500001]) := by rw [upd_ne nLR]; exact hL5
    generalize upd H5 R1 (.lst [.int y2]) = H6 at S6 hR6 hd6 hL6 ⊢
    obtain ⟨m0, hm, hm1, hm2⟩ : ∃ m : Nat, atI [V.int 60, V.int 500001] (d2 : Int) = some (.int (m : Int)) ∧ 1 ≤ m ∧ m ≤ 500001 := by
      rcases (show d2 = 0 ∨ d2 = 1 by omega) with e | e
      · rw [e]; exact ⟨60, rfl, by decide, by decide⟩
      · rw [e]; exact ⟨500001, rfl, by decide, by decide⟩
    refine ⟨L, _, _, _, rfl, rfl, SqL.of hL6, hm, R1, y2, m0, rfl, hR6, hm1, by omega, fun b0 y3 hb0 => ?_⟩
    have S7 : Same H (upd H6 R1 (.lst [.int y3])) := S6.upd' hRn1
    have hd7 : upd H6 R1 (.lst [.int y3]) d = some (.dK kvs) := by rw [upd_ne nRd.symm]; exact hd6
    generalize upd H6 R1 (.lst [.int y3]) = H7 at S7 hd7 ⊢
    generalize hnn : (n0 : Int) = n
    generalize hmm : (b0 : Int) = m
    refine ⟨by show 2 ≤ sizeLine; decide, fun pb hpb => ?_⟩
    have sb : Same H7 (upd H7 pb (HO.tup [V.int n, V.int m])) := Same.upd hpb
    have hpb8 : upd H7 pb (HO.tup [V.int n, V.int m]) pb = some (.tup [.int n, .int m]) := upd_same
    have S8 := S7.trans sb
    have hd8 := sb _ _ hd7
    generalize upd H7 pb (HO.tup [V.int n, V.int m]) = H8 at S8 hd8 hpb8 ⊢
    refine fun e he => ?_
    have ned : e ≠ d := fun z => by rw [z, hd8] at he; cases he
    have hd9 : upd H8 e (HO.dK []) d = some (.dK kvs) := by rw [upd_ne ned.symm]; exact hd8
    refine ⟨_, rfl, d, kvs, rfl, hd9, fun o => ?_⟩
    have SG : Same H (upd H8 d (.frz o (.dK kvs))) := S8.upd' hd0
    have hGd : upd H8 d (.frz o (.dK kvs)) d = some (.frz o (.dK kvs)) := upd_same
    have hGe : upd H8 d (.frz o (.dK kvs)) e = none := by rw [upd_ne ned]; exact he
    have hGp : upd H8 d (.frz o (.dK kvs)) pb = some (.tup [.int n, .int m]) := by
      rw [upd_ne fun z => by rw [z, hd8] at hpb8; cases hpb8]; exact hpb8
    have SGi : Same (upd H8 d (.frz o (.dK kvs))) (upd (upd H8 e (HO.dK [])) d (.frz o (.dK kvs))) := fun b u hb => by
      by_cases z : b = d
      · subst z; rw [upd_same] at hb; rw [upd_same]; exact hb
      · rw [upd_ne z] at hb
        rw [upd_ne z, upd_ne (ne_of_none hb he)]; exact hb
    have hEi : upd (upd H8 e (HO.dK [])) d (.frz o (.dK kvs)) e = some (.dK []) := by rw [upd_ne ned, upd_same]
    generalize upd (upd H8 e (HO.dK [])) d (.frz o (.dK kvs)) = H10 at SGi hEi ⊢
    generalize upd H8 d (.frz o (.dK kvs)) = G at SG hGd hGe hGp SGi
    refine for_dict (o := o) (d := d) (kvs := kvs) (fun i σ H' => ∃ (v6 : Option V) (tw : List (Key × V)), σ = [some (.ref a), some (.ref R1), some (.str (S ls)), some (.ref d), some (.ref pb), some (.ref e), v6, none, none, none, none, none, none, none, none, none] ∧ Same G H' ∧ H' e = some (.dK tw) ∧ WD tw ∧ tw.length ≤ i ∧ HalfW kvs tw i)
      ⟨none, [], rfl, SGi, hEi, (fun kv m => nomatch m), Nat.le_refl _, fun c => by rw [if_neg (by simp)]; rfl⟩ (fun i σ H' _ h => by obtain ⟨_, _, _, sm, _⟩ := h; exact sm _ _ hGd) ?_ ?_
    · rintro i k v σ H' hk ⟨v6, tw, rfl, sm, he', hWt, hlt, hH⟩
      obtain ⟨c, j, ekv, c1, c2⟩ := hW _ (List.mem_of_getElem? hk)
      have ek : k = keyS [c] := congrArg Prod.fst ekv
      subst ek
      have hil : i < kvs.length := (List.getElem?_eq_some_iff.mp hk).1
      have hg : DGet H' d (kV (keyS [c])) (some (.int (wf kvs c))) := by
        rw [← wf_in hW (List.mem_of_getElem? hk)]
        exact DGet.rd (.inr ⟨o, sm _ _ hGd⟩)
      refine ⟨_, rfl, _, rfl, d, .int (wf kvs c), rfl, hg, _, _, rfl, rfl, .inl ⟨by decide, by decide⟩, _, rfl, _, rfl, e, _, rfl, DPut.k (k := keyS [c]) he' (small1000 (by omega)), ?_⟩
      exact ⟨_, _, rfl, sm.upd' hGe, upd_same, hWt.put _ c1 c2, Nat.le_trans (length_putK _ _ _) (by omega), hH.next hk⟩
    · rintro σ H11 ⟨v6, tw, rfl, sm, he', hWt, hlt, hH⟩
      have hHf := hH.full
      have hBt : WB 1000000 tw := fun c => by rw [hHf c]; have := hB c; omega
      have hB' : WB 1000000 kvs := fun c => by have := hB c; omega
      have S11 := SG.trans sm
      have hd11 : Rd H11 d (.dK kvs) := .inr ⟨o, sm _ _ hGd⟩
      have hp11 := sm _ _ hGp
      refine ⟨_, rfl, a, ns, 1, rfl, S11.seq hS, fun c1 => ⟨c1, rfl, fun R2 x4 H12 s12 hR12 hRn2 => ⟨_, rfl, R2, x4, ls, 6, rfl, hR12, hA, by decide, by decide, fun pr rows r w H13 k13 hpr hb r1 r9 w1 w9 hro hfree => ?_⟩⟩⟩
      have s13 : Same H11 H13 := Same.kp s12 hRn2 k13
      have S13 := S11.trans s13
      refine ⟨_, rfl, a, ns, 2, rfl, S13.seq hS, fun c2 => ⟨c2, rfl, fun R3 x5 H14 s14 hR14 hRn3 => ?_⟩⟩
      have npR : pr ≠ R3 := ne_of_none hpr hRn3
      refine ⟨_, rfl, _, rfl, R3, x5, pr, rows, r, w, rfl, hR14, s14 _ _ hpr, hb, r1, r9, w1, w9, fun pg bi bj H15 k15 hpg hbi hbj => ?_⟩
      obtain ⟨x6, hR15⟩ := k15.2
      refine ⟨_, rfl, _, rfl, R3, x6, pr, rows, r, w, rfl, hR15, k15.1 _ _ (s14 _ _ hpr) npR, hb, r1, r9, w9, fun pm marks H16 k16 hpm hbm hmk => ?_⟩
      have s16 : Same H13 H16 := Same.kp s14 hRn3 (k15.trans k16)
      have hpr16 := s16 _ _ hpr
      have hpg16 := k16.tup hR15 _ _ hpg
      have B : Brd r w rows marks bi bj := ⟨r1, r9, w1, w9, hb, hbm, hro, hmk, hbi, hbj⟩
      refine ⟨_, rfl, _, rfl, _, rfl, fun b dx nx ndx nex => ?_⟩
      have t2 : Same H16 (upd (upd H16 dx (HO.own b)) b (HO.ins C dx [])) := fun c o e => by rw [upd_ne (ne_of_none e nx), upd_ne (ne_of_none e ndx)]; exact e
      refine ⟨b, dx, pr, pm, pg, r, w, rows, marks, bi, bj, rfl, upd_same, t2 _ _ hpr16, t2 _ _ hpm, t2 _ _ hpg16, B, fun H17 kp hx17 => ⟨rfl, ?_⟩⟩
      have t3 : Same H16 H17 := fun c o e => kp c o (t2 c o e) (ne_of_none e nx)
      have BA17 : BoardAt C H17 b r w rows marks bi bj := ⟨⟨dx, pr, pm, pg, hx17, t3 _ _ hpr16, t3 _ _ hpm, t3 _ _ hpg16⟩, B⟩
      refine ⟨_, rfl, b, dx, _, rfl, hx17, rfl, b, r, w, rows, marks, bi, bj, rfl, BA17, fun b2 H18 s18 BA2 => ?_⟩
      have BA := BA17.mv s18
      have s11 : Same H11 H18 := ((s13.trans s16).trans t3).trans s18
      have S18 := S11.trans s11
      have hpr18 := s18 _ _ (t3 _ _ hpr16)
      have hpm18 := s18 _ _ (t3 _ _ hpm)
      have hd18 := hd11.mv s11
      have he18 : Rd H18 e (.dK tw) := .inl (s11 _ _ he')
      have hp18 := s11 _ _ hp11
      refine ⟨_, rfl, _, rfl, _, rfl, a, _, rfl, S18.seq hS, fun ta hta => ?_⟩
      generalize hxs : cutV (ns.map V.int) (some 3) (some 63) = xs
      have kta : Same H18 (upd H18 ta (HO.lst xs)) := Same.upd hta
      have hta8 : upd H18 ta (HO.lst xs) ta = some (.lst xs) := upd_same
      generalize upd H18 ta (HO.lst xs) = H19 at kta hta8 ⊢
      refine ⟨ta, rfl, ⟨_, SqL.of hta8⟩, for_list (K := K) (a := ta) (xs := xs) (fun n σ H' => ∃ v12 v13 v14 v15 : Option V, σ = [some (.ref a), some (.ref R3), some (.str (S ls)), some (.ref d), some (.ref pb), some (.ref e), v6, some (.ref pr), some (.ref pg), some (.ref pm), some (.ref b), some (.ref b2), v12, v13, v14, v15] ∧ Same H19 H')
        ⟨none, none, none, none, rfl, Same.refl _⟩ (fun n σ H' _ h => by obtain ⟨_, _, _, _, _, sm⟩ := h; exact SqL.of (sm _ _ hta8)) ?_ ?_⟩
      · rintro n1 x σ H20 hx ⟨v12, v13, v14, v15, rfl, s20⟩
        obtain ⟨c, rfl⟩ : ∃ c : Int, x = .int c := by
          have := List.mem_of_getElem? hx
          rw [← hxs] at this
          exact cut_mem this
        have k20 := kta.trans s20
        refine ⟨_, rfl, _, rfl, c, rfl, fun R x7 H21 s21 hR21 hRn => ⟨_, rfl, pr, rows, r, w, R, x7, ls, rfl, hR21, s21 _ _ (k20 _ _ hpr18), hb, r1, r9, w1, w9, hfree, hA, fun t as ts H22 k22 ht hL hin hne h7 hl2 => ?_⟩⟩
        have s22 : Same H20 H22 := Same.kp s21 hRn k22
        have h0 : 0 < ts.length := List.length_pos_iff.mpr hne
        have j22 := k20.trans s22
        have hok : ∀ t ∈ ts, okT t := fun t ht => by
          obtain ⟨a1, a2, a3⟩ := hin t ht
          exact ⟨by omega, by omega, a3.lt⟩
        refine ⟨_, rfl, _, rfl, pr, t, as, ts, r, w, rows, rfl, j22 _ _ hpr18, hb, r9, w9, ht, hL, hin, h0, h7, fun T2 bs H23 s23 hT2 hQ2 => ?_⟩
        have hql := wordsF_len (rows := rows) h7
        have hbl : bs.length = (wordsF rows ts).length := hQ2.len
        have j23 := j22.trans s23
        refine ⟨T2, rfl, ⟨_, SqT.of hT2⟩, fun M hM => comp_tup (K := K) (a := T2) (xs := bs.map V.ref) (fun i ys H2 => ys = ((wordsF rows ts).take i).map (fun q => V.int (ptF marks kvs ts q)) ∧ H2 M = some (.lst ys) ∧ Same H23 H2)
          ⟨rfl, upd_same, Same.upd hM⟩ (fun i ys H2 _ h => SqT.of (h.2.2 _ _ hT2)) ?_ ?_⟩
        · rintro i x ys H24 hx ⟨rfl, hM2, s2⟩
          have hi : i < bs.length := by have := (List.getElem?_eq_some_iff.mp hx).1; simpa using this
          have hiw : i < (wordsF rows ts).length := by omega
          rw [List.getElem?_map, List.getElem?_eq_getElem hi] at hx
          have hx : V.ref bs[i] = x := Option.some.inj hx
          subst hx
          obtain ⟨qq, eq, hat⟩ := (hQ2.mv s2).get hi
          have hqi := words_in hb r9 w9 hin (List.mem_of_getElem? eq)
          have j24 := j23.trans s2
          have s24 := s23.trans s2
          refine ⟨_, rfl, _, rfl, _, rfl, _, rfl, pm, d, t, bs[i], kvs, as, ts, qq, r, w, marks, rfl, j24 _ _ hpm18, hbm, w9, hmk, hd18.mv j24, hW, s24 _ _ ht, hL.mv s24, h7, hat, hqi, fun H25 s25 => ?_⟩
          refine ⟨s25 _ _ hM2, by rw [List.length_map, List.length_take]; exact small1000 (by omega), Nxt.mk (by rw [List.length_map]; exact hi) ⟨?_, upd_same, (s2.trans s25).upd' hM⟩⟩
          rw [List.take_add_one, eq, List.map_append]
          rfl
        · rintro ys H24 ⟨rfl, hM2, s2⟩
          rw [List.length_map, hbl, List.take_length] at hM2
          have j24 := j23.trans s2
          have s24 := s23.trans s2
          have ht24 := s24 _ _ ht
          have hL24 := hL.mv s24
          have hp24 := j24 _ _ hp18
          have hM2' : H24 M = some (.lst (((wordsF rows ts).map (ptF marks kvs ts)).map V.int)) := by rw [List.map_map]; exact hM2
          refine ⟨M, (wordsF rows ts).map (ptF marks kvs ts), rfl, SqL.of hM2', by rw [List.length_map]; omega, fun x hx => ?_, ?_⟩
          · obtain ⟨qq, hq, rfl⟩ := List.mem_map.mp hx
            exact pt_f hB' (words_in hb r9 w9 hin hq) r9 w9
          refine ⟨fun σ' H' => H' = H24 ∧ σ' = [some (.ref a), some (.ref R3), some (.str (S ls)), some (.ref d), some (.ref pb), some (.ref e), v6, some (.ref pr), some (.ref pg), some (.ref pm), some (.ref b), some (.ref b2), some (.int c), some (.ref t), some (.int (totF rows marks kvs ts n m)), v15], ?_, ?_⟩
          · refine ⟨_, rfl, t, _, rfl, .inr (SqT.of ht24), _, rfl, pb, _, _, _, rfl, rfl, SqT.of hp24, atI_nat (j := 0) rfl, _, _, rfl, rfl, _, rfl, ?_⟩
            rw [List.length_map, hL.len]
            by_cases z : n ≤ (ts.length : Int)
            · rw [decide_eq_true z]
              refine iteT ⟨_, rfl, _, rfl, pb, _, _, _, rfl, rfl, SqT.of hp24, atI_nat (j := 1) rfl, _, _, rfl, rfl, rfl, ?_⟩
              rw [← tot_due, if_pos z]
              rfl
            · rw [decide_eq_false z]
              refine iteF ⟨rfl, ?_⟩
              rw [← tot_due, if_neg z, Int.add_zero]
              rfl
          rintro σ' H' ⟨rfl, rfl⟩
          have BA24 := BA.mv j24
          have BB24 := BA2.mv j24
          have hd24 := hd18.mv j24
          refine ⟨_, rfl, _, rfl, _, rfl, _, rfl, b, d, pb, t, kvs, n, m, as, ts, r, w, rows, marks, bi, bj, rfl, BA24, hd24, hW, hB', hp24, ht24, hL24, hin, h0, h7, hl2.one, fun H26 s26 => ?_⟩
          refine ⟨_, rfl, _, rfl, _, rfl, iteF ⟨_, rfl, _, rfl, rfl, _, rfl, ?_⟩⟩
          rw [decide_eq_true rfl]
          refine iteF ⟨_, rfl, _, rfl, _, rfl, _, rfl, t, as, ts, rfl, s26 _ _ ht24, hL24.mv s26, hok, ?_, by omega, fun t2 as2 ts2 H27 s27 ht2 hLt pmt pwt => ?_⟩
          · have := rk_line hl2.turn
            rw [List.map_map] at this
            exact this.imp fun h => Nat.ne_of_lt h
          have ets := turned_eq hl2 pmt pwt
          subst ets
          have s27' := s26.trans s27
          have h0' : 0 < (ts.map sw).length := by rw [List.length_map]; exact h0
          have h7' : (ts.map sw).length ≤ 7 := by rw [List.length_map]; exact h7
          refine ⟨b2, d, pb, t2, kvs, n, m, as2, ts.map sw, w, r, turnR rows w, turnR marks w, bj, bi, rfl, BB24.mv s27', hd24.mv s27', hW, hB', s27' _ _ hp24, ht2, hLt, in_turn hin, h0', h7', hl2.turn.one, fun H28 s28 => ?_⟩
          have s28' := s27'.trans s28
          refine ⟨_, rfl, rfl, _, rfl, ?_⟩
          rw [tot_turn hb hbm r9 w9 hin hl2 h0, decide_eq_true rfl]
          refine iteF ?_
          refine ⟨_, rfl, _, rfl, _, rfl, pb, _, _, _, rfl, rfl, SqT.of (s28' _ _ hp24), atI_nat (j := 0) rfl, _, rfl, pb, _, _, _, rfl, rfl, SqT.of (s28' _ _ hp24), atI_nat (j := 1) rfl, _, _, rfl, rfl, .inl ⟨by decide, by decide⟩, by show 2 ≤ sizeLine; decide, fun pc hpc => ?_⟩
          have s29 : Same H28 (upd H28 pc (HO.tup [V.int n, V.int (2 * m)])) := Same.upd hpc
          have hpc29 : upd H28 pc (HO.tup [V.int n, V.int (2 * m)]) pc = some (.tup [.int n, .int (2 * m)]) := upd_same
          generalize upd H28 pc (HO.tup [V.int n, V.int (2 * m)]) = H29 at s29 hpc29 ⊢
          have s29' := s28'.trans s29
          refine ⟨_, rfl, b, e, pc, t, tw, n, 2 * m, as, ts, r, w, rows, marks, bi, bj, rfl, BA24.mv s29', (he18.mv j24).mv s29', hWt, hBt, hpc29, s29' _ _ ht24, hL24.mv s29', hin, h0, h7, hl2.one, fun H30 s30 => ?_⟩
          have s30' := s29'.trans s30
          refine ⟨_, rfl, _, _, rfl, rfl, .inl ⟨by decide, by decide⟩, rfl, _, rfl, ?_⟩
          rw [tot_twice hHf, decide_eq_true rfl]
          refine iteF ?_
          refine ⟨_, rfl, _, rfl, _, rfl, _, rfl, b, d, pb, t, kvs, n, m, as, ts, r, w, rows, marks, bi, bj, rfl, BA24.mv s30', hd24.mv s30', hW, hB', s30' _ _ hp24, s30' _ _ ht24, hL24.mv s30', hin, h0, h7, hl2.one, fun H31 s31 => ?_⟩
          refine ⟨_, rfl, rfl, _, rfl, ?_⟩
          rw [decide_eq_true rfl]
          exact iteF ⟨_, _, _, _, rfl, ((s20.trans s22).trans s24).trans (s30'.trans s31)⟩
      · rintro σ H20 ⟨v12, v13, v14, v15, rfl, s20⟩
        exact q _

end
end My
end

set_option Elab.async false
set_option linter.all false
set_option maxRecDepth 100000
set_option maxHeartbeats 2000000
namespace My
open PySem L2
section
variable {P : Program} {w : World} {K : PySem.W.Frag} {mg : Str → Option Value} {base : Heap}
theorem gdict3 {h : Heap} (X : K.In h) (G : h.Ns mainGlobals mg) {x : Str} {a : Addr} {c1 c2 c3 : Nat} {i1 i2 i3 : Int} {t1 t2 t3 u1 u2 u3 : Tok} {ep : Nat}
    (b : PySem.W.nsIn K mainGlobals x = some (some (.ref a)))
    (l : K.lookup a = some ⟨.type "dict", none, .dict #[⟨hashStr w (S [c1]), .str (S [c1]) t1, .int i1 u1⟩, ⟨hashStr w (S [c2]), .str (S [c2]) t2, .int i2 u2⟩, ⟨hashStr w (S [c3]), .str (S [c3]) t3, .int i3 u3⟩] ep, #[]⟩)
    (z : (a == sysModules) = false) (n : ([c1, c2, c3] : List Nat).Nodup) :
    ∃ a, mg x = some (.ref a) ∧ ∀ P : Program, KDict P w K a [(keyS [c1], .int i1), (keyS [c2], .int i2), (keyS [c3], .int i3)] := by
  refine ⟨a, PySem.W.mg_of X G b, fun P => ⟨z, _, [(keyS [c1], .int i1 u1), (keyS [c2], .int i2 u2), (keyS [c3], .int i3 u3)], l, ?_, ?_⟩⟩
  · exact .cons ⟨rfl, ⟨_, rfl⟩⟩ (.cons ⟨rfl, ⟨_, rfl⟩⟩ (.cons ⟨rfl, ⟨_, rfl⟩⟩ .nil))
  · refine ⟨_, _, ⟨rfl, rfl, rfl⟩, rfl, ?_, ?_, ?_⟩
    · intro e he
      have he : e ∈ [(⟨hashStr w (S [c1]), .str (S [c1]) t1, .int i1 u1⟩ : DictEntry), ⟨hashStr w (S [c2]), .str (S [c2]) t2, .int i2 u2⟩, ⟨hashStr w (S [c3]), .str (S [c3]) t3, .int i3 u3⟩] := by simpa using he
      rcases List.mem_cons.mp he with rfl | he
      · exact ⟨keyS [c1], mixKind_str _ _ _ _, rfl⟩
      rcases List.mem_cons.mp he with rfl | he
      · exact ⟨keyS [c2], mixKind_str _ _ _ _, rfl⟩
      rcases List.mem_cons.mp he with rfl | he
      · exact ⟨keyS [c3], mixKind_str _ _ _ _, rfl⟩
      · cases he
    · exact .cons (mixKind_str _ _ _ _) rfl (.cons (mixKind_str _ _ _ _) rfl (.cons (mixKind_str _ _ _ _) rfl .nil))
    · have e : ([(keyS [c1], Value.int i1 u1), (keyS [c2], Value.int i2 u2), (keyS [c3], Value.int i3 u3)] : List (Key × Value)).map (·.1) = ([c1, c2, c3] : List Nat).map (fun c => keyS [c]) := rfl
      rw [e]
      refine List.Pairwise.map _ (fun a b hab q => hab ?_) n
      have := S_inj (Sum.inr.inj q)
      simpa using this
structure BoardFacts (K : PySem.W.Frag) (mg : Str → Option Value) (C f0 f1 f2 f3 : Addr) (fd0 fd1 fd2 fd3 : FuncData) : Prop where
  T : BoardCls K C
  mgC : mg "Board" = some (.ref C)
  M : Mk K C f0
  F0 : Fun K "__init__" "Board.__init__" s_Board_init f0 fd0
  b0 : Binds K fd0 ["self", "rows", "marks", "begin"] []
  F1 : Fun K "run" "Board.run" s_Board_run f1 fd1
  b1 : Binds K fd1 ["self", "row", "column", "way"] []
  m1 : Meth K C "run" f1
  F2 : Fun K "turned" "Board.turned" s_Board_turned f2 fd2
  b2 : Binds K fd2 ["self"] []
  m2 : Meth K C "turned" f2
  F3 : Fun K "laid" "Board.laid" s_Board_laid f3 fd3
  b3 : Binds K fd3 ["self", "laying"] []
  m3 : Meth K C "laid" f3
theorem Board_mk {h : Heap} {C f0 f1 f2 f3 : Addr} (X : K.In h) (G : h.Ns mainGlobals mg)
    {od0 an0 od1 an1 od2 an2 od3 an3 : Option Addr} {sl0 sl1 sl2 sl3 : Array (Option Value)} {oc0 kV0 dc0 pm0 cd0 ct0 oc1 kV1 dc1 pm1 cd1 ct1 oc2 kV2 dc2 pm2 cd2 ct2 oc3 kV3 dc3 pm3 cd3 ct3 : Value}
    (aC : PySem.W.nsIn K mainGlobals "Board" = some (some (.ref C)))
    (a0 : PySem.W.findIn K (.ref C) "__init__" = some (some (.ref f0))) (i0 : PySem.W.isFn K (.ref f0) = true) (l0 : K.lookup f0 = some ⟨oc0, od0, .func (PySem.W.fnOf "__init__" "Board.__init__" (defArgs s_Board_init) (defBody s_Board_init) (defScope s_Board_init) .none kV0 dc0 pm0 an0 cd0 ct0), sl0⟩) (c0 : PySem.W.codeIn K cd0 "Board.__init__" = true) (k0 : PySem.W.keepIn K (.ref f0) = true)
    (a1 : PySem.W.findIn K (.ref C) "run" = some (some (.ref f1))) (i1 : PySem.W.isFn K (.ref f1) = true) (l1 : K.lookup f1 = some ⟨oc1, od1, .func (PySem.W.fnOf "run" "Board.run" (defArgs s_Board_run) (defBody s_Board_run) (defScope s_Board_run) .none kV1 dc1 pm1 an1 cd1 ct1), sl1⟩) (c1 : PySem.W.codeIn K cd1 "Board.run" = true) (k1 : PySem.W.keepIn K (.ref f1) = true)
    (a2 : PySem.W.findIn K (.ref C) "turned" = some (some (.ref f2))) (i2 : PySem.W.isFn K (.ref f2) = true) (l2 : K.lookup f2 = some ⟨oc2, od2, .func (PySem.W.fnOf "turned" "Board.turned" (defArgs s_Board_turned) (defBody s_Board_turned) (defScope s_Board_turned) .none kV2 dc2 pm2 an2 cd2 ct2), sl2⟩) (c2 : PySem.W.codeIn K cd2 "Board.turned" = true) (k2 : PySem.W.keepIn K (.ref f2) = true)
    (a3 : PySem.W.findIn K (.ref C) "laid" = some (some (.ref f3))) (i3 : PySem.W.isFn K (.ref f3) = true) (l3 : K.lookup f3 = some ⟨oc3, od3, .func (PySem.W.fnOf "laid" "Board.laid" (defArgs s_Board_laid) (defBody s_Board_laid) (defScope s_Board_laid) .none kV3 dc3 pm3 an3 cd3 ct3), sl3⟩) (c3 : PySem.W.codeIn K cd3 "Board.laid" = true) (k3 : PySem.W.keepIn K (.ref f3) = true)
    (pg : PySem.W.plainGet K C Str.empty = true) (hd : PySem.W.hasDictIn K C = true) (po : PySem.W.plainOver K C = true) (sa : PySem.W.findIn K (.ref C) "__setattr__" = some (some (.builtin "object.__setattr__"))) (mk : PySem.W.makesIn K C = true) (kc : PySem.W.keepIn K (.ref C) = true) (nf0 : PySem.W.findIn K (.ref C) "rows" = some none) (nf1 : PySem.W.findIn K (.ref C) "marks" = some none) (nf2 : PySem.W.findIn K (.ref C) "begin" = some none) : ∃ C f0 f1 f2 f3 fd0 fd1 fd2 fd3, BoardFacts K mg C f0 f1 f2 f3 fd0 fd1 fd2 fd3 := by
  have F0 := fun_mk (st := s_Board_init) l0 c0 k0
  have F1 := fun_mk (st := s_Board_run) l1 c1 k1
  have F2 := fun_mk (st := s_Board_turned) l2 c2 k2
  have F3 := fun_mk (st := s_Board_laid) l3 c3 k3
  exact ⟨C, f0, f1, f2, f3, _, _, _, _, ⟨⟨pg, hd, po, sa⟩, nf0, nf1, nf2⟩, PySem.W.mg_of X G aC, ⟨mk, a0, i0, kc⟩, F0, F0.binds (ps := ["self", "rows", "marks", "begin"]) (fun _ _ _ _ _ _ us hl => L2.e4 (fun _ _ _ _ => rfl) us hl), F1, F1.binds (ps := ["self", "row", "column", "way"]) (fun _ _ _ _ _ _ us hl => L2.e4 (fun _ _ _ _ => rfl) us hl), ⟨a1, i1, k1⟩, F2, F2.binds (ps := ["self"]) (fun _ _ _ _ _ _ us hl => L2.e1 (fun _ => rfl) us hl), ⟨a2, i2, k2⟩, F3, F3.binds (ps := ["self", "laying"]) (fun _ _ _ _ _ _ us hl => L2.e2 (fun _ _ => rfl) us hl), ⟨a3, i3, k3⟩⟩
theorem law_all (n_len : mg "len" = none) (n_range : mg "range" = none) (n_tuple : mg "tuple" = none) (n_list : mg "list" = none) (n_isinstance : mg "isinstance" = none) (n_bool : mg "bool" = none) (n_int : mg "int" = none) (n_str : mg "str" = none) (n_all : mg "all" = none) (n_enumerate : mg "enumerate" = none) (n_sum : mg "sum" = none) (n_sorted : mg "sorted" = none)
    (g_FREE : ∃ t, mg "FREE" = some (.str (S [46]) t)) (g_MARKS : ∃ t, mg "MARKS" = some (.str (S MK) t)) (g_MOST : ∃ t, mg "MOST" = some (.int 9 t)) (d_is_whole : DefAt K mg "is_whole" s_is_whole ["thing"]) (d_is_sign : DefAt K mg "is_sign" s_is_sign ["thing"]) (d_is_block : DefAt K mg "is_block" s_is_block ["thing"]) (d_are_rows : DefAt K mg "are_rows" s_are_rows ["thing"]) (d_are_marks : DefAt K mg "are_marks" s_are_marks ["thing"]) (d_is_cell_of : DefAt K mg "is_cell_of" s_is_cell_of ["rows", "row", "column"]) (d_is_begin_of : DefAt K mg "is_begin_of" s_is_begin_of ["rows", "thing"]) (d_is_board : DefAt K mg "is_board" s_is_board ["rows", "marks", "begin"]) (d_column_text : DefAt K mg "column_text" s_column_text ["rows", "column"]) (d_turned_rows : DefAt K mg "turned_rows" s_turned_rows ["rows"]) (d_cells_of : DefAt K mg "cells_of" s_cells_of ["laying"]) (d_is_across : DefAt K mg "is_across" s_is_across ["laying"]) (d_formed : DefAt K mg "formed" s_formed ["board", "laying"]) (d_worth_of : DefAt K mg "worth_of" s_worth_of ["worths", "sign"]) (d_cell_in : DefAt K mg "cell_in" s_cell_in ["word", "place"]) (d_word_points : DefAt K mg "word_points" s_word_points ["board", "worths", "laying", "word"]) (d_bonus_of : DefAt K mg "bonus_of" s_bonus_of ["bonus", "laying"]) (d_points_of : DefAt K mg "points_of" s_points_of ["board", "worths", "bonus", "laying"]) (d_cell_at : DefAt K mg "_law_cell_at" s_cell_at ["_law_script", "_law_k"]) (d_take : DefAt K mg "_law_take" s_take ["_law_rest_here", "_law_base"]) (d_rest : DefAt K mg "_law_rest" s_rest ["_law_cell"]) (d_letters : DefAt K mg "_law_letters" s_letters ["_law_rest_here"]) (d_sign : DefAt K mg "_law_sign" s_sign ["_law_rest_here", "_law_letters_here", "_law_great"]) (d_rows : DefAt K mg "_law_rows" s_rows ["_law_rest_here", "_law_letters_here", "_law_most"]) (d_marks : DefAt K mg "_law_marks" s_marks ["_law_rest_here", "_law_rows_here"]) (d_begin : DefAt K mg "_law_begin" s_begin ["_law_rest_here", "_law_rows_here"]) (d_grid : DefAt K mg "_law_grid" s_grid ["_law_rows_here", "_law_laying"]) (d_run : DefAt K mg "_law_run" s_run ["_law_grid_here", "_law_row", "_law_column", "_law_way"]) (d_words : DefAt K mg "_law_words" s_words ["_law_rows_here", "_law_laying"]) (d_is_near : DefAt K mg "_law_is_near" s_is_near ["_law_rows_here", "_law_row", "_law_column"]) (d_starts : DefAt K mg "_law_starts" s_starts ["_law_rows_here", "_law_rest_here"]) (d_straight : DefAt K mg "_law_straight" s_straight ["_law_rows_here", "_law_rest_here", "_law_letters_here"]) (d_whole : DefAt K mg "_law_whole" s_whole ["_law_found"]) (d_worths : DefAt K mg "_law_worths" s_worths ["_law_rest_here", "_law_letters_here", "_law_most"]) (d_count : DefAt K mg "_law_count" s_count ["_law_marks_here", "_law_worths_here", "_law_laying", "_law_word"]) (d_turned : DefAt K mg "_law_turned" s_turned ["_law_laying"]) {C_Board fBoard0 fBoard1 fBoard2 fBoard3 : Addr} {fdBoard0 fdBoard1 fdBoard2 fdBoard3 : FuncData} (B_Board : BoardFacts K mg C_Board fBoard0 fBoard1 fBoard2 fBoard3 fdBoard0 fdBoard1 fdBoard2 fdBoard3) {gl gw : Addr}
    (kl : mg "LETTER_MARKS" = some (.ref gl) ∧ ∀ P : Program, KDict P w K gl LMK) (kw : mg "WORD_MARKS" = some (.ref gw) ∧ ∀ P : Program, KDict P w K gw WMK)
    {f : Addr} {fd : FuncData} (F : Fun K "law" "law" s_law f fd) : FnOk P w K mg base CX0 20 f fd ["_law_script"] (spLaw K) := by
  have c1 := ok_cell_at (P := P) (w := w) (base := base) d_cell_at n_len
  have r1 := ok_take (P := P) (w := w) (base := base) d_take
  have r2 := ok_rest (P := P) (w := w) (base := base) d_rest n_range
  have r3 := ok_lettersR d_letters n_len n_range r1
  have r4 := ok_signR d_sign n_len r1
  have r5 := ok_rowsR d_rows n_int n_range n_tuple r1 r4
  have r6 := ok_marksR d_marks n_tuple r1
  have r7 := ok_beginR d_begin n_len r1
  have c7 := ok_is_near (P := P) (w := w) (base := base) d_is_near n_len
  have r8 := ok_startsR d_starts n_len n_range r1 c7
  have r9 := ok_straightR d_straight n_len n_int n_tuple r1 r8 r4
  have rA := ok_worthsR d_worths r1
  have p1 := ok_is_sign (P := P) (w := w) (base := base) d_is_sign n_len n_str n_isinstance
  have p2 := ok_is_whole (P := P) (w := w) (base := base) d_is_whole n_int n_bool n_isinstance
  have p3 := ok_is_block (P := P) (w := w) (base := base) d_is_block n_len n_tuple n_str n_all n_isinstance g_MOST
  have p4 := ok_are_rows d_are_rows n_all g_FREE p3 p1
  have p5 := ok_are_marks d_are_marks n_all g_MARKS p3
  have p6 := ok_is_cell_of d_is_cell_of n_len p2
  have p7 := ok_is_begin_of d_is_begin_of n_len n_tuple n_isinstance p6
  have p8 := ok_is_board d_is_board n_len p4 p5 p7
  have p9 := ok_column_text (P := P) (w := w) (base := base) d_column_text
  have pA := ok_turned_rows d_turned_rows n_len n_range n_tuple p9
  have g0 := ok_board_init B_Board.F0 B_Board.T p8
  have g1 := ok_run B_Board.F1 B_Board.T n_len g_FREE p9
  have g2 := ok_turned B_Board.F2 B_Board.T B_Board.mgC B_Board.M g0 B_Board.b0 pA
  have g3 := ok_laid B_Board.F3 B_Board.T n_list n_tuple B_Board.mgC B_Board.M g0 B_Board.b0
  have x1 := ok_grid (P := P) (w := w) (base := base) d_grid n_list
  have x2 := ok_law_run (P := P) (w := w) (base := base) d_run n_len
  have x3 := ok_law_words d_words n_len n_int n_tuple x1 x2
  have x4 := ok_is_across (P := P) (w := w) (base := base) d_is_across n_all
  have x5 := ok_formed d_formed n_len n_tuple B_Board.T B_Board.m3 g3 B_Board.b3 B_Board.m1 g1 B_Board.b1 x4
  have y1 := ok_cells_of (P := P) (w := w) (base := base) d_cells_of
  have y2 := ok_cell_in (P := P) (w := w) (base := base) d_cell_in
  have y3 := ok_worth_of (P := P) (w := w) (base := base) d_worth_of
  have y4 := ok_points d_word_points n_enumerate B_Board.T kl.1 kw.1 (kl.2 P) (kw.2 P) y1 y2 y3
  have y5 := ok_whole (P := P) (w := w) (base := base) d_whole n_int n_bool n_isinstance
  have y7 := ok_count (P := P) (w := w) (base := base) d_count n_len n_int n_range
  have y8 := ok_bonus_of (P := P) (w := w) (base := base) d_bonus_of n_len
  have y9 := ok_points_of d_points_of n_sum x5 y4 y8
  have yA := ok_law_turned (P := P) (w := w) (base := base) d_turned n_tuple n_sorted
  exact (ok_law F n_len n_sum B_Board.T B_Board.mgC B_Board.M g0 B_Board.b0 B_Board.m2 g2 B_Board.b2 c1 r2 r1 r3 rA r5 r7 r6 r9 x3 y7 y5 yA y9).mono (by decide)
end
end My
def PySem.W.Fast.tw11009924141502346265 : Nat := 0
def PySem.W.Fast.tw2913495802533753988 : Nat := 0
def PySem.W.Fast.tw8839190821757353649 : Nat := 0
def PySem.W.Fast.tw17356518906804207927 : Nat := 0
def PySem.W.Fast.tw13446622138779752697 : Nat := 0
def PySem.W.Fast.tw1665180403663309347 : Nat := 0
def PySem.W.Fast.tw4978026196846973449 : Nat := 0
def PySem.W.Fast.tw1839631719329566100 : Nat := 0
def PySem.W.Fast.tw14748271260839056973 : Nat := 0
def PySem.W.Fast.tw15999064434058260725 : Nat := 0
def PySem.W.Fast.tw16042849268398696767 : Nat := 0
def PySem.W.Fast.tw12127143903163466657 : Nat := 0
def PySem.W.Fast.tw6135561873391414330 : Nat := 0
def PySem.W.Fast.tw5162346472869011822 : Nat := 0
def PySem.W.Fast.tw2712257330497536896 : Nat := 0
def PySem.W.Fast.tw3659612660965693173 : Nat := 0
def PySem.W.Fast.tw5316079955372851393 : Nat := 0
def PySem.W.Fast.tw9374155175888099275 : Nat := 0
def PySem.W.Fast.tw133730344159095294 : Nat := 0
def PySem.W.Fast.tw10297750147203148871 : Nat := 0
def PySem.W.Fast.tw3276889796688959588 : Nat := 0
def PySem.W.Fast.tw3021464589120738466 : Nat := 0
def PySem.W.Fast.tw3774187332065306569 : Nat := 0
def PySem.W.Fast.tw16560477724322008707 : Nat := 0
def PySem.W.Fast.tw17981227827591841732 : Nat := 0
def PySem.W.Fast.tw1675201702391635799 : Nat := 0
def PySem.W.Fast.tw9602559649021995463 : Nat := 0
def PySem.W.Fast.tw14834984496489115493 : Nat := 0
def PySem.W.Fast.tw4850330373825738508 : Nat := 0
def PySem.W.Fast.tw6452839559442250189 : Nat := 0
def PySem.W.Fast.tw12182862753990118700 : Nat := 0
def PySem.W.Fast.tw4398056789141346212 : Nat := 0
def PySem.W.Fast.tw4486211602120476688 : Nat := 0
def PySem.W.Fast.tw8352341067320145719 : Nat := 0
def PySem.W.Fast.tw3907211838080381769 : Nat := 0
def PySem.W.Fast.tw360033327461553491 : Nat := 0
def PySem.W.Fast.tw7484521341644198500 : Nat := 0
def PySem.W.Fast.tw7148367200327568069 : Nat := 0
def PySem.W.Fast.tw6503462771007758530 : Nat := 0
def PySem.W.Fast.tw2645395708138570048 : Nat := 0
def PySem.W.Fast.tw16056669879458796899 : Nat := 0
def PySem.W.Fast.tw6160765935055844276 : Nat := 0
def PySem.W.Fast.tw9684775805675322978 : Nat := 0
def PySem.W.Fast.tw5838687100184222950 : Nat := 0
def PySem.W.Fast.tw357307460946873205 : Nat := 0
def PySem.W.Fast.tw12575527883398592579 : Nat := 0
def PySem.W.Fast.tw4650371180062463420 : Nat := 0
def PySem.W.Fast.tw17928980445195664848 : Nat := 0
def PySem.W.Fast.tw10218439961141966805 : Nat := 0
def PySem.W.Fast.tw5960858740643650462 : Nat := 0
def PySem.W.Fast.tw1529299593382236297 : Nat := 0
def PySem.W.Fast.tw14451825309216424379 : Nat := 0
def PySem.W.Fast.tw12355880877421116055 : Nat := 0
def PySem.W.Fast.tw13824480260048212180 : Nat := 0
def PySem.W.Fast.tw11577501798202565406 : Nat := 0
def PySem.W.Fast.tw18121027477102081372 : Nat := 0
def PySem.W.Fast.tw1685841030171068918 : Nat := 0
def PySem.W.Fast.tw5280609166723177109 : Nat := 0
def PySem.W.Fast.tw7790239051541814106 : Nat := 0
def PySem.W.Fast.tw13020357580091856140 : Nat := 0
def PySem.W.Fast.tw5573875850612632558 : Nat := 0
def PySem.W.Fast.tw9456645773684035179 : Nat := 0
def PySem.W.Fast.tw17958000549116989924 : Nat := 0
def PySem.W.Fast.tw6823240618581265552 : Nat := 0
def PySem.W.Fast.tw6814499943667257016 : Nat := 0
def PySem.W.Fast.tw10618559647616858815 : Nat := 0
def PySem.W.Fast.tw12037055462031998800 : Nat := 0
def PySem.W.Fast.tw6604357667973339 : Nat := 0
def PySem.W.Fast.tw17276406329813133373 : Nat := 0
def PySem.W.Fast.tw865455581035545116 : Nat := 0
def PySem.W.Fast.tw3935478550526156975 : Nat := 0
def PySem.W.Fast.tw7263594112709015426 : Nat := 0
def PySem.W.Fast.tw15472070358147354324 : Nat := 0
def PySem.W.Fast.tw17983007546225224334 : Nat := 0
def PySem.W.Fast.tw2155798070387981075 : Nat := 0
def PySem.W.Fast.tw1451501692210892318 : Nat := 0
def PySem.W.Fast.tw8262046772839766032 : Nat := 0
def PySem.W.Fast.tw4732584577614093077 : Nat := 0
def PySem.W.Fast.tw3356561189198412589 : Nat := 0
def PySem.W.Fast.tw11118837422910258180 : Nat := 0
def PySem.W.Fast.tw8576354221418333863 : Nat := 0
def PySem.W.Fast.tw10471273811841292424 : Nat := 0
def PySem.W.Fast.tw7853406185238943723 : Nat := 0
def PySem.W.Fast.tw16415266557816752595 : Nat := 0
def PySem.W.Fast.tw6941607833102423327 : Nat := 0
def PySem.W.Fast.tw4665800064401874237 : Nat := 0
def PySem.W.Fast.tw13679955620693166546 : Nat := 0
def PySem.W.Fast.tw17934938092911712213 : Nat := 0
def PySem.W.Fast.tw11307046322688827765 : Nat := 0
def PySem.W.Fast.tw2675469464834802456 : Nat := 0
def PySem.W.Fast.tw5653676071790375357 : Nat := 0
def PySem.W.Fast.tw9923053011491221051 : Nat := 0
def PySem.W.Fast.tw7118486662611928661 : Nat := 0
def PySem.W.Fast.tw159123501996968176 : Nat := 0
def PySem.W.Fast.tw10023272486669996156 : Nat := 0
def PySem.W.Fast.tw12455971391689070590 : Nat := 0
def PySem.W.Fast.tw14854454819501274998 : Nat := 0
def PySem.W.Fast.tw5281189191101293150 : Nat := 0
def PySem.W.Fast.tw16786678054500136085 : Nat := 0
def PySem.W.Fast.tw8265222612874799798 : Nat := 0
def PySem.W.Fast.tw2520357447557880674 : Nat := 0
def PySem.W.Fast.tw6645815549096800521 : Nat := 0
open PySem PySem.W PyProof.Rows
set_option maxRecDepth 100000 in
set_option maxHeartbeats 0 in
theorem PySem.Challenge.cw_letterrack_k31_whole_points_of_a_laying_holds : PySem.Challenge.rw_letterrack_k31_whole_points_of_a_laying.Holds := by
  w_on; o_law; k_head; (case hw => w_witness2)
  k_fill
  refine L2.walkLaw (x := "_law_script") (l := PySem.Challenge.rw_letterrack_k31_whole_points_of_a_laying) rfl rfl (fun w h Y => PySem.W.kIn_of Y) ?F
  case F =>
    intro w mg fa h KX G hmg
    have n_len : mg "len" = none := by
      refine' PySem.W.mg_none_of KX G ?z
      (case z => k_is)
    have n_range : mg "range" = none := by
      refine' PySem.W.mg_none_of KX G ?z
      (case z => k_is)
    have n_tuple : mg "tuple" = none := by
      refine' PySem.W.mg_none_of KX G ?z
      (case z => k_is)
    have n_list : mg "list" = none := by
      refine' PySem.W.mg_none_of KX G ?z
      (case z => k_is)
    have n_isinstance : mg "isinstance" = none := by
      refine' PySem.W.mg_none_of KX G ?z
      (case z => k_is)
    have n_bool : mg "bool" = none := by
      refine' PySem.W.mg_none_of KX G ?z
      (case z => k_is)
    have n_int : mg "int" = none := by
      refine' PySem.W.mg_none_of KX G ?z
      (case z => k_is)
    have n_str : mg "str" = none := by
      refine' PySem.W.mg_none_of KX G ?z
      (case z => k_is)
    have n_all : mg "all" = none := by
      refine' PySem.W.mg_none_of KX G ?z
      (case z => k_is)
    have n_enumerate : mg "enumerate" = none := by
      refine' PySem.W.mg_none_of KX G ?z
      (case z => k_is)
    have n_sum : mg "sum" = none := by
      refine' PySem.W.mg_none_of KX G ?z
      (case z => k_is)
    have n_sorted : mg "sorted" = none := by
      refine' PySem.W.mg_none_of KX G ?z
      (case z => k_is)
    have g_FREE : ∃ t, mg "FREE" = some (.str (L2.S [46]) t) := by
      refine' L2.glob_str KX G ?z
      (case z => k_is)
    have g_MARKS : ∃ t, mg "MARKS" = some (.str (L2.S My.MK) t) := by
      refine' L2.glob_str KX G ?z
      (case z => k_is)
    have g_MOST : ∃ t, mg "MOST" = some (.int 9 t) := by
      refine' L2.glob_int KX G ?z
      (case z => k_is)
    have d_is_whole : L2.DefAt (L2.KOf KX) mg "is_whole" My.s_is_whole ["thing"] := by
      dsimp only [L2.KOf]
      refine' L2.defat_mk KX G ?a ?l ?c ?k ?b
      (case a => k_is); (case l => k_is); (case c => k_is); (case k => k_is)
      (case b => exact fun _ _ _ _ _ _ us hl => L2.e1 (fun _ => rfl) us hl)
    have d_is_sign : L2.DefAt (L2.KOf KX) mg "is_sign" My.s_is_sign ["thing"] := by
      dsimp only [L2.KOf]
      refine' L2.defat_mk KX G ?a ?l ?c ?k ?b
      (case a => k_is); (case l => k_is); (case c => k_is); (case k => k_is)
      (case b => exact fun _ _ _ _ _ _ us hl => L2.e1 (fun _ => rfl) us hl)
    have d_is_block : L2.DefAt (L2.KOf KX) mg "is_block" My.s_is_block ["thing"] := by
      dsimp only [L2.KOf]
      refine' L2.defat_mk KX G ?a ?l ?c ?k ?b
      (case a => k_is); (case l => k_is); (case c => k_is); (case k => k_is)
      (case b => exact fun _ _ _ _ _ _ us hl => L2.e1 (fun _ => rfl) us hl)
    have d_are_rows : L2.DefAt (L2.KOf KX) mg "are_rows" My.s_are_rows ["thing"] := by
      dsimp only [L2.KOf]
      refine' L2.defat_mk KX G ?a ?l ?c ?k ?b
      (case a => k_is); (case l => k_is); (case c => k_is); (case k => k_is)
      (case b => exact fun _ _ _ _ _ _ us hl => L2.e1 (fun _ => rfl) us hl)
    have d_are_marks : L2.DefAt (L2.KOf KX) mg "are_marks" My.s_are_marks ["thing"] := by
      dsimp only [L2.KOf]
      refine' L2.defat_mk KX G ?a ?l ?c ?k ?b
      (case a => k_is); (case l => k_is); (case c => k_is); (case k => k_is)
      (case b => exact fun _ _ _ _ _ _ us hl => L2.e1 (fun _ => rfl) us hl)
    have d_is_cell_of : L2.DefAt (L2.KOf KX) mg "is_cell_of" My.s_is_cell_of ["rows", "row", "column"] := by
      dsimp only [L2.KOf]
      refine' L2.defat_mk KX G ?a ?l ?c ?k ?b
      (case a => k_is); (case l => k_is); (case c => k_is); (case k => k_is)
      (case b => exact fun _ _ _ _ _ _ us hl => L2.e3 (fun _ _ _ => rfl) us hl)
    have d_is_begin_of : L2.DefAt (L2.KOf KX) mg "is_begin_of" My.s_is_begin_of ["rows", "thing"] := by
      dsimp only [L2.KOf]
      refine' L2.defat_mk KX G ?a ?l ?c ?k ?b
      (case a => k_is); (case l => k_is); (case c => k_is); (case k => k_is)
      (case b => exact fun _ _ _ _ _ _ us hl => L2.e2 (fun _ _ => rfl) us hl)
    have d_is_board : L2.DefAt (L2.KOf KX) mg "is_board" My.s_is_board ["rows", "marks", "begin"] := by
      dsimp only [L2.KOf]
      refine' L2.defat_mk KX G ?a ?l ?c ?k ?b
      (case a => k_is); (case l => k_is); (case c => k_is); (case k => k_is)
      (case b => exact fun _ _ _ _ _ _ us hl => L2.e3 (fun _ _ _ => rfl) us hl)
    have d_column_text : L2.DefAt (L2.KOf KX) mg "column_text" My.s_column_text ["rows", "column"] := by
      dsimp only [L2.KOf]
      refine' L2.defat_mk KX G ?a ?l ?c ?k ?b
      (case a => k_is); (case l => k_is); (case c => k_is); (case k => k_is)
      (case b => exact fun _ _ _ _ _ _ us hl => L2.e2 (fun _ _ => rfl) us hl)
    have d_turned_rows : L2.DefAt (L2.KOf KX) mg "turned_rows" My.s_turned_rows ["rows"] := by
      dsimp only [L2.KOf]
      refine' L2.defat_mk KX G ?a ?l ?c ?k ?b
      (case a => k_is); (case l => k_is); (case c => k_is); (case k => k_is)
      (case b => exact fun _ _ _ _ _ _ us hl => L2.e1 (fun _ => rfl) us hl)
    have d_cells_of : L2.DefAt (L2.KOf KX) mg "cells_of" My.s_cells_of ["laying"] := by
      dsimp only [L2.KOf]
      refine' L2.defat_mk KX G ?a ?l ?c ?k ?b
      (case a => k_is); (case l => k_is); (case c => k_is); (case k => k_is)
      (case b => exact fun _ _ _ _ _ _ us hl => L2.e1 (fun _ => rfl) us hl)
    have d_is_across : L2.DefAt (L2.KOf KX) mg "is_across" My.s_is_across ["laying"] := by
      dsimp only [L2.KOf]
      refine' L2.defat_mk KX G ?a ?l ?c ?k ?b
      (case a => k_is); (case l => k_is); (case c => k_is); (case k => k_is)
      (case b => exact fun _ _ _ _ _ _ us hl => L2.e1 (fun _ => rfl) us hl)
    have d_formed : L2.DefAt (L2.KOf KX) mg "formed" My.s_formed ["board", "laying"] := by
      dsimp only [L2.KOf]
      refine' L2.defat_mk KX G ?a ?l ?c ?k ?b
      (case a => k_is); (case l => k_is); (case c => k_is); (case k => k_is)
      (case b => exact fun _ _ _ _ _ _ us hl => L2.e2 (fun _ _ => rfl) us hl)
    have d_worth_of : L2.DefAt (L2.KOf KX) mg "worth_of" My.s_worth_of ["worths", "sign"] := by
      dsimp only [L2.KOf]
      refine' L2.defat_mk KX G ?a ?l ?c ?k ?b
      (case a => k_is); (case l => k_is); (case c => k_is); (case k => k_is)
      (case b => exact fun _ _ _ _ _ _ us hl => L2.e2 (fun _ _ => rfl) us hl)
    have d_cell_in : L2.DefAt (L2.KOf KX) mg "cell_in" My.s_cell_in ["word", "place"] := by
      dsimp only [L2.KOf]
      refine' L2.defat_mk KX G ?a ?l ?c ?k ?b
      (case a => k_is); (case l => k_is); (case c => k_is); (case k => k_is)
      (case b => exact fun _ _ _ _ _ _ us hl => L2.e2 (fun _ _ => rfl) us hl)
    have d_word_points : L2.DefAt (L2.KOf KX) mg "word_points" My.s_word_points ["board", "worths", "laying", "word"] := by
      dsimp only [L2.KOf]
      refine' L2.defat_mk KX G ?a ?l ?c ?k ?b
      (case a => k_is); (case l => k_is); (case c => k_is); (case k => k_is)
      (case b => exact fun _ _ _ _ _ _ us hl => L2.e4 (fun _ _ _ _ => rfl) us hl)
    have d_bonus_of : L2.DefAt (L2.KOf KX) mg "bonus_of" My.s_bonus_of ["bonus", "laying"] := by
      dsimp only [L2.KOf]
      refine' L2.defat_mk KX G ?a ?l ?c ?k ?b
      (case a => k_is); (case l => k_is); (case c => k_is); (case k => k_is)
      (case b => exact fun _ _ _ _ _ _ us hl => L2.e2 (fun _ _ => rfl) us hl)
    have d_points_of : L2.DefAt (L2.KOf KX) mg "points_of" My.s_points_of ["board", "worths", "bonus", "laying"] := by
      dsimp only [L2.KOf]
      refine' L2.defat_mk KX G ?a ?l ?c ?k ?b
      (case a => k_is); (case l => k_is); (case c => k_is); (case k => k_is)
      (case b => exact fun _ _ _ _ _ _ us hl => L2.e4 (fun _ _ _ _ => rfl) us hl)
    have d_cell_at : L2.DefAt (L2.KOf KX) mg "_law_cell_at" My.s_cell_at ["_law_script", "_law_k"] := by
      dsimp only [L2.KOf]
      refine' L2.defat_mk KX G ?a ?l ?c ?k ?b
      (case a => k_is); (case l => k_is); (case c => k_is); (case k => k_is)
      (case b => exact fun _ _ _ _ _ _ us hl => L2.e2 (fun _ _ => rfl) us hl)
    have d_take : L2.DefAt (L2.KOf KX) mg "_law_take" My.s_take ["_law_rest_here", "_law_base"] := by
      dsimp only [L2.KOf]
      refine' L2.defat_mk KX G ?a ?l ?c ?k ?b
      (case a => k_is); (case l => k_is); (case c => k_is); (case k => k_is)
      (case b => exact fun _ _ _ _ _ _ us hl => L2.e2 (fun _ _ => rfl) us hl)
    have d_rest : L2.DefAt (L2.KOf KX) mg "_law_rest" My.s_rest ["_law_cell"] := by
      dsimp only [L2.KOf]
      refine' L2.defat_mk KX G ?a ?l ?c ?k ?b
      (case a => k_is); (case l => k_is); (case c => k_is); (case k => k_is)
      (case b => exact fun _ _ _ _ _ _ us hl => L2.e1 (fun _ => rfl) us hl)
    have d_letters : L2.DefAt (L2.KOf KX) mg "_law_letters" My.s_letters ["_law_rest_here"] := by
      dsimp only [L2.KOf]
      refine' L2.defat_mk KX G ?a ?l ?c ?k ?b
      (case a => k_is); (case l => k_is); (case c => k_is); (case k => k_is)
      (case b => exact fun _ _ _ _ _ _ us hl => L2.e1 (fun _ => rfl) us hl)
    have d_sign : L2.DefAt (L2.KOf KX) mg "_law_sign" My.s_sign ["_law_rest_here", "_law_letters_here", "_law_great"] := by
      dsimp only [L2.KOf]
      refine' L2.defat_mk KX G ?a ?l ?c ?k ?b
      (case a => k_is); (case l => k_is); (case c => k_is); (case k => k_is)
      (case b => exact fun _ _ _ _ _ _ us hl => L2.e3 (fun _ _ _ => rfl) us hl)
    have d_rows : L2.DefAt (L2.KOf KX) mg "_law_rows" My.s_rows ["_law_rest_here", "_law_letters_here", "_law_most"] := by
      dsimp only [L2.KOf]
      refine' L2.defat_mk KX G ?a ?l ?c ?k ?b
      (case a => k_is); (case l => k_is); (case c => k_is); (case k => k_is)
      (case b => exact fun _ _ _ _ _ _ us hl => L2.e3 (fun _ _ _ => rfl) us hl)
    have d_marks : L2.DefAt (L2.KOf KX) mg "_law_marks" My.s_marks ["_law_rest_here", "_law_rows_here"] := by
      dsimp only [L2.KOf]
      refine' L2.defat_mk KX G ?a ?l ?c ?k ?b
      (case a => k_is); (case l => k_is); (case c => k_is); (case k => k_is)
      (case b => exact fun _ _ _ _ _ _ us hl => L2.e2 (fun _ _ => rfl) us hl)
    have d_begin : L2.DefAt (L2.KOf KX) mg "_law_begin" My.s_begin ["_law_rest_here", "_law_rows_here"] := by
      dsimp only [L2.KOf]
      refine' L2.defat_mk KX G ?a ?l ?c ?k ?b
      (case a => k_is); (case l => k_is); (case c => k_is); (case k => k_is)
      (case b => exact fun _ _ _ _ _ _ us hl => L2.e2 (fun _ _ => rfl) us hl)
    have d_grid : L2.DefAt (L2.KOf KX) mg "_law_grid" My.s_grid ["_law_rows_here", "_law_laying"] := by
      dsimp only [L2.KOf]
      refine' L2.defat_mk KX G ?a ?l ?c ?k ?b
      (case a => k_is); (case l => k_is); (case c => k_is); (case k => k_is)
      (case b => exact fun _ _ _ _ _ _ us hl => L2.e2 (fun _ _ => rfl) us hl)
    have d_run : L2.DefAt (L2.KOf KX) mg "_law_run" My.s_run ["_law_grid_here", "_law_row", "_law_column", "_law_way"] := by
      dsimp only [L2.KOf]
      refine' L2.defat_mk KX G ?a ?l ?c ?k ?b
      (case a => k_is); (case l => k_is); (case c => k_is); (case k => k_is)
      (case b => exact fun _ _ _ _ _ _ us hl => L2.e4 (fun _ _ _ _ => rfl) us hl)
    have d_words : L2.DefAt (L2.KOf KX) mg "_law_words" My.s_words ["_law_rows_here", "_law_laying"] := by
      dsimp only [L2.KOf]
      refine' L2.defat_mk KX G ?a ?l ?c ?k ?b
      (case a => k_is); (case l => k_is); (case c => k_is); (case k => k_is)
      (case b => exact fun _ _ _ _ _ _ us hl => L2.e2 (fun _ _ => rfl) us hl)
    have d_is_near : L2.DefAt (L2.KOf KX) mg "_law_is_near" My.s_is_near ["_law_rows_here", "_law_row", "_law_column"] := by
      dsimp only [L2.KOf]
      refine' L2.defat_mk KX G ?a ?l ?c ?k ?b
      (case a => k_is); (case l => k_is); (case c => k_is); (case k => k_is)
      (case b => exact fun _ _ _ _ _ _ us hl => L2.e3 (fun _ _ _ => rfl) us hl)
    have d_starts : L2.DefAt (L2.KOf KX) mg "_law_starts" My.s_starts ["_law_rows_here", "_law_rest_here"] := by
      dsimp only [L2.KOf]
      refine' L2.defat_mk KX G ?a ?l ?c ?k ?b
      (case a => k_is); (case l => k_is); (case c => k_is); (case k => k_is)
      (case b => exact fun _ _ _ _ _ _ us hl => L2.e2 (fun _ _ => rfl) us hl)
    have d_straight : L2.DefAt (L2.KOf KX) mg "_law_straight" My.s_straight ["_law_rows_here", "_law_rest_here", "_law_letters_here"] := by
      dsimp only [L2.KOf]
      refine' L2.defat_mk KX G ?a ?l ?c ?k ?b
      (case a => k_is); (case l => k_is); (case c => k_is); (case k => k_is)
      (case b => exact fun _ _ _ _ _ _ us hl => L2.e3 (fun _ _ _ => rfl) us hl)
    have d_whole : L2.DefAt (L2.KOf KX) mg "_law_whole" My.s_whole ["_law_found"] := by
      dsimp only [L2.KOf]
      refine' L2.defat_mk KX G ?a ?l ?c ?k ?b
      (case a => k_is); (case l => k_is); (case c => k_is); (case k => k_is)
      (case b => exact fun _ _ _ _ _ _ us hl => L2.e1 (fun _ => rfl) us hl)
    have d_worths : L2.DefAt (L2.KOf KX) mg "_law_worths" My.s_worths ["_law_rest_here", "_law_letters_here", "_law_most"] := by
      dsimp only [L2.KOf]
      refine' L2.defat_mk KX G ?a ?l ?c ?k ?b
      (case a => k_is); (case l => k_is); (case c => k_is); (case k => k_is)
      (case b => exact fun _ _ _ _ _ _ us hl => L2.e3 (fun _ _ _ => rfl) us hl)
    have d_count : L2.DefAt (L2.KOf KX) mg "_law_count" My.s_count ["_law_marks_here", "_law_worths_here", "_law_laying", "_law_word"] := by
      dsimp only [L2.KOf]
      refine' L2.defat_mk KX G ?a ?l ?c ?k ?b
      (case a => k_is); (case l => k_is); (case c => k_is); (case k => k_is)
      (case b => exact fun _ _ _ _ _ _ us hl => L2.e4 (fun _ _ _ _ => rfl) us hl)
    have d_turned : L2.DefAt (L2.KOf KX) mg "_law_turned" My.s_turned ["_law_laying"] := by
      dsimp only [L2.KOf]
      refine' L2.defat_mk KX G ?a ?l ?c ?k ?b
      (case a => k_is); (case l => k_is); (case c => k_is); (case k => k_is)
      (case b => exact fun _ _ _ _ _ _ us hl => L2.e1 (fun _ => rfl) us hl)
    have xbf_Board : ∃ C f0 f1 f2 f3 fd0 fd1 fd2 fd3, My.BoardFacts (L2.KOf KX) mg C f0 f1 f2 f3 fd0 fd1 fd2 fd3 := by
      dsimp only [L2.KOf]
      refine' My.Board_mk KX G ?aC ?a0 ?i0 ?l0 ?c0 ?k0 ?a1 ?i1 ?l1 ?c1 ?k1 ?a2 ?i2 ?l2 ?c2 ?k2 ?a3 ?i3 ?l3 ?c3 ?k3 ?pg ?hd ?po ?sa ?mk ?kc ?nf0 ?nf1 ?nf2
      (case aC => k_is)
      (case a0 => k_is)
      (case i0 => k_is)
      (case l0 => k_is)
      (case c0 => k_is)
      (case k0 => k_is)
      (case a1 => k_is)
      (case i1 => k_is)
      (case l1 => k_is)
      (case c1 => k_is)
      (case k1 => k_is)
      (case a2 => k_is)
      (case i2 => k_is)
      (case l2 => k_is)
      (case c2 => k_is)
      (case k2 => k_is)
      (case a3 => k_is)
      (case i3 => k_is)
      (case l3 => k_is)
      (case c3 => k_is)
      (case k3 => k_is)
      (case pg => k_is)
      (case hd => k_is)
      (case po => k_is)
      (case sa => k_is)
      (case mk => k_is)
      (case kc => k_is)
      (case nf0 => k_is)
      (case nf1 => k_is)
      (case nf2 => k_is)
    obtain ⟨_, _, _, _, _, _, _, _, _, bf_Board⟩ := xbf_Board
    have xkl : ∃ a, mg "LETTER_MARKS" = some (.ref a) ∧ ∀ P : Program, L2.KDict P w (L2.KOf KX) a My.LMK := by
      dsimp only [L2.KOf]
      refine' My.gdict3 KX G ?b ?l ?z ?n
      (case b => k_is)
      (case l => k_is)
      (case z => rfl)
      (case n => decide)
    obtain ⟨_, kl⟩ := xkl
    have xkw : ∃ a, mg "WORD_MARKS" = some (.ref a) ∧ ∀ P : Program, L2.KDict P w (L2.KOf KX) a My.WMK := by
      dsimp only [L2.KOf]
      refine' My.gdict3 KX G ?b ?l ?z ?n
      (case b => k_is)
      (case l => k_is)
      (case z => rfl)
      (case n => decide)
    obtain ⟨_, kw⟩ := xkw
    have lw : ∃ fd : FuncData, L2.Fun (L2.KOf KX) "law" "law" My.s_law fa fd ∧ ∀ (s : Shared) (v : Value), BindsTo s fd ⟨[v], []⟩ [("_law_script", v)] := by
      dsimp only [L2.KOf]
      refine' L2.law_at KX G hmg ?a ?l ?c ?k ?b
      (case a => k_is); (case l => k_is); (case c => k_is); (case k => k_is)
      (case b => exact fun _ _ _ _ _ _ _ => rfl)
    obtain ⟨fd, F, hb⟩ := lw
    exact ⟨fd, hb, fun base _ _ => My.law_all n_len n_range n_tuple n_list n_isinstance n_bool n_int n_str n_all n_enumerate n_sum n_sorted g_FREE g_MARKS g_MOST d_is_whole d_is_sign d_is_block d_are_rows d_are_marks d_is_cell_of d_is_begin_of d_is_board d_column_text d_turned_rows d_cells_of d_is_across d_formed d_worth_of d_cell_in d_word_points d_bonus_of d_points_of d_cell_at d_take d_rest d_letters d_sign d_rows d_marks d_begin d_grid d_run d_words d_is_near d_starts d_straight d_whole d_worths d_count d_turned bf_Board kl kw F⟩
