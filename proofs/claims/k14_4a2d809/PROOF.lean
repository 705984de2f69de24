import PyProof.Rows.All
import Wide.All
import OpenK.AllK
import Wide.FinOn
import Lean
import PyProof.EqAt
import PyProof.EqKinds
import PyProof.TupleCall
import KE.KRevIter
import PyProof.JoinWalk
import PyProof.CollectIter
import KE.KDictSum
import KE.KSortTup
import OpenK.KRaise
import PyProof.StationsW
import OpenK.KOwn
import KE.KTryMore
import KE.KIsNot
import PyProof.NsDelKeeps
import KE.KIsAll
import PyProof.ExcArgs
import PyProof.ListMulRoad
import PyProof.Rows.SeqMore
import PyProof.FactsAll.tuple_2
import PySem.Challenge.RW_letterrack_k14_no_boards
section
set_option Elab.async false
set_option linter.all false
set_option maxRecDepth 100000
namespace L2
open PySem PySem.Spec PyProof.Rows

abbrev Key := Sum Int Str
def keyIs : Key → Value → Bool
  | .inl k, v => Value.isInt k v
  | .inr x, v => Value.isStrOf x v
def keyH (w : World) : Key → Int
  | .inl k => hashInt k
  | .inr x => hashStr w x
theorem keyIs_shape : ∀ {k : Key} {v : Value}, keyIs k v = true → (∃ i t, k = Sum.inl i ∧ v = Value.int i t) ∨ (∃ x t, k = Sum.inr x ∧ v = Value.str x t)
  | .inl i, v, h => by
    obtain ⟨t, e⟩ := Value.isInt_shape (k := i) (v := v) h
    exact .inl ⟨i, t, rfl, e⟩
  | .inr x, v, h => by
    obtain ⟨t, e⟩ := Value.isStrOf_shape (x := x) (v := v) h
    exact .inr ⟨x, t, rfl, e⟩
theorem key_ll (a b : Int) : decide ((Sum.inl a : Key) = Sum.inl b) = (a == b) := by
  by_cases e : a = b
  · subst e; simp
  · have h : ¬ (Sum.inl a : Key) = Sum.inl b := fun q => e (Sum.inl.inj q)
    rw [decide_eq_false h]
    exact (beq_eq_false_iff_ne.mpr e).symm
theorem key_rr (a b : Str) : decide ((Sum.inr a : Key) = Sum.inr b) = decide (a = b) := by
  by_cases e : a = b
  · subst e; simp
  · have h : ¬ (Sum.inr a : Key) = Sum.inr b := fun q => e (Sum.inr.inj q)
    rw [decide_eq_false h, decide_eq_false e]
theorem key_lr (a : Int) (b : Str) : decide ((Sum.inl a : Key) = Sum.inr b) = false := decide_eq_false (fun q => nomatch q)
theorem key_rl (a : Str) (b : Int) : decide ((Sum.inr a : Key) = Sum.inl b) = false := decide_eq_false (fun q => nomatch q)

def mixKind (prog : Program) (w : World) : PySem.KeyKind prog w Key where
  is := keyIs
  hash := keyH w
  inj := fun v a b ha hb => by
    rcases keyIs_shape ha with ⟨i, t, rfl, rfl⟩ | ⟨x, t, rfl, rfl⟩
    · rcases keyIs_shape hb with ⟨j, u, rfl, e⟩ | ⟨y, u, rfl, e⟩
      · injection e with e1 _; rw [e1]
      · exact nomatch e
    · rcases keyIs_shape hb with ⟨j, u, rfl, e⟩ | ⟨y, u, rfl, e⟩
      · exact nomatch e
      · injection e with e1 _; rw [e1]
  byValue := fun k v h => by
    rcases keyIs_shape h with ⟨i, t, rfl, rfl⟩ | ⟨x, t, rfl, rfl⟩ <;> rfl
  pyHash := fun hv h => by
    rcases keyIs_shape hv with ⟨i, t, rfl, rfl⟩ | ⟨x, t, rfl, rfl⟩
    · exact wpAny_pyHash_int h
    · exact wpAny_pyHash_str h
  eqBool := fun hu hv h => by
    rcases keyIs_shape hu with ⟨i, t, rfl, rfl⟩ | ⟨x, t, rfl, rfl⟩
    · rcases keyIs_shape hv with ⟨j, u, rfl, rfl⟩ | ⟨y, u, rfl, rfl⟩
      · rw [key_ll] at h; exact wpAny_eqBool_int h
      · rw [key_lr] at h; exact SeqAt.EqAt.int_str i t y u _ _ _ _ h
    · rcases keyIs_shape hv with ⟨j, u, rfl, rfl⟩ | ⟨y, u, rfl, rfl⟩
      · rw [key_rl] at h; exact SeqAt.EqAt.str_int x t j u _ _ _ _ h
      · rw [key_rr] at h; exact wpAny_eqBool_str h
  «strs» := fun k x t v h => by
    rcases keyIs_shape h with ⟨i, u, rfl, e⟩ | ⟨y, u, rfl, e⟩
    · exact nomatch e
    · injection e with e1 _
      subst e1
      cases v <;> rfl

end L2

namespace L2
open PySem PySem.Spec PyProof.Rows

inductive V where
  | non | bl (b : Bool) | int (i : Int) | str (x : Str) | byt (b : Array UInt8) | flt (b : UInt64) | ref (a : Addr) | ty (n : String)
  deriving DecidableEq

def RelV : V → Value → Prop
  | .non, u => u = Value.none
  | .bl b, u => u = Value.bool b
  | .int i, u => ∃ t, u = Value.int i t
  | .str x, u => ∃ t, u = Value.str x t
  | .byt b, u => ∃ t, u = Value.bytes b t
  | .flt b, u => ∃ t, u = Value.float b t
  | .ref a, u => u = Value.ref a
  | .ty n, u => u = Value.type n

abbrev Vals : List V → List Value → Prop := Paired RelV
theorem Vals.length {xs : List V} {us : List Value} (r : Vals xs us) : xs.length = us.length := Paired.length r
theorem Vals.get : ∀ {xs : List V} {us : List Value} {i : Nat} {x : V}, Vals xs us → xs[i]? = some x → ∃ u, us[i]? = some u ∧ RelV x u
  | _, _, _, _, .nil, e => by simp at e
  | _, _, 0, _, .cons r _, e => by simp at e; subst e; exact ⟨_, rfl, r⟩
  | _, _, i + 1, x, .cons _ t, e => by
    obtain ⟨u, h1, h2⟩ := Vals.get (i := i) (x := x) t (by simpa using e)
    exact ⟨u, by simpa using h1, h2⟩
theorem Vals.set {x : V} {u : Value} (r : RelV x u) : ∀ {xs : List V} {us : List Value} (i : Nat), Vals xs us → Vals (xs.set i x) (us.set i u)
  | _, _, _, .nil => .nil
  | _, _, 0, .cons _ t => .cons r t
  | _, _, i + 1, .cons q t => .cons q (Vals.set r i t)
theorem Vals.append : ∀ {xs ys : List V} {us ws : List Value}, Vals xs us → Vals ys ws → Vals (xs ++ ys) (us ++ ws)
  | _, _, _, _, .nil, s => s
  | _, _, _, _, .cons r t, s => .cons r (Vals.append t s)
theorem Vals.take : ∀ {xs : List V} {us : List Value} (n : Nat), Vals xs us → Vals (xs.take n) (us.take n)
  | _, _, 0, _ => .nil
  | _, _, _ + 1, .nil => .nil
  | _, _, n + 1, .cons r t => .cons r (Vals.take n t)
theorem Vals.drop : ∀ {xs : List V} {us : List Value} (n : Nat), Vals xs us → Vals (xs.drop n) (us.drop n)
  | _, _, 0, r => r
  | _, _, _ + 1, .nil => .nil
  | _, _, n + 1, .cons _ t => Vals.drop n t
def RelO : Option V → Option Value → Prop
  | some v, some u => RelV v u
  | none, none => True
  | _, _ => False
def KV {κ : Type} : List (κ × V) → List (κ × Value) → Prop := Paired fun (p : κ × V) (q : κ × Value) => p.1 = q.1 ∧ RelV p.2 q.2

def kV : Key → V
  | .inl i => .int i
  | .inr x => .str x

inductive HO where
  /-- a list -/
  | lst (xs : List V)
  /-- a tuple (never changes) -/
  | tup (xs : List V)
  /-- a dict whose keys are ints and texts; one whose keys are tuples of ints and texts (the empty one is both) -/
  | dK (kvs : List (Key × V)) | dT (kvs : List (List Key × V))
  /-- a set of ints: its members, its size -/
  | set (S : Int → Bool) (n : Nat)
  /-- an instance of the class at C, its dict at dx, its attributes -/
  | ins (C dx : Addr) (fs : List (Str × V))
  /-- the dict of the instance at x -/
  | own (x : Addr)
  /-- the dict of an exception -/
  | xd (fs : List (Str × V))
  /-- a bound method, f of x -/
  | met (f x : Addr)
  /-- a range object lo, lo + 1, .. below hi -/
  | rng (lo hi : Int)
  /-- a thing that is known to the object (the script; a dict while a loop walks it): read, never written while it is so -/
  | frz (o : Obj) (u : HO)
  /-- a code object's table -/
  | tbl (ps : Array Value)
  /-- any other thing, by what is true of its one object (a def of one's own: SetO a S n := HO.ext fun h => ..) -/
  | ext (φ : Heap → Prop)

abbrev Hp := Addr → Option HO
def upd (H : Hp) (a : Addr) (o : HO) : Hp := fun b => if b = a then some o else H b
theorem upd_same {H : Hp} {a : Addr} {o : HO} : upd H a o a = some o := by unfold upd; rw [if_pos rfl]
theorem upd_ne {H : Hp} {a b : Addr} {o : HO} (h : b ≠ a) : upd H a o b = H b := by unfold upd; rw [if_neg h]
theorem ne_of_none {H : Hp} {a b : Addr} {o : HO} (h : H a = some o) (h' : H b = none) : a ≠ b := by
  intro e; subst e; rw [h] at h'; cases h'

section
variable (P : Program) (w : World)
def ObjOk (H : Hp) (h : Heap) (a : Addr) : HO → Prop
  | .lst xs => xs.length ≤ sizeLine ∧ ∃ (its : List Value) (n : Nat), Vals xs its ∧ h.get? a = some { cls := .type "list", data := .seq its.toArray n }
  | .tup xs => xs.length ≤ sizeLine ∧ ∃ its : List Value, Vals xs its ∧ IsTup h a its.toArray
  | .dK kvs => kvs.length ≤ sizeLine ∧ (a == sysModules) = false ∧ ∃ vs, KV kvs vs ∧ h.DictOf (mixKind P w) a vs
  | .dT kvs => kvs.length ≤ sizeLine ∧ (a == sysModules) = false ∧ ∃ xs : List (List Key × Addr × Value),
      Paired (fun (p : List Key × V) (q : List Key × Addr × Value) => p.1 = q.1 ∧ H q.2.1 = some (.tup (p.1.map kV)) ∧ RelV p.2 q.2.2) kvs xs ∧
      ∃ o es ep, h.get? a = some o ∧ o.ExactDict ∧ o.data = .dict es ep ∧ es.toList = xs.map (entryOfKey (tupleKind (mixKind P w))) ∧ (xs.map (·.1)).Nodup
  | .set S n => h.SetOf (intKind P w) a S n
  | .ins C dx fs => H dx = some (.own a) ∧ fs.length ≤ 1000 ∧ dx ≠ a ∧ h.get? a = some (PySem.W.instObj C dx) ∧
      ∃ mA, h.Ns1 dx mA ∧ (∀ f, RelO (fs.lookup f) (mA f)) ∧ PySem.Within mA (fs.map (·.1))
  | .own _ => ∃ o, h.get? a = some o
  | .xd fs => ∃ mA, h.Ns1 a mA ∧ ∀ f, RelO (fs.lookup f) (mA f)
  | .rng lo hi => ∃ t u v, h.get? a = some { cls := .type "range", data := .fields #[.int lo t, .int hi u, .int 1 v] }
  | .frz o u => h.get? a = some o ∧ ObjOk H h a u
  | .tbl ps => h.get? a = some { cls := .none, data := .fields ps }
  | .met f x => h.get? a = some (PySem.W.methodObj (.ref f) (.ref x))
  | .ext φ => φ h ∧ (∃ o, h.get? a = some o) ∧ ∀ h1 h2 : Heap, φ h1 → (∀ o, h1.get? a = some o → h2.get? a = some o) → φ h2
def HOk (H : Hp) (h : Heap) : Prop := ∀ a o, H a = some o → ObjOk P w H h a o
end

section
variable {P : Program} {w : World} {H H' : Hp} {h h' : Heap} {a : Addr} {o : HO}
theorem ObjOk.lt (x : ObjOk P w H h a o) : a < h.objs.size := by
  cases o with
  | lst xs => obtain ⟨_, _, _, _, e⟩ := x; exact Heap.lt_size e
  | tup xs => obtain ⟨_, _, _, p⟩ := x; exact p.lt
  | dK kvs => obtain ⟨_, _, _, _, o, _, _, e, _⟩ := x; exact Heap.lt_size e
  | dT kvs => obtain ⟨_, _, _, _, o, _, _, e, _⟩ := x; exact Heap.lt_size e
  | set S n => obtain ⟨o, _, _, _, e, _⟩ := x; exact Heap.lt_size e
  | ins C dx fs => obtain ⟨_, _, _, e, _⟩ := x; exact Heap.lt_size e
  | own y => obtain ⟨_, e⟩ := x; exact Heap.lt_size e
  | xd fs => obtain ⟨_, ⟨_, _, _, e, _⟩, _⟩ := x; exact Heap.lt_size e
  | rng lo hi => obtain ⟨_, _, _, e⟩ := x; exact Heap.lt_size e
  | frz ob u => obtain ⟨e, _⟩ := x; exact Heap.lt_size e
  | tbl ps => exact Heap.lt_size (show h.get? a = some _ from x)
  | met f y => exact Heap.lt_size (show h.get? a = some _ from x)
  | ext φ => obtain ⟨_, ⟨_, e⟩, _⟩ := x; exact Heap.lt_size e
theorem Paired.mapP {α β : Type} {F G : α → β → Prop} : ∀ {l₁ : List α} {l₂ : List β}, Paired F l₁ l₂ → (∀ a b, F a b → G a b) → Paired G l₁ l₂
  | _, _, .nil, _ => .nil
  | _, _, .cons r t, f => .cons (f _ _ r) (Paired.mapP t f)
theorem ObjOk.stay (x : ObjOk P w H h a o) (k : ∀ b u, (b = a ∨ H b = some (.own a)) → h.get? b = some u → h'.get? b = some u)
    (ho : ∀ b, H b = some (.own a) → H' b = some (.own a)) (ht : ∀ b xs, H b = some (.tup xs) → H' b = some (.tup xs)) : ObjOk P w H' h' a o := by
  induction o with
  | lst xs => obtain ⟨z, its, n, r, e⟩ := x; exact ⟨z, its, n, r, k _ _ (.inl rfl) e⟩
  | tup xs => obtain ⟨z, its, r, ob, e, c⟩ := x; exact ⟨z, its, r, ob, k _ _ (.inl rfl) e, c⟩
  | dK kvs => obtain ⟨z, y, vs, r, ob, es, ep, e, c⟩ := x; exact ⟨z, y, vs, r, ob, es, ep, k _ _ (.inl rfl) e, c⟩
  | dT kvs =>
    obtain ⟨z, y, xs, r, ob, es, ep, e, c⟩ := x
    exact ⟨z, y, xs, Paired.mapP r fun p q z => ⟨z.1, ht _ _ z.2.1, z.2.2⟩, ob, es, ep, k _ _ (.inl rfl) e, c⟩
  | set S n => obtain ⟨ob, es, ep, t, e, c⟩ := x; exact ⟨ob, es, ep, t, k _ _ (.inl rfl) e, c⟩
  | ins C dx fs =>
    obtain ⟨d, z, ne, e, mA, ⟨od, es, ep, e2, c⟩, r⟩ := x
    exact ⟨ho _ d, z, ne, k _ _ (.inl rfl) e, mA, ⟨od, es, ep, k _ _ (.inr d) e2, c⟩, r⟩
  | own y => obtain ⟨ob, e⟩ := x; exact ⟨ob, k _ _ (.inl rfl) e⟩
  | xd fs => obtain ⟨mA, ⟨od, es, ep, e, c⟩, r⟩ := x; exact ⟨mA, ⟨od, es, ep, k _ _ (.inl rfl) e, c⟩, r⟩
  | rng lo hi => obtain ⟨t, u, v, e⟩ := x; exact ⟨t, u, v, k _ _ (.inl rfl) e⟩
  | frz ob u ih => obtain ⟨e, q⟩ := x; exact ⟨k _ _ (.inl rfl) e, ih q⟩
  | tbl ps =>
    have e : h.get? a = some { cls := .none, data := .fields ps } := x
    show h'.get? a = some { cls := .none, data := .fields ps }
    exact k a _ (.inl rfl) e
  | met f y =>
    have e : h.get? a = some (PySem.W.methodObj (.ref f) (.ref y)) := x
    show h'.get? a = some (PySem.W.methodObj (.ref f) (.ref y))
    exact k a _ (.inl rfl) e
  | ext φ => obtain ⟨p, ⟨o, e⟩, st⟩ := x; exact ⟨st _ _ p fun o q => k _ _ (.inl rfl) q, ⟨o, k _ _ (.inl rfl) e⟩, st⟩
theorem HOk.lt (x : HOk P w H h) (e : H a = some o) : a < h.objs.size := (x a o e).lt
theorem HOk.fresh (x : HOk P w H h) (e : h.objs.size ≤ a) : H a = none := by
  cases q : H a with
  | none => rfl
  | some u => exact absurd (Nat.lt_of_lt_of_le (x.lt q) e) (Nat.lt_irrefl _)
theorem HOk.kept (x : HOk P w H h) (k : ∀ b u, h.get? b = some u → h'.get? b = some u) : HOk P w H h' := fun a o e =>
  (x a o e).stay (fun b u _ q => k b u q) (fun _ q => q) fun _ _ q => q
theorem HOk.laid (x : HOk P w H h) (k : ∀ b u, h.get? b = some u → h'.get? b = some u) (hp : h.objs.size ≤ a) (new : ObjOk P w (upd H a o) h' a o) : HOk P w (upd H a o) h' := fun b u e => by
  have hn := x.fresh hp
  by_cases hb : b = a
  · subst hb; rw [upd_same] at e; cases e; exact new
  · rw [upd_ne hb] at e
    exact (x b u e).stay (fun c v _ q => k c v q) (fun c q => by rw [upd_ne (ne_of_none q hn)]; exact q) fun c xs q => by rw [upd_ne (ne_of_none q hn)]; exact q
end

def Rd (H : Hp) (a : Addr) (u : HO) : Prop := H a = some u ∨ ∃ o, H a = some (.frz o u)
theorem Rd.ok {P : Program} {w : World} {H : Hp} {h : Heap} {a : Addr} {u : HO} (r : Rd H a u) (x : HOk P w H h) : ObjOk P w H h a u := by
  rcases r with r | ⟨o, r⟩
  · exact x a u r
  · obtain ⟨_, q⟩ := x a _ r
    exact q
def Mut : Option HO → Prop
  | some (.lst _) => True
  | some (.dK _) => True
  | some (.dT _) => True
  | some (.set _ _) => True
  | some (.ins _ _ _) => True
  | some (.ext _) => True
  | _ => False
section
variable {P : Program} {w : World} {H : Hp} {h h' : Heap} {x e : Addr} {o' : HO}
theorem HOk.write (ok : HOk P w H h) (mu : Mut (H x)) (he : e = x ∨ H e = some (.own x)) (k : ∀ b u, b ≠ e → h.get? b = some u → h'.get? b = some u) (heo : ∃ u, h'.get? e = some u)
    (new : ObjOk P w (upd H x o') h' x o') : HOk P w (upd H x o') h' := fun b u q => by
  have nown : ∀ c y, H c = some (.own y) → c ≠ x := fun c y r z => by subst z; rw [r] at mu; exact mu
  have ntup : ∀ c xs, H c = some (.tup xs) → c ≠ x := fun c xs r z => by subst z; rw [r] at mu; exact mu
  by_cases hb : b = x
  · subst hb; rw [upd_same] at q; cases q; exact new
  · rw [upd_ne hb] at q
    by_cases hbe : b = e
    · have q' : H b = some (.own x) := by
        rcases he with z | z
        · exact absurd (hbe.trans z) hb
        · rw [hbe]; exact z
      rw [q] at q'; cases q'
      obtain ⟨v, hv⟩ := heo
      exact ⟨v, by rw [hbe]; exact hv⟩
    · refine (ok b u q).stay (fun c v hc r => k c v ?_ r) (fun c r => by rw [upd_ne (nown c b r)]; exact r) fun c xs r => by rw [upd_ne (ntup c xs r)]; exact r
      rcases hc with rfl | hc
      · exact hbe
      · rintro rfl
        rcases he with z | z
        · exact nown c b hc z
        · rw [hc] at z; cases z; exact hb rfl
end

structure Un (fs ex : List Addr) (H H' : Hp) (h h' : Heap) : Prop where
  keep : ∀ b o, h.get? b = some o → H b = none → b ∉ fs → b ∉ ex → h'.get? b = some o
  slot : ∀ b o, h.get? b = some o → H b = none → b ∈ fs → b ∉ ex → ∃ sl, h'.get? b = some { o with slots := sl }
  free : ∀ b o, h.get? b = some o → H b = none → b ∉ ex → H' b = none
  there : ∀ b o, h.get? b = some o → b ∉ ex → ∃ o', h'.get? b = some o'
  tups : ∀ b xs, H b = some (.tup xs) → H' b = some (.tup xs)
  frzs : ∀ b o u, H b = some (.frz o u) → H' b = some (.frz o u)
  tbls : ∀ b ps, H b = some (.tbl ps) → ∃ more, H' b = some (.tbl (ps ++ more))
section
variable {fs fs' ex ex' : List Addr} {H H1 H2 : Hp} {h h1 h2 h' : Heap} {a x e : Addr} {o : HO}
theorem Un.any (u : Un fs ex H H1 h h1) {b : Addr} {ob : Obj} (q : h.get? b = some ob) (n : H b = none) (hx : b ∉ ex) : ∃ sl, h1.get? b = some { ob with slots := sl } := by
  by_cases hb : b ∈ fs
  · exact u.slot b ob q n hb hx
  · exact ⟨ob.slots, u.keep b ob q n hb hx⟩
theorem Un.kept (k : ∀ b u, h.get? b = some u → h'.get? b = some u) : Un fs ex H H h h' :=
  ⟨fun b ob q _ _ _ => k b ob q, fun b ob q _ _ _ => ⟨ob.slots, k b ob q⟩, fun _ _ _ n _ => n, fun b ob q _ => ⟨ob, k b ob q⟩, fun _ _ q => q, fun _ _ _ q => q, fun _ ps q => ⟨#[], by rw [q]; simp⟩⟩
theorem Un.refl : Un fs ex H H h h := Un.kept fun _ _ q => q
theorem Un.laid (k : ∀ b u, h.get? b = some u → h'.get? b = some u) (hp : h.objs.size ≤ a) (hn : H a = none) : Un fs ex H (upd H a o) h h' where
  keep := fun b u q _ _ _ => k b u q
  slot := fun b u q _ _ _ => ⟨u.slots, k b u q⟩
  free := fun b u q n _ => by rw [upd_ne (Nat.ne_of_lt (Nat.lt_of_lt_of_le (Heap.lt_size q) hp))]; exact n
  there := fun b u q _ => ⟨u, k b u q⟩
  tups := fun b xs q => by rw [upd_ne (ne_of_none q hn)]; exact q
  frzs := fun b u xs q => by rw [upd_ne (ne_of_none q hn)]; exact q
  tbls := fun b ps q => ⟨#[], by rw [upd_ne (ne_of_none q hn), q]; simp⟩
theorem Un.write (mu : Mut (H x)) (he : e = x ∨ H e = some (.own x)) (k : ∀ b u, b ≠ e → h.get? b = some u → h'.get? b = some u) (heo : ∃ u, h'.get? e = some u) : Un fs ex H (upd H x o) h h' := by
  have hx : ∀ b, H b = none → b ≠ x := fun b n z => by subst z; rw [n] at mu; exact mu
  have hb : ∀ b, H b = none → b ≠ e := fun b n z => by
    subst z
    rcases he with r | r
    · exact hx b n r
    · rw [n] at r; cases r
  have hm : ∀ b u, H b = some u → ¬ Mut (some u) → b ≠ x := fun b u q nm z => by subst z; rw [q] at mu; exact nm mu
  refine ⟨fun b u q n _ _ => k b u (hb b n) q, fun b u q n _ _ => ⟨u.slots, k b u (hb b n) q⟩, fun b u q n _ => by rw [upd_ne (hx b n)]; exact n, fun b u q _ => ?_,
    fun b xs q => by rw [upd_ne (hm b _ q fun z => z)]; exact q, fun b u xs q => by rw [upd_ne (hm b _ q fun z => z)]; exact q, fun b ps q => ⟨#[], by rw [upd_ne (hm b _ q fun z => z), q]; simp⟩⟩
  by_cases hbe : b = e
  · subst hbe; exact heo
  · exact ⟨u, k b u hbe q⟩
end

def trk (h : Heap) (H : Hp) : List Addr := (List.range h.objs.size).filter fun a => (H a).isSome
def hidT (h : Heap) (H : Hp) : Heap := PySem.W.hideAll h (trk h H)
theorem hidT_size (h : Heap) (H : Hp) : (hidT h H).objs.size = h.objs.size := PySem.W.hideAll_size _ _
theorem hidT_get {h : Heap} {H : Hp} {b : Addr} {o : Obj} (e : h.get? b = some o) (n : H b = none) : (hidT h H).get? b = some o :=
  PySem.W.hideAll_get _ e fun hm => by
    have q : (H b).isSome = true := (List.mem_filter.mp hm).2
    rw [n] at q; simp at q
theorem of_hidT {h : Heap} {H : Hp} {b : Addr} {o : Obj} (e : (hidT h H).get? b = some o) : h.get? b = some o ∧ H b = none := by
  have e' : h.get? b = some o := PySem.W.of_hideAll (trk h H) e
  refine ⟨e', ?_⟩
  cases q : H b with
  | none => rfl
  | some x =>
    have hm : b ∈ trk h H := List.mem_filter.mpr ⟨List.mem_range.mpr (Heap.lt_size e'), by simp [q]⟩
    have z : (hidT h H).get? b = none := PySem.W.hideAll_none (trk h H) hm
    rw [z] at e; cases e

end L2

namespace L2
open PySem PySem.Spec PyProof.Rows

structure Mod (K : PySem.W.Frag) (mg : Str → Option Value) (base : Heap) : Prop where
  kin : K.In base
  glob : base.Ns mainGlobals mg
  blt : ∃ mb, base.Ns builtinsNs mb ∧ ∀ x : Str, x ≠ "__name__" → mb x = bootBuiltins x
  nolimit : base.NoLimit

structure Cx where
  prog : Program
  w : World
  K : PySem.W.Frag
  mg : Str → Option Value
  base : Heap
  A : Around
  N : List Str
  s₀ : Shared
  H₀ : Hp
  env : Env
  outer : List Env
  stack : List Env
  ex : List Addr
  fn : Str → Bool
  calm : Bool
  pn : List (Addr × Obj)
  xe : Value → Shared → Prop
def frs (l : List Env) : List Addr := l.filterMap (·.frame)
abbrev Cx.fs (X : Cx) : List Addr := frs X.outer

def Vis (sc : Scope) (x : Str) : Prop := sc.names.lookup x = some .local ∨ sc.names.lookup x = some .cell ∨ sc.names.lookup x = some .free
def Loc (sc : Scope) (x : Str) : Prop := sc.names.lookup x = some .local ∨ sc.names.lookup x = some .cell
def Look (env : Env) (h : Heap) (m : Str → Option Value) (x : Str) (u : Value) : Prop :=
  (env.kindOf x = some .local ∧ m x = some u) ∨ ((env.kindOf x = some .cell ∨ env.kindOf x = some .free) ∧ ∃ c, env.cells.lookup x = some c ∧ h.IsCell c (some u))

structure Cx.Ok (X : Cx) : Prop where
  mod : Mod X.K X.mg X.base
  kind : X.env.scope.kind = .function
  glob : X.env.globals = mainGlobals
  blt : X.env.builtins = builtinsNs
  above : X.s₀.heap.objs.size ≤ X.env.locals
  inj : ∀ x y c, X.env.cells.lookup x = some c → X.env.cells.lookup y = some c → x = y
  has : ∀ x, (X.env.kindOf x = some .cell ∨ X.env.kindOf x = some .free) → ∃ c, X.env.cells.lookup x = some c
  cab : ∀ x c, X.fn x = true → X.env.cells.lookup x = some c → X.s₀.heap.objs.size ≤ c
  hd : X.calm = true → X.A.handled = none
  frames : X.A.frames = some X.stack
  stk : X.stack = X.outer ∨ (X.stack = X.env :: X.outer ∧ X.env.frame = some X.env.locals)
  exf : ∀ b ∈ X.ex, b ≠ X.env.locals ∧ ∀ x c, X.env.cells.lookup x = some c → c ≠ b
  bs : ∀ b o, X.base.get? b = some o → X.s₀.heap.get? b = some o ∧ X.H₀ b = none
  bsz : X.base.objs.size ≤ X.s₀.heap.objs.size
  noex : ∀ b o, X.base.get? b = some o → b ∉ X.ex
  exfs : ∀ b ∈ X.ex, b ∉ X.fs
  funs : X.s₀.heap.FunFrames X.base X.outer
  frf : ∀ b ∈ X.fs, X.H₀ b = none

structure Inv (X : Cx) (pins : List (Addr × Obj)) (σ : List (Option V)) (H : Hp) (s : Shared) : Prop where
  ok : X.Ok
  os : s.os = X.s₀.os
  bare : AllBare s.gens
  base : Un X.fs X.ex X.H₀ H X.s₀.heap s.heap
  loc : ∃ m, s.heap.Ns X.env.locals m ∧ ∀ (i : Nat) (x : Str) (v : V), X.N[i]? = some x → σ[i]? = some (some v) → Vis X.env.scope x → ∃ u, RelV v u ∧ Look X.env s.heap m x u
  cell : ∀ x c, X.env.cells.lookup x = some c → ∃ v, s.heap.IsCell c v
  free : H X.env.locals = none
  freeC : ∀ x c, X.env.cells.lookup x = some c → H c = none
  pin : ∀ p ∈ X.pn ++ pins, s.heap.get? p.1 = some p.2 ∧ H p.1 = none ∧ p.1 ≠ X.env.locals ∧ p.1 ∉ X.fs ∧ ∀ v, p.2.data ≠ .cell v
  hok : HOk X.prog X.w H s.heap
  len : σ.length = X.N.length

section
variable {X : Cx} {pins : List (Addr × Obj)} {σ : List (Option V)} {H H' : Hp} {s : Shared} {h' : Heap}

theorem Cx.Ok.nofr (ok : X.Ok) {b : Addr} {o : Obj} (e : X.base.get? b = some o) : b ∉ X.fs := fun hb => by
  have := (ok.funs.mem hb).1
  rw [e] at this; cases this
theorem Inv.bs (I : Inv X pins σ H s) : ∀ b o, X.base.get? b = some o → s.heap.get? b = some o ∧ H b = none := fun b o e =>
  ⟨I.base.keep b o (I.ok.bs b o e).1 (I.ok.bs b o e).2 (I.ok.nofr e) (I.ok.noex b o e), I.base.free b o (I.ok.bs b o e).1 (I.ok.bs b o e).2 (I.ok.noex b o e)⟩
theorem Inv.bk (I : Inv X pins σ H s) : ∀ b o, X.base.get? b = some o → s.heap.get? b = some o := fun b o e => (I.bs b o e).1
theorem Inv.mod (I : Inv X pins σ H s) : Mod X.K X.mg X.base := I.ok.mod
theorem Inv.kIn (I : Inv X pins σ H s) : X.K.In s.heap := I.ok.mod.kin.keeps I.bk
theorem Inv.lt (I : Inv X pins σ H s) : X.env.locals < s.heap.objs.size := let ⟨_, hn, _⟩ := I.loc; hn.lt
theorem Inv.sz (I : Inv X pins σ H s) : X.s₀.heap.objs.size ≤ s.heap.objs.size := Nat.le_trans I.ok.above (Nat.le_of_lt I.lt)
theorem Inv.nofs (I : Inv X pins σ H s) {a : Addr} (h : s.heap.objs.size ≤ a) : a ∉ X.fs := fun hb => by
  obtain ⟨_, o, ho, _⟩ := I.ok.funs.mem hb
  exact absurd (Nat.lt_of_lt_of_le (Heap.lt_size ho) (Nat.le_trans I.sz h)) (Nat.lt_irrefl _)
theorem Inv.cne (I : Inv X pins σ H s) : ∀ x c, X.env.cells.lookup x = some c → c ≠ X.env.locals := fun x c e z => by
  obtain ⟨v, o, ho, hd⟩ := I.cell x c e
  obtain ⟨m, ⟨o', es, ep, ho', hd', _⟩, _⟩ := I.loc
  rw [z, ho'] at ho; cases ho; rw [hd'] at hd; cases hd
theorem Inv.funs (I : Inv X pins σ H s) : s.heap.FunFrames X.base X.outer := by
  have all : ∀ (l : List Env), (∀ b ∈ frs l, b ∈ X.fs) → X.s₀.heap.FunFrames X.base l → s.heap.FunFrames X.base l := by
    intro l
    induction l with
    | nil => intro _ _; trivial
    | cons env r ih =>
      intro hs hl
      obtain ⟨hk, ⟨L, o, hf, hn, ho, hd⟩, hr⟩ := hl
      have hL : L ∈ X.fs := hs L (by unfold frs; rw [List.filterMap_cons, hf]; exact List.mem_cons_self)
      obtain ⟨sl, e⟩ := I.base.slot L o ho (I.ok.frf L hL) hL fun z => I.ok.exfs L z hL
      exact ⟨hk, ⟨L, _, hf, hn, e, hd⟩, ih (fun b hb => hs b (by unfold frs; rw [List.filterMap_cons, hf]; exact List.mem_cons_of_mem _ hb)) hr⟩
  exact all X.outer (fun _ hb => hb) I.ok.funs

theorem Inv.stack (I : Inv X pins σ H s) : s.heap.FunFrames X.base X.stack := by
  rcases I.ok.stk with e | ⟨e, hf⟩
  · rw [e]; exact I.funs
  · rw [e]
    obtain ⟨m, hn, _⟩ := I.loc
    refine .cons (by rw [I.ok.kind]; decide) hf hn ?_ I.funs
    exact Heap.get?_none_of_le (Nat.le_trans I.ok.bsz I.ok.above)
theorem Inv.stkSub (I : Inv X pins σ H s) : ∀ b ∈ frs X.stack, b ∈ X.env.locals :: X.fs := fun b hb => by
  rcases I.ok.stk with e | ⟨e, hf⟩
  · rw [e] at hb; exact List.mem_cons_of_mem _ hb
  · rw [e] at hb
    unfold frs at hb
    rw [List.filterMap_cons, hf] at hb
    exact hb
theorem Inv.stkFree (I : Inv X pins σ H s) : ∀ b ∈ frs X.stack, H b = none := fun b hb => by
  rcases List.mem_cons.mp (I.stkSub b hb) with e | hb
  · rw [e]; exact I.free
  · obtain ⟨_, o, ho, _⟩ := I.ok.funs.mem hb
    exact I.base.free b o ho (I.ok.frf b hb) fun z => I.ok.exfs b z hb

theorem Inv.step {g' : Array GenState} {t' : Nat} {d' : Drawn} {ch : List Addr} (I : Inv X pins σ H s)
    (hch : ∀ b ∈ ch, (b ∈ X.ex ∨ X.s₀.heap.objs.size ≤ b) ∧ b ≠ X.env.locals ∧ (∀ x c, X.env.cells.lookup x = some c → c ≠ b) ∧ ∀ p ∈ X.pn ++ pins, p.1 ≠ b)
    (keep : ∀ b o, b ≠ X.env.locals → b ∉ X.fs → b ∉ ch → s.heap.get? b = some o → H b = none → h'.get? b = some o)
    (slot : ∀ b o, b ≠ X.env.locals → b ∈ X.fs → b ∉ ch → s.heap.get? b = some o → H b = none → ∃ sl, h'.get? b = some { o with slots := sl }) (free : ∀ b o, b ∉ ch → s.heap.get? b = some o → H b = none → H' b = none)
    (there : ∀ b o, b ∉ ch → s.heap.get? b = some o → ∃ o', h'.get? b = some o')
    (tups : ∀ b xs, H b = some (.tup xs) → H' b = some (.tup xs)) (frzs : ∀ b o u, H b = some (.frz o u) → H' b = some (.frz o u)) (tbls : ∀ b ps, H b = some (.tbl ps) → ∃ more, H' b = some (.tbl (ps ++ more)))
    (ns : ∀ m, s.heap.Ns X.env.locals m → h'.Ns X.env.locals m) (hok : HOk X.prog X.w H' h') (hg : AllBare g') :
    Inv X pins σ H' { s with heap := h', gens := g', drawn := d', toks := t' } := by
  have neL : ∀ b o, X.s₀.heap.get? b = some o → b ≠ X.env.locals := fun b o e => Nat.ne_of_lt (Nat.lt_of_lt_of_le (Heap.lt_size e) I.ok.above)
  have neC : ∀ b o, X.s₀.heap.get? b = some o → b ∉ X.ex → b ∉ ch := fun b o e hx hb => by
    rcases (hch b hb).1 with z | z
    · exact hx z
    · exact absurd (Nat.lt_of_lt_of_le (Heap.lt_size e) z) (Nat.lt_irrefl _)
  have cellK : ∀ x c, X.env.cells.lookup x = some c → ∀ v, s.heap.IsCell c v → h'.IsCell c v := fun x c e v ⟨o, ho, hd⟩ => by
    have nch : c ∉ ch := fun z => (hch c z).2.2.1 x c e rfl
    by_cases hc : c ∈ X.fs
    · obtain ⟨sl, q⟩ := slot c o (I.cne x c e) hc nch ho (I.freeC x c e)
      exact ⟨_, q, hd⟩
    · exact ⟨o, keep c o (I.cne x c e) hc nch ho (I.freeC x c e), hd⟩
  refine ⟨I.ok, I.os, hg, ⟨fun b o e n hb hx => ?_, fun b o e n hb hx => ?_, fun b o e n hx => ?_, fun b o e hx => ?_, fun b xs e => tups b xs (I.base.tups b xs e), fun b o xs e => frzs b o xs (I.base.frzs b o xs e), fun b ps e => ?_⟩, ?_, fun x c e => ?_, ?_, fun x c e => ?_, fun p hp => ?_, hok, I.len⟩
  · exact keep b o (neL b o e) hb (neC b o e hx) (I.base.keep b o e n hb hx) (I.base.free b o e n hx)
  · obtain ⟨sl, e1⟩ := I.base.slot b o e n hb hx
    obtain ⟨sl', e2⟩ := slot b _ (neL b o e) hb (neC b o e hx) e1 (I.base.free b o e n hx)
    exact ⟨sl', e2⟩
  · obtain ⟨o', e1⟩ := I.base.there b o e hx
    exact free b o' (neC b o e hx) e1 (I.base.free b o e n hx)
  · obtain ⟨o', e1⟩ := I.base.there b o e hx
    exact there b o' (neC b o e hx) e1
  · obtain ⟨m1, e1⟩ := I.base.tbls b ps e
    obtain ⟨m2, e2⟩ := tbls b _ e1
    exact ⟨m1 ++ m2, by rw [e2, Array.append_assoc]⟩
  · obtain ⟨m, hn, hl⟩ := I.loc
    refine ⟨m, ns m hn, fun i x v e1 e2 e3 => ?_⟩
    obtain ⟨u, r, l⟩ := hl i x v e1 e2 e3
    refine ⟨u, r, ?_⟩
    rcases l with l | ⟨k, c, e, z⟩
    · exact .inl l
    · exact .inr ⟨k, c, e, cellK x c e _ z⟩
  · obtain ⟨v, z⟩ := I.cell x c e
    exact ⟨v, cellK x c e v z⟩
  · obtain ⟨m, ⟨o, _, _, ho, _⟩, _⟩ := I.loc
    exact free _ o (fun z => (hch _ z).2.1 rfl) ho I.free
  · obtain ⟨v, o, ho, hd⟩ := I.cell x c e
    exact free c o (fun z => (hch c z).2.2.1 x c e rfl) ho (I.freeC x c e)
  · obtain ⟨e, n, ne, nf, d⟩ := I.pin p hp
    have nch : p.1 ∉ ch := fun z => (hch p.1 z).2.2.2 p hp rfl
    exact ⟨keep p.1 p.2 ne nf nch e n, free p.1 p.2 nch e n, ne, nf, d⟩
theorem Inv.un {t' : Nat} (I : Inv X pins σ H s) (u : Un X.fs [] H H' s.heap h') (hok : HOk X.prog X.w H' h') : Inv X pins σ H' { s with heap := h', toks := t' } := by
  obtain ⟨m, ⟨o, es, ep, ho, r⟩, _⟩ := id I.loc
  obtain ⟨sl, hL⟩ := u.any ho I.free (by simp)
  exact I.step (g' := s.gens) (d' := s.drawn) (ch := []) (fun _ z => nomatch z) (fun b o _ hb _ e n => u.keep b o e n hb (by simp)) (fun b o _ hb _ e n => u.slot b o e n hb (by simp)) (fun b o _ e n => u.free b o e n (by simp)) (fun b o _ e => u.there b o e (by simp)) u.tups u.frzs u.tbls (fun m' hm => by
    obtain ⟨o', es', ep', ho', r'⟩ := hm
    rw [ho] at ho'; cases ho'
    exact ⟨_, es', ep', hL, r'⟩) hok I.bare
theorem Inv.call {g' : Array GenState} {t' : Nat} {d' : Drawn} {ch : List Addr} (I : Inv X pins σ H s) (u : Un (frs X.stack) ch H H' s.heap h') (hok : HOk X.prog X.w H' h') (hg : AllBare g')
    (hch : ∀ b ∈ ch, (b ∈ X.ex ∨ X.s₀.heap.objs.size ≤ b) ∧ b ≠ X.env.locals ∧ (∀ x c, X.env.cells.lookup x = some c → c ≠ b) ∧ ∀ p ∈ X.pn ++ pins, p.1 ≠ b) :
    Inv X pins σ H' { s with heap := h', gens := g', drawn := d', toks := t' } := by
  obtain ⟨m, ⟨o, es, ep, ho, r⟩, _⟩ := id I.loc
  obtain ⟨sl, hL⟩ := u.any ho I.free fun z => (hch _ z).2.1 rfl
  exact I.step (ch := ch) hch (fun b o hL hb hc e n => u.keep b o e n (fun z => (List.mem_cons.mp (I.stkSub b z)).elim hL hb) hc) (fun b o _ _ hc e n => u.any e n hc) (fun b o hc e n => u.free b o e n hc) (fun b o hc e => u.there b o e hc) u.tups u.frzs u.tbls (fun m' hm => by
    obtain ⟨o', es', ep', ho', r'⟩ := hm
    rw [ho] at ho'; cases ho'
    exact ⟨_, es', ep', hL, r'⟩) hok hg
theorem Inv.turned {t' : Nat} {it : Addr} (I : Inv X pins σ H s) (k : ∀ b o, b ≠ it → s.heap.get? b = some o → h'.get? b = some o) (hn : H it = none) (hL : it ≠ X.env.locals)
    (h1 : it ∈ X.ex ∨ X.s₀.heap.objs.size ≤ it) (h2 : ∀ x c, X.env.cells.lookup x = some c → c ≠ it) (h3 : ∀ p ∈ X.pn ++ pins, p.1 ≠ it) : Inv X pins σ H { s with heap := h', toks := t' } := by
  have nit : ∀ b u, H b = some u → b ≠ it := fun b u e z => by rw [z, hn] at e; cases e
  refine I.step (g' := s.gens) (d' := s.drawn) (ch := [it]) (fun b hb => ?_) (fun b o _ _ hc e _ => k b o (fun z => hc (by simp [z])) e) (fun b o _ _ hc e _ => ⟨o.slots, k b o (fun z => hc (by simp [z])) e⟩) (fun _ _ _ _ n => n)
    (fun b o hc e => ⟨o, k b o (fun z => hc (by simp [z])) e⟩) (fun _ _ e => e) (fun _ _ _ e => e) (fun b ps e => ⟨#[], by rw [e]; simp⟩) (fun m hm => ?_) (fun b u e => ?_) I.bare
  · have e : b = it := by simpa using hb
    subst e
    exact ⟨h1, hL, h2, h3⟩
  · obtain ⟨o, es, ep, ho, r⟩ := hm
    exact ⟨o, es, ep, k _ o (Ne.symm hL) ho, r⟩
  · refine (I.hok b u e).stay (fun c v hc q => k c v ?_ q) (fun _ q => q) fun _ _ q => q
    rcases hc with z | z
    · rw [z]; exact nit b u e
    · exact nit c _ z
theorem Inv.tok (I : Inv X pins σ H s) (t : Nat) : Inv X pins σ H { s with toks := t } := I.un (h' := s.heap) (t' := t) Un.refl I.hok
theorem Inv.kept {t' : Nat} (I : Inv X pins σ H s) (k : ∀ b u, s.heap.get? b = some u → h'.get? b = some u) : Inv X pins σ H { s with heap := h', toks := t' } := I.un (Un.kept k) (I.hok.kept k)
theorem Inv.laid {a : Addr} {o : HO} {t' : Nat} (I : Inv X pins σ H s) (k : ∀ b u, s.heap.get? b = some u → h'.get? b = some u) (hp : s.heap.objs.size ≤ a) (new : ObjOk X.prog X.w (upd H a o) h' a o) :
    Inv X pins σ (upd H a o) { s with heap := h', toks := t' } := I.un (Un.laid k hp (I.hok.fresh hp)) (I.hok.laid k hp new)
theorem Inv.write {x e : Addr} {o : HO} {t' : Nat} (I : Inv X pins σ H s) (mu : Mut (H x)) (he : e = x ∨ H e = some (.own x)) (k : ∀ b u, b ≠ e → s.heap.get? b = some u → h'.get? b = some u) (heo : ∃ u, h'.get? e = some u)
    (new : ObjOk X.prog X.w (upd H x o) h' x o) : Inv X pins σ (upd H x o) { s with heap := h', toks := t' } := I.un (Un.write mu he k heo) (I.hok.write mu he k heo new)
theorem Inv.pins_of {pins' : List (Addr × Obj)} (I : Inv X pins σ H s) (h : ∀ p ∈ pins', s.heap.get? p.1 = some p.2 ∧ H p.1 = none ∧ p.1 ≠ X.env.locals ∧ p.1 ∉ X.fs ∧ ∀ v, p.2.data ≠ .cell v) : Inv X pins' σ H s :=
  ⟨I.ok, I.os, I.bare, I.base, I.loc, I.cell, I.free, I.freeC, fun p hp => (List.mem_append.mp hp).elim (fun z => I.pin p (List.mem_append_left _ z)) (h p), I.hok, I.len⟩

theorem nodup_ix {N : List Str} (hN : N.Nodup) {i j : Nat} {x : Str} (a : N[i]? = some x) (b : N[j]? = some x) : i = j := by
  obtain ⟨h1, e1⟩ := List.getElem?_eq_some_iff.mp a
  obtain ⟨h2, e2⟩ := List.getElem?_eq_some_iff.mp b
  exact (List.getElem_inj hN).mp (e1.trans e2.symm)

theorem store_ok2 {M : Model} {A : Around} {E : Value → Shared → Prop} {i : Nat} {x : Str} {v : V} {u : Value} {Q : Unit → Shared → Prop} (I : Inv X pins σ H s) (hN : X.N.Nodup) (hi : X.N[i]? = some x) (hx : Loc X.env.scope x) (r : RelV v u)
    (h : ∀ s', Inv X pins (σ.set i (some v)) H s' → (∃ a, Heap.SameBut a s.heap s'.heap ∧ (a = X.env.locals ∨ X.env.cells.lookup x = some a)) → Q () s') (hf : X.fn x = true ∨ X.env.scope.names.lookup x = some .local := by first | exact .inl rfl | exact .inr rfl | assumption) : wpAny M A (storeName X.env x u) Q E s := by
  obtain ⟨m, hn, hl⟩ := id I.loc
  have hcls : (X.env.scope.kind == .class || (X.env.scope.kind == .module && X.env.locals != X.env.globals)) = false := by rw [I.ok.kind]; rfl
  have hiσ : i < σ.length := by rw [I.len]; exact (List.getElem?_eq_some_iff.mp hi).1
  have cne := I.cne
  have tracked : ∀ {a : Addr} {h' : Heap}, (∃ o, s.heap.get? a = some o ∧ H a = none) → Heap.SameBut a s.heap h' → HOk X.prog X.w H h' := fun {a h'} ha hs b ob e => by
    obtain ⟨_, _, hfree⟩ := ha
    refine (I.hok b ob e).stay (fun c w' hc q => (hs.2 c ?_).trans q) (fun _ q => q) fun _ _ q => q
    rintro rfl
    rcases hc with rfl | hc
    · rw [hfree] at e; cases e
    · rw [hfree] at hc; cases hc
  rcases hx with hk | hk
  · refine wpAny_storeName_local hk hn (fun h' hn' hs => ?_) hcls
    obtain ⟨oL, _, _, hoL, _⟩ := id hn
    refine h _ ⟨I.ok, I.os, I.bare, ⟨fun b o e n hb hx => ?_, fun b o e n hb hx => ?_, I.base.free, fun b o e hx => ?_, I.base.tups, I.base.frzs, I.base.tbls⟩, ⟨_, hn', fun j y v' e1 e2 e3 => ?_⟩, fun y c e => ?_, I.free, I.freeC, fun p hp => ?_, tracked ⟨oL, hoL, I.free⟩ hs, by simpa using I.len⟩ ⟨_, hs, .inl rfl⟩
    · exact (hs.2 b (Nat.ne_of_lt (Nat.lt_of_lt_of_le (Heap.lt_size e) I.ok.above))).trans (I.base.keep b o e n hb hx)
    · obtain ⟨sl, e1⟩ := I.base.slot b o e n hb hx
      exact ⟨sl, (hs.2 b (Nat.ne_of_lt (Nat.lt_of_lt_of_le (Heap.lt_size e) I.ok.above))).trans e1⟩
    · obtain ⟨o', e1⟩ := I.base.there b o e hx
      exact ⟨o', (hs.2 b (Nat.ne_of_lt (Nat.lt_of_lt_of_le (Heap.lt_size e) I.ok.above))).trans e1⟩
    · by_cases hj : j = i
      · subst hj
        rw [hi] at e1; cases e1
        rw [List.getElem?_set_self hiσ] at e2
        cases e2
        exact ⟨u, r, .inl ⟨hk, by simp⟩⟩
      · rw [List.getElem?_set_ne (Ne.symm hj)] at e2
        obtain ⟨u', r', q⟩ := hl j y v' e1 e2 e3
        refine ⟨u', r', ?_⟩
        rcases q with ⟨k, e⟩ | ⟨k, c, e, z⟩
        · refine .inl ⟨k, ?_⟩
          have : y ≠ x := fun e => hj (nodup_ix hN e1 (e ▸ hi))
          simp [this, e]
        · exact .inr ⟨k, c, e, z.sameBut hs (cne y c e)⟩
    · obtain ⟨w', z⟩ := I.cell y c e
      exact ⟨w', z.sameBut hs (cne y c e)⟩
    · obtain ⟨e, n, ne, nf, d⟩ := I.pin p hp
      exact ⟨(hs.2 p.1 ne).trans e, n, ne, nf, d⟩
  · have hfn : X.fn x = true := by
      rcases hf with z | z
      · exact z
      · rw [z] at hk; cases hk
    obtain ⟨c, hc⟩ := I.ok.has x (.inl hk)
    obtain ⟨w', z⟩ := I.cell x c hc
    refine wpAny_storeName_cell I.ok.kind hk hc z (fun h' hc' hs => ?_)
    obtain ⟨oc, hoc, hocd⟩ := id z
    refine h { s with heap := h' } ⟨I.ok, I.os, I.bare, ⟨fun b o e n hb hx => ?_, fun b o e n hb hx => ?_, I.base.free, fun b o e hx => ?_, I.base.tups, I.base.frzs, I.base.tbls⟩, ⟨m, hn.sameBut hs (Ne.symm (cne x c hc)), fun j y v' e1 e2 e3 => ?_⟩, fun y c' e => ?_, I.free, I.freeC, fun p hp => ?_, tracked ⟨oc, hoc, I.freeC x c hc⟩ hs, by simpa using I.len⟩ ⟨c, hs, .inr hc⟩
    · exact (hs.2 b (Nat.ne_of_lt (Nat.lt_of_lt_of_le (Heap.lt_size e) (I.ok.cab x c hfn hc)))).trans (I.base.keep b o e n hb hx)
    · obtain ⟨sl, e1⟩ := I.base.slot b o e n hb hx
      exact ⟨sl, (hs.2 b (Nat.ne_of_lt (Nat.lt_of_lt_of_le (Heap.lt_size e) (I.ok.cab x c hfn hc)))).trans e1⟩
    · obtain ⟨o', e1⟩ := I.base.there b o e hx
      exact ⟨o', (hs.2 b (Nat.ne_of_lt (Nat.lt_of_lt_of_le (Heap.lt_size e) (I.ok.cab x c hfn hc)))).trans e1⟩
    · by_cases hj : j = i
      · subst hj
        rw [hi] at e1; cases e1
        rw [List.getElem?_set_self hiσ] at e2
        cases e2
        exact ⟨u, r, .inr ⟨.inl hk, c, hc, hc'⟩⟩
      · rw [List.getElem?_set_ne (Ne.symm hj)] at e2
        obtain ⟨u', r', q⟩ := hl j y v' e1 e2 e3
        refine ⟨u', r', ?_⟩
        rcases q with q | ⟨k, c', e, z'⟩
        · exact .inl q
        · refine .inr ⟨k, c', e, z'.sameBut hs ?_⟩
          rintro rfl
          exact hj (nodup_ix hN e1 (I.ok.inj _ _ _ e hc ▸ hi))
    · by_cases hcc : c' = c
      · subst hcc; exact ⟨_, hc'⟩
      · obtain ⟨w2, z2⟩ := I.cell y c' e
        exact ⟨w2, z2.sameBut hs hcc⟩
    · obtain ⟨e, n, ne, nf, d⟩ := I.pin p hp
      refine ⟨(hs.2 p.1 ?_).trans e, n, ne, nf, d⟩
      intro q
      rw [q, hoc] at e
      have q' : oc = p.2 := Option.some.inj e
      exact d w' (by rw [← q']; exact hocd)
theorem store_ok {M : Model} {A : Around} {E : Value → Shared → Prop} {i : Nat} {x : Str} {v : V} {u : Value} {Q : Unit → Shared → Prop} (I : Inv X pins σ H s) (hN : X.N.Nodup) (hi : X.N[i]? = some x) (hx : Loc X.env.scope x) (r : RelV v u)
    (h : ∀ s', Inv X pins (σ.set i (some v)) H s' → Q () s') (hf : X.fn x = true ∨ X.env.scope.names.lookup x = some .local := by first | exact .inl rfl | exact .inr rfl | assumption) : wpAny M A (storeName X.env x u) Q E s :=
  store_ok2 I hN hi hx r (fun s' I' _ => h s' I') hf
theorem Inv.call' {s' : Shared} {ch : List Addr} (I : Inv X pins σ H s) (ho : s'.os = s.os) (u : Un (frs X.stack) ch H H' s.heap s'.heap) (hok : HOk X.prog X.w H' s'.heap) (hg : AllBare s'.gens)
    (hch : ∀ b ∈ ch, (b ∈ X.ex ∨ X.s₀.heap.objs.size ≤ b) ∧ b ≠ X.env.locals ∧ (∀ x c, X.env.cells.lookup x = some c → c ≠ b) ∧ ∀ p ∈ X.pn ++ pins, p.1 ≠ b) : Inv X pins σ H' s' := by
  obtain ⟨h', g', d', t', o'⟩ := s'
  have e : o' = s.os := ho
  subst e
  exact I.call (g' := g') (t' := t') (d' := d') u hok hg hch
end

abbrev XK := Value → Option Addr → Hp → Prop
abbrev St := List (Option V)
abbrev VK := V → Hp → Prop
abbrev TE := St → Hp → VK → Prop
abbrev TT := St → Hp → (Bool → Hp → Prop) → Prop
abbrev TA := St → Hp → (List V → Hp → Prop) → Prop
structure Ends where
  nx : St → Hp → Prop
  rt : VK
  bk : St → Hp → Prop := fun _ _ => False
  ct : St → Hp → Prop := fun _ _ => False
abbrev TS := Ends → St → Hp → Prop

def EP (X : Cx) (pins : List (Addr × Obj)) (σ : St) (Q : VK) (u : Value) (s' : Shared) : Prop := ∃ v H', Inv X pins σ H' s' ∧ RelV v u ∧ Q v H'
def TP (X : Cx) (pins : List (Addr × Obj)) (σ : St) (Q : Bool → Hp → Prop) (b : Bool) (s' : Shared) : Prop := ∃ H', Inv X pins σ H' s' ∧ Q b H'
def AP (X : Cx) (pins : List (Addr × Obj)) (σ : St) (Q : List V → Hp → Prop) (us : List Value) (s' : Shared) : Prop := ∃ vs H', Inv X pins σ H' s' ∧ Vals vs us ∧ Q vs H'
def SP (X : Cx) (pins : List (Addr × Obj)) (D : Ends) (f : Flow) (s' : Shared) : Prop :=
  match f with
  | .next => ∃ σ' H', Inv X pins σ' H' s' ∧ D.nx σ' H'
  | .brk => ∃ σ' H', Inv X pins σ' H' s' ∧ D.bk σ' H'
  | .cont => ∃ σ' H', Inv X pins σ' H' s' ∧ D.ct σ' H'
  | .ret u => ∃ v σ' H', Inv X pins σ' H' s' ∧ RelV v u ∧ D.rt v H'

def PE (X : Cx) (e : Expr) (t : TE) : Prop :=
  ∀ (pins : List (Addr × Obj)) (s : Shared) (σ : St) (H : Hp) (Q : VK), Inv X pins σ H s → t σ H Q → wpAny (model X.prog X.w) X.A (eval e X.env) (EP X pins σ Q) X.xe s
def PT (X : Cx) (e : Expr) (t : TT) : Prop :=
  ∀ (pins : List (Addr × Obj)) (s : Shared) (σ : St) (H : Hp) (Q : Bool → Hp → Prop), Inv X pins σ H s → t σ H Q → wpAny (model X.prog X.w) X.A (isTrue e X.env (eval e X.env)) (TP X pins σ Q) X.xe s
def PW (X : Cx) (e : Expr) (t : TT) : Prop :=
  ∀ (whole : Sem Value) (pins : List (Addr × Obj)) (s : Shared) (σ : St) (H : Hp) (Q : Bool → Hp → Prop), Inv X pins σ H s → t σ H Q → wpAny (model X.prog X.w) X.A (isTrue e X.env whole) (TP X pins σ Q) X.xe s
theorem PW.pt {X : Cx} {e : Expr} {t : TT} (h : PW X e t) : PT X e t := h _
def PA (X : Cx) (es : List Expr) (t : TA) : Prop :=
  ∀ (pos : Pos) (pins : List (Addr × Obj)) (s : Shared) (σ : St) (H : Hp) (Q : List V → Hp → Prop), Inv X pins σ H s → t σ H Q → wpAny (model X.prog X.w) X.A (spliced (backTo pos (starEach es X.env))) (AP X pins σ Q) X.xe s
def PS (X : Cx) (st : Stmt) (t : TS) : Prop :=
  ∀ (pins : List (Addr × Obj)) (s : Shared) (σ : St) (H : Hp) (D : Ends), Inv X pins σ H s → t D σ H → wpAny (model X.prog X.w) X.A (exec st X.env) (SP X pins D) X.xe s
def PSs (X : Cx) (st : List Stmt) (t : TS) : Prop :=
  ∀ (pins : List (Addr × Obj)) (s : Shared) (σ : St) (H : Hp) (D : Ends), Inv X pins σ H s → t D σ H → wpAny (model X.prog X.w) X.A (execs st X.env) (SP X pins D) X.xe s
theorem thn {α : Type} {t : Sem α} {Q Q' : α → Shared → Prop} {M : Model} {A : Around} {E : Value → Shared → Prop} {s : Shared} (h : wpAny M A t Q E s) (hQ : ∀ a s, Q a s → Q' a s) : wpAny M A t Q' E s := wpAny_mono h hQ fun _ _ x => x
end L2

namespace L2
open PySem PySem.Spec PyProof.Rows
section
variable {X : Cx}

def tVar (i : Nat) : TE := fun σ H Q => ∃ v, σ[i]? = some (some v) ∧ Q v H
def tC (v : V) : TE := fun _ H Q => Q v H
theorem pe_var {i : Nat} {x : Str} {pos : Pos} (hN : X.N[i]? = some x) (hv : Vis X.env.scope x) (hd : (x == ("__debug__" : Str)) = false := by decide) (hcd : (x == ("__classdict__" : Str)) = false := by decide) : PE X (.Name x pos) (tVar i) := by
  intro pins s σ H Q I h
  obtain ⟨v, e, h⟩ := h
  obtain ⟨m, hn, hl⟩ := I.loc
  obtain ⟨u, r, l⟩ := hl i x v hN e hv
  have fin : EP X pins σ Q u s := ⟨v, H, I, r, h⟩
  rcases l with ⟨hk, hm⟩ | ⟨hk, c, hc, hcell⟩
  · exact wpAny_Name (wpAny_loadName_local I.ok.kind hk hn hm fin) hd
  · rcases hk with hk | hk
    · exact wpAny_Name (wpAny_loadName_cell I.ok.kind hk hc hcell fin) hd
    · exact wpAny_Name (wpAny_loadName_free I.ok.kind hk hc hcell fin hcd) hd
theorem pe_int {i j pos} : PE X (.Constant (.int i) j pos) (tC (.int i)) := fun _ _ _ H _ I h => wpAny_Constant_int ⟨.int i, H, I.tok _, ⟨_, rfl⟩, h⟩
theorem pe_bl {b j pos} : PE X (.Constant (.bool b) j pos) (tC (.bl b)) := fun _ _ _ H _ I h => Constant_bool ⟨.bl b, H, I, rfl, h⟩
theorem pe_non {j pos} : PE X (.Constant .none j pos) (tC .non) := fun _ _ _ H _ I h => Constant_none ⟨.non, H, I, rfl, h⟩
theorem pe_str {x j pos} : PE X (.Constant (.str x) j pos) (tC (.str x)) := fun _ _ _ H _ I h => Calls.Constant_str ⟨.str x, H, I.tok _, ⟨_, rfl⟩, h⟩

def Gl (X : Cx) (x : Str) : Prop := X.env.kindOf x = some .globalImplicit
theorem ld_glob {E : Value → Shared → Prop} {pins : List (Addr × Obj)} {s : Shared} {σ : St} {H : Hp} {x : Str} {u : Value} {pos : Pos} {Q : Value → Shared → Prop} (I : Inv X pins σ H s) (hg : Gl X x) (hm : X.mg x = some u) (h : Q u s)
    (hd : (x == ("__debug__" : Str)) = false := by decide) : wpAny (model X.prog X.w) X.A (eval (.Name x pos) X.env) Q E s :=
  Calls.Name_function_global I.ok.kind hg (Calls.loadGlobal_global (by rw [I.ok.glob]; exact I.mod.glob.keeps I.bk) hm h) hd
theorem ld_blt {E : Value → Shared → Prop} {pins : List (Addr × Obj)} {s : Shared} {σ : St} {H : Hp} {x : Str} {u : Value} {pos : Pos} {Q : Value → Shared → Prop} (I : Inv X pins σ H s) (hg : Gl X x) (hm : X.mg x = none) (hv : bootBuiltins x = some u) (h : Q u s)
    (hn : x ≠ "__name__" := by decide) (hd : (x == ("__debug__" : Str)) = false := by decide) : wpAny (model X.prog X.w) X.A (eval (.Name x pos) X.env) Q E s := by
  obtain ⟨mb, h1, h2⟩ := I.mod.blt
  exact Calls.Name_function_global I.ok.kind hg (Calls.loadGlobal_builtin (by rw [I.ok.glob]; exact I.mod.glob.keeps I.bk) hm (by rw [I.ok.blt]; exact h1.keeps I.bk) ((h2 x hn).trans hv) h) hd
theorem pe_glob {x : Str} {v : V} {u : Value} {pos : Pos} (hg : Gl X x) (hm : X.mg x = some u) (r : RelV v u) (hd : (x == ("__debug__" : Str)) = false := by decide) : PE X (.Name x pos) (tC v) :=
  fun _ _ _ H _ I h => ld_glob I hg hm ⟨v, H, I, r, h⟩ hd
theorem pe_bltn {x : Str} {v : V} {u : Value} {pos : Pos} (hg : Gl X x) (hm : X.mg x = none) (hv : bootBuiltins x = some u) (r : RelV v u) (hn : x ≠ "__name__" := by decide) (hd : (x == ("__debug__" : Str)) = false := by decide) : PE X (.Name x pos) (tC v) :=
  fun _ _ _ H _ I h => ld_blt I hg hm hv ⟨v, H, I, r, h⟩ hn hd

variable {a b : Expr} {ta tb : TE} {pos : Pos}
def PC (X : Cx) (op : CmpOp) (a b : Expr) (t : TE) : Prop :=
  ∀ (pins : List (Addr × Obj)) (s : Shared) (σ : St) (H : Hp) (Q : VK), Inv X pins σ H s → t σ H Q →
    wpAny (model X.prog X.w) X.A (eval a X.env) (fun v s₁ => wpAny (model X.prog X.w) X.A (eval b X.env) (fun u s₂ => wpAny (model X.prog X.w) X.A (compareOp op v u) (EP X pins σ Q) X.xe s₂) X.xe s₁) X.xe s
def tB (t : TE) : TT := fun σ H Q => t σ H fun x H1 => ∃ c, x = .bl c ∧ Q c H1
theorem pt_val {e : Expr} {t : TE} (h : PE X e t) (he : ∀ whole, isTrue e X.env whole = (do let v ← whole; standAt e.pos; holding [v] (truthy v)) := by intro _; rfl) : PT X e (tB t) := by
  intro pins s σ H Q I hw
  refine isTrue_plain (thn (h pins s σ H _ I hw) fun v s1 ⟨x, H1, I1, r1, q1⟩ => ?_) (he _)
  obtain ⟨d, rfl, q⟩ := q1
  cases r1
  exact wpAny_truthy_bool ⟨H1, I1, q⟩

variable {tA tB' : TT} {rest : List Expr}
def tOr (t u : TT) : TT := fun σ H Q => t σ H fun c H1 => if c = true then Q true H1 else u σ H1 Q
def tNot (t : TT) : TT := fun σ H Q => t σ H fun c H1 => Q (!c) H1
theorem pw_or1 (ha : PT X a tA) : PW X (.BoolOp .Or [a] pos) tA := by
  intro wh pins s σ H Q I h
  refine isTrue_or (thn (ha pins s σ H Q I h) fun c s1 e => ?_)
  cases c with
  | false => exact isTrue_or_nil e
  | true => exact e
theorem pw_or (ha : PT X a tA) (hb : PW X (.BoolOp .Or (b :: rest) pos) tB') : PW X (.BoolOp .Or (a :: b :: rest) pos) (tOr tA tB') := by
  intro wh pins s σ H Q I h
  refine isTrue_or (thn (ha pins s σ H _ I h) fun c s1 ⟨H1, I1, q1⟩ => ?_)
  cases c with
  | true => exact ⟨H1, I1, q1⟩
  | false => exact hb wh pins s1 σ H1 Q I1 q1
theorem pt_not (ha : PT X a tA) : PT X (.UnaryOp .Not a pos) (tNot tA) := by
  intro pins s σ H Q I h
  exact isTrue_not (ha pins s σ H (fun c H1 => Q (!c) H1) I h)
def tAndV (ta tb : TE) : TE := fun σ H Q => ta σ H fun x H1 => ∃ c, x = .bl c ∧ if c = true then tb σ H1 Q else Q (.bl false) H1
def tOrV (ta tb : TE) : TE := fun σ H Q => ta σ H fun x H1 => ∃ c, x = .bl c ∧ if c = true then Q (.bl true) H1 else tb σ H1 Q
def tNotV (ta : TE) : TE := fun σ H Q => ta σ H fun x H1 => ∃ c, x = .bl c ∧ Q (.bl (!c)) H1
theorem pe_one {op} {t : TE} (h : PE X a t) : PE X (.BoolOp op [a] pos) t := fun pins s σ H Q I hw => BoolOp_one (h pins s σ H Q I hw)
theorem pe_and (ha : PE X a ta) (hb : PE X (.BoolOp .And (b :: rest) pos) tb) : PE X (.BoolOp .And (a :: b :: rest) pos) (tAndV ta tb) := by
  intro pins s σ H Q I h
  refine BoolOp_and (thn (ha pins s σ H _ I h) fun v s1 ⟨x, H1, I1, r1, q1⟩ => ?_)
  obtain ⟨c, rfl, q1⟩ := q1
  cases r1
  refine wpAny_truthy_bool ?_
  cases c with
  | true => exact hb pins s1 σ H1 Q I1 q1
  | false => exact ⟨.bl false, H1, I1, rfl, q1⟩
theorem pe_or (ha : PE X a ta) (hb : PE X (.BoolOp .Or (b :: rest) pos) tb) : PE X (.BoolOp .Or (a :: b :: rest) pos) (tOrV ta tb) := by
  intro pins s σ H Q I h
  refine BoolOp_or (thn (ha pins s σ H _ I h) fun v s1 ⟨x, H1, I1, r1, q1⟩ => ?_)
  obtain ⟨c, rfl, q1⟩ := q1
  cases r1
  refine wpAny_truthy_bool ?_
  cases c with
  | false => exact hb pins s1 σ H1 Q I1 q1
  | true => exact ⟨.bl true, H1, I1, rfl, q1⟩
theorem pe_not (ha : PE X a ta) : PE X (.UnaryOp .Not a pos) (tNotV ta) := by
  intro pins s σ H Q I h
  refine UnaryOp_ (thn (ha pins s σ H _ I h) fun v s1 ⟨x, H1, I1, r1, q1⟩ => ?_)
  obtain ⟨c, rfl, q1⟩ := q1
  cases r1
  exact not_of (wpAny_truthy_bool ⟨.bl (!c), H1, I1, rfl, q1⟩)
end
end L2

namespace L2
open PySem PySem.Spec PyProof.Rows

def SqL (K : PySem.W.Frag) (H : Hp) (a : Addr) (xs : List V) : Prop :=
  Rd H a (.lst xs) ∨
    ∃ (o : Obj) (its : Array Value) (n : Nat), K.lookup a = some o ∧ o.cls = .type "list" ∧ o.dict = none ∧ o.data = .seq its n ∧ its.size ≤ sizeLine ∧ Vals xs its.toList
def SqT (K : PySem.W.Frag) (H : Hp) (a : Addr) (xs : List V) : Prop :=
  Rd H a (.tup xs) ∨
    ∃ (o : Obj) (its : Array Value) (n : Nat), K.lookup a = some o ∧ o.cls = .type "tuple" ∧ o.data = .seq its n ∧ its.size ≤ sizeLine ∧ Vals xs its.toList
def absV : Value → Option V
  | .none => some .non
  | .bool b => some (.bl b)
  | .int i _ => some (.int i)
  | .str x _ => some (.str x)
  | .bytes b _ => some (.byt b)
  | .float b _ => some (.flt b)
  | .ref a => some (.ref a)
  | .type n => some (.ty n)
  | _ => none
theorem RelV.abs {x : V} {u : Value} (r : RelV x u) : absV u = some x := by
  cases x with
  | non => cases r; rfl
  | bl _ => cases r; rfl
  | int _ => obtain ⟨t, rfl⟩ := r; rfl
  | str _ => obtain ⟨t, rfl⟩ := r; rfl
  | byt _ => obtain ⟨t, rfl⟩ := r; rfl
  | flt _ => obtain ⟨t, rfl⟩ := r; rfl
  | ref _ => cases r; rfl
  | ty _ => cases r; rfl
theorem RelV.inj {x y : V} {u : Value} (r : RelV x u) (q : RelV y u) : x = y := Option.some.inj (r.abs.symm.trans q.abs)
theorem Vals.inj : ∀ {xs ys : List V} {us : List Value}, Vals xs us → Vals ys us → xs = ys
  | _, _, _, .nil, .nil => rfl
  | _, _, _, .cons r t, .cons r' t' => by rw [r.inj r', Vals.inj t t']
section
variable {X : Cx} {pins : List (Addr × Obj)} {σ : St} {H : Hp} {s : Shared} {a : Addr} {xs ys : List V}
theorem SqL.of {K : PySem.W.Frag} (h : H a = some (.lst xs)) : SqL K H a xs := .inl (.inl h)
theorem SqT.of {K : PySem.W.Frag} (h : H a = some (.tup xs)) : SqT K H a xs := .inl (.inl h)
theorem Inv.list (I : Inv X pins σ H s) (h : SqL X.K H a xs) : ∃ its : List Value, Vals xs its ∧ PlainL s.heap a its.toArray ∧ xs.length ≤ sizeLine := by
  rcases h with h | ⟨o, its, n, hk, hc, hd, hs, hz, r⟩
  · obtain ⟨z, its, n, r, e⟩ := h.ok I.hok
    exact ⟨its, r, ⟨_, n, e, rfl, rfl, rfl⟩, z⟩
  · refine ⟨its.toList, r, ⟨o, n, I.kIn a o hk, hc, hd, by simpa using hs⟩, ?_⟩
    have e := r.length
    simp only [Array.length_toList] at e
    omega
theorem Inv.tuple (I : Inv X pins σ H s) (h : SqT X.K H a xs) : ∃ its : List Value, Vals xs its ∧ IsTup s.heap a its.toArray ∧ xs.length ≤ sizeLine := by
  rcases h with h | ⟨o, its, n, hk, hc, hs, hz, r⟩
  · obtain ⟨z, its, r, p⟩ := h.ok I.hok
    exact ⟨its, r, p, z⟩
  · refine ⟨its.toList, r, ⟨o, I.kIn a o hk, hc, n, by simpa using hs⟩, ?_⟩
    have e := r.length
    simp only [Array.length_toList] at e
    omega
theorem Inv.list_inj (I : Inv X pins σ H s) (h : SqL X.K H a xs) (h' : SqL X.K H a ys) : xs = ys := by
  obtain ⟨its, r, ⟨o, n, e, _, _, d⟩, _⟩ := I.list h
  obtain ⟨its', r', ⟨o', n', e', _, _, d'⟩, _⟩ := I.list h'
  rw [e] at e'; cases e'
  rw [d] at d'
  injection d' with d1 _
  have : its = its' := by simpa using congrArg Array.toList d1
  subst this
  exact r.inj r'
theorem Inv.tuple_inj (I : Inv X pins σ H s) (h : SqT X.K H a xs) (h' : SqT X.K H a ys) : xs = ys := by
  obtain ⟨its, r, ⟨o, e, _, n, d⟩, _⟩ := I.tuple h
  obtain ⟨its', r', ⟨o', e', _, n', d'⟩, _⟩ := I.tuple h'
  rw [e] at e'; cases e'
  rw [d] at d'
  injection d' with d1 _
  have : its = its' := by simpa using congrArg Array.toList d1
  subst this
  exact r.inj r'
end

abbrev Cx.wish (X : Cx) (E : Value → Shared → Prop) : Cx := { X with xe := E }
abbrev Cx.nox (X : Cx) : Cx := X.wish fun _ _ => False
theorem Cx.Ok.wish {X : Cx} (ok : X.Ok) (E : Value → Shared → Prop) : (X.wish E).Ok :=
  ⟨ok.mod, ok.kind, ok.glob, ok.blt, ok.above, ok.inj, ok.has, ok.cab, ok.hd, ok.frames, ok.stk, ok.exf, ok.bs, ok.bsz, ok.noex, ok.exfs, ok.funs, ok.frf⟩
theorem Cx.Ok.unwish {X : Cx} {E : Value → Shared → Prop} (ok : (X.wish E).Ok) : X.Ok :=
  ⟨ok.mod, ok.kind, ok.glob, ok.blt, ok.above, ok.inj, ok.has, ok.cab, ok.hd, ok.frames, ok.stk, ok.exf, ok.bs, ok.bsz, ok.noex, ok.exfs, ok.funs, ok.frf⟩
section
variable {X : Cx} {pins : List (Addr × Obj)} {σ : St} {H : Hp} {s : Shared} {E : Value → Shared → Prop}
theorem Inv.wish (I : Inv X pins σ H s) (E : Value → Shared → Prop) : Inv (X.wish E) pins σ H s := ⟨I.ok.wish E, I.os, I.bare, I.base, I.loc, I.cell, I.free, I.freeC, I.pin, I.hok, I.len⟩
theorem Inv.unwish (I : Inv (X.wish E) pins σ H s) : Inv X pins σ H s := ⟨I.ok.unwish, I.os, I.bare, I.base, I.loc, I.cell, I.free, I.freeC, I.pin, I.hok, I.len⟩
theorem SP.unwish {D : Ends} {f : Flow} {s' : Shared} (h : SP (X.wish E) pins D f s') : SP X pins D f s' := by
  cases f with
  | next => obtain ⟨σ', H', I, q⟩ := h; exact ⟨σ', H', I.unwish, q⟩
  | brk => obtain ⟨σ', H', I, q⟩ := h; exact ⟨σ', H', I.unwish, q⟩
  | cont => obtain ⟨σ', H', I, q⟩ := h; exact ⟨σ', H', I.unwish, q⟩
  | ret u => obtain ⟨v, σ', H', I, r, q⟩ := h; exact ⟨v, σ', H', I.unwish, r, q⟩
theorem PSs.nox {st : List Stmt} {t : TS} (h : PSs X.nox st t) : PSs X st t := fun pins s σ H D I hw =>
  wpAny_mono (h pins s σ H D (I.wish _) hw) (fun _ _ q => q.unwish) fun _ _ z => False.elim z
end

section
variable {X : Cx} {st : Stmt} {rest : List Stmt} {t u : TS} {e : Expr} {te : TE} {pos : Pos}
def tNext : TS := fun D σ H => D.nx σ H
def tSeq (t u : TS) : TS := fun D σ H => t { D with nx := u D } σ H
theorem pss_nil : PSs X [] tNext := fun _ _ σ H _ I h => wpAny_execs_nil ⟨σ, H, I, h⟩
theorem pss_cons (h1 : PS X st t) (h2 : PSs X rest u) : PSs X (st :: rest) (tSeq t u) := by
  intro pins s σ H D I h
  refine wpAny_execs_cons (thn (h1 pins s σ H { D with nx := u D } I h) fun f s1 q => ?_)
  cases f with
  | next =>
    obtain ⟨σ', H', I', q⟩ := q
    exact h2 pins s1 σ' H' D I' q
  | ret v => exact q
  | brk => exact q
  | cont => exact q
theorem pss_one (h1 : PS X st t) : PSs X [st] t := by
  intro pins s σ H D I h
  refine wpAny_execs_cons (thn (h1 pins s σ H D I h) fun f s1 q => ?_)
  cases f with
  | next => exact wpAny_execs_nil q
  | ret v => exact q
  | brk => exact q
  | cont => exact q
theorem Inv.quiet {pins : List (Addr × Obj)} {σ : St} {H : Hp} {s : Shared} (I : Inv X pins σ H s) : interactive X.env = false := by simp [interactive, I.ok.kind]
def tDrop (te : TE) : TS := fun D σ H => te σ H fun _ H1 => D.nx σ H1
theorem ps_expr (he : PE X e te) (hs : swapsWith e none pos.line X.env = pure false := by rfl) : PS X (.Expr e pos) (tDrop te) := by
  intro pins s σ H D I h
  exact wpAny_Expr_any (thn (he pins s σ H _ I h) fun v s1 ⟨x, H1, I1, r1, q1⟩ => ⟨σ, H1, I1, q1⟩) I.quiet hs
def tRet (te : TE) : TS := fun D σ H => te σ H D.rt
theorem ps_ret (he : PE X e te) : PS X (.Return (some e) pos) (tRet te) := by
  intro pins s σ H D I h
  exact wpAny_Return_some (thn (he pins s σ H _ I h) fun v s1 ⟨x, H1, I1, r1, q1⟩ => ⟨x, σ, H1, I1, r1, q1⟩)
def tIfS (c : TT) (t u : TS) : TS := fun D σ H => c σ H fun b H1 => if b = true then t D σ H1 else u D σ H1
theorem ps_if {c : Expr} {a b : List Stmt} {tc : TT} (hc : PT X c tc) (ha : PSs X a t) (hb : PSs X b u) : PS X (.If c a b pos) (tIfS tc t u) := by
  intro pins s σ H D I h
  refine wpAny_If (thn (hc pins s σ H _ I h) fun d s1 ⟨H1, I1, q1⟩ => ?_)
  cases d with
  | true => exact ha pins s1 σ H1 D I1 q1
  | false => exact hb pins s1 σ H1 D I1 q1
end

abbrev TG := V → St → Hp → (St → Hp → Prop) → Prop
abbrev TGs := List V → St → Hp → (St → Hp → Prop) → Prop
def PG (X : Cx) (target : Expr) (t : TG) : Prop :=
  ∀ (pins : List (Addr × Obj)) (s : Shared) (σ : St) (H : Hp) (v : V) (u : Value) (Q : St → Hp → Prop), Inv X pins σ H s → RelV v u → t v σ H Q →
    wpAny (model X.prog X.w) X.A (assign target X.env u) (fun _ s' => ∃ σ' H', Inv X pins σ' H' s' ∧ Q σ' H') X.xe s
def PGs (X : Cx) (ts : List Expr) (t : TGs) : Prop :=
  ∀ (pins : List (Addr × Obj)) (s : Shared) (σ : St) (H : Hp) (vs : List V) (us : List Value) (Q : St → Hp → Prop), Inv X pins σ H s → Vals vs us → t vs σ H Q →
    wpAny (model X.prog X.w) X.A (assignInOrder ((assignEach ts X.env).map (·.2)) us) (fun _ s' => ∃ σ' H', Inv X pins σ' H' s' ∧ Q σ' H') X.xe s
abbrev TSet := V → V → V → Hp → (Hp → Prop) → Prop
def PSet (X : Cx) (t : TSet) : Prop :=
  ∀ (pins : List (Addr × Obj)) (s : Shared) (σ : St) (H : Hp) (o i v : V) (ov iv u : Value) (Q : Hp → Prop), Inv X pins σ H s → RelV o ov → RelV i iv → RelV v u → t o i v H Q →
    wpAny (model X.prog X.w) X.A (setItem ov iv u) (fun _ s' => ∃ H', Inv X pins σ H' s' ∧ Q H') X.xe s
section
variable {X : Cx} {pos : Pos}
def gName (i : Nat) : TG := fun v σ H Q => Q (σ.set i (some v)) H
theorem pg_name {i : Nat} {x : Str} (hN : X.N.Nodup) (hi : X.N[i]? = some x) (hx : Loc X.env.scope x) (hf : X.fn x = true ∨ X.env.scope.names.lookup x = some .local := by first | exact .inl rfl | exact .inr rfl | assumption) : PG X (.Name x pos) (gName i) := by
  intro pins s σ H v u Q I r h
  exact wpAny_assign_Name (store_ok I hN hi hx r (fun s' I' => ⟨_, H, I', h⟩) hf)
def gNil : TGs := fun vs σ H Q => vs = [] ∧ Q σ H
def gCons (t : TG) (u : TGs) : TGs := fun vs σ H Q => ∃ v r, vs = v :: r ∧ t v σ H fun σ' H' => u r σ' H' Q
theorem pgs_nil : PGs X [] gNil := by
  intro pins s σ H vs us Q I r h
  obtain ⟨e, h⟩ := h
  subst e
  cases r
  exact assignInOrder_nil ⟨σ, H, I, h⟩
theorem pgs_cons {e : Expr} {es : List Expr} {t : TG} {u : TGs} (h1 : PG X e t) (h2 : PGs X es u)
    (hs : (assignEach (e :: es) X.env).map (·.2) = assign e X.env :: (assignEach es X.env).map (·.2) := by rfl) : PGs X (e :: es) (gCons t u) := by
  intro pins s σ H vs us Q I r h
  obtain ⟨v, vr, e1, h⟩ := h
  subst e1
  cases r with
  | cons r rr =>
    rw [hs]
    refine assignInOrder_cons (thn (h1 pins s σ H _ _ _ I r h) fun _ s1 ⟨σ1, H1, I1, q1⟩ => ?_)
    exact h2 pins s1 σ1 H1 _ _ Q I1 rr q1
def gTup (K : PySem.W.Frag) (n : Nat) (t : TGs) : TG := fun v σ H Q => ∃ a xs, v = .ref a ∧ SqT K H a xs ∧ xs.length = n ∧ t xs σ H Q
theorem pg_tup {es : List Expr} {k : Nat} {t : TGs} {n : Nat} (hc : X.calm = true) (h : PGs X es t)
    (hn : (assignEach es X.env).length = n := by rfl) (hst : (assignEach es X.env).findIdx? (·.1) = none := by rfl) : PG X (.Tuple es k pos) (gTup X.K n t) := by
  intro pins s σ H v u Q I r hw
  obtain ⟨a, xs, e1, hq, hl, hw⟩ := hw
  subst e1
  cases r
  obtain ⟨its, rv, ht, hz⟩ := I.tuple hq
  refine assign_Tuple_tuple (I.ok.hd hc) ht (by simp [hn, ← hl, rv.length]) hst fun h' hx => ?_
  have I1 : Inv X pins σ H { s with heap := h' } := I.kept (t' := s.toks) fun b o e => hx b o (Nat.ne_of_lt (Heap.lt_size e)) e
  exact h pins _ σ H xs _ Q I1 (by simpa using rv) hw
def gSub (to ti : TE) (t : TSet) : TG := fun v σ H Q => to σ H fun o H1 => ti σ H1 fun i H2 => t o i v H2 fun H3 => Q σ H3
theorem pg_sub {o i : Expr} {to ti : TE} {t : TSet} (ho : PE X o to) (hi : PE X i ti) (hs : PSet X t)
    (ha : ∀ v, assign (.Subscript o i pos) X.env v = (do
      let ov ← holding [v] (eval o X.env)
      let iv ← holding [v, ov] (eval i X.env)
      standAt pos
      holding [v, ov, iv] (setItem ov iv v)
      release [v, ov, iv] []) := by intro _; rfl) : PG X (.Subscript o i pos) (gSub to ti t) := by
  intro pins s σ H v u Q I r h
  rw [ha]
  refine wpAny_bind (wpAny_holding (thn (ho pins s σ H _ I h) fun ov s1 ⟨x, H1, I1, r1, q1⟩ => ?_))
  refine wpAny_bind (wpAny_holding (thn (hi pins s1 σ H1 _ I1 q1) fun iv s2 ⟨y, H2, I2, r2, q2⟩ => ?_))
  refine wpAny_bind (wpAny_standAt (wpAny_bind (wpAny_holding (thn (hs pins s2 σ H2 x y v ov iv u _ I2 r1 r2 r q2) fun _ s3 ⟨H3, I3, q3⟩ => ?_))))
  exact wpAny_release ⟨σ, H3, I3, q3⟩
def tAsg (te : TE) (g : TG) : TS := fun D σ H => te σ H fun x H1 => g x σ H1 D.nx
theorem ps_asg {tg e : Expr} {te : TE} {g : TG} (he : PE X e te) (hg : PG X tg g) (hs : swapsWithSole [tg] e pos.line X.env = pure false := by rfl) (hw : swappedStores [tg] e X.env = pure none := by rfl)
    (h1 : (assignEach [tg] X.env).map (·.2) = [assign tg X.env] := by rfl) : PS X (.Assign [tg] e pos) (tAsg te g) := by
  intro pins s σ H D I h
  refine wpAny_Assign_stores (thn (he pins s σ H _ I h) fun v s1 ⟨x, H1, I1, r1, q1⟩ => ?_) hs hw
  rw [h1]
  exact thn (hg pins s1 σ H1 x v _ I1 r1 q1) fun _ s2 q => q
theorem ps_set {i : Nat} {x : Str} {e : Expr} {te : TE} {pos' : Pos} (hN : X.N.Nodup) (hi : X.N[i]? = some x) (hx : Loc X.env.scope x) (he : PE X e te) (hs : swapsWith e (some (.Name x pos')) pos.line X.env = pure false := by rfl) (hf : X.fn x = true ∨ X.env.scope.names.lookup x = some .local := by first | exact .inl rfl | exact .inr rfl | assumption) :
    PS X (.Assign [.Name x pos'] e pos) (tAsg te (gName i)) := by
  intro pins s σ H D I h
  refine wpAny_Assign_Name (thn (he pins s σ H _ I h) fun v s1 ⟨y, H1, I1, r1, q1⟩ => ?_) hs
  exact store_ok I1 hN hi hx r1 (fun s2 I2 => ⟨_, H1, I2, q1⟩) hf
end

section
variable {X : Cx} {pos : Pos}
end

structure It where
  go : Nat → Hp → Prop
  yld : Nat → Hp → V → Hp → Prop
  stop : Nat → Hp → Prop
def FpOk (X : Cx) (pins : List (Addr × Obj)) (H : Hp) (b : Addr) : Prop :=
  H b = none ∧ b ≠ X.env.locals ∧ b ∉ X.fs ∧ (b ∈ X.ex ∨ X.s₀.heap.objs.size ≤ b) ∧ (∀ x c, X.env.cells.lookup x = some c → c ≠ b) ∧ ∀ p ∈ X.pn ++ pins, p.1 ≠ b
theorem Inv.fpOk {X : Cx} {pins : List (Addr × Obj)} {σ : St} {H H' : Hp} {s : Shared} {b : Addr} (I : Inv X pins σ H s) (hb : s.heap.objs.size ≤ b) (hn : H' b = none) : FpOk X pins H' b := by
  refine ⟨hn, Nat.ne_of_gt (Nat.lt_of_lt_of_le I.lt hb), I.nofs hb, .inr (Nat.le_trans I.sz hb), fun x c e z => ?_, fun p hp z => ?_⟩
  · obtain ⟨v, q⟩ := I.cell x c e
    exact absurd (Nat.lt_of_lt_of_le q.lt (by rw [z]; exact hb)) (Nat.lt_irrefl _)
  · exact absurd (Nat.lt_of_lt_of_le (Heap.lt_size (I.pin p hp).1) (by rw [z]; exact hb)) (Nat.lt_irrefl _)
structure Turn (P : Program) (w : World) (K : PySem.W.Frag) (tg : Expr) (J : It) (fp : List Addr) (it : Addr) (tn : Nat → Heap → Prop) : Prop where
  mem : it ∈ fp
  obj : ∀ i h, tn i h → ∀ b ∈ fp, ∃ o, h.get? b = some o ∧ ∀ v, o.data ≠ .cell v
  keep : ∀ i h h', tn i h → (∀ b ∈ fp, ∀ o, h.get? b = some o → h'.get? b = some o) → tn i h'
  item : ∀ (X : Cx), X.prog = P → X.w = w → X.K = K → X.calm = true → ∀ (i : Nat) (pins : List (Addr × Obj)) (s : Shared) (σ : St) (H : Hp) (E : Value → Shared → Prop), Inv X pins σ H s → (∀ b ∈ fp, FpOk X pins H b) → tn i s.heap → J.go i H →
    wpAny (model P w) X.A (pyNext (.ref it)) (fun r s1 => ∃ u, r = some u ∧
      wpAny (model P w) X.A (letOwnedTupleGo tg (.ref it) u) (fun _ s2 => ∃ x H', Inv X pins σ H' s2 ∧ RelV x u ∧ J.yld i H x H' ∧ tn (i + 1) s2.heap ∧ ∀ b ∈ fp, H' b = none) E s1) E s
  done : ∀ (X : Cx), X.prog = P → X.w = w → X.K = K → X.calm = true → ∀ (i : Nat) (pins : List (Addr × Obj)) (s : Shared) (σ : St) (H : Hp) (E : Value → Shared → Prop), Inv X pins σ H s → (∀ b ∈ fp, FpOk X pins H b) → tn i s.heap → J.stop i H →
    wpAny (model P w) X.A (pyNext (.ref it)) (fun r s1 => r = none ∧ Inv X pins σ H s1) E s
  self : ∀ (A : Around) (i : Nat) (s : Shared) (Q : Value → Shared → Prop) (E : Value → Shared → Prop), tn i s.heap → Q (.ref it) s → wpAny (model P w) A (pyIter (.ref it)) Q E s
abbrev TI := St → Hp → (It → Hp → Prop) → Prop
def PIE (X : Cx) (pins : List (Addr × Obj)) (σ : St) (tg : Expr) (R : It → Hp → Prop) (itv : Value) (s2 : Shared) : Prop :=
  ∃ (it : Addr) (fp : List Addr) (tn : Nat → Heap → Prop) (J : It) (H' : Hp), itv = .ref it ∧ Inv X pins σ H' s2 ∧ Turn X.prog X.w X.K tg J fp it tn ∧ tn 0 s2.heap ∧ (∀ b ∈ fp, FpOk X pins H' b) ∧ R J H'
def PI (X : Cx) (tg iter : Expr) (wi : TI) : Prop :=
  ∀ (pins : List (Addr × Obj)) (s : Shared) (σ : St) (H : Hp) (R : It → Hp → Prop), Inv X pins σ H s → wi σ H R →
    wpAny (model X.prog X.w) X.A (eval iter X.env) (fun v s1 => wpAny (model X.prog X.w) X.A (pyIter v) (PIE X pins σ tg R) X.xe s1) X.xe s

theorem go_of {M : Model} {A : Around} {E : Value → Shared → Prop} {s : Shared} {tg : Expr} {it : Addr} {u : Value} {o : Obj} {n : String} {vs : Array Value} {Q : Unit → Shared → Prop} (ho : s.heap.get? it = some o) (hc : o.cls = .type n) (hd : o.data = .fields vs)
    (hn : ["enumerate", "zip", "dict_itemiterator", "dict_reverseitemiterator", "odict_iterator", "itertools.zip_longest", "itertools.pairwise"].contains n = false) (hQ : Q () s) : wpAny M A (letOwnedTupleGo tg (.ref it) u) Q E s := by
  unfold letOwnedTupleGo
  cases tg <;> first
    | exact wpAny_pure hQ
    | (cases u <;> first
        | exact wpAny_pure hQ
        | (refine wpAny_bind (wpAny_load ho ?_)
           rw [hc, hd]
           show wpAny M A (if (["enumerate", "zip", "dict_itemiterator", "dict_reverseitemiterator", "odict_iterator", "itertools.zip_longest", "itertools.pairwise"].contains n && vs[0]? == some (rawInt _)) = true then _ else _) Q E s
           rw [if_neg (by intro h; rw [hn, Bool.false_and] at h; cases h)]
           exact wpAny_pure hQ))

def Itl (K : PySem.W.Frag) (a : Addr) : It :=
  ⟨fun i H => ∃ xs x, SqL K H a xs ∧ xs[i]? = some x, fun i H x H' => H' = H ∧ ∀ xs, SqL K H a xs → xs[i]? = some x, fun i H => ∃ xs, SqL K H a xs ∧ xs.length ≤ i⟩
def Itt (K : PySem.W.Frag) (a : Addr) : It :=
  ⟨fun i H => ∃ xs x, SqT K H a xs ∧ xs[i]? = some x, fun i H x H' => H' = H ∧ ∀ xs, SqT K H a xs → xs[i]? = some x, fun i H => ∃ xs, SqT K H a xs ∧ xs.length ≤ i⟩
def Itr (lo : Int) (n : Nat) : It := ⟨fun i _ => i < n, fun i H x H' => H' = H ∧ x = .int (lo + i), fun i _ => n ≤ i⟩
theorem turn_list {P : Program} {w : World} {K : PySem.W.Frag} {tg : Expr} (a it : Addr) : Turn P w K tg (Itl K a) [it] it (fun i h => h.IsListIter it a i) where
  mem := by simp
  obj := fun i h st b hb => by
    have e : b = it := by simpa using hb
    subst e
    obtain ⟨o, e, c, d⟩ := st
    exact ⟨o, e, fun v z => by rw [d] at z; cases z⟩
  keep := fun i h h' st k => st.at fun o e => k it (by simp) o e
  item := by
    intro X hP hw hK hc i pins s σ H E I hf st hg
    subst hP hw hK
    obtain ⟨xs, x, hq, hx⟩ := hg
    obtain ⟨its, rv, p, hz⟩ := I.list hq
    obtain ⟨u, hu, ru⟩ := rv.get hx
    obtain ⟨f0, f1, f2, f3, f4, f5⟩ := hf it (by simp)
    refine wpAny_pyNext_list_item st p.isList (x := u) (by simpa using hu) fun h' st' sb => ?_
    have I1 : Inv X pins σ H { s with heap := h' } := I.turned (t' := s.toks) (fun b o hb e => (sb.2 b hb).trans e) f0 f1 f3 f4 f5
    obtain ⟨o, e, c, d⟩ := id st'
    exact ⟨u, rfl, go_of (s := { s with heap := h' }) e c d (by decide) ⟨x, H, I1, ru, ⟨rfl, fun ys hy => by rw [I.list_inj hy hq]; exact hx⟩, st', fun b hb => (hf b hb).1⟩⟩
  done := by
    intro X hP hw hK hc i pins s σ H E I hf st hg
    subst hP hw hK
    obtain ⟨xs, hq, hx⟩ := hg
    obtain ⟨its, rv, p, hz⟩ := I.list hq
    obtain ⟨f0, f1, f2, f3, f4, f5⟩ := hf it (by simp)
    have hl := rv.length
    exact wpAny_pyNext_list_end (I.ok.hd hc) st p.isList (by simp; omega) fun h' eb => ⟨rfl, I.turned (t' := s.toks) (fun b o hb e => eb b o hb e) f0 f1 f3 f4 f5⟩
  self := fun _ _ _ _ _ st h => wpAny_pyIter_listiter st h
theorem turn_tuple {P : Program} {w : World} {K : PySem.W.Frag} {tg : Expr} (a it : Addr) : Turn P w K tg (Itt K a) [it] it (fun i h => h.IsTupleIter it a i) where
  mem := by simp
  obj := fun i h st b hb => by
    have e : b = it := by simpa using hb
    subst e
    obtain ⟨o, e, c, d⟩ := st
    exact ⟨o, e, fun v z => by rw [d] at z; cases z⟩
  keep := fun i h h' st k => st.at fun o e => k it (by simp) o e
  item := by
    intro X hP hw hK hc i pins s σ H E I hf st hg
    subst hP hw hK
    obtain ⟨xs, x, hq, hx⟩ := hg
    obtain ⟨its, rv, p, hz⟩ := I.tuple hq
    obtain ⟨u, hu, ru⟩ := rv.get hx
    obtain ⟨f0, f1, f2, f3, f4, f5⟩ := hf it (by simp)
    refine wpAny_pyNext_tuple_item st (show s.heap.IsTuple a its.toArray from p) (x := u) (by simpa using hu) fun h' st' sb => ?_
    have I1 : Inv X pins σ H { s with heap := h' } := I.turned (t' := s.toks) (fun b o hb e => (sb.2 b hb).trans e) f0 f1 f3 f4 f5
    obtain ⟨o, e, c, d⟩ := id st'
    exact ⟨u, rfl, go_of (s := { s with heap := h' }) e c d (by decide) ⟨x, H, I1, ru, ⟨rfl, fun ys hy => by rw [I.tuple_inj hy hq]; exact hx⟩, st', fun b hb => (hf b hb).1⟩⟩
  done := by
    intro X hP hw hK hc i pins s σ H E I hf st hg
    subst hP hw hK
    obtain ⟨xs, hq, hx⟩ := hg
    obtain ⟨its, rv, p, hz⟩ := I.tuple hq
    obtain ⟨f0, f1, f2, f3, f4, f5⟩ := hf it (by simp)
    have hl := rv.length
    exact wpAny_pyNext_tuple_end (I.ok.hd hc) st (show s.heap.IsTuple a its.toArray from p) (by simp; omega) fun h' eb => ⟨rfl, I.turned (t' := s.toks) (fun b o hb e => eb b o hb e) f0 f1 f3 f4 f5⟩
  self := fun _ _ _ _ _ st h => wpAny_pyIter_tupleiter st h
theorem turn_range {P : Program} {w : World} {K : PySem.W.Frag} {tg : Expr} (it : Addr) (lo : Int) (n : Nat) : Turn P w K tg (Itr lo n) [it] it (fun i h => IsRangeIter h it (lo + (i : Nat) * 1) ((n : Int) - (i : Nat)) 1) where
  mem := by simp
  obj := fun i h st b hb => by
    have e : b = it := by simpa using hb
    subst e
    exact ⟨_, st, fun v z => by
      have z' : Data.fields _ = Data.cell v := z
      cases z'⟩
  keep := fun i h h' st k => k it (by simp) _ st
  item := by
    intro X hP hw hK hc i pins s σ H E I hf st hg
    subst hP hw hK
    obtain ⟨f0, f1, f2, f3, f4, f5⟩ := hf it (by simp)
    have W := Walks.range (prog := X.prog) (w := X.w) (I.ok.hd hc) it lo 1 n
    refine W.item i s _ _ hg st fun v h' tk hv st' kk => ?_
    obtain ⟨t, rfl⟩ := hv
    have I1 : Inv X pins σ H { s with heap := h', toks := tk } := I.turned (fun b o hb e => kk b o (by simpa using hb) e) f0 f1 f3 f4 f5
    refine ⟨_, rfl, go_of (s := { s with heap := h', toks := tk }) (n := "range_iterator") st' rfl rfl (by decide) ⟨.int (lo + i), H, I1, ⟨t, ?_⟩, ⟨rfl, rfl⟩, st', fun b hb => (hf b hb).1⟩⟩
    rw [Int.mul_one]
  done := by
    intro X hP hw hK hc i pins s σ H E I hf st hg
    subst hP hw hK
    obtain ⟨f0, f1, f2, f3, f4, f5⟩ := hf it (by simp)
    exact wpAny_pyNext_range_end (I.ok.hd hc) st (by have : n ≤ i := hg; omega) fun h' eb => ⟨rfl, I.turned (t' := s.toks) (fun b o hb e => eb b o hb e) f0 f1 f3 f4 f5⟩
  self := fun _ _ _ _ _ st h => wpAny_pyIter_rangeiter st h
end L2

namespace L2
open PySem PySem.Spec PyProof.Rows
section
variable {X : Cx} {tg : Expr}
def iList (K : PySem.W.Frag) (tl : TE) : TI := fun σ H R => tl σ H fun x H1 => ∃ a, x = .ref a ∧ (∃ xs, SqL K H1 a xs) ∧ R (Itl K a) H1
def iTup (K : PySem.W.Frag) (tl : TE) : TI := fun σ H R => tl σ H fun x H1 => ∃ a, x = .ref a ∧ (∃ xs, SqT K H1 a xs) ∧ R (Itt K a) H1
theorem pi_list {l : Expr} {tl : TE} (hl : PE X l tl) : PI X tg l (iList X.K tl) := by
  intro pins s σ H R I h
  refine thn (hl pins s σ H _ I h) fun v s1 ⟨x, H1, I1, r1, q1⟩ => ?_
  obtain ⟨a, e, ⟨xs, hq⟩, q⟩ := q1
  subst e
  cases r1
  obtain ⟨its, rv, p, hz⟩ := I1.list hq
  refine wpAny_pyIter_list p.isList ?_
  refine ⟨s1.heap.objs.size, [s1.heap.objs.size], _, _, H1, rfl, I1.kept (t' := s1.toks) fun b o e => Heap.get?_push_of_some _ e, turn_list a _, ⟨_, Heap.get?_push_size _ rfl, rfl, rfl⟩, fun b hb => ?_, q⟩
  have e : b = s1.heap.objs.size := by simpa using hb
  subst e
  exact I1.fpOk (Nat.le_refl _) (I1.hok.fresh (Nat.le_refl _))
theorem pi_tup {l : Expr} {tl : TE} (hl : PE X l tl) : PI X tg l (iTup X.K tl) := by
  intro pins s σ H R I h
  refine thn (hl pins s σ H _ I h) fun v s1 ⟨x, H1, I1, r1, q1⟩ => ?_
  obtain ⟨a, e, ⟨xs, hq⟩, q⟩ := q1
  subst e
  cases r1
  obtain ⟨its, rv, p, hz⟩ := I1.tuple hq
  refine wpAny_pyIter_tuple (show s1.heap.IsTuple a its.toArray from p) ?_
  refine ⟨s1.heap.objs.size, [s1.heap.objs.size], _, _, H1, rfl, I1.kept (t' := s1.toks) fun b o e => Heap.get?_push_of_some _ e, turn_tuple a _, ⟨_, Heap.get?_push_size _ rfl, rfl, rfl⟩, fun b hb => ?_, q⟩
  have e : b = s1.heap.objs.size := by simpa using hb
  subst e
  exact I1.fpOk (Nat.le_refl _) (I1.hok.fresh (Nat.le_refl _))
theorem range_it {pins : List (Addr × Obj)} {σ : St} {H : Hp} {s : Shared} {R : It → Hp → Prop} {E : Value → Shared → Prop} {lo hi : Int} {t u v : Tok} {tk : Nat} (I : Inv X pins σ H s) (h1 : -(2 ^ 62) ≤ lo) (h2 : lo < 2 ^ 62) (h3 : -(2 ^ 62) ≤ hi) (h4 : hi < 2 ^ 62)
    (q : R (Itr lo (hi - lo).toNat) H) : wpAny (model X.prog X.w) X.A (pyIter (.ref s.heap.objs.size)) (PIE X pins σ tg R) E { s with heap := s.heap.push { cls := .type "range", data := .fields #[.int lo t, .int hi u, .int 1 v] }, toks := tk } := by
  refine wpAny_pyIter_range (IsRange.new ..) (small_one h1 h2 h3 h4) ?_
  have I1 : Inv X pins σ H { s with heap := s.heap.push { cls := .type "range", data := .fields #[.int lo t, .int hi u, .int 1 v] }, toks := tk } := I.kept fun b o e => Heap.get?_push_of_some _ e
  refine ⟨(s.heap.push { cls := .type "range", data := .fields #[.int lo t, .int hi u, .int 1 v] }).objs.size, [(s.heap.push { cls := .type "range", data := .fields #[.int lo t, .int hi u, .int 1 v] }).objs.size], _, _, H, rfl,
    I1.kept (t' := tk) fun b o e => Heap.get?_push_of_some _ e, turn_range _ lo (hi - lo).toNat, ?_, fun b hb => ?_, q⟩
  · have e1 : lo + ((0 : Nat) : Int) * 1 = lo := by simp
    have e2 : (((hi - lo).toNat : Nat) : Int) - ((0 : Nat) : Int) = Builtin.Range.rangeSize lo hi 1 := by rw [rangeSize_one]; split <;> omega
    show IsRangeIter _ _ (lo + ((0 : Nat) : Int) * 1) ((((hi - lo).toNat : Nat) : Int) - ((0 : Nat) : Int)) 1
    rw [e1, e2]
    exact Heap.get?_push_size _ rfl
  · have e : b = (s.heap.push { cls := .type "range", data := .fields #[.int lo t, .int hi u, .int 1 v] }).objs.size := by simpa using hb
    subst e
    exact I1.fpOk (Nat.le_refl _) (I1.hok.fresh (Nat.le_refl _))
def iRng1 (ta : TA) : TI := fun σ H R => ta σ H fun vs H1 => ∃ j : Int, vs = [.int j] ∧ -(2 ^ 62) ≤ j ∧ j < 2 ^ 62 ∧ R (Itr 0 j.toNat) H1
theorem pi_range1 {a : Expr} {ta : TA} {p pos : Pos} (hg : Gl X "range") (hm : X.mg "range" = none) (ha : PA X [a] ta) (hs : starEach [a] X.env = [(false, eval a X.env)] := by rfl) : PI X tg (.Call (.Name "range" p) [a] [] pos) (iRng1 ta) := by
  intro pins s σ H R I h
  refine Call_ (ld_blt I hg hm boot_range (PyProof.Rows.callWith_type1 (thn (ha pos pins s σ H _ I h) fun us s1 ⟨vs, H1, I1, r1, q1⟩ => ?_) hs rfl))
  obtain ⟨j, e, q1, q2, q⟩ := q1
  subst e
  cases r1 with
  | cons r rr =>
    cases rr
    obtain ⟨t, rfl⟩ := r
    exact call_range_1 (range_it I1 (by omega) (by omega) q1 q2 (by simpa using q))
def tFor (wi : TI) (g : TG) (tb : TS) : TS := fun D σ H => wi σ H fun J H1 => ∃ W : Nat → Nat → St → Hp → Prop, (∃ m, W 0 m σ H1) ∧ ∀ i m σ H, W i m σ H →
  (J.stop i H ∧ D.nx σ H) ∨ (J.go i H ∧ ∃ N : St → Hp → Prop, (∀ σ' H', N σ' H' → ∃ m', m' < m ∧ W (i + 1) m' σ' H') ∧ ∀ x H', J.yld i H x H' → g x σ H' fun σ2 H2 => tb { D with nx := N, ct := N, bk := D.nx } σ2 H2)
def pinsAt (fp : List Addr) (h : Heap) : List (Addr × Obj) := fp.filterMap fun b => (h.get? b).map fun o => (b, o)
theorem mem_pinsAt {fp : List Addr} {h : Heap} {b : Addr} {o : Obj} (hb : b ∈ fp) (e : h.get? b = some o) : (b, o) ∈ pinsAt fp h := List.mem_filterMap.mpr ⟨b, hb, by rw [e]; rfl⟩
theorem of_pinsAt {fp : List Addr} {h : Heap} {p : Addr × Obj} (hp : p ∈ pinsAt fp h) : p.1 ∈ fp ∧ h.get? p.1 = some p.2 := by
  obtain ⟨b, hb, e⟩ := List.mem_filterMap.mp hp
  cases q : h.get? b with
  | none => rw [q] at e; cases e
  | some o =>
    rw [q] at e
    have e' : (b, o) = p := Option.some.inj e
    subst e'
    exact ⟨hb, q⟩
theorem Inv.pinned {pins : List (Addr × Obj)} {σ : St} {H : Hp} {s : Shared} {fp : List Addr} (I : Inv X pins σ H s) (hf : ∀ b ∈ fp, FpOk X pins H b) (ho : ∀ b ∈ fp, ∃ o, s.heap.get? b = some o ∧ ∀ v, o.data ≠ .cell v) : Inv X (pins ++ pinsAt fp s.heap) σ H s :=
  I.pins_of fun p hp => (List.mem_append.mp hp).elim (fun z => I.pin p (List.mem_append_right _ z)) fun z => by
    obtain ⟨hb, e⟩ := of_pinsAt z
    obtain ⟨f0, f1, f2, _⟩ := hf p.1 hb
    obtain ⟨o, e', d⟩ := ho p.1 hb
    rw [e] at e'; cases e'
    exact ⟨e, f0, f1, f2, d⟩
theorem Inv.unpinned {pins pl : List (Addr × Obj)} {σ : St} {H : Hp} {s : Shared} (I : Inv X (pins ++ pl) σ H s) : Inv X pins σ H s := I.pins_of fun p hp => I.pin p (List.mem_append_right _ (List.mem_append_left _ hp))
theorem ps_for {iter : Expr} {body : List Stmt} {wi : TI} {g : TG} {tb : TS} {pos : Pos} (hp : PassesOwn (model X.prog X.w) X.A X.env X.xe) (hc : X.calm = true) (hi : PI X tg iter wi) (hg : PG X tg g) (hb : PSs X body tb)
    (hs : ∀ x, foldedSetIterable iter X.env x = pure x := by intro _; rfl) : PS X (.For tg iter body [] pos) (tFor wi g tb) := by
  intro pins s σ H D I h
  refine wpAny_For (thn (hi pins s σ H _ I h) fun v s1 h1 => thn h1 fun itv s2 h2 => ?_) hs
  obtain ⟨it, fp, tn, J, H2, e, I2, T, st2, f2, W, ⟨m0, w0⟩, turn⟩ := h2
  subst e
  -- what stays true of the iterator's objects through the loop
  have stat : ∀ {H' : Hp}, (∀ b ∈ fp, H' b = none) → ∀ b ∈ fp, FpOk X pins H' b := fun hn b hb => ⟨hn b hb, (f2 b hb).2⟩
  refine codeAny_forLoop_any (fun n s' => ∃ i σ' H', Inv X pins σ' H' s' ∧ tn i s'.heap ∧ (∀ b ∈ fp, H' b = none) ∧ W i n σ' H') ?_ m0 ⟨0, σ, H2, I2, st2, fun b hb => (f2 b hb).1, w0⟩
  rintro n s3 ⟨i, σ3, H3, I3, st3, fr3, w3⟩
  rcases turn i n σ3 H3 w3 with ⟨stop, qn⟩ | ⟨go, N, hN, step⟩
  · refine wpAny_passesOwn hp (thn (T.done X rfl rfl rfl hc i pins s3 σ3 H3 X.xe I3 (stat fr3) st3 stop) fun r s4 ⟨hr, I4⟩ => ?_)
    subst hr
    exact wpAny_execs_nil ⟨σ3, H3, I4, qn⟩
  · refine wpAny_passesOwn hp (thn (T.item X rfl rfl rfl hc i pins s3 σ3 H3 X.xe I3 (stat fr3) st3 go) fun r s4 ⟨u, hr, h4⟩ => ?_)
    subst hr
    refine wpAny_passesOwn hp (thn h4 fun _ s5 ⟨x, H5, I5, r5, y5, st5, fr5⟩ => ?_)
    have I5' := I5.pinned (stat fr5) (T.obj _ _ st5)
    refine wpAny_passesOwn hp (thn (hg _ s5 σ3 H5 x u _ I5' r5 (step x H5 y5)) fun _ s6 ⟨σ6, H6, I6, q6⟩ => ?_)
    refine wpAny_passesOwn hp (thn (hb _ s6 σ6 H6 _ I6 q6) fun f s7 q7 => ?_)
    have again : ∀ {σ7 : St} {H7 : Hp}, Inv X (pins ++ pinsAt fp s5.heap) σ7 H7 s7 → N σ7 H7 → ∃ m, m < n ∧ ∃ i σ' H', Inv X pins σ' H' s7 ∧ tn i s7.heap ∧ (∀ b ∈ fp, H' b = none) ∧ W i m σ' H' := fun {σ7 H7} I7 n7 => by
      obtain ⟨m', hm, w7⟩ := hN σ7 H7 n7
      refine ⟨m', hm, i + 1, σ7, H7, I7.unpinned, T.keep _ _ _ st5 fun b hb o e => (I7.pin (b, o) (List.mem_append_right _ (List.mem_append_right _ (mem_pinsAt hb e)))).1, fun b hb => ?_, w7⟩
      obtain ⟨o, e, d⟩ := T.obj _ _ st5 b hb
      exact (I7.pin (b, o) (List.mem_append_right _ (List.mem_append_right _ (mem_pinsAt hb e)))).2.1
    cases f with
    | next => obtain ⟨σ7, H7, I7, n7⟩ := q7; exact again I7 n7
    | cont => obtain ⟨σ7, H7, I7, n7⟩ := q7; exact again I7 n7
    | brk => obtain ⟨σ7, H7, I7, q7⟩ := q7; exact ⟨σ7, H7, I7.unpinned, q7⟩
    | ret v => obtain ⟨x7, σ7, H7, I7, r7, q7⟩ := q7; exact ⟨x7, σ7, H7, I7.unpinned, r7, q7⟩
end

theorem for_list {K : PySem.W.Frag} {a : Addr} {xs : List V} {g : TG} {tb : TS} {D : Ends} {σ : St} {H : Hp} (Pv : Nat → St → Hp → Prop) (h0 : Pv 0 σ H) (hl : ∀ i σ H, i ≤ xs.length → Pv i σ H → SqL K H a xs)
    (hs : ∀ i x σ H, xs[i]? = some x → Pv i σ H → g x σ H fun σ2 H2 => tb { D with nx := Pv (i + 1), ct := Pv (i + 1), bk := D.nx } σ2 H2) (hd : ∀ σ H, Pv xs.length σ H → D.nx σ H) :
    ∃ W : Nat → Nat → St → Hp → Prop, (∃ m, W 0 m σ H) ∧ ∀ i m σ H, W i m σ H →
      ((Itl K a).stop i H ∧ D.nx σ H) ∨ ((Itl K a).go i H ∧ ∃ N : St → Hp → Prop, (∀ σ' H', N σ' H' → ∃ m', m' < m ∧ W (i + 1) m' σ' H') ∧ ∀ x H', (Itl K a).yld i H x H' → g x σ H' fun σ2 H2 => tb { D with nx := N, ct := N, bk := D.nx } σ2 H2) := by
  refine ⟨fun i m σ H => m = xs.length - i ∧ i ≤ xs.length ∧ Pv i σ H, ⟨xs.length, by simp, Nat.zero_le _, h0⟩, ?_⟩
  rintro i m σ H ⟨rfl, hi, p⟩
  have q := hl i σ H hi p
  by_cases hlt : i < xs.length
  · refine .inr ⟨⟨xs, xs[i], q, by simp [hlt]⟩, Pv (i + 1), fun σ' H' p' => ⟨xs.length - (i + 1), by omega, rfl, hlt, p'⟩, fun x H' y => ?_⟩
    obtain ⟨e, y⟩ := y
    subst e
    exact hs i x σ _ (y xs q) p
  · have e : i = xs.length := by omega
    subst e
    exact .inl ⟨⟨xs, q, Nat.le_refl _⟩, hd σ H p⟩
theorem for_range {lo : Int} {n : Nat} {g : TG} {tb : TS} {D : Ends} {σ : St} {H : Hp} (Pv : Nat → St → Hp → Prop) (h0 : Pv 0 σ H)
    (hs : ∀ i σ H, i < n → Pv i σ H → g (.int (lo + i)) σ H fun σ2 H2 => tb { D with nx := Pv (i + 1), ct := Pv (i + 1), bk := D.nx } σ2 H2) (hd : ∀ σ H, Pv n σ H → D.nx σ H) :
    ∃ W : Nat → Nat → St → Hp → Prop, (∃ m, W 0 m σ H) ∧ ∀ i m σ H, W i m σ H →
      ((Itr lo n).stop i H ∧ D.nx σ H) ∨ ((Itr lo n).go i H ∧ ∃ N : St → Hp → Prop, (∀ σ' H', N σ' H' → ∃ m', m' < m ∧ W (i + 1) m' σ' H') ∧ ∀ x H', (Itr lo n).yld i H x H' → g x σ H' fun σ2 H2 => tb { D with nx := N, ct := N, bk := D.nx } σ2 H2) := by
  refine ⟨fun i m σ H => m = n - i ∧ i ≤ n ∧ Pv i σ H, ⟨n, by simp, Nat.zero_le _, h0⟩, ?_⟩
  rintro i m σ H ⟨rfl, hi, p⟩
  by_cases hlt : i < n
  · refine .inr ⟨hlt, Pv (i + 1), fun σ' H' p' => ⟨n - (i + 1), by omega, rfl, hlt, p'⟩, fun x H' y => ?_⟩
    obtain ⟨e, y⟩ := y
    subst e y
    exact hs i σ _ hlt p
  · have e : i = n := by omega
    subst e
    exact .inl ⟨Nat.le_refl _, hd σ H p⟩
end L2

namespace L2
open PySem PySem.Spec PyProof.Rows

abbrev R2 := V → V → Hp → VK → Prop
def OpR (X : Cx) (f : Value → Value → Sem Value) (r : R2) : Prop :=
  ∀ (pins : List (Addr × Obj)) (s : Shared) (σ : St) (H : Hp) (x y : V) (v u : Value) (Q : VK), Inv X pins σ H s → RelV x v → RelV y u → r x y H Q →
    wpAny (model X.prog X.w) X.A (f v u) (EP X pins σ Q) X.xe s
def UnR (X : Cx) (f : Value → Sem Value) (r : V → Hp → VK → Prop) : Prop :=
  ∀ (pins : List (Addr × Obj)) (s : Shared) (σ : St) (H : Hp) (x : V) (v : Value) (Q : VK), Inv X pins σ H s → RelV x v → r x H Q →
    wpAny (model X.prog X.w) X.A (f v) (EP X pins σ Q) X.xe s
def CallR (X : Cx) (f : Value) (r : List V → Hp → VK → Prop) : Prop :=
  ∀ (pins : List (Addr × Obj)) (s : Shared) (σ : St) (H : Hp) (xs : List V) (us : List Value) (Q : VK), Inv X pins σ H s → Vals xs us → r xs H Q →
    wpAny (model X.prog X.w) X.A (call f us) (EP X pins σ Q) X.xe s
def tOp (r : R2) (ta tb : TE) : TE := fun σ H Q => ta σ H fun x H1 => tb σ H1 fun y H2 => r x y H2 Q
def tUn (r : V → Hp → VK → Prop) (ta : TE) : TE := fun σ H Q => ta σ H fun x H1 => r x H1 Q
def rI (C : Int → Int → Prop) (g : Int → Int → V) : R2 := fun x y H Q => ∃ i j, x = .int i ∧ y = .int j ∧ C i j ∧ Q (g i j) H
def rI0 (g : Int → Int → V) : R2 := fun x y H Q => ∃ i j, x = .int i ∧ y = .int j ∧ Q (g i j) H
def rU (g : Int → V) : V → Hp → VK → Prop := fun x H Q => ∃ i, x = .int i ∧ Q (g i) H

section
variable {X : Cx} {a b c : Expr} {ta tb tc : TE} {pos : Pos}

theorem binT (ha : PE X a ta) (hb : PE X b tb) {pins : List (Addr × Obj)} {s : Shared} {σ : St} {H : Hp} {R : V → V → Hp → Prop} (I : Inv X pins σ H s)
    (h : ta σ H fun x H1 => tb σ H1 fun y H2 => R x y H2) {Q : Value → Shared → Prop} {f : Value → Value → Sem Value}
    (hf : ∀ v u s2 x y H2, Inv X pins σ H2 s2 → RelV x v → RelV y u → R x y H2 → wpAny (model X.prog X.w) X.A (f v u) Q X.xe s2) :
    wpAny (model X.prog X.w) X.A (eval a X.env) (fun v s₁ => wpAny (model X.prog X.w) X.A (eval b X.env) (fun u s₂ => wpAny (model X.prog X.w) X.A (f v u) Q X.xe s₂) X.xe s₁) X.xe s := by
  refine thn (ha pins s σ H _ I h) fun v s1 ⟨x, H1, I1, r1, q1⟩ => ?_
  refine thn (hb pins s1 σ H1 _ I1 q1) fun u s2 ⟨y, H2, I2, r2, q2⟩ => ?_
  exact hf v u s2 x y H2 I2 r1 r2 q2

theorem pe_op {op : Operator} {r : R2} (ho : OpR X (binaryOp op) r) (ha : PE X a ta) (hb : PE X b tb) : PE X (.BinOp a op b pos) (tOp r ta tb) := by
  intro pins s σ H Q I h
  exact wpAny_BinOp (binT ha hb I h fun v u s2 x y H2 I2 rx ry q => ho pins s2 σ H2 x y v u Q I2 rx ry q)
theorem pe_un {op : UnaryOp} {r : V → Hp → VK → Prop} (ho : UnR X (unaryOp op) r) (ha : PE X a ta) : PE X (.UnaryOp op a pos) (tUn r ta) := by
  intro pins s σ H Q I h
  exact UnaryOp_ (thn (ha pins s σ H _ I h) fun v s1 ⟨x, H1, I1, r1, q1⟩ => ho pins s1 σ H1 x v Q I1 r1 q1)
theorem opI {f : Value → Value → Sem Value} {C : Int → Int → Prop} {g : Int → Int → Int}
    (rule : ∀ (i j : Int) (t u : Tok) (s : Shared) (Q : Value → Shared → Prop) (E : Value → Shared → Prop), C i j → Q (.int (g i j) s.toks) { s with toks := s.toks + 1 } → wpAny (model X.prog X.w) X.A (f (.int i t) (.int j u)) Q E s) :
    OpR X f (rI C fun i j => .int (g i j)) := by
  intro pins s σ H x y v u Q I rx ry h
  obtain ⟨i, j, rfl, rfl, hc, q⟩ := h
  obtain ⟨t, rfl⟩ := rx
  obtain ⟨t', rfl⟩ := ry
  exact rule i j t t' s _ _ hc ⟨.int (g i j), H, I.tok _, ⟨_, rfl⟩, q⟩
theorem opI0 {f : Value → Value → Sem Value} {g : Int → Int → Int}
    (rule : ∀ (i j : Int) (t u : Tok) (s : Shared) (Q : Value → Shared → Prop) (E : Value → Shared → Prop), Q (.int (g i j) s.toks) { s with toks := s.toks + 1 } → wpAny (model X.prog X.w) X.A (f (.int i t) (.int j u)) Q E s) :
    OpR X f (rI0 fun i j => .int (g i j)) := by
  intro pins s σ H x y v u Q I rx ry h
  obtain ⟨i, j, rfl, rfl, q⟩ := h
  obtain ⟨t, rfl⟩ := rx
  obtain ⟨t', rfl⟩ := ry
  exact rule i j t t' s _ _ ⟨.int (g i j), H, I.tok _, ⟨_, rfl⟩, q⟩
theorem opB0 {f : Value → Value → Sem Value} {g : Int → Int → Bool}
    (rule : ∀ (i j : Int) (t u : Tok) (s : Shared) (Q : Value → Shared → Prop) (E : Value → Shared → Prop), Q (.bool (g i j)) s → wpAny (model X.prog X.w) X.A (f (.int i t) (.int j u)) Q E s) :
    OpR X f (rI0 fun i j => .bl (g i j)) := by
  intro pins s σ H x y v u Q I rx ry h
  obtain ⟨i, j, rfl, rfl, q⟩ := h
  obtain ⟨t, rfl⟩ := rx
  obtain ⟨t', rfl⟩ := ry
  exact rule i j t t' s _ _ ⟨.bl (g i j), H, I, rfl, q⟩

def CDiv (i j : Int) : Prop := 0 < j ∧ j < 1073741824
def CPow (i j : Int) : Prop := 0 ≤ j ∧ j ≤ 1000000 ∧ i.natAbs < 2 ^ 64
def CMul (i j : Int) : Prop := (-(2 ^ 64) < i ∧ i < 2 ^ 64) ∨ (-(2 ^ 64) < j ∧ j < 2 ^ 64)
theorem CMul.ok {i j : Int} (h : CMul i j) : IntMulOk i j := by
  rcases h with ⟨h1, h2⟩ | ⟨h1, h2⟩
  · exact .of_left (intBits_le_64 h1 h2)
  · exact .of_right (intBits_le_64 h1 h2)
theorem op_add : OpR X (binaryOp .Add) (rI0 fun i j => .int (i + j)) := opI0 fun _ _ _ _ _ _ _ q => add_int q
theorem op_sub : OpR X (binaryOp .Sub) (rI0 fun i j => .int (i - j)) := opI0 fun _ _ _ _ _ _ _ q => sub_int q
theorem op_mul : OpR X (binaryOp .Mult) (rI CMul fun i j => .int (i * j)) := opI fun _ _ _ _ _ _ _ hc q => mul_int q hc.ok
theorem op_fdiv : OpR X (binaryOp .FloorDiv) (rI CDiv fun i j => .int (i / j)) := opI fun i j _ _ _ _ _ hc q => by
  have h1 : (0 : Int) < j := hc.1
  have h2 : j < 1073741824 := hc.2
  exact floordiv_int (by omega) (by rw [Int.fdiv_eq_ediv_of_nonneg i (by omega)]; exact q) (.inl (PyProof.noPylong_small (by omega)))
theorem op_mod : OpR X (binaryOp .Mod) (rI (fun _ j => 0 < j) fun i j => .int (i % j)) := opI fun i j _ _ _ _ _ hc q => by
  have h1 : (0 : Int) < j := hc
  exact mod_int' (by omega) (by rw [Int.fmod_eq_emod_of_nonneg i (by omega)]; exact q)
theorem op_pow : OpR X (binaryOp .Pow) (rI CPow fun i j => .int (i ^ j.toNat)) := opI fun _ _ _ _ _ _ _ hc q => pow_int_small hc.1 hc.2.1 hc.2.2 q
theorem unI {f : Value → Sem Value} {g : Int → Int}
    (rule : ∀ (i : Int) (t : Tok) (s : Shared) (Q : Value → Shared → Prop) (E : Value → Shared → Prop), Q (.int (g i) s.toks) { s with toks := s.toks + 1 } → wpAny (model X.prog X.w) X.A (f (.int i t)) Q E s) :
    UnR X f (rU fun i => .int (g i)) := by
  intro pins s σ H x v Q I rx h
  obtain ⟨i, rfl, q⟩ := h
  obtain ⟨t, rfl⟩ := rx
  exact rule i t s _ _ ⟨.int (g i), H, I.tok _, ⟨_, rfl⟩, q⟩
theorem un_neg : UnR X (unaryOp .USub) (rU fun i => .int (-i)) := unI fun _ _ _ _ _ q => neg_int q
end

def scal : V → V → Bool
  | .non, .non => true | .non, .int _ => true | .int _, .non => true | .non, .bl _ => true | .bl _, .non => true | .non, .str _ => true | .str _, .non => true
  | .int _, .int _ => true | .bl _, .bl _ => true | .str _, .str _ => true | .byt _, .byt _ => true
  | .int _, .str _ => true | .str _, .int _ => true | .bl _, .str _ => true | .str _, .bl _ => true
  | _, _ => false
def rEq : R2 := fun x y H Q => scal x y = true ∧ Q (.bl (decide (x = y))) H
def rNe : R2 := fun x y H Q => scal x y = true ∧ Q (.bl (!decide (x = y))) H

theorem dec_int {i j : Int} : decide (V.int i = V.int j) = (i == j) := by
  rw [Bool.eq_iff_iff]
  simp
theorem dec_bl {i j : Bool} : decide (V.bl i = V.bl j) = (i == j) := by
  rw [Bool.eq_iff_iff]
  simp
theorem dec_str {i j : Str} : decide (V.str i = V.str j) = (i == j) := by
  rw [Bool.eq_iff_iff]
  simp
theorem dec_byt {i j : Array UInt8} : decide (V.byt i = V.byt j) = (i.toList == j.toList) := by
  rw [Bool.eq_iff_iff]
  cases i
  cases j
  simp

section
variable {X : Cx} {a b c : Expr} {ta tb tc : TE} {pos : Pos}
theorem fin_bl {pins : List (Addr × Obj)} {σ : St} {H : Hp} {s : Shared} {Q : VK} {k k' : Bool} (I : Inv X pins σ H s) (q : Q (.bl k) H) (e : k = k') : EP X pins σ Q (.bool k') s := by
  subst e
  exact ⟨.bl k, H, I, rfl, q⟩
theorem op_eq : OpR X (compareOp .Eq) rEq := by
  intro pins s σ H x y v u Q I rx ry h
  obtain ⟨hs, q⟩ := h
  cases x with
  | non =>
    cases rx
    cases y with
    | non => cases ry; exact PySem.EqNone.eq_none_none (fin_bl I q (by simp))
    | bl j => cases ry; exact PySem.EqNone.eq_none_bool (fin_bl I q (by simp))
    | int j => obtain ⟨t', rfl⟩ := ry; exact PySem.EqNone.eq_none_int (fin_bl I q (by simp))
    | str j => obtain ⟨t', rfl⟩ := ry; exact PySem.EqNone.eq_none_str (fin_bl I q (by simp))
    | _ => exact absurd (show false = true from hs) Bool.false_ne_true
  | bl i =>
    cases rx
    cases y with
    | non => cases ry; exact PySem.EqNone.eq_bool_none (fin_bl I q (by simp))
    | bl j => cases ry; exact eq_bool (fin_bl I q dec_bl)
    | str j => obtain ⟨t', rfl⟩ := ry; exact PySem.EqMixed.eq_bool_str (fin_bl I q (by simp))
    | _ => exact absurd (show false = true from hs) Bool.false_ne_true
  | int i =>
    obtain ⟨t, rfl⟩ := rx
    cases y with
    | non => cases ry; exact PySem.EqNone.eq_int_none (fin_bl I q (by simp))
    | int j => obtain ⟨t', rfl⟩ := ry; exact eq_int (fin_bl I q dec_int)
    | str j => obtain ⟨t', rfl⟩ := ry; exact PySem.EqMixed.eq_int_str (fin_bl I q (by simp))
    | _ => exact absurd (show false = true from hs) Bool.false_ne_true
  | str i =>
    obtain ⟨t, rfl⟩ := rx
    cases y with
    | non => cases ry; exact PySem.EqNone.eq_str_none (fin_bl I q (by simp))
    | bl j => cases ry; exact PySem.EqMixed.eq_str_bool (fin_bl I q (by simp))
    | int j => obtain ⟨t', rfl⟩ := ry; exact PySem.EqMixed.eq_str_int (fin_bl I q (by simp))
    | str j => obtain ⟨t', rfl⟩ := ry; exact eq_str (fin_bl I q dec_str)
    | _ => exact absurd (show false = true from hs) Bool.false_ne_true
  | byt i =>
    obtain ⟨t, rfl⟩ := rx
    cases y with
    | byt j => obtain ⟨t', rfl⟩ := ry; exact PySem.W.eq_bytes (fin_bl I q dec_byt)
    | _ => exact absurd (show false = true from hs) Bool.false_ne_true
  | _ => cases y <;> exact absurd (show false = true from hs) Bool.false_ne_true
theorem op_ne : OpR X (compareOp .NotEq) rNe := by
  intro pins s σ H x y v u Q I rx ry h
  obtain ⟨hs, q⟩ := h
  cases x with
  | non =>
    cases rx
    cases y with
    | non => cases ry; exact PySem.EqNone.ne_none_none (fin_bl I q (by simp))
    | bl j => cases ry; exact PySem.EqNone.ne_none_bool (fin_bl I q (by simp))
    | int j => obtain ⟨t', rfl⟩ := ry; exact PySem.EqNone.ne_none_int (fin_bl I q (by simp))
    | str j => obtain ⟨t', rfl⟩ := ry; exact PySem.EqNone.ne_none_str (fin_bl I q (by simp))
    | _ => exact absurd (show false = true from hs) Bool.false_ne_true
  | bl i =>
    cases rx
    cases y with
    | non => cases ry; exact PySem.EqNone.ne_bool_none (fin_bl I q (by simp))
    | bl j => cases ry; exact ne_bool (fin_bl I q (congrArg not dec_bl))
    | str j => obtain ⟨t', rfl⟩ := ry; exact PySem.EqMixed.ne_bool_str (fin_bl I q (by simp))
    | _ => exact absurd (show false = true from hs) Bool.false_ne_true
  | int i =>
    obtain ⟨t, rfl⟩ := rx
    cases y with
    | non => cases ry; exact PySem.EqNone.ne_int_none (fin_bl I q (by simp))
    | int j => obtain ⟨t', rfl⟩ := ry; exact ne_int (fin_bl I q (congrArg not dec_int))
    | str j => obtain ⟨t', rfl⟩ := ry; exact PySem.EqMixed.ne_int_str (fin_bl I q (by simp))
    | _ => exact absurd (show false = true from hs) Bool.false_ne_true
  | str i =>
    obtain ⟨t, rfl⟩ := rx
    cases y with
    | non => cases ry; exact PySem.EqNone.ne_str_none (fin_bl I q (by simp))
    | bl j => cases ry; exact PySem.EqMixed.ne_str_bool (fin_bl I q (by simp))
    | int j => obtain ⟨t', rfl⟩ := ry; exact PySem.EqMixed.ne_str_int (fin_bl I q (by simp))
    | str j => obtain ⟨t', rfl⟩ := ry; exact ne_str (fin_bl I q (congrArg not dec_str))
    | _ => exact absurd (show false = true from hs) Bool.false_ne_true
  | byt i =>
    obtain ⟨t, rfl⟩ := rx
    cases y with
    | byt j => obtain ⟨t', rfl⟩ := ry; exact PySem.W.ne_bytes (fin_bl I q (congrArg not dec_byt))
    | _ => exact absurd (show false = true from hs) Bool.false_ne_true
  | _ => cases y <;> exact absurd (show false = true from hs) Bool.false_ne_true

theorem op_lt : OpR X (compareOp .Lt) (rI0 fun i j => .bl (decide (i < j))) := opB0 fun _ _ _ _ _ _ _ q => lt_int q
theorem op_le : OpR X (compareOp .LtE) (rI0 fun i j => .bl (decide (i ≤ j))) := opB0 fun _ _ _ _ _ _ _ q => le_int q
theorem op_in_str : OpR X (compareOp .In) (fun x y H Q => ∃ i j, x = .str i ∧ y = .str j ∧ Q (.bl (!(Builtin.Str.occurrences j i 0 j.length 1).isEmpty)) H) := by
  intro pins s σ H x y v u Q I rx ry h
  obtain ⟨i, j, rfl, rfl, q⟩ := h
  obtain ⟨t, rfl⟩ := rx
  obtain ⟨t', rfl⟩ := ry
  exact in_str (fin_bl I q rfl)

theorem nomark (b : Expr) {op : CmpOp} (h : op ≠ .In := by decide) (h2 : op ≠ .NotIn := by decide) : behindInMarks op b = false := by
  have e1 : (op == CmpOp.In) = false := by cases op <;> first | rfl | exact absurd rfl h
  have e2 : (op == CmpOp.NotIn) = false := by cases op <;> first | rfl | exact absurd rfl h2
  cases b <;> simp [behindInMarks, e1, e2]
theorem pe_cmpR {op : CmpOp} {r : R2} (ho : OpR X (compareOp op) r) (ha : PE X a ta) (hb : PE X b tb) (hm : behindInMarks op b = false) : PE X (.Compare a [op] [b] pos) (tOp r ta tb) := by
  intro pins s σ H Q I h
  exact wpAny_Compare1 (binT ha hb I h fun v u s2 x y H2 I2 rx ry q => ho pins s2 σ H2 x y v u Q I2 rx ry q) hm
def tTest (t : TE) : TT := fun σ H Q => t σ H fun x H' => ∃ k, x = .bl k ∧ Q k H'
theorem pt_cmpR {op : CmpOp} {r : R2} (ho : OpR X (compareOp op) r) (ha : PE X a ta) (hb : PE X b tb) (hm : behindInMarks op b = false) : PT X (.Compare a [op] [b] pos) (tTest (tOp r ta tb)) := by
  intro pins s σ H Q I h
  refine wpAny_isTrue_Compare1 (thn (ha pins s σ H _ I h) fun v s1 ⟨x, H1, I1, r1, q1⟩ => thn (hb pins s1 σ H1 _ I1 q1) fun u s2 ⟨y, H2, I2, r2, q2⟩ =>
    thn (ho pins s2 σ H2 x y v u _ I2 r1 r2 q2) fun c s3 ⟨z, H3, I3, r3, k, e, q3⟩ => ?_) hm
  subst e
  cases r3
  exact wpAny_truthy_bool ⟨H3, I3, q3⟩
def tChain (r r' : R2) (ta tb tc : TE) : TE := fun σ H Q => ta σ H fun x H1 => tb σ H1 fun y H2 => r x y H2 fun z H3 => ∃ k, z = .bl k ∧
  (if k = true then tc σ H3 fun w' H4 => r' y w' H4 Q else Q (.bl false) H3)
theorem pe_chain {op op' : CmpOp} {r r' : R2} (ho : OpR X (compareOp op) r) (ho' : OpR X (compareOp op') r') (ha : PE X a ta) (hb : PE X b tb) (hc : PE X c tc)
    (hm : lastMarks [op, op'] [b, c] = false := by with_unfolding_all rfl) : PE X (.Compare a [op, op'] [b, c] pos) (tChain r r' ta tb tc) := by
  intro pins s σ H Q I h
  refine Compare_chain (thn (ha pins s σ H _ I h) fun v s1 ⟨x, H1, I1, r1, q1⟩ => chain_link (thn (hb pins s1 σ H1 _ I1 q1) fun u s2 ⟨y, H2, I2, r2, q2⟩ =>
    thn (ho pins s2 σ H2 x y v u _ I2 r1 r2 q2) fun d s3 ⟨z, H3, I3, r3, k, e, q3⟩ => ?_)) hm
  subst e
  cases r3
  refine wpAny_truthy_bool ?_
  cases k with
  | false => exact ite_ff ⟨.bl false, H3, I3, rfl, q3⟩
  | true => exact ite_tt (chain_last (thn (hc pins s3 σ H3 _ I3 q3) fun w' s4 ⟨z', H4, I4, r4, q4⟩ => ho' pins s4 σ H4 y z' u w' Q I4 r2 r4 q4))
theorem pt_chain {op op' : CmpOp} {r r' : R2} (ho : OpR X (compareOp op) r) (ho' : OpR X (compareOp op') r') (ha : PE X a ta) (hb : PE X b tb) (hc : PE X c tc)
    (hm : lastMarks [op, op'] [b, c] = false := by with_unfolding_all rfl) : PT X (.Compare a [op, op'] [b, c] pos) (tTest (tChain r r' ta tb tc)) := by
  intro pins s σ H Q I h
  refine isTrue_chain (thn (ha pins s σ H _ I h) fun v s1 ⟨x, H1, I1, r1, q1⟩ => test_link (thn (hb pins s1 σ H1 _ I1 q1) fun u s2 ⟨y, H2, I2, r2, q2⟩ =>
    thn (ho pins s2 σ H2 x y v u _ I2 r1 r2 q2) fun d s3 ⟨z, H3, I3, r3, k, e, q3⟩ => ?_)) hm
  subst e
  cases r3
  refine wpAny_truthy_bool ?_
  cases k with
  | false =>
    obtain ⟨k', e', q'⟩ := q3
    cases e'
    exact ite_ff ⟨H3, I3, q'⟩
  | true =>
    refine ite_tt (test_last (thn (hc pins s3 σ H3 _ I3 q3) fun w' s4 ⟨z', H4, I4, r4, q4⟩ => thn (ho' pins s4 σ H4 y z' u w' _ I4 r2 r4 q4) fun d' s5 ⟨z2, H5, I5, r5, k2, e2, q5⟩ => ?_))
    subst e2
    cases r5
    exact wpAny_truthy_bool ⟨H5, I5, q5⟩

theorem line63 : (sizeLine : Nat) < 2 ^ 63 := by rw [sizeLine_eq]; decide
theorem op_add_str : OpR X (binaryOp .Add) (fun x y H Q => ∃ i j, x = .str i ∧ y = .str j ∧ i.length + j.length ≤ sizeLine ∧ Q (.str (i ++ j)) H) := by
  intro pins s σ H x y v u Q I rx ry h
  obtain ⟨i, j, rfl, rfl, hz, q⟩ := h
  obtain ⟨t, rfl⟩ := rx
  obtain ⟨t', rfl⟩ := ry
  exact add_str (fun t' tk => ⟨.str (i ++ j), H, I.tok _, ⟨_, rfl⟩, q⟩) hz
theorem vals1 {x : V} {us : List Value} (r : Vals [x] us) : ∃ u, us = [u] ∧ RelV x u := by
  cases r with
  | cons r1 r2 => cases r2; exact ⟨_, rfl, r1⟩
theorem vals2 {x y : V} {us : List Value} (r : Vals [x, y] us) : ∃ u w', us = [u, w'] ∧ RelV x u ∧ RelV y w' := by
  cases r with
  | cons r1 r2 =>
    cases r2 with
    | cons r3 r4 => cases r4; exact ⟨_, _, rfl, r1, r3⟩
theorem call_max2 (hc : X.calm = true) : CallR X (.builtin "max") (fun xs H Q => ∃ i j, xs = [.int i, .int j] ∧ Q (.int (if j > i then j else i)) H) := by
  intro pins s σ H xs us Q I r h
  obtain ⟨i, j, rfl, q⟩ := h
  obtain ⟨u, w', rfl, ⟨t, rfl⟩, ⟨t', rfl⟩⟩ := vals2 r
  refine max_two_ints (I.ok.hd hc) fun h' tk k => ⟨_, H, I.kept k, ?_, q⟩
  by_cases hj : j > i
  · rw [if_pos hj, if_pos hj]; exact ⟨_, rfl⟩
  · rw [if_neg hj, if_neg hj]; exact ⟨_, rfl⟩
theorem call_min2 (hc : X.calm = true) : CallR X (.builtin "min") (fun xs H Q => ∃ i j, xs = [.int i, .int j] ∧ Q (.int (if j < i then j else i)) H) := by
  intro pins s σ H xs us Q I r h
  obtain ⟨i, j, rfl, q⟩ := h
  obtain ⟨u, w', rfl, ⟨t, rfl⟩, ⟨t', rfl⟩⟩ := vals2 r
  refine min_two_ints (I.ok.hd hc) fun h' tk k => ⟨_, H, I.kept k, ?_, q⟩
  by_cases hj : j < i
  · rw [if_pos hj, if_pos hj]; exact ⟨_, rfl⟩
  · rw [if_neg hj, if_neg hj]; exact ⟨_, rfl⟩
theorem call_int1 : CallR X (.type "int") (fun xs H Q => (∃ i, xs = [.int i] ∧ Q (.int i) H) ∨ ∃ k, xs = [.bl k] ∧ Q (.int (if k then 1 else 0)) H) := by
  intro pins s σ H xs us Q I r h
  rcases h with ⟨i, rfl, q⟩ | ⟨k, rfl, q⟩
  · obtain ⟨u, rfl, t, rfl⟩ := vals1 r
    exact call_int_int ⟨.int i, H, I, ⟨_, rfl⟩, q⟩
  · obtain ⟨u, rfl, r1⟩ := vals1 r
    cases r1
    exact call_int_bool ⟨.int (if k then 1 else 0), H, I.tok _, ⟨_, rfl⟩, q⟩
end
end L2

namespace L2
open PySem PySem.Spec PyProof.Rows

structure ObjM (h : Heap) (x dx C : Addr) (mA : Str → Option Value) : Prop where
  obj : h.get? x = some (PySem.W.instObj C dx)
  ns : h.Ns1 dx mA
  ne : dx ≠ x

theorem lookIn_ns {h : Heap} {dx : Addr} {mA : Str → Option Value} (n : h.Ns1 dx mA) : ∃ od, h.get? dx = some od ∧ ∀ name, PySem.W.lookIn name od = some (mA name) := by
  obtain ⟨o, es, ep, ho, hd, hk, _, hm⟩ := n
  refine ⟨o, ho, fun name => ?_⟩
  have e := hm name
  unfold nsFind findBy at e
  rw [← Array.find?_toList] at e
  unfold PySem.W.lookIn
  rw [hd]
  dsimp only
  split
  · rename_i y q
    rw [q] at e
    exact congrArg some e
  · rename_i q
    rw [q] at e
    have a : es.toList.any (·.refKey) = false := by
      rw [List.any_eq_false]
      intro y hy
      obtain ⟨z, t, hkey⟩ := hk y (Array.mem_toList_iff.mp hy)
      simp [DictEntry.refKey, hkey]
    have a' : ¬ es.toList.any (·.refKey) = true := by rw [a]; exact Bool.false_ne_true
    rw [if_neg a']
    exact congrArg some e

theorem ObjM.look {h : Heap} {x dx C : Addr} {mA : Str → Option Value} (I : ObjM h x dx C mA) : ∃ od, PySem.W.InstAt h x (PySem.W.instObj C dx) C (some od) ∧ ∀ name, PySem.W.lookIn name od = some (mA name) :=
  let ⟨od, ho, hl⟩ := lookIn_ns I.ns
  ⟨od, ⟨I.obj, rfl, rfl, ho⟩, hl⟩

section
variable {prog : Program} {w : World} {A : Around} {E : Value → Shared → Prop} {s : Shared} {K : PySem.W.Frag} {x dx C f : Addr} {mA : Str → Option Value} {name : Str} {v : Value}

theorem get_map {expr : Bool} {Q : Value → Shared → Prop} (X : K.In s.heap) (I : ObjM s.heap x dx C mA) (hg : PySem.W.plainGet K C name = true) (hh : PySem.W.hasDictIn K C = true)
    (ha : PySem.W.findIn K (.ref C) name = some none) (hv : mA name = some v) (hv' : PySem.W.handedIn v = true) (h : Q v { s with toks := s.toks + 1 }) :
    wpAny (model prog w) A (getAttr (.ref x) name expr) Q E s := by
  obtain ⟨od, J, hl⟩ := I.look
  exact PySem.W.get_value X J (PySem.W.plainGet_of hg).1 (PySem.W.findObj_own hh ha rfl (by rw [hl, hv])) hv' h

theorem set_map {ns : List Str} {Q : Unit → Shared → Prop} (X : K.In s.heap) (I : ObjM s.heap x dx C mA)
    (hs : PySem.W.findIn K (.ref C) "__setattr__" = some (some (.builtin "object.__setattr__"))) (hp : PySem.W.plainOver K C = true) (ht : PySem.W.takerIn K C name = some none) (hh : PySem.W.hasDictIn K C = true)
    (hw : PySem.Within mA ns) (hsz : ns.length ≤ sizeLine)
    (h : ∀ h', ObjM h' x dx C (fun y => if y = name then some v else mA y) → Heap.SameBut dx s.heap h' → Q () { s with heap := h', toks := s.toks + 2 }) :
    wpAny (model prog w) A (setAttr (.ref x) name v) Q E s := by
  obtain ⟨od, J, hl⟩ := I.look
  refine PySem.W.set_plain X J hs (PySem.W.osa_open (s := { s with toks := s.toks + 1 }) (r := none) X J hp ht fun b => ?_)
  obtain ⟨cd, hc, hd'⟩ := PySem.W.any_some hh
  have hx : s.heap.get? x = some ⟨.ref C, some dx, .plain, #[]⟩ := I.obj
  refine wpAny_bind (wpAny_pure (wpAny_bind (wpAny_bind (wpAny_loadPart hx (wpAny_bind (PySem.W.Looks.here (s := { s with toks := s.toks + 1 }) (PySem.W.looks_clsIn X hc) ?_))))))
  rw [hd']
  refine wpAny_pure (a := some dx) (wpAny_bind (wpAny_pure (wpAny_bind ?_)))
  refine wpAny_nsSet1 (s := { s with toks := s.toks + 1 }) I.ns fun h' hn2 hs2 => ?_
  obtain ⟨oD, esD, epD, hoD, hdD, hcD⟩ := hn2.count (PySem.Within.cons name v hw)
  refine wpAny_bind (wpAny_lookBehind hoD (by rw [hdD]; exact pastItsLine_dict (Nat.le_trans hcD (by rw [List.length_cons]; omega))) ?_)
  exact wpAny_pure (h _ ⟨(hs2.2 _ (Ne.symm I.ne)).trans I.obj, hn2, I.ne⟩ hs2)

theorem make_map {R : Result → Shared → Prop} {vs : List Value} {kw : List (Str × Value)} (X : K.In s.heap) (hm : PySem.W.makesIn K C = true)
    (hi : PySem.W.findIn K (.ref C) "__init__" = some (some (.ref f))) (hf : PySem.W.typeIn K (.ref f) = some (.type "function"))
    (h : codeAny (model prog w) (A.under (.builtin "type.__call__" ⟨.ref C :: vs, kw⟩)) (.call (.ref f) ⟨.ref (s.heap.objs.size + 1) :: vs, kw⟩) (PySem.W.InitBack (s.heap.objs.size + 1) R)
      { s with heap := (s.heap.push PySem.W.emptyDict).push (PySem.W.instObj C s.heap.objs.size) }) :
    codeAny (model prog w) A (.call (.ref C) ⟨vs, kw⟩) R s := by
  obtain ⟨hh, g, d, t, os⟩ := s
  exact PySem.W.make_core (PySem.W.makes_of X hm) (PySem.W.looks_findIn X hi) (fun self => PySem.W.bind_fn X self hf) (.inl rfl) h
end

def putF (f : Str) (v : V) : List (Str × V) → List (Str × V)
  | [] => [(f, v)]
  | (g, x) :: r => if g = f then (g, v) :: r else (g, x) :: putF f v r
theorem lookup_putF (f g : Str) (v : V) : ∀ fs : List (Str × V), (putF f v fs).lookup g = if g = f then some v else fs.lookup g
  | [] => by
    show List.lookup g [(f, v)] = _
    by_cases h : g = f
    · have hb : (g == f) = true := beq_iff_eq.mpr h
      simp only [List.lookup, hb, if_pos h]
    · have hb : (g == f) = false := beq_eq_false_iff_ne.mpr h
      simp only [List.lookup, hb, if_neg h]
  | (k, x) :: r => by
    have ih := lookup_putF f g v r
    rw [show putF f v ((k, x) :: r) = (if k = f then (k, v) :: r else (k, x) :: putF f v r) from rfl]
    by_cases hk : k = f
    · rw [if_pos hk]
      by_cases h : g = k
      · have hb : (g == k) = true := beq_iff_eq.mpr h
        simp only [List.lookup, hb, if_pos (h.trans hk)]
      · have hb : (g == k) = false := beq_eq_false_iff_ne.mpr h
        simp only [List.lookup, hb, if_neg (fun e : g = f => h (e.trans hk.symm))]
    · rw [if_neg hk]
      by_cases h : g = k
      · have hb : (g == k) = true := beq_iff_eq.mpr h
        simp only [List.lookup, hb, if_neg (fun e : g = f => hk (h.symm.trans e))]
      · have hb : (g == k) = false := beq_eq_false_iff_ne.mpr h
        simp only [List.lookup, hb]
        exact ih
theorem keys_putF (f : Str) (v : V) : ∀ fs : List (Str × V), f ∈ (putF f v fs).map (·.1) ∧ ∀ g, g ∈ fs.map (·.1) → g ∈ (putF f v fs).map (·.1)
  | [] => ⟨by simp [putF], fun g h => by simp at h⟩
  | (k, x) :: r => by
    obtain ⟨i1, i2⟩ := keys_putF f v r
    rw [show putF f v ((k, x) :: r) = (if k = f then (k, v) :: r else (k, x) :: putF f v r) from rfl]
    by_cases hk : k = f
    · rw [if_pos hk]
      subst hk
      exact ⟨by simp, fun g h => by simpa using h⟩
    · rw [if_neg hk]
      refine ⟨?_, fun g h => ?_⟩
      · rw [List.map_cons]
        exact List.mem_cons_of_mem _ i1
      · rw [List.map_cons] at h ⊢
        rcases List.mem_cons.mp h with e | e
        · exact List.mem_cons.mpr (.inl e)
        · exact List.mem_cons_of_mem _ (i2 g e)
theorem length_putF (f : Str) (v : V) : ∀ fs : List (Str × V), (putF f v fs).length ≤ fs.length + 1
  | [] => by simp [putF]
  | (k, x) :: r => by
    have ih := length_putF f v r
    rw [show putF f v ((k, x) :: r) = (if k = f then (k, v) :: r else (k, x) :: putF f v r) from rfl]
    by_cases hk : k = f
    · rw [if_pos hk, List.length_cons, List.length_cons]; omega
    · rw [if_neg hk, List.length_cons, List.length_cons]; omega

theorem RelO.some_of {v : V} {o : Option Value} (r : RelO (some v) o) : ∃ u, o = some u ∧ RelV v u := by
  cases o with
  | none => exact (show False from r).elim
  | some u => exact ⟨u, rfl, r⟩
theorem handed_of {v : V} {u : Value} (r : RelV v u) : PySem.W.handedIn u = true := by
  cases v with
  | non => cases (show u = Value.none from r); rfl
  | bl b => cases (show u = Value.bool b from r); rfl
  | int i => obtain ⟨t, e⟩ := (show ∃ t, u = Value.int i t from r); cases e; rfl
  | str x => obtain ⟨t, e⟩ := (show ∃ t, u = Value.str x t from r); cases e; rfl
  | byt b => obtain ⟨t, e⟩ := (show ∃ t, u = Value.bytes b t from r); cases e; rfl
  | flt b => obtain ⟨t, e⟩ := (show ∃ t, u = Value.float b t from r); cases e; rfl
  | ref a => cases (show u = Value.ref a from r); rfl
  | ty n => cases (show u = Value.type n from r); rfl

section
variable {P : Program} {w : World} {H H' : Hp} {h h' : Heap} {a C dx : Addr} {fs fs' : List (Str × V)}
theorem ins_get (hok : HOk P w H h) (e : H a = some (.ins C dx fs)) : ∃ mA, ObjM h a dx C mA ∧ (∀ f, RelO (fs.lookup f) (mA f)) ∧ PySem.Within mA (fs.map (·.1)) ∧ fs.length ≤ 1000 ∧ H dx = some (.own a) := by
  obtain ⟨d, z, ne, ob, mA, n, r, q⟩ := (show ObjOk P w H h a (.ins C dx fs) from hok a _ e)
  exact ⟨mA, ⟨ob, n, ne⟩, r, q, z, d⟩
end

structure Cls (K : PySem.W.Frag) (C : Addr) : Prop where
  pg : PySem.W.plainGet K C Str.empty = true
  hd : PySem.W.hasDictIn K C = true
  po : PySem.W.plainOver K C = true
  sa : PySem.W.findIn K (.ref C) "__setattr__" = some (some (.builtin "object.__setattr__"))
theorem Cls.get {K : PySem.W.Frag} {C : Addr} (c : Cls K C) (f : Str) : PySem.W.plainGet K C f = true := c.pg
def NoAttr (K : PySem.W.Frag) (C : Addr) (f : Str) : Prop := PySem.W.findIn K (.ref C) f = some none
theorem NoAttr.taker {K : PySem.W.Frag} {C : Addr} {f : Str} (n : NoAttr K C f) : PySem.W.takerIn K C f = some none := by
  unfold PySem.W.takerIn
  rw [show PySem.W.findIn K (.ref C) f = some none from n]
  rfl
structure Con (K : PySem.W.Frag) (C : Addr) (f : Str) (v : V) (u : Value) : Prop where
  at_ : PySem.W.findIn K (.ref C) f = some (some u)
  rel : RelV v u
  get : PySem.W.specialIn K u "__get__" = some none
  cp : PySem.W.copiedNames.contains f = false
structure Meth (K : PySem.W.Frag) (C : Addr) (m : Str) (f : Addr) : Prop where
  at_ : PySem.W.findIn K (.ref C) m = some (some (.ref f))
  fn : PySem.W.isFn K (.ref f) = true
  kp : PySem.W.keepIn K (.ref f) = true

section
variable {X : Cx} {pins : List (Addr × Obj)} {σ : St} {H : Hp} {s : Shared} {a C dx : Addr} {fs : List (Str × V)} {f : Str} {v : V} {A : Around} {E : Value → Shared → Prop}

theorem getattr_ok {b : Bool} {Q : Value → Shared → Prop} (I : Inv X pins σ H s) (e : H a = some (.ins C dx fs)) (c : Cls X.K C) (n : NoAttr X.K C f) (l : fs.lookup f = some v)
    (h : ∀ u s', Inv X pins σ H s' → RelV v u → Q u s') : wpAny (model X.prog X.w) A (getAttr (.ref a) f b) Q E s := by
  obtain ⟨mA, O, r, _, _, _⟩ := ins_get I.hok e
  obtain ⟨u, hu, ru⟩ := RelO.some_of (v := v) (o := mA f) (by rw [← l]; exact r f)
  exact get_map I.kIn O (c.get f) c.hd n hu (handed_of ru) (h u _ (I.tok _) ru)

theorem setattr_ok {y : V} {u : Value} {Q : Unit → Shared → Prop} (I : Inv X pins σ H s) (e : H a = some (.ins C dx fs)) (c : Cls X.K C) (n : NoAttr X.K C f) (hl : fs.length < 1000) (ry : RelV y u)
    (h : ∀ s', Inv X pins σ (upd H a (.ins C dx (putF f y fs))) s' → Q () s') : wpAny (model X.prog X.w) A (setAttr (.ref a) f u) Q E s := by
  obtain ⟨mA, O, r, wi, _, ho⟩ := ins_get I.hok e
  have hz : (fs.map (·.1)).length ≤ sizeLine := by rw [List.length_map, sizeLine_eq]; omega
  refine set_map I.kIn O c.sa c.po n.taker c.hd wi hz fun h' O' sb => h _ ?_
  have hd : ∃ o, h'.get? dx = some o := let ⟨o, _, _, e', _⟩ := O'.ns; ⟨o, e'⟩
  refine I.write (x := a) (e := dx) (by rw [e]; exact True.intro) (.inr ho) (fun b q hb z => (sb.2 b hb).trans z) hd ?_
  refine ⟨by rw [upd_ne O.ne]; exact ho, ?_, O.ne, O'.obj, _, O'.ns, fun g => ?_, fun g hg => ?_⟩
  · have := length_putF f y fs; omega
  · show RelO ((putF f y fs).lookup g) (if g = f then some u else mA g)
    rw [lookup_putF]
    by_cases q : g = f
    · rw [if_pos q, if_pos q]; exact ry
    · rw [if_neg q, if_neg q]; exact r g
  · by_cases q : g = f
    · rw [q]; exact (keys_putF f y fs).1
    · refine (keys_putF f y fs).2 g (wi g fun z => hg ?_)
      show (if g = f then some u else mA g) = none
      rw [if_neg q]; exact z

theorem Inv.made (I : Inv X pins σ H s) : Inv X pins σ (upd (upd H s.heap.objs.size (.own (s.heap.objs.size + 1))) (s.heap.objs.size + 1) (.ins C s.heap.objs.size []))
    { s with heap := (s.heap.push PySem.W.emptyDict).push (PySem.W.instObj C s.heap.objs.size) } := by
  have e1 : (s.heap.push PySem.W.emptyDict).get? s.heap.objs.size = some PySem.W.emptyDict := Heap.get?_push_size s.heap rfl
  have e2 : ((s.heap.push PySem.W.emptyDict).push (PySem.W.instObj C s.heap.objs.size)).get? (s.heap.objs.size + 1) = some (PySem.W.instObj C s.heap.objs.size) := by
    have := Heap.get?_push_size (s.heap.push PySem.W.emptyDict) (o := PySem.W.instObj C s.heap.objs.size) rfl
    rwa [Heap.size_push] at this
  have e3 : (s.heap.push PySem.W.emptyDict).Ns s.heap.objs.size (fun _ => none) := ⟨PySem.W.emptyDict, #[], _, e1, rfl, (fun e he => absurd he (by simp)), fun _ => rfl⟩
  have I1 := I.laid (a := s.heap.objs.size) (o := .own (s.heap.objs.size + 1)) (h' := s.heap.push PySem.W.emptyDict) (t' := s.toks) (fun b u q => Heap.get?_push_of_some _ q) (Nat.le_refl _) ⟨_, e1⟩
  refine I1.laid (a := s.heap.objs.size + 1) (o := .ins C s.heap.objs.size []) (t' := s.toks) (fun b u q => Heap.get?_push_of_some _ q) (Nat.le_of_eq (Heap.size_push _ _)) ?_
  have ne : s.heap.objs.size ≠ s.heap.objs.size + 1 := Nat.ne_of_lt (Nat.lt_succ_self _)
  refine ⟨by rw [upd_ne ne, upd_same], Nat.zero_le _, ne, e2, fun _ => none, (Heap.Ns1.of_empty e3).at fun o q => Heap.get?_push_of_some _ q, fun _ => True.intro, fun y hy => absurd rfl hy⟩

theorem attr_of {prog : Program} {w : World} {env : Env} {e : Expr} {f : Str} {pos : Pos} {s : Shared} {Q : Value → Shared → Prop} (hb : attributeBase e f env (eval e env) = eval e env)
    (h : wpAny (model prog w) A (eval e env) (fun o s₁ => wpAny (model prog w) A (getAttr o f true) Q E s₁) E s) : wpAny (model prog w) A (eval (.Attribute e f pos) env) Q E s :=
  Attribute_any_ h (by rw [arm_eval_Attribute, hb])
end

def tFld (K : PySem.W.Frag) (ta : TE) (f : Str) : TE := fun σ H Q => ta σ H fun x H1 => ∃ a C dx fs v, x = .ref a ∧ H1 a = some (.ins C dx fs) ∧ Cls K C ∧ NoAttr K C f ∧ fs.lookup f = some v ∧ Q v H1
def sFld (K : PySem.W.Frag) (ta tv : TE) (f : Str) : TS := fun D σ H => tv σ H fun y H1 => ta σ H1 fun x H2 => ∃ a C dx fs, x = .ref a ∧ H2 a = some (.ins C dx fs) ∧ Cls K C ∧ NoAttr K C f ∧ fs.length < 1000 ∧
  D.nx σ (upd H2 a (.ins C dx (putF f y fs)))
section
variable {X : Cx} {o e value : Expr} {f : Str} {pos pos' tpos : Pos} {ta tv : TE}
theorem pe_fld (he : PE X e ta) (hb : attributeBase e f X.env (eval e X.env) = eval e X.env) : PE X (.Attribute e f pos) (tFld X.K ta f) := by
  intro pins s σ H Q I h
  refine attr_of hb (thn (he pins s σ H _ I h) fun u s1 ⟨x, H1, I1, rx, a, C, dx, fs, v, ex, ea, c, n, l, q⟩ => ?_)
  subst ex
  obtain rfl : u = Value.ref a := rx
  exact getattr_ok I1 ea c n l fun u' s2 I2 ru => ⟨v, H1, I2, ru, q⟩
theorem ps_fld (ha : PE X o ta) (hv : PE X value tv) (hs : swapsWith value (some (.Attribute o f pos')) pos.line X.env = pure false) : PS X (.Assign [.Attribute o f pos'] value pos) (sFld X.K ta tv f) := by
  intro pins s σ H D I h
  refine plainObj_wpAny_Assign_Attribute (thn (hv pins s σ H _ I h) fun u s1 ⟨y, H1, I1, ry, q⟩ => thn (ha pins s1 σ H1 _ I1 q) fun ov s2 ⟨x, H2, I2, rx, a, C, dx, fs, ex, ea, c, n, l, q2⟩ => ?_) hs
  subst ex
  obtain rfl : ov = Value.ref a := rx
  exact setattr_ok I2 ea c n l ry fun s3 I3 => ⟨σ, _, I3, q2⟩
end

section
variable {X : Cx} {pins : List (Addr × Obj)} {σ : St} {H : Hp} {s : Shared} {A : Around} {E : Value → Shared → Prop} {Q : Value → Shared → Prop} {c : Value} {b : Bool}
inductive TyOf (K : PySem.W.Frag) (H : Hp) : V → Value → Prop where
  | non : TyOf K H .non (.type "NoneType")
  | bl (x : Bool) : TyOf K H (.bl x) (.type "bool")
  | int (i : Int) : TyOf K H (.int i) (.type "int")
  | str (x : Str) : TyOf K H (.str x) (.type "str")
  | flt (x : UInt64) : TyOf K H (.flt x) (.type "float")
  | lst {a : Addr} {xs : List V} (e : H a = some (.lst xs)) : TyOf K H (.ref a) (.type "list")
  | frz {a : Addr} {o : Obj} {xs : List V} (e : H a = some (.frz o (.lst xs))) : TyOf K H (.ref a) (.type "list")
  | tup {a : Addr} {xs : List V} (e : H a = some (.tup xs)) : TyOf K H (.ref a) (.type "tuple")
  | dK {a : Addr} {kvs : List (Key × V)} (e : H a = some (.dK kvs)) : TyOf K H (.ref a) (.type "dict")
  | dT {a : Addr} {kvs : List (List Key × V)} (e : H a = some (.dT kvs)) : TyOf K H (.ref a) (.type "dict")
  | ins {a C dx : Addr} {fs : List (Str × V)} (e : H a = some (.ins C dx fs)) (cl : Cls K C) (ha : PySem.W.findIn K (.ref C) "__class__" = some (some (.builtin "object.__class__")))
      (hn : PySem.W.specialIn K (.builtin "object.__class__") "__get__" = some (some (.builtin "getset_descriptor.__get__"))) (htk : PySem.W.takesIn K (.builtin "object.__class__") = some true)
      (hm : PySem.W.mroIn K C (.type "object") = some true) : TyOf K H (.ref a) (.ref C)
theorem isinst_ok {x : V} {u t : Value} (I : Inv X pins σ H s) (rx : RelV x u) (ty : TyOf X.K H x t) (e : PySem.W.kitOne X.K t c = some b) (h : ∀ tk, Q (.bool b) { s with toks := tk }) :
    wpAny (model X.prog X.w) A (call (.builtin "isinstance") [u, c]) Q E s := by
  cases ty with
  | non => cases (show u = Value.none from rx); exact PySem.W.kia_one PySem.W.kitx_none I.kIn True.intro e (fun z => nomatch z) h
  | bl y => cases (show u = Value.bool y from rx); exact PySem.W.kia_one PySem.W.kitx_bool I.kIn True.intro e (fun z => nomatch z) h
  | int i => obtain ⟨t, q⟩ := (show ∃ t, u = Value.int i t from rx); cases q; exact PySem.W.kia_one PySem.W.kitx_int I.kIn True.intro e (fun z => nomatch z) h
  | str y => obtain ⟨t, q⟩ := (show ∃ t, u = Value.str y t from rx); cases q; exact PySem.W.kia_one PySem.W.kitx_str I.kIn True.intro e (fun z => nomatch z) h
  | flt y => obtain ⟨t, q⟩ := (show ∃ t, u = Value.float y t from rx); cases q; exact PySem.W.kia_one PySem.W.kitx_float I.kIn True.intro e (fun z => nomatch z) h
  | @lst a xs ea =>
    cases (show u = Value.ref a from rx)
    obtain ⟨_, _, n, _, h1⟩ := (show ObjOk X.prog X.w H s.heap a (.lst xs) from I.hok a _ ea)
    exact PySem.W.kia_one PySem.W.kitx_list I.kIn ⟨_, h1, rfl⟩ e (fun z => nomatch z) h
  | @frz a ob xs ea =>
    cases (show u = Value.ref a from rx)
    obtain ⟨_, _, _, n, _, h1⟩ := (show ObjOk X.prog X.w H s.heap a (.frz ob (.lst xs)) from I.hok a _ ea)
    exact PySem.W.kia_one PySem.W.kitx_list I.kIn ⟨_, h1, rfl⟩ e (fun z => nomatch z) h
  | @tup a xs ea =>
    cases (show u = Value.ref a from rx)
    obtain ⟨_, _, _, p⟩ := (show ObjOk X.prog X.w H s.heap a (.tup xs) from I.hok a _ ea)
    obtain ⟨o, h1, h2, _⟩ := p
    exact PySem.W.kia_one PySem.W.kitx_tuple I.kIn ⟨o, h1, h2⟩ e (fun z => nomatch z) h
  | @dK a kvs ea =>
    cases (show u = Value.ref a from rx)
    obtain ⟨_, _, vs, _, p⟩ := (show ObjOk X.prog X.w H s.heap a (.dK kvs) from I.hok a _ ea)
    obtain ⟨o, es, ep, h1, h2, _⟩ := p
    exact PySem.W.kia_one PySem.W.kitx_dict I.kIn ⟨o, h1, h2.1⟩ e (fun z => nomatch z) h
  | @dT a kvs ea =>
    cases (show u = Value.ref a from rx)
    obtain ⟨_, _, xs, _, o, es, ep, h1, h2, _⟩ := (show ObjOk X.prog X.w H s.heap a (.dT kvs) from I.hok a _ ea)
    exact PySem.W.kia_one PySem.W.kitx_dict I.kIn ⟨o, h1, h2.1⟩ e (fun z => nomatch z) h
  | @ins a C dx fs ea cl ha hn htk hm =>
    cases (show u = Value.ref a from rx)
    obtain ⟨mA, O, _⟩ := ins_get I.hok ea
    obtain ⟨od, J, _⟩ := O.look
    exact PySem.W.kia_one (PySem.W.kitx_own (cl.get _) cl.hd ha hn htk hm) I.kIn J e (fun z => nomatch z) h
end
end L2

namespace L2
open PySem PySem.Spec PyProof.Rows

structure Room (k : Nat) (A : Around) : Prop where
  hd : A.handled = none
  dp : A.depth + 3 * k + 5 < recursionLimit
  un : A.units + 16 * k + 200 < cLine
theorem Room.mono {j k : Nat} {A : Around} (r : Room k A) (h : j ≤ k) : Room j A := ⟨r.hd, by have := r.dp; omega, by have := r.un; omega⟩
theorem Room.deeper {k : Nat} {A : Around} (r : Room (k + 1) A) (env : Env) : Room k (A.deeper env) :=
  ⟨r.hd, by have := r.dp; show A.depth + 1 + 3 * k + 5 < _; omega, by have := r.un; show A.units + 3 + 16 * k + 200 < _; omega⟩
theorem make_depth {A : Around} {C : Addr} {us : List Value} {kw : List (Str × Value)} : (A.under (.builtin "type.__call__" ⟨.ref C :: us, kw⟩)).depth = A.depth + 1 := by
  first | rfl | simp [Around.under, Code.weight, Code.isCreation, Code.isGuard, Code.isCaller, Code.frames, Code.isFrame, guardIds]
theorem make_units {A : Around} {C : Addr} {us : List Value} {kw : List (Str × Value)} : (A.under (.builtin "type.__call__" ⟨.ref C :: us, kw⟩)).units = A.units + 1 := by
  first | rfl | simp [Around.under, Code.cUnits, Code.frames, Code.isFrame]
theorem Room.make {k : Nat} {A : Around} (r : Room (k + 1) A) (C : Addr) (us : List Value) (kw : List (Str × Value)) : Room k (A.under (.builtin "type.__call__" ⟨.ref C :: us, kw⟩)) :=
  ⟨r.hd, by have := r.dp; rw [make_depth]; omega, by have := r.un; rw [make_units]; omega⟩
theorem Room.depth {k : Nat} {A : Around} (r : Room k A) : A.depth < recursionLimit := by have := r.dp; omega
theorem Room.units {k : Nat} {A : Around} (r : Room k A) : A.units + 64 < cLine := by have := r.un; omega
theorem Room.units0 {k : Nat} {A : Around} (r : Room k A) : A.units < cLine := by have := r.un; omega

def tNil : TA := fun _ H Q => Q [] H
def tCons (ta : TE) (tr : TA) : TA := fun σ H Q => ta σ H fun x H1 => tr σ H1 fun xs H2 => Q (x :: xs) H2
section
variable {X : Cx} {e : Expr} {es : List Expr} {te : TE} {t : TA} {pos : Pos}
theorem pa_nil : PA X [] tNil := fun _ _ _ _ H Q I h => Calls.spliced_nil ⟨[], H, I, .nil, h⟩
theorem pa_cons (ha : PE X e te) (hr : PA X es t) (hs : starEach (e :: es) X.env = (false, eval e X.env) :: starEach es X.env := by rfl) : PA X (e :: es) (tCons te t) := by
  intro pos pins s σ H Q I h
  rw [hs]
  show wpAny _ _ (spliced ((false, eval e X.env) :: backTo pos (starEach es X.env))) _ _ s
  refine Calls.spliced_cons (thn (ha pins s σ H _ I h) fun u s1 ⟨x, H1, I1, r1, q1⟩ => ?_)
  exact thn (hr pos pins s1 σ H1 _ I1 q1) fun us s2 ⟨xs, H2, I2, r2, q2⟩ => ⟨x :: xs, H2, I2, .cons r1 r2, q2⟩

def tTup (t : TA) : TE := fun σ H Q => t σ H fun xs H1 => xs.length ≤ sizeLine ∧ ∀ p, H1 p = none → Q (.ref p) (upd H1 p (.tup xs))
def tLst (t : TA) : TE := fun σ H Q => t σ H fun xs H1 => xs.length ≤ sizeLine ∧ ∀ p, H1 p = none → Q (.ref p) (upd H1 p (.lst xs))
theorem pe_tup {x1} (h : PA X es t) : PE X (.Tuple es x1 pos) (tTup t) := by
  intro pins s σ H Q I hq
  refine wpAny_Tuple_spliced (thn (h pos pins s σ H _ I hq) fun us s1 ⟨xs, H1, I1, r, z, q⟩ => ⟨by rw [← r.length]; exact z, ?_⟩)
  have hf : H1 s1.heap.objs.size = none := I1.hok.fresh (Nat.le_refl _)
  refine ⟨.ref s1.heap.objs.size, upd H1 s1.heap.objs.size (.tup xs), I1.laid (t' := s1.toks) (fun b u e => Heap.get?_push_of_some _ e) (Nat.le_refl _) ?_, rfl, q _ hf⟩
  exact ⟨z, us, r, ⟨_, Heap.get?_push_size _ rfl, rfl, _, rfl⟩⟩
theorem pe_lst (h : PA X es t) : PE X (.List es pos) (tLst t) := by
  intro pins s σ H Q I hq
  refine wpAny_List_spliced (thn (h pos pins s σ H _ I hq) fun us s1 ⟨xs, H1, I1, r, z, q⟩ => ⟨by rw [← r.length]; exact z, ?_⟩)
  have hf : H1 s1.heap.objs.size = none := I1.hok.fresh (Nat.le_refl _)
  refine ⟨.ref s1.heap.objs.size, upd H1 s1.heap.objs.size (.lst xs), I1.laid (t' := s1.toks) (fun b u e => Heap.get?_push_of_some _ e) (Nat.le_refl _) ?_, rfl, q _ hf⟩
  exact ⟨z, us, 0, r, Heap.get?_push_size _ rfl⟩
end

abbrev Sp := List V → Hp → VK → XK → Prop
abbrev CXT := List Env → Hp → Shared → XK → Value → Shared → Prop

structure Env0 (P : Program) (w : World) (K : PySem.W.Frag) (mg : Str → Option Value) (base : Heap) (A : Around) (outer : List Env) (s : Shared) (H : Hp) : Prop where
  frames : A.frames = some outer
  mod : Mod K mg base
  bs : ∀ b o, base.get? b = some o → s.heap.get? b = some o ∧ H b = none
  bsz : base.objs.size ≤ s.heap.objs.size
  funs : s.heap.FunFrames base outer
  frf : ∀ b ∈ frs outer, H b = none
  hok : HOk P w H s.heap
  bare : AllBare s.gens
def CE (outer : List Env) (P : Program) (w : World) (H : Hp) (s : Shared) (Q : VK) (u : Value) (s' : Shared) : Prop :=
  ∃ v H', s'.os = s.os ∧ AllBare s'.gens ∧ Un (frs outer) [] H H' s.heap s'.heap ∧ HOk P w H' s'.heap ∧ RelV v u ∧ Q v H'
def CR (CX : CXT) (outer : List Env) (P : Program) (w : World) (H : Hp) (s : Shared) (Q : VK) (E : XK) (r : Result) (s' : Shared) : Prop :=
  match r with
  | .ok (.ret u) => CE outer P w H s Q u s'
  | .ok _ => False
  | .error e => CX outer H s E e s'
structure FnOk (P : Program) (w : World) (K : PySem.W.Frag) (mg : Str → Option Value) (base : Heap) (CX : CXT) (k : Nat) (f : Addr) (fd : FuncData) (ps : List Str) (sp : Sp) : Prop where
  len : ∀ vs H Q E, sp vs H Q E → vs.length = ps.length
  run : ∀ (A : Around) (outer : List Env) (s : Shared) (H : Hp) (args : Args) (us : List Value) (vs : List V) (Q : VK) (E : XK), Room k A → Env0 P w K mg base A outer s H → BindsTo s fd args (ps.zip us) → Vals vs us → sp vs H Q E →
    codeAny (model P w) A (.call (.ref f) args) (CR CX outer P w H s Q E) s
theorem FnOk.mono {P : Program} {w : World} {K : PySem.W.Frag} {mg : Str → Option Value} {base : Heap} {CX : CXT} {j k : Nat} {f : Addr} {fd : FuncData} {ps : List Str} {sp : Sp} (F : FnOk P w K mg base CX j f fd ps sp) (h : j ≤ k) :
    FnOk P w K mg base CX k f fd ps sp := ⟨F.len, fun A outer s H args us vs Q E hr => F.run A outer s H args us vs Q E (hr.mono h)⟩
theorem Env0.make {P : Program} {w : World} {K : PySem.W.Frag} {mg : Str → Option Value} {base : Heap} {A : Around} {outer : List Env} {s : Shared} {H : Hp} (e : Env0 P w K mg base A outer s H) (C : Addr) (us : List Value) (kw : List (Str × Value)) :
    Env0 P w K mg base (A.under (.builtin "type.__call__" ⟨.ref C :: us, kw⟩)) outer s H := ⟨by first | exact e.frames | (simpa [Around.under, Code.envs, Code.isFrame, pushEnvs] using e.frames), e.mod, e.bs, e.bsz, e.funs, e.frf, e.hok, e.bare⟩
section
variable {X : Cx} {pins : List (Addr × Obj)} {σ : St} {H : Hp} {s s' : Shared}
theorem Inv.env0 (I : Inv X pins σ H s) : Env0 X.prog X.w X.K X.mg X.base X.A X.stack s H :=
  ⟨I.ok.frames, I.ok.mod, I.bs, Nat.le_trans I.ok.bsz I.sz, I.stack, I.stkFree, I.hok, I.bare⟩
theorem Inv.after {Q : VK} {u : Value} (I : Inv X pins σ H s) (h : CE X.stack X.prog X.w H s Q u s') : EP X pins σ Q u s' := by
  obtain ⟨v, H', os, bare, un, hok, r, q⟩ := h
  obtain ⟨hh, g, d, t, os'⟩ := s'
  obtain rfl : os' = s.os := os
  exact ⟨v, H', I.call (h' := hh) (g' := g) (d' := d) (t' := t) (ch := []) un hok bare (fun b z => absurd z (by simp)), r, q⟩
end

def tCall (sp : Sp) (dvs : List V) (E : XK) (t : TA) : TE := fun σ H Q => t σ H fun vs H1 => sp (vs ++ dvs) H1 Q E
def Binds (K : PySem.W.Frag) (fd : FuncData) (ps : List Str) (ds : List Value) : Prop :=
  ∀ (s : Shared) (us : List Value), K.In s.heap → (us ++ ds).length = ps.length → BindsTo s fd ⟨us, []⟩ (ps.zip (us ++ ds))
theorem Binds.all {K : PySem.W.Frag} {fd : FuncData} {ps : List Str} (h : ∀ us : List Value, us.length = ps.length → bindArgs fd ⟨us, []⟩ = pure (ps.zip us)) : Binds K fd ps [] := fun s us _ hl => by
  rw [List.append_nil] at hl ⊢
  exact .of_eq (h us hl)

def Passes (CX : CXT) (X : Cx) (E : XK) : Prop := ∀ (pins : List (Addr × Obj)) (σ : St) (H : Hp) (s : Shared) (e : Value) (s' : Shared), Inv X pins σ H s → CX X.stack H s E e s' → X.xe e s'

section
variable {X : Cx} {CX : CXT} {k : Nat} {f C : Addr} {fd : FuncData} {ps : List Str} {sp : Sp} {dvs : List V} {ds : List Value} {E : XK} {x m : Str} {p pos apos : Pos} {e o : Expr} {es : List Expr} {ta : TE} {t : TA}

theorem run_fn {pins : List (Addr × Obj)} {σ : St} {H : Hp} {s : Shared} {Q : VK} {us : List Value} {vs : List V} (F : FnOk X.prog X.w X.K X.mg X.base CX k f fd ps sp) (hr : Room k X.A) (hb : Binds X.K fd ps ds) (hd : Vals dvs ds) (hx : Passes CX X E)
    (I : Inv X pins σ H s) (r : Vals vs us) (h : sp (vs ++ dvs) H Q E) : wpAny (model X.prog X.w) X.A (call (.ref f) us) (EP X pins σ Q) X.xe s := by
  have r2 : Vals (vs ++ dvs) (us ++ ds) := r.append hd
  have hl : (us ++ ds).length = ps.length := by rw [← r2.length]; exact F.len _ _ _ _ h
  refine wpAny_call (codeAny_mono (F.run X.A X.stack s H ⟨us, []⟩ (us ++ ds) (vs ++ dvs) Q E hr I.env0 (hb s us I.kIn hl) r2 h) fun r s' hq => ?_)
  cases r with
  | error e => exact hx pins σ H s e s' I hq
  | ok fl =>
    cases fl with
    | ret u => exact I.after hq
    | next => exact False.elim hq
    | brk => exact False.elim hq
    | cont => exact False.elim hq

theorem pe_call (F : FnOk X.prog X.w X.K X.mg X.base CX k f fd ps sp) (hr : Room k X.A) (hg : Gl X x) (hm : X.mg x = some (.ref f)) (hk : PySem.W.keepIn X.K (.ref f) = true) (hb : Binds X.K fd ps ds) (hd : Vals dvs ds) (hx : Passes CX X E)
    (ha : PA X (e :: es) t) (hdb : (x == ("__debug__" : Str)) = false := by decide) (he : starEach (e :: es) X.env = (false, eval e X.env) :: starEach es X.env := by rfl) (hpl : (backTo pos (starEach es X.env)).any (·.1) = false := by rfl) :
    PE X (.Call (.Name x p) (e :: es) [] pos) (tCall sp dvs E t) := by
  intro pins s σ H Q I h
  refine wpAny_Call_Name_kw (ld_glob I hg hm ?_ hdb)
  refine PySem.W.callWith_K (h₀ := X.base) I.ok.mod.kin hk (thn (ha pos pins s σ H _ I h) fun us s1 ⟨vs, H1, I1, r, q⟩ => ⟨I1.kIn, ?_⟩) he hpl
  exact run_fn F hr hb hd hx I1 r q
structure Mk (K : PySem.W.Frag) (C f : Addr) : Prop where
  makes : PySem.W.makesIn K C = true
  init : PySem.W.findIn K (.ref C) "__init__" = some (some (.ref f))
  fn : PySem.W.isFn K (.ref f) = true
  kp : PySem.W.keepIn K (.ref C) = true

end

section
variable {X : Cx} {CX : CXT} {k : Nat} {f C : Addr} {fd : FuncData} {ps ks : List Str} {sp : Sp} {E : XK} {x m : Str} {p pos apos kpos : Pos} {e o : Expr} {es : List Expr} {kws : List Keyword} {te ta : TE} {t tk : TA} {nm : Option Str}
structure KBinds (K : PySem.W.Frag) (fd : FuncData) (ps ks : List Str) (g : List Value → List Value → List Value) (gV : List V → List V → List V) : Prop where
  to : ∀ (s : Shared) (us ws : List Value), K.In s.heap → (g us ws).length = ps.length → BindsTo s fd ⟨us, ks.zip ws⟩ (ps.zip (g us ws))
  rel : ∀ {vs : List V} {us : List Value} {zs : List V} {ws : List Value}, Vals vs us → Vals zs ws → Vals (gV vs zs) (g us ws)
variable {g : List Value → List Value → List Value} {gV : List V → List V → List V}
end

structure FnScope (N P : List Str) (sc : Scope) : Prop where
  kind : sc.kind = .function
  co : sc.isCoroutine = false
  gen : sc.isGenerator = false
  nd : N.Nodup
  pre : N.take P.length = P
  par : ∀ x ∈ P, sc.names.lookup x = some .local ∨ sc.names.lookup x = some .cell
  nofree : ∀ y ∈ sc.names, y.2 ≠ .free

theorem bindL_out {kindOf : Str → Option NameKind} {x : Str} : ∀ {binds : List (Str × Value)} {m : Str → Option Value}, (∀ v, (x, v) ∉ binds) → bindL kindOf binds m x = m x
  | [], _, _ => rfl
  | (n, v) :: r, m, h => by
    unfold bindL
    rw [bindL_out fun w hw => h w (List.mem_cons_of_mem _ hw)]
    split
    · have : x ≠ n := by rintro rfl; exact h v List.mem_cons_self
      simp [this]
    · rfl
theorem bindC_out {kindOf : Str → Option NameKind} {x : Str} : ∀ {binds : List (Str × Value)} {m : Str → Option Value}, (∀ v, (x, v) ∉ binds) → bindC kindOf binds m x = m x
  | [], _, _ => rfl
  | (n, v) :: r, m, h => by
    unfold bindC
    rw [bindC_out fun w hw => h w (List.mem_cons_of_mem _ hw)]
    split
    · rfl
    · have : x ≠ n := by rintro rfl; exact h v List.mem_cons_self
      simp [this]
theorem bindL_get {kindOf : Str → Option NameKind} {x : Str} {v : Value} : ∀ {P : List Str} {vs : List Value} {i : Nat} {m : Str → Option Value}, P.Nodup → P[i]? = some x → vs[i]? = some v → kindOf x = some .local →
    bindL kindOf (P.zip vs) m x = some v
  | [], _, _, _, _, h, _, _ => by simp at h
  | _ :: _, [], _, _, _, _, h, _ => by simp at h
  | p :: P, w :: vs, 0, m, nd, h1, h2, hk => by
    simp at h1 h2; subst h1; subst h2
    show bindL kindOf ((p, w) :: P.zip vs) m p = _
    unfold bindL
    rw [bindL_out fun v hv => (List.nodup_cons.mp nd).1 (List.of_mem_zip hv).1, if_pos hk]
    simp
  | p :: P, w :: vs, i + 1, m, nd, h1, h2, hk => by
    show bindL kindOf ((p, w) :: P.zip vs) m x = _
    unfold bindL
    exact bindL_get (i := i) (List.nodup_cons.mp nd).2 (by simpa using h1) (by simpa using h2) hk
theorem bindC_get {kindOf : Str → Option NameKind} {x : Str} {v : Value} : ∀ {P : List Str} {vs : List Value} {i : Nat} {m : Str → Option Value}, P.Nodup → P[i]? = some x → vs[i]? = some v → kindOf x ≠ some .local →
    bindC kindOf (P.zip vs) m x = some v
  | [], _, _, _, _, h, _, _ => by simp at h
  | _ :: _, [], _, _, _, _, h, _ => by simp at h
  | p :: P, w :: vs, 0, m, nd, h1, h2, hk => by
    simp at h1 h2; subst h1; subst h2
    show bindC kindOf ((p, w) :: P.zip vs) m p = _
    unfold bindC
    rw [bindC_out fun v hv => (List.nodup_cons.mp nd).1 (List.of_mem_zip hv).1, if_neg hk]
    simp
  | p :: P, w :: vs, i + 1, m, nd, h1, h2, hk => by
    show bindC kindOf ((p, w) :: P.zip vs) m x = _
    unfold bindC
    exact bindC_get (i := i) (List.nodup_cons.mp nd).2 (by simpa using h1) (by simpa using h2) hk

def start (N : List Str) (vs : List V) : St := vs.map some ++ List.replicate (N.length - vs.length) none

def cxOf (CX : CXT) (P : Program) (w : World) (K : PySem.W.Frag) (mg : Str → Option Value) (base : Heap) (N : List Str) (qual : Str) (scope : Scope) (f : Addr) (cd : Value) (A : Around) (outer : List Env) (s : Shared) (H : Hp) (E : XK) : Cx where
  prog := P
  w := w
  K := K
  mg := mg
  base := base
  A := A.deeper (envOfC qual scope s.heap.objs.size f cd)
  N := N
  s₀ := s
  H₀ := H
  env := envOfC qual scope s.heap.objs.size f cd
  outer := outer
  stack := envOfC qual scope s.heap.objs.size f cd :: outer
  ex := []
  calm := true
  fn := fun _ => true
  pn := []
  xe := fun e s' => wpAny (model P w) (A.deeper (envOfC qual scope s.heap.objs.size f cd)) (leaving (envOfC qual scope s.heap.objs.size f cd) e) (fun _ s'' => CX outer H s E e s'') (fun e' s'' => CX outer H s E e' s'') s'

theorem cell_has {sc : Scope} {n : Nat} {x : Str} (h : sc.names.lookup x = some .cell) : ∃ c, (cellsFrom n sc.names []).lookup x = some c := by
  have q := PySem.W.cellsFrom_some sc.names n [] (.inl h)
  exact Option.isSome_iff_exists.mp q

theorem inv_start {CX : CXT} {P : Program} {w : World} {K : PySem.W.Frag} {mg : Str → Option Value} {base : Heap} {N ps : List Str} {qual : Str} {scope : Scope} {f : Addr} {cd : Value} {A : Around} {outer : List Env} {s s1 : Shared} {H : Hp} {E : XK} {us : List Value} {vs : List V}
    (S : FnScope N ps scope) (hd : A.handled = none) (e0 : Env0 P w K mg base A outer s H) (hl : vs.length = ps.length) (r : Vals vs us)
    (x : InCallC s s.heap.objs.size (bindL (envOfC qual scope s.heap.objs.size f cd).kindOf (ps.zip us) fun _ => none) (cellsFrom (s.heap.objs.size + 1) scope.names []) (bindC (envOfC qual scope s.heap.objs.size f cd).kindOf (ps.zip us) fun _ => none) s1) :
    Inv (cxOf CX P w K mg base N qual scope f cd A outer s H E) [] (start N vs) H s1 := by
  have hpl : ps.length ≤ N.length := by have := congrArg List.length S.pre; rw [List.length_take] at this; omega
  obtain ⟨h1, tk, rfl, hk⟩ := x.done
  have noA : ∀ b : Addr, b ∉ (cxOf CX P w K mg base N qual scope f cd A outer s H E).ex := fun b z => absurd (show b ∈ ([] : List Addr) from z) (by simp)
  refine ⟨⟨e0.mod, S.kind, rfl, rfl, Nat.le_refl _, fun y z c h1 h2 => ?_, fun y hy => ?_, fun y c _ h => ?_, fun _ => hd, Around.frames_deeper e0.frames, .inr ⟨rfl, rfl⟩, fun b z => absurd z (noA b), e0.bs, e0.bsz, fun b _ _ => noA b, fun b z => absurd z (noA b), e0.funs, e0.frf⟩,
    rfl, e0.bare, Un.kept hk, ⟨_, x.toInCall.ns, fun i y v h1 h2 h3 => ?_⟩, fun y c h => ⟨_, x.cell y c h⟩, e0.hok.fresh (Nat.le_refl _), fun y c h => ?_, fun p hp => absurd (show p ∈ ([] : List (Addr × Obj)) from hp) (by simp), e0.hok.kept hk, ?_⟩
  · exact name_of_addr x.apart (PySem.mem_of_lookup h1) (PySem.mem_of_lookup h2)
  · have hy : scope.names.lookup y = some .cell ∨ scope.names.lookup y = some .free := hy
    rcases hy with hy | hy
    · exact cell_has hy
    · exact absurd rfl (S.nofree _ (PySem.mem_of_lookup hy))
  · exact Nat.le_of_lt (x.above y c (PySem.mem_of_lookup h))
  · have hi : i < vs.length := by
      unfold start at h2
      by_cases hi : i < vs.length
      · exact hi
      · rw [List.getElem?_append_right (by simpa using hi)] at h2
        rw [List.getElem?_replicate] at h2
        split at h2 <;> cases h2
    have ha : vs[i]? = some v := by
      unfold start at h2
      rw [List.getElem?_append_left (by simpa using hi), List.getElem?_map] at h2
      cases e : vs[i]? with
      | none => rw [e] at h2; cases h2
      | some a => rw [e] at h2; cases h2; rfl
    obtain ⟨u, hu, rv⟩ := r.get ha
    have hp : ps[i]? = some y := by
      rw [← S.pre, List.getElem?_take_of_lt (by omega)]; exact h1
    have ndP : ps.Nodup := by rw [← S.pre]; exact S.nd.sublist (List.take_sublist _ _)
    refine ⟨u, rv, ?_⟩
    rcases S.par y (List.mem_of_getElem? hp) with k | k
    · exact .inl ⟨k, bindL_get ndP hp hu k⟩
    · obtain ⟨c, e⟩ := cell_has (n := s.heap.objs.size + 1) k
      refine .inr ⟨.inl k, c, e, ?_⟩
      have q := x.cell y c e
      rw [bindC_get ndP hp hu (by show scope.names.lookup y ≠ _; rw [k]; decide)] at q
      exact q
  · exact e0.hok.fresh (Nat.le_of_lt (x.above y c (PySem.mem_of_lookup h)))
  · unfold start
    show _ = N.length
    rw [List.length_append, List.length_map, List.length_replicate]
    omega

theorem fn_of {CX : CXT} {P : Program} {w : World} {K : PySem.W.Frag} {mg : Str → Option Value} {base : Heap} {k : Nat} {f : Addr} {name qual : Str} {params : Arguments} {body : List Stmt} {scope : Scope} {dV kV doc pm cdv ct oc : Value} {an od : Option Addr}
    {osl : Array (Option Value)} {N ps : List Str} {sp : Sp} (lk : K.lookup f = some ⟨oc, od, .func (PySem.W.fnOf name qual params body scope dV kV doc pm an cdv ct), osl⟩) (hcd : PySem.W.codeIn K cdv qual = true) (S : FnScope N ps scope)
    (len : ∀ vs H Q E, sp vs H Q E → vs.length = ps.length)
    (hbody : ∀ (A : Around) (outer : List Env) (s : Shared) (H : Hp) (vs : List V) (Q : VK) (E : XK), Room k (A.deeper (envOfC qual scope s.heap.objs.size f cdv)) → sp vs H Q E →
      ∃ t, PSs (cxOf CX P w K mg base N qual scope f cdv A outer s H E) body t ∧ t { nx := fun _ H' => Q .non H', rt := Q } (start N vs) H) :
    FnOk P w K mg base CX (k + 1) f (PySem.W.fnOf name qual params body scope dV kV doc pm an cdv ct) ps sp := by
  refine ⟨len, fun A outer s H args us vs Q E hr e0 hb r hsp => ?_⟩
  have hl := len _ _ _ _ hsp
  have KX : K.In s.heap := e0.mod.kin.keeps fun b o e => (e0.bs b o e).1
  have lim : s.heap.NoLimit := e0.mod.nolimit.keeps fun b o e => (e0.bs b o e).1
  have hkind : ∀ y ∈ ps.zip us, scope.names.lookup y.1 = some .local ∨ (scope.names.lookup y.1 = some .cell ∧ ((cellsFrom (s.heap.objs.size + 1) scope.names []).lookup y.1).isSome = true) := fun ⟨n, v⟩ hy => by
    rcases S.par n (List.of_mem_zip hy).1 with q | q
    · exact .inl q
    · exact .inr ⟨q, PySem.W.cellsFrom_some _ _ _ (.inl q)⟩
  refine codeAny_call_function hr.depth (KX _ _ lk) rfl S.co S.gen rfl (PySem.W.codeRec_of KX hcd) (hb _ _ _ _ ?_)
  refine wpAny_newFunctionEnv_cells S.kind hkind fun env he s1 x => ?_
  subst he
  refine ⟨lim.keeps x.toInCall.keep, codeAny_func ?_⟩
  obtain ⟨t, ht, hq⟩ := hbody A outer s H vs Q E (hr.deeper _) hsp
  have I : Inv (cxOf CX P w K mg base N qual scope f cdv A outer s H E) [] (start N vs) H s1 := inv_start S hr.hd e0 hl r x
  refine wpAny_mono (ht [] s1 (start N vs) H _ I hq) (fun fl s' hs => ?_) fun e s' hs => hs
  have fin : ∀ {σ' : St} {H' : Hp} {v : V} {u : Value}, Inv (cxOf CX P w K mg base N qual scope f cdv A outer s H E) [] σ' H' s' → RelV v u → Q v H' → CE outer P w H s Q u s' :=
    fun {σ' H' v u} J rv q => ⟨v, H', J.os, J.bare, J.base, J.hok, rv, q⟩
  cases fl with
  | ret u =>
    obtain ⟨v, σ', H', J, rv, q⟩ := hs
    exact fin J rv q
  | next =>
    obtain ⟨σ', H', J, q⟩ := hs
    exact fin (v := V.non) (u := Value.none) J rfl q
  | brk =>
    obtain ⟨_, _, _, q⟩ := hs
    exact False.elim q
  | cont =>
    obtain ⟨_, _, _, q⟩ := hs
    exact False.elim q
end L2

namespace L2
open PySem PySem.Spec PyProof.Rows
section
variable {X : Cx} {x : Str} {p pos : Pos} {e : Expr} {es : List Expr} {t : TA} {id T : String} {r : List V → Hp → VK → Prop}

def tCB (r : List V → Hp → VK → Prop) (t : TA) : TE := fun σ H Q => t σ H fun vs H1 => r vs H1 Q
theorem pe_callB (hc : CallR X (.builtin id) r) (hg : Gl X x) (hm : X.mg x = none) (hv : bootBuiltins x = some (.builtin id)) (ha : PA X (e :: es) t) (hn : x ≠ "__name__" := by decide) (hdb : (x == ("__debug__" : Str)) = false := by decide)
    (he : starEach (e :: es) X.env = (false, eval e X.env) :: starEach es X.env := by rfl) (hpl : (backTo pos (starEach es X.env)).any (·.1) = false := by rfl) : PE X (.Call (.Name x p) (e :: es) [] pos) (tCB r t) := by
  intro pins s σ H Q I h
  refine wpAny_Call_Name_kw (ld_blt I hg hm hv ?_ hn hdb)
  exact PyProof.Rows.callWith_builtin1 (thn (ha pos pins s σ H _ I h) fun us s1 ⟨vs, H1, I1, r1, q1⟩ => hc pins s1 σ H1 vs us Q I1 r1 q1) he hpl
theorem pe_callTy (hc : CallR X (.type T) r) (hg : Gl X x) (hm : X.mg x = none) (hv : bootBuiltins x = some (.type T)) (ha : PA X (e :: es) t) (hn : x ≠ "__name__" := by decide) (hdb : (x == ("__debug__" : Str)) = false := by decide)
    (he : starEach (e :: es) X.env = (false, eval e X.env) :: starEach es X.env := by rfl) (hpl : (backTo pos (starEach es X.env)).any (·.1) = false := by rfl) : PE X (.Call (.Name x p) (e :: es) [] pos) (tCB r t) := by
  intro pins s σ H Q I h
  refine wpAny_Call_Name_kw (ld_blt I hg hm hv ?_ hn hdb)
  exact PyProof.Rows.callWith_type1 (thn (ha pos pins s σ H _ I h) fun us s1 ⟨vs, H1, I1, r1, q1⟩ => hc pins s1 σ H1 vs us Q I1 r1 q1) he hpl
end
end L2

namespace HT
open PySem PyProof.Rows

section
open PySem.SeqAt
open PySem.AutoSeq1 (wpAny_loadPart')
open PySem.MeetsSeq PySem.MeetsSeq2 PySem.MeetsSeq3

end

section
variable {prog : Program} {w : World} {A : Around} {E : Value → Shared → Prop} {s : Shared}

theorem cat_tup {t b : Addr} {vs ws : List Value} {Q : Value → Shared → Prop} (ht : IsTup s.heap t vs.toArray) (hb : IsTup s.heap b ws.toArray) (hv : vs ≠ [])
    (h1 : ws = [] → Q (.ref t) s) (h2 : ws ≠ [] → Q (.ref s.heap.objs.size) { s with heap := s.heap.push { cls := .type "tuple", data := .seq (vs ++ ws).toArray } })
    (hsz : vs.length + ws.length ≤ sizeLine) : wpAny (model prog w) A (binaryOp .Add (.ref t) (.ref b)) Q E s := by
  obtain ⟨⟨cls, dd, data, sl⟩, ho, hc, n, hd⟩ := id ht
  obtain ⟨⟨cls2, dd2, data2, sl2⟩, ho2, hc2, n2, hd2⟩ := id hb
  simp only at hc hd hc2 hd2
  subst hc hd hc2 hd2
  have e : vs.toArray ++ ws.toArray = (vs ++ ws).toArray := by simp
  by_cases hw : ws = []
  · exact concat_meets ⟨_, ho, rfl⟩ ⟨_, ho2, rfl⟩ noFill_tuple_add seq_tuple_add PySem.F.slot_tuple_add PySem.F.entry_tuple_add (PySem.F.args_tuple_add_2 _ _)
      (tuple_addW1 t b vs.toArray ws.toArray n n2 dd dd2 sl sl2 (by simpa using hv) (by simp [hw])) ⟨ho, ho2, h1 hw⟩
  · refine concat_meets ⟨_, ho, rfl⟩ ⟨_, ho2, rfl⟩ noFill_tuple_add seq_tuple_add PySem.F.slot_tuple_add PySem.F.entry_tuple_add (PySem.F.args_tuple_add_2 _ _)
      (tuple_addW2 t b vs.toArray ws.toArray n n2 dd dd2 sl sl2 (by simpa using hv) (by simpa using hw) (by rw [List.size_toArray, List.size_toArray]; exact hsz)) ⟨ho, ho2, ?_⟩
    rw [e]
    exact h2 hw

def sIx (n d : Nat) : Option Int → Nat
  | none => d
  | some v => if v < 0 then (v + (n : Int)).toNat else min v.toNat n
theorem sIx_none (n d : Nat) : sIx n d none = d := rfl
theorem sIx_nat (n d k : Nat) : sIx n d (some (k : Int)) = min k n := by
  show (if (k : Int) < 0 then ((k : Int) + (n : Int)).toNat else min (k : Int).toNat n) = min k n
  rw [if_neg (by omega), Int.toNat_natCast]
theorem sIx_le (n d : Nat) (hd : d ≤ n) (o : Option Int) : sIx n d o ≤ n := by
  cases o with
  | none => exact hd
  | some v =>
    show (if v < 0 then (v + (n : Int)).toNat else min v.toNat n) ≤ n
    by_cases hv : v < 0
    · rw [if_pos hv]; omega
    · rw [if_neg hv]; exact Nat.min_le_right _ _
theorem clip_eq (v : Int) (n d : Nat) : (if v < 0 then max (v + (n : Int)) 0 else min v (n : Int)) = ((sIx n d (some v) : Nat) : Int) := by
  show (if v < 0 then max (v + (n : Int)) 0 else min v (n : Int)) = (((if v < 0 then (v + (n : Int)).toNat else min v.toNat n) : Nat) : Int)
  by_cases hv : v < 0
  · simp only [if_pos hv]; omega
  · simp only [if_neg hv]; omega
theorem adjust_gen (lo hi : Option Int) (n : Nat) : Builtin.Slice.sliceAdjust lo hi 1 (n : Int) = (((sIx n 0 lo : Nat) : Int), ((sIx n n hi : Nat) : Int)) := by
  have h1 : ¬ ((1 : Int) < 0) := by omega
  unfold Builtin.Slice.sliceAdjust
  simp only [h1, if_false]
  refine Prod.ext ?_ ?_
  · cases lo with
    | none => rfl
    | some v => exact clip_eq v n 0
  · cases hi with
    | none => rfl
    | some v => exact clip_eq v n n
theorem places_gen (i j : Nat) : Builtin.Slice.slicePlaces (i : Int) (j : Int) 1 = j - i := by
  unfold Builtin.Slice.slicePlaces
  have h1 : (1 : Int) > 0 := by omega
  simp only [h1, if_true, Int.ediv_one]
  split <;> omega
theorem slicePart_ {v : Value} {o : Option Int} {Q : Option Int → Shared → Prop} (p : IsPart v o) (h : Q o s) : wpAny (model prog w) A (Builtin.Slice.slicePartIndex v) Q E s := by
  cases p with
  | none => exact slicePart_none h
  | int i t => exact slicePart_int h
theorem sliceApplied_gen {sl : Addr} {vl vu : Value} {lo hi : Option Int} {n : Nat} {Q : Int × Int × Nat → Shared → Prop} (hs : s.heap.IsSliceOf sl vl vu .none) (pl : IsPart vl lo) (pu : IsPart vu hi)
    (h : Q (((sIx n 0 lo : Nat) : Int), 1, sIx n n hi - sIx n 0 lo) s) : wpAny (model prog w) A (Builtin.Slice.sliceApplied (.ref sl) (pure (n : Int))) Q E s := by
  obtain ⟨os, hos, hcs, hds⟩ := id hs
  unfold Builtin.Slice.sliceApplied Builtin.Slice.sliceFields
  refine wpAny_bind (wpAny_bind (wpAny_field hos hds (x := vl) rfl (wpAny_bind (wpAny_field hos hds (x := vu) rfl (wpAny_bind (wpAny_field hos hds (x := .none) rfl (wpAny_pure ?_)))))))
  refine wpAny_bind (slicePart_none ?_)
  show wpAny _ _ (if ((1 : Int) == 0) = true then _ else _) _ _ s
  rw [if_neg (by decide)]
  refine wpAny_bind (slicePart_ pl (wpAny_bind (slicePart_ pu (wpAny_bind (wpAny_pure ?_)))))
  show wpAny _ _ (match Builtin.Slice.sliceAdjust lo hi 1 (n : Int) with | (lo, hi) => pure (lo, (1 : Int), Builtin.Slice.slicePlaces lo hi 1)) _ _ s
  rw [adjust_gen lo hi n]
  show wpAny _ _ (pure (((sIx n 0 lo : Nat) : Int), (1 : Int), Builtin.Slice.slicePlaces ((sIx n 0 lo : Nat) : Int) ((sIx n n hi : Nat) : Int) 1)) _ _ s
  rw [places_gen]
  exact wpAny_pure h
theorem pick_gen (xs : Array Value) (i k : Nat) : ((List.range k).filterMap fun (m : Nat) => xs[((i : Int) + (m : Int) * 1).toNat]?).toArray = ((xs.toList.drop i).take k).toArray := by
  have e : (fun (m : Nat) => xs[((i : Int) + (m : Int) * 1).toNat]?) = fun m => xs[i + m]? := by
    funext m
    have : ((i : Int) + (m : Int) * 1).toNat = i + m := by omega
    rw [this]
  rw [e]
  have := pick_run xs i k
  rw [List.filterMap_map] at this
  have e2 : ((fun x => xs[x]?) ∘ fun x => i + x) = fun m => xs[i + m]? := rfl
  rw [e2] at this
  rw [this]

theorem getItem_tuple_cut {t sl : Addr} {items : Array Value} {vl vu : Value} {lo hi : Option Int} {Q : Value → Shared → Prop} (ht : IsTup s.heap t items) (hs : s.heap.IsSliceOf sl vl vu .none) (pl : IsPart vl lo) (pu : IsPart vu hi)
    (hw : ¬ (sIx items.size 0 lo = 0 ∧ sIx items.size items.size hi = items.size))
    (h : Q (.ref s.heap.objs.size) { s with heap := s.heap.push { cls := .type "tuple", data := .seq ((items.toList.drop (sIx items.size 0 lo)).take (sIx items.size items.size hi - sIx items.size 0 lo)).toArray } })
    (hsz : items.size ≤ sizeLine) : wpAny (model prog w) A (getItem (.ref t) (.ref sl)) Q E s := by
  have htake : sizeOk (.seq ((items.toList.drop (sIx items.size 0 lo)).take (sIx items.size items.size hi - sIx items.size 0 lo)).toArray) := by
    show ((items.toList.drop (sIx items.size 0 lo)).take (sIx items.size items.size hi - sIx items.size 0 lo)).toArray.size ≤ sizeLine
    rw [List.size_toArray, List.length_take, List.length_drop, Array.length_toList]
    omega
  have hj : sIx items.size items.size hi ≤ items.size := sIx_le _ _ (Nat.le_refl _) hi
  obtain ⟨os, hos, hcs, hds⟩ := id hs
  have hTs : s.TypeIs (.ref sl) "slice" := ⟨os, hos, hcs⟩
  unfold getItem
  try with_reducible refine wpAny_holding ?_
  first | refine wpAny_bind (wpAny_pure ?_) | skip
  refine wpAny_bind (wpAny_sequenceKey ht.typeIs (by decide) ?_)
  refine wpAny_bind (wpAny_callSpecial?_slot (name := Str.ofString "__getitem__") ht.typeIs PyProof.Rows.slot_tuple_getitem
    (wpAny_call_entry PyProof.Rows.slot_tuple_getitem ht.typeIs entry_tuple_getitem ?_ (args_tuple_getitem _ _)))
  show wpAny _ _ (Builtin.Tuple.tupleItemsOf (.ref t) >>= _) _ _ s
  refine wpAny_bind (tupleItemsOf_ ht ?_)
  refine wpAny_bind (wpAny_typeOf hTs ?_)
  rw [if_pos (by decide)]
  refine wpAny_bind (sliceApplied_gen hs pl pu ?_)
  have hno : ¬ ((((sIx items.size 0 lo : Nat) : Int) == 0 && (1 : Int) == 1 && (sIx items.size items.size hi - sIx items.size 0 lo) == items.size) = true) := by
    intro q
    rw [Bool.and_eq_true, Bool.and_eq_true] at q
    have q1 : ((sIx items.size 0 lo : Nat) : Int) = 0 := eq_of_beq q.1.1
    have q2 : sIx items.size items.size hi - sIx items.size 0 lo = items.size := eq_of_beq q.2
    exact hw ⟨by omega, by omega⟩
  show wpAny _ _ (if (((sIx items.size 0 lo : Nat) : Int) == 0 && (1 : Int) == 1 && (sIx items.size items.size hi - sIx items.size 0 lo) == items.size) = true then _ else _) _ _ s
  rw [if_neg hno, pick_gen]
  first
    | exact wpAny_bind (m := Builtin.Tuple.tupleExact _) (wpAny_newObj_type (wpAny_pure ⟨_, rfl, wpAny_pure h⟩) htake)
    | exact wpAny_bind (m := Builtin.Tuple.tupleExact _) (wpAny_newObj_type (wpAny_bind (wpAny_pure (wpAny_pure ⟨_, rfl, wpAny_pure h⟩))) htake)
    | exact wpAny_bind (wpAny_bind (m := Builtin.Tuple.tupleExact _) (wpAny_newObj_type (wpAny_pure (wpAny_pure ⟨_, rfl, wpAny_pure h⟩)) htake))
    | exact wpAny_bind (wpAny_bind (m := Builtin.Tuple.tupleExact _) (wpAny_newObj_type (wpAny_pure ⟨_, rfl, wpAny_pure h⟩) htake))
end
end HT

namespace L2
open PySem PySem.Spec PyProof.Rows

abbrev TO := St → Hp → (Option Int → Hp → Prop) → Prop
def PO (X : Cx) (e : Option Expr) (t : TO) : Prop :=
  ∀ (pins : List (Addr × Obj)) (s : Shared) (σ : St) (H : Hp) (Q : Option Int → Hp → Prop), Inv X pins σ H s → t σ H Q →
    wpAny (model X.prog X.w) X.A (evalPart e X.env) (fun u s' => ∃ o H', Inv X pins σ H' s' ∧ IsPart u o ∧ Q o H') X.xe s
def tNoPart : TO := fun _ H Q => Q none H
def tPart (t : TE) : TO := fun σ H Q => t σ H fun x H1 => ∃ i, x = .int i ∧ Q (some i) H1

section
variable {X : Cx} {e : Expr} {te : TE} {lo hi : Option Expr} {tl th : TO} {pos p2 : Pos}

theorem po_none : PO X none tNoPart := by
  intro pins s σ H Q I h
  rw [evalPart_none]
  exact wpAny_pure ⟨none, H, I, .none, h⟩
theorem po_some (h : PE X e te) : PO X (some e) (tPart te) := by
  intro pins s σ H Q I hw
  rw [evalPart_some]
  refine thn (h pins s σ H _ I hw) fun u s1 ⟨x, H1, I1, r1, q1⟩ => ?_
  obtain ⟨i, rfl, q⟩ := q1
  obtain ⟨t, rfl⟩ := r1
  exact ⟨some i, H1, I1, .int i t, q⟩

def SlR (X : Cx) (r : V → Option Int → Option Int → Hp → VK → Prop) : Prop :=
  ∀ (pins : List (Addr × Obj)) (s : Shared) (σ : St) (H : Hp) (x : V) (v vl vu : Value) (lo hi : Option Int) (sl : Addr) (Q : VK), Inv X pins σ H s → RelV x v → s.heap.IsSliceOf sl vl vu .none → IsPart vl lo → IsPart vu hi → r x lo hi H Q →
    ∃ T id, typeLookup (.type T) "__getitem__" = pure (some (.builtin id)) ∧ s.TypeIs v T ∧ wpAny (model X.prog X.w) X.A (getItem v (.ref sl)) (EP X pins σ Q) X.xe s
def tSl (r : V → Option Int → Option Int → Hp → VK → Prop) (te : TE) (tl th : TO) : TE := fun σ H Q => te σ H fun x H1 => tl σ H1 fun l H2 => th σ H2 fun u H3 => r x l u H3 Q
theorem pe_slice {r : V → Option Int → Option Int → Hp → VK → Prop} (hr : SlR X r) (he : PE X e te) (hl : PO X lo tl) (hu : PO X hi th) : PE X (.Subscript e (.Slice lo hi none p2) pos) (tSl r te tl th) := by
  intro pins s σ H Q I h
  refine Subscript_ (thn (he pins s σ H _ I h) fun v s1 ⟨x, H1, I1, r1, q1⟩ => ?_)
  refine wpAny_Slice (thn (hl pins s1 σ H1 _ I1 q1) fun vl s2 ⟨l, H2, I2, pl, q2⟩ => thn (hu pins s2 σ H2 _ I2 q2) fun vu s3 ⟨u, H3, I3, pu, q3⟩ => ?_)
  rw [evalPart_none]
  refine wpAny_pure ?_
  have I4 : Inv X pins σ H3 { s3 with heap := s3.heap.push { cls := .type "slice", data := .fields #[vl, vu, .none] } } := I3.kept (t' := s3.toks) fun b ob q => Heap.get?_push_of_some _ q
  obtain ⟨T, id, hT, ht, hg⟩ := hr pins { s3 with heap := s3.heap.push { cls := .type "slice", data := .fields #[vl, vu, .none] } } σ H3 x v vl vu l u s3.heap.objs.size Q I4 r1 (Heap.IsSliceOf.new ..) pl pu q3
  show wpAny (model X.prog X.w) X.A (subscriptTail e (.Slice lo hi none p2) v (.ref s3.heap.objs.size)) (EP X pins σ Q) X.xe { s3 with heap := s3.heap.push { cls := .type "slice", data := .fields #[vl, vu, .none] } }
  exact tail_any (ops := [.ref s3.heap.objs.size, v]) ht hT hg (by with_unfolding_all rfl)

def cutV (xs : List V) (lo hi : Option Int) : List V := (xs.drop (HT.sIx xs.length 0 lo)).take (HT.sIx xs.length xs.length hi - HT.sIx xs.length 0 lo)
theorem cutV_length (xs : List V) (lo hi : Option Int) : (cutV xs lo hi).length ≤ xs.length := by
  unfold cutV
  rw [List.length_take, List.length_drop]
  omega
theorem Vals.nil_iff {xs : List V} {us : List Value} (r : Vals xs us) : us = [] ↔ xs = [] := by
  cases r with
  | nil => simp
  | cons _ _ => simp
end
end L2

namespace L2
open PySem PySem.Spec PyProof.Rows

def ixN (n : Nat) (i : Int) : Option Nat := if 0 ≤ i then (if i < n then some i.toNat else none) else if -(n : Int) ≤ i then some (i + n).toNat else none
def atI {α : Type} (xs : List α) (i : Int) : Option α := (ixN xs.length i).bind fun j => xs[j]?
theorem ixN_seq {n : Nat} {i : Int} {j : Nat} (h : ixN n i = some j) : seqIndex? i n = some j ∧ j < n ∧ -(n : Int) ≤ i ∧ i < n := by
  unfold ixN at h
  by_cases h0 : 0 ≤ i
  · rw [if_pos h0] at h
    by_cases h1 : i < n
    · rw [if_pos h1] at h
      have e : i.toNat = j := Option.some.inj h
      exact ⟨by rw [seqIndex_of h0 h1, e], by omega, by omega, h1⟩
    · rw [if_neg h1] at h; cases h
  · rw [if_neg h0] at h
    by_cases h1 : -(n : Int) ≤ i
    · rw [if_pos h1] at h
      have e : (i + n).toNat = j := Option.some.inj h
      exact ⟨by rw [seqIndex_neg (by omega) h1, e], by omega, h1, by omega⟩
    · rw [if_neg h1] at h; cases h
theorem atI_get {α : Type} {xs : List α} {i : Int} {v : α} (h : atI xs i = some v) : ∃ j, seqIndex? i xs.length = some j ∧ xs[j]? = some v ∧ j < xs.length ∧ -(xs.length : Int) ≤ i ∧ i < xs.length := by
  unfold atI at h
  cases e : ixN xs.length i with
  | none => rw [e] at h; cases h
  | some j =>
    rw [e] at h
    obtain ⟨h1, h2, h3, h4⟩ := ixN_seq e
    exact ⟨j, h1, h, h2, h3, h4⟩
theorem atI_nat {α : Type} {xs : List α} {j : Nat} {v : α} (h : xs[j]? = some v) : atI xs (j : Int) = some v := by
  have hj : j < xs.length := (List.getElem?_eq_some_iff.mp h).1
  have e : ixN xs.length (j : Int) = some j := by
    unfold ixN
    rw [if_pos (by omega), if_pos (by omega)]; simp
  unfold atI; rw [e]; exact h
def PlainIx (b : Expr) : Prop := ∀ o i, subscripted b false o i = operate [o, i] (getItem o i)
def IxR (X : Cx) (r : R2) : Prop :=
  ∀ (value slice : Expr) (pins : List (Addr × Obj)) (s : Shared) (σ : St) (H : Hp) (x y : V) (v u : Value) (Q : VK), Inv X pins σ H s → RelV x v → RelV y u → r x y H Q →
    subscripted slice false v u = operate [v, u] (getItem v u) → wpAny (model X.prog X.w) X.A (subscriptTail value slice v u) (EP X pins σ Q) X.xe s
def MtR (X : Cx) (id : String) (r : V → List V → Hp → VK → Prop) : Prop :=
  ∀ (pins : List (Addr × Obj)) (s : Shared) (σ : St) (H : Hp) (x : V) (xs : List V) (v : Value) (us : List Value) (Q : VK), Inv X pins σ H s → RelV x v → Vals xs us → r x xs H Q →
    wpAny (model X.prog X.w) X.A (call (.builtin id) (v :: us)) (EP X pins σ Q) X.xe s
section
variable {X : Cx} {a b : Expr} {ta tb : TE} {pos : Pos}
theorem pe_ix {r : R2} (hr : IxR X r) (ha : PE X a ta) (hb : PE X b tb) (hs : PlainIx b) : PE X (.Subscript a b pos) (tOp r ta tb) := by
  intro pins s σ H Q I h
  exact Subscript_ (binT ha hb I h fun v u s2 x y H2 I2 rx ry q => hr a b pins s2 σ H2 x y v u Q I2 rx ry q (hs _ _))

def rIxL (K : PySem.W.Frag) : R2 := fun x y H Q => ∃ p xs i v, x = .ref p ∧ y = .int i ∧ SqL K H p xs ∧ atI xs i = some v ∧ Q v H
def rIxT (K : PySem.W.Frag) : R2 := fun x y H Q => ∃ p xs i v, x = .ref p ∧ y = .int i ∧ SqT K H p xs ∧ atI xs i = some v ∧ Q v H
def rIxS : R2 := fun x y H Q => ∃ z i c, x = .str z ∧ y = .int i ∧ z.length ≤ sizeLine ∧ atI z.cps.toList i = some c ∧ Q (.str ⟨#[c]⟩) H
theorem ix_list : IxR X (rIxL X.K) := by
  intro value slice pins s σ H x y v u Q I rx ry h hs
  obtain ⟨p, xs, i, z, rfl, rfl, hq, he, q⟩ := h
  cases rx
  obtain ⟨t, rfl⟩ := ry
  obtain ⟨its, r, pl, hz⟩ := I.list hq
  obtain ⟨j, h1, h2, h3, h4, h5⟩ := atI_get he
  obtain ⟨w, ew, rw'⟩ := r.get h2
  have hl := r.length
  have hn := line63
  have fin : EP X pins σ Q w s := ⟨z, H, I, rw', q⟩
  by_cases h0 : 0 ≤ i
  · have hj : i.toNat = j := by
      rw [seqIndex_of h0 h5] at h1
      exact Option.some.inj h1
    exact item_listR pl.isList h0 (by omega) (by rw [hj]; simpa using ew) fin hs
  · have hj : (i + (its.toArray.size : Int)).toNat = j := by
      rw [seqIndex_neg (by omega) h4] at h1
      rw [List.size_toArray, ← hl]
      exact Option.some.inj h1
    exact subscriptTail_builtinR (x := w) pl.isList.typeIs slot_list_getitem.lookup
      (wpAny_getItem_list_neg (Q := fun r s' => r = w ∧ EP X pins σ Q r s') pl.isList (by omega) (by rw [List.size_toArray] <;> omega) (by omega) (by rw [hj]; simpa using ew) ⟨rfl, fin⟩) hs
theorem ix_tup : IxR X (rIxT X.K) := by
  intro value slice pins s σ H x y v u Q I rx ry h hs
  obtain ⟨p, xs, i, z, rfl, rfl, hq, he, q⟩ := h
  cases rx
  obtain ⟨t, rfl⟩ := ry
  obtain ⟨its, r, pl, hz⟩ := I.tuple hq
  obtain ⟨j, h1, h2, h3, h4, h5⟩ := atI_get he
  obtain ⟨w, ew, rw'⟩ := r.get h2
  have hl := r.length
  have hn := line63
  have fin : EP X pins σ Q w s := ⟨z, H, I, rw', q⟩
  exact subscriptTail_builtinR (x := w) pl.typeIs slot_tuple_getitem.lookup
    (getItem_tuple (j := j) (Q := fun r s' => r = w ∧ EP X pins σ Q r s') pl (by omega) (by omega) (by rw [List.size_toArray, ← hl]; exact h1) (by simpa using ew) ⟨rfl, fin⟩) hs
theorem ix_str : IxR X rIxS := by
  intro value slice pins s σ H x y v u Q I rx ry h hs
  obtain ⟨z, i, c, rfl, rfl, hz, he, q⟩ := h
  obtain ⟨t, rfl⟩ := rx
  obtain ⟨t', rfl⟩ := ry
  obtain ⟨j, h1, h2, h3, h4, h5⟩ := atI_get he
  have hl : z.cps.toList.length = z.length := by simp [Str.length]
  rw [hl] at h1 h4 h5
  have hn := line63
  exact tail_any (typeIs_str s z t) slot_str_getitem.lookup (getItem_str (c := c) (by
    have e1 : decide (i < -(2 ^ 63 : Int)) = false := decide_eq_false (by omega)
    have e2 : decide (i ≥ 2 ^ 63) = false := decide_eq_false (by omega)
    rw [e1, e2, Bool.or_false]) (by rw [h1]; simpa using h2) ⟨.str ⟨#[c]⟩, H, I.tok _, ⟨_, rfl⟩, q⟩) hs
theorem mapSeq_set (its : List Value) (n j : Nat) (u : Value) : Obj.mapSeq (·.setIfInBounds j u) { cls := .type "list", data := .seq its.toArray n } = { cls := .type "list", data := .seq (its.set j u).toArray n } := by
  simp [Obj.mapSeq]
theorem Inv.lst {pins : List (Addr × Obj)} {σ : St} {H : Hp} {s : Shared} {p : Addr} {xs : List V} (I : Inv X pins σ H s) (h : H p = some (.lst xs)) :
    ∃ (its : List Value) (n : Nat), Vals xs its ∧ s.heap.get? p = some { cls := .type "list", data := .seq its.toArray n } ∧ xs.length ≤ sizeLine := by
  obtain ⟨z, its, n, r, e⟩ := I.hok p _ h
  exact ⟨its, n, r, e, z⟩
theorem Inv.lstUpd {pins : List (Addr × Obj)} {σ : St} {H : Hp} {s : Shared} {p : Addr} {xs ys : List V} {its its' : List Value} {n n' : Nat} {f : Obj → Obj} (I : Inv X pins σ H s) (h : H p = some (.lst xs))
    (ho : s.heap.get? p = some { cls := .type "list", data := .seq its.toArray n }) (hf : f { cls := .type "list", data := .seq its.toArray n } = { cls := .type "list", data := .seq its'.toArray n' }) (r : Vals ys its') (hz : ys.length ≤ sizeLine) (t : Nat) :
    Inv X pins σ (upd H p (.lst ys)) { s with heap := s.heap.update p f, toks := t } := by
  have e : (s.heap.update p f).get? p = some { cls := .type "list", data := .seq its'.toArray n' } := by
    rw [Heap.get?_update_self f ho (by rw [hf] <;> rfl), hf]
  refine I.write (x := p) (e := p) (by rw [h]; trivial) (.inl rfl) (fun b u hb q => (Heap.get?_update_other _ _ (Ne.symm hb)).trans q) ⟨_, e⟩ ?_
  exact ⟨hz, its', n', r, e⟩
def rSetL : V → V → V → Hp → (Hp → Prop) → Prop := fun o i v H Q => ∃ p xs k j, o = .ref p ∧ i = .int k ∧ H p = some (.lst xs) ∧ ixN xs.length k = some j ∧ Q (upd H p (.lst (xs.set j v)))
theorem set_list : PSet X rSetL := by
  intro pins s σ H o i v ov iv u Q I ro ri rv h
  obtain ⟨p, xs, k, j, rfl, rfl, hp, hj, q⟩ := h
  cases ro
  obtain ⟨t, rfl⟩ := ri
  obtain ⟨its, n, r, ho, hz⟩ := I.lst hp
  obtain ⟨h1, h2, h3, h4⟩ := ixN_seq hj
  have hl := r.length
  have hn := line63
  have I' : Inv X pins σ (upd H p (.lst (xs.set j v))) { s with heap := s.heap.update p (Obj.mapSeq (·.setIfInBounds j u)) } :=
    I.lstUpd hp ho (mapSeq_set its n j u) (r.set rv j) (by rw [List.length_set]; exact hz) s.toks
  by_cases h0 : 0 ≤ k
  · have hk : k.toNat = j := by
      rw [seqIndex_of h0 h4] at h1
      exact Option.some.inj h1
    exact PySem.W.ki_setAt ho h0 (by omega) (by rw [List.size_toArray, ← hl]; exact h4) (by rw [hk]; exact ⟨_, I', q⟩)
  · have hk : (k + (its.toArray.size : Int)).toNat = j := by
      rw [seqIndex_neg (by omega) h3] at h1
      rw [List.size_toArray, ← hl]
      exact Option.some.inj h1
    exact PySem.W.ki_setBack ho (by omega) (by rw [List.size_toArray, ← hl]; exact h3) (by omega) (by rw [hk]; exact ⟨_, I', q⟩)

theorem slice_bounds (lo hi : Option Int) (n : Nat) : (sliceBounds lo hi none n).1 = ((HT.sIx n 0 lo : Nat) : Int) ∧ (sliceBounds lo hi none n).2.1 = ((HT.sIx n n hi : Nat) : Int) ∧ (sliceBounds lo hi none n).2.2 = 1 := by
  refine ⟨?_, ?_, rfl⟩
  · cases lo with
    | none => simp [sliceBounds, HT.sIx]
    | some i =>
      simp only [sliceBounds, HT.sIx, Option.getD_none, show (1 : Int) > 0 by decide, if_true]
      by_cases h : i < 0
      · simp only [h, if_true] <;> omega
      · simp only [h, if_false] <;> omega
  · cases hi with
    | none => simp [sliceBounds, HT.sIx]
    | some i =>
      simp only [sliceBounds, HT.sIx, Option.getD_none, show (1 : Int) > 0 by decide, if_true]
      by_cases h : i < 0
      · simp only [h, if_true] <;> omega
      · simp only [h, if_false] <;> omega
theorem slicePick_cut (its : List Value) (lo hi : Option Int) : slicePick its.toArray lo hi none = ((its.drop (HT.sIx its.length 0 lo)).take (HT.sIx its.length its.length hi - HT.sIx its.length 0 lo)).toArray := by
  obtain ⟨h1, h2, h3⟩ := slice_bounds lo hi its.toArray.size
  unfold slicePick
  rw [h1, h2, h3]
  simp only [sliceRange_one, pick_run, List.size_toArray] <;> rfl
def rSlL (K : PySem.W.Frag) : V → Option Int → Option Int → Hp → VK → Prop := fun x lo hi H Q => ∃ a xs, x = .ref a ∧ SqL K H a xs ∧ ∀ p, H p = none → Q (.ref p) (upd H p (.lst (cutV xs lo hi)))
theorem sl_list : SlR X (rSlL X.K) := by
  intro pins s σ H x v vl vu lo hi sl Q I rx hs pl pu h
  obtain ⟨a, xs, rfl, hx, q⟩ := h
  cases rx
  obtain ⟨its, r, ht, hz⟩ := I.list hx
  have hlen := r.length
  refine ⟨"list", _, slot_list_getitem.lookup, ht.isList.typeIs, ?_⟩
  refine wpAny_getItem_list_slice ht.isList hs pl pu .none (by simp) ?_ (by rw [List.size_toArray] <;> omega)
  rw [slicePick_cut, ← hlen]
  refine ⟨.ref s.heap.objs.size, _, I.laid (t' := s.toks) (o := .lst (cutV xs lo hi)) (fun b ob q => Heap.get?_push_of_some _ q) (Nat.le_refl _) ?_, rfl, q _ (I.hok.fresh (Nat.le_refl _))⟩
  exact ⟨Nat.le_trans (cutV_length xs lo hi) hz, _, 0, (r.drop (HT.sIx xs.length 0 lo)).take (HT.sIx xs.length xs.length hi - HT.sIx xs.length 0 lo), Heap.get?_push_size _ rfl⟩

def flatV : V → Bool
  | .non => true
  | .bl _ => true
  | .int _ => true
  | .str _ => true
  | _ => false
def eqV : V → V → Bool
  | .non, .non => true
  | .bl a, .bl b => a == b
  | .bl a, .int b => (if a then 1 else 0) == b
  | .int a, .bl b => a == (if b then 1 else 0)
  | .int a, .int b => a == b
  | .str a, .str b => a == b
  | _, _ => false
theorem eqAt_V {A : Around} {s : Shared} {y x : V} {u v : Value} (ry : RelV y u) (rx : RelV x v) (fy : flatV y = true) (fx : flatV x = true) : SeqAt.EqAt A s u v (eqV y x) := by
  cases y with
  | non =>
    cases ry
    cases x with
    | non => cases rx; exact SeqAt.EqAt.same _
    | bl b => cases rx; exact SeqAt.EqAt.none_bool b
    | int b => obtain ⟨t, rfl⟩ := rx; exact SeqAt.EqAt.none_int b t
    | str b => obtain ⟨t, rfl⟩ := rx; exact SeqAt.EqAt.none_str b t
    | _ => exact absurd (show false = true from fx) Bool.false_ne_true
  | bl a =>
    cases ry
    cases x with
    | non => cases rx; exact SeqAt.EqAt.bool_none a
    | bl b => cases rx; exact SeqAt.EqAt.bool_bool a b
    | int b => obtain ⟨t, rfl⟩ := rx; exact SeqAt.EqAt.bool_int a b t
    | str b => obtain ⟨t, rfl⟩ := rx; exact SeqAt.EqAt.bool_str a b t
    | _ => exact absurd (show false = true from fx) Bool.false_ne_true
  | int a =>
    obtain ⟨t', rfl⟩ := ry
    cases x with
    | non => cases rx; exact SeqAt.EqAt.int_none a t'
    | bl b => cases rx; exact SeqAt.EqAt.int_bool a t' b
    | int b => obtain ⟨t, rfl⟩ := rx; exact SeqAt.EqAt.int_int a t' b t
    | str b => obtain ⟨t, rfl⟩ := rx; exact SeqAt.EqAt.int_str a t' b t
    | _ => exact absurd (show false = true from fx) Bool.false_ne_true
  | str a =>
    obtain ⟨t', rfl⟩ := ry
    cases x with
    | non => cases rx; exact SeqAt.EqAt.str_none a t'
    | bl b => cases rx; exact SeqAt.EqAt.str_bool a t' b
    | int b => obtain ⟨t, rfl⟩ := rx; exact SeqAt.EqAt.str_int a t' b t
    | str b => obtain ⟨t, rfl⟩ := rx; exact SeqAt.EqAt.str_str a t' b t
    | _ => exact absurd (show false = true from fx) Bool.false_ne_true
  | _ => exact absurd (show false = true from fy) Bool.false_ne_true
theorem call_len_seq : CallR X (.builtin "len") (fun xs H Q => ∃ p ys, xs = [.ref p] ∧ (SqL X.K H p ys ∨ SqT X.K H p ys) ∧ Q (.int ys.length) H) := by
  intro pins s σ H xs us Q I r h
  obtain ⟨p, ys, rfl, hq, q⟩ := h
  obtain ⟨u, rfl, rx⟩ := vals1 r
  cases rx
  have hn := line63
  rcases hq with hq | hq
  · obtain ⟨its, r', pl, hz⟩ := I.list hq
    have hlen := r'.length
    exact Calls.call_len_list pl.isList (by simp only [List.size_toArray] <;> omega) ⟨.int ys.length, H, I.tok _, ⟨s.toks + 1, by rw [List.size_toArray, hlen]⟩, q⟩
  · obtain ⟨its, r', pl, hz⟩ := I.tuple hq
    have hlen := r'.length
    exact len_tuple pl (by simp only [List.size_toArray] <;> omega) ⟨.int ys.length, H, I.tok _, ⟨s.toks + 1, by rw [List.size_toArray, hlen]⟩, q⟩
theorem call_len_str : CallR X (.builtin "len") (fun xs H Q => ∃ z, xs = [.str z] ∧ z.length ≤ sizeLine ∧ Q (.int z.length) H) := by
  intro pins s σ H xs us Q I r h
  obtain ⟨z, rfl, hz, q⟩ := h
  obtain ⟨u, rfl, t, rfl⟩ := vals1 r
  have hn := line63
  exact len_str (by omega) ⟨.int z.length, H, I.tok _, ⟨_, rfl⟩, q⟩
theorem call_tuple_of : CallR X (.type "tuple") (fun xs H Q => ∃ p ys, xs = [.ref p] ∧ ((SqL X.K H p ys ∧ ∀ l, H l = none → Q (.ref l) (upd H l (.tup ys))) ∨ (SqT X.K H p ys ∧ Q (.ref p) H))) := by
  intro pins s σ H xs us Q I r h
  obtain ⟨p, ys, rfl, h⟩ := h
  obtain ⟨u, rfl, rx⟩ := vals1 r
  cases rx
  rcases h with ⟨hq, q⟩ | ⟨hq, q⟩
  · obtain ⟨its, r', pl, hz⟩ := I.list hq
    have hlen := r'.length
    refine call_tuple_list pl.isList (fun h' kp => ?_) (by simp only [List.size_toArray] <;> omega)
    have I1 : Inv X pins σ H { s with heap := h' } := I.kept (t' := s.toks) kp
    have I2 : Inv X pins σ (upd H h'.objs.size (.tup ys)) { s with heap := h'.push { cls := .type "tuple", data := .seq its.toArray } } :=
      I1.laid (t' := s.toks) (fun b o e => Heap.get?_push_of_some _ e) (Nat.le_refl _) (show ObjOk X.prog X.w _ _ _ (.tup ys) from ⟨hz, its, r', IsTup.new _ _⟩)
    exact ⟨.ref h'.objs.size, _, I2, rfl, q _ (I1.hok.fresh (Nat.le_refl _))⟩
  · obtain ⟨its, r', pl, hz⟩ := I.tuple hq
    exact call_tuple_same pl ⟨.ref p, H, I, rfl, q⟩

def tyV (K : PySem.W.Frag) (T : String) (x : V) (H : Hp) : Prop := match x with
  | .str _ => T = "str"
  | .int _ => T = "int"
  | .ref p => (T = "list" ∧ ∃ xs, SqL K H p xs) ∨ (T = "tuple" ∧ ∃ o, K.lookup p = some o ∧ o.cls = .type "tuple" ∧ o.dict = none) ∨
      (T = "dict" ∧ ((∃ kvs, H p = some (.dK kvs)) ∨ ∃ kvs, H p = some (.dT kvs))) ∨ (T = "set" ∧ ∃ S n, H p = some (.set S n))
  | _ => False
theorem tyV_is {pins : List (Addr × Obj)} {σ : St} {H : Hp} {s : Shared} {T : String} {x : V} {v : Value} (I : Inv X pins σ H s) (r : RelV x v) (ty : tyV X.K T x H) :
    s.TypeIs v T ∧ ∀ a, v = .ref a → ∃ ob, s.heap.get? a = some ob ∧ ob.dict = none := by
  cases x with
  | str z =>
    obtain ⟨t, rfl⟩ := r
    cases (show T = "str" from ty)
    exact ⟨typeIs_str s z t, fun _ e => nomatch e⟩
  | int i =>
    obtain ⟨t, rfl⟩ := r
    cases (show T = "int" from ty)
    exact ⟨typeIs_int s i t, fun _ e => nomatch e⟩
  | ref p =>
    cases r
    rcases ty with ⟨rfl, xs, hq⟩ | ⟨rfl, o, hk, hc, hd⟩ | ⟨rfl, hk⟩ | ⟨rfl, S, n, hk⟩
    · obtain ⟨its, _, pl, _⟩ := I.list hq
      refine ⟨pl.isList.typeIs, fun a e => ?_⟩
      cases e
      obtain ⟨o, n, e, c, hd, _⟩ := pl
      exact ⟨o, e, hd⟩
    · refine ⟨⟨o, I.kIn p o hk, hc⟩, fun a e => ?_⟩
      cases e
      exact ⟨o, I.kIn _ o hk, hd⟩
    · have z : ∃ o, s.heap.get? p = some o ∧ o.ExactDict := by
        rcases hk with ⟨kvs, hk⟩ | ⟨kvs, hk⟩
        · obtain ⟨_, _, _, _, o, _, _, e, ex, _⟩ := I.hok p _ hk
          exact ⟨o, e, ex⟩
        · obtain ⟨_, _, _, _, o, _, _, e, ex, _⟩ := I.hok p _ hk
          exact ⟨o, e, ex⟩
      obtain ⟨o, e, ex⟩ := z
      refine ⟨⟨o, e, ex.1⟩, fun a e2 => ?_⟩
      cases e2
      exact ⟨o, e, ex.2.1⟩
    · obtain ⟨o, _, _, _, e, ex, _⟩ := I.hok p _ hk
      refine ⟨⟨o, e, ex.1⟩, fun a e2 => ?_⟩
      cases e2
      exact ⟨o, e, ex.2.1⟩
  | _ => exact False.elim ty
def tBM0 (K : PySem.W.Frag) (T : String) (r : V → List V → Hp → VK → Prop) (to : TE) : TE := fun σ H Q => to σ H fun x H1 => tyV K T x H1 ∧ r x [] H1 Q
def tBM (K : PySem.W.Frag) (T : String) (r : V → List V → Hp → VK → Prop) (to : TE) (t : TA) : TE := fun σ H Q => to σ H fun x H1 => tyV K T x H1 ∧ t σ H1 fun xs H2 => r x xs H2 Q
variable {o e : Expr} {es : List Expr} {to : TE} {t : TA} {name : Str} {apos cpos : Pos} {T id : String} {r : V → List V → Hp → VK → Prop}
theorem pe_bm0 (pa : PlainAttrs T) (slot : Slot T name id) (hty : typeOf (.builtin id) = pure (.type "method_descriptor")) (hm : MtR X id r) (ho : PE X o to)
    (hbase : attributeBase o name X.env (eval o X.env) = eval o X.env := by rfl) (hline : (apos.endLine == cpos.line) = true := by rfl) : PE X (.Call (.Attribute o name apos) [] [] cpos) (tBM0 X.K T r to) := by
  intro pins s σ H Q I h
  refine wpAny_Call_method0_late hbase hline (thn (ho pins s σ H _ I h) fun v s1 ⟨x, H1, I1, r1, ty, q1⟩ => ?_)
  obtain ⟨h1, h2⟩ := tyV_is I1 r1 ty
  exact ⟨T, id, pa, slot, hty, h1, h2, Calls.callWith_builtin rfl (PySem.evalArgs_none (hm pins s1 σ H1 x [] v [] Q I1 r1 .nil q1))⟩
theorem pe_bm (pa : PlainAttrs T) (slot : Slot T name id) (hty : typeOf (.builtin id) = pure (.type "method_descriptor")) (hm : MtR X id r) (ho : PE X o to) (ha : PA X (e :: es) t)
    (hbase : attributeBase o name X.env (eval o X.env) = eval o X.env := by rfl)
    (hfew : ((backTo cpos (starEach (e :: es) X.env)).all (fun x => !x.1) && (backToKw cpos (keywordEach [] X.env)).all (fun x => x.1.isSome)
      && decide ((e :: es).length + ([] : List Keyword).length + (if ([] : List Keyword).isEmpty then 0 else 1) < 30)) = true := by rfl)
    (hline : (apos.endLine == cpos.line) = true := by rfl) (hs : starEach (e :: es) X.env = (false, eval e X.env) :: starEach es X.env := by rfl) (hplain : (backTo cpos (starEach es X.env)).any (·.1) = false := by rfl) :
    PE X (.Call (.Attribute o name apos) (e :: es) [] cpos) (tBM X.K T r to t) := by
  intro pins s σ H Q I h
  refine wpAny_Call_method_late hbase hfew hline rfl (thn (ho pins s σ H _ I h) fun v s1 ⟨x, H1, I1, r1, ty, q1⟩ => ?_)
  obtain ⟨h1, h2⟩ := tyV_is I1 r1 ty
  refine ⟨T, id, pa, slot, hty, h1, h2, ?_⟩
  have hA := ha cpos pins s1 σ H1 _ I1 q1
  rw [hs] at hA ⊢
  refine Calls.callWith_builtin (by show (false || (backTo cpos (starEach es X.env)).any (·.1)) = false; rw [hplain] <;> rfl) (Calls.evalArgs_plain ?_)
  exact thn hA fun us s2 ⟨vs, H2, I2, r2, q2⟩ => hm pins s2 σ H2 x vs v us Q I2 r1 r2 q2
end
end L2

namespace L2
open PySem PySem.Spec PyProof.Rows

def MtM (X : Cx) (id : String) (r : V → List V → Hp → VK → Prop) : Prop :=
  ∀ (pins : List (Addr × Obj)) (s : Shared) (σ : St) (H : Hp) (x : V) (xs : List V) (v : Value) (us : List Value) (Q : VK), Inv X pins σ H s → RelV x v → Vals xs us → r x xs H Q →
    wpAny (model X.prog X.w) X.A (call (.builtin id) (v :: us)) (EP X pins σ Q) X.xe s

theorem Vals.one : ∀ {x : V} {us : List Value}, Vals [x] us → ∃ u, us = [u] ∧ RelV x u
  | _, _, .cons r .nil => ⟨_, rfl, r⟩
theorem Vals.zero : ∀ {us : List Value}, Vals [] us → us = []
  | _, .nil => rfl
section
variable {X : Cx} {pins : List (Addr × Obj)} {σ : St} {H : Hp} {s : Shared} {l b : Addr} {xs ys zs : List V}

theorem Inv.lset {its its' : List Value} {n : Nat} {f : Array Value → Array Value} {t' : Nat} (I : Inv X pins σ H s) (hH : H l = some (.lst xs))
    (e : s.heap.get? l = some { cls := .type "list", data := .seq its.toArray n }) (hf : f its.toArray = its'.toArray) (hv : Vals ys its') (hz : ys.length ≤ sizeLine) :
    Inv X pins σ (upd H l (.lst ys)) { s with heap := s.heap.update l (Obj.mapSeq f), toks := t' } := by
  have q := PySem.IsL.update e f
  rw [hf] at q
  refine I.write (x := l) (e := l) (by rw [hH]; exact trivial) (.inl rfl) (fun b' u hb hu => (Heap.get?_update_other s.heap (Obj.mapSeq f) (Ne.symm hb)).trans hu) ⟨_, q⟩ ?_
  exact ⟨hz, its', _, hv, q⟩
theorem Inv.lnew {its : List Value} {t' : Nat} (I : Inv X pins σ H s) (hv : Vals ys its) (hz : ys.length ≤ sizeLine) :
    Inv X pins σ (upd H s.heap.objs.size (.lst ys)) { s with heap := s.heap.push { cls := .type "list", data := .seq its.toArray }, toks := t' } :=
  I.laid (fun _ _ q => Heap.get?_push_of_some _ q) (Nat.le_refl _) ⟨hz, its, 0, hv, Heap.get?_push_size _ rfl⟩
theorem Inv.fresh (I : Inv X pins σ H s) : H s.heap.objs.size = none := I.hok.fresh (Nat.le_refl _)
theorem Inv.lstM (I : Inv X pins σ H s) (hH : H l = some (.lst xs)) : xs.length ≤ sizeLine ∧ ∃ (its : List Value) (n : Nat), Vals xs its ∧ xs.length = its.length ∧ s.heap.get? l = some { cls := .type "list", data := .seq its.toArray n } := by
  obtain ⟨z, its, n, r, e⟩ := I.hok l _ hH
  exact ⟨z, its, n, r, r.length, e⟩

end

section
variable {X : Cx}

def rAppend : V → List V → Hp → VK → Prop := fun x vs H Q => ∃ l xs y, x = .ref l ∧ vs = [y] ∧ H l = some (.lst xs) ∧ xs.length < sizeLine ∧ Q .non (upd H l (.lst (xs ++ [y])))
theorem mt_append : MtM X "list.append" rAppend := by
  intro pins s σ H x vs v us Q I rx rv h
  obtain ⟨l, xs, y, rfl, rfl, hH, hz, q⟩ := h
  cases rx
  obtain ⟨u, rfl, ru⟩ := rv.one
  obtain ⟨z, its, n, r, hl, e⟩ := I.lstM hH
  refine call_meets F.slot_list_append ⟨_, e, rfl⟩ F.entry_list_append (F.args_list_append_2 _ _) (PySem.list_append l its.toArray n u (by rw [List.size_toArray]; omega)) ⟨e, ?_⟩
  refine ⟨.non, _, I.lset (its' := its ++ [u]) hH e (by simp) (r.append (.cons ru .nil)) ?_, rfl, q⟩
  rw [List.length_append, List.length_singleton]
  omega

def rCat : R2 := fun x y H Q => ∃ l b xs zs, x = .ref l ∧ y = .ref b ∧ H l = some (.lst xs) ∧ H b = some (.lst zs) ∧ xs.length + zs.length ≤ sizeLine ∧ ∀ p, H p = none → Q (.ref p) (upd H p (.lst (xs ++ zs)))
theorem op_cat : OpR X (binaryOp .Add) rCat := by
  intro pins s σ H x y v u Q I rx ry h
  obtain ⟨l, b, xs, zs, rfl, rfl, hH, hB, hz, q⟩ := h
  cases rx
  cases ry
  obtain ⟨z, its, n, r, hl, e⟩ := I.lstM hH
  obtain ⟨z2, its2, n2, r2, hl2, e2⟩ := I.lstM hB
  refine PySem.P.add_list e e2 ?_ (by rw [List.size_toArray, List.size_toArray]; omega)
  have ea : its.toArray ++ its2.toArray = (its ++ its2).toArray := by simp
  rw [ea]
  exact ⟨.ref _, _, I.lnew (t' := s.toks) (r.append r2) (by rw [List.length_append]; omega), rfl, q _ I.fresh⟩
theorem len_rep {α : Type} (xs : List α) (k : Nat) : (List.replicate k xs).flatten.length = k * xs.length := by
  induction k with
  | zero => simp
  | succ k ih => rw [List.replicate_succ, List.flatten_cons, List.length_append, ih, Nat.succ_mul, Nat.add_comm]
end

section
variable {prog : Program} {w : World} {A : Around} {E : Value → Shared → Prop} {s : Shared}
end

section
variable {X : Cx}
end
end L2

namespace L2
open PySem PySem.Spec PyProof.Rows

section
variable {κ : Type} [DecidableEq κ]
end


section
variable {P : Program} {w : World} {H : Hp} {h : Heap} {a : Addr}
end

section
variable {X : Cx} {pins : List (Addr × Obj)} {σ : St} {H : Hp} {s : Shared} {a : Addr} {y v : V} {u r : Value} {o : Option V} {A : Around} {E : Value → Shared → Prop}

end

section
variable {X : Cx} {pins : List (Addr × Obj)} {σ : St} {H : Hp} {s : Shared} {a : Addr} {kvs : List (Key × V)} {k : Key} {u : Value} {A : Around} {E : Value → Shared → Prop}
end


section
variable {X : Cx} {o i e value : Expr} {pos pos' tpos : Pos} {td ty tv : TE}
end


section
variable {X : Cx} {pos : Pos}
end

structure M1 (X : Cx) (o : Expr) (m : Str) (apos : Pos) (e : Expr) (cpos : Pos) : Prop where
  base : attributeBase o m X.env (eval o X.env) = eval o X.env
  few : ((backTo cpos (starEach [e] X.env)).all (fun x => !x.1) && (backToKw cpos (keywordEach [] X.env)).all (fun x => x.1.isSome)
    && decide (([e] : List Expr).length + ([] : List Keyword).length + (if ([] : List Keyword).isEmpty then 0 else 1) < 30)) = true
  line : (apos.endLine == cpos.line) = true
  trees : backTo cpos (starEach [e] X.env) = [(false, eval e X.env)]
structure M2 (X : Cx) (o : Expr) (m : Str) (apos : Pos) (e f : Expr) (cpos : Pos) : Prop where
  base : attributeBase o m X.env (eval o X.env) = eval o X.env
  few : ((backTo cpos (starEach [e, f] X.env)).all (fun x => !x.1) && (backToKw cpos (keywordEach [] X.env)).all (fun x => x.1.isSome)
    && decide (([e, f] : List Expr).length + ([] : List Keyword).length + (if ([] : List Keyword).isEmpty then 0 else 1) < 30)) = true
  line : (apos.endLine == cpos.line) = true
  trees : backTo cpos (starEach [e, f] X.env) = [(false, eval e X.env), (false, eval f X.env)]

section
variable {X : Cx} {pins : List (Addr × Obj)} {σ : St} {H : Hp} {s : Shared} {a : Addr} {y d : V} {u r : Value} {o : Option V} {A : Around} {E : Value → Shared → Prop}
end

section
variable {X : Cx} {o e f : Expr} {apos cpos : Pos} {td ty tx : TE}
end

section
variable {X : Cx} {pins : List (Addr × Obj)} {σ : St} {H : Hp} {s : Shared} {a : Addr} {kvs : List (Key × V)} {A : Around} {E : Value → Shared → Prop}
end


section
variable {X : Cx} {pins : List (Addr × Obj)} {σ : St} {H : Hp} {s : Shared} {a : Addr} {y : V} {u : Value} {A : Around} {E : Value → Shared → Prop}
end
end L2


namespace Att
open PySem PySem.W PySem.Calls PyProof.Rows

theorem ints_of_wellAll {P : Params} {h : Heap} : ∀ (ns : List Int) (vs : List Value), WellAll P h vs (ns.map WData.int) → IntsAre vs ns := by
  intro ns
  induction ns with
  | nil =>
    intro vs w
    rw [List.map_nil] at w
    cases w
    exact .nil
  | cons n ns ih =>
    intro vs w
    rw [List.map_cons] at w
    cases w with
    | cons a b =>
      cases a
      exact .cons _ _ (ih _ b)

theorem script_of {l : OpenLaw} {n : Nat} (hn : l.most = some n) {P : Params} {h : Heap} {args : List WData} {vals : List Value}
    (hpre : l.row.toRowW.claim.pre args = true) (hwl : WellAll P h vals args) :
    ∃ a vs ns, vals = [Value.ref a] ∧ args = [WData.list (ns.map WData.int)] ∧ h.get? a = some { cls := .type "list", data := .seq vs.toArray } ∧ IntsAre vs ns ∧ ns.length ≤ n := by
  have hsh : WShape.hasAll [] args [.list .int] = true := (pre_splitW hpre).1
  have hc : l.pre.holds [] { args := args } = true := (pre_splitW hpre).2
  obtain ⟨d, r, rfl, h1, h2⟩ := hasAllW_cons hsh
  obtain rfl := hasAllW_nil h2
  obtain ⟨xs, rfl, h3⟩ := hasW_list h1
  obtain ⟨ns, rfl⟩ := items_int h3
  have hlen : ns.length ≤ n := by
    unfold OpenLaw.pre at hc
    have h4 : (WTm.not (.lt (.lit (.int (n : Int))) (.len (.arg 0)))).holds [] { args := [.list (ns.map .int)] } = true := by
      have h4 := (holds_andW hc).1
      rw [hn] at h4
      exact h4
    have h5 := condW_of h4 (w_not (w_lt w_lit (w_len_list (w_arg rfl))))
    rw [List.length_map] at h5
    refine Nat.le_of_not_lt fun q => ?_
    have q' : (n : Int) < ((ns.length : Nat) : Int) := by omega
    first
      | (rw [decide_eq_true q'] at h5; exact absurd h5 (by decide))
      | (simp at h5; omega)
  cases hwl with
  | cons w1 w2 =>
    cases w2
    cases w1 with
    | list ho hall => exact ⟨_, _, ns, rfl, rfl, ho, ints_of_wellAll ns _ hall, hlen⟩

theorem post_true (l : OpenLaw) (args : List WData) : l.row.toRowW.claim.post args (.bool true) args = true :=
  postW_of (r := l.row.toRowW) (X := (true == true))
    (show WShape.has [] (.bool true) .bool = true by first | rfl | decide | simp [WShape.has, WShape.arms, WShape.armsAll])
    (show (WTm.eq .res (.lit (.bool true))).value [] { args := args, res := some (.bool true), after := args } = some (.bool (true == true)) from w_eq_bool (w_res rfl) w_lit) rfl

theorem attach_call {l : OpenLaw} {n : Nat} {q : Program} {loose : List Str} {XP : (Str → Option Value) → Heap → Prop} {YP : World → Heap → Prop} {d : DefRec}
    (hn : l.most = some n) (hdf : d.params.defaults = [])
    (call : ∀ (w : World) (s₀ s₁ : Shared) (mg mb : Str → Option Value) (fa : Addr) (o : Obj) (pm cd doc : Value) (a : Addr) (vs : List Value) (ns : List Int),
      Ground q loose [] XP w s₀ mg mb s₁.heap → YP w s₁.heap →
      s₁.heap.get? fa = some o → o.data = .func (docDef d.name d.params d.body d.scope pm cd doc) → s₁.heap.CodeRec cd d.name → mg d.name = some (.ref fa) →
      s₁.heap.get? a = some { cls := .type "list", data := .seq vs.toArray } → IntsAre vs ns → ns.length ≤ n → s₁.gens = #[] →
      codeAny (model l.prog w) callerA (.call (.ref fa) ⟨[.ref a], []⟩) (fun r s' => r = .ok (.ret (.bool true)) ∧ OldK s₁.heap s'.heap ∧ s'.os = s₁.os ∧ AllBare s'.gens) s₁) :
    WalkO q loose XP YP l.row.toRowW d [] (fun f vs => PySem.call f vs) := by
  intro w s₀ s₁ mg mb G Y fa o pm cd doc dV kV ho hd hcd hD hmg hg args vals as hpre hlay hrd hwl hlo
  obtain rfl : dV = .none := Dflts.none hD hdf
  obtain rfl : kV = .none := Dflts.noKw hD
  obtain ⟨a, vs, ns, rfl, rfl, hobj, hints, hlen⟩ := script_of hn hpre hwl
  refine enter_call (codeAny_mono (call w s₀ s₁ mg mb fa o pm cd doc a vs ns G Y ho (fd_plain hd) hcd hmg hobj hints hlen hg) fun r s' hq => ?_)
  obtain ⟨rfl, h2, h3, h4⟩ := hq
  exact ⟨.inl ⟨.bool true, .bool true, [], rfl, fun _ => rfl, .bool true, post_true l _, fun _ => ⟨List.Pairwise.nil, fun _ hm => (nomatch hm)⟩⟩, h2, h3, h4⟩

section
variable {prog : Program} {w : World} {A : Around} {E : Value → Shared → Prop} {s : Shared} {K : Frag}

end
end Att

namespace L2
open PySem PySem.Spec PyProof.Rows

theorem vals_ints : ∀ {vs : List Value} {ns : List Int}, IntsAre vs ns → Vals (ns.map V.int) vs
  | _, _, .nil => .nil
  | _, _, .cons n t h => .cons ⟨t, rfl⟩ (vals_ints h)

def Only (H : Hp) : Prop := ∀ b, H b = none ∨ ∃ o xs, H b = some (.frz o (.lst xs))

theorem law_call {P : Program} {w : World} {K : PySem.W.Frag} {mg mb : Str → Option Value} {CX : CXT} {k : Nat} {fa a : Addr} {fd : FuncData} {x : Str} {sp : Sp} {s₁ : Shared} {vs : List Value} {ns : List Int}
    (KX : K.In s₁.heap) (hns : s₁.heap.Ns mainGlobals mg) (hb : s₁.heap.Ns builtinsNs mb) (hbb : ∀ x : Str, x ≠ "__name__" → mb x = bootBuiltins x) (hlim : s₁.heap.NoLimit) (hg : s₁.gens = #[])
    (ha : s₁.heap.get? a = some { cls := .type "list", data := .seq vs.toArray }) (hi : IntsAre vs ns) (hl : ns.length ≤ sizeLine) (hr : Room k callerA)
    (F : ∀ base : Heap, K.In base → base.Ns mainGlobals mg → FnOk P w K mg base CX k fa fd [x] sp) (hbind : ∀ (s : Shared) (u : Value), BindsTo s fd ⟨[u], []⟩ [(x, u)])
    (hsp : ∀ H : Hp, Only H → SqL K H a (ns.map V.int) → sp [.ref a] H (fun v _ => v = .bl true) fun _ _ _ => False)
    (hCX : ∀ H e s', CX [] H s₁ (fun _ _ _ => False) e s' → False) :
    codeAny (model P w) callerA (.call (.ref fa) ⟨[.ref a], []⟩) (fun r s' => r = .ok (.ret (.bool true)) ∧ OldK s₁.heap s'.heap ∧ s'.os = s₁.os ∧ AllBare s'.gens) s₁ := by
  have rv := vals_ints hi
  have lenV := hi.length
  -- from an abstract heap in which nothing but the script may be tracked
  have core : ∀ H : Hp, Only H → SqL K H a (ns.map V.int) → HOk P w H s₁.heap → (∀ b, H b ≠ none → b = a) → (H a ≠ none → K.lookup a = none) →
      codeAny (model P w) callerA (.call (.ref fa) ⟨[.ref a], []⟩) (fun r s' => r = .ok (.ret (.bool true)) ∧ OldK s₁.heap s'.heap ∧ s'.os = s₁.os ∧ AllBare s'.gens) s₁ := by
    intro H hO hS hok hA hK
    have base_of : ∀ {b : Addr} {o : Obj}, s₁.heap.get? b = some o → H b = none → (hidT s₁.heap H).get? b = some o := fun e n => hidT_get e n
    have noA : ∀ {b : Addr} {o : Obj} {es : Array DictEntry} {ep : Nat}, s₁.heap.get? b = some o → o.data = .dict es ep → H b = none := fun {b o es ep} e d => by
      cases q : H b with
      | none => rfl
      | some u =>
        have e' : b = a := hA b (by rw [q]; simp)
        subst e'
        rw [ha] at e; cases e
        have d' : Data.seq vs.toArray _ = Data.dict es ep := d
        cases d'
    have nsK : ∀ {b : Addr} {m : Str → Option Value}, s₁.heap.Ns b m → (hidT s₁.heap H).Ns b m := fun {b m} ⟨o, es, ep, e, d, r⟩ => ⟨o, es, ep, base_of e (noA e d), d, r⟩
    have hKb : K.In (hidT s₁.heap H) := fun b o e => base_of (KX b o e) (by
      cases q : H b with
      | none => rfl
      | some u =>
        have e' : b = a := hA b (by rw [q]; simp)
        subst e'
        rw [hK (by rw [q]; simp)] at e; cases e)
    have hM : Mod K mg (hidT s₁.heap H) := ⟨hKb, nsK hns, ⟨mb, nsK hb, hbb⟩, let ⟨mc, h1, h2⟩ := hlim; ⟨mc, nsK h1, h2⟩⟩
    have e0 : Env0 P w K mg (hidT s₁.heap H) callerA [] s₁ H := ⟨rfl, hM, fun b o e => of_hidT e, Nat.le_of_eq (hidT_size _ _), trivial, fun b hb => absurd (show b ∈ ([] : List Addr) from hb) (by simp), hok, .of_eq hg⟩
    refine codeAny_mono ((F _ hKb (nsK hns)).run callerA [] s₁ H ⟨[.ref a], []⟩ [.ref a] [.ref a] _ _ hr e0 (hbind s₁ (.ref a)) (.cons rfl .nil) (hsp H hO hS)) fun r s' h => ?_
    cases r with
    | error e => exact (hCX H e s' h).elim
    | ok fl =>
      cases fl with
      | next => exact False.elim h
      | brk => exact False.elim h
      | cont => exact False.elim h
      | ret u =>
        obtain ⟨v, H', os, bare, un, hok', r', q⟩ := h
        have q' : v = .bl true := q
        subst q'
        obtain rfl : u = Value.bool true := r'
        refine ⟨rfl, OldK.of_keep fun b o e => ?_, os, bare⟩
        cases q : H b with
        | none => exact un.keep b o e q (by intro z; exact absurd (show b ∈ ([] : List Addr) from z) (by simp)) (by simp)
        | some u =>
          rcases hO b with z | ⟨ob, xs, z⟩
          · rw [q] at z; cases z
          · have z2 := un.frzs b ob _ z
            obtain ⟨e1, _⟩ := hok b _ z
            obtain ⟨e2, _⟩ := hok' b _ z2
            rw [e] at e1; cases e1
            exact e2
  cases hk : K.lookup a with
  | some o =>
    -- the script is one of the module's own objects
    have e := KX a o hk
    rw [ha] at e
    cases e
    refine core (fun _ => none) (fun _ => .inl rfl) (.inr ⟨_, vs.toArray, _, hk, rfl, rfl, rfl, by rw [List.size_toArray, lenV]; exact hl, by simpa using rv⟩) (fun b u z => by have z' : (none : Option HO) = some u := z; cases z') (fun b z => absurd rfl z) fun z => absurd rfl z
  | none =>
    refine core (fun b => if b = a then some (.frz { cls := .type "list", data := .seq vs.toArray } (.lst (ns.map V.int))) else none) (fun b => ?_) (.inl (.inr ⟨{ cls := .type "list", data := .seq vs.toArray }, if_pos rfl⟩)) (fun b u z => ?_) (fun b z => ?_) fun _ => hk
    · by_cases hb : b = a
      · exact .inr ⟨_, _, if_pos hb⟩
      · exact .inl (if_neg hb)
    · by_cases hb : b = a
      · have z' := (if_pos hb).symm.trans z
        cases z'
        subst hb
        exact ⟨ha, by rw [List.length_map]; exact hl, vs, _, rv, ha⟩
      · have z' := (if_neg hb).symm.trans z
        cases z'
    · by_cases hb : b = a
      · exact hb
      · exact absurd (if_neg hb) z
end L2

namespace L2
open PySem PySem.Spec PyProof.Rows

abbrev KOf {K : PySem.W.Frag} {h : Heap} (_ : K.In h) : PySem.W.Frag := K

theorem walk_of {l : PySem.W.OpenLaw} {n k : Nat} {q : Program} {loose : List Str} {XP : (Str → Option Value) → Heap → Prop} {YP : World → Heap → Prop} {d : DefRec} {K : Params → PySem.W.Frag} {CX : World → CXT} {sp : World → Sp} {x : Str}
    (hn : l.most = some n) (hn2 : n ≤ sizeLine) (hdf : d.params.defaults = []) (hr : Room k callerA)
    (hY : ∀ (w : World) (h : Heap), YP w h → (K w.params).In h)
    (F : ∀ (w : World) (mg : Str → Option Value) (fa : Addr) (h : Heap), (K w.params).In h → h.Ns mainGlobals mg → mg d.name = some (.ref fa) →
      ∃ fd : FuncData, (∀ (s : Shared) (u : Value), BindsTo s fd ⟨[u], []⟩ [(x, u)]) ∧
        ∀ base : Heap, (K w.params).In base → base.Ns mainGlobals mg → FnOk l.prog w (K w.params) mg base (CX w) k fa fd [x] (sp w))
    (hsp : ∀ (w : World) (H : Hp) (a : Addr) (ns : List Int), ns.length ≤ n → Only H → SqL (K w.params) H a (ns.map V.int) → sp w [.ref a] H (fun v _ => v = .bl true) fun _ _ _ => False)
    (hCX : ∀ (w : World) (H : Hp) (s : Shared) (e : Value) (s' : Shared), CX w [] H s (fun _ _ _ => False) e s' → False) :
    PySem.W.WalkO q loose XP YP l.row.toRowW d [] (fun f vs => PySem.call f vs) := by
  refine Att.attach_call hn hdf fun w s₀ s₁ mg mb fa o pm cd doc a vs ns G Y ho hd hcd hmg hobj hints hlen hg => ?_
  have KX := hY w _ Y
  obtain ⟨fd, hb, hF⟩ := F w mg fa _ KX G.T.g hmg
  exact law_call KX G.T.g G.T.b G.T.builtins G.T.nolimit hg hobj hints (Nat.le_trans hlen hn2) hr hF hb (fun H hO hS => hsp w H a ns hlen hO hS) fun H e s' => hCX w H s₁ e s'
end L2


namespace L2
open PySem PySem.Spec PyProof.Rows

def inClass (s : Stmt) (j : Nat) : Stmt := match s with
  | .ClassDef _ _ _ body _ _ _ _ _ _ _ => body.getD j (.Pass ⟨0, 0, 0, 0⟩)
  | _ => .Pass ⟨0, 0, 0, 0⟩
def defArgs (s : Stmt) : Arguments := match s with
  | .FunctionDef _ a _ _ _ _ _ _ _ _ => a
  | _ => { posonlyargs := [], args := [], vararg := none, kwonlyargs := [], kw_defaults := [], kwarg := none, defaults := [] }
def defBody (s : Stmt) : List Stmt := match s with
  | .FunctionDef _ _ b _ _ _ _ _ _ _ => b
  | _ => []
def defScope (s : Stmt) : Scope := match s with
  | .FunctionDef _ _ _ _ _ _ sc _ _ _ => sc
  | _ => { kind := .function, names := [], isGenerator := false, isCoroutine := false }

abbrev CX0 : CXT := fun _ _ _ _ _ _ => False
abbrev E0 : XK := fun _ _ _ => False
theorem pass0 {X : Cx} : Passes CX0 X E0 := fun _ _ _ _ _ _ _ h => h.elim

structure Fun (K : PySem.W.Frag) (x qual : Str) (st : Stmt) (f : Addr) (fd : FuncData) : Prop where
  ex : ∃ (oc : Value) (od : Option Addr) (kV doc pm : Value) (an : Option Addr) (cdv ct : Value) (osl : Array (Option Value)),
    fd = PySem.W.fnOf x qual (defArgs st) (defBody st) (defScope st) .none kV doc pm an cdv ct ∧ K.lookup f = some ⟨oc, od, .func fd, osl⟩ ∧ PySem.W.codeIn K cdv qual = true
  kp : PySem.W.keepIn K (.ref f) = true
section
variable {P : Program} {w : World} {K : PySem.W.Frag} {mg : Str → Option Value} {base : Heap}
theorem Fun.ok {x qual : Str} {st : Stmt} {f : Addr} {fd : FuncData} {N ps : List Str} {k : Nat} {sp : Sp} (F : Fun K x qual st f fd) (S : FnScope N ps (defScope st)) (len : ∀ vs H Q E, sp vs H Q E → vs.length = ps.length)
    (hbody : ∀ (cdv : Value) (A : Around) (outer : List Env) (s : Shared) (H : Hp) (vs : List V) (Q : VK) (E : XK), Room k (A.deeper (envOfC qual (defScope st) s.heap.objs.size f cdv)) → sp vs H Q E →
      ∃ t, PSs (cxOf CX0 P w K mg base N qual (defScope st) f cdv A outer s H E).nox (defBody st) t ∧ t { nx := fun _ H' => Q .non H', rt := Q } (start N vs) H) : FnOk P w K mg base CX0 (k + 1) f fd ps sp := by
  obtain ⟨oc, od, kV, doc, pm, an, cdv, ct, osl, rfl, lk, hcd⟩ := F.ex
  refine fn_of lk hcd S len fun A outer s H vs Q E hr hsp => ?_
  obtain ⟨t, h, q⟩ := hbody cdv A outer s H vs Q E hr hsp
  exact ⟨t, h.nox, q⟩
theorem Fun.binds {x qual : Str} {st : Stmt} {f : Addr} {fd : FuncData} {ps : List Str} (F : Fun K x qual st f fd)
    (h : ∀ (kV doc pm : Value) (an : Option Addr) (cdv ct : Value) (us : List Value), us.length = ps.length → bindArgs (PySem.W.fnOf x qual (defArgs st) (defBody st) (defScope st) .none kV doc pm an cdv ct) ⟨us, []⟩ = pure (ps.zip us)) : Binds K fd ps [] := by
  obtain ⟨oc, od, kV, doc, pm, an, cdv, ct, osl, rfl, lk, hcd⟩ := F.ex
  exact .all (h kV doc pm an cdv ct)
theorem fun_mk {x qual : Str} {st : Stmt} {f : Addr} {oc : Value} {od an : Option Addr} {osl : Array (Option Value)} {kV doc pm cdv ct : Value} (l : K.lookup f = some ⟨oc, od, .func (PySem.W.fnOf x qual (defArgs st) (defBody st) (defScope st) .none kV doc pm an cdv ct), osl⟩)
    (c : PySem.W.codeIn K cdv qual = true) (k : PySem.W.keepIn K (.ref f) = true) : Fun K x qual st f (PySem.W.fnOf x qual (defArgs st) (defBody st) (defScope st) .none kV doc pm an cdv ct) := ⟨⟨oc, od, kV, doc, pm, an, cdv, ct, osl, rfl, l, c⟩, k⟩
end
theorem small1000 {n : Nat} (h : n ≤ 1000) : n < sizeLine := Nat.lt_of_le_of_lt h (by decide)

section
variable {X : Cx}
theorem pv (i : Nat) {x : Str} {pos : Pos} (hN : X.N[i]? = some x := by rfl) (hv : Vis X.env.scope x := by first | exact Or.inl rfl | exact Or.inr (Or.inl rfl) | exact Or.inr (Or.inr rfl)) (hd : (x == ("__debug__" : Str)) = false := by decide)
    (hcd : (x == ("__classdict__" : Str)) = false := by decide) : PE X (.Name x pos) (tVar i) := pe_var hN hv hd hcd
end

theorem iteF {A B : Prop} (h : B) : if false = true then A else B := by
  rw [if_neg Bool.false_ne_true]
  exact h
theorem iteT {A B : Prop} (h : A) : if true = true then A else B := by
  rw [if_pos rfl]
  exact h
theorem ite2 {c A B : Prop} [Decidable c] (h1 : c → A) (h2 : ¬ c → B) : if c then A else B := by
  by_cases h : c
  · rw [if_pos h]
    exact h1 h
  · rw [if_neg h]
    exact h2 h
theorem iteNS {c A B : Prop} [Decidable c] (hc : c) (h : B) : if (!decide c) = true then A else B := by
  rw [decide_eq_true hc]
  exact iteF h

def Same (H H' : Hp) : Prop := ∀ b o, H b = some o → H' b = some o
theorem Same.refl (H : Hp) : Same H H := fun _ _ h => h
theorem Same.trans {H H1 H2 : Hp} (a : Same H H1) (b : Same H1 H2) : Same H H2 := fun c o h => b c o (a c o h)
theorem Same.free {H H' : Hp} (e : Same H H') {l : Addr} (h : H' l = Option.none) : H l = Option.none := by
  cases q : H l with
  | none => rfl
  | some o =>
    rw [e l o q] at h
    cases h
theorem Same.seq {K : PySem.W.Frag} {H H' : Hp} {a : Addr} {xs : List V} (e : Same H H') (h : SqL K H a xs) : SqL K H' a xs := by
  rcases h with (h | ⟨o, h⟩) | h
  · exact .inl (.inl (e _ _ h))
  · exact .inl (.inr ⟨o, e _ _ h⟩)
  · exact .inr h

end L2

namespace L2
open PySem PySem.Spec PyProof.Rows
section
variable {X : Cx}
end
section
variable {κ : Type} [DecidableEq κ]
end
end L2
end

section
set_option Elab.async false
set_option linter.all false
set_option maxRecDepth 100000
namespace L2
open PySem PySem.Spec PyProof.Rows

def blk (X : Cx) (scope : Scope) (cl : List (Str × Addr)) (C : Addr) (x : Str) (s₀ : Shared) (H₀ : Hp) (fp : List Addr) : Cx :=
  { X with N := x :: X.N, s₀ := s₀, H₀ := H₀, env := compEnvC scope cl C X.env, outer := X.stack, ex := fp, fn := fun _ => false, pn := [], xe := fun _ _ => False }

structure CompOk (X : Cx) (scope : Scope) (x : Str) : Prop where
  kind : scope.kind = .function
  ncell : ∀ y ∈ scope.names, y.2 ≠ .cell
  names : ∀ y ∈ scope.names, y.2 = .local → scope.names.lookup y.1 = some .local
  hx : scope.names.lookup x = some .local
  free : ∀ y ∈ scope.names, y.2 = .free → X.env.kindOf y.1 = some .cell ∨ X.env.kindOf y.1 = some .free
  out : ∀ y ∈ X.N, scope.names.lookup y ≠ some .local
  nd : X.N.Nodup

def compChk (sc : Scope) (N : List Str) (scope : Scope) (x : Str) : Bool :=
  scope.kind == .function && scope.names.all (fun y => y.2 != .cell) && scope.names.all (fun y => y.2 != .local || scope.names.lookup y.1 == some .local) && scope.names.lookup x == some .local &&
  scope.names.all (fun y => y.2 != .free || sc.names.lookup y.1 == some .cell || sc.names.lookup y.1 == some .free) && N.all (fun y => scope.names.lookup y != some .local)
theorem CompOk.of {X : Cx} {scope : Scope} {x : Str} (hN : X.N.Nodup) (h : compChk X.env.scope X.N scope x = true) : CompOk X scope x := by
  unfold compChk at h
  simp only [Bool.and_eq_true, List.all_eq_true, Bool.or_eq_true, bne_iff_ne, beq_iff_eq, ne_eq] at h
  obtain ⟨⟨⟨⟨⟨h1, h2⟩, h3⟩, h4⟩, h5⟩, h6⟩ := h
  refine ⟨h1, fun y hy => h2 y hy, fun y hy e => (h3 y hy).resolve_left fun z => z e, h4, fun y hy e => ?_, fun y hy => h6 y hy, hN⟩
  rcases h5 y hy with (z | z) | z
  · exact absurd e z
  · exact .inl z
  · exact .inr z

theorem lookup_mem' {α : Type} : ∀ {l : List (Str × α)} {x : Str} {a : α}, l.lookup x = some a → (x, a) ∈ l
  | [], _, _, h => by simp at h
  | (y, b) :: r, x, a, h => by
    rw [List.lookup_cons] at h
    split at h
    · rename_i e
      have e' : x = y := by simpa using e
      cases h; subst e'
      exact List.mem_cons_self
    · exact List.mem_cons_of_mem _ (lookup_mem' h)

theorem closure_ok {env : Env} : ∀ (names : List (Str × NameKind)), (∀ y ∈ names, y.2 = .free → ∃ c, env.cells.lookup y.1 = some c) → ∀ acc : List (Str × Addr), (∀ n c, acc.lookup n = some c → env.cells.lookup n = some c) →
    ∃ cl, (forIn names acc (fun (p : Str × NameKind) (cs : List (Str × Addr)) => if (p.2 == NameKind.free) = true then (do let a ← cellOf env p.1; pure (ForInStep.yield ((p.1, a) :: cs))) else (pure (ForInStep.yield cs) : Sem _)) : Sem (List (Str × Addr))) = pure cl ∧
      (∀ n c, cl.lookup n = some c → env.cells.lookup n = some c) ∧ (∀ n, (∃ c, acc.lookup n = some c) → ∃ c, cl.lookup n = some c) ∧ ∀ n, (n, NameKind.free) ∈ names → ∃ c, cl.lookup n = some c
  | [], _, acc, ha => ⟨acc, by simp, ha, fun _ h => h, fun _ h => by simp at h⟩
  | (n, k) :: r, hf, acc, ha => by
    have hr : ∀ y ∈ r, y.2 = .free → ∃ c, env.cells.lookup y.1 = some c := fun y hy => hf y (List.mem_cons_of_mem _ hy)
    by_cases hk : k = .free
    · subst hk
      obtain ⟨c, hc⟩ := hf (n, .free) List.mem_cons_self rfl
      obtain ⟨cl, e, h1, h2, h3⟩ := closure_ok r hr ((n, c) :: acc) (fun n' c' h => by
        rw [List.lookup_cons] at h
        split at h
        · rename_i q
          have q' : n' = n := by simpa using q
          cases h; subst q'; exact hc
        · exact ha n' c' h)
      refine ⟨cl, ?_, h1, fun n' h => h2 n' ?_, fun n' h => ?_⟩
      · rw [List.forIn_cons]
        simp only [beq_self_eq_true, if_true]
        have e2 : cellOf env n = pure c := by unfold cellOf; rw [hc]
        rw [e2]
        simp only [pure_bind]
        exact e
      · obtain ⟨c', hc'⟩ := h
        rw [List.lookup_cons]
        split
        · exact ⟨c, rfl⟩
        · exact ⟨c', hc'⟩
      · rcases List.mem_cons.mp h with q | q
        · refine h2 n' ⟨c, ?_⟩
          cases q
          rw [List.lookup_cons, beq_self_eq_true]
        · exact h3 n' q
    · have hb : (k == NameKind.free) = false := by simpa using hk
      obtain ⟨cl, e, h1, h2, h3⟩ := closure_ok r hr acc ha
      refine ⟨cl, ?_, h1, h2, fun n' h => ?_⟩
      · rw [List.forIn_cons]
        simp only [hb, Bool.false_eq_true, if_false, pure_bind]
        exact e
      · rcases List.mem_cons.mp h with q | q
        · cases q; exact absurd rfl hk
        · exact h3 n' q

theorem lookup_relabel {env : Env} : ∀ {names : List (Str × NameKind)} {x : Str} {k : NameKind},
    (names.map fun (n, k) => if (k == NameKind.free && env.scope.kind == .function && env.kindOf n == some .cell) then (n, NameKind.cell) else (n, k)).lookup x = some k → names.lookup x = some k ∨ (k = .cell ∧ names.lookup x = some .free)
  | [], _, _, h => by simp at h
  | (n, j) :: r, x, k, h => by
    have ih := @lookup_relabel env r x k
    have h' : List.lookup x ((if (j == NameKind.free && env.scope.kind == .function && env.kindOf n == some .cell) = true then (n, NameKind.cell) else (n, j)) :: _) = some k := h
    by_cases hc : (j == NameKind.free && env.scope.kind == .function && env.kindOf n == some .cell) = true
    · rw [if_pos hc] at h'
      cases hx : x == n with
      | true =>
        simp only [List.lookup_cons, hx] at h' ⊢
        cases h'
        have : j = .free := by simp at hc; exact hc.1.1
        exact .inr ⟨rfl, by rw [this]⟩
      | false => simp only [List.lookup_cons, hx] at h' ⊢; exact ih h'
    · rw [if_neg hc] at h'
      cases hx : x == n with
      | true => simp only [List.lookup_cons, hx] at h' ⊢; exact .inl h'
      | false => simp only [List.lookup_cons, hx] at h' ⊢; exact ih h'

theorem compLoop_T {prog : Program} {w : World} {A : Around} {R : Result → Shared → Prop} {s : Shared} {elt target iter : Expr} {ifs : List Expr} {scope : Scope} {pos : Pos} {it acc : Value} {env : Env} (I : Nat → Shared → Prop)
    (turn : ∀ n s, I n s → wpAny (model prog w) A (pyNext it) (fun r s₁ => match r with
      | none => R (.ok .next) s₁
      | some v => wpAny (model prog w) A (letOwnedTupleGo target it v) (fun _ s₀ => wpAny (model prog w) A (assign target env v) (fun _ s₂ =>
          wpAny (model prog w) A (forIn ifs true fun c r => if r = true then do let ok ← isTrue c env (eval c env); pure (ForInStep.yield ok) else pure (ForInStep.yield r)) (fun ok s₃ =>
            if ok = true then wpAny (model prog w) A (eval elt env) (fun x s₄ =>
              wpAny (model prog w) A (call (.builtin "list.append") [acc, x]) (fun _ s₅ => ∃ m, m < n ∧ I m s₅) (fun _ _ => False) s₄) (fun _ _ => False) s₃
            else ∃ m, m < n ∧ I m s₃) (fun _ _ => False) s₂) (fun _ _ => False) s₀) (fun _ _ => False) s₁) (fun _ _ => False) s)
    (n : Nat) (h : I n s) :
    codeAny (model prog w) A (.compLoop (.ListComp elt [⟨target, iter, ifs, 0⟩] scope pos) 0 it acc env) R s := by
  refine codeAny_loop rfl I (fun n s hI => ?_) n h
  show wpAny _ A ((compTurn (.ListComp elt [⟨target, iter, ifs, 0⟩] scope pos) 0 it acc env).onRaise (fun x => do noteFrame x env; theTreesLotGoes x)) _ _ s
  refine wpAny_noted ?_
  rw [compTurn_list]
  refine wpAny_bind (wpAny_standAt (wpAny_bind (wpAny_mono (turn n s hI) (fun r s₁ h₁ => ?_) fun _ _ h' => h'.elim)))
  cases r with
  | none => exact wpAny_pure h₁
  | some v =>
    refine wpAny_bind (wpAny_mono h₁ (fun _ s₀ h₀ => ?_) fun _ _ h' => h'.elim)
    refine wpAny_bind (wpAny_mono h₀ (fun _ s₂ h₂ => wpAny_bind (wpAny_mono h₂ (fun ok s₃ h₃ => ?_) fun _ _ h' => h'.elim)) fun _ _ h' => h'.elim)
    cases ok with
    | false => exact wpAny_pure ⟨rfl, h₃⟩
    | true =>
      exact wpAny_bind (wpAny_bind (wpAny_mono h₃ (fun x s₄ h₄ => wpAny_bind (wpAny_mono h₄ (fun _ s₅ h₅ => wpAny_pure (wpAny_pure ⟨rfl, h₅⟩)) fun _ _ h' => h'.elim)) fun _ _ h' => h'.elim))

def PTs (X : Cx) (ifs : List Expr) (t : TT) : Prop :=
  ∀ (pins : List (Addr × Obj)) (s : Shared) (σ : St) (H : Hp) (Q : Bool → Hp → Prop), Inv X pins σ H s → t σ H Q →
    wpAny (model X.prog X.w) X.A (forIn ifs true fun c r => if r = true then do let ok ← isTrue c X.env (eval c X.env); pure (ForInStep.yield ok) else pure (ForInStep.yield r)) (TP X pins σ Q) X.xe s
def tYes : TT := fun _ H Q => Q true H
theorem pts_nil {X : Cx} : PTs X [] tYes := fun _ _ _ H _ I h => wpAny_tests_nil ⟨H, I, h⟩
def tComp (wi : TI) (tt : TT) (te : TE) : TE := fun σ H Q => wi σ H fun J H1 => ∀ D, H1 D = none → ∃ W : Nat → Nat → List V → Hp → Prop, (∃ m, W 0 m [] (upd H1 D (.lst []))) ∧
  ∀ i m ys H, W i m ys H → (J.stop i H ∧ Q (.ref D) H) ∨ (J.go i H ∧ ∀ x H', J.yld i H x H' → tt (some x :: σ) H' fun b H2 =>
    if b = true then te (some x :: σ) H2 fun y H3 => H3 D = some (.lst ys) ∧ ys.length < sizeLine ∧ ∃ m', m' < m ∧ W (i + 1) m' (ys ++ [y]) (upd H3 D (.lst (ys ++ [y])))
    else ∃ m', m' < m ∧ W (i + 1) m' ys H2)

theorem pe_comp {X : Cx} {elt iter : Expr} {x : Str} {px : Pos} {ifs : List Expr} {scope : Scope} {pos : Pos} {wi : TI} {tt : TT} {te : TE} (hc : X.calm = true) (ok : CompOk X scope x) (hi : PI X (.Name x px) iter wi)
    (ht : ∀ cl C s₀ H₀ fp, PTs (blk X scope cl C x s₀ H₀ fp) ifs tt) (he : ∀ cl C s₀ H₀ fp, PE (blk X scope cl C x s₀ H₀ fp) elt te)
    (hs : ∀ x, foldedSetIterable iter X.env x = pure x := by intro _; rfl) : PE X (.ListComp elt [⟨.Name x px, iter, ifs, 0⟩] scope pos) (tComp wi tt te) := by
  intro pins s σ H Q I h
  obtain ⟨cl, hcl, hsub, _, hall⟩ := closure_ok (env := X.env) scope.names (fun y hy e => I.ok.has y.1 (ok.free y hy e)) [] (fun _ _ z => by simp at z)
  have hclos : closureFor scope X.env = pure cl := by
    unfold closureFor
    simp only [bind_pure]
    exact hcl
  rw [eval_ListComp]
  refine wpAny_comprehension_free (use := none) (E := X.xe) (cl := cl) rfl hs hclos ok.kind ok.names (thn (hi pins s σ H _ I h) fun v s1 h1 => thn h1 fun itv s2 h2 => ?_)
  obtain ⟨it, fp, tn, J, H2, e, I2, T, st2, f2, R⟩ := h2
  subst e
  obtain ⟨W, ⟨m0, w0⟩, turn⟩ := R s2.heap.objs.size I2.fresh
  refine wpAny_newObj_type (wpAny_newFunctionEnv ok.ncell (by intro y hy; simp at hy) (fun h₁ hns₁ hsb₁ => ?_) ok.kind)
  dsimp only at hns₁ hsb₁ ⊢
  have I3 : Inv X pins σ (upd H2 s2.heap.objs.size (.lst [])) { s2 with heap := s2.heap.push { cls := .type "list", data := .seq ([] : List Value).toArray } } := I2.lnew (t' := s2.toks) (ys := []) (its := []) .nil (Nat.zero_le _)
  generalize hH3 : upd H2 s2.heap.objs.size (HO.lst []) = H3 at *
  generalize hs3 : s2.heap.push { cls := .type "list", data := .seq ([] : List Value).toArray } = hp3 at *
  generalize hD : s2.heap.objs.size = D at *
  generalize hC : hp3.objs.size = C at *
  have hDC : D < C := by rw [← hC, ← hs3, Heap.size_push, hD]; exact Nat.lt_succ_self _
  have old : ∀ b o, hp3.get? b = some o → h₁.get? b = some o := fun b o e => (hsb₁.2 b (by rw [← hC]; exact Nat.ne_of_lt (Heap.lt_size e))).trans (Heap.get?_push_of_some _ e)
  have fpl : ∀ b ∈ fp, b < C := fun b hb => by
    obtain ⟨o, e, _⟩ := T.obj _ _ st2 b hb
    rw [← hC, ← hs3, Heap.size_push]
    exact Nat.lt_succ_of_lt (Heap.lt_size e)
  have f3 : ∀ b ∈ fp, FpOk X pins H3 b := fun b hb => by
    obtain ⟨o, e, _⟩ := T.obj _ _ st2 b hb
    refine ⟨?_, (f2 b hb).2⟩
    rw [← hH3, upd_ne (by rw [← hD]; exact Nat.ne_of_lt (Heap.lt_size e))]
    exact (f2 b hb).1
  have nstk : ∀ b ∈ fp, b ∉ frs X.stack := fun b hb z => by
    obtain ⟨_, g1, g2, _⟩ := f3 b hb
    rcases List.mem_cons.mp (I3.stkSub b z) with q | q
    · exact g1 q
    · exact g2 q
  -- the block's context
  have YOk : (blk X scope cl C x { s2 with heap := hp3 } H3 fp).Ok := by
    refine ⟨I.ok.mod, ?_, I.ok.glob, I.ok.blt, Nat.le_of_eq hC, ?_, ?_, ?_, I.ok.hd, I.ok.frames, .inl rfl, ?_, ?_, ?_, ?_, ?_, ?_, ?_⟩
    · exact ok.kind
    · exact fun a b c h1 h2 => I.ok.inj a b c (hsub a c h1) (hsub b c h2)
    · intro a ha
      refine hall a ?_
      rcases ha with z | z
      · rcases lookup_relabel (env := X.env) z with q | ⟨_, q⟩
        · exact absurd rfl (ok.ncell _ (lookup_mem' q))
        · exact lookup_mem' q
      · rcases lookup_relabel (env := X.env) z with q | ⟨q, _⟩
        · exact lookup_mem' q
        · cases q
    · intro a c hf; cases hf
    · intro b hb
      refine ⟨Nat.ne_of_lt (fpl b hb), fun a c h1 => (f3 b hb).2.2.2.2.1 a c (hsub a c h1)⟩
    · exact I3.bs
    · exact Nat.le_trans I.ok.bsz I3.sz
    · intro b o e hb
      rcases (f3 b hb).2.2.2.1 with z | z
      · exact I.ok.noex b o e z
      · exact absurd (Nat.lt_of_lt_of_le (Heap.lt_size e) (Nat.le_trans I.ok.bsz z)) (Nat.lt_irrefl _)
    · exact nstk
    · exact I3.stack
    · exact I3.stkFree
  have Y0 : Inv (blk X scope cl C x { s2 with heap := hp3 } H3 fp) [] (none :: σ) H3 { s2 with heap := h₁, toks := s2.toks + ([] : List (Str × Value)).length } := by
    refine ⟨YOk, rfl, I3.bare, Un.kept old, ⟨_, hns₁, ?_⟩, ?_, ?_, ?_, fun p hp => by simp [blk] at hp, I3.hok.kept old, ?_⟩
    · intro i y v e1 e2 e3
      cases i with
      | zero => simp at e2
      | succ i =>
        have e1' : X.N[i]? = some y := by simpa [blk] using e1
        have e2' : σ[i]? = some (some v) := by simpa using e2
        have hy : y ∈ X.N := List.mem_of_getElem? e1'
        have hfree : (y, NameKind.free) ∈ scope.names := by
          have key : ∀ k, (relabel scope X.env).names.lookup y = some k → k ≠ .local → k = .cell ∨ k = .free → (y, NameKind.free) ∈ scope.names := fun k q n hk => by
            rcases lookup_relabel (env := X.env) q with z | ⟨_, z⟩
            · rcases hk with rfl | rfl
              · exact absurd rfl (ok.ncell _ (lookup_mem' z))
              · exact lookup_mem' z
            · exact lookup_mem' z
          rcases e3 with z | z | z
          · rcases lookup_relabel (env := X.env) z with q | ⟨q, _⟩
            · exact absurd q (ok.out y hy)
            · cases q
          · exact key _ z (by decide) (.inl rfl)
          · exact key _ z (by decide) (.inr rfl)
        have hk := ok.free _ hfree rfl
        obtain ⟨m, hn, hl⟩ := I3.loc
        obtain ⟨u, r, q⟩ := hl i y v e1' e2' (by rcases hk with z | z; exact .inr (.inl z); exact .inr (.inr z))
        refine ⟨u, r, .inr ⟨?_, ?_⟩⟩
        · rcases e3 with z | z | z
          · rcases lookup_relabel (env := X.env) z with q | ⟨q, _⟩
            · exact absurd q (ok.out y hy)
            · cases q
          · exact .inl z
          · exact .inr z
        · rcases q with ⟨z, _⟩ | ⟨_, c, hc', hcell⟩
          · rcases hk with q | q <;> (rw [z] at q; cases q)
          · obtain ⟨c', hc2⟩ := hall y hfree
            have : c' = c := by have := hsub y c' hc2; rw [hc'] at this; exact (Option.some.inj this).symm
            subst this
            obtain ⟨o, ho, hd⟩ := hcell
            exact ⟨c', hc2, o, old _ _ ho, hd⟩
    · intro a c h1
      obtain ⟨v, o, ho, hd⟩ := I3.cell a c (hsub a c h1)
      exact ⟨v, o, old _ _ ho, hd⟩
    · show H3 C = none
      exact I3.hok.fresh (Nat.le_of_eq hC)
    · exact fun a c h1 => I3.freeC a c (hsub a c h1)
    · show (none :: σ).length = (x :: X.N).length
      rw [List.length_cons, List.length_cons, I.len]
  -- behind the block
  have back : ∀ (s' : Shared) (v : Option V) (H' : Hp) (h' : Heap), Inv (blk X scope cl C x { s2 with heap := hp3 } H3 fp) [] (v :: σ) H' s' → Heap.SameBut C s'.heap h' → (∀ b ∈ fp, H' b = none) → Inv X pins σ H' { s' with heap := h' } := by
    intro s' v H' h' I' sb fr
    have neC : ∀ b o, hp3.get? b = some o → b ≠ C := fun b o e => by rw [← hC]; exact Nat.ne_of_lt (Heap.lt_size e)
    have U : Un (frs X.stack) fp H3 H' hp3 s'.heap := I'.base
    refine I3.call' (ch := fp) (H' := H') (s' := { s' with heap := h' }) I'.os ⟨fun b o e n h1 h2 => (sb.2 b (neC b o e)).trans (U.keep b o e n h1 h2), fun b o e n h1 h2 => ?_, U.free, fun b o e h2 => ?_, U.tups, U.frzs, U.tbls⟩ (fun b ob e => ?_) I'.bare fun b hb => ?_
    · obtain ⟨sl, q⟩ := U.slot b o e n h1 h2
      exact ⟨sl, (sb.2 b (neC b o e)).trans q⟩
    · obtain ⟨o', q⟩ := U.there b o e h2
      exact ⟨o', (sb.2 b (neC b o e)).trans q⟩
    · have fC : H' C = none := I'.free
      refine (I'.hok b ob e).stay (fun c w' hc q => (sb.2 c ?_).trans q) (fun _ q => q) fun _ _ q => q
      rintro rfl
      rcases hc with rfl | hc
      · rw [fC] at e; cases e
      · rw [fC] at hc; cases hc
    · obtain ⟨_, g1, _, g3, g4, g5⟩ := f3 b hb
      exact ⟨g3, g1, g4, g5⟩
  have stat : ∀ {H' : Hp}, (∀ b ∈ fp, H' b = none) → ∀ b ∈ fp, FpOk (blk X scope cl C x { s2 with heap := hp3 } H3 fp) [] H' b := fun hn b hb =>
    ⟨hn b hb, Nat.ne_of_lt (fpl b hb), nstk b hb, .inl hb, fun a c h1 => (f3 b hb).2.2.2.2.1 a c (hsub a c h1), fun p hp => by simp [blk] at hp⟩
  have st₁ : tn 0 h₁ := T.keep _ _ _ st2 fun b _ o e => old b o (by rw [← hs3]; exact Heap.get?_push_of_some _ e)
  have loop : codeAny (model X.prog X.w) X.A (.compLoop (.ListComp elt [⟨.Name x px, iter, ifs, 0⟩] scope pos) 0 (.ref it) (.ref D) (compEnvC scope cl C X.env)) (compPost (model X.prog X.w) X.A X.xe none (EP X pins σ Q) (.ref D) C)
      { s2 with heap := h₁, toks := s2.toks + ([] : List (Str × Value)).length } := by
    refine compLoop_T (fun n s' => ∃ i v ys H', Inv (blk X scope cl C x { s2 with heap := hp3 } H3 fp) [] (v :: σ) H' s' ∧ tn i s'.heap ∧ (∀ b ∈ fp, H' b = none) ∧ W i n ys H') ?_ m0 ⟨0, none, [], H3, Y0, st₁, fun b hb => (f3 b hb).1, w0⟩
    rintro n s4 ⟨i, v, ys, H4, I4, st4, fr4, w4⟩
    rcases turn i n ys H4 w4 with ⟨stop, qn⟩ | ⟨go, step⟩
    · refine thn (T.done (blk X scope cl C x { s2 with heap := hp3 } H3 fp) rfl rfl rfl hc i [] s4 (v :: σ) H4 _ I4 (stat fr4) st4 stop) fun r s5 ⟨hr, I5⟩ => ?_
      subst hr
      obtain ⟨m, hn, _⟩ := id I5.loc
      exact ⟨m, hn, fun h' sb => ⟨.ref D, H4, back s5 v H4 h' I5 sb fr4, rfl, qn⟩⟩
    · refine thn (T.item (blk X scope cl C x { s2 with heap := hp3 } H3 fp) rfl rfl rfl hc i [] s4 (v :: σ) H4 _ I4 (stat fr4) st4 go) fun r s5 ⟨u, hr, h5⟩ => ?_
      subst hr
      refine thn h5 fun _ s6 ⟨y, H6, I6, r6, y6, st6, fr6⟩ => ?_
      have I6' := I6.pinned (stat fr6) (T.obj _ _ st6)
      refine wpAny_assign_Name (store_ok (X := blk X scope cl C x { s2 with heap := hp3 } H3 fp) (i := 0) I6' ?_ rfl (.inl (lookup_relabel_local ok.hx)) r6 (fun s7 I7 => ?_) (.inr (lookup_relabel_local ok.hx)))
      · show (x :: X.N).Nodup
        exact List.nodup_cons.mpr ⟨fun z => ok.out x z ok.hx, ok.nd⟩
      have I7' : Inv (blk X scope cl C x { s2 with heap := hp3 } H3 fp) _ (some y :: σ) H6 s7 := I7
      refine thn (ht cl C { s2 with heap := hp3 } H3 fp _ s7 _ H6 _ I7' (step y H6 y6)) fun b s8 ⟨H8, I8, q8⟩ => ?_
      have keepIt : ∀ {σ' : St} {H' : Hp} {s' : Shared}, Inv (blk X scope cl C x { s2 with heap := hp3 } H3 fp) ([] ++ pinsAt fp s6.heap) σ' H' s' → tn (i + 1) s'.heap ∧ ∀ b ∈ fp, H' b = none := fun {σ' H' s'} I9 => by
        refine ⟨T.keep _ _ _ st6 fun b hb o e => (I9.pin (b, o) (List.mem_append_right _ (List.mem_append_right _ (mem_pinsAt hb e)))).1, fun b hb => ?_⟩
        obtain ⟨o, e, d⟩ := T.obj _ _ st6 b hb
        exact (I9.pin (b, o) (List.mem_append_right _ (List.mem_append_right _ (mem_pinsAt hb e)))).2.1
      cases b with
      | false =>
        obtain ⟨m', hm, w'⟩ := q8
        obtain ⟨k1, k2⟩ := keepIt I8
        exact ⟨m', hm, i + 1, some y, ys, H8, I8.unpinned, k1, k2, w'⟩
      | true =>
        have q8' : te (some y :: σ) H8 _ := q8
        show wpAny _ _ (eval elt _) _ _ _
        refine thn (he cl C { s2 with heap := hp3 } H3 fp _ s8 _ H8 _ I8 q8') fun z s9 ⟨zv, H9, I9, r9, hD9, hz9, m', hm, w'⟩ => ?_
        refine thn (mt_append (X := blk X scope cl C x { s2 with heap := hp3 } H3 fp) _ s9 _ H9 (.ref D) [zv] (.ref D) [z] (fun _ H' => H' = upd H9 D (.lst (ys ++ [zv]))) I9 rfl (.cons r9 .nil) ⟨D, ys, zv, rfl, rfl, hD9, hz9, rfl⟩) fun _ s10 ⟨_, H10, I10, _, e10⟩ => ?_
        subst e10
        obtain ⟨k1, k2⟩ := keepIt I10
        exact ⟨m', hm, i + 1, some y, ys ++ [zv], _, I10.unpinned, k1, k2, w'⟩
  exact codeAny_compStart_list loop (T.self X.A 0 _ _ _ st₁ loop)
end L2
namespace L2
open PySem PySem.Spec PyProof.Rows
def Nxt (n i : Nat) (P : Prop) : Prop := ∃ m', m' < n - i ∧ m' = n - (i + 1) ∧ i + 1 ≤ n ∧ P
theorem Nxt.mk {n i : Nat} {P : Prop} (h : i < n) (p : P) : Nxt n i P := ⟨_, by omega, rfl, h, p⟩
end L2
end

section
set_option Elab.async false
set_option linter.all false
set_option maxRecDepth 100000
namespace L2
open PySem PySem.Spec PyProof.Rows

def S (l : List Nat) : Str := ⟨l.toArray⟩
theorem S_cps (l : List Nat) : (S l).cps.toList = l := rfl
theorem S_len (l : List Nat) : (S l).length = l.length := rfl
theorem S_inj {a b : List Nat} (h : S a = S b) : a = b := congrArg (fun s : Str => s.cps.toList) h
theorem S_app (a b : List Nat) : S a ++ S b = S (a ++ b) := by
  show (⟨a.toArray ++ b.toArray⟩ : Str) = ⟨(a ++ b).toArray⟩
  simp
theorem S_dec (a b : List Nat) : decide (V.str (S a) = V.str (S b)) = decide (a = b) := by
  by_cases e : a = b
  · subst e; simp
  · rw [decide_eq_false e, decide_eq_false]
    intro z
    injection z with z
    exact e (S_inj z)

section
variable {X : Cx} {a b c e o : Expr} {ta tb tc te to : TE} {pos : Pos}

theorem pe_strS (l : List Nat) {x : Str} {j pos} (h : x = S l) : PE X (.Constant (.str x) j pos) (tC (.str (S l))) := by rw [h]; exact pe_str

def rAddS : R2 := fun x y H Q => ∃ i j, x = .str (S i) ∧ y = .str (S j) ∧ i.length + j.length ≤ sizeLine ∧ Q (.str (S (i ++ j))) H
theorem op_addS : OpR X (binaryOp .Add) rAddS := by
  intro pins s σ H x y v u Q I rx ry h
  obtain ⟨i, j, rfl, rfl, hz, q⟩ := h
  exact op_add_str pins s σ H _ _ v u Q I rx ry ⟨S i, S j, rfl, rfl, hz, by rw [S_app]; exact q⟩

def rIxS' : R2 := fun x y H Q => ∃ l i c, x = .str (S l) ∧ y = .int i ∧ l.length ≤ sizeLine ∧ atI l i = some c ∧ Q (.str (S [c])) H
theorem ix_S : IxR X rIxS' := by
  intro value slice pins s σ H x y v u Q I rx ry h hs
  obtain ⟨l, i, c, rfl, rfl, hz, hc, q⟩ := h
  exact ix_str value slice pins s σ H _ _ v u Q I rx ry ⟨S l, i, c, rfl, rfl, hz, hc, q⟩ hs

def rLenS : List V → Hp → VK → Prop := fun xs H Q => ∃ l, xs = [.str (S l)] ∧ l.length ≤ sizeLine ∧ Q (.int l.length) H
theorem call_lenS : CallR X (.builtin "len") rLenS := by
  intro pins s σ H xs us Q I r h
  obtain ⟨l, rfl, hz, q⟩ := h
  exact call_len_str pins s σ H _ us Q I r ⟨S l, rfl, hz, q⟩

def rEqS : R2 := fun x y H Q => ∃ i j, x = .str (S i) ∧ y = .str (S j) ∧ Q (.bl (decide (i = j))) H
theorem op_eqS : OpR X (compareOp .Eq) rEqS := by
  intro pins s σ H x y v u Q I rx ry h
  obtain ⟨i, j, rfl, rfl, q⟩ := h
  exact op_eq pins s σ H _ _ v u Q I rx ry ⟨rfl, by rw [S_dec]; exact q⟩
def rInS : R2 := fun x y H Q => ∃ c l, x = .str (S [c]) ∧ y = .str (S l) ∧ Q (.bl (decide (c ∈ l))) H
theorem op_inS : OpR X (compareOp .In) rInS := by
  intro pins s σ H x y v u Q I rx ry h
  obtain ⟨c, l, rfl, rfl, q⟩ := h
  exact op_in_str pins s σ H _ _ v u Q I rx ry ⟨S [c], S l, rfl, rfl, by
    have e := StrLaws.found_one (S l) c
    rw [S_cps] at e
    rw [show (S [c]) = (⟨#[c]⟩ : Str) from rfl, e]; exact q⟩

def cutN (l : List Nat) (lo hi : Option Int) : List Nat := (l.drop (HT.sIx l.length 0 lo)).take (HT.sIx l.length l.length hi - HT.sIx l.length 0 lo)
theorem idx_gen (lo hi : Option Int) (n : Nat) : Builtin.Str.strSliceIndices lo hi 1 n = (List.range (HT.sIx n n hi - HT.sIx n 0 lo)).map (fun k => HT.sIx n 0 lo + k) := by
  have clip : ∀ (v : Int) (d : Nat), max (0 : Int) (min (if v < 0 then v + (n : Int) else v) (n : Int)) = ((HT.sIx n d (some v) : Nat) : Int) := fun v d => by
    rw [← HT.clip_eq]; split <;> omega
  have key : ∀ a b : Nat, sliceRange (a : Int) (b : Int) 1 = (List.range (b - a)).map (fun k => a + k) := fun a b => by
    simp only [sliceRange, show ((1 : Int) > 0) = True from by simp, if_true]
    by_cases hlt : (a : Int) < b
    · have e3 : (((b : Int) - a + 1 - 1) / 1).toNat = b - a := by first | omega | (simp; done) | (simp; omega)
      simp only [hlt, if_true, e3]
      refine List.map_congr_left fun k _ => ?_
      omega
    · have : b - a = 0 := by omega
      simp [hlt, this]
  unfold Builtin.Str.strSliceIndices
  simp only [show ((1 : Int) > 0) = True from by simp, if_true]
  cases lo with
  | none =>
    cases hi with
    | none => exact key 0 n
    | some j => dsimp only; rw [clip j n]; exact key 0 _
  | some i =>
    cases hi with
    | none => dsimp only; rw [clip i 0]; exact key _ n
    | some j => dsimp only; rw [clip i 0, clip j n]; exact key _ _
theorem slice_gen (l : List Nat) (lo hi : Option Int) : Txt.slice (S l) lo hi = S (cutN l lo hi) := by
  have hle : HT.sIx l.length l.length hi ≤ l.length := HT.sIx_le _ _ (Nat.le_refl _) _
  have key : ((Builtin.Str.strSliceIndices lo hi 1 (S l).length).filterMap ((S l).cps[·]?)) = cutN l lo hi := by
    rw [idx_gen]
    have h := StrLaws.picks l (HT.sIx l.length l.length hi - HT.sIx l.length 0 lo) (HT.sIx l.length 0 lo)
    unfold cutN
    by_cases hc : HT.sIx l.length 0 lo ≤ HT.sIx l.length l.length hi
    · have h2 := h (by omega)
      rw [S_len]
      simpa [S] using h2
    · have e : HT.sIx l.length l.length hi - HT.sIx l.length 0 lo = 0 := by omega
      rw [S_len, e]; simp
  unfold Txt.slice
  split
  · rename_i hc
    have hlen : (Builtin.Str.strSliceIndices lo hi 1 (S l).length).length = l.length := by
      simp at hc
      simpa [S_len] using hc
    have hl2 : HT.sIx l.length l.length hi - HT.sIx l.length 0 lo = l.length := by rw [idx_gen, S_len] at hlen; simpa using hlen
    have h0 : HT.sIx l.length 0 lo = 0 ∨ l.length = 0 := by omega
    have e : cutN l lo hi = l := by
      unfold cutN
      rw [hl2]
      rcases h0 with z | z
      · rw [z]; simp
      · have : l = [] := List.length_eq_zero_iff.mp z
        subst this; simp
    rw [e]
  · rw [key]; rfl
def rSlS : V → Option Int → Option Int → Hp → VK → Prop := fun x lo hi H Q => ∃ l, x = .str (S l) ∧ l.length ≤ sizeLine ∧ Q (.str (S (cutN l lo hi))) H
theorem part_of {v : Value} {o : Option Int} (p : IsPart v o) : ∃ l : Option (Int × Tok), v = partValue l ∧ l.map (·.1) = o := by
  cases p with
  | none => exact ⟨none, rfl, rfl⟩
  | int i t => exact ⟨some (i, t), rfl, rfl⟩
theorem sl_S : SlR X rSlS := by
  intro pins s σ H x v vl vu lo hi sl Q I rx hs pl pu h
  obtain ⟨l, rfl, hz, q⟩ := h
  obtain ⟨t, rfl⟩ := rx
  obtain ⟨p1, rfl, rfl⟩ := part_of pl
  obtain ⟨p2, rfl, rfl⟩ := part_of pu
  refine ⟨"str", _, F.slot_str_getitem.lookup, typeIs_str _ _ _, ?_⟩
  refine wpAny_getItem_str_slice (l := p1) (u := p2) (st := none) hs rfl ?_
  have e := slice_gen l (p1.map (·.1)) (p2.map (·.1))
  have hle : (Txt.slice (S l) (p1.map (·.1)) (p2.map (·.1))).length ≤ sizeLine := Nat.le_trans (Txt.slice_le _ _ _) hz
  refine post_val_or_str ⟨hle, fun t' k => ?_⟩
  have e' : (if ((Option.map (fun x : Int × Tok => x.1) none).getD 1 == 1 && (slicePicked (S l) p1 p2 none).length == (S l).length) = true then S l else ⟨((slicePicked (S l) p1 p2 none).filterMap ((S l).cps[·]?)).toArray⟩) = S (cutN l (p1.map (·.1)) (p2.map (·.1))) := e
  exact ⟨.str (S (cutN l (p1.map (·.1)) (p2.map (·.1)))), H, I.tok _, ⟨t', congrArg (fun z => Value.str z t') e'⟩, q⟩

abbrev Ts (ls : List (List Nat)) : List V := ls.map fun l => V.str (S l)
def rInst (K : PySem.W.Frag) : List V → Hp → VK → Prop := fun xs H Q => ∃ x n t b, xs = [x, .ty n] ∧ TyOf K H x t ∧ PySem.W.kitOne K t (.type n) = some b ∧ Q (.bl b) H
theorem call_isinst : CallR X (.builtin "isinstance") (rInst X.K) := by
  intro pins s σ H xs us Q I r h
  obtain ⟨x, n, t, b, rfl, ty, k, q⟩ := h
  obtain ⟨u, w', rfl, r1, r2⟩ := vals2 r
  cases r2
  exact isinst_ok I r1 ty k fun tk => ⟨.bl b, H, I.tok tk, rfl, q⟩

def rMulS : R2 := fun x y H Q => ∃ l n, x = .str (S l) ∧ y = .int (n : Nat) ∧ 1 ≤ n ∧ n < 1000 ∧ l.length < 1000 ∧ Q (.str (S (List.replicate n l).flatten)) H
theorem rep_fold (l : List Nat) : ∀ (n : Nat) (acc : Array Nat), ((List.replicate n l.toArray).foldl (· ++ ·) acc).toList = acc.toList ++ (List.replicate n l).flatten
  | 0, acc => by simp
  | n + 1, acc => by
    rw [List.replicate_succ, List.foldl_cons, rep_fold l n, List.replicate_succ]
    simp
theorem op_mulS : OpR X (binaryOp .Mult) rMulS := by
  intro pins s σ H x y v u Q I rx ry h
  obtain ⟨l, n, rfl, rfl, h1, h2, h3, q⟩ := h
  obtain ⟨t, rfl⟩ := rx
  obtain ⟨t', rfl⟩ := ry
  have hsmall : l.length * n ≤ 1000 * 1000 := Nat.mul_le_mul (Nat.le_of_lt h3) (Nat.le_of_lt h2)
  have hbig : (1000 * 1000 : Nat) ≤ sizeLine := by decide
  refine PySem.P.mul_str ?_ ?_ ?_ ?_
  · rw [decide_eq_false (by omega), decide_eq_false (by omega)]; rfl
  · intro _ _
    have e : (2 ^ 63 - 1 : Int) / (n : Int) ≥ 1000 := by
      refine Int.le_ediv_of_mul_le (by omega) ?_
      have : (1000 : Int) * (n : Int) ≤ 1000 * 1000 := by omega
      omega
    rw [S_len]
    omega
  · intro _ _
    show decide (_ > _) = false
    rw [decide_eq_false]
    rw [S_len, Int.toNat_natCast]
    omega
  · rw [if_neg (by omega)]
    have hres : (⟨(List.replicate (n : Int).toNat (S l).cps).foldl (· ++ ·) #[]⟩ : Str) = S (List.replicate n l).flatten := by
      have e := rep_fold l n #[]
      rw [Int.toNat_natCast]
      unfold S
      congr 1
      apply Array.toList_inj.mp
      simpa using e
    rw [hres]
    split
    · rename_i hc
      have e : (List.replicate n l).flatten = l := by
        simp at hc
        rcases hc with z | z
        · have : n = 1 := by omega
          subst this; simp
        · have : l = [] := by simpa [S, Str.length] using z
          subst this; simp
      rw [e] at q
      exact ⟨.str (S l), H, I, ⟨t, rfl⟩, q⟩
    · refine ⟨?_, .str (S (List.replicate n l).flatten), H, I.tok _, ⟨_, rfl⟩, q⟩
      rw [S_len, len_rep, Nat.mul_comm]
      omega

theorem joinNil (ls : List (List Nat)) : Txt.join (S []) (ls.map S) = S ls.flatten := by
  unfold Txt.join Builtin.Str.glued
  have key : ∀ (ls : List (List Nat)) (acc : Array Nat), ((ls.map S).foldl (fun acc p => acc ++ (S []).cps ++ p.cps) acc).toList = acc.toList ++ ls.flatten := by
    intro ls
    induction ls with
    | nil => intro acc; simp
    | cons l r ih => intro acc; rw [List.map_cons, List.foldl_cons, ih]; simp [S]
  unfold S
  congr 1
  apply Array.toList_inj.mp
  cases ls with
  | nil => rfl
  | cons l r =>
    have := key r (S l).cps
    have e : (List.map S (l :: r)).drop 1 = List.map S r := rfl
    show (((List.map S (l :: r)).drop 1).foldl _ (S l).cps).toList = _
    rw [e]
    exact this.trans (by simp [S])
def rJoin (K : PySem.W.Frag) : V → List V → Hp → VK → Prop := fun x vs H Q => ∃ p ls, x = .str (S []) ∧ vs = [.ref p] ∧ SqL K H p (Ts ls) ∧ ls.flatten.length ≤ 1000 ∧ Q (.str (S ls.flatten)) H
theorem strs_of : ∀ {ls : List (List Nat)} {us : List Value}, Vals (Ts ls) us → StrsAre us (ls.map S)
  | [], _, .nil => .nil
  | l :: r, _, .cons q t => by
    obtain ⟨t', rfl⟩ := q
    exact .cons (S l) t' (strs_of t)
theorem sum_len (ls : List (List Nat)) : ((ls.map S).map (·.length)).sum = ls.flatten.length := by
  induction ls with
  | nil => rfl
  | cons l r ih => rw [List.map_cons, List.map_cons, List.sum_cons, ih, List.flatten_cons, List.length_append, S_len]
theorem mt_join : MtR X "str.join" (rJoin X.K) := by
  intro pins s σ H x vs v us Q I rx rv h
  obtain ⟨p, ls, rfl, rfl, hq, hz, q⟩ := h
  obtain ⟨t, rfl⟩ := rx
  obtain ⟨u, rfl, ru⟩ := vals1 rv
  cases ru
  obtain ⟨its, r, pl, _⟩ := I.list hq
  refine join_list pl.isList (ys := ls.map S) (by simpa using strs_of r) ?_ fun t' k => ?_
  · rw [sum_len]; show _ + _ * 0 ≤ _; omega
  · exact ⟨.str (S ls.flatten), H, I.tok k, ⟨t', congrArg (fun z => Value.str z t') (joinNil ls)⟩, q⟩
end
end L2
end

section
set_option Elab.async false
set_option linter.all false
set_option maxRecDepth 100000
namespace L2
open PySem PySem.Spec PyProof.Rows

structure DefAt (K : PySem.W.Frag) (mg : Str → Option Value) (name : Str) (st : Stmt) (ps : List Str) : Prop where
  ex : ∃ f fd, Fun K name name st f fd ∧ Binds K fd ps [] ∧ mg name = some (.ref f)
structure Def (P : Program) (w : World) (K : PySem.W.Frag) (mg : Str → Option Value) (base : Heap) (name : Str) (k : Nat) (ps : List Str) (sp : Sp) : Prop where
  ex : ∃ f fd, FnOk P w K mg base CX0 k f fd ps sp ∧ Binds K fd ps [] ∧ mg name = some (.ref f) ∧ PySem.W.keepIn K (.ref f) = true
theorem DefAt.ok {P : Program} {w : World} {K : PySem.W.Frag} {mg : Str → Option Value} {base : Heap} {name : Str} {st : Stmt} {N ps : List Str} {k : Nat} {sp : Sp} (D : DefAt K mg name st ps) (S : FnScope N ps (defScope st)) (len : ∀ vs H Q E, sp vs H Q E → vs.length = ps.length)
    (hbody : ∀ (f : Addr) (cdv : Value) (A : Around) (outer : List Env) (s : Shared) (H : Hp) (vs : List V) (Q : VK) (E : XK), Room k (A.deeper (envOfC name (defScope st) s.heap.objs.size f cdv)) → sp vs H Q E →
      ∃ t, PSs (cxOf CX0 P w K mg base N name (defScope st) f cdv A outer s H E).nox (defBody st) t ∧ t { nx := fun _ H' => Q .non H', rt := Q } (start N vs) H) : Def P w K mg base name (k + 1) ps sp := by
  obtain ⟨f, fd, F, b, g⟩ := D.ex
  exact ⟨f, fd, F.ok S len (hbody f), b, g, F.kp⟩
section
variable {X : Cx} {x : Str} {p pos : Pos} {e : Expr} {es : List Expr} {t : TA}
theorem pe_own {k : Nat} {ps : List Str} {sp : Sp} (D : Def X.prog X.w X.K X.mg X.base x k ps sp) (hr : Room k X.A) (hg : Gl X x) (ha : PA X (e :: es) t) (hdb : (x == ("__debug__" : Str)) = false := by decide)
    (hs : starEach (e :: es) X.env = (false, eval e X.env) :: starEach es X.env := by rfl) (hpl : (backTo pos (starEach es X.env)).any (·.1) = false := by rfl) :
    PE X (.Call (.Name x p) (e :: es) [] pos) (tCall sp [] E0 t) := by
  obtain ⟨f, fd, G, b, g, kp⟩ := D.ex
  exact pe_call G hr hg g kp b .nil pass0 ha hdb hs hpl
end
theorem Same.upd {H : Hp} {p : Addr} {o : HO} (h : H p = none) : Same H (upd H p o) := fun b o' e => by rw [upd_ne (ne_of_none e h)]; exact e
theorem Same.upd' {H H' : Hp} {p : Addr} {o : HO} (s : Same H H') (h : H p = none) : Same H (L2.upd H' p o) := fun b o' e => by rw [upd_ne (ne_of_none e h)]; exact s b o' e
end L2
namespace L2
open PySem PySem.Spec PyProof.Rows
section
variable {X : Cx} {e : Expr} {es : List Expr} {te : TE} {t : TA}
end
end L2
namespace L2
open PySem PySem.Spec PyProof.Rows
end L2
namespace L2
open PySem PySem.Spec PyProof.Rows
theorem defat_mk {K : PySem.W.Frag} {h : Heap} {mg : Str → Option Value} {name : Str} {st : Stmt} {ps : List Str} {f : Addr} {oc : Value} {od an : Option Addr} {osl : Array (Option Value)} {kV doc pm cdv ct : Value} (X : K.In h) (G : h.Ns mainGlobals mg)
    (a : PySem.W.nsIn K mainGlobals name = some (some (.ref f))) (l : K.lookup f = some ⟨oc, od, .func (PySem.W.fnOf name name (defArgs st) (defBody st) (defScope st) .none kV doc pm an cdv ct), osl⟩)
    (c : PySem.W.codeIn K cdv name = true) (k : PySem.W.keepIn K (.ref f) = true)
    (hb : ∀ (kV doc pm : Value) (an : Option Addr) (cdv ct : Value) (us : List Value), us.length = ps.length → bindArgs (PySem.W.fnOf name name (defArgs st) (defBody st) (defScope st) .none kV doc pm an cdv ct) ⟨us, []⟩ = pure (ps.zip us)) : DefAt K mg name st ps :=
  ⟨f, _, fun_mk l c k, (fun_mk l c k).binds hb, PySem.W.mg_of X G a⟩
theorem law_at {K : PySem.W.Frag} {h : Heap} {mg : Str → Option Value} {st : Stmt} {x : Str} {f fa : Addr} {oc : Value} {od an : Option Addr} {osl : Array (Option Value)} {kV doc pm cdv ct : Value} (X : K.In h) (G : h.Ns mainGlobals mg) (hfa : mg "law" = some (.ref fa))
    (a : PySem.W.nsIn K mainGlobals "law" = some (some (.ref f))) (l : K.lookup f = some ⟨oc, od, .func (PySem.W.fnOf "law" "law" (defArgs st) (defBody st) (defScope st) .none kV doc pm an cdv ct), osl⟩)
    (c : PySem.W.codeIn K cdv "law" = true) (k : PySem.W.keepIn K (.ref f) = true)
    (hb : ∀ (kV doc pm : Value) (an : Option Addr) (cdv ct v : Value), bindArgs (PySem.W.fnOf "law" "law" (defArgs st) (defBody st) (defScope st) .none kV doc pm an cdv ct) ⟨[v], []⟩ = pure [(x, v)]) :
    ∃ fd : FuncData, Fun K "law" "law" st fa fd ∧ ∀ (s : Shared) (v : Value), BindsTo s fd ⟨[v], []⟩ [(x, v)] := by
  have e := hfa.symm.trans (PySem.W.mg_of X G a)
  cases e
  exact ⟨_, fun_mk l c k, fun s v => .of_eq (hb kV doc pm an cdv ct v)⟩
def spLaw (K : PySem.W.Frag) : Sp := fun vs H Q _ => ∃ (a : Addr) (ns : List Int), vs = [.ref a] ∧ SqL K H a (ns.map V.int) ∧ ns.length ≤ 63 ∧ ∀ H', Q (.bl true) H'
theorem walkLaw {x : Str} {l : PySem.W.OpenLaw} {q : Program} {loose : List Str} {XP : (Str → Option Value) → Heap → Prop} {YP : World → Heap → Prop} {d : DefRec} {K : Params → PySem.W.Frag} (hn : l.most = some 63) (hdf : d.params.defaults = [])
    (hY : ∀ (w : World) (h : Heap), YP w h → (K w.params).In h)
    (F : ∀ (w : World) (mg : Str → Option Value) (fa : Addr) (h : Heap), (K w.params).In h → h.Ns mainGlobals mg → mg d.name = some (.ref fa) →
      ∃ fd : FuncData, (∀ (s : Shared) (u : Value), BindsTo s fd ⟨[u], []⟩ [(x, u)]) ∧ ∀ base : Heap, (K w.params).In base → base.Ns mainGlobals mg → FnOk l.prog w (K w.params) mg base CX0 20 fa fd [x] (spLaw (K w.params))) :
    PySem.W.WalkO q loose XP YP l.row.toRowW d [] (fun f vs => PySem.call f vs) :=
  L2.walk_of (n := 63) (k := 20) (x := x) (CX := fun _ => CX0) (sp := fun w => spLaw (K w.params)) hn (by decide) hdf ⟨rfl, by decide, by decide⟩ hY F (fun _ _ a ns hl _ hS => ⟨a, ns, rfl, hS, hl, fun _ => rfl⟩) fun _ _ _ _ _ z => z
end L2
end

section
set_option Elab.async false
set_option linter.all false
set_option maxRecDepth 100000
namespace L2
open PySem PySem.Spec PyProof.Rows
namespace RV
section
variable {prog : Program} {w : World} {A : Around} {E : Value → Shared → Prop} {s : Shared}
end
end RV
end L2
end

section
set_option Elab.async false
set_option linter.all false
set_option maxRecDepth 100000
namespace L2
open PySem PySem.Spec PyProof.Rows
section
variable {X : Cx} {o e st : Expr} {to te tst : TE} {apos cpos rpos pos p p2 : Pos}
end
end L2
end

section
set_option Elab.async false
set_option linter.all false
set_option maxRecDepth 100000
namespace L2
open PySem PySem.Spec PyProof.Rows
structure QE (X : Cx) (e : Expr) (t : TE) : Prop where
  out : PE X e t
structure QT (X : Cx) (e : Expr) (t : TT) : Prop where
  out : PT X e t
structure QW (X : Cx) (e : Expr) (t : TT) : Prop where
  out : PW X e t
structure QA (X : Cx) (es : List Expr) (t : TA) : Prop where
  out : PA X es t
structure QS (X : Cx) (st : Stmt) (t : TS) : Prop where
  out : PS X st t
structure QSs (X : Cx) (st : List Stmt) (t : TS) : Prop where
  out : PSs X st t
structure QG (X : Cx) (e : Expr) (t : TG) : Prop where
  out : PG X e t
structure QGs (X : Cx) (es : List Expr) (t : TGs) : Prop where
  out : PGs X es t
structure QI (X : Cx) (tg iter : Expr) (wi : TI) : Prop where
  out : PI X tg iter wi
structure QO (X : Cx) (e : Option Expr) (t : TO) : Prop where
  out : PO X e t
structure QC (X : Cx) (op : CmpOp) (a b : Expr) (t : TE) : Prop where
  out : PC X op a b t
structure QTs (X : Cx) (ifs : List Expr) (t : TT) : Prop where
  out : PTs X ifs t
theorem QW.qt {X : Cx} {e : Expr} {t : TT} (h : QW X e t) : QT X e t := ⟨h.out.pt⟩
section
variable {X : Cx} {st : Stmt} {rest : List Stmt} {t u : TS} {e : Expr} {te : TE} {pos : Pos}
theorem qss_nil  : QSs X [] tNext :=
  ⟨pss_nil⟩
end
section
variable {X : Cx} {st : Stmt} {rest : List Stmt} {t u : TS} {e : Expr} {te : TE} {pos : Pos}
theorem qss_cons (h1 : QS X st t) (h2 : QSs X rest u) : QSs X (st :: rest) (tSeq t u) :=
  ⟨pss_cons h1.out h2.out⟩
end
section
variable {X : Cx} {st : Stmt} {rest : List Stmt} {t u : TS} {e : Expr} {te : TE} {pos : Pos}
theorem qss_one (h1 : QS X st t) : QSs X [st] t :=
  ⟨pss_one h1.out⟩
end
section
variable {X : Cx} {st : Stmt} {rest : List Stmt} {t u : TS} {e : Expr} {te : TE} {pos : Pos}
theorem qs_if {c : Expr} {a b : List Stmt} {tc : TT} (hc : QT X c tc) (ha : QSs X a t) (hb : QSs X b u) : QS X (.If c a b pos) (tIfS tc t u) :=
  ⟨ps_if hc.out ha.out hb.out⟩
end
section
variable {X : Cx} {st : Stmt} {rest : List Stmt} {t u : TS} {e : Expr} {te : TE} {pos : Pos}
theorem qs_ret (he : QE X e te) : QS X (.Return (some e) pos) (tRet te) :=
  ⟨ps_ret he.out⟩
end
section
variable {X : Cx} {st : Stmt} {rest : List Stmt} {t u : TS} {e : Expr} {te : TE} {pos : Pos}
end
section
variable {X : Cx} {st : Stmt} {rest : List Stmt} {t u : TS} {e : Expr} {te : TE} {pos : Pos}
theorem qs_expr (he : QE X e te) (hs : swapsWith e none pos.line X.env = pure false := by rfl) : QS X (.Expr e pos) (tDrop te) :=
  ⟨ps_expr he.out hs⟩
end
section
variable {X : Cx} {tg : Expr}
theorem qs_for {iter : Expr} {body : List Stmt} {wi : TI} {g : TG} {tb : TS} {pos : Pos} (hp : PassesOwn (model X.prog X.w) X.A X.env X.xe) (hc : X.calm = true) (hi : QI X tg iter wi) (hg : QG X tg g) (hb : QSs X body tb) (hs : ∀ x, foldedSetIterable iter X.env x = pure x := by intro _; rfl) : QS X (.For tg iter body [] pos) (tFor wi g tb) :=
  ⟨ps_for hp hc hi.out hg.out hb.out hs⟩
end
section
variable {X : Cx} {st : Stmt} {rest : List Stmt} {t u : TS} {e : Expr} {te : TE} {pos : Pos}
end
section
variable {X : Cx} {pos : Pos}
theorem qs_set {i : Nat} {x : Str} {e : Expr} {te : TE} {pos' : Pos} (hN : X.N.Nodup) (hi : X.N[i]? = some x) (hx : Loc X.env.scope x) (he : QE X e te) (hs : swapsWith e (some (.Name x pos')) pos.line X.env = pure false := by rfl) (hf : X.fn x = true ∨ X.env.scope.names.lookup x = some .local := by first | exact .inl rfl | exact .inr rfl | assumption) : QS X (.Assign [.Name x pos'] e pos) (tAsg te (gName i)) :=
  ⟨ps_set hN hi hx he.out hs hf⟩
end
section
variable {X : Cx} {st : Stmt} {rest : List Stmt} {t u : TS} {e : Expr} {te : TE} {pos : Pos}
end
section
variable {X : Cx} {st : Stmt} {rest : List Stmt} {t u : TS} {e : Expr} {te : TE} {pos : Pos}
end
section
variable {X : Cx} {st : Stmt} {rest : List Stmt} {t u : TS} {e : Expr} {te : TE} {pos : Pos}
end
section
variable {X : Cx} {o e value : Expr} {f : Str} {pos pos' tpos : Pos} {ta tv : TE}
theorem qs_fld (ha : QE X o ta) (hv : QE X value tv) (hs : swapsWith value (some (.Attribute o f pos')) pos.line X.env = pure false) : QS X (.Assign [.Attribute o f pos'] value pos) (sFld X.K ta tv f) :=
  ⟨ps_fld ha.out hv.out hs⟩
end
section
variable {X : Cx} {pos : Pos}
theorem qs_asg {tg e : Expr} {te : TE} {g : TG} (he : QE X e te) (hg : QG X tg g) (hs : swapsWithSole [tg] e pos.line X.env = pure false := by rfl) (hw : swappedStores [tg] e X.env = pure none := by rfl) (h1 : (assignEach [tg] X.env).map (·.2) = [assign tg X.env] := by rfl) : QS X (.Assign [tg] e pos) (tAsg te g) :=
  ⟨ps_asg he.out hg.out hs hw h1⟩
end
section
variable {X : Cx} {pos : Pos}
theorem qg_name {i : Nat} {x : Str} (hN : X.N.Nodup) (hi : X.N[i]? = some x) (hx : Loc X.env.scope x) (hf : X.fn x = true ∨ X.env.scope.names.lookup x = some .local := by first | exact .inl rfl | exact .inr rfl | assumption) : QG X (.Name x pos) (gName i) :=
  ⟨pg_name hN hi hx hf⟩
end
section
variable {X : Cx} {pos : Pos}
theorem qg_tup {es : List Expr} {k : Nat} {t : TGs} {n : Nat} (hc : X.calm = true) (h : QGs X es t) (hn : (assignEach es X.env).length = n := by rfl) (hst : (assignEach es X.env).findIdx? (·.1) = none := by rfl) : QG X (.Tuple es k pos) (gTup X.K n t) :=
  ⟨pg_tup hc h.out hn hst⟩
end
section
variable {X : Cx} {pos : Pos}
theorem qgs_nil  : QGs X [] gNil :=
  ⟨pgs_nil⟩
end
section
variable {X : Cx} {pos : Pos}
theorem qgs_cons {e : Expr} {es : List Expr} {t : TG} {u : TGs} (h1 : QG X e t) (h2 : QGs X es u) (hs : (assignEach (e :: es) X.env).map (·.2) = assign e X.env :: (assignEach es X.env).map (·.2) := by rfl) : QGs X (e :: es) (gCons t u) :=
  ⟨pgs_cons h1.out h2.out hs⟩
end
section
variable {X : Cx} 
theorem qe_int {i j pos} : QE X (.Constant (.int i) j pos) (tC (.int i)) :=
  ⟨pe_int⟩
end
section
variable {X : Cx} 
theorem qe_bl {b j pos} : QE X (.Constant (.bool b) j pos) (tC (.bl b)) :=
  ⟨pe_bl⟩
end
section
variable {X : Cx} 
theorem qe_non {j pos} : QE X (.Constant .none j pos) (tC .non) :=
  ⟨pe_non⟩
end
section
variable {X : Cx} {a b c : Expr} {ta tb tc : TE} {pos : Pos}
theorem qe_op {op : Operator} {r : R2} (ho : OpR X (binaryOp op) r) (ha : QE X a ta) (hb : QE X b tb) : QE X (.BinOp a op b pos) (tOp r ta tb) :=
  ⟨pe_op ho ha.out hb.out⟩
end
section
variable {X : Cx} {a b c : Expr} {ta tb tc : TE} {pos : Pos}
theorem qe_un {op : UnaryOp} {r : V → Hp → VK → Prop} (ho : UnR X (unaryOp op) r) (ha : QE X a ta) : QE X (.UnaryOp op a pos) (tUn r ta) :=
  ⟨pe_un ho ha.out⟩
end
section
variable {X : Cx} {a b c : Expr} {ta tb tc : TE} {pos : Pos}
theorem qe_cmpR {op : CmpOp} {r : R2} (ho : OpR X (compareOp op) r) (ha : QE X a ta) (hb : QE X b tb) (hm : behindInMarks op b = false) : QE X (.Compare a [op] [b] pos) (tOp r ta tb) :=
  ⟨pe_cmpR ho ha.out hb.out hm⟩
end
section
variable {X : Cx} {a b c : Expr} {ta tb tc : TE} {pos : Pos}
theorem qt_cmpR {op : CmpOp} {r : R2} (ho : OpR X (compareOp op) r) (ha : QE X a ta) (hb : QE X b tb) (hm : behindInMarks op b = false) : QT X (.Compare a [op] [b] pos) (tTest (tOp r ta tb)) :=
  ⟨pt_cmpR ho ha.out hb.out hm⟩
end
section
variable {X : Cx} {a b c : Expr} {ta tb tc : TE} {pos : Pos}
theorem qe_chain {op op' : CmpOp} {r r' : R2} (ho : OpR X (compareOp op) r) (ho' : OpR X (compareOp op') r') (ha : QE X a ta) (hb : QE X b tb) (hc : QE X c tc) (hm : lastMarks [op, op'] [b, c] = false := by with_unfolding_all rfl) : QE X (.Compare a [op, op'] [b, c] pos) (tChain r r' ta tb tc) :=
  ⟨pe_chain ho ho' ha.out hb.out hc.out hm⟩
end
section
variable {X : Cx} {a b c : Expr} {ta tb tc : TE} {pos : Pos}
theorem qt_chain {op op' : CmpOp} {r r' : R2} (ho : OpR X (compareOp op) r) (ho' : OpR X (compareOp op') r') (ha : QE X a ta) (hb : QE X b tb) (hc : QE X c tc) (hm : lastMarks [op, op'] [b, c] = false := by with_unfolding_all rfl) : QT X (.Compare a [op, op'] [b, c] pos) (tTest (tChain r r' ta tb tc)) :=
  ⟨pt_chain ho ho' ha.out hb.out hc.out hm⟩
end
section
variable {X : Cx} {a b : Expr} {ta tb : TE} {pos : Pos} {tA tB' : TT} {rest : List Expr}
theorem qt_val {e : Expr} {t : TE} (h : QE X e t) (he : ∀ whole, isTrue e X.env whole = (do let v ← whole; standAt e.pos; holding [v] (truthy v)) := by intro _; rfl) : QT X e (tB t) :=
  ⟨pt_val h.out he⟩
end
section
variable {X : Cx} {a b c : Expr} {ta tb tc : TE} {pos : Pos}
end
section
variable {X : Cx} {a b : Expr} {ta tb : TE} {pos : Pos} {tA tB' : TT} {rest : List Expr}
theorem qt_not (ha : QT X a tA) : QT X (.UnaryOp .Not a pos) (tNot tA) :=
  ⟨pt_not ha.out⟩
end
section
variable {X : Cx} {a b : Expr} {ta tb : TE} {pos : Pos} {tA tB' : TT} {rest : List Expr}
end
section
variable {X : Cx} {a b : Expr} {ta tb : TE} {pos : Pos} {tA tB' : TT} {rest : List Expr}
end
section
variable {X : Cx} {a b : Expr} {ta tb : TE} {pos : Pos} {tA tB' : TT} {rest : List Expr}
theorem qw_or (ha : QT X a tA) (hb : QW X (.BoolOp .Or (b :: rest) pos) tB') : QW X (.BoolOp .Or (a :: b :: rest) pos) (tOr tA tB') :=
  ⟨pw_or ha.out hb.out⟩
end
section
variable {X : Cx} {a b : Expr} {ta tb : TE} {pos : Pos} {tA tB' : TT} {rest : List Expr}
theorem qw_or1 (ha : QT X a tA) : QW X (.BoolOp .Or [a] pos) tA :=
  ⟨pw_or1 ha.out⟩
end
section
variable {X : Cx} {a b : Expr} {ta tb : TE} {pos : Pos} {tA tB' : TT} {rest : List Expr}
theorem qe_and (ha : QE X a ta) (hb : QE X (.BoolOp .And (b :: rest) pos) tb) : QE X (.BoolOp .And (a :: b :: rest) pos) (tAndV ta tb) :=
  ⟨pe_and ha.out hb.out⟩
end
section
variable {X : Cx} {a b : Expr} {ta tb : TE} {pos : Pos} {tA tB' : TT} {rest : List Expr}
theorem qe_or (ha : QE X a ta) (hb : QE X (.BoolOp .Or (b :: rest) pos) tb) : QE X (.BoolOp .Or (a :: b :: rest) pos) (tOrV ta tb) :=
  ⟨pe_or ha.out hb.out⟩
end
section
variable {X : Cx} {a b : Expr} {ta tb : TE} {pos : Pos} {tA tB' : TT} {rest : List Expr}
theorem qe_one {op} {t : TE} (h : QE X a t) : QE X (.BoolOp op [a] pos) t :=
  ⟨pe_one h.out⟩
end
section
variable {X : Cx} {a b : Expr} {ta tb : TE} {pos : Pos} {tA tB' : TT} {rest : List Expr}
theorem qe_not (ha : QE X a ta) : QE X (.UnaryOp .Not a pos) (tNotV ta) :=
  ⟨pe_not ha.out⟩
end
section
variable {X : Cx} {a b : Expr} {ta tb : TE} {pos : Pos} {tA tB' : TT} {rest : List Expr}
end
section
variable {X : Cx} {a b c : Expr} {ta tb tc : TE} {pos : Pos}
theorem qe_ix {r : R2} (hr : IxR X r) (ha : QE X a ta) (hb : QE X b tb) (hs : PlainIx b) : QE X (.Subscript a b pos) (tOp r ta tb) :=
  ⟨pe_ix hr ha.out hb.out hs⟩
end
section
variable {X : Cx} {e : Expr} {te : TE} {lo hi : Option Expr} {tl th : TO} {pos p2 : Pos}
theorem qe_slice {r : V → Option Int → Option Int → Hp → VK → Prop} (hr : SlR X r) (he : QE X e te) (hl : QO X lo tl) (hu : QO X hi th) : QE X (.Subscript e (.Slice lo hi none p2) pos) (tSl r te tl th) :=
  ⟨pe_slice hr he.out hl.out hu.out⟩
end
section
variable {X : Cx} {e : Expr} {te : TE} {lo hi : Option Expr} {tl th : TO} {pos p2 : Pos}
theorem qo_none  : QO X none tNoPart :=
  ⟨po_none⟩
end
section
variable {X : Cx} {e : Expr} {te : TE} {lo hi : Option Expr} {tl th : TO} {pos p2 : Pos}
theorem qo_some (h : QE X e te) : QO X (some e) (tPart te) :=
  ⟨po_some h.out⟩
end
section
variable {X : Cx} {e : Expr} {es : List Expr} {te : TE} {t : TA} {pos : Pos}
theorem qe_lst (h : QA X es t) : QE X (.List es pos) (tLst t) :=
  ⟨pe_lst h.out⟩
end
section
variable {X : Cx} {e : Expr} {es : List Expr} {te : TE} {t : TA} {pos : Pos}
theorem qe_tup {x1} (h : QA X es t) : QE X (.Tuple es x1 pos) (tTup t) :=
  ⟨pe_tup h.out⟩
end
section
variable {X : Cx} {e : Expr} {es : List Expr} {te : TE} {t : TA} {pos : Pos}
theorem qa_nil  : QA X [] tNil :=
  ⟨pa_nil⟩
end
section
variable {X : Cx} {e : Expr} {es : List Expr} {te : TE} {t : TA} {pos : Pos}
theorem qa_cons (ha : QE X e te) (hr : QA X es t) (hs : starEach (e :: es) X.env = (false, eval e X.env) :: starEach es X.env := by rfl) : QA X (e :: es) (tCons te t) :=
  ⟨pa_cons ha.out hr.out hs⟩
end
section
variable {X : Cx} {x : Str} {p pos : Pos} {e : Expr} {es : List Expr} {t : TA} {id T : String} {r : List V → Hp → VK → Prop}
theorem qe_callB (hc : CallR X (.builtin id) r) (hg : Gl X x) (hm : X.mg x = none) (hv : bootBuiltins x = some (.builtin id)) (ha : QA X (e :: es) t) (hn : x ≠ "__name__" := by decide) (hdb : (x == ("__debug__" : Str)) = false := by decide) (he : starEach (e :: es) X.env = (false, eval e X.env) :: starEach es X.env := by rfl) (hpl : (backTo pos (starEach es X.env)).any (·.1) = false := by rfl) : QE X (.Call (.Name x p) (e :: es) [] pos) (tCB r t) :=
  ⟨pe_callB hc hg hm hv ha.out hn hdb he hpl⟩
end
section
variable {X : Cx} {x : Str} {p pos : Pos} {e : Expr} {es : List Expr} {t : TA} {id T : String} {r : List V → Hp → VK → Prop}
theorem qe_callTy (hc : CallR X (.type T) r) (hg : Gl X x) (hm : X.mg x = none) (hv : bootBuiltins x = some (.type T)) (ha : QA X (e :: es) t) (hn : x ≠ "__name__" := by decide) (hdb : (x == ("__debug__" : Str)) = false := by decide) (he : starEach (e :: es) X.env = (false, eval e X.env) :: starEach es X.env := by rfl) (hpl : (backTo pos (starEach es X.env)).any (·.1) = false := by rfl) : QE X (.Call (.Name x p) (e :: es) [] pos) (tCB r t) :=
  ⟨pe_callTy hc hg hm hv ha.out hn hdb he hpl⟩
end
section
variable {X : Cx} {x : Str} {p pos : Pos} {e : Expr} {es : List Expr} {t : TA} {id T : String} {r : List V → Hp → VK → Prop}
end
section
variable {X : Cx} {o e : Expr} {es : List Expr} {to : TE} {t : TA} {name : Str} {apos cpos : Pos} {T id : String} {r : V → List V → Hp → VK → Prop}
theorem qe_bm (pa : PlainAttrs T) (slot : Slot T name id) (hty : typeOf (.builtin id) = pure (.type "method_descriptor")) (hm : MtR X id r) (ho : QE X o to) (ha : QA X (e :: es) t) (hbase : attributeBase o name X.env (eval o X.env) = eval o X.env := by rfl) (hfew : ((backTo cpos (starEach (e :: es) X.env)).all (fun x => !x.1) && (backToKw cpos (keywordEach [] X.env)).all (fun x => x.1.isSome)
      && decide ((e :: es).length + ([] : List Keyword).length + (if ([] : List Keyword).isEmpty then 0 else 1) < 30)) = true := by rfl) (hline : (apos.endLine == cpos.line) = true := by rfl) (hs : starEach (e :: es) X.env = (false, eval e X.env) :: starEach es X.env := by rfl) (hplain : (backTo cpos (starEach es X.env)).any (·.1) = false := by rfl) : QE X (.Call (.Attribute o name apos) (e :: es) [] cpos) (tBM X.K T r to t) :=
  ⟨pe_bm pa slot hty hm ho.out ha.out hbase hfew hline hs hplain⟩
end
section
variable {X : Cx} {o e : Expr} {es : List Expr} {to : TE} {t : TA} {name : Str} {apos cpos : Pos} {T id : String} {r : V → List V → Hp → VK → Prop}
theorem qe_bm0 (pa : PlainAttrs T) (slot : Slot T name id) (hty : typeOf (.builtin id) = pure (.type "method_descriptor")) (hm : MtR X id r) (ho : QE X o to) (hbase : attributeBase o name X.env (eval o X.env) = eval o X.env := by rfl) (hline : (apos.endLine == cpos.line) = true := by rfl) : QE X (.Call (.Attribute o name apos) [] [] cpos) (tBM0 X.K T r to) :=
  ⟨pe_bm0 pa slot hty hm ho.out hbase hline⟩
end
section
variable {X : Cx} 
theorem qe_bltn {x : Str} {v : V} {u : Value} {pos : Pos} (hg : Gl X x) (hm : X.mg x = none) (hv : bootBuiltins x = some u) (r : RelV v u) (hn : x ≠ "__name__" := by decide) (hd : (x == ("__debug__" : Str)) = false := by decide) : QE X (.Name x pos) (tC v) :=
  ⟨pe_bltn hg hm hv r hn hd⟩
end
section
variable {X : Cx} 
theorem qe_glob {x : Str} {v : V} {u : Value} {pos : Pos} (hg : Gl X x) (hm : X.mg x = some u) (r : RelV v u) (hd : (x == ("__debug__" : Str)) = false := by decide) : QE X (.Name x pos) (tC v) :=
  ⟨pe_glob hg hm r hd⟩
end
section
variable {X : Cx} {tg : Expr}
theorem qi_list {l : Expr} {tl : TE} (hl : QE X l tl) : QI X tg l (iList X.K tl) :=
  ⟨pi_list hl.out⟩
end
section
variable {X : Cx} {tg : Expr}
theorem qi_tup {l : Expr} {tl : TE} (hl : QE X l tl) : QI X tg l (iTup X.K tl) :=
  ⟨pi_tup hl.out⟩
end
section
variable {X : Cx} {tg : Expr}
theorem qi_range1 {a : Expr} {ta : TA} {p pos : Pos} (hg : Gl X "range") (hm : X.mg "range" = none) (ha : QA X [a] ta) (hs : starEach [a] X.env = [(false, eval a X.env)] := by rfl) : QI X tg (.Call (.Name "range" p) [a] [] pos) (iRng1 ta) :=
  ⟨pi_range1 hg hm ha.out hs⟩
end
section
variable {X : Cx} {tg : Expr}
end
section
variable {X : Cx} {o e value : Expr} {f : Str} {pos pos' tpos : Pos} {ta tv : TE}
theorem qe_fld (he : QE X e ta) (hb : attributeBase e f X.env (eval e X.env) = eval e X.env) : QE X (.Attribute e f pos) (tFld X.K ta f) :=
  ⟨pe_fld he.out hb⟩
end
section
variable {X : Cx} {CX : CXT} {k : Nat} {f C : Addr} {fd : FuncData} {ps : List Str} {sp : Sp} {dvs : List V} {ds : List Value} {E : XK} {x m : Str} {p pos apos : Pos} {e o : Expr} {es : List Expr} {ta : TE} {t : TA}
end
section
variable {X : Cx} {CX : CXT} {k : Nat} {f C : Addr} {fd : FuncData} {ps : List Str} {sp : Sp} {dvs : List V} {ds : List Value} {E : XK} {x m : Str} {p pos apos : Pos} {e o : Expr} {es : List Expr} {ta : TE} {t : TA}
end
section
variable {X : Cx} {CX : CXT} {k : Nat} {f C : Addr} {fd : FuncData} {ps : List Str} {sp : Sp} {dvs : List V} {ds : List Value} {E : XK} {x m : Str} {p pos apos : Pos} {e o : Expr} {es : List Expr} {ta : TE} {t : TA}
end
section
variable {X : Cx} {CX : CXT} {k : Nat} {f C : Addr} {fd : FuncData} {ps : List Str} {sp : Sp} {dvs : List V} {ds : List Value} {E : XK} {x m : Str} {p pos apos : Pos} {e o : Expr} {es : List Expr} {ta : TE} {t : TA}
end
section
variable {X : Cx} {o i value : Expr} {td ty tv : TE} {pos pos' : Pos}
end
section
variable {X : Cx} {o i value : Expr} {td ty tv : TE} {pos pos' : Pos}
end
section
variable {X : Cx} {o i value : Expr} {td ty tv : TE} {pos pos' : Pos}
end
section
variable {X : Cx} {o e : Expr} {td ty : TE} {apos cpos : Pos}
end
section
variable {X : Cx} {o i value : Expr} {td ty tv : TE} {pos pos' : Pos}
end
section
variable {X : Cx} {a b : Expr} {ta tb : TE} {pos : Pos} {tA tB' : TT} {rest : List Expr}
end
section
variable {X : Cx} {a b : Expr} {ta tb : TE} {pos : Pos} {tA tB' : TT} {rest : List Expr}
end
section
variable {X : Cx} 
theorem qv (i : Nat) {x : Str} {pos : Pos} (hN : X.N[i]? = some x := by rfl) (hv : Vis X.env.scope x := by first | exact Or.inl rfl | exact Or.inr (Or.inl rfl) | exact Or.inr (Or.inr rfl)) (hd : (x == ("__debug__" : Str)) = false := by decide) (hcd : (x == ("__classdict__" : Str)) = false := by decide) : QE X (.Name x pos) (tVar i) :=
  ⟨pv i hN hv hd hcd⟩
end
section
variable {X : Cx} 
theorem qts_nil {X : Cx} : QTs X [] tYes :=
  ⟨pts_nil⟩
end
section
variable {X : Cx} 
end
section
variable {X : Cx} 
theorem qe_strS (l : List Nat) {x : Str} {j pos} (h : x = S l) : QE X (.Constant (.str x) j pos) (tC (.str (S l))) :=
  ⟨pe_strS l h⟩
end
section
variable {X : Cx} {e : Expr} {es : List Expr} {te : TE} {t : TA} {pos : Pos}
end
section
variable {X : Cx} {x : Str} {p pos : Pos} {e : Expr} {es : List Expr} {t : TA}
theorem qe_own {k : Nat} {ps : List Str} {sp : Sp} (D : Def X.prog X.w X.K X.mg X.base x k ps sp) (hr : Room k X.A) (hg : Gl X x) (ha : QA X (e :: es) t) (hdb : (x == ("__debug__" : Str)) = false := by decide) (hs : starEach (e :: es) X.env = (false, eval e X.env) :: starEach es X.env := by rfl) (hpl : (backTo pos (starEach es X.env)).any (·.1) = false := by rfl) : QE X (.Call (.Name x p) (e :: es) [] pos) (tCall sp [] E0 t) :=
  ⟨pe_own D hr hg ha.out hdb hs hpl⟩
end
section
variable {X : Cx} {o e st : Expr} {to te tst : TE} {apos cpos rpos pos p p2 : Pos}
end
section
variable {X : Cx} {o e st : Expr} {to te tst : TE} {apos cpos rpos pos p p2 : Pos}
end
theorem qe_comp {X : Cx} {elt iter : Expr} {x : Str} {px : Pos} {ifs : List Expr} {scope : Scope} {pos : Pos} {wi : TI} {tt : TT} {te : TE} (hc : X.calm = true) (ok : CompOk X scope x) (hi : QI X (.Name x px) iter wi)
    (ht : ∀ cl C s₀ H₀ fp, QTs (blk X scope cl C x s₀ H₀ fp) ifs tt) (he : ∀ cl C s₀ H₀ fp, QE (blk X scope cl C x s₀ H₀ fp) elt te)
    (hs : ∀ x, foldedSetIterable iter X.env x = pure x := by intro _; rfl) : QE X (.ListComp elt [⟨.Name x px, iter, ifs, 0⟩] scope pos) (tComp wi tt te) :=
  ⟨pe_comp hc ok hi.out (fun cl C s₀ H₀ fp => (ht cl C s₀ H₀ fp).out) (fun cl C s₀ H₀ fp => (he cl C s₀ H₀ fp).out) hs⟩
theorem DefAt.qok {P : Program} {w : World} {K : PySem.W.Frag} {mg : Str → Option Value} {base : Heap} {name : Str} {st : Stmt} {N ps : List Str} {k : Nat} {sp : Sp} (D : DefAt K mg name st ps) (S : FnScope N ps (defScope st)) (len : ∀ vs H Q E, sp vs H Q E → vs.length = ps.length)
    (hbody : ∀ (f : Addr) (cdv : Value) (A : Around) (outer : List Env) (s : Shared) (H : Hp) (vs : List V) (Q : VK) (E : XK), Room k (A.deeper (envOfC name (defScope st) s.heap.objs.size f cdv)) → sp vs H Q E →
      ∃ t, QSs (cxOf CX0 P w K mg base N name (defScope st) f cdv A outer s H E).nox (defBody st) t ∧ t { nx := fun _ H' => Q .non H', rt := Q } (start N vs) H) : Def P w K mg base name (k + 1) ps sp :=
  D.ok S len fun f cdv A outer s H vs Q E hr h => let ⟨t, a, b⟩ := hbody f cdv A outer s H vs Q E hr h; ⟨t, a.out, b⟩
theorem Fun.qok {P : Program} {w : World} {K : PySem.W.Frag} {mg : Str → Option Value} {base : Heap} {x qual : Str} {st : Stmt} {f : Addr} {fd : FuncData} {N ps : List Str} {k : Nat} {sp : Sp} (F : Fun K x qual st f fd) (S : FnScope N ps (defScope st)) (len : ∀ vs H Q E, sp vs H Q E → vs.length = ps.length)
    (hbody : ∀ (cdv : Value) (A : Around) (outer : List Env) (s : Shared) (H : Hp) (vs : List V) (Q : VK) (E : XK), Room k (A.deeper (envOfC qual (defScope st) s.heap.objs.size f cdv)) → sp vs H Q E →
      ∃ t, QSs (cxOf CX0 P w K mg base N qual (defScope st) f cdv A outer s H E).nox (defBody st) t ∧ t { nx := fun _ H' => Q .non H', rt := Q } (start N vs) H) : FnOk P w K mg base CX0 (k + 1) f fd ps sp :=
  F.ok S len fun cdv A outer s H vs Q E hr h => let ⟨t, a, b⟩ := hbody cdv A outer s H vs Q E hr h; ⟨t, a.out, b⟩
end L2
end

section
set_option Elab.async false
set_option linter.all false
set_option maxRecDepth 100000
namespace L2
open PySem PySem.Spec PyProof.Rows
section
variable {prog : Program} {w : World} {A : Around} {E : Value → Shared → Prop} {s : Shared}
end
section
variable {X : Cx}
end
end L2
end

section
set_option Elab.async false
set_option linter.all false
set_option maxRecDepth 100000
namespace L2
open PySem PySem.Spec PyProof.Rows
def Its (l : List Nat) : It := ⟨fun i _ => i < l.length, fun i H x H' => H' = H ∧ ∃ c, l[i]? = some c ∧ x = .str (S [c]), fun i _ => l.length ≤ i⟩
theorem turn_str {P : Program} {w : World} {K : PySem.W.Frag} {tg : Expr} {ty : String} (hty : ty = "str_ascii_iterator" ∨ ty = "str_iterator") (l : List Nat) (t : Tok) (it : Addr) :
    Turn P w K tg (Its l) [it] it (fun i h => i ≤ l.length ∧ h.IsStrIter it ty (S l) t i) where
  mem := by simp
  obj := fun i h st b hb => by
    have e : b = it := by simpa using hb
    subst e
    obtain ⟨_, o, e, c, d⟩ := st
    exact ⟨o, e, fun v z => by rw [d] at z; cases z⟩
  keep := fun i h h' st k => ⟨st.1, let ⟨o, ho, r⟩ := st.2; ⟨o, k it (by simp) o ho, r⟩⟩
  item := by
    intro X hP hw hK hc i pins s σ H E I hf st hg
    subst hP hw hK
    obtain ⟨f0, f1, f2, f3, f4, f5⟩ := hf it (by simp)
    have hg' : i < (S l).cps.size := hg
    have fin : ∀ (v : Value) (h' : Heap) (tk : Nat), SignAt (S l) i v → h'.IsStrIter it ty (S l) t (i + 1) → (∀ b o, b ∉ [it] → s.heap.get? b = some o → h'.get? b = some o) →
        ∃ u, some v = some u ∧ wpAny (model X.prog X.w) X.A (letOwnedTupleGo tg (.ref it) u) (fun _ s2 => ∃ x H', Inv X pins σ H' s2 ∧ RelV x u ∧ (Its l).yld i H x H' ∧ (i + 1 ≤ l.length ∧ s2.heap.IsStrIter it ty (S l) t (i + 1)) ∧ ∀ b ∈ [it], H' b = none) E { s with heap := h', toks := tk } := by
      intro v h' tk hv st' kk
      obtain ⟨c, u, hc', rfl⟩ := hv
      have I1 : Inv X pins σ H { s with heap := h', toks := tk } := I.turned (fun b o hb e => kk b o (by simpa using hb) e) f0 f1 f3 f4 f5
      obtain ⟨o, e, c2, d2⟩ := id st'
      refine ⟨_, rfl, go_of (s := { s with heap := h', toks := tk }) e c2 d2 (by rcases hty with rfl | rfl <;> decide) ⟨.str (S [c]), H, I1, ⟨u, rfl⟩, ⟨rfl, c, by simpa [S] using hc', rfl⟩, ⟨hg, st'⟩, fun b hb => (hf b hb).1⟩⟩
    rcases hty with rfl | rfl
    · exact (Walks.strAscii (prog := X.prog) (w := X.w) (I.ok.hd hc) it (S l) t).item i s _ _ hg' st.2 fun v h' tk hv st' kk => fin v h' tk hv st' kk
    · exact (Walks.strWide (prog := X.prog) (w := X.w) (I.ok.hd hc) it (S l) t).item i s _ _ hg' st.2 fun v h' tk hv st' kk => fin v h' tk hv st' kk
  done := by
    intro X hP hw hK hc i pins s σ H E I hf st hg
    subst hP hw hK
    obtain ⟨f0, f1, f2, f3, f4, f5⟩ := hf it (by simp)
    have hi : i = (S l).cps.size := Nat.le_antisymm st.1 hg
    have st' := st.2
    rw [hi] at st'
    rcases hty with rfl | rfl
    · exact (Walks.strAscii (prog := X.prog) (w := X.w) (I.ok.hd hc) it (S l) t).done s _ _ st' fun h' tk kk => ⟨rfl, I.turned (fun b o hb e => kk b o (by simpa using hb) e) f0 f1 f3 f4 f5⟩
    · exact (Walks.strWide (prog := X.prog) (w := X.w) (I.ok.hd hc) it (S l) t).done s _ _ st' fun h' tk kk => ⟨rfl, I.turned (fun b o hb e => kk b o (by simpa using hb) e) f0 f1 f3 f4 f5⟩
  self := fun A i s Q E st h => by
    rcases hty with rfl | rfl
    · exact wpAny_pyIter_striter_ascii st.2 h
    · exact wpAny_pyIter_striter_wide st.2 h
section
variable {X : Cx} {tg : Expr}
def iStr (tl : TE) : TI := fun σ H R => tl σ H fun x H1 => ∃ l, x = .str (S l) ∧ R (Its l) H1
theorem qi_str {l : Expr} {tl : TE} (hl : QE X l tl) : QI X tg l (iStr tl) := ⟨by
  intro pins s σ H R I h
  refine thn (hl.out pins s σ H _ I h) fun v s1 ⟨x, H1, I1, r1, q1⟩ => ?_
  obtain ⟨l, e, q⟩ := q1
  subst e
  obtain ⟨t, rfl⟩ := r1
  refine wpAny_pyIter_strU ?_
  have hty : strIterType (S l) = "str_ascii_iterator" ∨ strIterType (S l) = "str_iterator" := by unfold strIterType; split <;> simp
  refine ⟨s1.heap.objs.size, [s1.heap.objs.size], _, _, H1, rfl, I1.kept (t' := s1.toks) fun b o e => Heap.get?_push_of_some _ e, turn_str hty l t _, ⟨Nat.zero_le _, _, Heap.get?_push_size _ rfl, rfl, rfl⟩, fun b hb => ?_, q⟩
  have e : b = s1.heap.objs.size := by simpa using hb
  subst e
  exact I1.fpOk (Nat.le_refl _) (I1.hok.fresh (Nat.le_refl _))⟩
theorem comp_str {l : List Nat} {D : Addr} {te : TE} {σ : St} {H : Hp} {R : Hp → Prop} (Pv : Nat → List V → Hp → Prop) (h0 : Pv 0 [] (upd H D (.lst [])))
    (hs : ∀ i c ys H, l[i]? = some c → Pv i ys H → te (some (.str (S [c])) :: σ) H fun y H3 => H3 D = some (.lst ys) ∧ ys.length < sizeLine ∧ Nxt l.length i (Pv (i + 1) (ys ++ [y]) (upd H3 D (.lst (ys ++ [y])))))
    (hd : ∀ ys H, Pv l.length ys H → R H) :
    ∃ W : Nat → Nat → List V → Hp → Prop, (∃ m, W 0 m [] (upd H D (.lst []))) ∧
      ∀ i m ys H, W i m ys H → ((Its l).stop i H ∧ R H) ∨ ((Its l).go i H ∧ ∀ x H', (Its l).yld i H x H' → tYes (some x :: σ) H' fun b H2 =>
        if b = true then te (some x :: σ) H2 fun y H3 => H3 D = some (.lst ys) ∧ ys.length < sizeLine ∧ ∃ m', m' < m ∧ W (i + 1) m' (ys ++ [y]) (upd H3 D (.lst (ys ++ [y])))
        else ∃ m', m' < m ∧ W (i + 1) m' ys H2) := by
  refine ⟨fun i m ys H => m = l.length - i ∧ i ≤ l.length ∧ Pv i ys H, ⟨l.length, by simp, Nat.zero_le _, h0⟩, ?_⟩
  rintro i m ys H ⟨rfl, hi, p⟩
  by_cases hlt : i < l.length
  · refine .inr ⟨hlt, fun x H' y => ?_⟩
    obtain ⟨e, c, hc, e2⟩ := y
    subst e e2
    exact hs i c ys H' hc p
  · have e : i = l.length := by omega
    subst e
    exact .inl ⟨Nat.le_refl _, hd ys H p⟩
theorem call_all (hc : X.calm = true) : CallR X (.builtin "all") (fun xs H Q => ∃ (p : Addr) (bs : List Bool), xs = [.ref p] ∧ SqL X.K H p (bs.map V.bl) ∧ Q (.bl (bs.all id)) H) := by
  intro pins s σ H xs us Q I r h
  obtain ⟨p, bs, rfl, hq, q⟩ := h
  obtain ⟨u, rfl, ru⟩ := vals1 r
  cases ru
  obtain ⟨its, rv, pl, hz⟩ := I.list hq
  have hne : p ≠ s.heap.objs.size := by
    obtain ⟨o, ho, _⟩ := pl.isList
    exact Nat.ne_of_lt (Heap.lt_size ho)
  have hb : ∀ (i : Nat) (v : Value), its[i]? = some v → v = .bool (bs.getD i true) := fun i v hv => by
    have hlen := rv.length
    have hi : i < bs.length := by have := (List.getElem?_eq_some_iff.mp hv).1; simp at hlen; omega
    obtain ⟨u, hu, ru⟩ := rv.get (i := i) (x := .bl bs[i]) (by simp [hi])
    rw [hv] at hu; cases hu
    cases ru
    simp [List.getD, hi]
  refine call_all_walk (wpAny_pyIter_list pl.isList ?_)
  refine ⟨s.heap.objs.size, _, _, _, _, _, fun i => bs.getD i true, rfl, Walks.list (A := X.A.in1) (I.ok.hd hc) s.heap.objs.size p hne its.toArray, ⟨⟨_, Heap.get?_push_size _ rfl, rfl, rfl⟩, pl.isList.at fun o e => Heap.get?_push_of_some _ e⟩, ?_, fun h' tk kk => ?_⟩
  · intro i v s' Q' E' hv hq'
    have e := hb i v (by simpa using hv)
    subst e
    exact wpAny_truthy_bool hq'
  · have I1 : Inv X pins σ H { s with heap := h', toks := tk } := I.kept fun b o e => kk b o (by
      intro hm
      have : b = s.heap.objs.size := by simpa using hm
      subst this
      exact absurd (Heap.lt_size e) (Nat.lt_irrefl _)) (Heap.get?_push_of_some _ e)
    refine ⟨.bl (bs.all id), H, I1, ?_, q⟩
    show Value.bool _ = Value.bool _
    have hlen : its.toArray.size = bs.length := by have := rv.length; simp at this; simp [this]
    rw [hlen]
    congr 1
    have key : ∀ bs : List Bool, (List.range bs.length).all (fun i => bs.getD i true) = bs.all id := fun bs => by
      rw [Bool.eq_iff_iff, List.all_eq_true, List.all_eq_true]
      constructor
      · intro h x hx
        obtain ⟨i, hi, rfl⟩ := List.mem_iff_getElem.mp hx
        have := h i (List.mem_range.mpr hi)
        simpa [List.getD, hi] using this
      · intro h i hi
        have hi' := List.mem_range.mp hi
        have := h bs[i] (List.getElem_mem _)
        simpa [List.getD, hi'] using this
    exact key bs
def rLeS : R2 := fun x y H Q => ∃ i j, x = .str (S i) ∧ y = .str (S j) ∧ Q (.bl (!decide (j < i))) H
theorem op_leS : OpR X (compareOp .LtE) rLeS := by
  intro pins s σ H x y v u Q I rx ry h
  obtain ⟨i, j, rfl, rfl, q⟩ := h
  obtain ⟨t, rfl⟩ := rx
  obtain ⟨t', rfl⟩ := ry
  exact PySem.P.le_str ⟨.bl _, H, I, rfl, q⟩
end
end L2
end

section
set_option Elab.async false
set_option linter.all false
set_option maxRecDepth 100000
namespace L2
open PySem PySem.Spec PyProof.Rows PySem.SeqAt PySem.MeetsSeq PySem.MeetsSeq3
open AutoSeq1 (wpAny_loadPart')
section
variable {X : Cx}
end
end L2
end

section
set_option Elab.async false
set_option linter.all false
set_option maxRecDepth 100000
namespace L2
open PySem PySem.Spec PyProof.Rows
section
variable {X : Cx}
def CDivB (i j : Int) : Prop := 0 < j ∧ j.natAbs.log2 < 9000
theorem op_fdivB : OpR X (binaryOp .FloorDiv) (rI CDivB fun i j => .int (i / j)) := opI fun i j _ _ _ _ _ hc q => by
  have e : i.fdiv j = i / j := Int.fdiv_eq_ediv_of_nonneg _ (Int.le_of_lt hc.1)
  rw [← e] at q
  exact floordiv_int (Int.ne_of_gt hc.1) q (.inl (PyProof.noPylong_of_log2 hc.2))
def rUpA : V → List V → Hp → VK → Prop := fun x vs H Q => ∃ l, x = .str (S l) ∧ vs = [] ∧ l.length ≤ 1000 ∧ (∀ c ∈ l, c < 128) ∧ Q (.str (S (l.map up1))) H
theorem mt_upA : MtR X "str.upper" rUpA := by
  intro pins s σ H x vs v us Q I rx rv h
  obtain ⟨l, rfl, rfl, hz, ha, q⟩ := h
  obtain ⟨t, rfl⟩ := rx
  have hus := rv.zero
  subst hus
  have hfit : Builtin.Str.tooLong (Txt.upper (S l)).length = false := fit_upper (by rw [S_len]; omega)
  refine call_gives F.slot_str_upper (typeIs_str s _ t) F.entry_str_upper (F.args_str_upper_1 _) (gives_str_upper (S l) t hfit) ⟨fit_le hfit, ?_⟩
  have e : Txt.upper (S l) = S (l.map up1) := by rw [upper_ascii (x := S l) ha]; simp [S]
  exact ⟨.str (S (l.map up1)), H, I.tok _, ⟨s.toks, congrArg (fun z => Value.str z s.toks) e⟩, q⟩
end
def AL : List Nat := (List.range 26).map (97 + ·)
theorem at_modA {α : Type} {xs : List α} {n : Nat} (hn : xs.length = n) (h : 0 < n) (c : Int) : ∃ v, atI xs (c % (n : Int)) = some v ∧ v ∈ xs := by
  have h0 : 0 ≤ c % (n : Int) := Int.emod_nonneg _ (by omega)
  have h1 : c % (n : Int) < n := Int.emod_lt_of_pos _ (by omega)
  obtain ⟨k, hk⟩ : ∃ k : Nat, c % (n : Int) = (k : Int) := ⟨(c % (n : Int)).toNat, by omega⟩
  rw [hk]
  have hl : k < xs.length := by omega
  exact ⟨xs[k], atI_nat (by simp [hl]), List.getElem_mem _⟩
end L2
end

section
set_option Elab.async false
set_option linter.all false
set_option maxRecDepth 100000
namespace L2
open PySem PySem.Spec PyProof.Rows
inductive Dt where
  | non | int (i : Int) | str (l : List Nat) | tup (ds : List Dt) | lst (ds : List Dt)
mutual
def toP : Dt → PyData
  | .non => .none
  | .int i => .int i
  | .str l => .str (S l)
  | .tup ds => .tuple (toPs ds)
  | .lst ds => .list (toPs ds)
def toPs : List Dt → List PyData
  | [] => []
  | d :: ds => toP d :: toPs ds
end
mutual
theorem eqv_D : ∀ d e : Dt, PyData.eqv (toP d) (toP e) = true ↔ d = e
  | .non, .non => by simp [toP, PyData.eqv]
  | .non, .int _ => by simp [toP, PyData.eqv]
  | .non, .str _ => by simp [toP, PyData.eqv]
  | .non, .tup _ => by simp [toP, PyData.eqv]
  | .non, .lst _ => by simp [toP, PyData.eqv]
  | .int _, .non => by simp [toP, PyData.eqv]
  | .int _, .int _ => by simp [toP, PyData.eqv]
  | .int _, .str _ => by simp [toP, PyData.eqv]
  | .int _, .tup _ => by simp [toP, PyData.eqv]
  | .int _, .lst _ => by simp [toP, PyData.eqv]
  | .str _, .non => by simp [toP, PyData.eqv]
  | .str _, .int _ => by simp [toP, PyData.eqv]
  | .str a, .str b => by
    simp only [toP, PyData.eqv, beq_iff_eq, Dt.str.injEq]
    exact ⟨S_inj, fun z => by rw [z]⟩
  | .str _, .tup _ => by simp [toP, PyData.eqv]
  | .str _, .lst _ => by simp [toP, PyData.eqv]
  | .tup _, .non => by simp [toP, PyData.eqv]
  | .tup _, .int _ => by simp [toP, PyData.eqv]
  | .tup _, .str _ => by simp [toP, PyData.eqv]
  | .tup ds, .tup es => by simp only [toP, PyData.eqv, Dt.tup.injEq]; exact eqv_Ds ds es
  | .tup _, .lst _ => by simp [toP, PyData.eqv]
  | .lst _, .non => by simp [toP, PyData.eqv]
  | .lst _, .int _ => by simp [toP, PyData.eqv]
  | .lst _, .str _ => by simp [toP, PyData.eqv]
  | .lst _, .tup _ => by simp [toP, PyData.eqv]
  | .lst ds, .lst es => by simp only [toP, PyData.eqv, Dt.lst.injEq]; exact eqv_Ds ds es
theorem eqv_Ds : ∀ ds es : List Dt, PyData.eqvAll (toPs ds) (toPs es) = true ↔ ds = es
  | [], [] => by simp [toPs, PyData.eqvAll]
  | [], _ :: _ => by simp [toPs, PyData.eqvAll]
  | _ :: _, [] => by simp [toPs, PyData.eqvAll]
  | d :: ds, e :: es => by
    simp only [toPs, PyData.eqvAll, Bool.and_eq_true, List.cons.injEq]
    rw [eqv_D d e, eqv_Ds ds es]
end
open Classical in
theorem eqv_dec (d e : Dt) : PyData.eqv (toP d) (toP e) = decide (d = e) := by
  by_cases h : d = e
  · rw [decide_eq_true h]; exact (eqv_D d e).mpr h
  · rw [decide_eq_false h]
    cases z : PyData.eqv (toP d) (toP e) with
    | false => rfl
    | true => exact absurd ((eqv_D d e).mp z) h
mutual
inductive HasD (K : PySem.W.Frag) (H : Hp) : Nat → Dt → V → Prop
  | non {n} : HasD K H n .non .non
  | int {n} (i : Int) : HasD K H n (.int i) (.int i)
  | str {n} (l : List Nat) (h : ∀ c ∈ l, c < 128) : HasD K H n (.str l) (.str (S l))
  | tup {n a ds xs} (h : SqT K H a xs) (hs : HasDs K H n ds xs) : HasD K H (n + 1) (.tup ds) (.ref a)
  | lst {n a ds xs} (h : SqL K H a xs) (hs : HasDs K H n ds xs) : HasD K H (n + 1) (.lst ds) (.ref a)
inductive HasDs (K : PySem.W.Frag) (H : Hp) : Nat → List Dt → List V → Prop
  | nil {n} : HasDs K H n [] []
  | cons {n d ds x xs} (h : HasD K H n d x) (hs : HasDs K H n ds xs) : HasDs K H n (d :: ds) (x :: xs)
end
theorem strOk_S {l : List Nat} (h : ∀ c ∈ l, c < 128) : PyData.strOk (S l) = true := by
  unfold PyData.strOk
  show l.toArray.all _ = true
  rw [Array.all_eq_true_iff_forall_mem]
  intro x hx
  have := h x (by simpa using hx)
  exact decide_eq_true (by omega)
mutual
theorem HasD.lay {K : PySem.W.Frag} {H : Hp} : ∀ {n : Nat} {d : Dt} {x : V}, HasD K H n d x → (toP d).canLay0 = true ∧ (toP d).depth ≤ n
  | _, _, _, .non => by simp [toP, PyData.canLay0, PyData.depth]
  | _, _, _, .int _ => by simp [toP, PyData.canLay0, PyData.depth]
  | _, _, _, .str l h => by simp only [toP, PyData.canLay0, PyData.depth]; exact ⟨strOk_S h, Nat.zero_le _⟩
  | _, _, _, .tup _ hs => by
    simp only [toP, PyData.canLay0, PyData.depth]
    have := hs.lay
    exact ⟨this.1, Nat.succ_le_succ this.2⟩
  | _, _, _, .lst _ hs => by
    simp only [toP, PyData.canLay0, PyData.depth]
    have := hs.lay
    exact ⟨this.1, Nat.succ_le_succ this.2⟩
theorem HasDs.lay {K : PySem.W.Frag} {H : Hp} : ∀ {n : Nat} {ds : List Dt} {xs : List V}, HasDs K H n ds xs → PyData.canLayAll0 (toPs ds) = true ∧ PyData.depthAll (toPs ds) ≤ n
  | _, _, _, .nil => by simp [toPs, PyData.canLayAll0, PyData.depthAll]
  | _, _, _, .cons h hs => by
    have a := h.lay
    have b := hs.lay
    simp only [toPs, PyData.canLayAll0, PyData.depthAll, Bool.and_eq_true]
    exact ⟨⟨a.1, b.1⟩, Nat.max_le.mpr ⟨a.2, b.2⟩⟩
end
mutual
theorem HasD.same {K : PySem.W.Frag} {H H' : Hp} (sm : Same H H') (st : ∀ a xs, SqT K H a xs → SqT K H' a xs) : ∀ {n : Nat} {d : Dt} {x : V}, HasD K H n d x → HasD K H' n d x
  | _, _, _, .non => .non
  | _, _, _, .int i => .int i
  | _, _, _, .str l h => .str l h
  | _, _, _, .tup h hs => .tup (st _ _ h) (hs.same sm st)
  | _, _, _, .lst h hs => .lst (sm.seq h) (hs.same sm st)
theorem HasDs.same {K : PySem.W.Frag} {H H' : Hp} (sm : Same H H') (st : ∀ a xs, SqT K H a xs → SqT K H' a xs) : ∀ {n : Nat} {ds : List Dt} {xs : List V}, HasDs K H n ds xs → HasDs K H' n ds xs
  | _, _, _, .nil => .nil
  | _, _, _, .cons h hs => .cons (h.same sm st) (hs.same sm st)
end
section
variable {X : Cx}
mutual
theorem HasD.reads {pins : List (Addr × Obj)} {σ : St} {H : Hp} {s : Shared} (I : Inv X pins σ H s) : ∀ {n : Nat} {d : Dt} {x : V} {u : Value}, HasD X.K H n d x → RelV x u → ∃ as, Reads s.heap u (toP d) as
  | _, _, _, u, .non, r => by cases r; exact ⟨[], by rw [toP]; exact .none⟩
  | _, _, _, u, .int i, r => by obtain ⟨t, rfl⟩ := r; exact ⟨[], by rw [toP]; exact .int i t⟩
  | _, _, _, u, .str l h, r => by obtain ⟨t, rfl⟩ := r; exact ⟨[], by rw [toP]; exact .str _ t⟩
  | _, _, _, u, .tup h hs, r => by
    cases r
    obtain ⟨its, rv, pl, _⟩ := I.tuple h
    obtain ⟨as, ra⟩ := hs.reads I rv
    obtain ⟨o, ho, hc, n, hd⟩ := pl
    exact ⟨as, by rw [toP]; exact .tuple ho hc hd (by simpa using ra)⟩
  | _, _, _, u, .lst h hs, r => by
    cases r
    obtain ⟨its, rv, pl, _⟩ := I.list h
    obtain ⟨as, ra⟩ := hs.reads I rv
    obtain ⟨o, ho, hc, n, hd⟩ := pl.isList
    exact ⟨_ :: as, by rw [toP]; exact .list ho hc hd (by simpa using ra)⟩
theorem HasDs.reads {pins : List (Addr × Obj)} {σ : St} {H : Hp} {s : Shared} (I : Inv X pins σ H s) : ∀ {n : Nat} {ds : List Dt} {xs : List V} {us : List Value}, HasDs X.K H n ds xs → Vals xs us → ∃ as, ReadsAll s.heap us (toPs ds) as
  | _, _, _, us, .nil, r => by cases r; exact ⟨[], by rw [toPs]; exact .nil⟩
  | _, _, _, us, .cons h hs, r => by
    cases r with
    | cons q t =>
      obtain ⟨as, a⟩ := h.reads I q
      obtain ⟨bs, b⟩ := hs.reads I t
      exact ⟨as ++ bs, by rw [toPs]; exact .cons a b⟩
end
theorem HasD.shaped {K : PySem.W.Frag} {H : Hp} {n : Nat} {d : Dt} {x : V} (h : HasD K H n d x) (hn : n ≤ 64) : SeqAt.shaped (toP d) = true := by
  unfold SeqAt.shaped
  rw [h.lay.1, decide_eq_true (Nat.le_trans h.lay.2 hn)]
  rfl
open Classical in
def rEqD (K : PySem.W.Frag) (neg : Bool) : R2 := fun x y H Q => ∃ n d e, n ≤ 64 ∧ HasD K H n d x ∧ HasD K H n e y ∧ Q (.bl (if neg then !decide (d = e) else decide (d = e))) H
theorem op_eqD (hu : X.A.units + 64 < cLine) : OpR X (compareOp .Eq) (rEqD X.K false) := by
  intro pins s σ H x y v u Q I rx ry h
  obtain ⟨n, d, e, hn, hd, he, q⟩ := h
  obtain ⟨as, ra⟩ := hd.reads I rx
  obtain ⟨bs, rb⟩ := he.reads I ry
  refine SeqAt.compareEq_shaped ra rb (hd.shaped hn) (he.shaped hn) hu ⟨.bl _, H, I, rfl, ?_⟩
  rw [eqv_dec]; exact q
theorem op_neD (hu : X.A.units + 64 < cLine) : OpR X (compareOp .NotEq) (rEqD X.K true) := by
  intro pins s σ H x y v u Q I rx ry h
  obtain ⟨n, d, e, hn, hd, he, q⟩ := h
  obtain ⟨as, ra⟩ := hd.reads I rx
  obtain ⟨bs, rb⟩ := he.reads I ry
  refine SeqAt.compareNe_shaped ra rb (hd.shaped hn) (he.shaped hn) hu ⟨.bl _, H, I, rfl, ?_⟩
  rw [eqv_dec]; exact q
def rJoinT (K : PySem.W.Frag) : V → List V → Hp → VK → Prop := fun x vs H Q => ∃ p ls, x = .str (S []) ∧ vs = [.ref p] ∧ SqT K H p (Ts ls) ∧ ls.flatten.length ≤ 1000 ∧ Q (.str (S ls.flatten)) H
theorem mt_joinT : MtR X "str.join" (rJoinT X.K) := by
  intro pins s σ H x vs v us Q I rx rv h
  obtain ⟨p, ls, rfl, rfl, hq, hz, q⟩ := h
  obtain ⟨t, rfl⟩ := rx
  obtain ⟨u, rfl, ru⟩ := vals1 rv
  cases ru
  obtain ⟨its, r, pl, _⟩ := I.tuple hq
  refine join_tuple pl (ys := ls.map S) (by simpa using strs_of r) ?_ fun t' k => ?_
  · rw [sum_len]; show _ + _ * 0 ≤ _; omega
  · exact ⟨.str (S ls.flatten), H, I.tok k, ⟨t', congrArg (fun z => Value.str z t') (joinNil ls)⟩, q⟩
def Itr3 (lo c : Int) (n : Nat) : It := ⟨fun i _ => i < n, fun i H x H' => H' = H ∧ x = .int (lo + i * c), fun i _ => n ≤ i⟩
theorem turn_range3 {P : Program} {w : World} {K : PySem.W.Frag} {tg : Expr} (it : Addr) (lo c : Int) (n : Nat) : Turn P w K tg (Itr3 lo c n) [it] it (fun i h => IsRangeIter h it (lo + (i : Nat) * c) ((n : Int) - (i : Nat)) c) where
  mem := by simp
  obj := fun i h st b hb => by
    have e : b = it := by simpa using hb
    subst e
    exact ⟨_, st, fun v z => by
      have z' : Data.fields _ = Data.cell v := z
      cases z'⟩
  keep := fun i h h' st k => k it (by simp) _ st
  item := by
    intro X hP hw hK hc i pins s σ H E I hf st hg
    subst hP hw hK
    obtain ⟨f0, f1, f2, f3, f4, f5⟩ := hf it (by simp)
    have W := Walks.range (prog := X.prog) (w := X.w) (I.ok.hd hc) it lo c n
    refine W.item i s _ _ hg st fun v h' tk hv st' kk => ?_
    obtain ⟨t, rfl⟩ := hv
    have I1 : Inv X pins σ H { s with heap := h', toks := tk } := I.turned (fun b o hb e => kk b o (by simpa using hb) e) f0 f1 f3 f4 f5
    exact ⟨_, rfl, go_of (s := { s with heap := h', toks := tk }) (n := "range_iterator") st' rfl rfl (by decide) ⟨.int (lo + i * c), H, I1, ⟨t, rfl⟩, ⟨rfl, rfl⟩, st', fun b hb => (hf b hb).1⟩⟩
  done := by
    intro X hP hw hK hc i pins s σ H E I hf st hg
    subst hP hw hK
    obtain ⟨f0, f1, f2, f3, f4, f5⟩ := hf it (by simp)
    exact wpAny_pyNext_range_end (I.ok.hd hc) st (by have : n ≤ i := hg; omega) fun h' eb => ⟨rfl, I.turned (t' := s.toks) (fun b o hb e => eb b o hb e) f0 f1 f3 f4 f5⟩
  self := fun _ _ _ _ _ st h => wpAny_pyIter_rangeiter st h
variable {tg : Expr}
def iRng3 (ta : TA) : TI := fun σ H R => ta σ H fun vs H1 => ∃ r c : Nat, vs = [.int 0, .int ((r * c : Nat) : Int), .int (c : Int)] ∧ 1 ≤ r ∧ r ≤ 9 ∧ 1 ≤ c ∧ c ≤ 9 ∧ R (Itr3 0 c r) H1
theorem small3 : ∀ r c : Fin 10, 1 ≤ r.val → 1 ≤ c.val → Builtin.Range.small 0 ((r.val * c.val : Nat) : Int) (c.val : Int) = true ∧ Builtin.Range.rangeSize 0 ((r.val * c.val : Nat) : Int) (c.val : Int) = (r.val : Int) := by decide +kernel
theorem qi_range3 {a b c : Expr} {ta : TA} {p pos : Pos} (hg : Gl X "range") (hm : X.mg "range" = none) (ha : QA X [a, b, c] ta) (hs : starEach [a, b, c] X.env = [(false, eval a X.env), (false, eval b X.env), (false, eval c X.env)] := by rfl)
    (hs2 : starEach [b, c] X.env = [(false, eval b X.env), (false, eval c X.env)] := by rfl) :
    QI X tg (.Call (.Name "range" p) [a, b, c] [] pos) (iRng3 ta) := ⟨by
  intro pins s σ H R I h
  refine Call_ (ld_blt I hg hm boot_range (PyProof.Rows.callWith_type1 (thn (ha.out pos pins s σ H _ I h) fun us s1 ⟨vs, H1, I1, r1, q1⟩ => ?_) (by rw [hs, hs2]) (by rw [hs2]; rfl)))
  obtain ⟨r, c, e, q1, q2, q3, q4, q⟩ := q1
  subst e
  cases r1 with
  | cons r1 rr =>
    cases rr with
    | cons r2 rr =>
      cases rr with
      | cons r3 rr =>
        cases rr
        obtain ⟨t1, rfl⟩ := r1
        obtain ⟨t2, rfl⟩ := r2
        obtain ⟨t3, rfl⟩ := r3
        obtain ⟨sm, sz⟩ := small3 ⟨r, by omega⟩ ⟨c, by omega⟩ q1 q3
        refine call_range_3 (by omega) ?_ (.inl (PyProof.noPylong_small (by omega)))
        refine wpAny_pyIter_range (IsRange.new ..) sm ?_
        have I2 : Inv X pins σ H1 { s1 with heap := s1.heap.push { cls := .type "range", data := .fields #[.int 0 t1, .int ((r * c : Nat) : Int) t2, .int (c : Int) t3] }, toks := s1.toks } := I1.kept fun b o e => Heap.get?_push_of_some _ e
        refine ⟨(s1.heap.push { cls := .type "range", data := .fields #[.int 0 t1, .int ((r * c : Nat) : Int) t2, .int (c : Int) t3] }).objs.size, [(s1.heap.push { cls := .type "range", data := .fields #[.int 0 t1, .int ((r * c : Nat) : Int) t2, .int (c : Int) t3] }).objs.size], _, _, H1, rfl,
          I2.kept (t' := s1.toks) fun b o e => Heap.get?_push_of_some _ e, turn_range3 _ 0 (c : Int) r, ?_, fun b hb => ?_, q⟩
        · have e1 : (0 : Int) + ((0 : Nat) : Int) * (c : Int) = 0 := by simp
          have e2 : (r : Int) - ((0 : Nat) : Int) = Builtin.Range.rangeSize 0 ((r * c : Nat) : Int) (c : Int) := by rw [sz]; simp
          show IsRangeIter _ _ ((0 : Int) + ((0 : Nat) : Int) * (c : Int)) ((r : Int) - ((0 : Nat) : Int)) (c : Int)
          rw [e1, e2]
          exact Heap.get?_push_size _ rfl
        · have e : b = (s1.heap.push { cls := .type "range", data := .fields #[.int 0 t1, .int ((r * c : Nat) : Int) t2, .int (c : Int) t3] }).objs.size := by simpa using hb
          subst e
          exact I2.fpOk (Nat.le_refl _) (I2.hok.fresh (Nat.le_refl _))⟩
end
theorem comp_range3 {lo c : Int} {n : Nat} {D : Addr} {te : TE} {σ : St} {H : Hp} {R : Hp → Prop} (Pv : Nat → List V → Hp → Prop) (h0 : Pv 0 [] (upd H D (.lst [])))
    (hs : ∀ i ys H, i < n → Pv i ys H → te (some (.int (lo + i * c)) :: σ) H fun y H3 => H3 D = some (.lst ys) ∧ ys.length < sizeLine ∧ Nxt n i (Pv (i + 1) (ys ++ [y]) (upd H3 D (.lst (ys ++ [y])))))
    (hd : ∀ ys H, Pv n ys H → R H) :
    ∃ W : Nat → Nat → List V → Hp → Prop, (∃ m, W 0 m [] (upd H D (.lst []))) ∧
      ∀ i m ys H, W i m ys H → ((Itr3 lo c n).stop i H ∧ R H) ∨ ((Itr3 lo c n).go i H ∧ ∀ x H', (Itr3 lo c n).yld i H x H' → tYes (some x :: σ) H' fun b H2 =>
        if b = true then te (some x :: σ) H2 fun y H3 => H3 D = some (.lst ys) ∧ ys.length < sizeLine ∧ ∃ m', m' < m ∧ W (i + 1) m' (ys ++ [y]) (upd H3 D (.lst (ys ++ [y])))
        else ∃ m', m' < m ∧ W (i + 1) m' ys H2) := by
  refine ⟨fun i m ys H => m = n - i ∧ i ≤ n ∧ Pv i ys H, ⟨n, by simp, Nat.zero_le _, h0⟩, ?_⟩
  rintro i m ys H ⟨rfl, hi, p⟩
  by_cases hlt : i < n
  · refine .inr ⟨hlt, fun x H' y => ?_⟩
    obtain ⟨e, y⟩ := y
    subst e y
    exact hs i ys H' hlt p
  · have e : i = n := by omega
    subst e
    exact .inl ⟨Nat.le_refl _, hd ys H p⟩
theorem comp_tup {K : PySem.W.Frag} {a D : Addr} {xs : List V} {te : TE} {σ : St} {H : Hp} {R : Hp → Prop} (Pv : Nat → List V → Hp → Prop) (h0 : Pv 0 [] (upd H D (.lst []))) (hl : ∀ i ys H, i ≤ xs.length → Pv i ys H → SqT K H a xs)
    (hs : ∀ i x ys H, xs[i]? = some x → Pv i ys H → te (some x :: σ) H fun y H3 => H3 D = some (.lst ys) ∧ ys.length < sizeLine ∧ Nxt xs.length i (Pv (i + 1) (ys ++ [y]) (upd H3 D (.lst (ys ++ [y])))))
    (hd : ∀ ys H, Pv xs.length ys H → R H) :
    ∃ W : Nat → Nat → List V → Hp → Prop, (∃ m, W 0 m [] (upd H D (.lst []))) ∧
      ∀ i m ys H, W i m ys H → ((Itt K a).stop i H ∧ R H) ∨ ((Itt K a).go i H ∧ ∀ x H', (Itt K a).yld i H x H' → tYes (some x :: σ) H' fun b H2 =>
        if b = true then te (some x :: σ) H2 fun y H3 => H3 D = some (.lst ys) ∧ ys.length < sizeLine ∧ ∃ m', m' < m ∧ W (i + 1) m' (ys ++ [y]) (upd H3 D (.lst (ys ++ [y])))
        else ∃ m', m' < m ∧ W (i + 1) m' ys H2) := by
  refine ⟨fun i m ys H => m = xs.length - i ∧ i ≤ xs.length ∧ Pv i ys H, ⟨xs.length, by simp, Nat.zero_le _, h0⟩, ?_⟩
  rintro i m ys H ⟨rfl, hi, p⟩
  have q := hl i ys H hi p
  by_cases hlt : i < xs.length
  · refine .inr ⟨⟨xs, xs[i], q, by simp [hlt]⟩, fun x H' y => ?_⟩
    obtain ⟨e, y⟩ := y
    subst e
    exact hs i x ys H' (y xs q) p
  · have e : i = xs.length := by omega
    subst e
    exact .inl ⟨⟨xs, q, Nat.le_refl _⟩, hd ys H p⟩
end L2
namespace L2
open PySem PySem.Spec PyProof.Rows
section
variable {X : Cx} {x : Str} {pos : Pos}
theorem qe_gS {l : List Nat} (hg : Gl X x) (hm : ∃ t, X.mg x = some (.str (S l) t)) (hd : (x == ("__debug__" : Str)) = false := by decide) : QE X (.Name x pos) (tC (.str (S l))) :=
  let ⟨t, e⟩ := hm; qe_glob hg e ⟨t, rfl⟩ hd
theorem qe_gI {i : Int} (hg : Gl X x) (hm : ∃ t, X.mg x = some (.int i t)) (hd : (x == ("__debug__" : Str)) = false := by decide) : QE X (.Name x pos) (tC (.int i)) :=
  let ⟨t, e⟩ := hm; qe_glob hg e ⟨t, rfl⟩ hd
theorem qg_sub {o i : Expr} {to ti : TE} {t : TSet} (ho : QE X o to) (hi : QE X i ti) (hs : PSet X t)
    (ha : ∀ v, assign (.Subscript o i pos) X.env v = (do
      let ov ← holding [v] (eval o X.env)
      let iv ← holding [v, ov] (eval i X.env)
      standAt pos
      holding [v, ov, iv] (setItem ov iv v)
      release [v, ov, iv] []) := by intro _; rfl) : QG X (.Subscript o i pos) (gSub to ti t) := ⟨pg_sub ho.out hi.out hs ha⟩
end
theorem boot_allX : bootBuiltins "all" = some (.builtin "all") := by decide +kernel
theorem boot_anyX : bootBuiltins "any" = some (.builtin "any") := by decide +kernel
theorem glob_str {K : PySem.W.Frag} {h : Heap} {mg : Str → Option Value} {x : Str} {l : List Nat} {t : Tok} (X : K.In h) (G : h.Ns mainGlobals mg) (a : PySem.W.nsIn K mainGlobals x = some (some (.str (S l) t))) : ∃ t, mg x = some (.str (S l) t) := ⟨t, PySem.W.mg_of X G a⟩
theorem glob_int {K : PySem.W.Frag} {h : Heap} {mg : Str → Option Value} {x : Str} {i : Int} {t : Tok} (X : K.In h) (G : h.Ns mainGlobals mg) (a : PySem.W.nsIn K mainGlobals x = some (some (.int i t))) : ∃ t, mg x = some (.int i t) := ⟨t, PySem.W.mg_of X G a⟩
end L2
namespace L2
open PySem PySem.Spec PyProof.Rows
section
variable {X : Cx}
theorem sl_listK (K : PySem.W.Frag)  (h : X.K = K := by rfl) : SlR X (rSlL K) := by subst h; exact sl_list
theorem call_isinstK (K : PySem.W.Frag)  (h : X.K = K := by rfl) : CallR X (.builtin "isinstance") (rInst K) := by subst h; exact call_isinst
theorem mt_joinK (K : PySem.W.Frag)  (h : X.K = K := by rfl) : MtR X "str.join" (rJoin K) := by subst h; exact mt_join
theorem qe_bmK  {o e : Expr} {es : List Expr} {to : TE} {t : TA} {name : Str} {apos cpos : Pos} {T id : String} {r : V → List V → Hp → VK → Prop} (K : PySem.W.Frag) (pa : PlainAttrs T) (slot : Slot T name id) (hty : typeOf (.builtin id) = pure (.type "method_descriptor")) (hm : MtR X id r) (ho : QE X o to) (ha : QA X (e :: es) t) (hbase : attributeBase o name X.env (eval o X.env) = eval o X.env := by rfl) (hfew : ((backTo cpos (starEach (e :: es) X.env)).all (fun x => !x.1) && (backToKw cpos (keywordEach [] X.env)).all (fun x => x.1.isSome)
      && decide ((e :: es).length + ([] : List Keyword).length + (if ([] : List Keyword).isEmpty then 0 else 1) < 30)) = true := by rfl) (hline : (apos.endLine == cpos.line) = true := by rfl) (hs : starEach (e :: es) X.env = (false, eval e X.env) :: starEach es X.env := by rfl) (hplain : (backTo cpos (starEach es X.env)).any (·.1) = false := by rfl) (h : X.K = K := by rfl) : QE X (.Call (.Attribute o name apos) (e :: es) [] cpos) (tBM K T r to t) := by subst h; exact qe_bm pa slot hty hm ho ha hbase hfew hline hs hplain
end
end L2
end

section
set_option Elab.async false
set_option linter.all false
set_option maxRecDepth 100000
namespace L2
open PySem PySem.Spec PyProof.Rows
theorem cut_to (l : List Nat) (n : Nat) : cutN l none (some (n : Int)) = l.take n := by
  unfold cutN
  rw [HT.sIx_nat]
  show (l.drop 0).take (min n l.length - 0) = _
  rw [List.drop_zero, Nat.sub_zero]
  by_cases h : n ≤ l.length
  · rw [Nat.min_eq_left h]
  · rw [Nat.min_eq_right (by omega), List.take_of_length_le (Nat.le_refl _), List.take_of_length_le (by omega)]
section
variable {X : Cx}
end
end L2
end

section
set_option Elab.async false
set_option linter.all false
set_option maxRecDepth 100000
namespace L2
open PySem PySem.Spec PyProof.Rows
structure CompG (X : Cx) (scope : Scope) (ns N2 : List Str) (f : St → St) : Prop where
  kind : scope.kind = .function
  ncell : ∀ y ∈ scope.names, y.2 ≠ .cell
  names : ∀ y ∈ scope.names, y.2 = .local → scope.names.lookup y.1 = some .local
  free : ∀ y ∈ scope.names, y.2 = .free → X.env.kindOf y.1 = some .cell ∨ X.env.kindOf y.1 = some .free
  lenf : ∀ σ : St, (f σ).length = σ.length
  lenN : N2.length = X.N.length
  out : ∀ (σ : St) (i : Nat) (y : Str) (v : V), N2[i]? = some y → (f σ)[i]? = some (some v) → X.N[i]? = some y ∧ σ[i]? = some (some v) ∧ scope.names.lookup y ≠ some .local
end L2
namespace L2
open PySem PySem.Spec PyProof.Rows
end L2
end

section
set_option Elab.async false
set_option linter.all false
set_option maxRecDepth 100000
namespace L2
open PySem PySem.Spec PyProof.Rows
section
variable {X : Cx}
end
end L2
end

section
set_option Elab.async false
set_option linter.all false
set_option maxRecDepth 100000
namespace L2
open PySem PySem.Spec PyProof.Rows PySem.W
section
variable {n : Nat} {r : Nat → Nat}
structure PermA (n : Nat) (p : Array Nat) : Prop where
  sz : p.size = n
  pm : p.toList.Perm (List.range n)
end
end L2
end

section
set_option Elab.async false
set_option linter.all false
set_option maxRecDepth 100000
set_option maxHeartbeats 1000000
namespace L2
open PySem PySem.Spec PyProof.Rows PySem.W
section
variable {prog : Program} {w : World} {A : Around} {E : Value → Shared → Prop} {s : Shared}
end
section
variable {X : Cx}
end
end L2
end

section
set_option Elab.async false
set_option linter.all false
set_option maxRecDepth 100000
set_option maxHeartbeats 1000000
namespace L2
open PySem PySem.Spec PyProof.Rows PySem.W
section
variable {prog : Program} {w : World} {A : Around} {E : Value → Shared → Prop} {s : Shared} {d a : Addr} {g : Array DictEntry} {e i : Nat}
end
section
variable {X : Cx}
end
section
variable {X : Cx} {pos : Pos}
end
end L2
end

section
set_option Elab.async false
set_option linter.all false
set_option maxRecDepth 100000
set_option maxHeartbeats 1000000
namespace L2
open PySem PySem.Spec PyProof.Rows PySem.W
section
variable {prog : Program} {w : World} {A : Around} {E : Value → Shared → Prop} {s : Shared}
end
section
variable {X : Cx}
end
end L2
end

section
set_option Elab.async false
set_option linter.all false
set_option maxRecDepth 100000
set_option maxHeartbeats 1000000
namespace L2
open PySem PySem.Spec PyProof.Rows PySem.W
section
variable {X : Cx}
structure InstOk (K : PySem.W.Frag) (C : Addr) : Prop where
  ha : PySem.W.findIn K (.ref C) "__class__" = some (some (.builtin "object.__class__"))
  hn : PySem.W.specialIn K (.builtin "object.__class__") "__get__" = some (some (.builtin "getset_descriptor.__get__"))
  ht : PySem.W.takesIn K (.builtin "object.__class__") = some true
  hm : PySem.W.mroIn K C (.type "object") = some true
  ki : PySem.W.kitOne K (.ref C) (.ref C) = some true
end
end L2
end

section
set_option Elab.async false
set_option linter.all false
set_option maxRecDepth 100000
set_option maxHeartbeats 1000000
namespace L2
open PySem PySem.Spec PyProof.Rows
end L2
end

section
set_option Elab.async false
set_option linter.all false
set_option maxRecDepth 100000
set_option maxHeartbeats 1000000
namespace L2
open PySem PySem.Spec PyProof.Rows
section
variable {M : Model} {A : Around} {E : Value → Shared → Prop} {s : Shared}
end
structure CompC (X : Cx) (scope : Scope) (xn : Str) (N2 : List Str) (f : St → St) : Prop where
  kind : scope.kind = .function
  one : ∀ y ∈ scope.names, y.2 = .cell → y.1 = xn
  cf : ∀ k acc, cellsFrom k scope.names acc = (xn, k) :: acc
  pc : ∀ h : Heap, pushCells h scope.names = h.push { cls := .type "cell", data := .cell none }
  names : ∀ y ∈ scope.names, y.2 = .local → scope.names.lookup y.1 = some .local
  free : ∀ y ∈ scope.names, y.2 = .free → X.env.kindOf y.1 = some .cell ∨ X.env.kindOf y.1 = some .free
  lenf : ∀ σ : St, (f σ).length = σ.length
  lenN : N2.length = X.N.length
  out : ∀ (σ : St) (i : Nat) (y : Str) (v : V), N2[i]? = some y → (f σ)[i]? = some (some v) → X.N[i]? = some y ∧ σ[i]? = some (some v) ∧ scope.names.lookup y ≠ some .local ∧ y ≠ xn
end L2
end

section
set_option Elab.async false
set_option linter.all false
set_option maxRecDepth 100000
namespace L2
open PySem PySem.Spec PyProof.Rows
section
variable {X : Cx}
end
end L2
end

section
set_option Elab.async false
set_option linter.all false
set_option maxRecDepth 100000
set_option maxHeartbeats 1000000
namespace L2
open PySem PySem.Spec PyProof.Rows PySem.W
section
variable {X : Cx}
end
end L2
end

section
set_option Elab.async false
set_option linter.all false
set_option maxRecDepth 100000
set_option maxHeartbeats 2000000
namespace L2
open PySem PySem.Spec PyProof.Rows PySem.W
open AutoSeq1 (wpAny_loadPart')
section
variable {prog : Program} {w : World} {A : Around} {E : Value → Shared → Prop} {s : Shared}
end
section
variable {X : Cx} {pins : List (Addr × Obj)} {σ : St} {H : Hp} {s : Shared} {h' : Heap}
end
section
variable {X : Cx} {elts : List Expr} {x1 : Nat} {tp : Pos}
end
section
variable {X : Cx}
theorem call_any (hc : X.calm = true) : CallR X (.builtin "any") (fun xs H Q => ∃ (p : Addr) (bs : List Bool), xs = [.ref p] ∧ SqL X.K H p (bs.map V.bl) ∧ Q (.bl (bs.any id)) H) := by
  intro pins s σ H xs us Q I r h
  obtain ⟨p, bs, rfl, hq, q⟩ := h
  obtain ⟨u, rfl, ru⟩ := vals1 r
  cases ru
  obtain ⟨its, rv, pl, hz⟩ := I.list hq
  have hne : p ≠ s.heap.objs.size := by
    obtain ⟨o, ho, _⟩ := pl.isList
    exact Nat.ne_of_lt (Heap.lt_size ho)
  have hb : ∀ (i : Nat) (v : Value), its[i]? = some v → v = .bool (bs.getD i false) := fun i v hv => by
    have hlen := rv.length
    have hi : i < bs.length := by have := (List.getElem?_eq_some_iff.mp hv).1; simp at hlen; omega
    obtain ⟨u, hu, ru⟩ := rv.get (i := i) (x := .bl bs[i]) (by simp [hi])
    rw [hv] at hu; cases hu
    cases ru
    simp [List.getD, hi]
  refine call_any_walk (wpAny_pyIter_list pl.isList ?_)
  refine ⟨s.heap.objs.size, _, _, _, _, _, fun i => bs.getD i false, rfl, Walks.list (A := X.A.in1) (I.ok.hd hc) s.heap.objs.size p hne its.toArray, ⟨⟨_, Heap.get?_push_size _ rfl, rfl, rfl⟩, pl.isList.at fun o e => Heap.get?_push_of_some _ e⟩, ?_, fun h' tk kk => ?_⟩
  · intro i v s' Q' E' hv hq'
    have e := hb i v (by simpa using hv)
    subst e
    exact wpAny_truthy_bool hq'
  · have I1 : Inv X pins σ H { s with heap := h', toks := tk } := I.kept fun b o e => kk b o (by
      intro hm
      have : b = s.heap.objs.size := by simpa using hm
      subst this
      exact absurd (Heap.lt_size e) (Nat.lt_irrefl _)) (Heap.get?_push_of_some _ e)
    refine ⟨.bl (bs.any id), H, I1, ?_, q⟩
    show Value.bool _ = Value.bool _
    have hlen : its.toArray.size = bs.length := by have := rv.length; simp at this; simp [this]
    rw [hlen]
    congr 1
    have key : ∀ bs : List Bool, (List.range bs.length).any (fun i => bs.getD i false) = bs.any id := fun bs => by
      rw [Bool.eq_iff_iff, List.any_eq_true, List.any_eq_true]
      constructor
      · rintro ⟨i, hi, h⟩
        have hi' := List.mem_range.mp hi
        exact ⟨bs[i], List.getElem_mem _, by simpa [List.getD, hi'] using h⟩
      · rintro ⟨x, hx, h⟩
        obtain ⟨i, hi, rfl⟩ := List.mem_iff_getElem.mp hx
        exact ⟨i, List.mem_range.mpr hi, by simpa [List.getD, hi] using h⟩
    exact key bs
end
end L2
end

section
set_option Elab.async false
set_option linter.all false
set_option maxRecDepth 100000
set_option maxHeartbeats 2000000
namespace L2
open PySem PySem.Spec PyProof.Rows PySem.W
structure ZA (z ti to u v a b : Addr) : Prop where
  q1 : ti ≠ z
  q2 : to ≠ z
  q3 : u ≠ z
  q4 : v ≠ z
  q5 : ti ≠ to
  q6 : ti ≠ u
  q7 : ti ≠ v
  q8 : to ≠ u
  q9 : to ≠ v
  p1 : u ≠ v
  p2 : a ≠ z
  p3 : a ≠ to
  p4 : a ≠ u
  p5 : a ≠ v
  p6 : b ≠ z
  p7 : b ≠ to
  p8 : b ≠ u
  p9 : b ≠ v
section
variable {prog : Program} {w : World} {A : Around} {E : Value → Shared → Prop} {s : Shared} {z ti to u v a b : Addr} {i : Nat} {f g : Array Value} {x y m n : Value}
end
section
variable {X : Cx} {pins : List (Addr × Obj)} {σ : St} {H : Hp} {s : Shared}
end
section
variable {X : Cx} {elts : List Expr} {x1 : Nat} {tp : Pos}
end
end L2
end

section
set_option Elab.async false
set_option linter.all false
set_option maxRecDepth 100000
set_option maxHeartbeats 2000000
namespace L2
open PySem PySem.Spec PyProof.Rows PySem.W
structure Fly (B : Heap) (l : List Env) (e : Addr) (cls : Value) (dd : Option Addr) (fl : Value) (h : Heap) : Prop where
  stays : B.StaysIn h
  new : B.get? e = none
  frames : h.FunFrames B l
  tr : ∃ oe vs T oT ts, h.get? e = some oe ∧ oe.cls = cls ∧ oe.dict = dd ∧ oe.data = .fields vs ∧ vs[1]? = some (.ref T) ∧ B.get? T = none ∧ T ≠ e ∧ h.get? T = some oT ∧ oT.data = .fields ts ∧ ts[3]? = some fl
theorem Fly.outer {B h : Heap} {env : Env} {l : List Env} {e : Addr} {cls fl : Value} {dd : Option Addr} (x : Fly B (env :: l) e cls dd fl h) : Fly B l e cls dd fl h := ⟨x.stays, x.new, x.frames.2.2, x.tr⟩
theorem dict_mapF (o : Obj) (f) : (o.mapFields f).dict = o.dict := by obtain ⟨c, d, dt, sl⟩ := o; cases dt <;> rfl
section
variable {M : Model} {A : Around} {E : Value → Shared → Prop} {s : Shared} {B : Heap} {env : Env} {outer l : List Env} {L e : Addr} {oe : Obj} {vs : Array Value} {head cls fl : Value} {dd : Option Addr} {hadNext : Bool} {Q : Unit → Shared → Prop}
theorem entry_made (hfr : A.frames = some (env :: outer)) (hl : s.heap.FunFrames B (env :: outer)) (hf : env.frame = some L) (he : s.heap.get? e = some oe) (kb : B.StaysIn s.heap) (en : B.get? e = none) (hd : oe.data = .fields vs) (hz : 1 < vs.size)
    (h : ∀ h', Fly B (env :: outer) e oe.cls oe.dict (rawInt L) h' → s.heap.UpToSlots h' → Q () { s with heap := h' }) :
    wpAny M A (do let a ← frameOf env; let pl ← entryPlaceOf L hadNext; let b ← EntryCells.newEntry head a .none (rawInt L) .none pl; setField (.ref e) 1 b) Q E s := by
  have out : e ∉ (env :: outer).filterMap (·.frame) := fun z => by
    obtain ⟨_, u, hu, nf⟩ := hl.mem z
    rw [he] at hu; cases hu; exact nf vs hd
  refine wpAny_bind (wpAny_frameOf_fun hfr hl hf fun g hg => wpAny_bind (wpAny_entryPlaceOf fun pl hpl => ?_))
  unfold EntryCells.newEntry newFields
  refine wpAny_bind (wpAny_newObj_type ?_ (hpl.sizeOk5 _ _ _ _ _))
  generalize hO : ({ cls := .type "traceback", dict := none, data := .fields ([head, .ref L, .none, rawInt L, .none] ++ (if pl.isEmpty then List.replicate 6 Value.none else pl)).toArray } : Obj) = O
  have hOd : ∃ ts, O.data = .fields ts ∧ ts[3]? = some (rawInt L) := ⟨_, by rw [← hO], by first | (simp; done) | (rcases hpl with rfl | ⟨_, _, _, _, _, _, _, rfl⟩ <;> simp)⟩
  have ge : g.get? e = some oe := (hg.2.1 e out).trans he
  have gB : B.StaysIn g := fun b o q => (hg.2.1 b fun z => by rw [(hl.mem z).1] at q; cases q).trans (kb b o q)
  have Te : g.objs.size ≠ e := Nat.ne_of_gt (Heap.lt_size ge)
  have pe : (g.push O).get? e = some oe := Heap.get?_push_of_some O ge
  obtain ⟨ts, hts, h3⟩ := hOd
  have pT : (g.push O).get? g.objs.size = some O := Heap.get?_push_size g (Obj.isFreed_of_fields hts)
  have mv : ∀ b o, b ≠ e → g.get? b = some o → ((g.push O).update e (Obj.mapFields (·.setIfInBounds 1 (Value.ref g.objs.size)))).get? b = some o := fun b o nb q =>
    (Heap.get?_update_other _ _ (Ne.symm nb)).trans (Heap.get?_push_of_some O q)
  have nr : ∀ b o, s.heap.get? b = some o → (∀ vs, o.data ≠ .fields vs) → b ≠ e := fun b o q nf z => by
    rw [z, he] at q; cases q; exact nf vs hd
  refine wpAny_setField pe hd hz (h _ ⟨fun b o q => mv b o (fun z => by rw [z, en] at q; cases q) (gB b o q), en, hl.of_keeps fun b o q nf => ?_, ?_⟩ fun b o q nf => ?_)
  · obtain ⟨sl, z⟩ := hg.2.2 b o q
    exact ⟨_, mv b _ (nr b o q nf) z, rfl⟩
  · have dd := Obj.data_mapFields hd (·.setIfInBounds 1 (Value.ref g.objs.size))
    refine ⟨_, _, g.objs.size, O, ts, Heap.get?_update_self _ pe (Obj.isFreed_of_fields dd), Obj.cls_mapFields _ _, dict_mapF _ _, dd, by simp [hz], gB.fresh, Te, (Heap.get?_update_other _ _ (Ne.symm Te)).trans pT, hts, h3⟩
  · obtain ⟨sl, z⟩ := hg.2.2 b o q
    exact ⟨sl, mv b _ (nr b o q nf) z⟩
theorem flight_off (x : Fly B l e cls dd fl s.heap) (h : ∀ h', Fly B l e cls dd .none h' → s.heap.UpToSlots h' → Q () { s with heap := h' }) : wpAny M A (setFlight (.ref e) none) Q E s := by
  obtain ⟨st, en, fr, oe, vs, T, oT, ts, he, hc, hdd, hd, h1, nT, Te, hT, hdT, h3⟩ := x
  have z3 : 3 < ts.size := (Array.getElem?_eq_some_iff.mp h3).1
  have mv : ∀ b, b ≠ T → (s.heap.update T (Obj.mapFields (·.setIfInBounds 3 ((none : Option Addr).elim Value.none fun f => rawInt f)))).get? b = s.heap.get? b := fun b nb => Heap.get?_update_other _ _ (Ne.symm nb)
  have nr : ∀ b o, s.heap.get? b = some o → (∀ vs, o.data ≠ .fields vs) → b ≠ T := fun b o q nf z => by
    rw [z, hT] at q; cases q; exact nf ts hdT
  unfold setFlight
  refine wpAny_bind (wpAny_field he hd h1 ?_)
  rw [if_pos (show (Value.ref T != Value.none) = true by simp)]
  refine wpAny_setField hT hdT z3 (h _ ⟨fun b o q => (mv b fun z => by rw [z, nT] at q; cases q).trans (st b o q), en, fr.of_keeps fun b o q nf => ⟨o, (mv b (nr b o q nf)).trans q, rfl⟩, ?_⟩ fun b o q nf => ⟨o.slots, (mv b (nr b o q nf)).trans q⟩)
  have d3 := Obj.data_mapFields hdT (·.setIfInBounds 3 ((none : Option Addr).elim Value.none fun f => rawInt f))
  exact ⟨oe, vs, T, _, _, (mv e (Ne.symm Te)).trans he, hc, hdd, hd, h1, nT, Te, Heap.get?_update_self _ hT (Obj.isFreed_of_fields d3), d3, by simp [z3]⟩
theorem note_new (hfr : A.frames = some (env :: outer)) (hl : s.heap.FunFrames B (env :: outer)) (hf : env.frame = some L) (he : s.heap.get? e = some oe) (kb : B.StaysIn s.heap) (en : B.get? e = none) (hd : oe.data = .fields vs) (h1 : vs[1]? = some .none)
    (h : ∀ h', Fly B (env :: outer) e oe.cls oe.dict (rawInt L) h' → s.heap.UpToSlots h' → Q () { s with heap := h' }) : wpAny M A (noteFrame (.ref e) env) Q E s := by
  unfold noteFrame
  simp only [hf]
  refine wpAny_bind (wpAny_field he hd h1 ?_)
  rw [if_neg (by decide)]
  exact entry_made hfr hl hf he kb en hd (Array.getElem?_eq_some_iff.mp h1).1 h
theorem note_on (hfr : A.frames = some (env :: outer)) (hf : env.frame = some L) (x : Fly B (env :: outer) e cls dd .none s.heap) (h : ∀ h', Fly B (env :: outer) e cls dd (rawInt L) h' → s.heap.UpToSlots h' → Q () { s with heap := h' }) : wpAny M A (noteFrame (.ref e) env) Q E s := by
  obtain ⟨st, en, fr, oe, vs, T, oT, ts, he, hc, hdd, hd, h1, nT, Te, hT, hdT, h3⟩ := x
  subst hc hdd
  have mv : ∀ b, b ≠ T → (s.heap.update T (Obj.mapFields (·.setIfInBounds 3 Value.none))).get? b = s.heap.get? b := fun b nb => Heap.get?_update_other _ _ (Ne.symm nb)
  have nr : ∀ b o, s.heap.get? b = some o → (∀ vs, o.data ≠ .fields vs) → b ≠ T := fun b o q nf z => by
    rw [z, hT] at q; cases q; exact nf ts hdT
  unfold noteFrame
  simp only [hf]
  refine wpAny_bind (wpAny_field he hd h1 ?_)
  rw [if_pos (show (Value.ref T != Value.none) = true by simp)]
  refine wpAny_bind (wpAny_field hT hdT h3 ?_)
  rw [if_neg (show ¬ ((Value.none == rawInt L) = true) by simp [rawInt])]
  refine wpAny_bind (wpAny_setField hT hdT (Array.getElem?_eq_some_iff.mp h3).1 ?_)
  refine entry_made hfr (fr.of_keeps fun b o q nf => ⟨o, (mv b (nr b o q nf)).trans q, rfl⟩) hf ((mv e (Ne.symm Te)).trans he) (fun b o q => (mv b fun z => by rw [z, nT] at q; cases q).trans (st b o q)) en hd (Array.getElem?_eq_some_iff.mp h1).1
    fun h' y k => h h' y fun b o q nf => k b o ((mv b (nr b o q nf)).trans q) nf
theorem leave_new (hfr : A.frames = some (env :: outer)) (hl : s.heap.FunFrames B (env :: outer)) (hf : env.frame = some L) (he : s.heap.get? e = some oe) (kb : B.StaysIn s.heap) (en : B.get? e = none) (hd : oe.data = .fields vs) (h1 : vs[1]? = some .none)
    (h : ∀ h', Fly B outer e oe.cls oe.dict .none h' → s.heap.UpToSlots h' → Q () { s with heap := h' }) : wpAny M A (leaving env (.ref e)) Q E s := by
  unfold leaving
  exact wpAny_bind (note_new hfr hl hf he kb en hd h1 fun h1 x k => flight_off x fun h2 y k2 => h h2 y.outer (k.trans k2))
end
end L2
end

section
set_option Elab.async false
set_option linter.all false
set_option maxRecDepth 100000
set_option maxHeartbeats 2000000
namespace L2
open PySem PySem.Spec PyProof.Rows PySem.W
theorem ObjOk.there {P : Program} {w : World} {H : Hp} {h : Heap} {a : Addr} {o : HO} (x : ObjOk P w H h a o) : ∃ u, h.get? a = some u := by
  cases o with
  | lst xs => obtain ⟨_, _, _, _, e⟩ := x; exact ⟨_, e⟩
  | tup xs => obtain ⟨_, _, _, _, e, _⟩ := x; exact ⟨_, e⟩
  | dK kvs => obtain ⟨_, _, _, _, o, _, _, e, _⟩ := x; exact ⟨_, e⟩
  | dT kvs => obtain ⟨_, _, _, _, o, _, _, e, _⟩ := x; exact ⟨_, e⟩
  | set S n => obtain ⟨o, _, _, _, e, _⟩ := x; exact ⟨_, e⟩
  | ins C dx fs => obtain ⟨_, _, _, e, _⟩ := x; exact ⟨_, e⟩
  | own y => exact x
  | xd fs => obtain ⟨_, ⟨_, _, _, e, _⟩, _⟩ := x; exact ⟨_, e⟩
  | rng lo hi => obtain ⟨_, _, _, e⟩ := x; exact ⟨_, e⟩
  | frz ob u => obtain ⟨e, _⟩ := x; exact ⟨_, e⟩
  | tbl ps => exact ⟨_, (show h.get? a = some _ from x)⟩
  | met f y => exact ⟨_, (show h.get? a = some _ from x)⟩
  | ext φ => obtain ⟨_, e, _⟩ := x; exact e
structure ExB (P : Program) (w : World) (outer : List Env) (H : Hp) (s : Shared) (a : Addr) (cls : Value) (dd : Option Addr) (H' : Hp) (s' : Shared) (B : Heap) : Prop where
  os : s'.os = s.os
  bare : AllBare s'.gens
  un : Un (frs outer) [] H H' s.heap s'.heap
  hok : HOk P w H' s'.heap
  fly : Fly B outer a cls dd .none s'.heap
  na : H' a = none
  trk : ∀ b u, H' b = some u → ∃ o, B.get? b = some o
  kp : ∀ b o, s.heap.get? b = some o → b ∉ frs outer → H b = none → B.get? b = some o
  th : ∀ b o, s.heap.get? b = some o → b ∉ frs outer → ∃ o', B.get? b = some o'
def CXE (P : Program) (w : World) : CXT := fun outer H s E e s' => ∃ (a : Addr) (cls : Value) (dd : Option Addr) (H' : Hp) (B : Heap), e = .ref a ∧ ExB P w outer H s a cls dd H' s' B ∧ E cls dd H'
section
variable {X : Cx} {pins : List (Addr × Obj)} {σ : St} {H1 H' : Hp} {s1 s2 : Shared} {e : Addr} {oe : Obj} {vs : Array Value} {Q : Unit → Shared → Prop} {E : Value → Shared → Prop} {cls : Value} {dd : Option Addr} {B : Heap}
theorem Inv.nst (I : Inv X pins σ H1 s1) {b : Addr} {o : Obj} (q : X.s₀.heap.get? b = some o) (nb : b ∉ frs X.outer) : b ∉ frs X.stack := fun z => by
  rcases List.mem_cons.mp (I.stkSub b z) with z | z
  · exact absurd (Nat.lt_of_lt_of_le (Heap.lt_size q) I.ok.above) (by rw [z]; exact Nat.lt_irrefl _)
  · exact nb z
theorem Inv.osub (I : Inv X pins σ H1 s1) {b : Addr} (z : b ∈ frs X.outer) : b ∈ frs X.stack := by
  rcases I.ok.stk with e | ⟨e, hf⟩
  · rw [e]; exact z
  · rw [e]; unfold frs; rw [List.filterMap_cons, hf]; exact List.mem_cons_of_mem _ z
theorem Inv.raised (I : Inv X pins σ H1 s1) (hst : X.stack = X.env :: X.outer) (hf : X.env.frame = some X.env.locals) (hex : X.ex = []) (he : s1.heap.get? e = some oe) (hd : oe.data = .fields vs) (h1 : vs[1]? = some .none) (ne : H1 e = none)
    (en : ∀ b o, X.s₀.heap.get? b = some o → b ≠ e) (q : ∀ s2 B, ExB X.prog X.w X.outer X.H₀ X.s₀ e oe.cls oe.dict H1 s2 B → Q () s2) : wpAny (model X.prog X.w) X.A (leaving X.env (.ref e)) Q E s1 := by
  have hfr : X.A.frames = some (X.env :: X.outer) := by rw [← hst]; exact I.ok.frames
  have hl : s1.heap.FunFrames (hideAll s1.heap (e :: frs X.stack)) (X.env :: X.outer) := by
    rw [← hst]
    exact funFrames_hide I.stack fun env he b hb => List.mem_cons_of_mem _ (List.mem_filterMap.mpr ⟨env, he, hb⟩)
  have nex : ∀ b : Addr, b ∉ X.ex := fun b => by rw [hex]; simp
  refine leave_new hfr hl hf he (fun b o z => of_hideAll _ z) (hideAll_none _ (.head _)) hd h1 fun h' x k => q _ (hideAll s1.heap (e :: frs X.stack)) ?_
  have kB : ∀ b o, s1.heap.get? b = some o → b ≠ e → b ∉ frs X.stack → (hideAll s1.heap (e :: frs X.stack)).get? b = some o := fun b o z n1 n2 => hideAll_get _ z fun m => by
    rcases List.mem_cons.mp m with m | m
    · exact n1 m
    · exact n2 m
  have kF : ∀ b o, s1.heap.get? b = some o → b ∈ frs X.stack → ∃ sl, h'.get? b = some { o with slots := sl } := fun b o z m => by
    obtain ⟨_, u, hu, nf⟩ := I.stack.mem m
    rw [z] at hu; cases hu
    exact k b _ z nf
  have kT : ∀ b u, H1 b = some u → ∀ o, s1.heap.get? b = some o → (hideAll s1.heap (e :: frs X.stack)).get? b = some o := fun b u t o z => kB b o z (fun m => by rw [m, ne] at t; cases t) fun m => by rw [I.stkFree b m] at t; cases t
  refine ⟨I.os, I.bare, ⟨fun b o z n hb _ => ?_, fun b o z n hb _ => ?_, fun b o z n _ => I.base.free b o z n (nex b), fun b o z _ => ?_, I.base.tups, I.base.frzs, I.base.tbls⟩, fun b o t => ?_, x, ne, fun b u t => ?_, fun b o z hb n => ?_, fun b o z hb => ?_⟩
  · exact x.stays b o (kB b o (I.base.keep b o z n hb (nex b)) (en b o z) (I.nst z hb))
  · obtain ⟨sl, e1⟩ := I.base.slot b o z n hb (nex b)
    obtain ⟨sl2, e2⟩ := kF b _ e1 (I.osub hb)
    exact ⟨sl2, e2⟩
  · obtain ⟨o1, e1⟩ := I.base.there b o z (nex b)
    by_cases m : b ∈ frs X.stack
    · obtain ⟨sl2, e2⟩ := kF b _ e1 m
      exact ⟨_, e2⟩
    · exact ⟨o1, x.stays b o1 (kB b o1 e1 (en b o z) m)⟩
  · refine (I.hok b o t).stay (fun c u hc z => x.stays c u ?_) (fun _ r => r) fun _ _ r => r
    rcases hc with rfl | hc
    · exact kT c _ t u z
    · exact kT c _ hc u z
  · obtain ⟨o, z⟩ := (I.hok b u t).there
    exact ⟨o, kT b u t o z⟩
  · exact kB b o (I.base.keep b o z n hb (nex b)) (en b o z) (I.nst z hb)
  · obtain ⟨o1, e1⟩ := I.base.there b o z (nex b)
    exact ⟨o1, kB b o1 e1 (en b o z) (I.nst z hb)⟩
end
end L2
end

section
set_option Elab.async false
set_option linter.all false
set_option maxRecDepth 100000
set_option maxHeartbeats 2000000
namespace L2
open PySem PySem.Spec PyProof.Rows PySem.W
def Lets (X : Cx) (E : XK) : Prop := ∀ (pins : List (Addr × Obj)) (σ : St) (H : Hp) (s : Shared) (e : Addr) (oe : Obj) (vs : Array Value), Inv X pins σ H s → s.heap.get? e = some oe → oe.data = .fields vs → vs[1]? = some .none → H e = none →
  (∀ b o, X.s₀.heap.get? b = some o → b ≠ e) → E oe.cls oe.dict H → X.xe (.ref e) s
section
variable {P : Program} {w : World} {K : PySem.W.Frag} {mg : Str → Option Value} {base : Heap} {N : List Str} {qual : Str} {scope : Scope} {f : Addr} {cd : Value} {A : Around} {outer : List Env} {s : Shared} {H : Hp} {E : XK}
theorem lets_cx : Lets (cxOf (CXE P w) P w K mg base N qual scope f cd A outer s H E) E := fun pins σ H1 s1 e oe vs I he hd h1 ne en q =>
  I.raised rfl rfl rfl he hd h1 ne en fun s2 B x => ⟨e, _, _, _, B, rfl, x, q⟩
end
structure DefX (P : Program) (w : World) (K : PySem.W.Frag) (mg : Str → Option Value) (base : Heap) (name : Str) (k : Nat) (ps : List Str) (sp : Sp) : Prop where
  ex : ∃ f fd, FnOk P w K mg base (CXE P w) k f fd ps sp ∧ Binds K fd ps [] ∧ mg name = some (.ref f) ∧ PySem.W.keepIn K (.ref f) = true
theorem Fun.qokX {P : Program} {w : World} {K : PySem.W.Frag} {mg : Str → Option Value} {base : Heap} {x qual : Str} {st : Stmt} {f : Addr} {fd : FuncData} {N ps : List Str} {k : Nat} {sp : Sp} (F : Fun K x qual st f fd) (S : FnScope N ps (defScope st)) (len : ∀ vs H Q E, sp vs H Q E → vs.length = ps.length)
    (hbody : ∀ (cdv : Value) (A : Around) (outer : List Env) (s : Shared) (H : Hp) (vs : List V) (Q : VK) (E : XK), Room k (A.deeper (envOfC qual (defScope st) s.heap.objs.size f cdv)) → sp vs H Q E →
      ∃ t, QSs (cxOf (CXE P w) P w K mg base N qual (defScope st) f cdv A outer s H E) (defBody st) t ∧ t { nx := fun _ H' => Q .non H', rt := Q } (start N vs) H) : FnOk P w K mg base (CXE P w) (k + 1) f fd ps sp := by
  obtain ⟨oc, od, kV, doc, pm, an, cdv, ct, osl, rfl, lk, hcd⟩ := F.ex
  refine fn_of lk hcd S len fun A outer s H vs Q E hr hsp => ?_
  obtain ⟨t, h, q⟩ := hbody cdv A outer s H vs Q E hr hsp
  exact ⟨t, h.out, q⟩
def PassesS (CX : CXT) (X : Cx) (E : XK) (S : St → Prop) : Prop := ∀ (pins : List (Addr × Obj)) (σ : St) (H : Hp) (s : Shared) (e : Value) (s' : Shared), Inv X pins σ H s → S σ → CX X.stack H s E e s' → X.xe e s'
def tMakeS (C : Addr) (sp : Sp) (E : XK) (S : St → Prop) (t : TA) : TE := fun σ H Q => S σ ∧ t σ H fun vs H1 => ∀ x dx, H1 x = none → H1 dx = none → dx ≠ x →
  sp (.ref x :: vs) (upd (upd H1 dx (.own x)) x (.ins C dx [])) (fun v H2 => v = .non ∧ Q (.ref x) H2) E
section
variable {X : Cx} {CX : CXT} {k : Nat} {f C : Addr} {fd : FuncData} {ps : List Str} {sp : Sp} {E : XK} {S : St → Prop} {x : Str} {p pos : Pos} {e : Expr} {es : List Expr} {t : TA}
theorem qe_makeS (M : Mk X.K C f) (F : FnOk X.prog X.w X.K X.mg X.base (CXE X.prog X.w) k f fd ps sp) (hr : Room (k + 1) X.A) (hg : Gl X x) (hm : X.mg x = some (.ref C)) (hb : Binds X.K fd ps []) (hx : PassesS (CXE X.prog X.w) X E S) (ha : QA X (e :: es) t)
    (hdb : (x == ("__debug__" : Str)) = false := by decide) (hs : starEach (e :: es) X.env = (false, eval e X.env) :: starEach es X.env := by rfl) (hpl : (backTo pos (starEach es X.env)).any (·.1) = false := by rfl) :
    QE X (.Call (.Name x p) (e :: es) [] pos) (tMakeS C sp E S t) := ⟨by
  intro pins s σ H Q I h
  obtain ⟨hS, h⟩ := h
  refine wpAny_Call_Name_kw (ld_glob I hg hm ?_ hdb)
  refine PySem.W.callWith_K (h₀ := X.base) I.ok.mod.kin M.kp (thn (ha.out pos pins s σ H _ I h) fun us s1 ⟨vs, H1, I1, r, q⟩ => ⟨I1.kIn, ?_⟩) hs hpl
  have hq := q (s1.heap.objs.size + 1) s1.heap.objs.size (I1.hok.fresh (Nat.le_succ _)) (I1.hok.fresh (Nat.le_refl _)) (Nat.ne_of_lt (Nat.lt_succ_self _))
  have I2 := Inv.made (C := C) I1
  have r2 : Vals (V.ref (s1.heap.objs.size + 1) :: vs) (Value.ref (s1.heap.objs.size + 1) :: us) := .cons rfl r
  have hl : (Value.ref (s1.heap.objs.size + 1) :: us).length = ps.length := by rw [← r2.length]; exact F.len _ _ _ _ hq
  have hB := hb _ (Value.ref (s1.heap.objs.size + 1) :: us) I2.kIn (by rw [List.append_nil]; exact hl)
  rw [List.append_nil] at hB
  refine wpAny_call (make_map (f := f) I1.kIn M.makes M.init (beq_iff_eq.mp M.fn) (codeAny_mono (F.run _ X.stack _ _ ⟨Value.ref (s1.heap.objs.size + 1) :: us, []⟩ (Value.ref (s1.heap.objs.size + 1) :: us) _ _ E (hr.make C us []) (I2.env0.make C us []) hB r2 hq) fun r s' hq' => ?_))
  cases r with
  | error e => exact hx pins σ _ _ e s' I2 hS hq'
  | ok fl =>
    cases fl with
    | ret u =>
      obtain ⟨v, H', I3, rv, ev, q3⟩ := I2.after hq'
      subst ev
      exact ⟨rv, ⟨V.ref (s1.heap.objs.size + 1), H', I3, rfl, q3⟩⟩
    | next => exact False.elim hq'
    | brk => exact False.elim hq'
    | cont => exact False.elim hq'⟩
end
theorem exc_obj {K : PySem.W.Frag} {h : Heap} {C : Addr} {bmB : List Value} {newId : String} (X : K.In h) (q : excIn K C bmB newId = true) :
    ∃ bm N nm q bs hdct sn sub ab col dd k0 k1 k2 k3 k5 mN, h.get? C = some (excClassObj nm q C N bs bm hdct sn sub ab col dd k0 k1 k2 k3 k5 newId) ∧ h.Ns N mN ∧ mN "__init__" = none ∧ OwnTail h bmB bm := by
  unfold excIn at q
  split at q
  · next dd cd sl ho =>
    split at q
    · next C' bm k0 k1 k2 k3 n k5 hm hs =>
      simp only [Bool.and_eq_true, beq_iff_eq, Bool.not_eq_true'] at q
      obtain ⟨⟨⟨⟨⟨e1, e2⟩, hdel⟩, ht⟩, hok⟩, hni⟩ := q
      subst e1 e2
      obtain ⟨nm, bs, mro, ns, qn, hd, sn, sub, ab, col, del⟩ := cd
      dsimp only at hm hdel hok hni
      subst hm hdel
      have hsl : sl = #[k0, k1, k2, k3, some (.builtin n), k5] := by cases sl; simp only at hs; rw [hs]
      subst hsl
      exact ⟨bm, ns, nm, qn, bs, hd, sn, sub, ab, col, dd, k0, k1, k2, k3, k5, _, X _ _ ho, .of_isNs (isNs_of_in X hok), nsMap_none_of_in X hok hni, tail_of_in X ht⟩
    · cases q
  · cases q
abbrev vErr : List Value := [.type "ValueError", .type "Exception", .type "BaseException", .type "object"]
def tRaise (C : Addr) (E : XK) (t : TA) : TS := fun _ σ H => t σ H fun vs H1 => vs.length ≤ sizeLine ∧ E (.ref C) none H1
section
variable {X : Cx} {C : Addr} {E : XK} {x : Str} {np cpos pos : Pos} {e : Expr} {es : List Expr} {t : TA}
theorem qs_raise (hl : Lets X E) (hc : X.calm = true) (hex : X.ex = []) (hg : Gl X x) (hm : X.mg x = some (.ref C)) (hC : excIn X.K C vErr "ValueError.__new__" = true) (ha : QA X (e :: es) t) (hdb : (x == ("__debug__" : Str)) = false := by decide)
    (hs : starEach (e :: es) X.env = (false, eval e X.env) :: starEach es X.env := by rfl) (hpl : (backTo cpos (starEach es X.env)).any (·.1) = false := by rfl) :
    QS X (.Raise (some (.Call (.Name x np) (e :: es) [] cpos)) none pos) (tRaise C E t) := ⟨by
  intro pins s σ H D I h
  obtain ⟨tl, N, nm, q, bs, hdct, sn, sub, ab, col, dd, k0, k1, k2, k3, k5, mN, cC, cN, cni, T⟩ := exc_obj I.ok.mod.kin hC
  have ar := ha.out cpos pins s σ H _ I h
  rw [hs] at ar
  refine wpAny_Raise_call_subT (C := C) (nm := nm) (q := q) (N := N) (bs := bs) (bm := tl) (hdct := hdct) (sn := sn) (sub := sub) (ab := ab) (col := col) (dd := dd) (k0 := k0) (k1 := k1) (k2 := k2) (k3 := k3) (k5 := k5) PySem.F.excBase_ValueError (mN := mN)
    (T.hasType PySem.F.excBase_ValueError.hasBase) (I.ok.hd hc) (by rw [hs]; show (false || (backTo cpos (starEach es X.env)).any (·.1)) = false; rw [hpl]; rfl) cni (ld_glob I hg hm ⟨rfl, ?_⟩ hdb)
  rw [hs]
  refine Calls.evalArgs_plain (wpAny_mono ar (fun us s2 z => ?_) fun _ _ y => y)
  obtain ⟨vs, H1, I1, r, hv, hE⟩ := z
  refine ⟨rfl, by rw [← r.length]; exact hv, I1.bk _ _ cC, cN.keeps I1.bk, T.keeps I1.bk, fun h' a hx => ?_⟩
  obtain ⟨tt, ha1, _, _⟩ := hx.there
  refine hl pins σ H1 _ a _ _ (I1.kept (t' := s2.toks) hx.keeps) ha1 rfl rfl ?_ (fun b o z y => ?_) hE
  · cases z : H1 a with
    | none => rfl
    | some u =>
      obtain ⟨o, ho⟩ := (I1.hok a u z).there
      rw [hx.new] at ho; cases ho
  · obtain ⟨o', ho⟩ := I1.base.there b o z (by rw [hex]; simp)
    rw [y, hx.new] at ho; cases ho⟩
end
end L2
end

section
set_option Elab.async false
set_option linter.all false
set_option maxRecDepth 100000
set_option maxHeartbeats 2000000
namespace L2
open PySem PySem.Spec PyProof.Rows PySem.W
def ExcO (a : Addr) (cls : Value) (dd : Option Addr) : Heap → Prop := fun h => ∃ oe vs, h.get? a = some oe ∧ oe.cls = cls ∧ oe.dict = dd ∧ oe.data = .fields vs
section
variable {X : Cx} {pins : List (Addr × Obj)} {σ : St} {H H' : Hp} {s s' : Shared} {a : Addr} {cls fl : Value} {dd : Option Addr} {B h3 : Heap}
theorem Inv.caught (I : Inv X pins σ H s) (x : ExB X.prog X.w X.stack H s a cls dd H' s' B) (y : Fly B X.stack a cls dd fl h3) (k : s'.heap.UpToSlots h3) : Inv X pins σ (upd H' a (.ext (ExcO a cls dd))) { s' with heap := h3 } := by
  have n0 : ∀ b : Addr, b ∉ ([] : List Addr) := fun b => by simp
  obtain ⟨oe, vs, T, oT, ts, he, hc, hdd, hd, _⟩ := y.tr
  have kF : ∀ b o, s.heap.get? b = some o → b ∈ frs X.stack → (∃ sl, h3.get? b = some { o with slots := sl }) ∧ ∀ vs, o.data ≠ .fields vs := fun b o z m => by
    obtain ⟨_, u, hu, nf⟩ := I.stack.mem m
    rw [z] at hu; cases hu
    obtain ⟨sl2, e2⟩ := x.un.slot b _ z (I.stkFree b m) m (n0 b)
    obtain ⟨sl3, e3⟩ := k b _ e2 nf
    exact ⟨⟨sl3, e3⟩, nf⟩
  have na : ∀ b o, s.heap.get? b = some o → b ≠ a := fun b o z m => by
    by_cases hb : b ∈ frs X.stack
    · obtain ⟨⟨sl, e3⟩, nf⟩ := kF b o z hb
      rw [m, he] at e3
      cases e3
      exact nf vs hd
    · obtain ⟨o', e'⟩ := x.th b o z hb
      rw [m, y.new] at e'; cases e'
  have nt : ∀ b u, H' b = some u → b ≠ a := fun b u z m => by rw [m, x.na] at z; cases z
  have kT : ∀ c u v, H' c = some v → s'.heap.get? c = some u → h3.get? c = some u := fun c u v t z => by
    obtain ⟨o', hB⟩ := x.trk c v t
    have := x.fly.stays c o' hB
    rw [z] at this; cases this
    exact y.stays c u hB
  refine I.call' (s' := { s' with heap := h3 }) (ch := []) x.os ⟨fun b o z n hb _ => y.stays b o (x.kp b o z hb n), fun b o z n hb _ => (kF b o z hb).1, fun b o z n _ => ?_, fun b o z _ => ?_, fun b xs t => ?_, fun b o u t => ?_, fun b ps t => ?_⟩ (fun b o t => ?_) x.bare fun b z => absurd z (by simp)
  · rw [upd_ne (na b o z)]
    exact x.un.free b o z n (n0 b)
  · by_cases m : b ∈ frs X.stack
    · obtain ⟨⟨sl, e3⟩, _⟩ := kF b o z m
      exact ⟨_, e3⟩
    · obtain ⟨o', e1⟩ := x.th b o z m
      exact ⟨o', y.stays b o' e1⟩
  · have t' := x.un.tups b xs t
    rw [upd_ne (nt b _ t')]; exact t'
  · have t' := x.un.frzs b o u t
    rw [upd_ne (nt b _ t')]; exact t'
  · obtain ⟨more, t'⟩ := x.un.tbls b ps t
    exact ⟨more, by rw [upd_ne (nt b _ t')]; exact t'⟩
  · by_cases hb : b = a
    · subst hb
      rw [upd_same] at t
      cases t
      exact ⟨⟨oe, vs, he, hc, hdd, hd⟩, ⟨oe, he⟩, fun h h' ⟨oe, vs, e1, e2, e3, e4⟩ q => ⟨oe, vs, q oe e1, e2, e3, e4⟩⟩
    · rw [upd_ne hb] at t
      refine (x.hok b o t).stay (fun c u hc z => ?_) (fun c r => by rw [upd_ne (nt c _ r)]; exact r) fun c xs r => by rw [upd_ne (nt c _ r)]; exact r
      rcases hc with rfl | hc
      · exact kT c u _ t z
      · exact kT c u _ hc z
theorem Inv.unbound {i : Nat} {n : Str} {m : Str → Option Value} {v : Option Value} {h' : Heap} (I : Inv X pins σ H s) (hN : X.N.Nodup) (hi : X.N[i]? = some n) (hk : X.env.kindOf n = some .local)
    (hm : s.heap.Ns X.env.locals m) (hn : h'.Ns X.env.locals (fun y => if y = n then v else m y)) (hs : Heap.SameBut X.env.locals s.heap h') : Inv X pins (σ.set i none) H { s with heap := h', toks := s.toks + 1 } := by
  have ab : ∀ b o, X.s₀.heap.get? b = some o → b ≠ X.env.locals := fun b o e => Nat.ne_of_lt (Nat.lt_of_lt_of_le (Heap.lt_size e) I.ok.above)
  obtain ⟨m1, hm1, hl⟩ := I.loc
  have em : m1 = m := by
    obtain ⟨o1, es1, ep1, g1, d1, _, f1⟩ := hm1
    obtain ⟨o2, es2, ep2, g2, d2, _, f2⟩ := hm
    rw [g1] at g2; cases g2
    rw [d1] at d2; cases d2
    funext y; rw [← f1 y, ← f2 y]
  subst em
  refine ⟨I.ok, I.os, I.bare, ⟨fun b o e n hb hx => (hs.2 b (ab b o e)).trans (I.base.keep b o e n hb hx), fun b o e n hb hx => ?_, I.base.free, fun b o e hx => ?_, I.base.tups, I.base.frzs, I.base.tbls⟩, ⟨_, hn, fun j y v' e1 e2 e3 => ?_⟩, fun y c e => ?_, I.free, I.freeC, fun p hp => ?_, fun b ob e => ?_, by simpa using I.len⟩
  · obtain ⟨sl, e1⟩ := I.base.slot b o e n hb hx
    exact ⟨sl, (hs.2 b (ab b o e)).trans e1⟩
  · obtain ⟨o', e1⟩ := I.base.there b o e hx
    exact ⟨o', (hs.2 b (ab b o e)).trans e1⟩
  · have hj : j ≠ i := fun z => by
      subst z
      rw [List.getElem?_set] at e2
      simp only [if_true] at e2
      split at e2 <;> simp at e2
    rw [List.getElem?_set_ne (Ne.symm hj)] at e2
    obtain ⟨u, r, l⟩ := hl j y v' e1 e2 e3
    refine ⟨u, r, ?_⟩
    have yn : y ≠ n := fun z => hj (nodup_ix hN e1 (z ▸ hi))
    rcases l with ⟨a1, a2⟩ | ⟨a1, c, a2, a3⟩
    · exact .inl ⟨a1, by simp [yn, a2]⟩
    · exact .inr ⟨a1, c, a2, a3.sameBut hs (I.cne y c a2)⟩
  · obtain ⟨w', z⟩ := I.cell y c e
    exact ⟨w', z.sameBut hs (I.cne y c e)⟩
  · obtain ⟨e, n, ne, nf, d⟩ := I.pin p hp
    exact ⟨(hs.2 p.1 ne).trans e, n, ne, nf, d⟩
  · refine (I.hok b ob e).stay (fun c w' hc q => (hs.2 c ?_).trans q) (fun _ q => q) fun _ _ q => q
    rintro rfl
    rcases hc with rfl | hc
    · rw [I.free] at e; cases e
    · rw [I.free] at hc; cases hc
end
abbrev Cx.tried (X : Cx) (pn : List (Addr × Obj)) (xe : Value → Shared → Prop) : Cx := { X with pn := pn, xe := xe }
abbrev Cx.held (X : Cx) (a : Addr) : Cx := { X with A := X.A.mark (some (.ref a)), calm := false, xe := fun _ _ => False }
section
variable {X : Cx} {pins pins' pn : List (Addr × Obj)} {σ : St} {H : Hp} {s : Shared} {xe : Value → Shared → Prop} {a : Addr}
theorem Inv.tried (I : Inv X pins σ H s) (xe : Value → Shared → Prop) : Inv (X.tried (X.pn ++ pins) xe) [] σ H s :=
  ⟨⟨I.ok.mod, I.ok.kind, I.ok.glob, I.ok.blt, I.ok.above, I.ok.inj, I.ok.has, I.ok.cab, I.ok.hd, I.ok.frames, I.ok.stk, I.ok.exf, I.ok.bs, I.ok.bsz, I.ok.noex, I.ok.exfs, I.ok.funs, I.ok.frf⟩, I.os, I.bare, I.base, I.loc, I.cell, I.free, I.freeC, fun p hp => I.pin p (by simpa using hp), I.hok, I.len⟩
theorem Inv.untried (I : Inv (X.tried (X.pn ++ pins) xe) pins' σ H s) : Inv X pins σ H s :=
  ⟨⟨I.ok.mod, I.ok.kind, I.ok.glob, I.ok.blt, I.ok.above, I.ok.inj, I.ok.has, I.ok.cab, I.ok.hd, I.ok.frames, I.ok.stk, I.ok.exf, I.ok.bs, I.ok.bsz, I.ok.noex, I.ok.exfs, I.ok.funs, I.ok.frf⟩, I.os, I.bare, I.base, I.loc, I.cell, I.free, I.freeC, fun p hp => I.pin p (List.mem_append_left _ hp), I.hok, I.len⟩
theorem SP.untried {D : Ends} {f : Flow} (h : SP (X.tried (X.pn ++ pins) xe) pins' D f s) : SP X pins D f s := by
  cases f with
  | next => obtain ⟨σ', H', I, q⟩ := h; exact ⟨σ', H', I.untried, q⟩
  | brk => obtain ⟨σ', H', I, q⟩ := h; exact ⟨σ', H', I.untried, q⟩
  | cont => obtain ⟨σ', H', I, q⟩ := h; exact ⟨σ', H', I.untried, q⟩
  | ret u => obtain ⟨v, σ', H', I, r, q⟩ := h; exact ⟨v, σ', H', I.untried, r, q⟩
theorem Inv.held (I : Inv X pins σ H s) (a : Addr) : Inv (X.held a) pins σ H s :=
  ⟨⟨I.ok.mod, I.ok.kind, I.ok.glob, I.ok.blt, I.ok.above, I.ok.inj, I.ok.has, I.ok.cab, (fun z => nomatch z), I.ok.frames, I.ok.stk, I.ok.exf, I.ok.bs, I.ok.bsz, I.ok.noex, I.ok.exfs, I.ok.funs, I.ok.frf⟩, I.os, I.bare, I.base, I.loc, I.cell, I.free, I.freeC, I.pin, I.hok, I.len⟩
theorem Inv.unheld (I : Inv (X.held a) pins σ H s) (ok : X.Ok) : Inv X pins σ H s := ⟨ok, I.os, I.bare, I.base, I.loc, I.cell, I.free, I.freeC, I.pin, I.hok, I.len⟩
end
def unb (i : Nat) (D : Ends) : Ends := { nx := fun σ H => D.nx (σ.set i none) H, rt := D.rt, bk := fun σ H => D.bk (σ.set i none) H, ct := fun σ H => D.ct (σ.set i none) H }
def tTry (K : PySem.W.Frag) (C : Addr) (i : Nat) (tb : XK → St → TS) (th : TS) : TS := fun D σ H => ∃ E : XK, tb E σ D σ H ∧ ∀ (a : Addr) (cls : Value) (dd : Option Addr) (H' : Hp), E cls dd H' → H' a = none →
  exmOne K cls (.ref C) = some true ∧ th (unb i D) (σ.set i (some (.ref a))) (upd H' a (.ext (ExcO a cls dd)))
section
variable {X : Cx} {C : Addr} {x n : Str} {np hpos pos : Pos} {body suite : List Stmt} {b0 : Stmt} {i : Nat} {tb : XK → St → TS} {th : TS}
theorem qs_try (hst : X.stack = X.env :: X.outer) (hf : X.env.frame = some X.env.locals) (hg : Gl X x) (hm : X.mg x = some (.ref C)) (hN : X.N.Nodup) (hi : X.N[i]? = some n) (hk : X.env.scope.names.lookup n = some .local)
    (hb : ∀ (pn : List (Addr × Obj)) (xe : Value → Shared → Prop) (E : XK) (σ0 : St), PassesOwn (model X.prog X.w) X.A X.env xe → PassesS (CXE X.prog X.w) (X.tried pn xe) E (· = σ0) → QSs (X.tried pn xe) body (tb E σ0))
    (hh : ∀ a, QSs (X.held a) (b0 :: suite) th) (hdb : (x == ("__debug__" : Str)) = false := by decide) :
    QS X (.Try body [.ExceptHandler (some (.Name x np)) (some n) (b0 :: suite) hpos] [] [] pos) (tTry X.K C i tb th) := ⟨by
  intro pins s σ H D I h
  obtain ⟨E, hbody, hcatch⟩ := h
  have hp : PassesOwn (model X.prog X.w) X.A X.env (fun e s₁ => wpAny (model X.prog X.w) X.A (noteFrame e X.env) (fun _ s₂ => wpAny (model X.prog X.w) X.A (setFlight e none) (fun _ s₃ => wpAny (model X.prog X.w) X.A (handleBy e X.env [.ExceptHandler (some (.Name x np)) (some n) (b0 :: suite) hpos]) (SP X pins D) X.xe s₃) X.xe s₂) X.xe s₁) := PassesOwn.looking
  have hP : PassesS (CXE X.prog X.w) (X.tried (X.pn ++ pins) (fun e s₁ => wpAny (model X.prog X.w) X.A (noteFrame e X.env) (fun _ s₂ => wpAny (model X.prog X.w) X.A (setFlight e none) (fun _ s₃ => wpAny (model X.prog X.w) X.A (handleBy e X.env [.ExceptHandler (some (.Name x np)) (some n) (b0 :: suite) hpos]) (SP X pins D) X.xe s₃) X.xe s₂) X.xe s₁)) E (· = σ) := by
    intro pins' σ' H1 s1 e s2 I1 hσ hq
    obtain ⟨a, cls, dd, H', B, ea, ex, q⟩ := hq
    subst ea
    have J := I1.untried
    have hσ : σ' = σ := hσ
    subst hσ
    have fl : Fly B (X.env :: X.outer) a cls dd .none s2.heap := by rw [← hst]; exact ex.fly
    have hfr : X.A.frames = some (X.env :: X.outer) := by rw [← hst]; exact J.ok.frames
    obtain ⟨hmt, hsu⟩ := hcatch a cls dd H' q ex.na
    refine note_on hfr hf fl fun h1 y1 k1 => flight_off y1 fun h2 y2 k2 => ?_
    have I2 := J.caught ex (by rw [hst]; exact y2) (k1.trans k2)
    refine wpAny_handleBy_cons (codeAny_handlers_test (ld_glob (X := X.held a) (I2.held a) hg hm ?_ hdb)) (by intro q; cases q)
    have LT : Looks (model X.prog X.w) h2 (typeOf (.ref a)) cls := by
      obtain ⟨oe, _, _, _, _, he, hc, _⟩ := y2.tr
      exact hc ▸ (Looks.ld he).andThen .now
    refine (exm_one (K := X.K) I2.kIn LT hmt).here ?_
    refine codeAny_handlers_suite_as (flight_off y2 fun h3 y3 k3 => ?_)
    have I3 := J.caught ex (by rw [hst]; exact y3) ((k1.trans k2).trans k3)
    refine store_ok (X := X.held a) (I3.held a) hN hi (.inl hk) (v := .ref a) rfl (fun s4 I4 => ?_) (.inr hk)
    refine wpAny_mono ((hh a).out pins s4 _ _ (unb i D) I4 hsu) (fun f s5 hs => ?_) fun _ _ z => z.elim
    have hcls : (X.env.scope.kind == .class || (X.env.scope.kind == .module && X.env.locals != X.env.globals)) = false := by rw [J.ok.kind]; rfl
    have fin : ∀ {σ5 : St} {H5 : Hp} {Q : Unit → Shared → Prop}, Inv (X.held a) pins σ5 H5 s5 → (∀ s6, Inv X pins (σ5.set i none) H5 s6 → Q () s6) → wpAny (model X.prog X.w) X.A (do bindName X.env n .none; unbindBehindTheSuite X.env n hpos) Q X.xe s5 := fun I5 hQ => by
      have I5' := I5.unheld J.ok
      obtain ⟨m, hm5, _⟩ := id I5'.loc
      exact wpAny_nameGoes_keeps hk hm5 hcls fun h' v hn hs => hQ _ (I5'.unbound hN hi hk hm5 hn hs)
    cases f with
    | next => obtain ⟨σ5, H5, I5, q5⟩ := hs; exact fin I5 fun s6 I6 => ⟨_, _, I6, q5⟩
    | brk => obtain ⟨σ5, H5, I5, q5⟩ := hs; exact fin I5 fun s6 I6 => ⟨_, _, I6, q5⟩
    | cont => obtain ⟨σ5, H5, I5, q5⟩ := hs; exact fin I5 fun s6 I6 => ⟨_, _, I6, q5⟩
    | ret u => obtain ⟨v, σ5, H5, I5, r5, q5⟩ := hs; exact fin I5 fun s6 I6 => ⟨v, _, _, I6, r5, q5⟩
  refine wpAny_Try_except (wpAny_mono ((hb _ _ E σ hp hP).out [] s σ H D (I.tried _) hbody) (fun f s1 hs => ?_) fun e s1 z => z)
  have hs := hs.untried
  cases f with
  | next =>
    obtain ⟨σ', H', I', q⟩ := hs
    exact (qss_nil (X := X)).out pins s1 σ' H' D I' q
  | brk => exact hs
  | cont => exact hs
  | ret u => exact hs⟩
end
end L2
end

section
set_option Elab.async false
set_option linter.all false
set_option maxRecDepth 100000
set_option maxHeartbeats 2000000
namespace L2
open PySem PySem.Spec PyProof.Rows PySem.W
structure ExcIs (K : PySem.W.Frag) (C : Addr) : Prop where
  cl : (clsIn K C).isSome = true
  ga : findIn K (.ref C) "__getattribute__" = some (some (.builtin "BaseException.__getattribute__"))
  gx : findIn K (.ref C) "__getattr__" = some none
  ha : findIn K (.ref C) "__class__" = some (some (.builtin "object.__class__"))
  hn : specialIn K (.builtin "object.__class__") "__get__" = some (some (.builtin "getset_descriptor.__get__"))
  ht : takesIn K (.builtin "object.__class__") = some true
  hm : mroIn K C (.type "object") = some true
  hb : mroIn K C (.type "BaseException") = some true
section
variable {prog : Program} {w : World} {A : Around} {E : Value → Shared → Prop} {s : Shared} {K : PySem.W.Frag} {x C : Addr} {ox : Obj} {odo : Option Obj}
theorem exc_find (T : ExcIs K C) : findObj K C odo "__class__" = some (.bind (.builtin "getset_descriptor.__get__") (.builtin "object.__class__")) := by
  obtain ⟨cd, hc⟩ := Option.isSome_iff_exists.mp T.cl
  unfold findObj
  rw [hc, Option.bind_some, T.ha, Option.bind_some]
  simp [T.hn, T.ht]
theorem exc_entry {tk : Tok} {Q : Fin → Shared → Prop} (T : ExcIs K C) (X : K.In s.heap) (I : InstAt s.heap x ox C odo) (h : Q (.done (.ret (.ref C))) s) :
    wpAny (model prog w) A (Builtin.«object.__getattribute__» ⟨[.ref x, .str "__class__" tk], []⟩) Q E s := by
  obtain ⟨hh, g, d, t, os⟩ := s
  have L0 := I.type (M := model prog w)
  have L1 := looks_find (M := model prog w) X I (exc_find T)
  unfold Builtin.«object.__getattribute__»
  repeat (first | with_reducible refine wpAny_call (class_get X I T.hm ?_) | lk)
  exact h
theorem exc_class {Q : Option Value → Shared → Prop} (T : ExcIs K C) (X : K.In s.heap) (I : InstAt s.heap x ox C odo) (h : Q (some (.ref C)) { s with toks := s.toks + 1 }) : wpAny (model prog w) A (getAttr? (.ref x) "__class__") Q E s := by
  obtain ⟨hh, g, d, t, os⟩ := s
  have L0 := I.type (M := model prog w)
  have L1 := looks_findIn (M := model prog w) X T.ga
  have L2 := looks_findIn (M := model prog w) X T.gx
  unfold getAttr? getAttrBy? getAttrBy
  refine wpAny_bind (wpAny_mkText (wpAny_bind (wpAny_attempt (wpAny_holding (wpAny_bind (L0.at (wpAny_bind (L1.at ?_))))))))
  show wpAny _ _ (getAttrByItsOwn _ _ _ _ _ _) _ _ _
  unfold getAttrByItsOwn hookBefore
  rw [if_pos (show onTheHeap (Value.ref C) = true from rfl)]
  refine wpAny_bind (L2.at (wpAny_bind (wpAny_attempt (wpAny_holding ?_))))
  unfold callGetattribute boundAndCalled
  rw [if_neg (by decide)]
  have f3 := PySem.F.excAttr_ValueError.ga.bind (.ref x)
  rw [f3]
  refine wpAny_bind (wpAny_pure ?_)
  refine wpAny_call (codeAny_call_builtin PySem.F.excAttr_ValueError.ga.plain F.entry_bexc_ga ?_)
  have hk : builtinKind "BaseException.__getattribute__" = some .slot := by decide +kernel
  have hsp : splitId "BaseException.__getattribute__" = some ("BaseException", "__getattribute__") := by decide +kernel
  have Lb := looks_mroIn (M := model prog w) X T.hb
  have hargs := F.args_bexc_ga (.ref x) (.str "__class__" t)
  simp only [checkBuiltinCall, hk, hsp]
  refine wpAny_bind ?_
  unfold isInstance
  refine wpAny_bind (L0.at (Lb.at ?_))
  repeat (first | refine exc_entry (x := x) T X I ?_ | assumption | wp_step)
theorem kitx_exc {y : Addr} (T : ExcIs K C) : KitX K (.ref y) (.ref C) (fun h => ∃ ox odo, InstAt h y ox C odo) where
  ty := fun _ _ _ ⟨_, _, I⟩ => I.type
  it := fun _ _ X _ => by
    obtain ⟨cd, hc⟩ := Option.isSome_iff_exists.mp T.cl
    unfold clsIn at hc
    split at hc
    · next ho =>
      intro A' Q' E' s' k q
      unfold isType loadHead
      exact wpAny_bind (wpAny_loadPart (k _ _ (X _ _ ho)) (wpAny_pure q))
    · cases hc
  ne := fun h tp dd its n sl X htp => by
    refine Bool.eq_false_iff.mpr fun q => ?_
    have e : C = tp := Value.ref.inj (beq_iff_eq.mp q)
    subst e
    obtain ⟨cd, hc⟩ := Option.isSome_iff_exists.mp T.cl
    unfold clsIn at hc
    split at hc
    · next ho =>
      have z := (X _ _ ho).symm.trans htp
      cases z
    · cases hc
  ca := fun X ⟨_, _, I⟩ k => exc_class T X I k
end
def DictKn (H : Hp) : Option Addr → Prop
  | none => True
  | some d => ∃ fs, H d = some (.xd fs)
def rInstX (K : PySem.W.Frag) : List V → Hp → VK → Prop := fun xs H Q => ∃ (a C : Addr) (c : V) (u : Value) (dd : Option Addr) (b : Bool), xs = [.ref a, c] ∧ ((∃ D, c = .ref D ∧ u = .ref D) ∨ ∃ n, c = .ty n ∧ u = .type n) ∧ H a = some (.ext (ExcO a (.ref C) dd)) ∧ DictKn H dd ∧ ExcIs K C ∧ kitOne K (.ref C) u = some b ∧ Q (.bl b) H
section
variable {X : Cx}
theorem call_isinstX (hc : True := True.intro) : CallR X (.builtin "isinstance") (rInstX X.K) := by
  intro pins s σ H xs us Q I r h
  obtain ⟨a, C, c, u, dd, b, rfl, ru, ha, hd, T, k, q⟩ := h
  obtain ⟨u1, w', rfl, r1, r2⟩ := vals2 r
  obtain rfl : u1 = Value.ref a := r1
  have eu : w' = u := by
    rcases ru with ⟨D, rfl, rfl⟩ | ⟨n, rfl, rfl⟩
    · exact r2
    · exact r2
  subst eu
  obtain ⟨⟨oe, vs, e1, e2, e3, e4⟩, _, _⟩ := (show ObjOk X.prog X.w H s.heap a (.ext (ExcO a (.ref C) dd)) from I.hok a _ ha)
  have hI : ∃ ox odo, InstAt s.heap a ox C odo := by
    cases dd with
    | none => exact ⟨oe, none, e1, e2, by unfold notCls; rw [e4], by rw [e3]; trivial⟩
    | some d =>
      obtain ⟨fs, hfs⟩ := hd
      obtain ⟨o, ho⟩ := (I.hok d _ hfs).there
      exact ⟨oe, some o, e1, e2, by unfold notCls; rw [e4], by rw [e3]; exact ho⟩
  exact kia_one (kitx_exc T) I.kIn hI k (fun z => nomatch z) fun tk => ⟨.bl b, H, I.tok tk, rfl, q⟩
end
end L2
end

section
set_option Elab.async false
set_option linter.all false
set_option maxRecDepth 100000
set_option maxHeartbeats 2000000
namespace L2
open PySem PySem.Spec PyProof.Rows PySem.W
theorem boot_ValueError : bootBuiltins "ValueError" = some (.type "ValueError") := by decide +kernel
section
variable {X : Cx}
def rEqB (K : PySem.W.Frag) : R2 := fun x y H Q => ∃ (p q : Addr) (bs : List Bool), x = .ref p ∧ y = .ref q ∧ SqL K H p (bs.map V.bl) ∧ SqL K H q (bs.map V.bl) ∧ Q (.bl true) H
theorem op_eqB (hu : X.A.units < cLine) : OpR X (compareOp .Eq) (rEqB X.K) := by
  intro pins s σ H x y v u Q I rx ry h
  obtain ⟨p, q', bs, rfl, rfl, h1, h2, q⟩ := h
  cases rx
  cases ry
  obtain ⟨its, r1, p1, _⟩ := I.list h1
  obtain ⟨its2, r2, p2, _⟩ := I.list h2
  have l1 : its.length = bs.length := by have := r1.length; simpa using this.symm
  have l2 : its2.length = bs.length := by have := r2.length; simpa using this.symm
  refine SeqAt.eq_listAt (e := fun _ => true) p1.isList p2.isList (by simp [l1, l2]) hu (fun j g1 g2 => ?_) ⟨.bl true, H, I, ?_, q⟩
  · have g1' : j < bs.length := by simpa [l1] using g1
    obtain ⟨u1, e1, s1⟩ := r1.get (i := j) (x := .bl bs[j]) (by simp [g1'])
    obtain ⟨u2, e2, s2⟩ := r2.get (i := j) (x := .bl bs[j]) (by simp [g1'])
    have f1 : its.toArray[j] = u1 := by
      have := e1; rw [List.getElem?_eq_getElem (by omega)] at this; simpa using this
    have f2 : its2.toArray[j] = u2 := by
      have := e2; rw [List.getElem?_eq_getElem (by omega)] at this; simpa using this
    rw [f1, f2]
    have := eqAt_V (A := X.A.in1) (s := s) s1 s2 rfl rfl
    rw [show eqV (.bl bs[j]) (.bl bs[j]) = true by cases bs[j] <;> rfl] at this
    exact this
  · show Value.bool _ = Value.bool _
    simp
theorem call_isinstXK (K : PySem.W.Frag) (h : X.K = K := by rfl) : CallR X (.builtin "isinstance") (rInstX K) := by subst h; exact call_isinstX
end
end L2
end

section
set_option Elab.async false
set_option linter.all false
set_option maxRecDepth 100000
set_option maxHeartbeats 2000000
namespace HT
open PySem PySem.Spec PyProof.Rows
section
variable {prog : Program} {w : World} {A : Around} {E : Value → Shared → Prop} {s : Shared}
theorem getItem_tuple_all {t sl : Addr} {items : Array Value} {vl vu : Value} {lo hi : Option Int} {Q : Value → Shared → Prop} (ht : IsTup s.heap t items) (hs : s.heap.IsSliceOf sl vl vu .none) (pl : IsPart vl lo) (pu : IsPart vu hi)
    (hw : sIx items.size 0 lo = 0 ∧ sIx items.size items.size hi = items.size) (h : Q (.ref t) s) : wpAny (model prog w) A (getItem (.ref t) (.ref sl)) Q E s := by
  obtain ⟨oo, h1, h2, h3⟩ := id hs
  have ty : s.TypeIs (.ref sl) "slice" := ⟨oo, h1, h2⟩
  unfold getItem
  try with_reducible refine wpAny_holding ?_
  first | refine wpAny_bind (wpAny_pure ?_) | skip
  refine wpAny_bind (wpAny_sequenceKey ht.typeIs (by decide) (wpAny_bind (wpAny_callSpecial?_slot (name := Str.ofString "__getitem__") ht.typeIs PyProof.Rows.slot_tuple_getitem (wpAny_call_entry PyProof.Rows.slot_tuple_getitem ht.typeIs entry_tuple_getitem ?_ (args_tuple_getitem _ _)))))
  show wpAny _ _ (Builtin.Tuple.tupleItemsOf (.ref t) >>= _) _ _ s
  refine wpAny_bind (tupleItemsOf_ ht (wpAny_bind (wpAny_typeOf ty ?_)))
  rw [if_pos (by decide)]
  refine wpAny_bind (sliceApplied_gen hs pl pu ?_)
  have yes : ((((sIx items.size 0 lo : Nat) : Int) == 0 && (1 : Int) == 1 && (sIx items.size items.size hi - sIx items.size 0 lo) == items.size) = true) := by
    rw [hw.1, hw.2]; simp
  show wpAny _ _ (if (((sIx items.size 0 lo : Nat) : Int) == 0 && (1 : Int) == 1 && (sIx items.size items.size hi - sIx items.size 0 lo) == items.size) = true then _ else _) _ _ s
  rw [if_pos yes]
  refine wpAny_bind ?_
  unfold Builtin.Tuple.tupleIsExact
  refine wpAny_bind (wpAny_typeOf ht.typeIs (wpAny_pure ?_))
  rw [if_pos (by decide)]
  exact wpAny_bind (wpAny_rule (wpAny_pure ⟨_, rfl, wpAny_pure h⟩))
end
end HT
namespace L2
open PySem PySem.Spec PyProof.Rows PySem.W
section
variable {X : Cx}
def rCatW (K : PySem.W.Frag) : R2 := fun x y H Q => ∃ a b xs ys, x = .ref a ∧ y = .ref b ∧ SqT K H a xs ∧ SqT K H b ys ∧ xs.length + ys.length ≤ sizeLine ∧ (xs = [] → H b = some (.tup ys)) ∧ (ys = [] → xs ≠ [] → H a = some (.tup xs)) ∧
  ∀ p H', Same H H' → H' p = some (.tup (xs ++ ys)) → Q (.ref p) H'
theorem op_catW : OpR X (binaryOp .Add) (rCatW X.K) := by
  intro pins s σ H x y v u Q I rx ry h
  obtain ⟨a, b, xs, ys, rfl, rfl, ha, hb, hz, e1, e2, q⟩ := h
  cases rx
  cases ry
  obtain ⟨its, r1, p1, _⟩ := I.tuple ha
  obtain ⟨its2, r2, p2, _⟩ := I.tuple hb
  by_cases hx : xs = []
  · have hi : its = [] := r1.nil_iff.mpr hx
    obtain ⟨⟨cls, dd, data, sl⟩, ho, hc, n, hd⟩ := id p1
    obtain ⟨⟨cls2, dd2, data2, sl2⟩, ho2, hc2, n2, hd2⟩ := id p2
    simp only at hc hd hc2 hd2
    subst hc hd hc2 hd2
    exact concat_meets ⟨_, ho, rfl⟩ ⟨_, ho2, rfl⟩ noFill_tuple_add seq_tuple_add PySem.F.slot_tuple_add PySem.F.entry_tuple_add (PySem.F.args_tuple_add_2 _ _)
      (tuple_addW0 a b its.toArray its2.toArray n n2 dd dd2 sl sl2 (by simp [hi])) ⟨ho, ho2, ⟨.ref b, H, I, rfl, q b H (Same.refl _) (by rw [hx]; exact e1 hx)⟩⟩
  · refine HT.cat_tup p1 p2 (fun z => hx (r1.nil_iff.mp z)) (fun z => ⟨.ref a, H, I, rfl, ?_⟩) (fun z => ?_) (by rw [← r1.length, ← r2.length]; exact hz)
    · have hy := r2.nil_iff.mp z
      exact q a H (Same.refl _) (by rw [hy, List.append_nil]; exact e2 hy hx)
    · refine ⟨.ref s.heap.objs.size, _, I.laid (t' := s.toks) (o := .tup (xs ++ ys)) (fun b ob q => Heap.get?_push_of_some _ q) (Nat.le_refl _) ?_, rfl, q _ _ (Same.upd (I.hok.fresh (Nat.le_refl _))) upd_same⟩
      exact ⟨by rw [List.length_append]; exact hz, _, r1.append r2, IsTup.new _ _⟩
def rSlW (K : PySem.W.Frag) : V → Option Int → Option Int → Hp → VK → Prop := fun x lo hi H Q => ∃ a xs, x = .ref a ∧ H a = some (.tup xs) ∧ ∀ p H', Same H H' → H' p = some (.tup (cutV xs lo hi)) → Q (.ref p) H'
theorem sl_tupW : SlR X (rSlW X.K) := by
  intro pins s σ H x v vl vu lo hi sl Q I rx hs pl pu h
  obtain ⟨a, xs, rfl, hx, q⟩ := h
  cases rx
  obtain ⟨its, r, ht, hz⟩ := I.tuple (SqT.of hx)
  have hlen : its.toArray.size = xs.length := by rw [List.size_toArray]; exact r.length.symm
  refine ⟨"tuple", _, PyProof.Rows.slot_tuple_getitem.lookup, ht.typeIs, ?_⟩
  by_cases hw : HT.sIx xs.length 0 lo = 0 ∧ HT.sIx xs.length xs.length hi = xs.length
  · refine HT.getItem_tuple_all ht hs pl pu (by rw [hlen]; exact hw) ⟨.ref a, H, I, rfl, q a H (Same.refl _) ?_⟩
    unfold cutV
    rw [hw.1, hw.2]
    simpa using hx
  · refine HT.getItem_tuple_cut ht hs pl pu (by rw [hlen]; exact hw) ?_ (by rw [hlen]; exact hz)
    rw [hlen]
    refine ⟨.ref s.heap.objs.size, _, I.laid (t' := s.toks) (o := .tup (cutV xs lo hi)) (fun b ob q => Heap.get?_push_of_some _ q) (Nat.le_refl _) ?_, rfl, q _ _ (Same.upd (I.hok.fresh (Nat.le_refl _))) upd_same⟩
    exact ⟨Nat.le_trans (cutV_length xs lo hi) hz, _, (r.drop (HT.sIx xs.length 0 lo)).take (HT.sIx xs.length xs.length hi - HT.sIx xs.length 0 lo), IsTup.new _ _⟩
theorem noFill_tuple_mul : fillsNumberSlot (.type "tuple") "mul" = pure false :=
  PySem.fillsNumberSlot_seq (id := "tuple.__mul__") (r := some (.builtin "tuple.__rmul__")) PySem.F.slot_tuple_mul.lookup (by decide +kernel) (by rw [typeLookup_type, builtinLookup_eq_fast]; kernel_rfl) (by decide +kernel)
theorem repeat_tuple : seqRepeat? (.type "tuple") = pure (some (.builtin "tuple.__mul__")) := by
  unfold seqRepeat?
  rw [PySem.seqSlot_of (T := "tuple") (name := "__mul__") (id := "tuple.__mul__") PySem.F.slot_tuple_mul.lookup (by decide +kernel), PySem.seqSlot_of (T := "tuple") (name := "__rmul__") (id := "tuple.__rmul__") (by rw [typeLookup_type, builtinLookup_eq_fast]; kernel_rfl) (by decide +kernel)]
  rfl
theorem rmul_tuple (a : Int) (t : Tok) (l : Addr) (items : Array Value) (n : Nat) (dd : Option Addr) (sl : Array (Option Value)) :
    Meets (Builtin.«int.__rmul__» ⟨[.int a t, .ref l], []⟩) (fun _ R s => s.heap.get? l = some { cls := .type "tuple", dict := dd, data := .seq items n, slots := sl } ∧ R (.ok (.ret Value.notImplemented)) s) :=
  .of_wp fun prog w A R s h => by
    obtain ⟨hp, g, d, tk, os⟩ := s
    obtain ⟨hl, h⟩ := h
    wp_walk
    exact ⟨_, rfl, h⟩
theorem rep_len {α : Type} (n : Nat) (l : List α) : (List.replicate n l).flatten.length = n * l.length := by
  induction n with
  | zero => simp
  | succ n ih => rw [List.replicate_succ, List.flatten_cons, List.length_append, ih, Nat.succ_mul]; omega
theorem rep_acc : ∀ (n : Nat) (a acc : Array Value), List.foldl (fun x1 x2 => x1 ++ x2) acc (List.replicate n a) = (acc.toList ++ (List.replicate n a.toList).flatten).toArray
  | 0, a, acc => by simp
  | n + 1, a, acc => by
    rw [List.replicate_succ, List.foldl_cons, rep_acc n a (acc ++ a)]
    simp [List.replicate_succ]
theorem rep_foldl (n : Nat) (a : Array Value) : List.foldl (fun x1 x2 => x1 ++ x2) #[] (List.replicate n a) = ((List.replicate n a.toList).flatten).toArray := by rw [rep_acc]; simp
theorem tuple_mulW (l : Addr) (items : Array Value) (n : Nat) (dd : Option Addr) (sl : Array (Option Value)) (x : Int) (u : Tok) (h0 : ¬ items.isEmpty = true) (h1 : 2 ≤ x) (h2 : x ≤ 100) (h3 : items.size ≤ 100) :
    Meets (Builtin.«tuple.__mul__» ⟨[.ref l, .int x u], []⟩) (fun _ R s => s.heap.get? l = some { cls := .type "tuple", dict := dd, data := .seq items n, slots := sl } ∧ R (.ok (.ret (.ref s.heap.objs.size))) { s with heap := s.heap.push { cls := .type "tuple", data := .seq (List.foldl (fun x1 x2 => x1 ++ x2) #[] (List.replicate x.toNat items)) } }) :=
  .of_wp fun prog w A R s h => by
    obtain ⟨hp, g, d, tk, os⟩ := s
    obtain ⟨hl, h⟩ := h
    have f1 := AutoSeq1.idx_int
    have f2 := AutoSeq1.sub_tuple_tuple
    have c1 : (decide (x < -(2 ^ 63)) || decide (x ≥ 2 ^ 63)) = false := by simp; omega
    have c2 : (items.isEmpty || x == 1) = false := by simp at h0; simp [h0]; omega
    have c3 : (decide (x ≤ 0) || items.isEmpty) = false := by simp at h0; simp [h0]; omega
    wp_walk using wpAny_loadPart' hl
    rw [if_neg (by rw [c1]; decide)]
    wp_walk using wpAny_loadPart' hl
    rw [if_neg (by rw [c2]; decide)]
    try wp_walk using wpAny_loadPart' hl
    rw [if_neg (by rw [c3]; decide)]
    have c4 : (items.size : Int) * x ≤ 10000 := Int.mul_le_mul (show (items.size : Int) ≤ 100 by omega) h2 (by omega) (by omega)
    try wp_walk using wpAny_loadPart' hl
    rw [if_neg (by omega)]
    try wp_walk using wpAny_loadPart' hl
    rw [if_neg (by unfold Builtin.Tuple.tupleTooMany; simp [sizeLine]; omega)]
    have hz : (List.foldl (fun x1 x2 => x1 ++ x2) #[] (List.replicate x.toNat items)).size ≤ sizeLine := by
      rw [rep_foldl, List.size_toArray, rep_len, Array.length_toList]
      have : x.toNat * items.size ≤ 100 * 100 := Nat.mul_le_mul (by omega) h3
      exact Nat.le_trans this (by decide)
    refine wpAny_bind ?_
    unfold Builtin.Tuple.tupleExact
    refine wpAny_newObj_type ?_ hz
    exact wpAny_pure ⟨_, rfl, h⟩
def rRepT (K : PySem.W.Frag) : R2 := fun x y H Q => ∃ a xs, ∃ n : Nat, x = .ref a ∧ y = .int n ∧ SqT K H a xs ∧ xs ≠ [] ∧ 2 ≤ n ∧ n ≤ 100 ∧ xs.length ≤ 100 ∧ ∀ p, H p = none → Q (.ref p) (upd H p (.tup (List.replicate n xs).flatten))
theorem vals_rep {xs : List V} {us : List Value} (r : Vals xs us) : ∀ n, Vals (List.replicate n xs).flatten (List.replicate n us).flatten
  | 0 => .nil
  | n + 1 => by rw [List.replicate_succ, List.replicate_succ, List.flatten_cons, List.flatten_cons]; exact r.append (vals_rep r n)
theorem op_repT : OpR X (binaryOp .Mult) (rRepT X.K) := by
  intro pins s σ H x y v u Q I rx ry h
  obtain ⟨a, xs, n, rfl, rfl, ha, hx, n2, n100, l100, q⟩ := h
  cases rx
  obtain ⟨tk, rfl⟩ := ry
  obtain ⟨its, r1, p1, _⟩ := I.tuple ha
  have hl := r1.length
  obtain ⟨⟨cls, dd, data, sl⟩, ho, hc, m, hd⟩ := id p1
  simp only at hc hd
  subst hc hd
  have h0 : ¬ its.toArray.isEmpty = true := fun z => hx (r1.nil_iff.mp (by simpa using z))
  refine wpAny_binaryOp_repeat_ref (T := "tuple") (U := "int") (by decide) ⟨_, ho, rfl⟩ (fun s' => typeIs_int s' _ _) noFill_tuple_mul PySem.F.fills_int_mul PySem.F.slot_int_rmul repeat_tuple PySem.F.slot_int_index.lookup
    (call_meets PySem.F.slot_int_rmul (typeIs_int s _ _) PySem.F.entry_int_rmul (PySem.F.args_int_rmul_2 _ _) (rmul_tuple _ _ a its.toArray m dd sl) ⟨ho, rfl, ⟨_, ho, rfl⟩, ?_⟩)
  refine call_meets PySem.F.slot_tuple_mul ⟨_, ho, rfl⟩ PySem.F.entry_tuple_mul (PySem.F.args_tuple_mul_2 _ _) (tuple_mulW a its.toArray m dd sl (n : Int) _ h0 (by omega) (by omega) (by rw [List.size_toArray, ← hl]; exact l100)) ⟨ho, ?_⟩
  refine ⟨.ref s.heap.objs.size, _, I.laid (t' := s.toks) (o := .tup (List.replicate n xs).flatten) (fun b ob q => Heap.get?_push_of_some _ q) (Nat.le_refl _) ?_, rfl, q _ (I.hok.fresh (Nat.le_refl _))⟩
  refine ⟨?_, (List.replicate n its).flatten, vals_rep r1 n, ?_⟩
  · rw [rep_len]
    have : n * xs.length ≤ 100 * 100 := Nat.mul_le_mul n100 l100
    exact Nat.le_trans this (by decide)
  · rw [rep_foldl, show ((n : Int)).toNat = n by omega, show its.toArray.toList = its by simp]
    exact IsTup.new _ _
end
end L2
end

section
set_option Elab.async false
set_option linter.all false
set_option maxRecDepth 100000
set_option maxHeartbeats 4000000
namespace My
open PySem L2
def top (i : Nat) : Stmt := PySem.Challenge.pw_letterrack_k14_no_boards.main.body.getD i (.Pass ⟨0, 0, 0, 0⟩)
abbrev s_is_whole : Stmt := top 19
theorem sc_is_whole : FnScope ["thing"] ["thing"] (defScope s_is_whole) := ⟨rfl, rfl, rfl, by decide +kernel, rfl, by decide +kernel, by decide +kernel⟩
abbrev s_is_sign : Stmt := top 20
theorem sc_is_sign : FnScope ["thing"] ["thing"] (defScope s_is_sign) := ⟨rfl, rfl, rfl, by decide +kernel, rfl, by decide +kernel, by decide +kernel⟩
abbrev s_is_block : Stmt := top 25
theorem sc_is_block : FnScope ["thing", "width"] ["thing"] (defScope s_is_block) := ⟨rfl, rfl, rfl, by decide +kernel, rfl, by decide +kernel, by decide +kernel⟩
abbrev s_are_rows : Stmt := top 26
theorem sc_are_rows : FnScope ["thing"] ["thing"] (defScope s_are_rows) := ⟨rfl, rfl, rfl, by decide +kernel, rfl, by decide +kernel, by decide +kernel⟩
abbrev s_are_marks : Stmt := top 27
theorem sc_are_marks : FnScope ["thing"] ["thing"] (defScope s_are_marks) := ⟨rfl, rfl, rfl, by decide +kernel, rfl, by decide +kernel, by decide +kernel⟩
abbrev s_is_cell_of : Stmt := top 28
theorem sc_is_cell_of : FnScope ["rows", "row", "column"] ["rows", "row", "column"] (defScope s_is_cell_of) := ⟨rfl, rfl, rfl, by decide +kernel, rfl, by decide +kernel, by decide +kernel⟩
abbrev s_is_begin_of : Stmt := top 29
theorem sc_is_begin_of : FnScope ["rows", "thing"] ["rows", "thing"] (defScope s_is_begin_of) := ⟨rfl, rfl, rfl, by decide +kernel, rfl, by decide +kernel, by decide +kernel⟩
abbrev s_is_board : Stmt := top 30
theorem sc_is_board : FnScope ["rows", "marks", "begin"] ["rows", "marks", "begin"] (defScope s_is_board) := ⟨rfl, rfl, rfl, by decide +kernel, rfl, by decide +kernel, by decide +kernel⟩
abbrev s_Board_init : Stmt := inClass (top 31) 0
theorem sc_Board_init : FnScope ["self", "rows", "marks", "begin"] ["self", "rows", "marks", "begin"] (defScope s_Board_init) := ⟨rfl, rfl, rfl, by decide +kernel, rfl, by decide +kernel, by decide +kernel⟩
abbrev s_cell_at : Stmt := top 33
theorem sc_cell_at : FnScope ["_law_script", "_law_k"] ["_law_script", "_law_k"] (defScope s_cell_at) := ⟨rfl, rfl, rfl, by decide +kernel, rfl, by decide +kernel, by decide +kernel⟩
abbrev s_stream : Stmt := top 34
theorem sc_stream : FnScope ["_law_cell", "_law_many", "_law_found", "_law_number", "_law_k"] ["_law_cell", "_law_many"] (defScope s_stream) := ⟨rfl, rfl, rfl, by decide +kernel, rfl, by decide +kernel, by decide +kernel⟩
abbrev s_letters : Stmt := top 35
theorem sc_letters : FnScope ["_law_cell", "_law_letters_here", "_law_found", "_law_k"] ["_law_cell"] (defScope s_letters) := ⟨rfl, rfl, rfl, by decide +kernel, rfl, by decide +kernel, by decide +kernel⟩
abbrev s_size : Stmt := top 36
theorem sc_size : FnScope ["_law_cell"] ["_law_cell"] (defScope s_size) := ⟨rfl, rfl, rfl, by decide +kernel, rfl, by decide +kernel, by decide +kernel⟩
abbrev s_sign : Stmt := top 37
theorem sc_sign : FnScope ["_law_number", "_law_letters_here", "_law_sign_here"] ["_law_number", "_law_letters_here"] (defScope s_sign) := ⟨rfl, rfl, rfl, by decide +kernel, rfl, by decide +kernel, by decide +kernel⟩
abbrev s_texts : Stmt := top 38
theorem sc_texts : FnScope ["_law_signs", "_law_columns"] ["_law_signs", "_law_columns"] (defScope s_texts) := ⟨rfl, rfl, rfl, by decide +kernel, rfl, by decide +kernel, by decide +kernel⟩
abbrev s_numbers : Stmt := top 39
theorem sc_numbers : FnScope ["_law_script", "_law_first", "_law_many", "_law_numbers_here", "_law_k"] ["_law_script", "_law_first", "_law_many"] (defScope s_numbers) := ⟨rfl, rfl, rfl, by decide +kernel, rfl, by decide +kernel, by decide +kernel⟩
abbrev s_made : Stmt := top 40
theorem sc_made : FnScope ["_law_script", "_law_first", "_law_rows", "_law_columns", "_law_letters_here", "_law_numbers_here", "_law_share", "_law_signs", "_law_marks", "_law_number", "_law_begin"] ["_law_script", "_law_first"] (defScope s_made) := ⟨rfl, rfl, rfl, by decide +kernel, rfl, by decide +kernel, by decide +kernel⟩
abbrev s_bad_text : Stmt := top 41
theorem sc_bad_text : FnScope ["_law_row", "_law_cell", "_law_odd", "_law_at"] ["_law_row", "_law_cell", "_law_odd"] (defScope s_bad_text) := ⟨rfl, rfl, rfl, by decide +kernel, rfl, by decide +kernel, by decide +kernel⟩
abbrev s_bad_rows : Stmt := top 42
theorem sc_bad_rows : FnScope ["_law_rows", "_law_cell", "_law_odd", "_law_way", "_law_at"] ["_law_rows", "_law_cell", "_law_odd"] (defScope s_bad_rows) := ⟨rfl, rfl, rfl, by decide +kernel, rfl, by decide +kernel, by decide +kernel⟩
abbrev s_bad_begin : Stmt := top 43
theorem sc_bad_begin : FnScope ["_law_rows", "_law_cell", "_law_many", "_law_wide", "_law_some"] ["_law_rows", "_law_cell"] (defScope s_bad_begin) := ⟨rfl, rfl, rfl, by decide +kernel, rfl, by decide +kernel, by decide +kernel⟩
abbrev s_spoilt : Stmt := top 44
theorem sc_spoilt : FnScope ["_law_rows", "_law_marks", "_law_begin", "_law_cell", "_law_way"] ["_law_rows", "_law_marks", "_law_begin", "_law_cell"] (defScope s_spoilt) := ⟨rfl, rfl, rfl, by decide +kernel, rfl, by decide +kernel, by decide +kernel⟩
abbrev s_refused : Stmt := top 45
theorem sc_refused : FnScope ["_law_rows", "_law_marks", "_law_begin", "_law_some", "_law_others", "e"] ["_law_rows", "_law_marks", "_law_begin"] (defScope s_refused) := ⟨rfl, rfl, rfl, by decide +kernel, rfl, by decide +kernel, by decide +kernel⟩
abbrev s_law : Stmt := top 46
theorem sc_law : FnScope ["_law_script", "_law_rows", "_law_marks", "_law_begin", "_law_cell", "_law_one", "_law_other", "_law_third"] ["_law_script"] (defScope s_law) := ⟨rfl, rfl, rfl, by decide +kernel, rfl, by decide +kernel, by decide +kernel⟩
-- DEFS _wall|_wall|k NoWord_init|NoWord.__init__|self,word Taken_init|Taken.__init__|self,row,column Gap_init|Gap.__init__|self,row,column Lacking_init|Lacking.__init__|self,tile is_whole|is_whole|thing is_sign|is_sign|thing is_block|is_block|thing are_rows|are_rows|thing are_marks|are_marks|thing is_cell_of|is_cell_of|rows,row,column is_begin_of|is_begin_of|rows,thing is_board|is_board|rows,marks,begin Board_init|Board.__init__|self,rows,marks,begin Board_at|Board.at|self,row,column Board_is_free|Board.is_free|self Board_run|Board.run|self,row,column,way Board_turned|Board.turned|self Board_laid|Board.laid|self,laying cell_at|_law_cell_at|_law_script,_law_k stream|_law_stream|_law_cell,_law_many letters|_law_letters|_law_cell size|_law_size|_law_cell sign|_law_sign|_law_number,_law_letters_here texts|_law_texts|_law_signs,_law_columns numbers|_law_numbers|_law_script,_law_first,_law_many made|_law_made|_law_script,_law_first bad_text|_law_bad_text|_law_row,_law_cell,_law_odd bad_rows|_law_bad_rows|_law_rows,_law_cell,_law_odd bad_begin|_law_bad_begin|_law_rows,_law_cell spoilt|_law_spoilt|_law_rows,_law_marks,_law_begin,_law_cell refused|_law_refused|_law_rows,_law_marks,_law_begin law|law|_law_script

section
variable {P : Program} {w : World} {K : PySem.W.Frag} {mg : Str → Option Value} {base : Heap}
def azB (c : Nat) : Bool := decide (97 ≤ c) && decide (c ≤ 122)
def upB (c : Nat) : Bool := decide (65 ≤ c) && decide (c ≤ 90)
def sgB (l : List Nat) : Bool := match l with | [c] => azB c || upB c | _ => false
theorem lt1 (a b : Nat) : ([a] < [b]) ↔ a < b := by simp [List.cons_lt_cons_iff]
theorem dlt1 (a b : Nat) : (!decide ([a] < [b])) = decide (b ≤ a) := by
  by_cases h : a < b
  · rw [decide_eq_true ((lt1 a b).mpr h), decide_eq_false (by omega)]; rfl
  · rw [decide_eq_false (fun z => h ((lt1 a b).mp z)), decide_eq_true (by omega)]; rfl
def NoStr (K : PySem.W.Frag) (H : Hp) (x : V) : Prop := ∃ t, TyOf K H x t ∧ PySem.W.kitOne K t (.type "str") = some false
def spSign (K : PySem.W.Frag) : Sp := fun vs H Q _ => (∃ x, vs = [x] ∧ NoStr K H x ∧ Q (.bl false) H) ∨ (∃ l, vs = [.str (S l)] ∧ l.length ≤ 1000 ∧ Q (.bl (sgB l)) H)
theorem ok_is_sign (D : DefAt K mg "is_sign" s_is_sign ["thing"]) (hlen : mg "len" = none) (hstr : mg "str" = none) (hisi : mg "isinstance" = none) : Def P w K mg base "is_sign" 1 ["thing"] (spSign K) := by
  refine D.qok sc_is_sign (fun vs H Q E h => ?_) (fun f cdv A outer s H vs Q E hr h => ?_)
  · rcases h with ⟨x, rfl, _⟩ | ⟨x, rfl, _⟩ <;> rfl
  · refine ⟨_, qss_cons (qs_if (QW.qt (qw_or (qt_not (qt_val (qe_callB call_isinst (by rfl) hisi PyProof.Rows.boot_isinstance (qa_cons (qv 0) (qa_cons (qe_bltn (v := .ty "str") (by rfl) hstr PyProof.Rows.boot_str rfl) qa_nil)))))
          (qw_or1 (qt_cmpR op_ne (qe_callB call_lenS (by rfl) hlen PySem.boot_len (qa_cons (qv 0) qa_nil)) qe_int (nomark _))))) (qss_one (qs_ret qe_bl)) qss_nil)
      (qss_one (qs_ret (qe_or (qe_chain op_leS op_leS (qe_strS [97] (by decide +kernel)) (qv 0) (qe_strS [122] (by decide +kernel)))
        (qe_one (qe_chain op_leS op_leS (qe_strS [65] (by decide +kernel)) (qv 0) (qe_strS [90] (by decide +kernel))))))), ?_⟩
    rcases h with ⟨x, rfl, ⟨t, ty, hk⟩, q⟩ | ⟨l, rfl, hl, q⟩
    · exact ⟨_, rfl, _, _, _, false, rfl, ty, hk, _, rfl, iteT (iteT q)⟩
    · have hz : l.length ≤ sizeLine := Nat.le_of_lt (small1000 (by omega))
      refine ⟨_, rfl, _, _, _, true, rfl, .str _, (by kernel_rfl), _, rfl, iteF ⟨_, rfl, l, rfl, hz, rfl, _, rfl, ?_⟩⟩
      by_cases h1 : l.length = 1
      · obtain ⟨c, rfl⟩ := List.length_eq_one_iff.mp h1
        refine iteNS rfl ?_
        refine ⟨_, rfl, [97], [c], rfl, rfl, decide (97 ≤ c), by rw [dlt1], ?_⟩
        have q' : Q (.bl (azB c || upB c)) H := q
        have tail : (upB c = (azB c || upB c)) → tChain rLeS rLeS (tC (.str (S [65]))) (tVar 0) (tC (.str (S [90]))) [some (.str (S [c]))] H Q := fun e => by
          refine ⟨_, rfl, [65], [c], rfl, rfl, decide (65 ≤ c), by rw [dlt1], ?_⟩
          rw [← e] at q'
          by_cases h2 : 65 ≤ c
          · rw [decide_eq_true h2]
            refine iteT ⟨[c], [90], rfl, rfl, ?_⟩
            rw [dlt1]
            simpa [upB, h2] using q'
          · rw [decide_eq_false h2]
            refine iteF ?_
            simpa [upB, h2] using q'
        by_cases h2 : 97 ≤ c
        · rw [decide_eq_true h2]
          refine iteT ⟨[c], [122], rfl, rfl, _, rfl, ?_⟩
          rw [dlt1]
          by_cases h3 : c ≤ 122
          · rw [decide_eq_true h3]
            refine iteT ?_
            simpa [azB, h2, h3] using q'
          · rw [decide_eq_false h3]
            exact iteF (tail (by simp [azB, h2, h3]))
        · rw [decide_eq_false h2]
          exact iteF ⟨_, rfl, iteF (tail (by simp [azB, h2]))⟩
      · have e : (!decide (V.int (l.length : Int) = V.int 1)) = true := by
          rw [decide_eq_false]; rfl
          intro z; injection z with z; omega
        rw [e]
        have e2 : sgB l = false := by
          match l, h1 with
          | [], _ => rfl
          | [c], h => exact absurd rfl h
          | _ :: _ :: _, _ => rfl
        rw [e2] at q
        exact iteT q
def isLet (c : Nat) : Prop := 97 ≤ c ∧ c ≤ 122
structure Alph (ls : List Nat) : Prop where
  lo : 2 ≤ ls.length
  hi : ls.length ≤ 26
  az : ∀ c ∈ ls, isLet c
def spCell (K : PySem.W.Frag) : Sp := fun vs H Q _ => ∃ (a : Addr) (ns : List Int) (k : Nat), vs = [.ref a, .int k] ∧ SqL K H a (ns.map V.int) ∧ ∀ v : Int, Q (.int v) H
theorem ok_cell_at (D : DefAt K mg "_law_cell_at" s_cell_at ["_law_script", "_law_k"]) (hlen : mg "len" = none) : Def P w K mg base "_law_cell_at" 1 ["_law_script", "_law_k"] (spCell K) := by
  refine D.qok sc_cell_at (fun vs H Q E h => ?_) (fun f cdv A outer s H vs Q E hr h => ?_)
  · obtain ⟨a, ns, k, rfl, _⟩ := h
    rfl
  · obtain ⟨a, ns, k, rfl, hS, q⟩ := h
    refine ⟨_, qss_cons (qs_if (qt_cmpR op_lt (qv 1) (qe_callB call_len_seq (by rfl) hlen PySem.boot_len (qa_cons (qv 0) qa_nil)) (nomark _)) (qss_one (qs_ret (qe_ix ix_list (qv 0) (qv 1) (fun _ _ => rfl)))) qss_nil) (qss_one (qs_ret qe_int)), ?_⟩
    refine ⟨_, rfl, _, rfl, a, _, rfl, .inl hS, _, _, rfl, rfl, _, rfl, ?_⟩
    refine ite2 (fun hc => ?_) (fun _ => ?_)
    · have hk : k < ns.length := by
        have := of_decide_eq_true hc
        rw [List.length_map] at this
        omega
      exact ⟨_, rfl, _, rfl, a, _, _, .int ns[k], rfl, rfl, hS, atI_nat (by simp [hk]), q _⟩
    · exact q _
def spStream : Sp := fun vs H Q _ => ∃ (c : Int) (m : Nat), vs = [.int c, .int m] ∧ m ≤ 100 ∧ ∀ (p : Addr) (ds : List Int) (H' : Hp), Same H H' → H p = none → H' p = some (.lst (ds.map V.int)) → ds.length = m → Q (.ref p) H'
theorem ok_stream (D : DefAt K mg "_law_stream" s_stream ["_law_cell", "_law_many"]) (n_range : mg "range" = none) : Def P w K mg base "_law_stream" 1 ["_law_cell", "_law_many"] spStream := by
  refine D.qok sc_stream (fun vs H Q E h => ?_) (fun f cdv A outer s H vs Q E hr h => ?_)
  · obtain ⟨c, m, rfl, _⟩ := h
    rfl
  · obtain ⟨c, m, rfl, hm, q⟩ := h
    refine ⟨_, (qss_cons (qs_set (i := 2) sc_stream.nd rfl (Or.inl rfl) (qe_lst qa_nil)) (qss_cons (qs_set (i := 3) sc_stream.nd rfl (Or.inl rfl) (qe_op op_fdiv (qv 0) qe_int)) (qss_cons (qs_if (qt_cmpR op_eq (qe_op op_mod (qv 0) qe_int) qe_int (nomark _)) (qss_cons (qs_for PassesOwn.never rfl (qi_range1 (by rfl) n_range (qa_cons (qv 1) qa_nil)) (qg_name (i := 4) sc_stream.nd rfl (Or.inl rfl)) (qss_cons (qs_expr (qe_bm PySem.F.plainAttrs_list PySem.F.slot_list_append PySem.F.type_list_append mt_append (qv 2) (qa_cons (qe_op op_mod (qv 3) (qe_op op_pow qe_int qe_int)) qa_nil))) (qss_one (qs_set (i := 3) sc_stream.nd rfl (Or.inl rfl) (qe_op op_fdivB (qv 3) (qe_op op_pow qe_int qe_int)))))) (qss_one (qs_ret (qv 2)))) qss_nil) (qss_cons (qs_set (i := 3) sc_stream.nd rfl (Or.inl rfl) (qe_op op_mod (qv 3) qe_int)) (qss_cons (qs_for PassesOwn.never rfl (qi_range1 (by rfl) n_range (qa_cons (qe_op op_add (qv 1) qe_int) qa_nil)) (qg_name (i := 4) sc_stream.nd rfl (Or.inl rfl)) (qss_cons (qs_set (i := 3) sc_stream.nd rfl (Or.inl rfl) (qe_op op_mod (qe_op op_add (qe_op op_add (qe_op op_add (qe_op op_mul (qv 3) (qv 3)) (qe_op op_mul qe_int (qv 3))) (qe_op op_mul qe_int (qv 4))) qe_int) qe_int)) (qss_one (qs_expr (qe_bm PySem.F.plainAttrs_list PySem.F.slot_list_append PySem.F.type_list_append mt_append (qv 2) (qa_cons (qe_op op_add (qe_op op_mul (qe_op op_mod (qe_op op_mul (qv 3) qe_int) qe_int) qe_int) (qe_op op_mod (qv 3) qe_int)) qa_nil)))))) (qss_one (qs_ret (qe_slice sl_list (qv 2) (qo_some qe_int) qo_none)))))))), ?_⟩
    refine ⟨by show 0 ≤ sizeLine; decide, fun p hp => ?_⟩
    refine ⟨_, rfl, _, _, rfl, rfl, ⟨by decide, by decide⟩, ?_⟩
    refine ⟨_, rfl, _, _, rfl, rfl, (by show (0 : Int) < 2; decide), rfl, _, rfl, ?_⟩
    refine ite2 (fun _ => ?_) (fun _ => ?_)
    · refine ⟨_, rfl, _, rfl, by omega, by omega, ?_⟩
      rw [Int.toNat_natCast]
      refine for_range (n := m) (lo := 0) (fun i σ H2 => ∃ (n : Int) (kv : Option V) (ds : List Int), σ = [some (.int c), some (.int m), some (.ref p), some (.int n), kv] ∧ Same H H2 ∧ H2 p = some (.lst (ds.map V.int)) ∧ ds.length = i)
        ⟨_, none, [], rfl, Same.upd hp, upd_same, rfl⟩ ?_ ?_
      · rintro i σ H2 hi ⟨n, kv, ds, rfl, sm, hp2, hl⟩
        refine ⟨_, rfl, .inl ⟨rfl, _, SqL.of hp2⟩, _, rfl, _, _, rfl, rfl, ⟨by decide, by decide, by decide⟩, _, _, rfl, rfl, (by show (0 : Int) < 10 ^ 20; decide), ?_⟩
        refine ⟨p, _, _, rfl, rfl, hp2, by rw [List.length_map, hl]; exact small1000 (by omega), ?_⟩
        refine ⟨_, rfl, _, _, rfl, rfl, ⟨by decide, by decide, by decide⟩, _, _, rfl, rfl, ⟨by show (0 : Int) < 10 ^ 20; decide, by decide +kernel⟩, ?_⟩
        exact ⟨_, _, ds ++ [n % (10 : Int) ^ (20 : Int).toNat], rfl, sm.upd' hp, by rw [upd_same]; simp, by simp [hl]⟩
      · rintro σ H2 ⟨n, kv, ds, rfl, sm, hp2, hl⟩
        exact ⟨_, rfl, q p ds H2 sm hp hp2 hl⟩
    · refine ⟨_, rfl, _, _, rfl, rfl, (by show (0 : Int) < 2305843009213693951; decide), ?_⟩
      refine ⟨_, rfl, _, _, rfl, rfl, _, rfl, by omega, by omega, ?_⟩
      have em : ((m : Int) + 1).toNat = m + 1 := by omega
      rw [em]
      refine for_range (n := m + 1) (lo := 0) (fun i σ H2 => ∃ (n : Int) (kv : Option V) (ds : List Int), σ = [some (.int c), some (.int m), some (.ref p), some (.int n), kv] ∧ Same H H2 ∧ H2 p = some (.lst (ds.map V.int)) ∧ ds.length = i ∧ 0 ≤ n ∧ n < 2305843009213693951)
        ⟨_, none, [], rfl, Same.upd hp, upd_same, rfl, Int.emod_nonneg _ (by decide), Int.emod_lt_of_pos _ (by decide)⟩ ?_ ?_
      · rintro i σ H2 hi ⟨n, kv, ds, rfl, sm, hp2, hl, n0, n1⟩
        refine ⟨_, rfl, _, rfl, _, _, rfl, rfl, .inl ⟨by omega, by omega⟩, _, rfl, _, _, rfl, rfl, .inl ⟨by decide, by decide⟩, _, _, rfl, rfl, _, rfl, _, _, rfl, rfl, .inl ⟨by decide, by decide⟩, _, _, rfl, rfl, _, _, rfl, rfl, _, _, rfl, rfl, (by show (0 : Int) < 2305843009213693951; decide), ?_⟩
        refine ⟨_, rfl, .inl ⟨rfl, _, SqL.of hp2⟩, ?_⟩
        refine ⟨_, rfl, _, _, rfl, rfl, .inr ⟨by decide, by decide⟩, _, _, rfl, rfl, (by show (0 : Int) < 2147483629; decide), _, _, rfl, rfl, .inr ⟨by decide, by decide⟩, _, rfl, _, _, rfl, rfl, (by show (0 : Int) < 2147483587; decide), _, _, rfl, rfl, ?_⟩
        refine ⟨p, _, _, rfl, rfl, hp2, by rw [List.length_map, hl]; exact small1000 (by omega), ?_⟩
        exact ⟨_, _, ds ++ [_], rfl, sm.upd' hp, by rw [upd_same]; simp; rfl, by simp [hl], Int.emod_nonneg _ (by decide), Int.emod_lt_of_pos _ (by decide)⟩
      · rintro σ H2 ⟨n, kv, ds, rfl, sm, hp2, hl, n0, n1⟩
        refine ⟨_, rfl, _, rfl, p, _, rfl, SqL.of hp2, fun t ht => ?_⟩
        have e : cutV (ds.map V.int) (some 1) none = (ds.drop 1).map V.int := by
          unfold cutV
          have e1 : HT.sIx (ds.map V.int).length 0 (some 1) = min 1 (ds.map V.int).length := HT.sIx_nat _ _ 1
          rw [e1, List.length_map, hl]
          show List.take (m + 1 - min 1 (m + 1)) (List.drop (min 1 (m + 1)) (ds.map V.int)) = _
          rw [show min 1 (m + 1) = 1 by omega, List.take_of_length_le (by rw [List.length_drop, List.length_map]; omega), List.map_drop]
        rw [e]
        exact q t (ds.drop 1) _ (sm.upd' (sm.free ht)) (sm.free ht) upd_same (by rw [List.length_drop]; omega)
theorem AL_az : ∀ c ∈ AL, isLet c := fun c hc => by
  obtain ⟨k, hk, rfl⟩ := List.mem_map.mp hc
  have := List.mem_range.mp hk
  exact ⟨by omega, by omega⟩
def spLetC : Sp := fun vs H Q _ => ∃ c : Int, vs = [.int c] ∧ ∀ ls : List Nat, Alph ls → Q (.str (S ls)) H
theorem ok_letters (D : DefAt K mg "_law_letters" s_letters ["_law_cell"]) (n_range : mg "range" = none) : Def P w K mg base "_law_letters" 1 ["_law_cell"] spLetC := by
  refine D.qok sc_letters (fun vs H Q E h => ?_) (fun f cdv A outer s H vs Q E hr h => ?_)
  · obtain ⟨c, rfl, _⟩ := h
    rfl
  · obtain ⟨c, rfl, q⟩ := h
    refine ⟨_, (qss_cons (qs_set (i := 1) sc_letters.nd rfl (Or.inl rfl) (qe_strS AL (by decide +kernel))) (qss_cons (qs_if (qt_cmpR op_eq (qe_op op_mod (qv 0) qe_int) qe_int (nomark _)) (qss_one (qs_ret (qv 1))) qss_nil) (qss_cons (qs_set (i := 2) sc_letters.nd rfl (Or.inl rfl) (qe_strS [] (by decide +kernel))) (qss_cons (qs_for PassesOwn.never rfl (qi_range1 (by rfl) n_range (qa_cons (qe_op op_add qe_int (qe_op op_mod (qe_op op_fdiv (qv 0) qe_int) qe_int)) qa_nil)) (qg_name (i := 3) sc_letters.nd rfl (Or.inl rfl)) (qss_one (qs_set (i := 2) sc_letters.nd rfl (Or.inl rfl) (qe_op op_addS (qv 2) (qe_ix ix_S (qv 1) (qe_op op_mod (qe_op op_add (qe_op op_fdiv (qv 0) qe_int) (qe_op op_mul (qv 3) (qe_op op_add qe_int (qe_op op_mod (qe_op op_fdiv (qv 0) qe_int) qe_int)))) qe_int) (fun _ _ => rfl)))))) (qss_one (qs_ret (qv 2))))))), ?_⟩
    refine ⟨_, rfl, _, _, rfl, rfl, (by show (0 : Int) < 8; decide), rfl, _, rfl, ?_⟩
    refine ite2 (fun _ => ?_) (fun _ => ?_)
    · exact ⟨_, rfl, q AL ⟨by decide, by decide, AL_az⟩⟩
    · have d0 := Int.emod_nonneg (c / 8) (show (3 : Int) ≠ 0 by decide)
      have d1 := Int.emod_lt_of_pos (c / 8) (show (0 : Int) < 3 by decide)
      refine ⟨_, rfl, _, _, rfl, rfl, ⟨by decide, by decide⟩, _, _, rfl, rfl, (by show (0 : Int) < 3; decide), _, _, rfl, rfl, _, rfl, by omega, by omega, ?_⟩
      refine for_range (lo := 0) (fun i σ H2 => H2 = H ∧ ∃ (kv : Option V) (ls : List Nat), σ = [some (.int c), some (.str (S AL)), some (.str (S ls)), kv] ∧ ls.length = i ∧ ∀ c ∈ ls, isLet c) ⟨rfl, none, [], rfl, rfl, fun c h => by simp at h⟩ ?_ ?_
      · rintro i σ H2 hi ⟨rfl, kv, ls, rfl, hl, ha⟩
        obtain ⟨x, hx, hm⟩ := at_modA (xs := AL) (n := 26) (by decide) (by decide) (c / 24 + (0 + (i : Int)) * (1 + c / 624 % 8))
        refine ⟨_, rfl, _, rfl, _, rfl, _, _, rfl, rfl, ⟨by decide, by decide⟩, _, rfl, _, rfl, _, _, rfl, rfl, ⟨by decide, by decide⟩, _, _, rfl, rfl, (by show (0 : Int) < 8; decide), _, _, rfl, rfl, _, _, rfl, rfl, .inl ⟨by omega, by omega⟩, _, _, rfl, rfl, _, _, rfl, rfl, (by show (0 : Int) < 26; decide), ?_⟩
        refine ⟨AL, _, x, rfl, rfl, by decide, hx, ls, [x], rfl, rfl, ?_, ?_⟩
        · exact Nat.le_of_lt (small1000 (by show ls.length + 1 ≤ 1000; omega))
        · refine ⟨rfl, _, ls ++ [x], rfl, by simp [hl], fun y hy => ?_⟩
          rcases List.mem_append.mp hy with z | z
          · exact ha y z
          · rw [List.mem_singleton.mp z]; exact AL_az x hm
      · rintro σ H2 ⟨rfl, kv, ls, rfl, hl, ha⟩
        exact ⟨_, rfl, q ls ⟨by omega, by omega, ha⟩⟩
def sgC (c : Nat) : Prop := sgB [c] = true
theorem sgC.lt {c : Nat} (h : sgC c) : c < 128 := by
  unfold sgC sgB azB upB at h
  simp at h
  omega
theorem sgC_az {c : Nat} (h : isLet c) : sgC c := by simp [sgC, sgB, azB, h.1, h.2]
theorem sgC_up {c : Nat} (h : isLet c) : sgC (c - 32) := by
  have h1 := h.1
  have h2 := h.2
  simp [sgC, sgB, azB, upB]
  omega
def spSgn : Sp := fun vs H Q _ => ∃ (n : Int) (ls : List Nat), vs = [.int n, .str (S ls)] ∧ Alph ls ∧ ∀ c : Nat, sgC c → Q (.str (S [c])) H
theorem ok_sign (D : DefAt K mg "_law_sign" s_sign ["_law_number", "_law_letters_here"]) (n_len : mg "len" = none) : Def P w K mg base "_law_sign" 1 ["_law_number", "_law_letters_here"] spSgn := by
  refine D.qok sc_sign (fun vs H Q E h => ?_) (fun f cdv A outer s H vs Q E hr h => ?_)
  · obtain ⟨c, ls, rfl, _⟩ := h
    rfl
  · obtain ⟨n, ls, rfl, hA, q⟩ := h
    have hl1 := hA.lo
    have hl2 := hA.hi
    have hz : ls.length ≤ sizeLine := Nat.le_of_lt (small1000 (by omega))
    refine ⟨_, (qss_cons (qs_set (i := 2) sc_sign.nd rfl (Or.inl rfl) (qe_ix ix_S (qv 1) (qe_op op_mod (qe_op op_fdiv (qv 0) qe_int) (qe_callB call_lenS (by rfl) n_len PySem.boot_len (qa_cons (qv 1) qa_nil))) (fun _ _ => rfl))) (qss_cons (qs_if (qt_cmpR op_eq (qe_op op_mod (qe_op op_fdiv (qv 0) qe_int) qe_int) qe_int (nomark _)) (qss_one (qs_ret (qe_bm0 PySem.F.plainAttrs_str PySem.F.slot_str_upper PySem.F.type_str_upper mt_upA (qv 2)))) qss_nil) (qss_one (qs_ret (qv 2))))), ?_⟩
    obtain ⟨x, hx, hm⟩ := at_modA (xs := ls) (n := ls.length) rfl (by omega) (n / 3)
    have hx' := hA.az x hm
    refine ⟨_, rfl, _, rfl, _, _, rfl, rfl, ⟨by decide, by decide⟩, _, rfl, ls, rfl, hz, _, _, rfl, rfl, (by show (0 : Int) < (ls.length : Int); omega), ls, _, x, rfl, rfl, hz, hx, ?_⟩
    refine ⟨_, rfl, _, _, rfl, rfl, ⟨by decide, by decide⟩, _, _, rfl, rfl, (by show (0 : Int) < 4; decide), rfl, _, rfl, ?_⟩
    refine ite2 (fun _ => ?_) (fun _ => ?_)
    · refine ⟨_, rfl, rfl, [x], rfl, rfl, by show 1 ≤ 1000; decide, fun d hd => by rw [List.mem_singleton.mp hd]; have := hx'.2; omega, ?_⟩
      have eu : [x].map PyProof.Rows.up1 = [x - 32] := by
        rw [List.map_singleton]; unfold PyProof.Rows.up1; rw [if_pos (show 97 ≤ x ∧ x ≤ 122 from hx')]
      rw [eu]
      exact q _ (sgC_up hx')
    · exact ⟨_, rfl, q x (sgC_az hx')⟩
def spSize : Sp := fun vs H Q _ => ∃ c : Int, vs = [.int c] ∧ ∀ (p : Addr) (r k : Nat) (H' : Hp), Same H H' → H p = none → H' p = some (.tup [.int r, .int k]) → 1 ≤ r → r ≤ 9 → 1 ≤ k → k ≤ 9 → Q (.ref p) H'
theorem ok_size (D : DefAt K mg "_law_size" s_size ["_law_cell"]) : Def P w K mg base "_law_size" 1 ["_law_cell"] spSize := by
  refine D.qok sc_size (fun vs H Q E h => ?_) (fun f cdv A outer s H vs Q E hr h => ?_)
  · obtain ⟨c, rfl, _⟩ := h
    rfl
  · obtain ⟨c, rfl, q⟩ := h
    refine ⟨_, (qss_cons (qs_if (qt_cmpR op_eq (qe_op op_mod (qe_op op_fdiv (qv 0) qe_int) qe_int) qe_int (nomark _)) (qss_one (qs_ret (qe_tup (qa_cons (qe_op op_add qe_int (qe_op op_mod (qe_op op_fdiv (qv 0) qe_int) qe_int)) (qa_cons (qe_op op_add qe_int (qe_op op_mod (qe_op op_fdiv (qv 0) qe_int) qe_int)) qa_nil))))) qss_nil) (qss_one (qs_ret (qe_tup (qa_cons (qe_op op_add qe_int (qe_op op_mod (qv 0) qe_int)) (qa_cons (qe_op op_add qe_int (qe_op op_mod (qe_op op_fdiv (qv 0) qe_int) qe_int)) qa_nil)))))), ?_⟩
    have key : ∀ (a b : Int), 0 ≤ a → a < 9 → 0 ≤ b → b < 9 → ∀ p, H p = none → Q (.ref p) (upd H p (.tup [.int (1 + a), .int (1 + b)])) := fun a b h1 h2 h3 h4 p hp =>
      q p (1 + a).toNat (1 + b).toNat _ (Same.upd hp) hp (by rw [upd_same, show ((1 + a).toNat : Int) = 1 + a by omega, show ((1 + b).toNat : Int) = 1 + b by omega]) (by omega) (by omega) (by omega) (by omega)
    refine ⟨_, rfl, _, _, rfl, rfl, ⟨by decide, by decide⟩, _, _, rfl, rfl, (by show (0 : Int) < 8; decide), rfl, _, rfl, ?_⟩
    refine ite2 (fun _ => ?_) (fun _ => ?_)
    · refine ⟨_, rfl, _, _, rfl, rfl, ⟨by decide, by decide⟩, _, _, rfl, rfl, (by show (0 : Int) < 9; decide), _, _, rfl, rfl, _, rfl, _, _, rfl, rfl, ⟨by decide, by decide⟩, _, _, rfl, rfl, (by show (0 : Int) < 9; decide), _, _, rfl, rfl, by show 2 ≤ sizeLine; decide, fun p hp => ?_⟩
      exact key _ _ (Int.emod_nonneg _ (by decide)) (Int.emod_lt_of_pos _ (by decide)) (Int.emod_nonneg _ (by decide)) (Int.emod_lt_of_pos _ (by decide)) p hp
    · refine ⟨_, rfl, _, _, rfl, rfl, (by show (0 : Int) < 6; decide), _, _, rfl, rfl, _, rfl, _, _, rfl, rfl, ⟨by decide, by decide⟩, _, _, rfl, rfl, (by show (0 : Int) < 6; decide), _, _, rfl, rfl, by show 2 ≤ sizeLine; decide, fun p hp => ?_⟩
      exact key _ _ (Int.emod_nonneg _ (by decide)) (Int.lt_trans (Int.emod_lt_of_pos _ (by decide)) (by decide)) (Int.emod_nonneg _ (by decide)) (Int.lt_trans (Int.emod_lt_of_pos _ (by decide)) (by decide)) p hp

end
end My
end

section
set_option Elab.async false
set_option linter.all false
set_option maxRecDepth 100000
set_option maxHeartbeats 2000000
namespace My
open PySem L2
section
variable {P : Program} {w : World} {K : PySem.W.Frag} {mg : Str → Option Value} {base : Heap}
theorem flat1 (l : List Nat) : (l.map fun c => [c]).flatten = l := by
  induction l with
  | nil => rfl
  | cons c r ih => rw [List.map_cons, List.flatten_cons, ih]; rfl
theorem cutV_nn {xs : List V} {a b : Nat} (h1 : a ≤ b) (h2 : b ≤ xs.length) : cutV xs (some (a : Int)) (some (b : Int)) = (xs.drop a).take (b - a) := by
  unfold cutV
  rw [HT.sIx_nat, HT.sIx_nat, Nat.min_eq_left h2, Nat.min_eq_left (show a ≤ xs.length by omega)]
abbrev ones (cs : List Nat) : List (List Nat) := cs.map fun c => [c]
def chunk (r k : Nat) (cs : List Nat) : List (List Nat) := (List.range r).map fun i => (cs.drop (i * k)).take k
def spTexts : Sp := fun vs H Q _ => ∃ (p : Addr) (cs : List Nat) (r k : Nat), vs = [.ref p, .int k] ∧ H p = some (.lst (Ts (ones cs))) ∧ cs.length = r * k ∧ 1 ≤ r ∧ r ≤ 9 ∧ 1 ≤ k ∧ k ≤ 9 ∧
  ∀ (t : Addr) (H' : Hp), Same H H' → H t = none → H' t = some (.tup (Ts (chunk r k cs))) → Q (.ref t) H'
theorem ok_texts (D : DefAt K mg "_law_texts" s_texts ["_law_signs", "_law_columns"]) (n_len : mg "len" = none) (n_range : mg "range" = none) (n_tuple : mg "tuple" = none) : Def P w K mg base "_law_texts" 1 ["_law_signs", "_law_columns"] spTexts := by
  refine D.qok sc_texts (fun vs H Q E h => ?_) (fun f cdv A outer s H vs Q E hr h => ?_)
  · obtain ⟨p, cs, r, k, rfl, _⟩ := h
    rfl
  · obtain ⟨p, cs, r, k, rfl, hp, hl, r1, r9, k1, k9, q⟩ := h
    have hln : (Ts (ones cs)).length = r * k := by rw [List.length_map, List.length_map, hl]
    have hrk : r * k ≤ 81 := Nat.mul_le_mul r9 k9
    refine ⟨_, (qss_one (qs_ret (qe_callTy call_tuple_of (by rfl) n_tuple PyProof.Rows.boot_tuple (qa_cons (qe_comp rfl (CompOk.of sc_texts.nd (by kernel_rfl)) (qi_range3 (by rfl) n_range (qa_cons qe_int (qa_cons (qe_callB call_len_seq (by rfl) n_len PySem.boot_len (qa_cons (qv 0) qa_nil)) (qa_cons (qv 1) qa_nil)))) (fun _ _ _ _ _ => qts_nil) (fun _ _ _ _ _ => (qe_bmK K PySem.F.plainAttrs_str PySem.F.slot_str_join PySem.F.type_str_join (mt_joinK K) (qe_strS [] (by decide +kernel)) (qa_cons (qe_slice (sl_listK K) (qv 1) (qo_some (qv 0)) (qo_some (qe_op op_add (qv 0) (qv 2)))) qa_nil)))) qa_nil)))), ?_⟩
    refine ⟨_, rfl, p, _, rfl, .inl (SqL.of hp), _, rfl, r, k, by rw [hln], r1, r9, k1, k9, fun L hL => ?_⟩
    refine comp_range3 (fun i ys H2 => ys = Ts ((List.range i).map fun i => (cs.drop (i * k)).take k) ∧ H2 L = some (.lst ys) ∧ Same H H2) ⟨rfl, upd_same, Same.upd hL⟩ ?_ ?_
    · rintro i ys H2 hi ⟨rfl, hL2, sm⟩
      have e1 : (0 : Int) + (i : Int) * (k : Int) = ((i * k : Nat) : Int) := by push_cast; omega
      have e2 : (0 : Int) + (i : Int) * (k : Int) + (k : Int) = ((i * k + k : Nat) : Int) := by push_cast; omega
      have hik : i * k + k ≤ r * k := by
        have : (i + 1) * k ≤ r * k := Nat.mul_le_mul_right k hi
        rw [Nat.succ_mul] at this
        exact this
      refine ⟨rfl, _, rfl, _, rfl, _, rfl, _, rfl, _, rfl, _, _, rfl, rfl, _, rfl, p, _, rfl, SqL.of (sm _ _ hp), fun t ht => ?_⟩
      have ec : cutV (Ts (ones cs)) (some ((0 : Int) + (i : Int) * (k : Int))) (some ((0 : Int) + (i : Int) * (k : Int) + (k : Int))) = Ts (ones ((cs.drop (i * k)).take k)) := by
        rw [e2, e1, cutV_nn (by omega) (by rw [hln]; exact hik), Nat.add_sub_cancel_left]
        simp only [Ts, ones, List.map_take, List.map_drop]
      have hlen1 : ((cs.drop (i * k)).take k).length = k := by rw [List.length_take, List.length_drop]; omega
      have s3 := sm.upd' (o := HO.lst (cutV (Ts (ones cs)) (some ((0 : Int) + (i : Int) * (k : Int))) (some ((0 : Int) + (i : Int) * (k : Int) + (k : Int))))) (sm.free ht)
      have nLt : L ≠ t := ne_of_none hL2 ht
      refine ⟨t, ones ((cs.drop (i * k)).take k), rfl, rfl, SqL.of (by rw [upd_same, ec]), by rw [flat1, hlen1]; omega, ?_⟩
      rw [flat1]
      refine ⟨by rw [upd_ne nLt]; exact hL2, by rw [List.length_map, List.length_map, List.length_range]; exact small1000 (by omega), Nxt.mk hi ⟨?_, upd_same, s3.upd' hL⟩⟩
      rw [List.range_succ, List.map_append]
      simp [Ts]
    · rintro ys H2 ⟨rfl, hL2, sm⟩
      refine ⟨L, _, rfl, .inl ⟨SqL.of hL2, fun t ht => ?_⟩⟩
      exact q t _ (sm.upd' (sm.free ht)) (sm.free ht) upd_same
def spNumbers (K : PySem.W.Frag) : Sp := fun vs H Q _ => ∃ (a : Addr) (ns : List Int) (f m : Nat), vs = [.ref a, .int f, .int m] ∧ SqL K H a (ns.map V.int) ∧ ns.length ≤ 63 ∧ f ≤ 10 ∧ m ≤ 81 ∧
  ∀ (p : Addr) (ds : List Int) (H' : Hp), Same H H' → H p = none → H' p = some (.lst (ds.map V.int)) → ds.length = m → Q (.ref p) H'
theorem ok_numbers (D : DefAt K mg "_law_numbers" s_numbers ["_law_script", "_law_first", "_law_many"]) (n_len : mg "len" = none) (n_range : mg "range" = none) (n_min : mg "min" = none) (n_max : mg "max" = none)
    (D_cell_at : Def P w K mg base "_law_cell_at" 1 ["_law_script", "_law_k"] (spCell K)) (D_stream : Def P w K mg base "_law_stream" 1 ["_law_cell", "_law_many"] spStream) : Def P w K mg base "_law_numbers" 2 ["_law_script", "_law_first", "_law_many"] (spNumbers K) := by
  refine D.qok sc_numbers (fun vs H Q E h => ?_) (fun f cdv A outer s H vs Q E hr h => ?_)
  · obtain ⟨a, ns, f, m, rfl, _⟩ := h
    rfl
  · obtain ⟨a, ns, fs, m, rfl, hS, hn, hf, hm, q⟩ := h
    refine ⟨_, (qss_cons (qs_set (i := 3) sc_numbers.nd rfl (Or.inl rfl) (qe_own D_stream (hr.mono (by decide)) rfl (qa_cons (qe_own D_cell_at (hr.mono (by decide)) rfl (qa_cons (qv 0) (qa_cons qe_int qa_nil))) (qa_cons (qv 2) qa_nil)))) (qss_cons (qs_for PassesOwn.never rfl (qi_range1 (by rfl) n_range (qa_cons (qe_callB (call_min2 rfl) (by rfl) n_min PyProof.Rows.boot_min (qa_cons (qv 2) (qa_cons (qe_callB (call_max2 rfl) (by rfl) n_max PyProof.Rows.boot_max (qa_cons qe_int (qa_cons (qe_op op_sub (qe_callB call_len_seq (by rfl) n_len PySem.boot_len (qa_cons (qv 0) qa_nil)) (qv 1)) qa_nil))) qa_nil))) qa_nil)) (qg_name (i := 4) sc_numbers.nd rfl (Or.inl rfl)) (qss_one (qs_asg (qe_ix ix_list (qe_own D_stream (hr.mono (by decide)) rfl (qa_cons (qe_op op_add (qe_ix ix_list (qv 0) (qe_op op_add (qv 1) (qv 4)) (fun _ _ => rfl)) (qe_op op_mul qe_int (qv 4))) (qa_cons qe_int qa_nil))) qe_int (fun _ _ => rfl)) (qg_sub (qv 3) (qv 4) set_list)))) (qss_one (qs_ret (qv 3))))), ?_⟩
    refine ⟨_, rfl, a, ns, 1, rfl, hS, fun v => ?_⟩
    refine ⟨_, rfl, v, m, rfl, by omega, fun p ds H1 s1 hp hp1 hl => ?_⟩
    refine ⟨_, rfl, _, rfl, a, _, rfl, .inl (s1.seq hS), _, rfl, _, _, rfl, rfl, _, _, rfl, _, _, rfl, _, rfl, ?_⟩
    rw [List.length_map]
    have hbd : (if (if (ns.length : Int) - (fs : Int) > 0 then (ns.length : Int) - (fs : Int) else 0) < (m : Int) then (if (ns.length : Int) - (fs : Int) > 0 then (ns.length : Int) - (fs : Int) else 0) else (m : Int)) ≤ m ∧
        0 ≤ (if (if (ns.length : Int) - (fs : Int) > 0 then (ns.length : Int) - (fs : Int) else 0) < (m : Int) then (if (ns.length : Int) - (fs : Int) > 0 then (ns.length : Int) - (fs : Int) else 0) else (m : Int)) ∧
        ∀ i : Nat, (i : Int) < (if (if (ns.length : Int) - (fs : Int) > 0 then (ns.length : Int) - (fs : Int) else 0) < (m : Int) then (if (ns.length : Int) - (fs : Int) > 0 then (ns.length : Int) - (fs : Int) else 0) else (m : Int)) → fs + i < ns.length := by
      refine ⟨?_, ?_, fun i hi => ?_⟩ <;> (split at * <;> split at * <;> omega)
    generalize hN : (if (if (ns.length : Int) - (fs : Int) > 0 then (ns.length : Int) - (fs : Int) else 0) < (m : Int) then (if (ns.length : Int) - (fs : Int) > 0 then (ns.length : Int) - (fs : Int) else 0) else (m : Int)) = N at hbd ⊢
    obtain ⟨b1, b2, b3⟩ := hbd
    refine ⟨by omega, by omega, ?_⟩
    refine for_range (lo := 0) (fun i σ H2 => ∃ (kv : Option V) (ds : List Int), σ = [some (.ref a), some (.int fs), some (.int m), some (.ref p), kv] ∧ Same H H2 ∧ H2 p = some (.lst (ds.map V.int)) ∧ ds.length = m) ⟨none, ds, rfl, s1, hp1, hl⟩ ?_ ?_
    · rintro i σ H2 hi ⟨kv, ds, rfl, sm, hp2, hl2⟩
      have hik : fs + i < ns.length := b3 i (by omega)
      have him : i < m := by omega
      refine ⟨_, rfl, _, rfl, _, rfl, _, _, rfl, rfl, a, _, _, .int ns[fs + i], rfl, rfl, sm.seq hS, ?_, ?_⟩
      · rw [show (fs : Int) + (0 + (i : Int)) = ((fs + i : Nat) : Int) by omega]
        exact atI_nat (by simp [hik])
      refine ⟨_, rfl, _, _, rfl, rfl, .inl ⟨by decide, by decide⟩, _, _, rfl, rfl, _, 1, rfl, by decide, fun p2 ds2 H3 s3 hp3 hp4 hl4 => ?_⟩
      have h0 : 0 < ds2.length := by omega
      refine ⟨p2, _, _, .int ds2[0], rfl, rfl, SqL.of hp4, atI_nat (j := 0) (by simp [h0]), ?_⟩
      refine ⟨_, rfl, _, rfl, p, _, _, i, rfl, rfl, s3 _ _ hp2, ?_, ?_⟩
      · unfold ixN
        rw [List.length_map, hl2, if_pos (by omega), if_pos (by omega)]
        congr 1; omega
      · refine ⟨_, ds.set i ds2[0], rfl, (sm.trans s3).upd' hp, ?_, by rw [List.length_set]; exact hl2⟩
        rw [upd_same, List.map_set]
    · rintro σ H2 ⟨kv, ds, rfl, sm, hp2, hl2⟩
      exact ⟨_, rfl, q p ds H2 sm hp hp2 hl2⟩
structure Blk (r w : Nat) (ls : List (List Nat)) : Prop where
  len : ls.length = r
  wid : ∀ l ∈ ls, l.length = w
theorem chunk_blk {r k : Nat} {cs : List Nat} (h : cs.length = r * k) : Blk r k (chunk r k cs) := by
  refine ⟨by simp [chunk], fun l hl => ?_⟩
  obtain ⟨i, hi, rfl⟩ := List.mem_map.mp hl
  have hi' := List.mem_range.mp hi
  have hik : i * k + k ≤ r * k := by
    have : (i + 1) * k ≤ r * k := Nat.mul_le_mul_right k hi'
    rw [Nat.succ_mul] at this
    exact this
  rw [List.length_take, List.length_drop]; omega
theorem chunk_mem {r k : Nat} {cs : List Nat} {Pc : Nat → Prop} (h : ∀ c ∈ cs, Pc c) : ∀ l ∈ chunk r k cs, ∀ c ∈ l, Pc c := by
  intro l hl c hc
  obtain ⟨i, hi, rfl⟩ := List.mem_map.mp hl
  exact h c (List.mem_of_mem_drop (List.mem_of_mem_take hc))
def MK : List Nat := [46, 50, 51, 52, 98, 99, 100]
def roC (c : Nat) : Prop := c = 46 ∨ sgC c
def mkC (c : Nat) : Prop := c ∈ MK
structure Brd (r w : Nat) (rows marks : List (List Nat)) (i j : Nat) : Prop where
  r1 : 1 ≤ r
  r9 : r ≤ 9
  w1 : 1 ≤ w
  w9 : w ≤ 9
  br : Blk r w rows
  bm : Blk r w marks
  cr : ∀ l ∈ rows, ∀ c ∈ l, roC c
  cm : ∀ l ∈ marks, ∀ c ∈ l, mkC c
  bi : i < r
  bj : j < w
def spMade (K : PySem.W.Frag) : Sp := fun vs H Q _ => ∃ (a : Addr) (ns : List Int) (f : Nat), vs = [.ref a, .int f] ∧ SqL K H a (ns.map V.int) ∧ ns.length ≤ 63 ∧ f ≤ 10 ∧
  ∀ (t pr pm pb : Addr) (r w : Nat) (rows marks : List (List Nat)) (i j : Nat) (H' : Hp), Same H H' → H' t = some (.tup [.ref pr, .ref pm, .ref pb]) → H' pr = some (.tup (Ts rows)) → H' pm = some (.tup (Ts marks)) → H' pb = some (.tup [.int i, .int j]) → Brd r w rows marks i j → Q (.ref t) H'
theorem Ts_snoc (ls : List (List Nat)) (l : List Nat) : Ts ls ++ [V.str (S l)] = Ts (ls ++ [l]) := by simp [Ts]
theorem ones_snoc (cs : List Nat) (c : Nat) : ones cs ++ [[c]] = ones (cs ++ [c]) := by simp [ones]
theorem ok_made (D : DefAt K mg "_law_made" s_made ["_law_script", "_law_first"]) (n_int : mg "int" = none) (D_cell_at : Def P w K mg base "_law_cell_at" 1 ["_law_script", "_law_k"] (spCell K)) (D_size : Def P w K mg base "_law_size" 1 ["_law_cell"] spSize)
    (D_letters : Def P w K mg base "_law_letters" 1 ["_law_cell"] spLetC) (D_numbers : Def P w K mg base "_law_numbers" 2 ["_law_script", "_law_first", "_law_many"] (spNumbers K)) (D_sign : Def P w K mg base "_law_sign" 1 ["_law_number", "_law_letters_here"] spSgn)
    (D_texts : Def P w K mg base "_law_texts" 1 ["_law_signs", "_law_columns"] spTexts) : Def P w K mg base "_law_made" 3 ["_law_script", "_law_first"] (spMade K) := by
  refine D.qok sc_made (fun vs H Q E h => ?_) (fun f cdv A outer s H vs Q E hr h => ?_)
  · obtain ⟨a, ns, f, rfl, _⟩ := h
    rfl
  · obtain ⟨a, ns, fs, rfl, hS, hn, hf, q⟩ := h
    have nd := sc_made.nd
    refine ⟨_, (qss_cons (qs_asg (qe_own D_size (hr.mono (by decide)) rfl (qa_cons (qe_own D_cell_at (hr.mono (by decide)) rfl (qa_cons (qv 0) (qa_cons qe_int qa_nil))) qa_nil)) (qg_tup rfl (qgs_cons (qg_name (i := 2) sc_made.nd rfl (Or.inl rfl)) (qgs_cons (qg_name (i := 3) sc_made.nd rfl (Or.inl rfl)) qgs_nil)))) (qss_cons (qs_set (i := 4) sc_made.nd rfl (Or.inl rfl) (qe_own D_letters (hr.mono (by decide)) rfl (qa_cons (qe_own D_cell_at (hr.mono (by decide)) rfl (qa_cons (qv 0) (qa_cons qe_int qa_nil))) qa_nil))) (qss_cons (qs_set (i := 5) sc_made.nd rfl (Or.inl rfl) (qe_own D_numbers (hr.mono (by decide)) rfl (qa_cons (qv 0) (qa_cons (qv 1) (qa_cons (qe_op op_mul (qv 2) (qv 3)) qa_nil))))) (qss_cons (qs_set (i := 6) sc_made.nd rfl (Or.inl rfl) (qe_ix ix_list (qe_lst (qa_cons qe_int (qa_cons qe_int (qa_cons qe_int (qa_cons qe_int qa_nil))))) (qe_op op_mod (qe_op op_fdiv (qe_own D_cell_at (hr.mono (by decide)) rfl (qa_cons (qv 0) (qa_cons qe_int qa_nil))) qe_int) qe_int) (fun _ _ => rfl))) (qss_cons (qs_set (i := 7) sc_made.nd rfl (Or.inl rfl) (qe_lst qa_nil)) (qss_cons (qs_set (i := 8) sc_made.nd rfl (Or.inl rfl) (qe_lst qa_nil)) (qss_cons (qs_for PassesOwn.never rfl (qi_list (qv 5)) (qg_name (i := 9) sc_made.nd rfl (Or.inl rfl)) (qss_cons (qs_expr (qe_bm PySem.F.plainAttrs_list PySem.F.slot_list_append PySem.F.type_list_append mt_append (qv 7) (qa_cons (qe_ix ix_list (qe_lst (qa_cons (qe_strS [46] (by decide +kernel)) (qa_cons (qe_own D_sign (hr.mono (by decide)) rfl (qa_cons (qe_op op_fdiv (qv 9) qe_int) (qa_cons (qv 4) qa_nil))) qa_nil))) (qe_callTy call_int1 (by rfl) n_int PyProof.Rows.boot_int (qa_cons (qe_cmpR op_eq (qe_op op_mod (qv 9) (qv 6)) qe_int (nomark _)) qa_nil)) (fun _ _ => rfl)) qa_nil))) (qss_one (qs_expr (qe_bm PySem.F.plainAttrs_list PySem.F.slot_list_append PySem.F.type_list_append mt_append (qv 8) (qa_cons (qe_ix ix_S (qe_op op_addS (qe_strS [46, 50, 51, 52, 98, 99, 100] (by decide +kernel)) (qe_op op_mulS (qe_strS [46] (by decide +kernel)) qe_int)) (qe_op op_mod (qe_op op_fdiv (qv 9) qe_int) qe_int) (fun _ _ => rfl)) qa_nil)))))) (qss_cons (qs_set (i := 10) sc_made.nd rfl (Or.inl rfl) (qe_tup (qa_cons (qe_op op_mod (qe_op op_fdiv (qe_own D_cell_at (hr.mono (by decide)) rfl (qa_cons (qv 0) (qa_cons qe_int qa_nil))) qe_int) (qv 2)) (qa_cons (qe_op op_mod (qe_op op_fdiv (qe_own D_cell_at (hr.mono (by decide)) rfl (qa_cons (qv 0) (qa_cons qe_int qa_nil))) qe_int) (qv 3)) qa_nil)))) (qss_one (qs_ret (qe_tup (qa_cons (qe_own D_texts (hr.mono (by decide)) rfl (qa_cons (qv 7) (qa_cons (qv 3) qa_nil))) (qa_cons (qe_own D_texts (hr.mono (by decide)) rfl (qa_cons (qv 8) (qa_cons (qv 3) qa_nil))) (qa_cons (qv 10) qa_nil)))))))))))))), ?_⟩
    refine ⟨_, rfl, a, ns, 0, rfl, hS, fun v0 => ?_⟩
    refine ⟨v0, rfl, fun sp r w H1 s1 hsp hsp1 r1 r9 w1 w9 => ?_⟩
    refine ⟨sp, _, rfl, SqT.of hsp1, rfl, _, _, rfl, _, _, rfl, rfl, ?_⟩
    refine ⟨_, rfl, a, ns, 1, rfl, s1.seq hS, fun v1 => ⟨v1, rfl, fun ls hA => ?_⟩⟩
    have hrw : r * w ≤ 81 := Nat.mul_le_mul r9 w9
    have emul : (r : Int) * (w : Int) = ((r * w : Nat) : Int) := by push_cast; rfl
    refine ⟨_, rfl, _, rfl, _, rfl, _, rfl, _, _, rfl, rfl, .inl ⟨by omega, by omega⟩, a, ns, fs, r * w, by show [V.ref a, V.int (fs : Int), V.int ((r : Int) * (w : Int))] = _; rw [emul], s1.seq hS, hn, hf, hrw, fun pn ds H2 s2 hpn hpn2 hdl => ?_⟩
    have s12 := s1.trans s2
    refine ⟨by show 4 ≤ sizeLine; decide, fun ps hps => ?_⟩
    have s3 := s12.upd' (o := HO.lst [V.int 3, V.int 2, V.int 5, V.int 1000003]) (s12.free hps)
    refine ⟨_, rfl, a, ns, 1, rfl, s3.seq hS, fun v2 => ?_⟩
    refine ⟨_, _, rfl, rfl, ⟨by decide, by decide⟩, _, _, rfl, rfl, (by show (0 : Int) < 4; decide), ?_⟩
    obtain ⟨sh, hsh, hshm⟩ := at_modA (xs := ([V.int 3, V.int 2, V.int 5, V.int 1000003] : List V)) (n := 4) rfl (by decide) (v2 / 5000)
    obtain ⟨sv, rfl, hsv⟩ : ∃ sv : Int, sh = .int sv ∧ 0 < sv := by
      simp only [List.mem_cons, List.not_mem_nil, or_false] at hshm
      rcases hshm with z | z | z | z <;> exact ⟨_, z, by decide⟩
    refine ⟨ps, _, _, _, rfl, rfl, SqL.of upd_same, hsh, ?_⟩
    refine ⟨by show 0 ≤ sizeLine; decide, fun qs hqs => ⟨by show 0 ≤ sizeLine; decide, fun qm hqm => ?_⟩⟩
    have hpn3 : upd H2 ps (HO.lst [V.int 3, V.int 2, V.int 5, V.int 1000003]) pn = some (.lst (ds.map V.int)) := (Same.upd hps) _ _ hpn2
    generalize upd H2 ps (HO.lst [V.int 3, V.int 2, V.int 5, V.int 1000003]) = H3 at s3 hpn3 hqs hqm ⊢
    have s4 := s3.upd' (o := HO.lst []) (s3.free hqs)
    have hq4 : upd H3 qs (HO.lst []) qs = some (.lst []) := upd_same
    have hpn4 : upd H3 qs (HO.lst []) pn = some (.lst (ds.map V.int)) := (Same.upd hqs) _ _ hpn3
    have hqs0 := s3.free hqs
    generalize upd H3 qs (HO.lst []) = H4 at s4 hq4 hpn4 hqm ⊢
    have hqm0 := s4.free hqm
    have nsm : qs ≠ qm := ne_of_none hq4 hqm
    have npm : pn ≠ qm := ne_of_none hpn4 hqm
    have nps : pn ≠ qs := fun z => by rw [z] at hpn3; rw [hqs] at hpn3; cases hpn3
    refine ⟨_, rfl, pn, rfl, ⟨_, SqL.of ((Same.upd hqm) _ _ hpn4)⟩, for_list (xs := ds.map V.int) (fun i σ H5 => ∃ (nv : Option V) (cs ms : List Nat), σ = [some (.ref a), some (.int fs), some (.int r), some (.int w), some (.str (S ls)), some (.ref pn), some (.int sv), some (.ref qs), some (.ref qm), nv, none] ∧
      Same H H5 ∧ H5 pn = some (.lst (ds.map V.int)) ∧ H5 qs = some (.lst (Ts (ones cs))) ∧ H5 qm = some (.lst (Ts (ones ms))) ∧ cs.length = i ∧ ms.length = i ∧ (∀ c ∈ cs, roC c) ∧ ∀ c ∈ ms, mkC c)
      ⟨none, [], [], rfl, s4.upd' hqm0, (Same.upd hqm) _ _ hpn4, (Same.upd hqm) _ _ hq4, upd_same, rfl, rfl, fun c h => by simp at h, fun c h => by simp at h⟩ (fun i σ H5 _ ⟨_, _, _, _, _, h, _⟩ => SqL.of h) ?_ ?_⟩
    · rintro i x σ H5 hi ⟨nv, cs, ms, rfl, s5, hpn5, hqs5, hqm5, lc, lm, ac, am⟩
      obtain ⟨d, hd, e⟩ : ∃ d, ds[i]? = some d ∧ V.int d = x := by
        rw [List.getElem?_map] at hi
        obtain ⟨d, h1, h2⟩ := Option.map_eq_some_iff.mp hi
        exact ⟨d, h1, h2⟩
      subst e
      have hil : i < r * w := by have := (List.getElem?_eq_some_iff.mp hd).1; omega
      refine ⟨_, rfl, .inl ⟨rfl, _, SqL.of hqs5⟩, ?_⟩
      refine ⟨_, rfl, _, _, rfl, rfl, ⟨by decide, by decide⟩, _, rfl, _, ls, rfl, hA, fun c hc => ?_⟩
      refine ⟨by show 2 ≤ sizeLine; decide, fun t ht => ?_⟩
      refine ⟨_, rfl, _, rfl, _, _, rfl, rfl, hsv, rfl, .inr ⟨_, rfl, ?_⟩⟩
      obtain ⟨c2, hc2, hro⟩ : ∃ c2, atI ([V.str (S [46]), V.str (S [c])] : List V) (if decide (V.int (d % sv) = V.int 0) = true then 1 else 0) = some (.str (S [c2])) ∧ roC c2 := by
        by_cases h : decide (V.int (d % sv) = V.int 0) = true
        · rw [if_pos h]; exact ⟨c, rfl, .inr hc⟩
        · rw [if_neg h]; exact ⟨46, rfl, .inl rfl⟩
      refine ⟨t, _, _, _, rfl, rfl, SqL.of upd_same, hc2, ?_⟩
      have nst : qs ≠ t := ne_of_none hqs5 ht
      have nmt : qm ≠ t := ne_of_none hqm5 ht
      have npt : pn ≠ t := ne_of_none hpn5 ht
      refine ⟨qs, _, _, rfl, rfl, by rw [upd_ne nst]; exact hqs5, by rw [List.length_map, List.length_map, lc]; exact small1000 (by omega), ?_⟩
      have s6 : Same H (upd (upd H5 t (HO.lst [V.str (S [46]), V.str (S [c])])) qs (HO.lst (Ts (ones cs) ++ [V.str (S [c2])]))) := (s5.upd' (s5.free ht)).upd' hqs0
      have hqm6 : upd (upd H5 t (HO.lst [V.str (S [46]), V.str (S [c])])) qs (HO.lst (Ts (ones cs) ++ [V.str (S [c2])])) qm = some (.lst (Ts (ones ms))) := by rw [upd_ne nsm.symm, upd_ne nmt]; exact hqm5
      have hpn6 : upd (upd H5 t (HO.lst [V.str (S [46]), V.str (S [c])])) qs (HO.lst (Ts (ones cs) ++ [V.str (S [c2])])) pn = some (.lst (ds.map V.int)) := by rw [upd_ne nps, upd_ne npt]; exact hpn5
      have hqs6 : upd (upd H5 t (HO.lst [V.str (S [46]), V.str (S [c])])) qs (HO.lst (Ts (ones cs) ++ [V.str (S [c2])])) qs = some (.lst (Ts (ones (cs ++ [c2])))) := by rw [upd_same, Ts_snoc, ones_snoc]
      generalize upd (upd H5 t (HO.lst [V.str (S [46]), V.str (S [c])])) qs (HO.lst (Ts (ones cs) ++ [V.str (S [c2])])) = H6 at s6 hqm6 hpn6 hqs6 ⊢
      obtain ⟨mk, hmk, hmkm⟩ := at_modA (xs := ([46, 50, 51, 52, 98, 99, 100] : List Nat) ++ (List.replicate 8 [46]).flatten) (n := 15) (by decide) (by decide) (d / 11)
      have hmkc : mkC mk := by
        have : ∀ x ∈ ([46, 50, 51, 52, 98, 99, 100] : List Nat) ++ (List.replicate 8 [46]).flatten, x ∈ MK := by decide
        exact this mk hmkm
      refine ⟨_, rfl, .inl ⟨rfl, _, SqL.of hqm6⟩, ?_⟩
      refine ⟨[46], 8, rfl, rfl, by decide, by decide, by decide, [46, 50, 51, 52, 98, 99, 100], _, rfl, rfl, by decide, ?_⟩
      refine ⟨_, rfl, _, _, rfl, rfl, ⟨by decide, by decide⟩, _, _, rfl, rfl, (by show (0 : Int) < 15; decide), _, _, mk, rfl, rfl, by decide, hmk, ?_⟩
      refine ⟨qm, _, _, rfl, rfl, hqm6, by rw [List.length_map, List.length_map, lm]; exact small1000 (by omega), ?_⟩
      refine ⟨_, cs ++ [c2], ms ++ [mk], rfl, s6.upd' hqm0, by rw [upd_ne npm]; exact hpn6, by rw [upd_ne nsm]; exact hqs6, by rw [upd_same, Ts_snoc, ones_snoc], by simp [lc], by simp [lm], fun y hy => ?_, fun y hy => ?_⟩
      · rcases List.mem_append.mp hy with z | z
        · exact ac y z
        · rw [List.mem_singleton.mp z]; exact hro
      · rcases List.mem_append.mp hy with z | z
        · exact am y z
        · rw [List.mem_singleton.mp z]; exact hmkc
    · rintro σ H5 ⟨nv, cs, ms, rfl, s5, hpn5, hqs5, hqm5, lc, lm, ac, am⟩
      rw [List.length_map, hdl] at lc lm
      refine ⟨_, rfl, a, ns, 0, rfl, s5.seq hS, fun u1 => ?_⟩
      refine ⟨_, _, rfl, rfl, ⟨by decide, by decide⟩, _, rfl, _, _, rfl, rfl, (by show (0 : Int) < (r : Int); omega), ?_⟩
      refine ⟨_, rfl, a, ns, 0, rfl, s5.seq hS, fun u2 => ?_⟩
      refine ⟨_, _, rfl, rfl, ⟨by decide, by decide⟩, _, rfl, _, _, rfl, rfl, (by show (0 : Int) < (w : Int); omega), by show 2 ≤ sizeLine; decide, fun pb hpb => ?_⟩
      have i0 := Int.emod_nonneg (u1 / 23328) (show (r : Int) ≠ 0 by omega)
      have i1 := Int.emod_lt_of_pos (u1 / 23328) (show (0 : Int) < (r : Int) by omega)
      have j0 := Int.emod_nonneg (u2 / 209952) (show (w : Int) ≠ 0 by omega)
      have j1 := Int.emod_lt_of_pos (u2 / 209952) (show (0 : Int) < (w : Int) by omega)
      obtain ⟨bi, ebi⟩ : ∃ bi : Nat, u1 / 23328 % (r : Int) = bi := ⟨(u1 / 23328 % (r : Int)).toNat, by omega⟩
      obtain ⟨bj, ebj⟩ : ∃ bj : Nat, u2 / 209952 % (w : Int) = bj := ⟨(u2 / 209952 % (w : Int)).toNat, by omega⟩
      have nsb : qs ≠ pb := ne_of_none hqs5 hpb
      have nmb : qm ≠ pb := ne_of_none hqm5 hpb
      refine ⟨_, rfl, _, rfl, qs, cs, r, w, rfl, by rw [upd_ne nsb]; exact hqs5, lc, r1, r9, w1, w9, fun t1 H6 s6 ht1 h16 => ?_⟩
      refine ⟨_, rfl, _, rfl, qm, ms, r, w, rfl, s6 _ _ (by rw [upd_ne nmb]; exact hqm5), lm, r1, r9, w1, w9, fun t2 H7 s7 ht2 h27 => ?_⟩
      refine ⟨_, rfl, by show 3 ≤ sizeLine; decide, fun t ht => ?_⟩
      have hb7 : H7 pb = some (.tup [.int bi, .int bj]) := s7 _ _ (s6 _ _ (by rw [upd_same]; show some (HO.tup [V.int (u1 / 23328 % (r : Int)), V.int (u2 / 209952 % (w : Int))]) = _; rw [ebi, ebj]))
      have s8 : Same H H7 := ((s5.upd' (s5.free hpb)).trans s6).trans s7
      have k8 : Same H7 (upd H7 t (HO.tup [V.ref t1, V.ref t2, V.ref pb])) := Same.upd ht
      exact q t t1 t2 pb r w _ _ bi bj _ (s8.trans k8) upd_same (k8 _ _ (s7 _ _ h16)) (k8 _ _ h27) (k8 _ _ hb7) ⟨r1, r9, w1, w9, chunk_blk lc, chunk_blk lm, chunk_mem ac, chunk_mem am, by omega, by omega⟩

end
end My
end

section
set_option Elab.async false
set_option linter.all false
set_option maxRecDepth 100000
set_option maxHeartbeats 2000000
namespace My
open PySem L2
section
variable {P : Program} {w : World} {K : PySem.W.Frag} {mg : Str → Option Value} {base : Heap}
theorem Ts_at {ls : List (List Nat)} {i : Nat} {l : List Nat} (h : ls[i]? = some l) : (Ts ls)[i]? = some (.str (S l)) := by simp [Ts, h]
theorem Ts_get {ls : List (List Nat)} {i : Nat} {x : V} (h : (Ts ls)[i]? = some x) : ∃ l, ls[i]? = some l ∧ x = .str (S l) := by
  rw [List.getElem?_map] at h
  obtain ⟨l, h1, h2⟩ := Option.map_eq_some_iff.mp h
  exact ⟨l, h1, h2.symm⟩
theorem flat_len {r w : Nat} {ls : List (List Nat)} (h : Blk r w ls) : ls.flatten.length = r * w := by
  rw [List.length_flatten]
  have : ls.map List.length = List.replicate r w := by
    rw [← h.len, List.eq_replicate_iff]
    exact ⟨by simp, fun b hb => by obtain ⟨l, hl, rfl⟩ := List.mem_map.mp hb; exact h.wid l hl⟩
  rw [this, List.sum_replicate_nat]
structure BoardCls (K : PySem.W.Frag) (C : Addr) : Prop where
  cl : Cls K C
  nr : NoAttr K C "rows"
  nm : NoAttr K C "marks"
  nb : NoAttr K C "begin"
structure BoardAt (C : Addr) (H : Hp) (p : Addr) (r w : Nat) (rows marks : List (List Nat)) (i j : Nat) : Prop where
  ex : ∃ dx pr pm pb, H p = some (.ins C dx [("rows", .ref pr), ("marks", .ref pm), ("begin", .ref pb)]) ∧ H pr = some (.tup (Ts rows)) ∧ H pm = some (.tup (Ts marks)) ∧ H pb = some (.tup [.int i, .int j])
  ok : Brd r w rows marks i j
end
end My
end

section
set_option Elab.async false
set_option linter.all false
set_option maxRecDepth 100000
set_option maxHeartbeats 2000000
namespace My
open PySem L2
section
variable {P : Program} {w : World} {K : PySem.W.Frag} {mg : Str → Option Value} {base : Heap}
def NoTy (K : PySem.W.Frag) (T : String) (H : Hp) (x : V) : Prop := ∃ t, TyOf K H x t ∧ PySem.W.kitOne K t (.type T) = some false
theorem TyOf.mv {K : PySem.W.Frag} {H H' : Hp} {x : V} {t : Value} (h : TyOf K H x t) (s : Same H H') : TyOf K H' x t := by
  cases h with
  | non => exact .non
  | bl b => exact .bl b
  | int i => exact .int i
  | str x => exact .str x
  | flt x => exact .flt x
  | lst e => exact .lst (s _ _ e)
  | frz e => exact .frz (s _ _ e)
  | tup e => exact .tup (s _ _ e)
  | dK e => exact .dK (s _ _ e)
  | dT e => exact .dT (s _ _ e)
  | ins e a b c d f => exact .ins (s _ _ e) a b c d f
theorem NoTy.mv {K : PySem.W.Frag} {T : String} {H H' : Hp} {x : V} (h : NoTy K T H x) (s : Same H H') : NoTy K T H' x := let ⟨t, a, b⟩ := h; ⟨t, TyOf.mv a s, b⟩
def spWholeG (K : PySem.W.Frag) : Sp := fun vs H Q _ => (∃ i : Int, vs = [.int i] ∧ Q (.bl true) H) ∨ (∃ b : Bool, vs = [.bl b] ∧ Q (.bl false) H) ∨ ∃ x, vs = [x] ∧ NoTy K "int" H x ∧ Q (.bl false) H
theorem ok_is_wholeG (D : DefAt K mg "is_whole" s_is_whole ["thing"]) (n_int : mg "int" = none) (n_bool : mg "bool" = none) (n_isinstance : mg "isinstance" = none) : Def P w K mg base "is_whole" 1 ["thing"] (spWholeG K) := by
  refine D.qok sc_is_whole (fun vs H Q E h => ?_) (fun f cdv A outer s H vs Q E hr h => ?_)
  · rcases h with ⟨i, rfl, _⟩ | ⟨i, rfl, _⟩ | ⟨i, rfl, _⟩ <;> rfl
  · refine ⟨_, (qss_one (qs_ret (qe_and (qe_callB call_isinst (by rfl) n_isinstance PyProof.Rows.boot_isinstance (qa_cons (qv 0) (qa_cons (qe_bltn (v := .ty "int") (by rfl) n_int PyProof.Rows.boot_int rfl) qa_nil))) (qe_one (qe_not (qe_callB call_isinst (by rfl) n_isinstance PyProof.Rows.boot_isinstance (qa_cons (qv 0) (qa_cons (qe_bltn (v := .ty "bool") (by rfl) n_bool PyProof.Rows.boot_bool rfl) qa_nil)))))))), ?_⟩
    rcases h with ⟨i, rfl, q⟩ | ⟨b, rfl, q⟩ | ⟨x, rfl, ⟨t, ty, k⟩, q⟩
    · exact ⟨_, rfl, _, _, _, true, rfl, .int _, (by kernel_rfl), true, rfl, iteT ⟨_, rfl, _, _, _, false, rfl, .int _, (by kernel_rfl), false, rfl, q⟩⟩
    · exact ⟨_, rfl, _, _, _, true, rfl, .bl _, (by kernel_rfl), true, rfl, iteT ⟨_, rfl, _, _, _, true, rfl, .bl _, (by kernel_rfl), true, rfl, q⟩⟩
    · exact ⟨_, rfl, _, _, _, false, rfl, ty, k, false, rfl, iteF q⟩
structure Els (K : PySem.W.Frag) (H : Hp) (xs : List V) (es : List (Option (List Nat))) : Prop where
  len : xs.length = es.length
  txt : ∀ (i : Nat) (l : List Nat), es[i]? = some (some l) → xs[i]? = some (.str (S l))
  non : ∀ (i : Nat) (x : V), es[i]? = some none → xs[i]? = some x → NoTy K "str" H x
theorem Els.mv {H H' : Hp} {xs : List V} {es : List (Option (List Nat))} (h : Els K H xs es) (s : Same H H') : Els K H' xs es := ⟨h.len, h.txt, fun i x a b => (h.non i x a b).mv s⟩
theorem Els.ofT {H : Hp} (ls : List (List Nat)) : Els K H (Ts ls) (ls.map some) := ⟨by simp, fun i l h => by
  rw [List.getElem?_map] at h
  obtain ⟨l', h1, h2⟩ := Option.map_eq_some_iff.mp h
  cases h2
  exact Ts_at h1, fun i x h => by
  rw [List.getElem?_map] at h
  obtain ⟨l', _, h2⟩ := Option.map_eq_some_iff.mp h
  cases h2⟩
theorem Els.toT {H : Hp} {xs : List V} {ls : List (List Nat)} (h : Els K H xs (ls.map some)) : xs = Ts ls := by
  refine List.ext_getElem? fun i => ?_
  cases e : ls[i]? with
  | none =>
    have : xs.length ≤ i := by rw [h.len, List.length_map]; exact List.getElem?_eq_none_iff.mp e
    rw [List.getElem?_eq_none this, List.getElem?_map, e]; rfl
  | some l => rw [h.txt i l (by rw [List.getElem?_map, e]; rfl), Ts_at e]
def wdE (es : List (Option (List Nat))) : Nat := ((es.head?.getD none).getD []).length
def blkE (es : List (Option (List Nat))) : Bool := decide (1 ≤ es.length ∧ es.length ≤ 9) && es.all (·.isSome) && decide (1 ≤ wdE es ∧ wdE es ≤ 9) && es.all fun e => decide ((e.getD []).length = wdE es)
def spBlockG (K : PySem.W.Frag) : Sp := fun vs H Q _ => (∃ x, vs = [x] ∧ NoTy K "tuple" H x ∧ Q (.bl false) H) ∨
  ∃ (p : Addr) (xs : List V) (es : List (Option (List Nat))), vs = [.ref p] ∧ H p = some (.tup xs) ∧ Els K H xs es ∧ es.length ≤ 100 ∧ (∀ l, some l ∈ es → l.length ≤ 100) ∧ ∀ H', Same H H' → Q (.bl (blkE es)) H'
theorem all_map {α : Type} (l : List α) (f : α → Bool) : ((l.map f).all id) = l.all f := by induction l with | nil => rfl | cons a l ih => simp [ih]
theorem take_snoc {α β : Type} {l : List α} {i : Nat} {a : α} (h : l[i]? = some a) (f : α → β) : (l.take (i + 1)).map f = (l.take i).map f ++ [f a] := by
  rw [List.take_add_one, h, List.map_append]; rfl
theorem all_some : ∀ {es : List (Option (List Nat))}, es.all (·.isSome) = true → ∃ ls : List (List Nat), es = ls.map some
  | [], _ => ⟨[], rfl⟩
  | none :: es, h => by simp at h
  | some l :: es, h => by
    rw [List.all_cons, Bool.and_eq_true] at h
    obtain ⟨ls, e⟩ := all_some h.2
    exact ⟨l :: ls, by rw [e]; rfl⟩
theorem ok_is_blockG (D : DefAt K mg "is_block" s_is_block ["thing"]) (n_len : mg "len" = none) (n_tuple : mg "tuple" = none) (n_str : mg "str" = none) (n_all : mg "all" = none) (n_isinstance : mg "isinstance" = none) (g_MOST : ∃ t, mg "MOST" = some (.int 9 t)) : Def P w K mg base "is_block" 1 ["thing"] (spBlockG K) := by
  refine D.qok sc_is_block (fun vs H Q E h => ?_) (fun f cdv A outer s H vs Q E hr h => ?_)
  · rcases h with ⟨x, rfl, _⟩ | ⟨p, xs, es, rfl, _⟩ <;> rfl
  · refine ⟨_, (qss_cons (qs_if (QW.qt (qw_or (qt_not (qt_val (qe_callB call_isinst (by rfl) n_isinstance PyProof.Rows.boot_isinstance (qa_cons (qv 0) (qa_cons (qe_bltn (v := .ty "tuple") (by rfl) n_tuple PyProof.Rows.boot_tuple rfl) qa_nil))))) (qw_or1 (qt_not (qt_chain op_le op_le qe_int (qe_callB call_len_seq (by rfl) n_len PySem.boot_len (qa_cons (qv 0) qa_nil)) (qe_gI (by rfl) g_MOST)))))) (qss_one (qs_ret qe_bl)) qss_nil) (qss_cons (qs_if (qt_not (qt_val (qe_callB (call_all rfl) (by rfl) n_all boot_allX (qa_cons (qe_comp rfl (CompOk.of sc_is_block.nd (by kernel_rfl)) (qi_tup (qv 0)) (fun _ _ _ _ _ => qts_nil) (fun _ _ _ _ _ => (qe_callB (call_isinstK K) (by rfl) n_isinstance PyProof.Rows.boot_isinstance (qa_cons (qv 0) (qa_cons (qe_bltn (v := .ty "str") (by rfl) n_str PyProof.Rows.boot_str rfl) qa_nil))))) qa_nil)))) (qss_one (qs_ret qe_bl)) qss_nil) (qss_cons (qs_set (i := 1) sc_is_block.nd rfl (Or.inr rfl) (qe_callB call_lenS (by rfl) n_len PySem.boot_len (qa_cons (qe_ix ix_tup (qv 0) qe_int (fun _ _ => rfl)) qa_nil))) (qss_one (qs_ret (qe_and (qe_chain op_le op_le qe_int (qv 1) (qe_gI (by rfl) g_MOST)) (qe_one (qe_callB (call_all rfl) (by rfl) n_all boot_allX (qa_cons (qe_comp rfl (CompOk.of sc_is_block.nd (by kernel_rfl)) (qi_tup (qv 0)) (fun _ _ _ _ _ => qts_nil) (fun _ _ _ _ _ => (qe_cmpR op_eq (qe_callB call_lenS (by rfl) n_len PySem.boot_len (qa_cons (qv 0) qa_nil)) (qv 2) (nomark _)))) qa_nil))))))))), ?_⟩
    rcases h with ⟨x, rfl, ⟨t, ty, k⟩, q⟩ | ⟨p, xs, es, rfl, hp, he, h100, hl100, q⟩
    · exact ⟨_, rfl, _, _, _, false, rfl, ty, k, _, rfl, iteT q⟩
    · have hlen := he.len
      refine ⟨_, rfl, _, _, _, true, rfl, .tup hp, (by kernel_rfl), _, rfl, iteF ?_⟩
      have F : ¬ blkE es = true → ∀ H', Same H H' → Q (.bl false) H' := fun z H' s' => by
        have := q H' s'
        rw [Bool.not_eq_true _ |>.mp z] at this; exact this
      refine ⟨_, rfl, p, _, rfl, .inr (SqT.of hp), _, _, rfl, rfl, ?_⟩
      rw [hlen]
      by_cases h1 : 1 ≤ es.length
      · refine ⟨true, by simp; omega, iteT ⟨_, _, rfl, rfl, ?_⟩⟩
        by_cases h9 : es.length ≤ 9
        · refine ⟨true, by simp; omega, iteF ?_⟩
          refine ⟨_, rfl, p, rfl, ⟨_, SqT.of hp⟩, fun L hL => comp_tup (xs := xs) (fun i ys H2 => ys = ((es.take i).map (·.isSome)).map V.bl ∧ H2 L = some (.lst ys) ∧ Same H H2) ⟨rfl, upd_same, Same.upd hL⟩ (fun i ys H2 _ h => SqT.of (h.2.2 _ _ hp)) ?_ ?_⟩
          · rintro i x ys H2 hi ⟨rfl, hL2, sm⟩
            have hil : i < xs.length := (List.getElem?_eq_some_iff.mp hi).1
            have hie : i < es.length := by omega
            have hz : (((es.take i).map (·.isSome)).map V.bl).length < sizeLine := by rw [List.length_map, List.length_map, List.length_take]; exact small1000 (by omega)
            cases e : es[i]? with
            | none => rw [List.getElem?_eq_getElem hie] at e; cases e
            | some o =>
              cases o with
              | some l =>
                rw [he.txt i l e] at hi
                cases hi
                exact ⟨_, rfl, _, _, _, true, rfl, .str _, (by kernel_rfl), hL2, hz, Nxt.mk hil ⟨by rw [take_snoc e, List.map_append]; rfl, upd_same, sm.upd' hL⟩⟩
              | none =>
                obtain ⟨t, ty, k⟩ := he.non i x e hi
                exact ⟨_, rfl, _, _, _, false, rfl, TyOf.mv ty sm, k, hL2, hz, Nxt.mk hil ⟨by rw [take_snoc e, List.map_append]; rfl, upd_same, sm.upd' hL⟩⟩
          · rintro ys H2 ⟨rfl, hL2, sm⟩
            refine ⟨L, _, rfl, SqL.of hL2, ?_⟩
            rw [hlen, List.take_length, all_map]
            refine ⟨_, rfl, ?_⟩
            cases ha : es.all (·.isSome) with
            | false => exact iteT (F (by unfold blkE; rw [ha]; simp) H2 sm)
            | true =>
              refine iteF ?_
              obtain ⟨ls, rfl⟩ := all_some ha
              obtain rfl := he.toT
              rw [List.length_map] at h1 h9
              have h0 : 0 < ls.length := by omega
              have hw0 : wdE (ls.map some) = ls[0].length := by
                unfold wdE
                rw [List.head?_eq_getElem?, List.getElem?_map, List.getElem?_eq_getElem h0]; rfl
              have hl0 : ls[0].length ≤ 100 := hl100 _ (List.mem_map.mpr ⟨_, List.getElem_mem h0, rfl⟩)
              refine ⟨_, rfl, p, _, _, .str (S ls[0]), rfl, rfl, SqT.of (sm _ _ hp), atI_nat (j := 0) (Ts_at (by simp [h0])), _, rfl, Nat.le_of_lt (small1000 (by omega)), ?_⟩
              refine ⟨_, rfl, _, _, rfl, rfl, ?_⟩
              by_cases w1 : 1 ≤ ls[0].length
              · refine ⟨true, by simp; omega, iteT ⟨_, _, rfl, rfl, ?_⟩⟩
                by_cases w9 : ls[0].length ≤ 9
                · refine ⟨true, by simp; omega, iteT ?_⟩
                  refine ⟨_, rfl, p, rfl, ⟨_, SqT.of (sm _ _ hp)⟩, fun L2 hL3 => comp_tup (xs := Ts ls) (fun i ys H3 => ys = ((ls.take i).map fun l => decide (V.int (l.length : Nat) = V.int (ls[0].length : Nat))).map V.bl ∧ H3 L2 = some (.lst ys) ∧ Same H H3) ⟨rfl, upd_same, sm.upd' (sm.free hL3)⟩ (fun i ys H2 _ h => SqT.of (h.2.2 _ _ hp)) ?_ ?_⟩
                  · rintro i x ys H3 hi ⟨rfl, hL4, sm3⟩
                    obtain ⟨l, hl, rfl⟩ := Ts_get hi
                    have hil : i < (Ts ls).length := (List.getElem?_eq_some_iff.mp hi).1
                    have hll : l.length ≤ 100 := hl100 l (List.mem_map.mpr ⟨l, List.mem_of_getElem? hl, rfl⟩)
                    have hi9 : i < ls.length := by rw [List.length_map] at hil; exact hil
                    refine ⟨_, rfl, _, rfl, Nat.le_of_lt (small1000 (by omega)), _, rfl, rfl, hL4, ?_, Nxt.mk hil ⟨?_, upd_same, sm3.upd' (sm.free hL3)⟩⟩
                    · rw [List.length_map, List.length_map, List.length_take]; exact small1000 (by omega)
                    · rw [take_snoc hl, List.map_append]; rfl
                  · rintro ys H3 ⟨rfl, hL4, sm3⟩
                    refine ⟨L2, _, rfl, SqL.of hL4, ?_⟩
                    rw [List.length_map, List.take_length, all_map]
                    have e : blkE (ls.map some) = ls.all fun l => decide (V.int (l.length : Nat) = V.int (ls[0].length : Nat)) := by
                      unfold blkE
                      rw [hw0, ha, decide_eq_true (show 1 ≤ (ls.map some).length ∧ (ls.map some).length ≤ 9 by rw [List.length_map]; omega), decide_eq_true (show 1 ≤ ls[0].length ∧ ls[0].length ≤ 9 by omega), List.all_map]
                      simp only [Bool.true_and]
                      congr 1
                      funext l
                      show decide (l.length = ls[0].length) = _
                      rw [dec_int]
                      by_cases z : l.length = ls[0].length
                      · rw [decide_eq_true z, z]; simp
                      · rw [decide_eq_false z, eq_comm, beq_eq_false_iff_ne]; omega
                    rw [← e]
                    exact q H3 sm3
                · refine ⟨false, by simp; omega, iteF ?_⟩
                  exact F (by unfold blkE; rw [hw0, decide_eq_false (show ¬ (1 ≤ ls[0].length ∧ ls[0].length ≤ 9) by omega)]; simp) H2 sm
              · refine ⟨false, by simp; omega, iteF ⟨_, rfl, iteF ?_⟩⟩
                exact F (by unfold blkE; rw [hw0, decide_eq_false (show ¬ (1 ≤ ls[0].length ∧ ls[0].length ≤ 9) by omega)]; simp) H2 sm
        · refine ⟨false, by simp; omega, iteT ?_⟩
          exact F (by unfold blkE; simp; omega) H (Same.refl _)
      · refine ⟨false, by simp; omega, iteF ⟨_, rfl, iteT ?_⟩⟩
        exact F (by unfold blkE; simp; omega) H (Same.refl _)

end
end My
end

section
set_option Elab.async false
set_option linter.all false
set_option maxRecDepth 100000
set_option maxHeartbeats 2000000
namespace My
open PySem L2
section
variable {P : Program} {w : World} {K : PySem.W.Frag} {mg : Str → Option Value} {base : Heap}
theorem blkE_blk {es : List (Option (List Nat))} (h : blkE es = true) : ∃ (ls : List (List Nat)) (w : Nat), es = ls.map some ∧ Blk ls.length w ls ∧ 1 ≤ ls.length ∧ ls.length ≤ 9 ∧ 1 ≤ w ∧ w ≤ 9 ∧ wdE es = w := by
  unfold blkE at h
  simp only [Bool.and_eq_true, decide_eq_true_eq] at h
  obtain ⟨⟨⟨⟨a1, a2⟩, a3⟩, a4, a5⟩, a6⟩ := h
  obtain ⟨ls, rfl⟩ := all_some a3
  rw [List.length_map] at a1 a2
  refine ⟨ls, wdE (ls.map some), rfl, ⟨rfl, fun l hl => ?_⟩, a1, a2, a4, a5, rfl⟩
  rw [List.all_map, List.all_eq_true] at a6
  have := a6 l hl
  exact of_decide_eq_true this
def roB (c : Nat) : Bool := decide ([c] = [46]) || sgB [c]
def mkB (c : Nat) : Bool := decide (c ∈ MK)
def flE (es : List (Option (List Nat))) : List Nat := (es.map (·.getD [])).flatten
theorem flE_T (ls : List (List Nat)) : flE (ls.map some) = ls.flatten := by unfold flE; rw [List.map_map]; congr 1; exact (List.map_congr_left fun l _ => rfl).trans (List.map_id ls)
inductive ThD (K : PySem.W.Frag) (H : Hp) : V → Option (List (Option (List Nat))) → Prop
  | no {x : V} (h : NoTy K "tuple" H x) : ThD K H x none
  | tup {p : Addr} {xs : List V} {es : List (Option (List Nat))} (h : H p = some (.tup xs)) (he : Els K H xs es) (h1 : es.length ≤ 100) (h2 : ∀ l, some l ∈ es → l.length ≤ 100) : ThD K H (.ref p) (some es)
theorem ThD.mv {H H' : Hp} {x : V} {o : Option (List (Option (List Nat)))} (h : ThD K H x o) (s : Same H H') : ThD K H' x o := by
  cases h with
  | no h => exact .no (h.mv s)
  | tup h he h1 h2 => exact .tup (s _ _ h) (he.mv s) h1 h2
def rowsE (o : Option (List (Option (List Nat)))) : Bool := match o with | none => false | some es => blkE es && (flE es).all roB
def marksE (o : Option (List (Option (List Nat)))) : Bool := match o with | none => false | some es => blkE es && (flE es).all mkB
def spRowsG (K : PySem.W.Frag) : Sp := fun vs H Q _ => ∃ x o, vs = [x] ∧ ThD K H x o ∧ ∀ H', Same H H' → Q (.bl (rowsE o)) H'
def spMarksG (K : PySem.W.Frag) : Sp := fun vs H Q _ => ∃ x o, vs = [x] ∧ ThD K H x o ∧ ∀ H', Same H H' → Q (.bl (marksE o)) H'
theorem ok_are_rowsG (D : DefAt K mg "are_rows" s_are_rows ["thing"]) (n_all : mg "all" = none) (g_FREE : ∃ t, mg "FREE" = some (.str (S [46]) t)) (D_is_block : Def P w K mg base "is_block" 1 ["thing"] (spBlockG K)) (D_is_sign : Def P w K mg base "is_sign" 1 ["thing"] (spSign K)) : Def P w K mg base "are_rows" 2 ["thing"] (spRowsG K) := by
  refine D.qok sc_are_rows (fun vs H Q E h => ?_) (fun f cdv A outer s H vs Q E hr h => ?_)
  · obtain ⟨x, o, rfl, _⟩ := h
    rfl
  · obtain ⟨x, o, rfl, hT, q⟩ := h
    refine ⟨_, (qss_one (qs_ret (qe_and (qe_own D_is_block (hr.mono (by decide)) rfl (qa_cons (qv 0) qa_nil)) (qe_one (qe_callB (call_all rfl) (by rfl) n_all boot_allX (qa_cons (qe_comp rfl (CompOk.of sc_are_rows.nd (by kernel_rfl)) (qi_str (qe_bm PySem.F.plainAttrs_str PySem.F.slot_str_join PySem.F.type_str_join mt_joinT (qe_strS [] (by decide +kernel)) (qa_cons (qv 0) qa_nil))) (fun _ _ _ _ _ => qts_nil) (fun _ _ _ _ _ => (qe_or (qe_cmpR op_eqS (qv 0) (qe_gS (by rfl) g_FREE) (nomark _)) (qe_one (qe_own D_is_sign (hr.mono (by decide)) rfl (qa_cons (qv 0) qa_nil)))))) qa_nil)))))), ?_⟩
    cases hT with
    | no h => exact ⟨_, rfl, .inl ⟨x, rfl, h, false, rfl, iteF (q H (Same.refl _))⟩⟩
    | @tup p xs es hp he h1 h2 =>
      refine ⟨_, rfl, .inr ⟨p, xs, es, rfl, hp, he, h1, h2, fun H1 s1 => ⟨_, rfl, ?_⟩⟩⟩
      cases hb : blkE es with
      | false =>
        refine iteF ?_
        have := q H1 s1
        rw [show rowsE (some es) = false by unfold rowsE; simp only; rw [hb]; rfl] at this
        exact this
      | true =>
        obtain ⟨ls, w, rfl, hB, r1, r9, w1, w9, _⟩ := blkE_blk hb
        obtain rfl := he.toT
        have hrw : ls.length * w ≤ 81 := Nat.mul_le_mul r9 w9
        have hfl := flat_len hB
        refine iteT ⟨rfl, _, rfl, p, ls, rfl, rfl, SqT.of (s1 _ _ hp), by omega, _, rfl, fun L hL => ?_⟩
        refine comp_str (fun i ys H2 => ys = ((ls.flatten.take i).map roB).map V.bl ∧ H2 L = some (.lst ys) ∧ Same H H2) ⟨rfl, upd_same, s1.upd' (s1.free hL)⟩ ?_ ?_
        · rintro i c ys H2 hi ⟨rfl, hL2, sm⟩
          have hil : i < ls.flatten.length := (List.getElem?_eq_some_iff.mp hi).1
          have hz : (((ls.flatten.take i).map roB).map V.bl).length < sizeLine := by rw [List.length_map, List.length_map, List.length_take]; exact small1000 (by omega)
          have fin : ∀ b, roB c = b → H2 L = some (.lst (((ls.flatten.take i).map roB).map V.bl)) ∧ (((ls.flatten.take i).map roB).map V.bl).length < sizeLine ∧ Nxt ls.flatten.length i ((((ls.flatten.take i).map roB).map V.bl) ++ [V.bl b] = ((ls.flatten.take (i + 1)).map roB).map V.bl ∧ upd H2 L (.lst ((((ls.flatten.take i).map roB).map V.bl) ++ [V.bl b])) L = some (.lst ((((ls.flatten.take i).map roB).map V.bl) ++ [V.bl b])) ∧ Same H (upd H2 L (.lst ((((ls.flatten.take i).map roB).map V.bl) ++ [V.bl b])))) :=
            fun b e => ⟨hL2, hz, Nxt.mk hil ⟨by rw [take_snoc hi, List.map_append, e]; rfl, upd_same, sm.upd' (s1.free hL)⟩⟩
          refine ⟨_, rfl, [c], [46], rfl, rfl, _, rfl, ?_⟩
          by_cases h46 : [c] = [46]
          · rw [decide_eq_true h46]
            exact iteT (fin true (by unfold roB; rw [decide_eq_true h46]; rfl))
          · rw [decide_eq_false h46]
            exact iteF ⟨_, rfl, .inr ⟨[c], rfl, by show 1 ≤ 1000; decide, fin _ (by unfold roB; rw [decide_eq_false h46]; rfl)⟩⟩
        · rintro ys H2 ⟨rfl, hL2, sm⟩
          refine ⟨L, _, rfl, SqL.of hL2, ?_⟩
          rw [List.take_length, all_map]
          have := q H2 sm
          rw [show rowsE (some (ls.map some)) = ls.flatten.all roB by unfold rowsE; simp only; rw [hb, flE_T]; rfl] at this
          exact this
theorem ok_are_marksG (D : DefAt K mg "are_marks" s_are_marks ["thing"]) (n_all : mg "all" = none) (g_MARKS : ∃ t, mg "MARKS" = some (.str (S MK) t)) (D_is_block : Def P w K mg base "is_block" 1 ["thing"] (spBlockG K)) : Def P w K mg base "are_marks" 2 ["thing"] (spMarksG K) := by
  refine D.qok sc_are_marks (fun vs H Q E h => ?_) (fun f cdv A outer s H vs Q E hr h => ?_)
  · obtain ⟨x, o, rfl, _⟩ := h
    rfl
  · obtain ⟨x, o, rfl, hT, q⟩ := h
    refine ⟨_, (qss_one (qs_ret (qe_and (qe_own D_is_block (hr.mono (by decide)) rfl (qa_cons (qv 0) qa_nil)) (qe_one (qe_callB (call_all rfl) (by rfl) n_all boot_allX (qa_cons (qe_comp rfl (CompOk.of sc_are_marks.nd (by kernel_rfl)) (qi_str (qe_bm PySem.F.plainAttrs_str PySem.F.slot_str_join PySem.F.type_str_join mt_joinT (qe_strS [] (by decide +kernel)) (qa_cons (qv 0) qa_nil))) (fun _ _ _ _ _ => qts_nil) (fun _ _ _ _ _ => (qe_cmpR op_inS (qv 0) (qe_gS (by rfl) g_MARKS) rfl))) qa_nil)))))), ?_⟩
    cases hT with
    | no h => exact ⟨_, rfl, .inl ⟨x, rfl, h, false, rfl, iteF (q H (Same.refl _))⟩⟩
    | @tup p xs es hp he h1 h2 =>
      refine ⟨_, rfl, .inr ⟨p, xs, es, rfl, hp, he, h1, h2, fun H1 s1 => ⟨_, rfl, ?_⟩⟩⟩
      cases hb : blkE es with
      | false =>
        refine iteF ?_
        have := q H1 s1
        rw [show marksE (some es) = false by unfold marksE; simp only; rw [hb]; rfl] at this
        exact this
      | true =>
        obtain ⟨ls, w, rfl, hB, r1, r9, w1, w9, _⟩ := blkE_blk hb
        obtain rfl := he.toT
        have hrw : ls.length * w ≤ 81 := Nat.mul_le_mul r9 w9
        have hfl := flat_len hB
        refine iteT ⟨rfl, _, rfl, p, ls, rfl, rfl, SqT.of (s1 _ _ hp), by omega, _, rfl, fun L hL => ?_⟩
        refine comp_str (fun i ys H2 => ys = ((ls.flatten.take i).map mkB).map V.bl ∧ H2 L = some (.lst ys) ∧ Same H H2) ⟨rfl, upd_same, s1.upd' (s1.free hL)⟩ ?_ ?_
        · rintro i c ys H2 hi ⟨rfl, hL2, sm⟩
          have hil : i < ls.flatten.length := (List.getElem?_eq_some_iff.mp hi).1
          refine ⟨_, rfl, c, MK, rfl, rfl, hL2, by rw [List.length_map, List.length_map, List.length_take]; exact small1000 (by omega), Nxt.mk hil ⟨?_, upd_same, sm.upd' (s1.free hL)⟩⟩
          rw [take_snoc hi, List.map_append]; rfl
        · rintro ys H2 ⟨rfl, hL2, sm⟩
          refine ⟨L, _, rfl, SqL.of hL2, ?_⟩
          rw [List.take_length, all_map]
          have := q H2 sm
          rw [show marksE (some (ls.map some)) = ls.flatten.all mkB by unfold marksE; simp only; rw [hb, flE_T]; rfl] at this
          exact this

end
end My
end

section
set_option Elab.async false
set_option linter.all false
set_option maxRecDepth 100000
set_option maxHeartbeats 2000000
namespace My
open PySem L2
section
variable {P : Program} {w : World} {K : PySem.W.Frag} {mg : Str → Option Value} {base : Heap}
inductive WhD (K : PySem.W.Frag) (H : Hp) : V → Option Int → Prop
  | int (i : Int) : WhD K H (.int i) (some i)
  | bl (b : Bool) : WhD K H (.bl b) none
  | no {x : V} (h : NoTy K "int" H x) : WhD K H x none
theorem WhD.mv {H H' : Hp} {x : V} {o : Option Int} (h : WhD K H x o) (s : Same H H') : WhD K H' x o := by
  cases h with
  | int i => exact .int i
  | bl b => exact .bl b
  | no h => exact .no (h.mv s)
def cellB (r w : Nat) (oi oj : Option Int) : Bool := match oi, oj with | some i, some j => decide (0 ≤ i ∧ i < r ∧ 0 ≤ j ∧ j < w) | _, _ => false
def spCellG (K : PySem.W.Frag) : Sp := fun vs H Q _ => ∃ (p : Addr) (ls : List (List Nat)) (r w : Nat) (x y : V) (oi oj : Option Int), vs = [.ref p, x, y] ∧ H p = some (.tup (Ts ls)) ∧ Blk r w ls ∧ 1 ≤ r ∧ r ≤ 9 ∧ w ≤ 9 ∧ WhD K H x oi ∧ WhD K H y oj ∧ Q (.bl (cellB r w oi oj)) H
theorem WhD.sp {H : Hp} {x : V} {o : Option Int} {Q : VK} {E : XK} (h : WhD K H x o) (q : Q (.bl o.isSome) H) : spWholeG K [x] H Q E := by
  cases h with
  | int i => exact .inl ⟨i, rfl, q⟩
  | bl b => exact .inr (.inl ⟨b, rfl, q⟩)
  | no h => exact .inr (.inr ⟨x, rfl, h, q⟩)
theorem ok_is_cell_ofG (D : DefAt K mg "is_cell_of" s_is_cell_of ["rows", "row", "column"]) (n_len : mg "len" = none) (D_is_whole : Def P w K mg base "is_whole" 1 ["thing"] (spWholeG K)) : Def P w K mg base "is_cell_of" 2 ["rows", "row", "column"] (spCellG K) := by
  refine D.qok sc_is_cell_of (fun vs H Q E h => ?_) (fun f cdv A outer s H vs Q E hr h => ?_)
  · obtain ⟨p, ls, r, w, x, y, oi, oj, rfl, _⟩ := h
    rfl
  · obtain ⟨p, ls, r, w, x, y, oi, oj, rfl, hp, hb, r1, r9, w9, hx, hy, q⟩ := h
    have hln : (Ts ls).length = r := by rw [List.length_map, hb.len]
    have h0 : 0 < ls.length := by rw [hb.len]; omega
    have hw0 : ls[0].length = w := hb.wid _ (List.getElem_mem _)
    refine ⟨_, (qss_cons (qs_if (QW.qt (qw_or (qt_not (qt_val (qe_own D_is_whole (hr.mono (by decide)) rfl (qa_cons (qv 1) qa_nil)))) (qw_or1 (qt_not (qt_val (qe_own D_is_whole (hr.mono (by decide)) rfl (qa_cons (qv 2) qa_nil))))))) (qss_one (qs_ret qe_bl)) qss_nil) (qss_one (qs_ret (qe_and (qe_chain op_le op_lt qe_int (qv 1) (qe_callB call_len_seq (by rfl) n_len PySem.boot_len (qa_cons (qv 0) qa_nil))) (qe_one (qe_chain op_le op_lt qe_int (qv 2) (qe_callB call_lenS (by rfl) n_len PySem.boot_len (qa_cons (qe_ix ix_tup (qv 0) qe_int (fun _ _ => rfl)) qa_nil)))))))), ?_⟩
    refine ⟨_, rfl, ?_⟩
    dsimp only [tNil, tCons]
    refine WhD.sp hx ⟨_, rfl, ?_⟩
    cases hx with
    | bl b => exact iteT q
    | no h => exact iteT q
    | int i =>
      refine iteF ⟨_, rfl, ?_⟩
      dsimp only [tNil, tCons]
      refine WhD.sp hy ⟨_, rfl, ?_⟩
      cases hy with
      | bl b => exact iteT q
      | no h => exact iteT q
      | int j =>
        refine iteF ?_
        have q : Q (.bl (decide (0 ≤ i ∧ i < (r : Int) ∧ 0 ≤ j ∧ j < (w : Int)))) H := q
        refine ⟨_, rfl, _, _, rfl, rfl, _, rfl, ?_⟩
        by_cases h1 : 0 ≤ i
        · rw [decide_eq_true h1]
          refine iteT ⟨_, rfl, p, _, rfl, .inr (SqT.of hp), _, _, rfl, rfl, _, rfl, ?_⟩
          rw [hln]
          by_cases h2 : i < (r : Int)
          · rw [decide_eq_true h2]
            refine iteT ⟨_, rfl, _, _, rfl, rfl, _, rfl, ?_⟩
            by_cases h3 : 0 ≤ j
            · rw [decide_eq_true h3]
              refine iteT ⟨_, rfl, p, _, _, .str (S ls[0]), rfl, rfl, SqT.of hp, atI_nat (j := 0) (Ts_at (by simp [h0])), _, rfl, Nat.le_of_lt (small1000 (by omega)), _, _, rfl, rfl, ?_⟩
              rw [hw0]
              simpa [h1, h2, h3] using q
            · rw [decide_eq_false h3]
              refine iteF ?_
              simpa [h1, h2, h3] using q
          · rw [decide_eq_false h2]
            refine iteF ?_
            simpa [h1, h2] using q
        · rw [decide_eq_false h1]
          refine iteF ⟨_, rfl, iteF ?_⟩
          simpa [h1] using q
inductive BgD (K : PySem.W.Frag) (H : Hp) : V → Option (Option Int × Option Int) → Prop
  | no {x : V} (h : NoTy K "tuple" H x) : BgD K H x none
  | bad {b : Addr} {xs : List V} (h : H b = some (.tup xs)) (hl : xs.length ≠ 2) : BgD K H (.ref b) none
  | two {b : Addr} {x y : V} {oi oj : Option Int} (h : H b = some (.tup [x, y])) (hx : WhD K H x oi) (hy : WhD K H y oj) : BgD K H (.ref b) (some (oi, oj))
theorem BgD.mv {H H' : Hp} {x : V} {o : Option (Option Int × Option Int)} (h : BgD K H x o) (s : Same H H') : BgD K H' x o := by
  cases h with
  | no h => exact .no (h.mv s)
  | bad h hl => exact .bad (s _ _ h) hl
  | two h hx hy => exact .two (s _ _ h) (hx.mv s) (hy.mv s)
def beginB (r w : Nat) (o : Option (Option Int × Option Int)) : Bool := match o with | none => false | some (oi, oj) => cellB r w oi oj
def spBeginG (K : PySem.W.Frag) : Sp := fun vs H Q _ => ∃ (p : Addr) (ls : List (List Nat)) (r w : Nat) (x : V) (o : Option (Option Int × Option Int)), vs = [.ref p, x] ∧ H p = some (.tup (Ts ls)) ∧ Blk r w ls ∧ 1 ≤ r ∧ r ≤ 9 ∧ w ≤ 9 ∧ BgD K H x o ∧ Q (.bl (beginB r w o)) H
theorem ok_is_begin_ofG (D : DefAt K mg "is_begin_of" s_is_begin_of ["rows", "thing"]) (n_len : mg "len" = none) (n_tuple : mg "tuple" = none) (n_isinstance : mg "isinstance" = none) (D_is_cell_of : Def P w K mg base "is_cell_of" 2 ["rows", "row", "column"] (spCellG K)) : Def P w K mg base "is_begin_of" 3 ["rows", "thing"] (spBeginG K) := by
  refine D.qok sc_is_begin_of (fun vs H Q E h => ?_) (fun f cdv A outer s H vs Q E hr h => ?_)
  · obtain ⟨p, ls, r, w, x, o, rfl, _⟩ := h
    rfl
  · obtain ⟨p, ls, r, w, x, o, rfl, hp, hB, r1, r9, w9, hb, q⟩ := h
    refine ⟨_, (qss_one (qs_ret (qe_and (qe_callB call_isinst (by rfl) n_isinstance PyProof.Rows.boot_isinstance (qa_cons (qv 1) (qa_cons (qe_bltn (v := .ty "tuple") (by rfl) n_tuple PyProof.Rows.boot_tuple rfl) qa_nil))) (qe_and (qe_cmpR op_eq (qe_callB call_len_seq (by rfl) n_len PySem.boot_len (qa_cons (qv 1) qa_nil)) qe_int (nomark _)) (qe_one (qe_own D_is_cell_of (hr.mono (by decide)) rfl (qa_cons (qv 0) (qa_cons (qe_ix ix_tup (qv 1) qe_int (fun _ _ => rfl)) (qa_cons (qe_ix ix_tup (qv 1) qe_int (fun _ _ => rfl)) qa_nil))))))))), ?_⟩
    cases hb with
    | no h =>
      obtain ⟨t, ty, k⟩ := h
      exact ⟨_, rfl, _, _, _, false, rfl, ty, k, false, rfl, iteF q⟩
    | @bad b xs h hl =>
      refine ⟨_, rfl, _, _, _, true, rfl, .tup h, (by kernel_rfl), true, rfl, iteT ?_⟩
      refine ⟨_, rfl, b, _, rfl, .inr (SqT.of h), rfl, _, rfl, ?_⟩
      rw [decide_eq_false (show ¬ V.int (xs.length : Nat) = V.int 2 from fun z => hl (by injection z with z; omega))]
      exact iteF q
    | @two b x y oi oj h hx hy =>
      refine ⟨_, rfl, _, _, _, true, rfl, .tup h, (by kernel_rfl), true, rfl, iteT ?_⟩
      refine ⟨_, rfl, b, _, rfl, .inr (SqT.of h), rfl, true, rfl, iteT ?_⟩
      exact ⟨_, rfl, _, rfl, b, _, _, x, rfl, rfl, SqT.of h, atI_nat (j := 0) rfl, _, rfl, b, _, _, y, rfl, rfl, SqT.of h, atI_nat (j := 1) rfl, p, ls, r, w, x, y, oi, oj, rfl, hp, hB, r1, r9, w9, hx, hy, q⟩
def boardB (oR oM : Option (List (Option (List Nat)))) (ob : Option (Option Int × Option Int)) : Bool :=
  match oR, oM with
  | some R, some M => rowsE (some R) && marksE (some M) && decide (M.length = R.length) && decide (wdE M = wdE R) && beginB R.length (wdE R) ob
  | _, _ => false
def spBoardG (K : PySem.W.Frag) : Sp := fun vs H Q _ => ∃ (x y z : V) (oR oM : Option (List (Option (List Nat)))) (ob : Option (Option Int × Option Int)), vs = [x, y, z] ∧ ThD K H x oR ∧ ThD K H y oM ∧ BgD K H z ob ∧ ∀ H', Same H H' → Q (.bl (boardB oR oM ob)) H'
theorem ok_is_boardG (D : DefAt K mg "is_board" s_is_board ["rows", "marks", "begin"]) (n_len : mg "len" = none) (D_are_rows : Def P w K mg base "are_rows" 2 ["thing"] (spRowsG K)) (D_are_marks : Def P w K mg base "are_marks" 2 ["thing"] (spMarksG K)) (D_is_begin_of : Def P w K mg base "is_begin_of" 3 ["rows", "thing"] (spBeginG K)) :
    Def P w K mg base "is_board" 4 ["rows", "marks", "begin"] (spBoardG K) := by
  refine D.qok sc_is_board (fun vs H Q E h => ?_) (fun f cdv A outer s H vs Q E hr h => ?_)
  · obtain ⟨x, y, z, oR, oM, ob, rfl, _⟩ := h
    rfl
  · obtain ⟨x, y, z, oR, oM, ob, rfl, hR, hM, hb, q⟩ := h
    refine ⟨_, (qss_cons (qs_if (QW.qt (qw_or (qt_not (qt_val (qe_own D_are_rows (hr.mono (by decide)) rfl (qa_cons (qv 0) qa_nil)))) (qw_or1 (qt_not (qt_val (qe_own D_are_marks (hr.mono (by decide)) rfl (qa_cons (qv 1) qa_nil))))))) (qss_one (qs_ret qe_bl)) qss_nil) (qss_cons (qs_if (QW.qt (qw_or (qt_cmpR op_ne (qe_callB call_len_seq (by rfl) n_len PySem.boot_len (qa_cons (qv 1) qa_nil)) (qe_callB call_len_seq (by rfl) n_len PySem.boot_len (qa_cons (qv 0) qa_nil)) (nomark _)) (qw_or1 (qt_cmpR op_ne (qe_callB call_lenS (by rfl) n_len PySem.boot_len (qa_cons (qe_ix ix_tup (qv 1) qe_int (fun _ _ => rfl)) qa_nil)) (qe_callB call_lenS (by rfl) n_len PySem.boot_len (qa_cons (qe_ix ix_tup (qv 0) qe_int (fun _ _ => rfl)) qa_nil)) (nomark _))))) (qss_one (qs_ret qe_bl)) qss_nil) (qss_one (qs_ret (qe_own D_is_begin_of (hr.mono (by decide)) rfl (qa_cons (qv 0) (qa_cons (qv 2) qa_nil))))))), ?_⟩
    have no : boardB oR oM ob = false → ∀ H', Same H H' → Q (.bl false) H' := fun e H' s' => by have := q H' s'; rw [e] at this; exact this
    refine ⟨_, rfl, x, oR, rfl, hR, fun H1 s1 => ⟨_, rfl, ?_⟩⟩
    cases eR : rowsE oR with
    | false => exact iteT (no (by unfold boardB; cases oR with | none => rfl | some R => cases oM with | none => rfl | some M => simp only; rw [eR]; rfl) H1 s1)
    | true =>
      refine iteF ⟨_, rfl, y, oM, rfl, hM.mv s1, fun H2 s2 => ⟨_, rfl, ?_⟩⟩
      have s12 := s1.trans s2
      cases eM : marksE oM with
      | false => exact iteT (no (by unfold boardB; cases oR with | none => rfl | some R => cases oM with | none => rfl | some M => simp only; rw [eR, eM]; rfl) H2 s12)
      | true =>
        refine iteF ?_
        cases hR with
        | no h => cases eR
        | @tup pr xr R hr' heR r1' r2' =>
          cases hM with
          | no h => cases eM
          | @tup pm xm M hm' heM m1' m2' =>
            have bR : blkE R = true := by unfold rowsE at eR; simp only [Bool.and_eq_true] at eR; exact eR.1
            have bM : blkE M = true := by unfold marksE at eM; simp only [Bool.and_eq_true] at eM; exact eM.1
            obtain ⟨rows, w, rfl, hB, r1, r9, w1, w9, ew⟩ := blkE_blk bR
            obtain ⟨marks, v, rfl, hC, m1, m9, v1, v9, ev⟩ := blkE_blk bM
            obtain rfl := heR.toT
            obtain rfl := heM.toT
            have h0 : 0 < rows.length := r1
            have h0' : 0 < marks.length := m1
            have w0 : rows[0].length = w := hB.wid _ (List.getElem_mem _)
            have w0' : marks[0].length = v := hC.wid _ (List.getElem_mem _)
            have hint : ∀ a b : Nat, V.int (a : Int) = V.int (b : Int) ↔ a = b := fun a b => ⟨fun z => by injection z with z; omega, fun z => by rw [z]⟩
            have eB : boardB (some (rows.map some)) (some (marks.map some)) ob = (decide (marks.length = rows.length) && decide (v = w) && beginB rows.length w ob) := by
              unfold boardB
              simp only
              rw [eR, eM, ew, ev, List.length_map, List.length_map]; simp only [Bool.true_and]
            refine ⟨_, rfl, pm, _, rfl, .inr (SqT.of (s12 _ _ hm')), _, rfl, pr, _, rfl, .inr (SqT.of (s12 _ _ hr')), rfl, _, rfl, ?_⟩
            rw [List.length_map, List.length_map]
            by_cases l1 : marks.length = rows.length
            · refine iteNS ((hint _ _).mpr l1) ?_
              refine ⟨_, rfl, pm, _, _, .str (S marks[0]), rfl, rfl, SqT.of (s12 _ _ hm'), atI_nat (j := 0) (Ts_at (by simp [h0'])), _, rfl, Nat.le_of_lt (small1000 (by omega)), _, rfl, pr, _, _, .str (S rows[0]), rfl, rfl, SqT.of (s12 _ _ hr'), atI_nat (j := 0) (Ts_at (by simp [h0])), _, rfl, Nat.le_of_lt (small1000 (by omega)), rfl, _, rfl, ?_⟩
              by_cases l2 : v = w
              · refine iteNS ((hint _ _).mpr (by omega)) ?_
                refine ⟨_, rfl, _, rfl, pr, rows, rows.length, w, z, ob, rfl, s12 _ _ hr', hB, r1, r9, w9, hb.mv s12, ?_⟩
                have := q H2 s12
                rw [eB, decide_eq_true l1, decide_eq_true l2] at this
                exact this
              · rw [decide_eq_false (show ¬ V.int (marks[0].length : Int) = V.int (rows[0].length : Int) from fun z => l2 (by have := (hint _ _).mp z; omega))]
                exact iteT (no (by rw [eB, decide_eq_false l2]; simp) H2 s12)
            · rw [decide_eq_false (show ¬ V.int (marks.length : Int) = V.int (rows.length : Int) from fun z => l1 ((hint _ _).mp z))]
              exact iteT (no (by rw [eB, decide_eq_false l1]; simp) H2 s12)

end
end My
end

section
set_option Elab.async false
set_option linter.all false
set_option maxRecDepth 100000
set_option maxHeartbeats 2000000
namespace My
open PySem L2
section
variable {P : Program} {w : World} {K : PySem.W.Frag} {mg : Str → Option Value} {base : Heap}
theorem passF {X : Cx} {S : St → Prop} : PassesS (CXE X.prog X.w) X (fun _ _ _ => False) S := fun _ _ _ _ _ _ _ _ ⟨_, _, _, _, _, _, _, z⟩ => z.elim
def spBInitX (K : PySem.W.Frag) (C CN : Addr) : Sp := fun vs H Q E => ∃ (p dx : Addr) (x y z : V) (oR oM : Option (List (Option (List Nat)))) (ob : Option (Option Int × Option Int)), vs = [.ref p, x, y, z] ∧ H p = some (.ins C dx []) ∧ ThD K H x oR ∧ ThD K H y oM ∧ BgD K H z ob ∧
  (boardB oR oM ob = true → ∀ H', (∀ b o, H b = some o → b ≠ p → H' b = some o) → H' p = some (.ins C dx [("rows", x), ("marks", y), ("begin", z)]) → Q .non H') ∧
  (boardB oR oM ob = false → ∀ H', Same H H' → E (.ref CN) none H')
theorem ok_board_initX {f C CN : Addr} {fd : FuncData} (F : Fun K "__init__" "Board.__init__" s_Board_init f fd) (T : BoardCls K C) (mg_NoBoard : mg "NoBoard" = some (.ref CN)) (X_NoBoard : PySem.W.excIn K CN vErr "ValueError.__new__" = true) (D_is_board : Def P w K mg base "is_board" 4 ["rows", "marks", "begin"] (spBoardG K)) :
    FnOk P w K mg base (CXE P w) 5 f fd ["self", "rows", "marks", "begin"] (spBInitX K C CN) := by
  refine F.qokX sc_Board_init (fun vs H Q E h => ?_) (fun cdv A outer s H vs Q E hr h => ?_)
  · obtain ⟨p, dx, x, y, z, oR, oM, ob, rfl, _⟩ := h
    rfl
  · obtain ⟨p, dx, x, y, z, oR, oM, ob, rfl, hp, hR, hM, hb, q1, q2⟩ := h
    refine ⟨_, (qss_cons (qs_if (qt_not (qt_val (qe_own D_is_board (hr.mono (by decide)) rfl (qa_cons (qv 1) (qa_cons (qv 2) (qa_cons (qv 3) qa_nil)))))) (qss_one (qs_raise lets_cx rfl rfl (by rfl) mg_NoBoard X_NoBoard (qa_cons (qe_strS [114, 111, 119, 115, 44, 32, 109, 97, 114, 107, 115, 32, 97, 110, 100, 32, 98, 101, 103, 105, 110, 32, 109, 97, 107, 101, 32, 110, 111, 32, 98, 111, 97, 114, 100] (by decide +kernel)) qa_nil))) qss_nil) (qss_cons (qs_fld (qv 0) (qv 1) rfl) (qss_cons (qs_fld (qv 0) (qv 2) rfl) (qss_one (qs_fld (qv 0) (qv 3) rfl))))), ?_⟩
    refine ⟨_, rfl, _, rfl, _, rfl, x, y, z, oR, oM, ob, rfl, hR, hM, hb, fun H1 s1 => ⟨_, rfl, ?_⟩⟩
    cases e : boardB oR oM ob with
    | false => exact iteT ⟨by show 1 ≤ sizeLine; decide, q2 e H1 s1⟩
    | true =>
      refine iteF ?_
      refine ⟨_, rfl, _, rfl, p, C, dx, _, rfl, s1 _ _ hp, T.cl, T.nr, by show 0 < 1000; decide, ?_⟩
      refine ⟨_, rfl, _, rfl, p, C, dx, _, rfl, upd_same, T.cl, T.nm, by show 1 < 1000; decide, ?_⟩
      refine ⟨_, rfl, _, rfl, p, C, dx, _, rfl, upd_same, T.cl, T.nb, by show 2 < 1000; decide, ?_⟩
      refine q1 e _ (fun b o e hne => ?_) ?_
      · rw [upd_ne hne, upd_ne hne, upd_ne hne]; exact s1 _ _ e
      · exact upd_same

end
end My
end

section
set_option Elab.async false
set_option linter.all false
set_option maxRecDepth 100000
set_option maxHeartbeats 2000000
namespace My
open PySem L2
section
variable {P : Program} {w : World} {K : PySem.W.Frag} {mg : Str → Option Value} {base : Heap}
structure Errs (K : PySem.W.Frag) (mg : Str → Option Value) (CN CR : Addr) : Prop where
  mgN : mg "NoBoard" = some (.ref CN)
  mgR : mg "RackError" = some (.ref CR)
  is : ExcIs K CN
  rk : PySem.W.exmOne K (.ref CN) (.ref CR) = some true
  own : PySem.W.kitOne K (.ref CN) (.ref CN) = some true
  val : PySem.W.kitOne K (.ref CN) (.type "ValueError") = some true
def spRefused (K : PySem.W.Frag) : Sp := fun vs H Q _ => ∃ (x y z : V) (oR oM : Option (List (Option (List Nat)))) (ob : Option (Option Int × Option Int)), vs = [x, y, z] ∧ ThD K H x oR ∧ ThD K H y oM ∧ BgD K H z ob ∧ boardB oR oM ob = false ∧ ∀ H', Same H H' → Q (.bl true) H'
theorem ok_refused {C CN CR f0 : Addr} {fd0 : FuncData} (D : DefAt K mg "_law_refused" s_refused ["_law_rows", "_law_marks", "_law_begin"]) (n_isinstance : mg "isinstance" = none) (n_any : mg "any" = none) (n_ValueError : mg "ValueError" = none) (R : Errs K mg CN CR)
    (o_NoDeed : ∃ C, mg "NoDeed" = some (.ref C) ∧ PySem.W.kitOne K (.ref CN) (.ref C) = some false) (o_NoLaying : ∃ C, mg "NoLaying" = some (.ref C) ∧ PySem.W.kitOne K (.ref CN) (.ref C) = some false) (o_Gap : ∃ C, mg "Gap" = some (.ref C) ∧ PySem.W.kitOne K (.ref CN) (.ref C) = some false) (o_NoText : ∃ C, mg "NoText" = some (.ref C) ∧ PySem.W.kitOne K (.ref CN) (.ref C) = some false) (o_NoWord : ∃ C, mg "NoWord" = some (.ref C) ∧ PySem.W.kitOne K (.ref CN) (.ref C) = some false) (o_TooFew : ∃ C, mg "TooFew" = some (.ref C) ∧ PySem.W.kitOne K (.ref CN) (.ref C) = some false) (o_Apart : ∃ C, mg "Apart" = some (.ref C) ∧ PySem.W.kitOne K (.ref CN) (.ref C) = some false) (o_Crooked : ∃ C, mg "Crooked" = some (.ref C) ∧ PySem.W.kitOne K (.ref CN) (.ref C) = some false) (o_Lacking : ∃ C, mg "Lacking" = some (.ref C) ∧ PySem.W.kitOne K (.ref CN) (.ref C) = some false) (o_NoBack : ∃ C, mg "NoBack" = some (.ref C) ∧ PySem.W.kitOne K (.ref CN) (.ref C) = some false) (o_NoRow : ∃ C, mg "NoRow" = some (.ref C) ∧ PySem.W.kitOne K (.ref CN) (.ref C) = some false) (o_Over : ∃ C, mg "Over" = some (.ref C) ∧ PySem.W.kitOne K (.ref CN) (.ref C) = some false) (o_Taken : ∃ C, mg "Taken" = some (.ref C) ∧ PySem.W.kitOne K (.ref CN) (.ref C) = some false) (o_Twice : ∃ C, mg "Twice" = some (.ref C) ∧ PySem.W.kitOne K (.ref CN) (.ref C) = some false)
    (mg_Board : mg "Board" = some (.ref C)) (M_Board : Mk K C f0) (G_Board : FnOk P w K mg base (CXE P w) 5 f0 fd0 ["self", "rows", "marks", "begin"] (spBInitX K C CN)) (b_Board : Binds K fd0 ["self", "rows", "marks", "begin"] []) : Def P w K mg base "_law_refused" 7 ["_law_rows", "_law_marks", "_law_begin"] (spRefused K) := by
  refine D.qok sc_refused (fun vs H Q E h => ?_) (fun f cdv A outer s H vs Q E hr h => ?_)
  · obtain ⟨x, y, z, oR, oM, ob, rfl, _⟩ := h
    rfl
  · obtain ⟨x, y, z, oR, oM, ob, rfl, hR, hM, hb, bad, q⟩ := h
    have mg_NoBoard := R.mgN
    have mg_RackError := R.mgR
    obtain ⟨C_NoDeed, mg_NoDeed, k_NoDeed⟩ := o_NoDeed
    obtain ⟨C_NoLaying, mg_NoLaying, k_NoLaying⟩ := o_NoLaying
    obtain ⟨C_Gap, mg_Gap, k_Gap⟩ := o_Gap
    obtain ⟨C_NoText, mg_NoText, k_NoText⟩ := o_NoText
    obtain ⟨C_NoWord, mg_NoWord, k_NoWord⟩ := o_NoWord
    obtain ⟨C_TooFew, mg_TooFew, k_TooFew⟩ := o_TooFew
    obtain ⟨C_Apart, mg_Apart, k_Apart⟩ := o_Apart
    obtain ⟨C_Crooked, mg_Crooked, k_Crooked⟩ := o_Crooked
    obtain ⟨C_Lacking, mg_Lacking, k_Lacking⟩ := o_Lacking
    obtain ⟨C_NoBack, mg_NoBack, k_NoBack⟩ := o_NoBack
    obtain ⟨C_NoRow, mg_NoRow, k_NoRow⟩ := o_NoRow
    obtain ⟨C_Over, mg_Over, k_Over⟩ := o_Over
    obtain ⟨C_Taken, mg_Taken, k_Taken⟩ := o_Taken
    obtain ⟨C_Twice, mg_Twice, k_Twice⟩ := o_Twice
    refine ⟨_, (qss_cons (qs_set (i := 3) sc_refused.nd rfl (Or.inl rfl) (qe_lst qa_nil)) (qss_cons (qs_set (i := 4) sc_refused.nd rfl (Or.inl rfl) (qe_lst (qa_cons qe_bl qa_nil))) (qss_cons (qs_try rfl rfl (by rfl) mg_RackError sc_refused.nd (i := 5) rfl (by rfl) (fun pn xe E0 σ0 hp hx => (qss_one (qs_expr (qe_makeS M_Board G_Board (hr.mono (by decide)) rfl mg_Board b_Board hx (qa_cons (qv 0) (qa_cons (qv 1) (qa_cons (qv 2) qa_nil))))))) (fun _ => (qss_cons (qs_set (i := 3) sc_refused.nd rfl (Or.inl rfl) (qe_lst (qa_cons (qe_callB (call_isinstXK K) (by rfl) n_isinstance PyProof.Rows.boot_isinstance (qa_cons (qv 5) (qa_cons (qe_glob (v := .ref _) (by rfl) mg_NoBoard rfl) qa_nil))) (qa_cons (qe_callB (call_isinstXK K) (by rfl) n_isinstance PyProof.Rows.boot_isinstance (qa_cons (qv 5) (qa_cons (qe_bltn (v := .ty "ValueError") (by rfl) n_ValueError boot_ValueError rfl) qa_nil))) qa_nil)))) (qss_cons (qs_set (i := 4) sc_refused.nd rfl (Or.inl rfl) (qe_lst (qa_cons (qe_callB (call_isinstXK K) (by rfl) n_isinstance PyProof.Rows.boot_isinstance (qa_cons (qv 5) (qa_cons (qe_glob (v := .ref _) (by rfl) mg_NoDeed rfl) qa_nil))) (qa_cons (qe_callB (call_isinstXK K) (by rfl) n_isinstance PyProof.Rows.boot_isinstance (qa_cons (qv 5) (qa_cons (qe_glob (v := .ref _) (by rfl) mg_NoLaying rfl) qa_nil))) (qa_cons (qe_callB (call_isinstXK K) (by rfl) n_isinstance PyProof.Rows.boot_isinstance (qa_cons (qv 5) (qa_cons (qe_glob (v := .ref _) (by rfl) mg_Gap rfl) qa_nil))) (qa_cons (qe_callB (call_isinstXK K) (by rfl) n_isinstance PyProof.Rows.boot_isinstance (qa_cons (qv 5) (qa_cons (qe_glob (v := .ref _) (by rfl) mg_NoText rfl) qa_nil))) qa_nil)))))) (qss_cons (qs_set (i := 4) sc_refused.nd rfl (Or.inl rfl) (qe_op op_cat (qv 4) (qe_lst (qa_cons (qe_callB (call_isinstXK K) (by rfl) n_isinstance PyProof.Rows.boot_isinstance (qa_cons (qv 5) (qa_cons (qe_glob (v := .ref _) (by rfl) mg_NoWord rfl) qa_nil))) (qa_cons (qe_callB (call_isinstXK K) (by rfl) n_isinstance PyProof.Rows.boot_isinstance (qa_cons (qv 5) (qa_cons (qe_glob (v := .ref _) (by rfl) mg_TooFew rfl) qa_nil))) (qa_cons (qe_callB (call_isinstXK K) (by rfl) n_isinstance PyProof.Rows.boot_isinstance (qa_cons (qv 5) (qa_cons (qe_glob (v := .ref _) (by rfl) mg_Apart rfl) qa_nil))) (qa_cons (qe_callB (call_isinstXK K) (by rfl) n_isinstance PyProof.Rows.boot_isinstance (qa_cons (qv 5) (qa_cons (qe_glob (v := .ref _) (by rfl) mg_Crooked rfl) qa_nil))) qa_nil))))))) (qss_cons (qs_set (i := 4) sc_refused.nd rfl (Or.inl rfl) (qe_op op_cat (qv 4) (qe_lst (qa_cons (qe_callB (call_isinstXK K) (by rfl) n_isinstance PyProof.Rows.boot_isinstance (qa_cons (qv 5) (qa_cons (qe_glob (v := .ref _) (by rfl) mg_Lacking rfl) qa_nil))) (qa_cons (qe_callB (call_isinstXK K) (by rfl) n_isinstance PyProof.Rows.boot_isinstance (qa_cons (qv 5) (qa_cons (qe_glob (v := .ref _) (by rfl) mg_NoBack rfl) qa_nil))) (qa_cons (qe_callB (call_isinstXK K) (by rfl) n_isinstance PyProof.Rows.boot_isinstance (qa_cons (qv 5) (qa_cons (qe_glob (v := .ref _) (by rfl) mg_NoRow rfl) qa_nil))) (qa_cons (qe_callB (call_isinstXK K) (by rfl) n_isinstance PyProof.Rows.boot_isinstance (qa_cons (qv 5) (qa_cons (qe_glob (v := .ref _) (by rfl) mg_Over rfl) qa_nil))) qa_nil))))))) (qss_one (qs_set (i := 4) sc_refused.nd rfl (Or.inl rfl) (qe_op op_cat (qv 4) (qe_lst (qa_cons (qe_callB (call_isinstXK K) (by rfl) n_isinstance PyProof.Rows.boot_isinstance (qa_cons (qv 5) (qa_cons (qe_glob (v := .ref _) (by rfl) mg_Taken rfl) qa_nil))) (qa_cons (qe_callB (call_isinstXK K) (by rfl) n_isinstance PyProof.Rows.boot_isinstance (qa_cons (qv 5) (qa_cons (qe_glob (v := .ref _) (by rfl) mg_Twice rfl) qa_nil))) qa_nil)))))))))))) (qss_one (qs_ret (qe_and (qe_cmpR (op_eqB hr.units0) (qv 3) (qe_lst (qa_cons qe_bl (qa_cons qe_bl qa_nil))) (nomark _)) (qe_one (qe_not (qe_callB (call_any rfl) (by rfl) n_any boot_anyX (qa_cons (qv 4) qa_nil)))))))))), ?_⟩
    refine ⟨by show 0 ≤ sizeLine; decide, fun A0 hA0 => ?_⟩
    refine ⟨by show 1 ≤ sizeLine; decide, fun A1 hA1 => ?_⟩
    have s2 : Same H (upd (upd H A0 (HO.lst [])) A1 (HO.lst [.bl true])) := (Same.upd hA0).trans (Same.upd hA1)
    generalize upd (upd H A0 (HO.lst [])) A1 (HO.lst [.bl true]) = H2 at s2 ⊢
    refine ⟨fun cls dd H' => cls = .ref CN ∧ dd = none ∧ Same H2 H', ?_, ?_⟩
    · refine ⟨rfl, _, rfl, _, rfl, _, rfl, fun b dx nx ndx nex => ?_⟩
      have t2 : Same H2 (upd (upd H2 dx (HO.own b)) b (HO.ins C dx [])) := fun c o e => by rw [upd_ne (ne_of_none e nx), upd_ne (ne_of_none e ndx)]; exact e
      exact ⟨b, dx, x, y, z, oR, oM, ob, rfl, upd_same, hR.mv (s2.trans t2), hM.mv (s2.trans t2), hb.mv (s2.trans t2), (fun e => absurd (bad.symm.trans e) (by decide)), fun _ H' s' => ⟨rfl, rfl, t2.trans s'⟩⟩
    · rintro a cls dd H' ⟨rfl, rfl, s3⟩ na
      refine ⟨R.rk, ?_⟩
      have s4 : Same H' (upd H' a (HO.ext (ExcO a (.ref CN) none))) := Same.upd na
      have ha : upd H' a (HO.ext (ExcO a (.ref CN) none)) a = some (.ext (ExcO a (.ref CN) none)) := upd_same
      have sH := (s2.trans s3).trans s4
      generalize upd H' a (HO.ext (ExcO a (.ref CN) none)) = H4 at s4 ha sH ⊢
      refine ⟨_, rfl, a, CN, .ref CN, .ref CN, none, true, rfl, .inl ⟨CN, rfl, rfl⟩, ha, True.intro, R.is, R.own, _, rfl, a, CN, .ty "ValueError", .type "ValueError", none, true, rfl, .inr ⟨_, rfl, rfl⟩, ha, True.intro, R.is, R.val, by show 2 ≤ sizeLine; decide, fun L1 hL1 => ?_⟩
      have k5 : Same H4 (upd H4 L1 (HO.lst [.bl true, .bl true])) := Same.upd hL1
      have e1 : upd H4 L1 (HO.lst [.bl true, .bl true]) L1 = some (.lst ([true, true].map V.bl)) := upd_same
      have ha5 := k5 _ _ ha
      generalize upd H4 L1 (HO.lst [.bl true, .bl true]) = H5 at k5 e1 ha5 ⊢
      refine ⟨_, rfl, a, CN, .ref C_NoDeed, .ref C_NoDeed, none, false, rfl, .inl ⟨C_NoDeed, rfl, rfl⟩, ha5, True.intro, R.is, k_NoDeed, _, rfl, a, CN, .ref C_NoLaying, .ref C_NoLaying, none, false, rfl, .inl ⟨C_NoLaying, rfl, rfl⟩, ha5, True.intro, R.is, k_NoLaying, _, rfl, a, CN, .ref C_Gap, .ref C_Gap, none, false, rfl, .inl ⟨C_Gap, rfl, rfl⟩, ha5, True.intro, R.is, k_Gap, _, rfl, a, CN, .ref C_NoText, .ref C_NoText, none, false, rfl, .inl ⟨C_NoText, rfl, rfl⟩, ha5, True.intro, R.is, k_NoText, by show 4 ≤ sizeLine; decide, fun L2 hL2 => ?_⟩
      have k6 : Same H5 (upd H5 L2 (HO.lst [.bl false, .bl false, .bl false, .bl false])) := Same.upd hL2
      have e2 : upd H5 L2 (HO.lst [.bl false, .bl false, .bl false, .bl false]) L2 = some (.lst [.bl false, .bl false, .bl false, .bl false]) := upd_same
      have k46 := k5.trans k6
      have e16 := k6 _ _ e1
      have ha6 := k6 _ _ ha5
      generalize upd H5 L2 (HO.lst [.bl false, .bl false, .bl false, .bl false]) = H6 at k6 e2 k46 e16 ha6 ⊢
      refine ⟨_, rfl, _, rfl, a, CN, .ref C_NoWord, .ref C_NoWord, none, false, rfl, .inl ⟨C_NoWord, rfl, rfl⟩, ha6, True.intro, R.is, k_NoWord, _, rfl, a, CN, .ref C_TooFew, .ref C_TooFew, none, false, rfl, .inl ⟨C_TooFew, rfl, rfl⟩, ha6, True.intro, R.is, k_TooFew, _, rfl, a, CN, .ref C_Apart, .ref C_Apart, none, false, rfl, .inl ⟨C_Apart, rfl, rfl⟩, ha6, True.intro, R.is, k_Apart, _, rfl, a, CN, .ref C_Crooked, .ref C_Crooked, none, false, rfl, .inl ⟨C_Crooked, rfl, rfl⟩, ha6, True.intro, R.is, k_Crooked, by show 4 ≤ sizeLine; decide, fun M1 hM1 => ?_⟩
      have j1 : Same H6 (upd H6 M1 (HO.lst [V.bl false, V.bl false, V.bl false, V.bl false])) := Same.upd hM1
      have f1 : upd H6 M1 (HO.lst [V.bl false, V.bl false, V.bl false, V.bl false]) M1 = some (.lst [V.bl false, V.bl false, V.bl false, V.bl false]) := upd_same
      have p1 := j1 _ _ e2
      refine ⟨L2, M1, _, _, rfl, rfl, p1, f1, by show 4 + 4 ≤ sizeLine; decide, fun L3 hL3 => ?_⟩
      have i1 := j1.trans (Same.upd (o := HO.lst ([V.bl false, V.bl false, V.bl false, V.bl false] ++ [V.bl false, V.bl false, V.bl false, V.bl false])) hL3)
      have e3 : upd (upd H6 M1 (HO.lst [V.bl false, V.bl false, V.bl false, V.bl false])) L3 (HO.lst ([V.bl false, V.bl false, V.bl false, V.bl false] ++ [V.bl false, V.bl false, V.bl false, V.bl false])) L3 = some (.lst ([V.bl false, V.bl false, V.bl false, V.bl false] ++ [V.bl false, V.bl false, V.bl false, V.bl false])) := upd_same
      have k47 := k46.trans i1
      have e17 := i1 _ _ e16
      have ha7 := i1 _ _ ha6
      generalize upd (upd H6 M1 (HO.lst [V.bl false, V.bl false, V.bl false, V.bl false])) L3 (HO.lst ([V.bl false, V.bl false, V.bl false, V.bl false] ++ [V.bl false, V.bl false, V.bl false, V.bl false])) = H7 at i1 e3 k47 e17 ha7 ⊢
      refine ⟨_, rfl, _, rfl, a, CN, .ref C_Lacking, .ref C_Lacking, none, false, rfl, .inl ⟨C_Lacking, rfl, rfl⟩, ha7, True.intro, R.is, k_Lacking, _, rfl, a, CN, .ref C_NoBack, .ref C_NoBack, none, false, rfl, .inl ⟨C_NoBack, rfl, rfl⟩, ha7, True.intro, R.is, k_NoBack, _, rfl, a, CN, .ref C_NoRow, .ref C_NoRow, none, false, rfl, .inl ⟨C_NoRow, rfl, rfl⟩, ha7, True.intro, R.is, k_NoRow, _, rfl, a, CN, .ref C_Over, .ref C_Over, none, false, rfl, .inl ⟨C_Over, rfl, rfl⟩, ha7, True.intro, R.is, k_Over, by show 4 ≤ sizeLine; decide, fun M2 hM2 => ?_⟩
      have j2 : Same H7 (upd H7 M2 (HO.lst [V.bl false, V.bl false, V.bl false, V.bl false])) := Same.upd hM2
      have f2 : upd H7 M2 (HO.lst [V.bl false, V.bl false, V.bl false, V.bl false]) M2 = some (.lst [V.bl false, V.bl false, V.bl false, V.bl false]) := upd_same
      have p2 := j2 _ _ e3
      refine ⟨L3, M2, _, _, rfl, rfl, p2, f2, by show 8 + 4 ≤ sizeLine; decide, fun L4 hL4 => ?_⟩
      have i2 := j2.trans (Same.upd (o := HO.lst (([V.bl false, V.bl false, V.bl false, V.bl false] ++ [V.bl false, V.bl false, V.bl false, V.bl false]) ++ [V.bl false, V.bl false, V.bl false, V.bl false])) hL4)
      have e4 : upd (upd H7 M2 (HO.lst [V.bl false, V.bl false, V.bl false, V.bl false])) L4 (HO.lst (([V.bl false, V.bl false, V.bl false, V.bl false] ++ [V.bl false, V.bl false, V.bl false, V.bl false]) ++ [V.bl false, V.bl false, V.bl false, V.bl false])) L4 = some (.lst (([V.bl false, V.bl false, V.bl false, V.bl false] ++ [V.bl false, V.bl false, V.bl false, V.bl false]) ++ [V.bl false, V.bl false, V.bl false, V.bl false])) := upd_same
      have k48 := k47.trans i2
      have e18 := i2 _ _ e17
      have ha8 := i2 _ _ ha7
      generalize upd (upd H7 M2 (HO.lst [V.bl false, V.bl false, V.bl false, V.bl false])) L4 (HO.lst (([V.bl false, V.bl false, V.bl false, V.bl false] ++ [V.bl false, V.bl false, V.bl false, V.bl false]) ++ [V.bl false, V.bl false, V.bl false, V.bl false])) = H8 at i2 e4 k48 e18 ha8 ⊢
      refine ⟨_, rfl, _, rfl, a, CN, .ref C_Taken, .ref C_Taken, none, false, rfl, .inl ⟨C_Taken, rfl, rfl⟩, ha8, True.intro, R.is, k_Taken, _, rfl, a, CN, .ref C_Twice, .ref C_Twice, none, false, rfl, .inl ⟨C_Twice, rfl, rfl⟩, ha8, True.intro, R.is, k_Twice, by show 2 ≤ sizeLine; decide, fun M3 hM3 => ?_⟩
      have j3 : Same H8 (upd H8 M3 (HO.lst [V.bl false, V.bl false])) := Same.upd hM3
      have f3 : upd H8 M3 (HO.lst [V.bl false, V.bl false]) M3 = some (.lst [V.bl false, V.bl false]) := upd_same
      have p3 := j3 _ _ e4
      refine ⟨L4, M3, _, _, rfl, rfl, p3, f3, by show 12 + 2 ≤ sizeLine; decide, fun L5 hL5 => ?_⟩
      have i3 := j3.trans (Same.upd (o := HO.lst ((([V.bl false, V.bl false, V.bl false, V.bl false] ++ [V.bl false, V.bl false, V.bl false, V.bl false]) ++ [V.bl false, V.bl false, V.bl false, V.bl false]) ++ [V.bl false, V.bl false])) hL5)
      have e5 : upd (upd H8 M3 (HO.lst [V.bl false, V.bl false])) L5 (HO.lst ((([V.bl false, V.bl false, V.bl false, V.bl false] ++ [V.bl false, V.bl false, V.bl false, V.bl false]) ++ [V.bl false, V.bl false, V.bl false, V.bl false]) ++ [V.bl false, V.bl false])) L5 = some (.lst ((([V.bl false, V.bl false, V.bl false, V.bl false] ++ [V.bl false, V.bl false, V.bl false, V.bl false]) ++ [V.bl false, V.bl false, V.bl false, V.bl false]) ++ [V.bl false, V.bl false])) := upd_same
      have k49 := k48.trans i3
      have e19 := i3 _ _ e18
      have ha9 := i3 _ _ ha8
      generalize upd (upd H8 M3 (HO.lst [V.bl false, V.bl false])) L5 (HO.lst ((([V.bl false, V.bl false, V.bl false, V.bl false] ++ [V.bl false, V.bl false, V.bl false, V.bl false]) ++ [V.bl false, V.bl false, V.bl false, V.bl false]) ++ [V.bl false, V.bl false])) = H9 at i3 e5 k49 e19 ha9 ⊢
      refine ⟨_, rfl, by show 2 ≤ sizeLine; decide, fun LT hLT => ?_⟩
      have kT : Same H9 (upd H9 LT (HO.lst [.bl true, .bl true])) := Same.upd hLT
      refine ⟨L1, LT, [true, true], rfl, rfl, SqL.of (kT _ _ e19), SqL.of upd_same, true, rfl, iteT ⟨_, rfl, L5, List.replicate 14 false, rfl, SqL.of (kT _ _ e5), ?_⟩⟩
      refine ⟨false, rfl, ?_⟩
      exact q _ ((sH.trans k49).trans kT)

end
end My
end

section
set_option Elab.async false
set_option linter.all false
set_option maxRecDepth 100000
set_option maxHeartbeats 2000000
namespace My
open PySem L2
section
variable {P : Program} {w : World} {K : PySem.W.Frag} {mg : Str → Option Value} {base : Heap}
def spBadT (K : PySem.W.Frag) : Sp := fun vs H Q _ => ∃ (l : List Nat) (c : Int) (a : Addr) (odds : List (List Nat)), vs = [.str (S l), .int c, .ref a] ∧ SqL K H a (Ts odds) ∧ 1 ≤ l.length ∧ l.length ≤ 9 ∧ 1 ≤ odds.length ∧ odds.length ≤ 10 ∧ (∀ o ∈ odds, o.length ≤ 2) ∧
  ∀ (i : Nat) (o : List Nat), i < l.length → o ∈ odds → Q (.str (S (l.take i ++ o ++ l.drop (i + 1)))) H
theorem cut_fromN (l : List Nat) (m : Nat) : cutN l (some (m : Int)) none = l.drop m := by
  unfold cutN
  rw [HT.sIx_nat, HT.sIx_none]
  by_cases h : m ≤ l.length
  · rw [Nat.min_eq_left h, List.take_of_length_le (by rw [List.length_drop]; omega)]
  · rw [Nat.min_eq_right (by omega), List.drop_eq_nil_of_le (show l.length ≤ m by omega)]; simp
theorem ok_bad_text (D : DefAt K mg "_law_bad_text" s_bad_text ["_law_row", "_law_cell", "_law_odd"]) (n_len : mg "len" = none) : Def P w K mg base "_law_bad_text" 1 ["_law_row", "_law_cell", "_law_odd"] (spBadT K) := by
  refine D.qok sc_bad_text (fun vs H Q E h => ?_) (fun f cdv A outer s H vs Q E hr h => ?_)
  · obtain ⟨l, c, a, odds, rfl, _⟩ := h
    rfl
  · obtain ⟨l, c, a, odds, rfl, hS, l1, l9, o1, o10, o2, q⟩ := h
    have hz : ∀ n, n ≤ 100 → n ≤ sizeLine := fun n h => Nat.le_of_lt (small1000 (by omega))
    refine ⟨_, (qss_cons (qs_set (i := 3) sc_bad_text.nd rfl (Or.inl rfl) (qe_op op_mod (qe_op op_fdiv (qv 1) qe_int) (qe_callB call_lenS (by rfl) n_len PySem.boot_len (qa_cons (qv 0) qa_nil)))) (qss_one (qs_ret (qe_op op_addS (qe_op op_addS (qe_slice sl_S (qv 0) qo_none (qo_some (qv 3))) (qe_ix ix_list (qv 2) (qe_op op_mod (qe_op op_fdiv (qv 1) qe_int) (qe_callB call_len_seq (by rfl) n_len PySem.boot_len (qa_cons (qv 2) qa_nil))) (fun _ _ => rfl))) (qe_slice sl_S (qv 0) (qo_some (qe_op op_add (qv 3) qe_int)) qo_none))))), ?_⟩
    have i0 := Int.emod_nonneg (c / 24) (show (l.length : Int) ≠ 0 by omega)
    have i1 := Int.emod_lt_of_pos (c / 24) (show (0 : Int) < (l.length : Int) by omega)
    obtain ⟨i, ei⟩ : ∃ i : Nat, c / 24 % (l.length : Int) = i := ⟨(c / 24 % (l.length : Int)).toNat, by omega⟩
    have j0 := Int.emod_nonneg (c / 216) (show ((Ts odds).length : Int) ≠ 0 by rw [List.length_map]; omega)
    have j1 := Int.emod_lt_of_pos (c / 216) (show (0 : Int) < ((Ts odds).length : Int) by rw [List.length_map]; omega)
    obtain ⟨j, ej⟩ : ∃ j : Nat, c / 216 % ((Ts odds).length : Int) = j := ⟨(c / 216 % ((Ts odds).length : Int)).toNat, by omega⟩
    have hj : j < odds.length := by rw [List.length_map] at j1 ej; omega
    have hi : i < l.length := by omega
    have hoj := o2 _ (List.getElem_mem hj)
    refine ⟨_, rfl, _, _, rfl, rfl, ⟨by decide, by decide⟩, _, rfl, _, rfl, hz _ (by omega), _, _, rfl, rfl, (by show (0 : Int) < (l.length : Int); omega), ?_⟩
    dsimp only
    rw [ei]
    refine ⟨_, rfl, _, rfl, _, rfl, l, rfl, hz _ (by omega), ?_⟩
    rw [cut_to]
    refine ⟨_, rfl, _, rfl, _, _, rfl, rfl, ⟨by decide, by decide⟩, _, rfl, a, _, rfl, .inl hS, _, _, rfl, rfl, (by show (0 : Int) < ((Ts odds).length : Int); rw [List.length_map]; omega), a, _, _, .str (S odds[j]), rfl, rfl, hS, ?_, ?_⟩
    · rw [ej]; exact atI_nat (Ts_at (by simp [hj]))
    · refine ⟨l.take i, odds[j], rfl, rfl, hz _ (by rw [List.length_take]; omega), ?_⟩
      refine ⟨_, rfl, _, rfl, _, _, rfl, rfl, _, rfl, l, rfl, hz _ (by omega), ?_⟩
      rw [show (i : Int) + 1 = ((i + 1 : Nat) : Int) by omega, cut_fromN]
      refine ⟨l.take i ++ odds[j], l.drop (i + 1), rfl, rfl, hz _ (by rw [List.length_append, List.length_take, List.length_drop]; omega), ?_⟩
      exact q i _ hi (List.getElem_mem hj)

end
end My
end

section
set_option Elab.async false
set_option linter.all false
set_option maxRecDepth 100000
set_option maxHeartbeats 2000000
namespace My
open PySem L2
section
variable {P : Program} {w : World} {K : PySem.W.Frag} {mg : Str → Option Value} {base : Heap}
def spBadB (K : PySem.W.Frag) : Sp := fun vs H Q _ => ∃ (p : Addr) (ls : List (List Nat)) (r w : Nat) (c : Int), vs = [.ref p, .int c] ∧ H p = some (.tup (Ts ls)) ∧ Blk r w ls ∧ 1 ≤ r ∧ r ≤ 9 ∧ 1 ≤ w ∧ w ≤ 9 ∧
  ∀ (v : V) (ob : Option (Option Int × Option Int)) (H' : Hp), Same H H' → BgD K H' v ob → beginB r w ob = false → Q v H'
theorem ok_bad_begin (D : DefAt K mg "_law_bad_begin" s_bad_begin ["_law_rows", "_law_cell"]) (n_len : mg "len" = none) : Def P w K mg base "_law_bad_begin" 1 ["_law_rows", "_law_cell"] (spBadB K) := by
  refine D.qok sc_bad_begin (fun vs H Q E h => ?_) (fun f cdv A outer s H vs Q E hr h => ?_)
  · obtain ⟨p, ls, r, w, c, rfl, _⟩ := h
    rfl
  · obtain ⟨p, ls, r, w, c, rfl, hp, hb, r1, r9, w1, w9, q⟩ := h
    have hln : (Ts ls).length = r := by rw [List.length_map, hb.len]
    have h0 : 0 < ls.length := by rw [hb.len]; omega
    have hw0 : ls[0].length = w := hb.wid _ (List.getElem_mem _)
    refine ⟨_, (qss_cons (qs_set (i := 2) sc_bad_begin.nd rfl (Or.inl rfl) (qe_callB call_len_seq (by rfl) n_len PySem.boot_len (qa_cons (qv 0) qa_nil))) (qss_cons (qs_set (i := 3) sc_bad_begin.nd rfl (Or.inl rfl) (qe_callB call_lenS (by rfl) n_len PySem.boot_len (qa_cons (qe_ix ix_tup (qv 0) qe_int (fun _ _ => rfl)) qa_nil))) (qss_cons (qs_set (i := 4) sc_bad_begin.nd rfl (Or.inl rfl) (qe_lst (qa_cons (qe_tup (qa_cons (qv 2) (qa_cons qe_int qa_nil))) (qa_cons (qe_tup (qa_cons qe_int (qa_cons (qv 3) qa_nil))) (qa_cons (qe_tup (qa_cons (qe_un un_neg qe_int) (qa_cons qe_int qa_nil))) (qa_cons (qe_tup (qa_cons qe_int (qa_cons (qe_un un_neg qe_int) qa_nil))) (qa_cons (qe_tup (qa_cons qe_bl (qa_cons qe_int qa_nil))) (qa_cons (qe_tup (qa_cons qe_int (qa_cons qe_bl qa_nil))) (qa_cons (qe_tup (qa_cons (qe_strS [48] (by decide +kernel)) (qa_cons qe_int qa_nil))) (qa_cons (qe_tup (qa_cons qe_int (qa_cons qe_non qa_nil))) (qa_cons (qe_tup (qa_cons qe_int qa_nil)) (qa_cons (qe_tup (qa_cons qe_int (qa_cons qe_int (qa_cons qe_int qa_nil)))) (qa_cons (qe_tup qa_nil) (qa_cons qe_int qa_nil)))))))))))))) (qss_one (qs_ret (qe_ix ix_list (qe_op op_cat (qv 4) (qe_lst (qa_cons qe_non (qa_cons (qe_strS [98, 101, 103, 105, 110] (by decide +kernel)) (qa_cons (qe_tup (qa_cons (qe_op op_pow qe_int qe_int) (qa_cons qe_int qa_nil))) (qa_cons (qe_tup (qa_cons (qe_tup (qa_cons qe_int (qa_cons qe_int qa_nil))) qa_nil)) qa_nil)))))) (qe_op op_mod (qe_op op_fdiv (qv 1) qe_int) qe_int) (fun _ _ => rfl))))))), ?_⟩
    refine ⟨_, rfl, p, _, rfl, .inr (SqT.of hp), ?_⟩
    rw [hln]
    refine ⟨_, rfl, p, _, _, .str (S ls[0]), rfl, rfl, SqT.of hp, atI_nat (j := 0) (Ts_at (by simp [h0])), _, rfl, Nat.le_of_lt (small1000 (by omega)), ?_⟩
    rw [hw0]
    have s0 : Same H H := Same.refl _
    refine ⟨_, rfl, by show 2 ≤ sizeLine; decide, fun t1 ht1 => ?_⟩
    have gt1 : upd H t1 (HO.tup [V.int (r : Int), V.int 0]) t1 = some (.tup [V.int (r : Int), V.int 0]) := upd_same
    have kt1 : Same H (upd H t1 (HO.tup [V.int (r : Int), V.int 0])) := Same.upd ht1
    have s1 := s0.trans kt1
    generalize upd H t1 (HO.tup [V.int (r : Int), V.int 0]) = G1 at gt1 kt1 s1 ⊢
    refine ⟨_, rfl, by show 2 ≤ sizeLine; decide, fun t2 ht2 => ?_⟩
    have gt2 : upd G1 t2 (HO.tup [V.int 0, V.int (w : Int)]) t2 = some (.tup [V.int 0, V.int (w : Int)]) := upd_same
    have kt2 : Same G1 (upd G1 t2 (HO.tup [V.int 0, V.int (w : Int)])) := Same.upd ht2
    have s2 := s1.trans kt2
    replace gt1 := kt2 _ _ gt1
    generalize upd G1 t2 (HO.tup [V.int 0, V.int (w : Int)]) = G2 at gt2 kt2 s2 gt1 ⊢
    refine ⟨_, rfl, by show 2 ≤ sizeLine; decide, fun t3 ht3 => ?_⟩
    have gt3 : upd G2 t3 (HO.tup [V.int (-1), V.int 0]) t3 = some (.tup [V.int (-1), V.int 0]) := upd_same
    have kt3 : Same G2 (upd G2 t3 (HO.tup [V.int (-1), V.int 0])) := Same.upd ht3
    have s3 := s2.trans kt3
    replace gt1 := kt3 _ _ gt1
    replace gt2 := kt3 _ _ gt2
    generalize upd G2 t3 (HO.tup [V.int (-1), V.int 0]) = G3 at gt3 kt3 s3 gt1 gt2 ⊢
    refine ⟨_, rfl, by show 2 ≤ sizeLine; decide, fun t4 ht4 => ?_⟩
    have gt4 : upd G3 t4 (HO.tup [V.int 0, V.int (-1)]) t4 = some (.tup [V.int 0, V.int (-1)]) := upd_same
    have kt4 : Same G3 (upd G3 t4 (HO.tup [V.int 0, V.int (-1)])) := Same.upd ht4
    have s4 := s3.trans kt4
    replace gt1 := kt4 _ _ gt1
    replace gt2 := kt4 _ _ gt2
    replace gt3 := kt4 _ _ gt3
    generalize upd G3 t4 (HO.tup [V.int 0, V.int (-1)]) = G4 at gt4 kt4 s4 gt1 gt2 gt3 ⊢
    refine ⟨by show 2 ≤ sizeLine; decide, fun t5 ht5 => ?_⟩
    have gt5 : upd G4 t5 (HO.tup [V.bl true, V.int 0]) t5 = some (.tup [V.bl true, V.int 0]) := upd_same
    have kt5 : Same G4 (upd G4 t5 (HO.tup [V.bl true, V.int 0])) := Same.upd ht5
    have s5 := s4.trans kt5
    replace gt1 := kt5 _ _ gt1
    replace gt2 := kt5 _ _ gt2
    replace gt3 := kt5 _ _ gt3
    replace gt4 := kt5 _ _ gt4
    generalize upd G4 t5 (HO.tup [V.bl true, V.int 0]) = G5 at gt5 kt5 s5 gt1 gt2 gt3 gt4 ⊢
    refine ⟨by show 2 ≤ sizeLine; decide, fun t6 ht6 => ?_⟩
    have gt6 : upd G5 t6 (HO.tup [V.int 0, V.bl false]) t6 = some (.tup [V.int 0, V.bl false]) := upd_same
    have kt6 : Same G5 (upd G5 t6 (HO.tup [V.int 0, V.bl false])) := Same.upd ht6
    have s6 := s5.trans kt6
    replace gt1 := kt6 _ _ gt1
    replace gt2 := kt6 _ _ gt2
    replace gt3 := kt6 _ _ gt3
    replace gt4 := kt6 _ _ gt4
    replace gt5 := kt6 _ _ gt5
    generalize upd G5 t6 (HO.tup [V.int 0, V.bl false]) = G6 at gt6 kt6 s6 gt1 gt2 gt3 gt4 gt5 ⊢
    refine ⟨by show 2 ≤ sizeLine; decide, fun t7 ht7 => ?_⟩
    have gt7 : upd G6 t7 (HO.tup [V.str (S [48]), V.int 0]) t7 = some (.tup [V.str (S [48]), V.int 0]) := upd_same
    have kt7 : Same G6 (upd G6 t7 (HO.tup [V.str (S [48]), V.int 0])) := Same.upd ht7
    have s7 := s6.trans kt7
    replace gt1 := kt7 _ _ gt1
    replace gt2 := kt7 _ _ gt2
    replace gt3 := kt7 _ _ gt3
    replace gt4 := kt7 _ _ gt4
    replace gt5 := kt7 _ _ gt5
    replace gt6 := kt7 _ _ gt6
    generalize upd G6 t7 (HO.tup [V.str (S [48]), V.int 0]) = G7 at gt7 kt7 s7 gt1 gt2 gt3 gt4 gt5 gt6 ⊢
    refine ⟨by show 2 ≤ sizeLine; decide, fun t8 ht8 => ?_⟩
    have gt8 : upd G7 t8 (HO.tup [V.int 0, V.non]) t8 = some (.tup [V.int 0, V.non]) := upd_same
    have kt8 : Same G7 (upd G7 t8 (HO.tup [V.int 0, V.non])) := Same.upd ht8
    have s8 := s7.trans kt8
    replace gt1 := kt8 _ _ gt1
    replace gt2 := kt8 _ _ gt2
    replace gt3 := kt8 _ _ gt3
    replace gt4 := kt8 _ _ gt4
    replace gt5 := kt8 _ _ gt5
    replace gt6 := kt8 _ _ gt6
    replace gt7 := kt8 _ _ gt7
    generalize upd G7 t8 (HO.tup [V.int 0, V.non]) = G8 at gt8 kt8 s8 gt1 gt2 gt3 gt4 gt5 gt6 gt7 ⊢
    refine ⟨by show 1 ≤ sizeLine; decide, fun t9 ht9 => ?_⟩
    have gt9 : upd G8 t9 (HO.tup [V.int 0]) t9 = some (.tup [V.int 0]) := upd_same
    have kt9 : Same G8 (upd G8 t9 (HO.tup [V.int 0])) := Same.upd ht9
    have s9 := s8.trans kt9
    replace gt1 := kt9 _ _ gt1
    replace gt2 := kt9 _ _ gt2
    replace gt3 := kt9 _ _ gt3
    replace gt4 := kt9 _ _ gt4
    replace gt5 := kt9 _ _ gt5
    replace gt6 := kt9 _ _ gt6
    replace gt7 := kt9 _ _ gt7
    replace gt8 := kt9 _ _ gt8
    generalize upd G8 t9 (HO.tup [V.int 0]) = G9 at gt9 kt9 s9 gt1 gt2 gt3 gt4 gt5 gt6 gt7 gt8 ⊢
    refine ⟨by show 3 ≤ sizeLine; decide, fun t10 ht10 => ?_⟩
    have gt10 : upd G9 t10 (HO.tup [V.int 0, V.int 0, V.int 0]) t10 = some (.tup [V.int 0, V.int 0, V.int 0]) := upd_same
    have kt10 : Same G9 (upd G9 t10 (HO.tup [V.int 0, V.int 0, V.int 0])) := Same.upd ht10
    have s10 := s9.trans kt10
    replace gt1 := kt10 _ _ gt1
    replace gt2 := kt10 _ _ gt2
    replace gt3 := kt10 _ _ gt3
    replace gt4 := kt10 _ _ gt4
    replace gt5 := kt10 _ _ gt5
    replace gt6 := kt10 _ _ gt6
    replace gt7 := kt10 _ _ gt7
    replace gt8 := kt10 _ _ gt8
    replace gt9 := kt10 _ _ gt9
    generalize upd G9 t10 (HO.tup [V.int 0, V.int 0, V.int 0]) = G10 at gt10 kt10 s10 gt1 gt2 gt3 gt4 gt5 gt6 gt7 gt8 gt9 ⊢
    refine ⟨by show 0 ≤ sizeLine; decide, fun t11 ht11 => ?_⟩
    have gt11 : upd G10 t11 (HO.tup []) t11 = some (.tup []) := upd_same
    have kt11 : Same G10 (upd G10 t11 (HO.tup [])) := Same.upd ht11
    have s11 := s10.trans kt11
    replace gt1 := kt11 _ _ gt1
    replace gt2 := kt11 _ _ gt2
    replace gt3 := kt11 _ _ gt3
    replace gt4 := kt11 _ _ gt4
    replace gt5 := kt11 _ _ gt5
    replace gt6 := kt11 _ _ gt6
    replace gt7 := kt11 _ _ gt7
    replace gt8 := kt11 _ _ gt8
    replace gt9 := kt11 _ _ gt9
    replace gt10 := kt11 _ _ gt10
    generalize upd G10 t11 (HO.tup []) = G11 at gt11 kt11 s11 gt1 gt2 gt3 gt4 gt5 gt6 gt7 gt8 gt9 gt10 ⊢
    refine ⟨by show 12 ≤ sizeLine; decide, fun L1 hL1 => ?_⟩
    have gL1 : upd G11 L1 (HO.lst [V.ref t1, V.ref t2, V.ref t3, V.ref t4, V.ref t5, V.ref t6, V.ref t7, V.ref t8, V.ref t9, V.ref t10, V.ref t11, V.int 0]) L1 = some (.lst [V.ref t1, V.ref t2, V.ref t3, V.ref t4, V.ref t5, V.ref t6, V.ref t7, V.ref t8, V.ref t9, V.ref t10, V.ref t11, V.int 0]) := upd_same
    have kL1 : Same G11 (upd G11 L1 (HO.lst [V.ref t1, V.ref t2, V.ref t3, V.ref t4, V.ref t5, V.ref t6, V.ref t7, V.ref t8, V.ref t9, V.ref t10, V.ref t11, V.int 0])) := Same.upd hL1
    have s12 := s11.trans kL1
    replace gt1 := kL1 _ _ gt1
    replace gt2 := kL1 _ _ gt2
    replace gt3 := kL1 _ _ gt3
    replace gt4 := kL1 _ _ gt4
    replace gt5 := kL1 _ _ gt5
    replace gt6 := kL1 _ _ gt6
    replace gt7 := kL1 _ _ gt7
    replace gt8 := kL1 _ _ gt8
    replace gt9 := kL1 _ _ gt9
    replace gt10 := kL1 _ _ gt10
    replace gt11 := kL1 _ _ gt11
    generalize upd G11 L1 (HO.lst [V.ref t1, V.ref t2, V.ref t3, V.ref t4, V.ref t5, V.ref t6, V.ref t7, V.ref t8, V.ref t9, V.ref t10, V.ref t11, V.int 0]) = G12 at gL1 kL1 s12 gt1 gt2 gt3 gt4 gt5 gt6 gt7 gt8 gt9 gt10 gt11 ⊢
    refine ⟨_, rfl, _, _, rfl, rfl, ⟨by decide, by decide, by decide⟩, by show 2 ≤ sizeLine; decide, fun t12 ht12 => ?_⟩
    have gt12 : upd G12 t12 (HO.tup [(fun i j : Int => V.int (i ^ j.toNat)) 10 30, V.int 0]) t12 = some (.tup [(fun i j : Int => V.int (i ^ j.toNat)) 10 30, V.int 0]) := upd_same
    have kt12 : Same G12 (upd G12 t12 (HO.tup [(fun i j : Int => V.int (i ^ j.toNat)) 10 30, V.int 0])) := Same.upd ht12
    have s13 := s12.trans kt12
    replace gt1 := kt12 _ _ gt1
    replace gt2 := kt12 _ _ gt2
    replace gt3 := kt12 _ _ gt3
    replace gt4 := kt12 _ _ gt4
    replace gt5 := kt12 _ _ gt5
    replace gt6 := kt12 _ _ gt6
    replace gt7 := kt12 _ _ gt7
    replace gt8 := kt12 _ _ gt8
    replace gt9 := kt12 _ _ gt9
    replace gt10 := kt12 _ _ gt10
    replace gt11 := kt12 _ _ gt11
    replace gL1 := kt12 _ _ gL1
    generalize upd G12 t12 (HO.tup [(fun i j : Int => V.int (i ^ j.toNat)) 10 30, V.int 0]) = G13 at gt12 kt12 s13 gt1 gt2 gt3 gt4 gt5 gt6 gt7 gt8 gt9 gt10 gt11 gL1 ⊢
    refine ⟨by show 2 ≤ sizeLine; decide, fun t13 ht13 => ?_⟩
    have gt13 : upd G13 t13 (HO.tup [V.int 0, V.int 0]) t13 = some (.tup [V.int 0, V.int 0]) := upd_same
    have kt13 : Same G13 (upd G13 t13 (HO.tup [V.int 0, V.int 0])) := Same.upd ht13
    have s14 := s13.trans kt13
    replace gt1 := kt13 _ _ gt1
    replace gt2 := kt13 _ _ gt2
    replace gt3 := kt13 _ _ gt3
    replace gt4 := kt13 _ _ gt4
    replace gt5 := kt13 _ _ gt5
    replace gt6 := kt13 _ _ gt6
    replace gt7 := kt13 _ _ gt7
    replace gt8 := kt13 _ _ gt8
    replace gt9 := kt13 _ _ gt9
    replace gt10 := kt13 _ _ gt10
    replace gt11 := kt13 _ _ gt11
    replace gL1 := kt13 _ _ gL1
    replace gt12 := kt13 _ _ gt12
    generalize upd G13 t13 (HO.tup [V.int 0, V.int 0]) = G14 at gt13 kt13 s14 gt1 gt2 gt3 gt4 gt5 gt6 gt7 gt8 gt9 gt10 gt11 gL1 gt12 ⊢
    refine ⟨by show 1 ≤ sizeLine; decide, fun t14 ht14 => ?_⟩
    have gt14 : upd G14 t14 (HO.tup [V.ref t13]) t14 = some (.tup [V.ref t13]) := upd_same
    have kt14 : Same G14 (upd G14 t14 (HO.tup [V.ref t13])) := Same.upd ht14
    have s15 := s14.trans kt14
    replace gt1 := kt14 _ _ gt1
    replace gt2 := kt14 _ _ gt2
    replace gt3 := kt14 _ _ gt3
    replace gt4 := kt14 _ _ gt4
    replace gt5 := kt14 _ _ gt5
    replace gt6 := kt14 _ _ gt6
    replace gt7 := kt14 _ _ gt7
    replace gt8 := kt14 _ _ gt8
    replace gt9 := kt14 _ _ gt9
    replace gt10 := kt14 _ _ gt10
    replace gt11 := kt14 _ _ gt11
    replace gL1 := kt14 _ _ gL1
    replace gt12 := kt14 _ _ gt12
    replace gt13 := kt14 _ _ gt13
    generalize upd G14 t14 (HO.tup [V.ref t13]) = G15 at gt14 kt14 s15 gt1 gt2 gt3 gt4 gt5 gt6 gt7 gt8 gt9 gt10 gt11 gL1 gt12 gt13 ⊢
    refine ⟨by show 4 ≤ sizeLine; decide, fun L2 hL2 => ?_⟩
    have gL2 : upd G15 L2 (HO.lst [V.non, V.str (S [98, 101, 103, 105, 110]), V.ref t12, V.ref t14]) L2 = some (.lst [V.non, V.str (S [98, 101, 103, 105, 110]), V.ref t12, V.ref t14]) := upd_same
    have kL2 : Same G15 (upd G15 L2 (HO.lst [V.non, V.str (S [98, 101, 103, 105, 110]), V.ref t12, V.ref t14])) := Same.upd hL2
    have s16 := s15.trans kL2
    replace gt1 := kL2 _ _ gt1
    replace gt2 := kL2 _ _ gt2
    replace gt3 := kL2 _ _ gt3
    replace gt4 := kL2 _ _ gt4
    replace gt5 := kL2 _ _ gt5
    replace gt6 := kL2 _ _ gt6
    replace gt7 := kL2 _ _ gt7
    replace gt8 := kL2 _ _ gt8
    replace gt9 := kL2 _ _ gt9
    replace gt10 := kL2 _ _ gt10
    replace gt11 := kL2 _ _ gt11
    replace gL1 := kL2 _ _ gL1
    replace gt12 := kL2 _ _ gt12
    replace gt13 := kL2 _ _ gt13
    replace gt14 := kL2 _ _ gt14
    generalize upd G15 L2 (HO.lst [V.non, V.str (S [98, 101, 103, 105, 110]), V.ref t12, V.ref t14]) = G16 at gL2 kL2 s16 gt1 gt2 gt3 gt4 gt5 gt6 gt7 gt8 gt9 gt10 gt11 gL1 gt12 gt13 gt14 ⊢
    refine ⟨L1, L2, _, _, rfl, rfl, gL1, gL2, by show 12 + 4 ≤ sizeLine; decide, fun L3 hL3 => ?_⟩
    have gL3 : upd G16 L3 (HO.lst ([V.ref t1, V.ref t2, V.ref t3, V.ref t4, V.ref t5, V.ref t6, V.ref t7, V.ref t8, V.ref t9, V.ref t10, V.ref t11, V.int 0] ++ [V.non, V.str (S [98, 101, 103, 105, 110]), V.ref t12, V.ref t14])) L3 = some (.lst ([V.ref t1, V.ref t2, V.ref t3, V.ref t4, V.ref t5, V.ref t6, V.ref t7, V.ref t8, V.ref t9, V.ref t10, V.ref t11, V.int 0] ++ [V.non, V.str (S [98, 101, 103, 105, 110]), V.ref t12, V.ref t14])) := upd_same
    have kL3 : Same G16 (upd G16 L3 (HO.lst ([V.ref t1, V.ref t2, V.ref t3, V.ref t4, V.ref t5, V.ref t6, V.ref t7, V.ref t8, V.ref t9, V.ref t10, V.ref t11, V.int 0] ++ [V.non, V.str (S [98, 101, 103, 105, 110]), V.ref t12, V.ref t14]))) := Same.upd hL3
    have s17 := s16.trans kL3
    replace gt1 := kL3 _ _ gt1
    replace gt2 := kL3 _ _ gt2
    replace gt3 := kL3 _ _ gt3
    replace gt4 := kL3 _ _ gt4
    replace gt5 := kL3 _ _ gt5
    replace gt6 := kL3 _ _ gt6
    replace gt7 := kL3 _ _ gt7
    replace gt8 := kL3 _ _ gt8
    replace gt9 := kL3 _ _ gt9
    replace gt10 := kL3 _ _ gt10
    replace gt11 := kL3 _ _ gt11
    replace gL1 := kL3 _ _ gL1
    replace gt12 := kL3 _ _ gt12
    replace gt13 := kL3 _ _ gt13
    replace gt14 := kL3 _ _ gt14
    replace gL2 := kL3 _ _ gL2
    generalize upd G16 L3 (HO.lst ([V.ref t1, V.ref t2, V.ref t3, V.ref t4, V.ref t5, V.ref t6, V.ref t7, V.ref t8, V.ref t9, V.ref t10, V.ref t11, V.int 0] ++ [V.non, V.str (S [98, 101, 103, 105, 110]), V.ref t12, V.ref t14])) = G17 at gL3 kL3 s17 gt1 gt2 gt3 gt4 gt5 gt6 gt7 gt8 gt9 gt10 gt11 gL1 gt12 gt13 gt14 gL2 ⊢
    obtain ⟨v, hv, hm⟩ := at_modA (xs := [V.ref t1, V.ref t2, V.ref t3, V.ref t4, V.ref t5, V.ref t6, V.ref t7, V.ref t8, V.ref t9, V.ref t10, V.ref t11, V.int 0] ++ [V.non, V.str (S [98, 101, 103, 105, 110]), V.ref t12, V.ref t14]) (n := 16) rfl (by decide) (c / 24)
    refine ⟨_, rfl, _, _, rfl, rfl, ⟨by decide, by decide⟩, _, _, rfl, rfl, (by show (0 : Int) < 16; decide), L3, _, _, v, rfl, rfl, SqL.of gL3, hv, ?_⟩
    simp only [List.cons_append, List.nil_append, List.mem_cons, List.not_mem_nil, or_false] at hm
    have cF : ∀ i j : Int, ¬ (0 ≤ i ∧ i < (r : Int) ∧ 0 ≤ j ∧ j < (w : Int)) → beginB r w (some (some i, some j)) = false := fun i j h => decide_eq_false h
    rcases hm with e | e | e | e | e | e | e | e | e | e | e | e | e | e | e | e <;> subst e
    · exact q _ _ _ s17 (.two gt1 (.int _) (.int _)) (cF _ _ (by omega))
    · exact q _ _ _ s17 (.two gt2 (.int _) (.int _)) (cF _ _ (by omega))
    · exact q _ _ _ s17 (.two gt3 (.int _) (.int _)) (cF _ _ (by omega))
    · exact q _ _ _ s17 (.two gt4 (.int _) (.int _)) (cF _ _ (by omega))
    · exact q _ _ _ s17 (.two gt5 (.bl _) (.int _)) rfl
    · exact q _ _ _ s17 (.two gt6 (.int _) (.bl _)) rfl
    · exact q _ _ _ s17 (.two gt7 (.no ⟨_, .str _, by kernel_rfl⟩) (.int _)) rfl
    · exact q _ _ _ s17 (.two gt8 (.int _) (.no ⟨_, .non, by kernel_rfl⟩)) rfl
    · exact q _ _ _ s17 (.bad gt9 (by decide)) rfl
    · exact q _ _ _ s17 (.bad gt10 (by decide)) rfl
    · exact q _ _ _ s17 (.bad gt11 (by decide)) rfl
    · exact q _ _ _ s17 (.no ⟨_, .int _, by kernel_rfl⟩) rfl
    · exact q _ _ _ s17 (.no ⟨_, .non, by kernel_rfl⟩) rfl
    · exact q _ _ _ s17 (.no ⟨_, .str _, by kernel_rfl⟩) rfl
    · exact q _ _ _ s17 (.two gt12 (.int ((10 : Int) ^ (30 : Int).toNat)) (.int _)) (cF _ _ (by rw [show ((10 : Int) ^ (30 : Int).toNat) = 1000000000000000000000000000000 from by decide]; omega))
    · exact q _ _ _ s17 (.bad gt14 (by show 1 ≠ 2; decide)) rfl

end
end My
end

section
set_option Elab.async false
set_option linter.all false
set_option maxRecDepth 100000
set_option maxHeartbeats 2000000
namespace My
open PySem L2
section
variable {P : Program} {w : World} {K : PySem.W.Frag} {mg : Str → Option Value} {base : Heap}
def OddOk (Pc : Nat → Bool) (odds : List (List Nat)) : Prop := ∀ o ∈ odds, o.length ≤ 2 ∧ (o.length = 1 → ∀ c ∈ o, Pc c = false)
def BadE (Pc : Nat → Bool) (r w : Nat) (o : Option (List (Option (List Nat)))) : Prop := ∀ es, o = some es → (blkE es && (flE es).all Pc) = true → ¬ (es.length = r ∧ wdE es = w)
theorem BadE.none {Pc : Nat → Bool} {r w : Nat} : BadE Pc r w none := fun es e => by cases e
theorem BadE.blk {Pc : Nat → Bool} {r w : Nat} {es : List (Option (List Nat))} (h : blkE es = false) : BadE Pc r w (some es) := fun es' e z => by cases e; rw [h] at z; cases z
theorem blkE_T {ls : List (List Nat)} (h : ¬ (1 ≤ ls.length ∧ ls.length ≤ 9 ∧ ∃ w, 1 ≤ w ∧ w ≤ 9 ∧ ∀ l ∈ ls, l.length = w)) : blkE (ls.map some) = false := by
  cases e : blkE (ls.map some) with
  | false => rfl
  | true =>
    obtain ⟨ls', w, e1, hB, a, b, c, d, _⟩ := blkE_blk e
    have : ls = ls' := List.map_inj_right (fun x y z => by injection z) |>.mp e1
    subst this
    exact absurd ⟨a, b, w, c, d, hB.wid⟩ h
theorem Els.app {H : Hp} {xs ys : List V} {es fs : List (Option (List Nat))} (h : Els K H xs es) (g : Els K H ys fs) : Els K H (xs ++ ys) (es ++ fs) := by
  refine ⟨by rw [List.length_append, List.length_append, h.len, g.len], fun i l e => ?_, fun i x e e2 => ?_⟩
  · by_cases c : i < es.length
    · rw [List.getElem?_append_left c] at e
      rw [List.getElem?_append_left (by rw [h.len]; exact c)]
      exact h.txt i l e
    · rw [List.getElem?_append_right (by omega)] at e
      rw [List.getElem?_append_right (by rw [h.len]; omega), h.len]
      exact g.txt _ l e
  · by_cases c : i < es.length
    · rw [List.getElem?_append_left c] at e
      rw [List.getElem?_append_left (by rw [h.len]; exact c)] at e2
      exact h.non i x e e2
    · rw [List.getElem?_append_right (by omega)] at e
      rw [List.getElem?_append_right (by rw [h.len]; omega), h.len] at e2
      exact g.non _ x e e2
theorem Els.one {H : Hp} {x : V} (h : NoTy K "str" H x) : Els K H [x] [none] := ⟨rfl, fun i l e => by
  match i, e with
  | 0, e => cases e
  | n + 1, e => simp at e, fun i y e e2 => by
  match i, e2 with
  | 0, e2 => have e2 := Option.some.inj e2; subst e2; exact h
  | n + 1, e2 => simp at e2⟩
theorem cutT_to (ls : List (List Nat)) (m : Nat) : cutV (Ts ls) none (some (m : Int)) = Ts (ls.take m) := by
  unfold cutV
  rw [HT.sIx_nat, HT.sIx_none]
  simp only [List.drop_zero, Nat.sub_zero]
  rw [← List.map_take]
  congr 1
  rw [List.length_map]
  by_cases h : m ≤ ls.length
  · rw [Nat.min_eq_left h]
  · rw [Nat.min_eq_right (by omega), List.take_of_length_le (Nat.le_refl _), List.take_of_length_le (by omega)]
theorem cutT_from (ls : List (List Nat)) (m : Nat) : cutV (Ts ls) (some (m : Int)) none = Ts (ls.drop m) := by
  unfold cutV
  rw [HT.sIx_nat, HT.sIx_none, List.length_map]
  by_cases h : m ≤ ls.length
  · rw [Nat.min_eq_left h, List.take_of_length_le (by rw [List.length_drop, List.length_map]; omega), ← List.map_drop]
  · rw [Nat.min_eq_right (by omega), List.drop_eq_nil_of_le (show ls.length ≤ m by omega)]; simp
theorem Ts_sn (ls : List (List Nat)) (z : List Nat) : Ts ls ++ [V.str (S z)] = Ts (ls ++ [z]) := by simp [Ts]
theorem rep_Ts (n : Nat) (ls : List (List Nat)) : (List.replicate n (Ts ls)).flatten = Ts (List.replicate n ls).flatten := by
  induction n with
  | zero => rfl
  | succ n ih => rw [List.replicate_succ, List.replicate_succ, List.flatten_cons, List.flatten_cons, ih]; exact List.map_append.symm
def spBadR (K : PySem.W.Frag) (Pc : Nat → Bool) : Sp := fun vs H Q _ => ∃ (p : Addr) (ls : List (List Nat)) (r w : Nat) (c : Int) (a : Addr) (odds : List (List Nat)), vs = [.ref p, .int c, .ref a] ∧ H p = some (.tup (Ts ls)) ∧ Blk r w ls ∧ 1 ≤ r ∧ r ≤ 9 ∧ 1 ≤ w ∧ w ≤ 9 ∧ SqL K H a (Ts odds) ∧ 1 ≤ odds.length ∧ odds.length ≤ 10 ∧ OddOk Pc odds ∧
  ∀ (v : V) (o : Option (List (Option (List Nat)))) (H' : Hp), Same H H' → ThD K H' v o → BadE Pc r w o → Q v H'
def spBadRA (K : PySem.W.Frag) : Sp := fun vs H Q E => ∃ Pc : Nat → Bool, spBadR K Pc vs H Q E
theorem ok_bad_rows (D : DefAt K mg "_law_bad_rows" s_bad_rows ["_law_rows", "_law_cell", "_law_odd"]) (n_len : mg "len" = none) (n_tuple : mg "tuple" = none) (D_bad_text : Def P w K mg base "_law_bad_text" 1 ["_law_row", "_law_cell", "_law_odd"] (spBadT K)) : Def P w K mg base "_law_bad_rows" 2 ["_law_rows", "_law_cell", "_law_odd"] (spBadRA K) := by
  refine D.qok sc_bad_rows (fun vs H Q E h => ?_) (fun f cdv A outer s H vs Q E hr h => ?_)
  · obtain ⟨Pc, p, ls, r, w, c, a, odds, rfl, _⟩ := h
    rfl
  · obtain ⟨Pc, p, ls, r, w, c, a, odds, rfl, hp, hB, r1, r9, w1, w9, hS, o1, o10, oOk, q⟩ := h
    have hz : ∀ n, n ≤ 1000 → n ≤ sizeLine := fun n h => Nat.le_of_lt (small1000 h)
    have hln : (Ts ls).length = r := by rw [List.length_map, hB.len]
    have hl := hB.len
    have h0 : 0 < ls.length := by omega
    have hw0 : ls[0].length = w := hB.wid _ (List.getElem_mem _)
    have hwl : ∀ l ∈ ls, l.length ≤ 100 := fun l hm => by rw [hB.wid l hm]; omega
    have hfl := flat_len hB
    have hrw : r * w ≤ 81 := Nat.mul_le_mul r9 w9
    have i0 := Int.emod_nonneg (c / 24) (show (r : Int) ≠ 0 by omega)
    have i1 := Int.emod_lt_of_pos (c / 24) (show (0 : Int) < (r : Int) by omega)
    obtain ⟨i, ei⟩ : ∃ i : Nat, c / 24 % (r : Int) = i := ⟨(c / 24 % (r : Int)).toNat, by omega⟩
    have hi : i < ls.length := by omega
    have bl : ∀ {es : List (Option (List Nat))} {H' : Hp} {t : Addr} {xs : List V}, Same H H' → H' t = some (.tup xs) → Els K H' xs es → es.length ≤ 100 → (∀ l, some l ∈ es → l.length ≤ 100) → blkE es = false → Q (.ref t) H' := fun s' e he h1 h2 hb => q _ _ _ s' (.tup e he h1 h2) (.blk hb)
    refine ⟨_, (qss_cons (qs_set (i := 3) sc_bad_rows.nd rfl (Or.inl rfl) (qe_op op_mod (qv 1) qe_int)) (qss_cons (qs_set (i := 4) sc_bad_rows.nd rfl (Or.inl rfl) (qe_op op_mod (qe_op op_fdiv (qv 1) qe_int) (qe_callB call_len_seq (by rfl) n_len PySem.boot_len (qa_cons (qv 0) qa_nil)))) (qss_cons (qs_if (qt_cmpR op_eq (qv 3) qe_int (nomark _)) (qss_one (qs_ret (qe_ix ix_list (qe_lst (qa_cons (qe_strS [114, 111, 119, 115] (by decide +kernel)) (qa_cons qe_non (qa_cons qe_int (qa_cons qe_bl (qa_cons (qe_bm PySem.F.plainAttrs_str PySem.F.slot_str_join PySem.F.type_str_join mt_joinT (qe_strS [] (by decide +kernel)) (qa_cons (qv 0) qa_nil)) (qa_cons (qe_ix ix_tup (qv 0) qe_int (fun _ _ => rfl)) qa_nil))))))) (qe_op op_mod (qe_op op_fdiv (qv 1) qe_int) qe_int) (fun _ _ => rfl)))) qss_nil) (qss_cons (qs_if (qt_cmpR op_eq (qv 3) qe_int (nomark _)) (qss_one (qs_ret (qe_tup qa_nil))) qss_nil) (qss_cons (qs_if (qt_cmpR op_eq (qv 3) qe_int (nomark _)) (qss_one (qs_ret (qe_slice sl_tupW (qe_op op_repT (qv 0) qe_int) qo_none (qo_some qe_int)))) qss_nil) (qss_cons (qs_if (qt_cmpR op_eq (qv 3) qe_int (nomark _)) (qss_one (qs_ret (qe_callTy call_tuple_of (by rfl) n_tuple PyProof.Rows.boot_tuple (qa_cons (qe_comp rfl (CompOk.of sc_bad_rows.nd (by kernel_rfl)) (qi_tup (qv 0)) (fun _ _ _ _ _ => qts_nil) (fun _ _ _ _ _ => (qe_slice sl_S (qe_op op_mulS (qv 0) qe_int) qo_none (qo_some qe_int)))) qa_nil)))) qss_nil) (qss_cons (qs_if (qt_cmpR op_eq (qv 3) qe_int (nomark _)) (qss_one (qs_ret (qe_callTy call_tuple_of (by rfl) n_tuple PyProof.Rows.boot_tuple (qa_cons (qe_comp rfl (CompOk.of sc_bad_rows.nd (by kernel_rfl)) (qi_tup (qv 0)) (fun _ _ _ _ _ => qts_nil) (fun _ _ _ _ _ => (qe_strS [] (by decide +kernel)))) qa_nil)))) qss_nil) (qss_cons (qs_if (qt_cmpR op_eq (qv 3) qe_int (nomark _)) (qss_one (qs_ret (qe_op op_catW (qv 0) (qe_tup (qa_cons (qe_op op_addS (qe_ix ix_tup (qv 0) qe_int (fun _ _ => rfl)) (qe_strS [46] (by decide +kernel))) qa_nil))))) qss_nil) (qss_cons (qs_if (qt_cmpR op_eq (qv 3) qe_int (nomark _)) (qss_one (qs_ret (qe_op op_catW (qe_op op_catW (qe_slice sl_tupW (qv 0) qo_none (qo_some (qv 4))) (qe_tup (qa_cons (qe_ix ix_list (qe_lst (qa_cons qe_non (qa_cons qe_int (qa_cons qe_bl (qa_cons (qe_tup qa_nil) (qa_cons (qe_tup (qa_cons (qe_ix ix_tup (qv 0) qe_int (fun _ _ => rfl)) qa_nil)) qa_nil)))))) (qe_op op_mod (qe_op op_fdiv (qv 1) qe_int) qe_int) (fun _ _ => rfl)) qa_nil))) (qe_slice sl_tupW (qv 0) (qo_some (qe_op op_add (qv 4) qe_int)) qo_none)))) qss_nil) (qss_one (qs_ret (qe_op op_catW (qe_op op_catW (qe_slice sl_tupW (qv 0) qo_none (qo_some (qv 4))) (qe_tup (qa_cons (qe_own D_bad_text (hr.mono (by decide)) rfl (qa_cons (qe_ix ix_tup (qv 0) (qv 4) (fun _ _ => rfl)) (qa_cons (qv 1) (qa_cons (qv 2) qa_nil)))) qa_nil))) (qe_slice sl_tupW (qv 0) (qo_some (qe_op op_add (qv 4) qe_int)) qo_none))))))))))))), ?_⟩
    refine ⟨_, rfl, _, _, rfl, rfl, (by show (0 : Int) < 24; decide), ?_⟩
    dsimp only
    refine ⟨_, rfl, _, _, rfl, rfl, ⟨by decide, by decide⟩, _, rfl, p, _, rfl, .inr (SqT.of hp), _, _, rfl, rfl, (by show (0 : Int) < ((Ts ls).length : Int); omega), ?_⟩
    dsimp only
    rw [hln, ei]
    refine ⟨_, rfl, rfl, _, rfl, ite2 (fun _ => ?_) (fun _ => ?_)⟩
    · refine ⟨rfl, _, rfl, p, ls, rfl, rfl, SqT.of hp, by omega, _, rfl, p, _, _, .str (S ls[0]), rfl, rfl, SqT.of hp, atI_nat (j := 0) (Ts_at (by simp [h0])), by show 6 ≤ sizeLine; decide, fun L hL => ?_⟩
      obtain ⟨v, hv, hm⟩ := at_modA (xs := ([V.str (S [114, 111, 119, 115]), V.non, V.int 0, V.bl true, V.str (S ls.flatten), V.str (S ls[0])] : List V)) (n := 6) rfl (by decide) (c / 24)
      refine ⟨_, rfl, _, _, rfl, rfl, ⟨by decide, by decide⟩, _, _, rfl, rfl, (by show (0 : Int) < 6; decide), L, _, _, v, rfl, rfl, SqL.of upd_same, hv, ?_⟩
      simp only [List.mem_cons, List.not_mem_nil, or_false] at hm
      refine q v none _ (Same.upd hL) (.no ?_) .none
      rcases hm with e | e | e | e | e | e <;> subst e
      · exact ⟨_, .str _, by kernel_rfl⟩
      · exact ⟨_, .non, by kernel_rfl⟩
      · exact ⟨_, .int _, by kernel_rfl⟩
      · exact ⟨_, .bl _, by kernel_rfl⟩
      · exact ⟨_, .str _, by kernel_rfl⟩
      · exact ⟨_, .str _, by kernel_rfl⟩
    refine ⟨_, rfl, rfl, _, rfl, ite2 (fun _ => ?_) (fun _ => ?_)⟩
    · exact ⟨by show 0 ≤ sizeLine; decide, fun t ht => bl (Same.upd ht) upd_same (Els.ofT []) (by decide) (fun l h => by simp at h) rfl⟩
    refine ⟨_, rfl, rfl, _, rfl, ite2 (fun _ => ?_) (fun _ => ?_)⟩
    · refine ⟨_, rfl, p, _, 10, rfl, rfl, SqT.of hp, fun z => by rw [z] at hln; simp at hln; omega, by decide, by decide, by omega, fun t ht => ?_⟩
      refine ⟨_, rfl, t, _, rfl, upd_same, fun t2 H2 s2 e2 => ?_⟩
      rw [rep_Ts, show (10 : Int) = ((10 : Nat) : Int) from rfl, cutT_to] at e2
      have hl10 : ((List.replicate 10 ls).flatten.take 10).length = 10 := by rw [List.length_take, rep_len, hl]; omega
      refine bl ((Same.upd ht).trans s2) e2 (Els.ofT _) (by rw [List.length_map]; omega) (fun l h => ?_) (blkE_T fun z => by omega)
      obtain ⟨l', h1, h2⟩ := List.mem_map.mp h
      cases h2
      obtain ⟨m, hm1, hm2⟩ := List.mem_flatten.mp (List.mem_of_mem_take h1)
      rw [(List.mem_replicate.mp hm1).2] at hm2
      exact hwl l hm2
    have allT : ∀ (g : List Nat → List Nat) (n : Nat), n = 10 ∨ n = 0 → (∀ l ∈ ls, (g l).length = n) → ∀ (t : Addr) (H' : Hp), Same H H' → H' t = some (.tup (Ts (ls.map g))) → Q (.ref t) H' := fun g n hn hg t H' s' e => by
      refine bl s' e (Els.ofT _) (by rw [List.length_map, List.length_map]; omega) (fun l h => ?_) (blkE_T fun ⟨_, _, w', w1', w9', hw'⟩ => ?_)
      · obtain ⟨l', h1, h2⟩ := List.mem_map.mp h
        cases h2
        obtain ⟨m, hm1, rfl⟩ := List.mem_map.mp h1
        rw [hg m hm1]; omega
      · have e1 := hw' _ (List.mem_map.mpr ⟨_, List.getElem_mem h0, rfl⟩)
        rw [hg _ (List.getElem_mem h0)] at e1
        omega
    refine ⟨_, rfl, rfl, _, rfl, ite2 (fun _ => ?_) (fun _ => ?_)⟩
    · refine ⟨_, rfl, p, rfl, ⟨_, SqT.of hp⟩, fun L hL => comp_tup (xs := Ts ls) (fun i ys H2 => ys = Ts ((ls.take i).map fun l => ((List.replicate 10 l).flatten.take 10)) ∧ H2 L = some (.lst ys) ∧ Same H H2) ⟨rfl, upd_same, Same.upd hL⟩ (fun i ys H2 _ h => SqT.of (h.2.2 _ _ hp)) ?_ ?_⟩
      · rintro j x ys H2 hj ⟨rfl, hL2, sm⟩
        obtain ⟨l, hlj, rfl⟩ := Ts_get hj
        have hjl : j < (Ts ls).length := (List.getElem?_eq_some_iff.mp hj).1
        have hlw : l.length = w := hB.wid _ (List.mem_of_getElem? hlj)
        refine ⟨_, rfl, l, 10, rfl, rfl, by decide, by decide, by omega, _, rfl, _, rfl, by rw [rep_len]; exact hz _ (by omega), ?_⟩
        rw [show (some (10 : Int)) = some ((10 : Nat) : Int) from rfl, cut_to]
        refine ⟨hL2, by rw [List.length_map, List.length_map, List.length_take]; exact small1000 (by omega), Nxt.mk hjl ⟨?_, upd_same, sm.upd' hL⟩⟩
        rw [take_snoc hlj]
        exact Ts_sn _ _
      · rintro ys H2 ⟨rfl, hL2, sm⟩
        refine ⟨L, _, rfl, .inl ⟨SqL.of hL2, fun t ht => ?_⟩⟩
        refine allT (fun l => ((List.replicate 10 l).flatten.take 10)) 10 (.inl rfl) (fun l hm => ?_) t _ (sm.trans (Same.upd ht)) (by rw [upd_same, hln, ← hl, List.take_length])
        rw [List.length_take, rep_len, hB.wid l hm]; omega
    refine ⟨_, rfl, rfl, _, rfl, ite2 (fun _ => ?_) (fun _ => ?_)⟩
    · refine ⟨_, rfl, p, rfl, ⟨_, SqT.of hp⟩, fun L hL => comp_tup (xs := Ts ls) (fun i ys H2 => ys = Ts ((ls.take i).map fun _ => []) ∧ H2 L = some (.lst ys) ∧ Same H H2) ⟨rfl, upd_same, Same.upd hL⟩ (fun i ys H2 _ h => SqT.of (h.2.2 _ _ hp)) ?_ ?_⟩
      · rintro j x ys H2 hj ⟨rfl, hL2, sm⟩
        obtain ⟨l, hlj, rfl⟩ := Ts_get hj
        have hjl : j < (Ts ls).length := (List.getElem?_eq_some_iff.mp hj).1
        refine ⟨hL2, by rw [List.length_map, List.length_map, List.length_take]; exact small1000 (by omega), Nxt.mk hjl ⟨?_, upd_same, sm.upd' hL⟩⟩
        rw [take_snoc hlj]
        exact Ts_sn _ _
      · rintro ys H2 ⟨rfl, hL2, sm⟩
        refine ⟨L, _, rfl, .inl ⟨SqL.of hL2, fun t ht => ?_⟩⟩
        exact allT (fun _ => []) 0 (.inr rfl) (fun _ _ => rfl) t _ (sm.trans (Same.upd ht)) (by rw [upd_same, hln, ← hl, List.take_length])
    have hT0 : Ts ls ≠ [] := fun z => by rw [z] at hln; simp at hln; omega
    refine ⟨_, rfl, rfl, _, rfl, ite2 (fun _ => ?_) (fun _ => ?_)⟩
    · refine ⟨_, rfl, _, rfl, p, _, _, .str (S ls[0]), rfl, rfl, SqT.of hp, atI_nat (j := 0) (Ts_at (by simp [h0])), ls[0], [46], rfl, rfl, hz _ (by simp; omega), by show 1 ≤ sizeLine; decide, fun t ht => ?_⟩
      have kt : Same H (upd H t (HO.tup [V.str (S (ls[0] ++ [46]))])) := Same.upd ht
      refine ⟨p, t, _, _, rfl, rfl, SqT.of (kt _ _ hp), SqT.of upd_same, hz _ (by rw [hln]; simp; omega), fun z => absurd z hT0, (fun z => by cases z), fun t2 H2 s2 e2 => ?_⟩
      have e3 : H2 t2 = some (.tup (Ts (ls ++ [ls[0] ++ [46]]))) := by rw [e2, Ts_sn]
      refine bl (kt.trans s2) e3 (Els.ofT _) (by rw [List.length_map, List.length_append]; simp; omega) (fun l h => ?_) (blkE_T fun ⟨_, _, w', _, _, hw'⟩ => ?_)
      · obtain ⟨l', h1, h2⟩ := List.mem_map.mp h
        cases h2
        rcases List.mem_append.mp h1 with k | k
        · exact hwl l k
        · rw [List.mem_singleton.mp k, List.length_append, hw0]; simp; omega
      · have a1 := hw' ls[0] (List.mem_append_left _ (List.getElem_mem h0))
        have a2 := hw' (ls[0] ++ [46]) (List.mem_append_right _ (List.mem_singleton.mpr rfl))
        rw [List.length_append, a1] at a2
        simp at a2
    have mid : ∀ (H0 : Hp) (p1 t3 : Addr) (v : V), Same H H0 → H0 p1 = some (.tup (Ts (ls.take i))) → H0 t3 = some (.tup [v]) → ∀ (R : V → Hp → Prop), (∀ p2 H2, Same H0 H2 → H2 p2 = some (.tup (Ts (ls.take i) ++ [v])) → R (.ref p2) H2) → rCatW K (.ref p1) (.ref t3) H0 R := fun H0 p1 t3 v s0 e1 e3 R hR =>
      ⟨p1, t3, _, _, rfl, rfl, SqT.of e1, SqT.of e3, hz _ (by rw [List.length_map, List.length_take]; simp; omega), fun _ => e3, (fun z => by cases z), hR⟩
    have fin : ∀ (H0 : Hp) (p2 p3 : Addr) (v : V), H0 p2 = some (.tup (Ts (ls.take i) ++ [v])) → H0 p3 = some (.tup (Ts (ls.drop (i + 1)))) → ∀ (R : V → Hp → Prop), (∀ p4 H4, Same H0 H4 → H4 p4 = some (.tup ((Ts (ls.take i) ++ [v]) ++ Ts (ls.drop (i + 1)))) → R (.ref p4) H4) → rCatW K (.ref p2) (.ref p3) H0 R := fun H0 p2 p3 v e2 e3 R hR =>
      ⟨p2, p3, _, _, rfl, rfl, SqT.of e2, SqT.of e3, hz _ (by rw [List.length_append, List.length_map, List.length_map, List.length_take, List.length_drop]; simp; omega), (fun z => by simp at z), fun _ _ => e2, hR⟩
    have ei1 : (i : Int) + 1 = ((i + 1 : Nat) : Int) := by omega
    refine ⟨_, rfl, rfl, _, rfl, ite2 (fun _ => ?_) (fun _ => ?_)⟩
    · refine ⟨_, rfl, _, rfl, _, rfl, p, _, rfl, hp, fun p1 H1 s1 e1 => ?_⟩
      rw [cutT_to] at e1
      refine ⟨by show 0 ≤ sizeLine; decide, fun t1 ht1 => ?_⟩
      have k1 : Same H1 (upd H1 t1 (HO.tup [])) := Same.upd ht1
      have g1 : upd H1 t1 (HO.tup []) t1 = some (.tup []) := upd_same
      generalize upd H1 t1 (HO.tup []) = H2 at k1 g1 ⊢
      have k12 := s1.trans k1
      refine ⟨_, rfl, p, _, _, .str (S ls[0]), rfl, rfl, SqT.of (k12 _ _ hp), atI_nat (j := 0) (Ts_at (by simp [h0])), by show 1 ≤ sizeLine; decide, fun t2 ht2 => ?_⟩
      have k2 : Same H2 (upd H2 t2 (HO.tup [V.str (S ls[0])])) := Same.upd ht2
      have g2 : upd H2 t2 (HO.tup [V.str (S ls[0])]) t2 = some (.tup [V.str (S ls[0])]) := upd_same
      have g12 := k2 _ _ g1
      generalize upd H2 t2 (HO.tup [V.str (S ls[0])]) = H3 at k2 g2 g12 ⊢
      refine ⟨by show 5 ≤ sizeLine; decide, fun L hL => ?_⟩
      have k3 : Same H3 (upd H3 L (HO.lst [V.non, V.int 7, V.bl true, V.ref t1, V.ref t2])) := Same.upd hL
      have gL : upd H3 L (HO.lst [V.non, V.int 7, V.bl true, V.ref t1, V.ref t2]) L = some (.lst [V.non, V.int 7, V.bl true, V.ref t1, V.ref t2]) := upd_same
      have g13 := k3 _ _ g12
      have g23 := k3 _ _ g2
      generalize upd H3 L (HO.lst [V.non, V.int 7, V.bl true, V.ref t1, V.ref t2]) = H4 at k3 gL g13 g23 ⊢
      obtain ⟨v, hv, hm⟩ := at_modA (xs := ([V.non, V.int 7, V.bl true, V.ref t1, V.ref t2] : List V)) (n := 5) rfl (by decide) (c / 216)
      refine ⟨_, rfl, _, _, rfl, rfl, ⟨by decide, by decide⟩, _, _, rfl, rfl, (by show (0 : Int) < 5; decide), L, _, _, v, rfl, rfl, SqL.of gL, hv, by show 1 ≤ sizeLine; decide, fun t3 ht3 => ?_⟩
      have nv : NoTy K "str" H4 v := by
        simp only [List.mem_cons, List.not_mem_nil, or_false] at hm
        rcases hm with e | e | e | e | e <;> subst e
        · exact ⟨_, .non, by kernel_rfl⟩
        · exact ⟨_, .int _, by kernel_rfl⟩
        · exact ⟨_, .bl _, by kernel_rfl⟩
        · exact ⟨_, .tup g13, by kernel_rfl⟩
        · exact ⟨_, .tup g23, by kernel_rfl⟩
      have k4 : Same H4 (upd H4 t3 (HO.tup [v])) := Same.upd ht3
      have g4 : upd H4 t3 (HO.tup [v]) t3 = some (.tup [v]) := upd_same
      generalize upd H4 t3 (HO.tup [v]) = H5 at k4 g4 ⊢
      have k15 := ((k1.trans k2).trans k3).trans k4
      have kH5 := s1.trans k15
      refine mid H5 p1 t3 v kH5 (k15 _ _ e1) g4 _ fun p2 H6 s6 e6 => ?_
      refine ⟨_, rfl, _, rfl, _, _, rfl, rfl, _, rfl, p, _, rfl, s6 _ _ (kH5 _ _ hp), fun p3 H7 s7 e7 => ?_⟩
      rw [ei1, cutT_from] at e7
      refine fin H7 p2 p3 v (s7 _ _ e6) e7 _ fun p4 H8 s8 e8 => ?_
      have kH8 := ((kH5.trans s6).trans s7).trans s8
      refine bl kH8 e8 (((Els.ofT _).app (Els.one (nv.mv (((k4.trans s6).trans s7).trans s8)))).app (Els.ofT _)) ?_ (fun l h => ?_) ?_
      · rw [List.length_append, List.length_append, List.length_map, List.length_map, List.length_take, List.length_drop]; simp; omega
      · rcases List.mem_append.mp h with h | h
        · rcases List.mem_append.mp h with h | h
          · obtain ⟨l', h1, h2⟩ := List.mem_map.mp h
            cases h2
            exact hwl l (List.mem_of_mem_take h1)
          · simp at h
        · obtain ⟨l', h1, h2⟩ := List.mem_map.mp h
          cases h2
          exact hwl l (List.mem_of_mem_drop h1)
      · unfold blkE
        have hall : ((((ls.take i).map some ++ [none]) ++ (ls.drop (i + 1)).map some : List (Option (List Nat))).all fun e => e.isSome) = false := by simp
        rw [hall]
        simp
    · refine ⟨_, rfl, _, rfl, _, rfl, p, _, rfl, hp, fun p1 H1 s1 e1 => ?_⟩
      rw [cutT_to] at e1
      have hwi : ls[i].length = w := hB.wid _ (List.getElem_mem hi)
      refine ⟨_, rfl, _, rfl, p, _, _, .str (S ls[i]), rfl, rfl, SqT.of (s1 _ _ hp), atI_nat (Ts_at (by simp [hi])), _, rfl, _, rfl, ls[i], c, a, odds, rfl, s1.seq hS, by omega, by omega, o1, o10, fun o ho => (oOk o ho).1, fun j o hj ho => ?_⟩
      refine ⟨by show 1 ≤ sizeLine; decide, fun t3 ht3 => ?_⟩
      generalize hb' : ls[i].take j ++ o ++ ls[i].drop (j + 1) = b
      have k4 : Same H1 (upd H1 t3 (HO.tup [V.str (S b)])) := Same.upd ht3
      have g4 : upd H1 t3 (HO.tup [V.str (S b)]) t3 = some (.tup [V.str (S b)]) := upd_same
      generalize upd H1 t3 (HO.tup [V.str (S b)]) = H5 at k4 g4 ⊢
      have kH5 := s1.trans k4
      refine mid H5 p1 t3 _ kH5 (k4 _ _ e1) g4 _ fun p2 H6 s6 e6 => ?_
      refine ⟨_, rfl, _, rfl, _, _, rfl, rfl, _, rfl, p, _, rfl, s6 _ _ (kH5 _ _ hp), fun p3 H7 s7 e7 => ?_⟩
      rw [ei1, cutT_from] at e7
      refine fin H7 p2 p3 _ (s7 _ _ e6) e7 _ fun p4 H8 s8 e8 => ?_
      have kH8 := ((kH5.trans s6).trans s7).trans s8
      have hblen : b.length + 1 = w + o.length := by rw [← hb', List.length_append, List.length_append, List.length_take, List.length_drop]; omega
      have e9 : H8 p4 = some (.tup (Ts ((ls.take i ++ [b]) ++ ls.drop (i + 1)))) := by rw [e8, Ts_sn]; congr 2; simp [Ts]
      refine q _ _ _ kH8 (.tup e9 (Els.ofT _) ?_ fun l h => ?_) fun es ee hv hsz => ?_
      · rw [List.length_map, List.length_append, List.length_append, List.length_take, List.length_drop]; simp; omega
      · obtain ⟨l', h1, h2⟩ := List.mem_map.mp h
        cases h2
        rcases List.mem_append.mp h1 with h | h
        · rcases List.mem_append.mp h with h | h
          · exact hwl l (List.mem_of_mem_take h)
          · rw [List.mem_singleton.mp h]; have := (oOk o ho).1; omega
        · exact hwl l (List.mem_of_mem_drop h)
      · cases ee
        rw [Bool.and_eq_true] at hv
        obtain ⟨ls', w', e1', hB', _, _, _, _, ew⟩ := blkE_blk hv.1
        have el : (ls.take i ++ [b]) ++ ls.drop (i + 1) = ls' := List.map_inj_right (fun x y z => by injection z) |>.mp e1'
        have hbm : b ∈ ls' := by rw [← el]; exact List.mem_append_left _ (List.mem_append_right _ (List.mem_singleton.mpr rfl))
        have hbw := hB'.wid b hbm
        have ho1 : o.length = 1 := by have := hsz.2; omega
        have hpos : 0 < o.length := by omega
        have hPc := (oOk o ho).2 ho1 o[0] (List.getElem_mem hpos)
        rw [flE_T, List.all_eq_true] at hv
        have hcm : o[0] ∈ ((ls.take i ++ [b]) ++ ls.drop (i + 1)).flatten := List.mem_flatten.mpr ⟨b, by rw [el]; exact hbm, by rw [← hb']; exact List.mem_append_left _ (List.mem_append_right _ (List.getElem_mem hpos))⟩
        have := hv.2 _ hcm
        rw [hPc] at this; cases this

end
end My
end

section
set_option Elab.async false
set_option linter.all false
set_option maxRecDepth 100000
set_option maxHeartbeats 2000000
namespace My
open PySem L2
section
variable {P : Program} {w : World} {K : PySem.W.Frag} {mg : Str → Option Value} {base : Heap}
def spSpoilt (K : PySem.W.Frag) : Sp := fun vs H Q _ => ∃ (pr pm pb : Addr) (r w : Nat) (rows marks : List (List Nat)) (bi bj : Nat) (c : Int), vs = [.ref pr, .ref pm, .ref pb, .int c] ∧ H pr = some (.tup (Ts rows)) ∧ H pm = some (.tup (Ts marks)) ∧ H pb = some (.tup [.int bi, .int bj]) ∧ Brd r w rows marks bi bj ∧
  ∀ (t : Addr) (x y z : V) (oR oM : Option (List (Option (List Nat)))) (ob : Option (Option Int × Option Int)) (H' : Hp), Same H H' → H' t = some (.tup [x, y, z]) → ThD K H' x oR → ThD K H' y oM → BgD K H' z ob → boardB oR oM ob = false → Q (.ref t) H'
theorem ThD.ofT {H : Hp} {p : Addr} {ls : List (List Nat)} (h : H p = some (.tup (Ts ls))) (h1 : ls.length ≤ 100) (h2 : ∀ l ∈ ls, l.length ≤ 100) : ThD K H (.ref p) (some (ls.map some)) :=
  .tup h (Els.ofT _) (by rw [List.length_map]; exact h1) fun l hl => by
    obtain ⟨l', a, b⟩ := List.mem_map.mp hl
    cases b
    exact h2 l a
theorem wdE_T {r w : Nat} {ls : List (List Nat)} (hB : Blk r w ls) (r1 : 1 ≤ r) : wdE (ls.map some) = w := by
  have h0 : 0 < ls.length := by rw [hB.len]; omega
  unfold wdE
  rw [List.head?_eq_getElem?, List.getElem?_map, List.getElem?_eq_getElem h0]
  exact hB.wid _ (List.getElem_mem h0)
theorem bad_l {r w : Nat} {rows marks : List (List Nat)} {bi bj : Nat} {o : Option (List (Option (List Nat)))} {ob : Option (Option Int × Option Int)} (B : Brd r w rows marks bi bj) (h : BadE roB r w o) : boardB o (some (marks.map some)) ob = false := by
  cases o with
  | none => rfl
  | some es =>
    unfold boardB rowsE
    simp only
    cases e : (blkE es && (flE es).all roB) with
    | false => rfl
    | true =>
      have := h es rfl e
      rw [List.length_map, B.bm.len, wdE_T B.bm B.r1]
      by_cases a : es.length = r
      · rw [decide_eq_false (show ¬ w = wdE es from fun z => this ⟨a, z.symm⟩)]; simp
      · rw [decide_eq_false (show ¬ r = es.length from fun z => a z.symm)]; simp
theorem bad_r {r w : Nat} {rows marks : List (List Nat)} {bi bj : Nat} {o : Option (List (Option (List Nat)))} {ob : Option (Option Int × Option Int)} (B : Brd r w rows marks bi bj) (h : BadE mkB r w o) : boardB (some (rows.map some)) o ob = false := by
  cases o with
  | none => rfl
  | some es =>
    unfold boardB marksE
    simp only
    cases e : (blkE es && (flE es).all mkB) with
    | false => simp
    | true =>
      have := h es rfl e
      rw [List.length_map, B.br.len, wdE_T B.br B.r1]
      by_cases a : es.length = r
      · rw [decide_eq_false (show ¬ wdE es = w from fun z => this ⟨a, z⟩)]; simp
      · rw [decide_eq_false a]; simp
theorem bad_b {r w : Nat} {rows marks : List (List Nat)} {bi bj : Nat} {oM : List (Option (List Nat))} {ob : Option (Option Int × Option Int)} (B : Brd r w rows marks bi bj) (h : beginB r w ob = false) : boardB (some (rows.map some)) (some oM) ob = false := by
  unfold boardB
  simp only
  rw [List.length_map, B.br.len, wdE_T B.br B.r1, h]; simp
def odR : List (List Nat) := [[63], [32], [48], [45], [], [97, 97], [10], [91]]
def odM : List (List Nat) := [[49], [53], [97], [101], [66], [], [46, 46], [32]]
theorem odR_ok : OddOk roB odR := by
  intro o ho
  simp only [odR, List.mem_cons, List.not_mem_nil, or_false] at ho
  rcases ho with e | e | e | e | e | e | e | e <;> subst e <;> exact ⟨by decide, by decide⟩
theorem odM_ok : OddOk mkB odM := by
  intro o ho
  simp only [odM, List.mem_cons, List.not_mem_nil, or_false] at ho
  rcases ho with e | e | e | e | e | e | e | e <;> subst e <;> exact ⟨by decide, by decide⟩
theorem ok_spoilt (D : DefAt K mg "_law_spoilt" s_spoilt ["_law_rows", "_law_marks", "_law_begin", "_law_cell"]) (n_tuple : mg "tuple" = none) (D_bad_rows : Def P w K mg base "_law_bad_rows" 2 ["_law_rows", "_law_cell", "_law_odd"] (spBadRA K)) (D_bad_begin : Def P w K mg base "_law_bad_begin" 1 ["_law_rows", "_law_cell"] (spBadB K)) : Def P w K mg base "_law_spoilt" 3 ["_law_rows", "_law_marks", "_law_begin", "_law_cell"] (spSpoilt K) := by
  refine D.qok sc_spoilt (fun vs H Q E h => ?_) (fun f cdv A outer s H vs Q E hr h => ?_)
  · obtain ⟨pr, pm, pb, r, w, rows, marks, bi, bj, c, rfl, _⟩ := h
    rfl
  · obtain ⟨pr, pm, pb, r, w, rows, marks, bi, bj, c, rfl, hpr, hpm, hpb, B, q⟩ := h
    have hz : ∀ n, n ≤ 1000 → n ≤ sizeLine := fun n h => Nat.le_of_lt (small1000 h)
    have r9 := B.r9
    have w9 := B.w9
    have r1 := B.r1
    have lr : rows.length ≤ 100 := by rw [B.br.len]; omega
    have lm : marks.length ≤ 100 := by rw [B.bm.len]; omega
    have wr : ∀ l ∈ rows, l.length ≤ 100 := fun l h => by rw [B.br.wid l h]; omega
    have wm : ∀ l ∈ marks, l.length ≤ 100 := fun l h => by rw [B.bm.wid l h]; omega
    have h0m : 0 < marks.length := by rw [B.bm.len]; omega
    have bG : ∀ {H' : Hp}, Same H H' → BgD K H' (.ref pb) (some (some (bi : Int), some (bj : Int))) := fun s' => .two (s' _ _ hpb) (.int _) (.int _)
    refine ⟨_, (qss_cons (qs_set (i := 4) sc_spoilt.nd rfl (Or.inl rfl) (qe_op op_mod (qv 3) qe_int)) (qss_cons (qs_if (qt_cmpR op_lt (qv 4) qe_int (nomark _)) (qss_one (qs_ret (qe_tup (qa_cons (qe_own D_bad_rows (hr.mono (by decide)) rfl (qa_cons (qv 0) (qa_cons (qv 3) (qa_cons (qe_lst (qa_cons (qe_strS [63] (by decide +kernel)) (qa_cons (qe_strS [32] (by decide +kernel)) (qa_cons (qe_strS [48] (by decide +kernel)) (qa_cons (qe_strS [45] (by decide +kernel)) (qa_cons (qe_strS [] (by decide +kernel)) (qa_cons (qe_strS [97, 97] (by decide +kernel)) (qa_cons (qe_strS [10] (by decide +kernel)) (qa_cons (qe_strS [91] (by decide +kernel)) qa_nil))))))))) qa_nil)))) (qa_cons (qv 1) (qa_cons (qv 2) qa_nil)))))) qss_nil) (qss_cons (qs_if (qt_cmpR op_lt (qv 4) qe_int (nomark _)) (qss_one (qs_ret (qe_tup (qa_cons (qv 0) (qa_cons (qe_own D_bad_rows (hr.mono (by decide)) rfl (qa_cons (qv 1) (qa_cons (qe_op op_sub (qv 3) qe_int) (qa_cons (qe_lst (qa_cons (qe_strS [49] (by decide +kernel)) (qa_cons (qe_strS [53] (by decide +kernel)) (qa_cons (qe_strS [97] (by decide +kernel)) (qa_cons (qe_strS [101] (by decide +kernel)) (qa_cons (qe_strS [66] (by decide +kernel)) (qa_cons (qe_strS [] (by decide +kernel)) (qa_cons (qe_strS [46, 46] (by decide +kernel)) (qa_cons (qe_strS [32] (by decide +kernel)) qa_nil))))))))) qa_nil)))) (qa_cons (qv 2) qa_nil)))))) qss_nil) (qss_cons (qs_if (qt_cmpR op_eq (qv 4) qe_int (nomark _)) (qss_one (qs_ret (qe_tup (qa_cons (qv 0) (qa_cons (qe_op op_catW (qv 1) (qe_tup (qa_cons (qe_ix ix_tup (qv 1) qe_int (fun _ _ => rfl)) qa_nil))) (qa_cons (qv 2) qa_nil)))))) qss_nil) (qss_cons (qs_if (qt_cmpR op_eq (qv 4) qe_int (nomark _)) (qss_one (qs_ret (qe_tup (qa_cons (qv 0) (qa_cons (qe_callTy call_tuple_of (by rfl) n_tuple PyProof.Rows.boot_tuple (qa_cons (qe_comp rfl (CompOk.of sc_spoilt.nd (by kernel_rfl)) (qi_tup (qv 1)) (fun _ _ _ _ _ => qts_nil) (fun _ _ _ _ _ => (qe_op op_addS (qv 0) (qe_strS [46] (by decide +kernel))))) qa_nil)) (qa_cons (qv 2) qa_nil)))))) qss_nil) (qss_one (qs_ret (qe_tup (qa_cons (qv 0) (qa_cons (qv 1) (qa_cons (qe_own D_bad_begin (hr.mono (by decide)) rfl (qa_cons (qv 0) (qa_cons (qv 3) qa_nil))) qa_nil))))))))))), ?_⟩
    refine ⟨_, rfl, _, _, rfl, rfl, (by show (0 : Int) < 24; decide), ?_⟩
    dsimp only
    refine ⟨_, rfl, _, _, rfl, rfl, _, rfl, ite2 (fun _ => ?_) (fun _ => ?_)⟩
    · refine ⟨_, rfl, _, rfl, by show 8 ≤ sizeLine; decide, fun L hL => ?_⟩
      have kL : Same H (upd H L (HO.lst (Ts odR))) := Same.upd hL
      refine ⟨roB, pr, rows, r, w, c, L, odR, rfl, kL _ _ hpr, B.br, B.r1, B.r9, B.w1, B.w9, SqL.of upd_same, by decide, by decide, odR_ok, fun v o H1 s1 hT hb => ?_⟩
      have k1 := kL.trans s1
      refine ⟨_, rfl, _, rfl, by show 3 ≤ sizeLine; decide, fun t ht => ?_⟩
      have kt : Same H1 (upd H1 t (HO.tup [v, .ref pm, .ref pb])) := Same.upd ht
      exact q t v _ _ o _ _ _ (k1.trans kt) upd_same (hT.mv kt) (.ofT ((k1.trans kt) _ _ hpm) lm wm) (bG (k1.trans kt)) (bad_l B hb)
    refine ⟨_, rfl, _, _, rfl, rfl, _, rfl, ite2 (fun _ => ?_) (fun _ => ?_)⟩
    · refine ⟨_, rfl, _, rfl, _, rfl, _, _, rfl, rfl, by show 8 ≤ sizeLine; decide, fun L hL => ?_⟩
      have kL : Same H (upd H L (HO.lst (Ts odM))) := Same.upd hL
      refine ⟨mkB, pm, marks, r, w, c - 9, L, odM, rfl, kL _ _ hpm, B.bm, B.r1, B.r9, B.w1, B.w9, SqL.of upd_same, by decide, by decide, odM_ok, fun v o H1 s1 hT hb => ?_⟩
      have k1 := kL.trans s1
      refine ⟨_, rfl, by show 3 ≤ sizeLine; decide, fun t ht => ?_⟩
      have kt : Same H1 (upd H1 t (HO.tup [.ref pr, v, .ref pb])) := Same.upd ht
      exact q t _ v _ _ o _ _ (k1.trans kt) upd_same (.ofT ((k1.trans kt) _ _ hpr) lr wr) (hT.mv kt) (bG (k1.trans kt)) (bad_r B hb)
    refine ⟨_, rfl, rfl, _, rfl, ite2 (fun _ => ?_) (fun _ => ?_)⟩
    · refine ⟨_, rfl, _, rfl, _, rfl, pm, _, _, .str (S marks[0]), rfl, rfl, SqT.of hpm, atI_nat (j := 0) (Ts_at (by simp [h0m])), by show 1 ≤ sizeLine; decide, fun t1 ht1 => ?_⟩
      have k1 : Same H (upd H t1 (HO.tup [V.str (S marks[0])])) := Same.upd ht1
      refine ⟨pm, t1, _, _, rfl, rfl, SqT.of (k1 _ _ hpm), SqT.of upd_same, hz _ (by rw [List.length_map]; simp; omega), (fun z => absurd (congrArg List.length z) (fun y => by rw [List.length_map] at y; rw [y] at h0m; simp at h0m)), (fun z => by cases z), fun t2 H2 s2 e2 => ?_⟩
      have k2 := k1.trans s2
      rw [Ts_sn] at e2
      refine ⟨_, rfl, by show 3 ≤ sizeLine; decide, fun t ht => ?_⟩
      have kt : Same H2 (upd H2 t (HO.tup [.ref pr, .ref t2, .ref pb])) := Same.upd ht
      refine q t _ _ _ _ _ _ _ (k2.trans kt) upd_same (.ofT ((k2.trans kt) _ _ hpr) lr wr) (.ofT (kt _ _ e2) (by rw [List.length_append, B.bm.len]; simp; omega) fun l h => ?_) (bG (k2.trans kt)) (bad_r B fun es ee _ hsz => ?_)
      · rcases List.mem_append.mp h with k | k
        · exact wm l k
        · rw [List.mem_singleton.mp k]; exact wm _ (List.getElem_mem h0m)
      · cases ee
        have := hsz.1
        rw [List.length_map, List.length_append, B.bm.len] at this
        simp at this
    refine ⟨_, rfl, rfl, _, rfl, ite2 (fun _ => ?_) (fun _ => ?_)⟩
    · refine ⟨_, rfl, _, rfl, pm, rfl, ⟨_, SqT.of hpm⟩, fun L hL => comp_tup (xs := Ts marks) (fun (i : Nat) (ys : List V) (H2 : Hp) => ys = Ts ((marks.take i).map fun l : List Nat => (l ++ [46] : List Nat)) ∧ H2 L = some (.lst ys) ∧ Same H H2) ⟨rfl, upd_same, Same.upd hL⟩ (fun i ys H2 _ h => SqT.of (h.2.2 _ _ hpm)) ?_ ?_⟩
      · rintro j x ys H2 hj ⟨ey, hL2, sm⟩
        rw [ey] at hL2 ⊢
        obtain ⟨l, hlj, rfl⟩ := Ts_get hj
        have hjl : j < (Ts marks).length := (List.getElem?_eq_some_iff.mp hj).1
        have hlw := wm l (List.mem_of_getElem? hlj)
        have hjm : j < marks.length := by rw [List.length_map] at hjl; exact hjl
        refine ⟨_, rfl, l, [46], rfl, rfl, hz _ (by simp; omega), hL2, by rw [List.length_map, List.length_map, List.length_take]; exact small1000 (by omega), Nxt.mk hjl ⟨?_, upd_same, sm.upd' hL⟩⟩
        rw [take_snoc hlj]
        exact Ts_sn _ _
      · rintro ys H2 ⟨ey, hL2, sm⟩
        rw [ey] at hL2
        refine ⟨L, _, rfl, .inl ⟨SqL.of hL2, fun t2 ht2 => ?_⟩⟩
        rw [List.length_map, List.take_length]
        have k2 : Same H2 (upd H2 t2 (HO.tup (Ts (marks.map fun l : List Nat => (l ++ [46] : List Nat))))) := Same.upd ht2
        have g2 : upd H2 t2 (HO.tup (Ts (marks.map fun l : List Nat => (l ++ [46] : List Nat)))) t2 = some (.tup (Ts (marks.map fun l : List Nat => (l ++ [46] : List Nat)))) := upd_same
        generalize upd H2 t2 (HO.tup (Ts (marks.map fun l : List Nat => (l ++ [46] : List Nat)))) = H3 at k2 g2 ⊢
        have k3 := sm.trans k2
        refine ⟨_, rfl, by show 3 ≤ sizeLine; decide, fun t ht => ?_⟩
        have kt : Same H3 (upd H3 t (HO.tup [.ref pr, .ref t2, .ref pb])) := Same.upd ht
        have hB2 : Blk r (w + 1) (marks.map fun l : List Nat => (l ++ [46] : List Nat)) := ⟨by rw [List.length_map]; exact B.bm.len, fun l h => by
          obtain ⟨l', h1, rfl⟩ := List.mem_map.mp h
          rw [List.length_append, B.bm.wid l' h1]; rfl⟩
        refine q t _ _ _ _ _ _ _ (k3.trans kt) upd_same (.ofT ((k3.trans kt) _ _ hpr) lr wr) (.ofT (kt _ _ g2) (by rw [List.length_map]; exact lm) fun l h => by rw [hB2.wid l h]; omega) (bG (k3.trans kt)) (bad_r B fun es ee _ hsz => ?_)
        cases ee
        have := hsz.2
        rw [wdE_T hB2 B.r1] at this
        omega
    · refine ⟨_, rfl, _, rfl, _, rfl, _, rfl, pr, rows, r, w, c, rfl, hpr, B.br, B.r1, B.r9, B.w1, B.w9, fun v ob H1 s1 hb he => ?_⟩
      refine ⟨by show 3 ≤ sizeLine; decide, fun t ht => ?_⟩
      have kt : Same H1 (upd H1 t (HO.tup [.ref pr, .ref pm, v])) := Same.upd ht
      exact q t _ _ v _ _ ob _ (s1.trans kt) upd_same (.ofT ((s1.trans kt) _ _ hpr) lr wr) (.ofT ((s1.trans kt) _ _ hpm) lm wm) (hb.mv kt) (bad_b B he)

end
end My
end

section
set_option Elab.async false
set_option linter.all false
set_option maxRecDepth 100000
set_option maxHeartbeats 2000000
namespace My
open PySem L2
section
variable {P : Program} {w : World} {K : PySem.W.Frag} {mg : Str → Option Value} {base : Heap}
theorem rows_ascii {r w : Nat} {rows marks : List (List Nat)} {bi bj : Nat} (B : Brd r w rows marks bi bj) : ∀ l ∈ rows, ∀ c ∈ l, c < 128 := fun l hl c hc => by
  rcases B.cr l hl c hc with e | e
  · rw [e]; decide
  · exact e.lt
theorem marks_ascii {r w : Nat} {rows marks : List (List Nat)} {bi bj : Nat} (B : Brd r w rows marks bi bj) : ∀ l ∈ marks, ∀ c ∈ l, c < 128 := fun l hl c hc => by
  have : ∀ x ∈ MK, x < 128 := by decide
  exact this c (B.cm l hl c hc)
theorem HasDs.ofT {H : Hp} : ∀ {ls : List (List Nat)}, (∀ l ∈ ls, ∀ c ∈ l, c < 128) → HasDs K H 0 (ls.map Dt.str) (Ts ls)
  | [], _ => .nil
  | l :: ls, h => .cons (.str l (h l List.mem_cons_self)) (HasDs.ofT fun l' hl' => h l' (List.mem_cons_of_mem _ hl'))
theorem hasT {H : Hp} {a : Addr} {ls : List (List Nat)} (h : SqT K H a (Ts ls)) (ha : ∀ l ∈ ls, ∀ c ∈ l, c < 128) : HasD K H 1 (.tup (ls.map Dt.str)) (.ref a) := .tup h (HasDs.ofT ha)
theorem passFT {X : Cx} : PassesS (CXE X.prog X.w) X (fun _ _ _ => False) (fun _ => True) := passF
theorem blkE_brd {r w : Nat} {ls : List (List Nat)} (hB : Blk r w ls) (r1 : 1 ≤ r) (r9 : r ≤ 9) (w1 : 1 ≤ w) (w9 : w ≤ 9) : blkE (ls.map some) = true := by
  unfold blkE
  rw [wdE_T hB r1, List.length_map, hB.len]
  simp only [Bool.and_eq_true, decide_eq_true_eq, List.all_eq_true]
  refine ⟨⟨⟨⟨r1, r9⟩, fun e he => ?_⟩, w1, w9⟩, fun e he => ?_⟩
  · obtain ⟨l, _, rfl⟩ := List.mem_map.mp he
    rfl
  · obtain ⟨l, hl, rfl⟩ := List.mem_map.mp he
    exact hB.wid l hl
theorem boardB_brd {r w : Nat} {rows marks : List (List Nat)} {bi bj : Nat} (B : Brd r w rows marks bi bj) : boardB (some (rows.map some)) (some (marks.map some)) (some (some (bi : Int), some (bj : Int))) = true := by
  have h1 : rowsE (some (rows.map some)) = true := by
    unfold rowsE
    simp only [Bool.and_eq_true, List.all_eq_true]
    refine ⟨blkE_brd B.br B.r1 B.r9 B.w1 B.w9, fun c hc => ?_⟩
    rw [flE_T] at hc
    obtain ⟨l, hl, hcl⟩ := List.mem_flatten.mp hc
    unfold roB
    rw [Bool.or_eq_true]
    rcases B.cr l hl c hcl with e | e
    · exact .inl (by rw [e]; decide)
    · exact .inr e
  have h2 : marksE (some (marks.map some)) = true := by
    unfold marksE
    simp only [Bool.and_eq_true, List.all_eq_true]
    refine ⟨blkE_brd B.bm B.r1 B.r9 B.w1 B.w9, fun c hc => ?_⟩
    rw [flE_T] at hc
    obtain ⟨l, hl, hcl⟩ := List.mem_flatten.mp hc
    exact decide_eq_true (B.cm l hl c hcl)
  unfold boardB
  simp only
  rw [h1, h2, List.length_map, List.length_map, B.br.len, B.bm.len, wdE_T B.br B.r1, wdE_T B.bm B.r1]
  have hi := B.bi
  have hj := B.bj
  simp only [decide_true, Bool.and_true, Bool.true_and]
  unfold beginB cellB
  simp only [decide_eq_true_eq]
  omega
theorem ok_law {f C CN f0 : Addr} {fd fd0 : FuncData} (F : Fun K "law" "law" s_law f fd) (mg_Board : mg "Board" = some (.ref C)) (T_Board : BoardCls K C) (M_Board : Mk K C f0)
    (G_Board : FnOk P w K mg base (CXE P w) 5 f0 fd0 ["self", "rows", "marks", "begin"] (spBInitX K C CN)) (b_Board : Binds K fd0 ["self", "rows", "marks", "begin"] [])
    (D_cell_at : Def P w K mg base "_law_cell_at" 1 ["_law_script", "_law_k"] (spCell K)) (D_made : Def P w K mg base "_law_made" 3 ["_law_script", "_law_first"] (spMade K))
    (D_spoilt : Def P w K mg base "_law_spoilt" 3 ["_law_rows", "_law_marks", "_law_begin", "_law_cell"] (spSpoilt K)) (D_refused : Def P w K mg base "_law_refused" 7 ["_law_rows", "_law_marks", "_law_begin"] (spRefused K)) : FnOk P w K mg base CX0 9 f fd ["_law_script"] (spLaw K) := by
  refine F.qok sc_law (fun vs H Q E h => ?_) (fun cdv A outer s H vs Q E hr h => ?_)
  · obtain ⟨a, ns, rfl, _⟩ := h
    rfl
  · obtain ⟨a, ns, rfl, hS, hn, q⟩ := h
    refine ⟨_, (qss_cons (qs_asg (qe_own D_made (hr.mono (by decide)) rfl (qa_cons (qv 0) (qa_cons qe_int qa_nil))) (qg_tup rfl (qgs_cons (qg_name (i := 1) sc_law.nd rfl (Or.inl rfl)) (qgs_cons (qg_name (i := 2) sc_law.nd rfl (Or.inl rfl)) (qgs_cons (qg_name (i := 3) sc_law.nd rfl (Or.inl rfl)) qgs_nil))))) (qss_cons (qs_if (qt_cmpR (op_neD hr.units) (qe_fld (qe_makeS M_Board G_Board (hr.mono (by decide)) rfl mg_Board b_Board passFT (qa_cons (qv 1) (qa_cons (qv 2) (qa_cons (qv 3) qa_nil)))) rfl) (qv 1) (nomark _)) (qss_one (qs_ret qe_bl)) qss_nil) (qss_cons (qs_for PassesOwn.never rfl (qi_list (qe_lst (qa_cons (qe_own D_cell_at (hr.mono (by decide)) rfl (qa_cons (qv 0) (qa_cons qe_int qa_nil))) (qa_cons (qe_own D_cell_at (hr.mono (by decide)) rfl (qa_cons (qv 0) (qa_cons qe_int qa_nil))) qa_nil)))) (qg_name (i := 4) sc_law.nd rfl (Or.inl rfl)) (qss_cons (qs_asg (qe_own D_spoilt (hr.mono (by decide)) rfl (qa_cons (qv 1) (qa_cons (qv 2) (qa_cons (qv 3) (qa_cons (qv 4) qa_nil))))) (qg_tup rfl (qgs_cons (qg_name (i := 5) sc_law.nd rfl (Or.inl rfl)) (qgs_cons (qg_name (i := 6) sc_law.nd rfl (Or.inl rfl)) (qgs_cons (qg_name (i := 7) sc_law.nd rfl (Or.inl rfl)) qgs_nil))))) (qss_one (qs_if (qt_not (qt_val (qe_own D_refused (hr.mono (by decide)) rfl (qa_cons (qv 5) (qa_cons (qv 6) (qa_cons (qv 7) qa_nil)))))) (qss_one (qs_ret qe_bl)) qss_nil)))) (qss_one (qs_ret (qe_cmpR (op_eqD hr.units) (qe_fld (qe_makeS M_Board G_Board (hr.mono (by decide)) rfl mg_Board b_Board passFT (qa_cons (qv 1) (qa_cons (qv 2) (qa_cons (qv 3) qa_nil)))) rfl) (qv 2) (nomark _))))))), ?_⟩
    refine ⟨_, rfl, a, ns, 4, rfl, hS, hn, by decide, fun t pr pm pb r w rows marks bi bj H1 s1 ht hpr hpm hpb B => ?_⟩
    refine ⟨t, _, rfl, SqT.of ht, rfl, _, _, rfl, _, _, rfl, _, _, rfl, rfl, ?_⟩
    have r9 := B.r9
    have w9 := B.w9
    have lr : rows.length ≤ 100 := by rw [B.br.len]; omega
    have lm : marks.length ≤ 100 := by rw [B.bm.len]; omega
    have wr : ∀ l ∈ rows, l.length ≤ 100 := fun l h => by rw [B.br.wid l h]; omega
    have wm : ∀ l ∈ marks, l.length ≤ 100 := fun l h => by rw [B.bm.wid l h]; omega
    have ra := rows_ascii B
    have ma := marks_ascii B
    -- a board is made
    have mk : ∀ (H2 : Hp) (x dx : Addr), Same H1 H2 → H2 x = none → H2 dx = none → dx ≠ x → ∀ (Q' : VK) (E' : XK), (∀ H3, Same H2 H3 → H3 x = some (.ins C dx [("rows", .ref pr), ("marks", .ref pm), ("begin", .ref pb)]) → Q' .non H3) → spBInitX K C CN [.ref x, .ref pr, .ref pm, .ref pb] (upd (upd H2 dx (HO.own x)) x (HO.ins C dx [])) Q' E' := by
      intro H2 x dx s12 nx ndx nex Q' E' hq
      have s2 : Same H2 (upd (upd H2 dx (HO.own x)) x (HO.ins C dx [])) := fun b o e => by rw [upd_ne (ne_of_none e nx), upd_ne (ne_of_none e ndx)]; exact e
      have s3 := s12.trans s2
      refine ⟨x, dx, .ref pr, .ref pm, .ref pb, _, _, _, rfl, upd_same, .ofT (s3 _ _ hpr) lr wr, .ofT (s3 _ _ hpm) lm wm, .two (s3 _ _ hpb) (.int _) (.int _), fun _ H3 kp h3 => hq H3 (fun b o e => kp b o (s2 b o e) (ne_of_none e nx)) h3, fun z => ?_⟩
      rw [boardB_brd B] at z; cases z
    refine ⟨True.intro, _, rfl, _, rfl, _, rfl, fun x dx nx ndx nex => mk H1 x dx (Same.refl _) nx ndx nex _ _ fun H3 s3 hx3 => ⟨rfl, ?_⟩⟩
    refine ⟨x, C, dx, _, _, rfl, hx3, T_Board.cl, T_Board.nr, rfl, _, rfl, 1, _, _, by decide, hasT (SqT.of (s3 _ _ hpr)) ra, hasT (SqT.of (s3 _ _ hpr)) ra, _, rfl, ?_⟩
    simp only [if_true, decide_true, Bool.not_true]
    refine iteF ?_
    have s13 := s1.trans s3
    refine ⟨_, rfl, a, ns, 2, rfl, s13.seq hS, fun v2 => ⟨_, rfl, a, ns, 3, rfl, s13.seq hS, fun v3 => ⟨by show 2 ≤ sizeLine; decide, fun L hL => ?_⟩⟩⟩
    have sL : Same H3 (upd H3 L (HO.lst [.int v2, .int v3])) := Same.upd hL
    have hL4 : upd H3 L (HO.lst [.int v2, .int v3]) L = some (HO.lst [.int v2, .int v3]) := upd_same
    generalize upd H3 L (HO.lst [.int v2, .int v3]) = H4 at sL hL4 ⊢
    have s14 := s3.trans sL
    refine ⟨L, rfl, ⟨_, SqL.of hL4⟩, for_list (xs := [.int v2, .int v3]) (fun i σ H5 => ∃ v4 v5 v6 v7 : Option V, σ = [some (.ref a), some (.ref pr), some (.ref pm), some (.ref pb), v4, v5, v6, v7] ∧ Same H4 H5) ⟨none, none, none, none, rfl, Same.refl _⟩ (fun i σ H5 _ ⟨_, _, _, _, _, e⟩ => SqL.of (e _ _ hL4)) ?_ ?_⟩
    · rintro i y σ H5 hi ⟨v4, v5, v6, v7, rfl, s5⟩
      obtain ⟨c, rfl⟩ : ∃ c : Int, y = .int c := by
        have hm := List.mem_of_getElem? hi
        simp only [List.mem_cons, List.not_mem_nil, or_false] at hm
        rcases hm with z | z
        · exact ⟨_, z⟩
        · exact ⟨_, z⟩
      have s15 := s14.trans s5
      refine ⟨_, rfl, _, rfl, _, rfl, _, rfl, pr, pm, pb, r, w, rows, marks, bi, bj, c, rfl, s15 _ _ hpr, s15 _ _ hpm, s15 _ _ hpb, B, fun t2 x2 y2 z2 oR oM ob H6 s6 ht2 hR hM hb bad => ?_⟩
      refine ⟨t2, _, rfl, SqT.of ht2, rfl, _, _, rfl, _, _, rfl, _, _, rfl, rfl, ?_⟩
      refine ⟨_, rfl, _, rfl, _, rfl, x2, y2, z2, oR, oM, ob, rfl, hR, hM, hb, bad, fun H7 s7 => ⟨_, rfl, iteF ?_⟩⟩
      exact ⟨_, _, _, _, rfl, s5.trans (s6.trans s7)⟩
    · rintro σ H5 ⟨v4, v5, v6, v7, rfl, s5⟩
      have s15 := s14.trans s5
      refine ⟨True.intro, _, rfl, _, rfl, _, rfl, fun x dx nx ndx nex => mk H5 x dx s15 nx ndx nex _ _ fun H6 s6 hx6 => ⟨rfl, ?_⟩⟩
      have s16 := s15.trans s6
      refine ⟨x, C, dx, _, _, rfl, hx6, T_Board.cl, T_Board.nm, rfl, _, rfl, 1, _, _, by decide, hasT (SqT.of (s16 _ _ hpm)) ma, hasT (SqT.of (s16 _ _ hpm)) ma, ?_⟩
      simp only [decide_true]
      exact q _

end
end My
end

set_option Elab.async false
set_option linter.all false
set_option maxRecDepth 100000
set_option maxHeartbeats 2000000
namespace My
open PySem L2
section
variable {P : Program} {w : World} {K : PySem.W.Frag} {mg : Str → Option Value} {base : Heap}
structure BoardFacts (K : PySem.W.Frag) (mg : Str → Option Value) (C f0 : Addr) (fd0 : FuncData) : Prop where
  T : BoardCls K C
  mgC : mg "Board" = some (.ref C)
  M : Mk K C f0
  F0 : Fun K "__init__" "Board.__init__" s_Board_init f0 fd0
  b0 : Binds K fd0 ["self", "rows", "marks", "begin"] []
theorem Board_mk {h : Heap} {C f0 : Addr} (X : K.In h) (G : h.Ns mainGlobals mg)
    {od0 an0 : Option Addr} {sl0 : Array (Option Value)} {oc0 kV0 dc0 pm0 cd0 ct0 : Value}
    (aC : PySem.W.nsIn K mainGlobals "Board" = some (some (.ref C)))
    (a0 : PySem.W.findIn K (.ref C) "__init__" = some (some (.ref f0))) (i0 : PySem.W.isFn K (.ref f0) = true) (l0 : K.lookup f0 = some ⟨oc0, od0, .func (PySem.W.fnOf "__init__" "Board.__init__" (defArgs s_Board_init) (defBody s_Board_init) (defScope s_Board_init) .none kV0 dc0 pm0 an0 cd0 ct0), sl0⟩) (c0 : PySem.W.codeIn K cd0 "Board.__init__" = true) (k0 : PySem.W.keepIn K (.ref f0) = true)
    (pg : PySem.W.plainGet K C Str.empty = true) (hd : PySem.W.hasDictIn K C = true) (po : PySem.W.plainOver K C = true) (sa : PySem.W.findIn K (.ref C) "__setattr__" = some (some (.builtin "object.__setattr__"))) (mk : PySem.W.makesIn K C = true) (kc : PySem.W.keepIn K (.ref C) = true) (nf0 : PySem.W.findIn K (.ref C) "rows" = some none) (nf1 : PySem.W.findIn K (.ref C) "marks" = some none) (nf2 : PySem.W.findIn K (.ref C) "begin" = some none) : ∃ C f0 fd0, BoardFacts K mg C f0 fd0 := by
  have F0 := fun_mk (st := s_Board_init) l0 c0 k0
  exact ⟨C, f0, _, ⟨⟨pg, hd, po, sa⟩, nf0, nf1, nf2⟩, PySem.W.mg_of X G aC, ⟨mk, a0, i0, kc⟩, F0, F0.binds (ps := ["self", "rows", "marks", "begin"]) (fun _ _ _ _ _ _ us hl => match us, hl with | [_, _, _, _], _ => rfl)⟩
structure AllErr (K : PySem.W.Frag) (mg : Str → Option Value) (CN CR : Addr) : Prop where
  E : Errs K mg CN CR
  X : PySem.W.excIn K CN vErr "ValueError.__new__" = true
  o_NoDeed : ∃ C, mg "NoDeed" = some (.ref C) ∧ PySem.W.kitOne K (.ref CN) (.ref C) = some false
  o_NoLaying : ∃ C, mg "NoLaying" = some (.ref C) ∧ PySem.W.kitOne K (.ref CN) (.ref C) = some false
  o_Gap : ∃ C, mg "Gap" = some (.ref C) ∧ PySem.W.kitOne K (.ref CN) (.ref C) = some false
  o_NoText : ∃ C, mg "NoText" = some (.ref C) ∧ PySem.W.kitOne K (.ref CN) (.ref C) = some false
  o_NoWord : ∃ C, mg "NoWord" = some (.ref C) ∧ PySem.W.kitOne K (.ref CN) (.ref C) = some false
  o_TooFew : ∃ C, mg "TooFew" = some (.ref C) ∧ PySem.W.kitOne K (.ref CN) (.ref C) = some false
  o_Apart : ∃ C, mg "Apart" = some (.ref C) ∧ PySem.W.kitOne K (.ref CN) (.ref C) = some false
  o_Crooked : ∃ C, mg "Crooked" = some (.ref C) ∧ PySem.W.kitOne K (.ref CN) (.ref C) = some false
  o_Lacking : ∃ C, mg "Lacking" = some (.ref C) ∧ PySem.W.kitOne K (.ref CN) (.ref C) = some false
  o_NoBack : ∃ C, mg "NoBack" = some (.ref C) ∧ PySem.W.kitOne K (.ref CN) (.ref C) = some false
  o_NoRow : ∃ C, mg "NoRow" = some (.ref C) ∧ PySem.W.kitOne K (.ref CN) (.ref C) = some false
  o_Over : ∃ C, mg "Over" = some (.ref C) ∧ PySem.W.kitOne K (.ref CN) (.ref C) = some false
  o_Taken : ∃ C, mg "Taken" = some (.ref C) ∧ PySem.W.kitOne K (.ref CN) (.ref C) = some false
  o_Twice : ∃ C, mg "Twice" = some (.ref C) ∧ PySem.W.kitOne K (.ref CN) (.ref C) = some false
theorem allErr_mk {h : Heap} {CN CR C_NoDeed C_NoLaying C_Gap C_NoText C_NoWord C_TooFew C_Apart C_Crooked C_Lacking C_NoBack C_NoRow C_Over C_Taken C_Twice : Addr} (X : K.In h) (G : h.Ns mainGlobals mg)
    (aN : PySem.W.nsIn K mainGlobals "NoBoard" = some (some (.ref CN))) (aR : PySem.W.nsIn K mainGlobals "RackError" = some (some (.ref CR)))
    (a_NoDeed : PySem.W.nsIn K mainGlobals "NoDeed" = some (some (.ref C_NoDeed)))
    (a_NoLaying : PySem.W.nsIn K mainGlobals "NoLaying" = some (some (.ref C_NoLaying)))
    (a_Gap : PySem.W.nsIn K mainGlobals "Gap" = some (some (.ref C_Gap)))
    (a_NoText : PySem.W.nsIn K mainGlobals "NoText" = some (some (.ref C_NoText)))
    (a_NoWord : PySem.W.nsIn K mainGlobals "NoWord" = some (some (.ref C_NoWord)))
    (a_TooFew : PySem.W.nsIn K mainGlobals "TooFew" = some (some (.ref C_TooFew)))
    (a_Apart : PySem.W.nsIn K mainGlobals "Apart" = some (some (.ref C_Apart)))
    (a_Crooked : PySem.W.nsIn K mainGlobals "Crooked" = some (some (.ref C_Crooked)))
    (a_Lacking : PySem.W.nsIn K mainGlobals "Lacking" = some (some (.ref C_Lacking)))
    (a_NoBack : PySem.W.nsIn K mainGlobals "NoBack" = some (some (.ref C_NoBack)))
    (a_NoRow : PySem.W.nsIn K mainGlobals "NoRow" = some (some (.ref C_NoRow)))
    (a_Over : PySem.W.nsIn K mainGlobals "Over" = some (some (.ref C_Over)))
    (a_Taken : PySem.W.nsIn K mainGlobals "Taken" = some (some (.ref C_Taken)))
    (a_Twice : PySem.W.nsIn K mainGlobals "Twice" = some (some (.ref C_Twice)))
    (ex : PySem.W.excIn K CN vErr "ValueError.__new__" = true) (cl : (PySem.W.clsIn K CN).isSome = true)
    (ga : PySem.W.findIn K (.ref CN) "__getattribute__" = some (some (.builtin "BaseException.__getattribute__")))
    (gx : PySem.W.findIn K (.ref CN) "__getattr__" = some none)
    (ha : PySem.W.findIn K (.ref CN) "__class__" = some (some (.builtin "object.__class__")))
    (hn : PySem.W.specialIn K (.builtin "object.__class__") "__get__" = some (some (.builtin "getset_descriptor.__get__")))
    (ht : PySem.W.takesIn K (.builtin "object.__class__") = some true)
    (hm : PySem.W.mroIn K CN (.type "object") = some true)
    (hb : PySem.W.mroIn K CN (.type "BaseException") = some true)
    (rk : PySem.W.exmOne K (.ref CN) (.ref CR) = some true) (val : PySem.W.kitOne K (.ref CN) (.type "ValueError") = some true)
    (k_NoDeed : PySem.W.kitOne K (.ref CN) (.ref C_NoDeed) = some false)
    (k_NoLaying : PySem.W.kitOne K (.ref CN) (.ref C_NoLaying) = some false)
    (k_Gap : PySem.W.kitOne K (.ref CN) (.ref C_Gap) = some false)
    (k_NoText : PySem.W.kitOne K (.ref CN) (.ref C_NoText) = some false)
    (k_NoWord : PySem.W.kitOne K (.ref CN) (.ref C_NoWord) = some false)
    (k_TooFew : PySem.W.kitOne K (.ref CN) (.ref C_TooFew) = some false)
    (k_Apart : PySem.W.kitOne K (.ref CN) (.ref C_Apart) = some false)
    (k_Crooked : PySem.W.kitOne K (.ref CN) (.ref C_Crooked) = some false)
    (k_Lacking : PySem.W.kitOne K (.ref CN) (.ref C_Lacking) = some false)
    (k_NoBack : PySem.W.kitOne K (.ref CN) (.ref C_NoBack) = some false)
    (k_NoRow : PySem.W.kitOne K (.ref CN) (.ref C_NoRow) = some false)
    (k_Over : PySem.W.kitOne K (.ref CN) (.ref C_Over) = some false)
    (k_Taken : PySem.W.kitOne K (.ref CN) (.ref C_Taken) = some false)
    (k_Twice : PySem.W.kitOne K (.ref CN) (.ref C_Twice) = some false)
    : ∃ CN CR, AllErr K mg CN CR :=
  ⟨CN, CR, ⟨⟨PySem.W.mg_of X G aN, PySem.W.mg_of X G aR, ⟨cl, ga, gx, ha, hn, ht, hm, hb⟩, rk, by unfold PySem.W.kitOne; rw [if_pos (by simp)], val⟩, ex, ⟨_, PySem.W.mg_of X G a_NoDeed, k_NoDeed⟩, ⟨_, PySem.W.mg_of X G a_NoLaying, k_NoLaying⟩, ⟨_, PySem.W.mg_of X G a_Gap, k_Gap⟩, ⟨_, PySem.W.mg_of X G a_NoText, k_NoText⟩, ⟨_, PySem.W.mg_of X G a_NoWord, k_NoWord⟩, ⟨_, PySem.W.mg_of X G a_TooFew, k_TooFew⟩, ⟨_, PySem.W.mg_of X G a_Apart, k_Apart⟩, ⟨_, PySem.W.mg_of X G a_Crooked, k_Crooked⟩, ⟨_, PySem.W.mg_of X G a_Lacking, k_Lacking⟩, ⟨_, PySem.W.mg_of X G a_NoBack, k_NoBack⟩, ⟨_, PySem.W.mg_of X G a_NoRow, k_NoRow⟩, ⟨_, PySem.W.mg_of X G a_Over, k_Over⟩, ⟨_, PySem.W.mg_of X G a_Taken, k_Taken⟩, ⟨_, PySem.W.mg_of X G a_Twice, k_Twice⟩⟩⟩
theorem law_all (n_len : mg "len" = none) (n_range : mg "range" = none) (n_tuple : mg "tuple" = none) (n_str : mg "str" = none) (n_int : mg "int" = none) (n_bool : mg "bool" = none) (n_all : mg "all" = none) (n_any : mg "any" = none) (n_min : mg "min" = none) (n_max : mg "max" = none) (n_isinstance : mg "isinstance" = none) (n_ValueError : mg "ValueError" = none)
    (g_FREE : ∃ t, mg "FREE" = some (.str (S [46]) t)) (g_MARKS : ∃ t, mg "MARKS" = some (.str (S MK) t)) (g_MOST : ∃ t, mg "MOST" = some (.int 9 t)) (d_is_whole : DefAt K mg "is_whole" s_is_whole ["thing"]) (d_is_sign : DefAt K mg "is_sign" s_is_sign ["thing"]) (d_is_block : DefAt K mg "is_block" s_is_block ["thing"]) (d_are_rows : DefAt K mg "are_rows" s_are_rows ["thing"]) (d_are_marks : DefAt K mg "are_marks" s_are_marks ["thing"]) (d_is_cell_of : DefAt K mg "is_cell_of" s_is_cell_of ["rows", "row", "column"]) (d_is_begin_of : DefAt K mg "is_begin_of" s_is_begin_of ["rows", "thing"]) (d_is_board : DefAt K mg "is_board" s_is_board ["rows", "marks", "begin"]) (d_cell_at : DefAt K mg "_law_cell_at" s_cell_at ["_law_script", "_law_k"]) (d_stream : DefAt K mg "_law_stream" s_stream ["_law_cell", "_law_many"]) (d_letters : DefAt K mg "_law_letters" s_letters ["_law_cell"]) (d_size : DefAt K mg "_law_size" s_size ["_law_cell"]) (d_sign : DefAt K mg "_law_sign" s_sign ["_law_number", "_law_letters_here"]) (d_texts : DefAt K mg "_law_texts" s_texts ["_law_signs", "_law_columns"]) (d_numbers : DefAt K mg "_law_numbers" s_numbers ["_law_script", "_law_first", "_law_many"]) (d_made : DefAt K mg "_law_made" s_made ["_law_script", "_law_first"]) (d_bad_text : DefAt K mg "_law_bad_text" s_bad_text ["_law_row", "_law_cell", "_law_odd"]) (d_bad_rows : DefAt K mg "_law_bad_rows" s_bad_rows ["_law_rows", "_law_cell", "_law_odd"]) (d_bad_begin : DefAt K mg "_law_bad_begin" s_bad_begin ["_law_rows", "_law_cell"]) (d_spoilt : DefAt K mg "_law_spoilt" s_spoilt ["_law_rows", "_law_marks", "_law_begin", "_law_cell"]) (d_refused : DefAt K mg "_law_refused" s_refused ["_law_rows", "_law_marks", "_law_begin"]) {C_Board fBoard0 : Addr} {fdBoard0 : FuncData} (B_Board : BoardFacts K mg C_Board fBoard0 fdBoard0) {CN CR : Addr} (R : AllErr K mg CN CR)
    {f : Addr} {fd : FuncData} (F : Fun K "law" "law" s_law f fd) : FnOk P w K mg base CX0 20 f fd ["_law_script"] (spLaw K) := by
  have c1 := ok_cell_at (P := P) (w := w) (base := base) d_cell_at n_len
  have c2 := ok_stream (P := P) (w := w) (base := base) d_stream n_range
  have c3 := ok_letters (P := P) (w := w) (base := base) d_letters n_range
  have c4 := ok_sign (P := P) (w := w) (base := base) d_sign n_len
  have c5 := ok_size (P := P) (w := w) (base := base) d_size
  have c6 := ok_texts (P := P) (w := w) (base := base) d_texts n_len n_range n_tuple
  have c7 := ok_numbers d_numbers n_len n_range n_min n_max c1 c2
  have c8 := ok_made d_made n_int c1 c5 c3 c7 c4 c6
  have p1 := ok_is_sign (P := P) (w := w) (base := base) d_is_sign n_len n_str n_isinstance
  have p2 := ok_is_wholeG (P := P) (w := w) (base := base) d_is_whole n_int n_bool n_isinstance
  have p3 := ok_is_blockG (P := P) (w := w) (base := base) d_is_block n_len n_tuple n_str n_all n_isinstance g_MOST
  have p4 := ok_are_rowsG d_are_rows n_all g_FREE p3 p1
  have p5 := ok_are_marksG d_are_marks n_all g_MARKS p3
  have p6 := ok_is_cell_ofG d_is_cell_of n_len p2
  have p7 := ok_is_begin_ofG d_is_begin_of n_len n_tuple n_isinstance p6
  have p8 := ok_is_boardG d_is_board n_len p4 p5 p7
  have g0 := ok_board_initX B_Board.F0 B_Board.T R.E.mgN R.X p8
  have l1 := ok_bad_text (P := P) (w := w) (base := base) d_bad_text n_len
  have l2 := ok_bad_begin (P := P) (w := w) (base := base) d_bad_begin n_len
  have l3 := ok_bad_rows d_bad_rows n_len n_tuple l1
  have l4 := ok_spoilt d_spoilt n_tuple l3 l2
  have l5 := ok_refused d_refused n_isinstance n_any n_ValueError R.E R.o_NoDeed R.o_NoLaying R.o_Gap R.o_NoText R.o_NoWord R.o_TooFew R.o_Apart R.o_Crooked R.o_Lacking R.o_NoBack R.o_NoRow R.o_Over R.o_Taken R.o_Twice B_Board.mgC B_Board.M g0 B_Board.b0
  exact (ok_law F B_Board.mgC B_Board.T B_Board.M g0 B_Board.b0 c1 c8 l4 l5).mono (by decide)
end
end My
def PySem.W.Fast.tw12057600810847644114 : Nat := 0
def PySem.W.Fast.tw2147099877531026911 : Nat := 0
def PySem.W.Fast.tw16181542873282305607 : Nat := 0
def PySem.W.Fast.tw15832031609113238241 : Nat := 0
def PySem.W.Fast.tw13277128806966988544 : Nat := 0
def PySem.W.Fast.tw6172121688075238706 : Nat := 0
def PySem.W.Fast.tw13495819164732348917 : Nat := 0
def PySem.W.Fast.tw17737053514742927745 : Nat := 0
def PySem.W.Fast.tw661515677573092062 : Nat := 0
def PySem.W.Fast.tw9389371262217194569 : Nat := 0
def PySem.W.Fast.tw8647555003789364850 : Nat := 0
def PySem.W.Fast.tw18434686970832292796 : Nat := 0
def PySem.W.Fast.tw15596411478716270540 : Nat := 0
def PySem.W.Fast.tw17152506032869780520 : Nat := 0
def PySem.W.Fast.tw15361275261454012133 : Nat := 0
def PySem.W.Fast.tw17920806895065900230 : Nat := 0
def PySem.W.Fast.tw8355396335286474931 : Nat := 0
def PySem.W.Fast.tw8927716973253310726 : Nat := 0
def PySem.W.Fast.tw11641298288942613241 : Nat := 0
def PySem.W.Fast.tw6475998706151643626 : Nat := 0
def PySem.W.Fast.tw3999765376461711071 : Nat := 0
open PySem PySem.W PyProof.Rows
set_option maxRecDepth 100000 in
set_option maxHeartbeats 0 in
theorem PySem.Challenge.cw_letterrack_k14_no_boards_holds : PySem.Challenge.rw_letterrack_k14_no_boards.Holds := by
  w_on; o_law; k_head; (case hw => w_witness2)
  k_fill
  refine L2.walkLaw (x := "_law_script") (l := PySem.Challenge.rw_letterrack_k14_no_boards) rfl rfl (fun w h Y => PySem.W.kIn_of Y) ?F
  case F =>
    intro w mg fa h KX G hmg
    have n_len : mg "len" = none := by
      refine' PySem.W.mg_none_of KX G ?z
      (case z => k_is)
    have n_range : mg "range" = none := by
      refine' PySem.W.mg_none_of KX G ?z
      (case z => k_is)
    have n_tuple : mg "tuple" = none := by
      refine' PySem.W.mg_none_of KX G ?z
      (case z => k_is)
    have n_str : mg "str" = none := by
      refine' PySem.W.mg_none_of KX G ?z
      (case z => k_is)
    have n_int : mg "int" = none := by
      refine' PySem.W.mg_none_of KX G ?z
      (case z => k_is)
    have n_bool : mg "bool" = none := by
      refine' PySem.W.mg_none_of KX G ?z
      (case z => k_is)
    have n_all : mg "all" = none := by
      refine' PySem.W.mg_none_of KX G ?z
      (case z => k_is)
    have n_any : mg "any" = none := by
      refine' PySem.W.mg_none_of KX G ?z
      (case z => k_is)
    have n_min : mg "min" = none := by
      refine' PySem.W.mg_none_of KX G ?z
      (case z => k_is)
    have n_max : mg "max" = none := by
      refine' PySem.W.mg_none_of KX G ?z
      (case z => k_is)
    have n_isinstance : mg "isinstance" = none := by
      refine' PySem.W.mg_none_of KX G ?z
      (case z => k_is)
    have n_ValueError : mg "ValueError" = none := by
      refine' PySem.W.mg_none_of KX G ?z
      (case z => k_is)
    have g_FREE : ∃ t, mg "FREE" = some (.str (L2.S [46]) t) := by
      refine' L2.glob_str KX G ?z
      (case z => k_is)
    have g_MARKS : ∃ t, mg "MARKS" = some (.str (L2.S My.MK) t) := by
      refine' L2.glob_str KX G ?z
      (case z => k_is)
    have g_MOST : ∃ t, mg "MOST" = some (.int 9 t) := by
      refine' L2.glob_int KX G ?z
      (case z => k_is)
    have d_is_whole : L2.DefAt (L2.KOf KX) mg "is_whole" My.s_is_whole ["thing"] := by
      dsimp only [L2.KOf]
      refine' L2.defat_mk KX G ?a ?l ?c ?k ?b
      (case a => k_is); (case l => k_is); (case c => k_is); (case k => k_is)
      (case b => exact fun _ _ _ _ _ _ us hl => match us, hl with | [_], _ => rfl)
    have d_is_sign : L2.DefAt (L2.KOf KX) mg "is_sign" My.s_is_sign ["thing"] := by
      dsimp only [L2.KOf]
      refine' L2.defat_mk KX G ?a ?l ?c ?k ?b
      (case a => k_is); (case l => k_is); (case c => k_is); (case k => k_is)
      (case b => exact fun _ _ _ _ _ _ us hl => match us, hl with | [_], _ => rfl)
    have d_is_block : L2.DefAt (L2.KOf KX) mg "is_block" My.s_is_block ["thing"] := by
      dsimp only [L2.KOf]
      refine' L2.defat_mk KX G ?a ?l ?c ?k ?b
      (case a => k_is); (case l => k_is); (case c => k_is); (case k => k_is)
      (case b => exact fun _ _ _ _ _ _ us hl => match us, hl with | [_], _ => rfl)
    have d_are_rows : L2.DefAt (L2.KOf KX) mg "are_rows" My.s_are_rows ["thing"] := by
      dsimp only [L2.KOf]
      refine' L2.defat_mk KX G ?a ?l ?c ?k ?b
      (case a => k_is); (case l => k_is); (case c => k_is); (case k => k_is)
      (case b => exact fun _ _ _ _ _ _ us hl => match us, hl with | [_], _ => rfl)
    have d_are_marks : L2.DefAt (L2.KOf KX) mg "are_marks" My.s_are_marks ["thing"] := by
      dsimp only [L2.KOf]
      refine' L2.defat_mk KX G ?a ?l ?c ?k ?b
      (case a => k_is); (case l => k_is); (case c => k_is); (case k => k_is)
      (case b => exact fun _ _ _ _ _ _ us hl => match us, hl with | [_], _ => rfl)
    have d_is_cell_of : L2.DefAt (L2.KOf KX) mg "is_cell_of" My.s_is_cell_of ["rows", "row", "column"] := by
      dsimp only [L2.KOf]
      refine' L2.defat_mk KX G ?a ?l ?c ?k ?b
      (case a => k_is); (case l => k_is); (case c => k_is); (case k => k_is)
      (case b => exact fun _ _ _ _ _ _ us hl => match us, hl with | [_, _, _], _ => rfl)
    have d_is_begin_of : L2.DefAt (L2.KOf KX) mg "is_begin_of" My.s_is_begin_of ["rows", "thing"] := by
      dsimp only [L2.KOf]
      refine' L2.defat_mk KX G ?a ?l ?c ?k ?b
      (case a => k_is); (case l => k_is); (case c => k_is); (case k => k_is)
      (case b => exact fun _ _ _ _ _ _ us hl => match us, hl with | [_, _], _ => rfl)
    have d_is_board : L2.DefAt (L2.KOf KX) mg "is_board" My.s_is_board ["rows", "marks", "begin"] := by
      dsimp only [L2.KOf]
      refine' L2.defat_mk KX G ?a ?l ?c ?k ?b
      (case a => k_is); (case l => k_is); (case c => k_is); (case k => k_is)
      (case b => exact fun _ _ _ _ _ _ us hl => match us, hl with | [_, _, _], _ => rfl)
    have d_cell_at : L2.DefAt (L2.KOf KX) mg "_law_cell_at" My.s_cell_at ["_law_script", "_law_k"] := by
      dsimp only [L2.KOf]
      refine' L2.defat_mk KX G ?a ?l ?c ?k ?b
      (case a => k_is); (case l => k_is); (case c => k_is); (case k => k_is)
      (case b => exact fun _ _ _ _ _ _ us hl => match us, hl with | [_, _], _ => rfl)
    have d_stream : L2.DefAt (L2.KOf KX) mg "_law_stream" My.s_stream ["_law_cell", "_law_many"] := by
      dsimp only [L2.KOf]
      refine' L2.defat_mk KX G ?a ?l ?c ?k ?b
      (case a => k_is); (case l => k_is); (case c => k_is); (case k => k_is)
      (case b => exact fun _ _ _ _ _ _ us hl => match us, hl with | [_, _], _ => rfl)
    have d_letters : L2.DefAt (L2.KOf KX) mg "_law_letters" My.s_letters ["_law_cell"] := by
      dsimp only [L2.KOf]
      refine' L2.defat_mk KX G ?a ?l ?c ?k ?b
      (case a => k_is); (case l => k_is); (case c => k_is); (case k => k_is)
      (case b => exact fun _ _ _ _ _ _ us hl => match us, hl with | [_], _ => rfl)
    have d_size : L2.DefAt (L2.KOf KX) mg "_law_size" My.s_size ["_law_cell"] := by
      dsimp only [L2.KOf]
      refine' L2.defat_mk KX G ?a ?l ?c ?k ?b
      (case a => k_is); (case l => k_is); (case c => k_is); (case k => k_is)
      (case b => exact fun _ _ _ _ _ _ us hl => match us, hl with | [_], _ => rfl)
    have d_sign : L2.DefAt (L2.KOf KX) mg "_law_sign" My.s_sign ["_law_number", "_law_letters_here"] := by
      dsimp only [L2.KOf]
      refine' L2.defat_mk KX G ?a ?l ?c ?k ?b
      (case a => k_is); (case l => k_is); (case c => k_is); (case k => k_is)
      (case b => exact fun _ _ _ _ _ _ us hl => match us, hl with | [_, _], _ => rfl)
    have d_texts : L2.DefAt (L2.KOf KX) mg "_law_texts" My.s_texts ["_law_signs", "_law_columns"] := by
      dsimp only [L2.KOf]
      refine' L2.defat_mk KX G ?a ?l ?c ?k ?b
      (case a => k_is); (case l => k_is); (case c => k_is); (case k => k_is)
      (case b => exact fun _ _ _ _ _ _ us hl => match us, hl with | [_, _], _ => rfl)
    have d_numbers : L2.DefAt (L2.KOf KX) mg "_law_numbers" My.s_numbers ["_law_script", "_law_first", "_law_many"] := by
      dsimp only [L2.KOf]
      refine' L2.defat_mk KX G ?a ?l ?c ?k ?b
      (case a => k_is); (case l => k_is); (case c => k_is); (case k => k_is)
      (case b => exact fun _ _ _ _ _ _ us hl => match us, hl with | [_, _, _], _ => rfl)
    have d_made : L2.DefAt (L2.KOf KX) mg "_law_made" My.s_made ["_law_script", "_law_first"] := by
      dsimp only [L2.KOf]
      refine' L2.defat_mk KX G ?a ?l ?c ?k ?b
      (case a => k_is); (case l => k_is); (case c => k_is); (case k => k_is)
      (case b => exact fun _ _ _ _ _ _ us hl => match us, hl with | [_, _], _ => rfl)
    have d_bad_text : L2.DefAt (L2.KOf KX) mg "_law_bad_text" My.s_bad_text ["_law_row", "_law_cell", "_law_odd"] := by
      dsimp only [L2.KOf]
      refine' L2.defat_mk KX G ?a ?l ?c ?k ?b
      (case a => k_is); (case l => k_is); (case c => k_is); (case k => k_is)
      (case b => exact fun _ _ _ _ _ _ us hl => match us, hl with | [_, _, _], _ => rfl)
    have d_bad_rows : L2.DefAt (L2.KOf KX) mg "_law_bad_rows" My.s_bad_rows ["_law_rows", "_law_cell", "_law_odd"] := by
      dsimp only [L2.KOf]
      refine' L2.defat_mk KX G ?a ?l ?c ?k ?b
      (case a => k_is); (case l => k_is); (case c => k_is); (case k => k_is)
      (case b => exact fun _ _ _ _ _ _ us hl => match us, hl with | [_, _, _], _ => rfl)
    have d_bad_begin : L2.DefAt (L2.KOf KX) mg "_law_bad_begin" My.s_bad_begin ["_law_rows", "_law_cell"] := by
      dsimp only [L2.KOf]
      refine' L2.defat_mk KX G ?a ?l ?c ?k ?b
      (case a => k_is); (case l => k_is); (case c => k_is); (case k => k_is)
      (case b => exact fun _ _ _ _ _ _ us hl => match us, hl with | [_, _], _ => rfl)
    have d_spoilt : L2.DefAt (L2.KOf KX) mg "_law_spoilt" My.s_spoilt ["_law_rows", "_law_marks", "_law_begin", "_law_cell"] := by
      dsimp only [L2.KOf]
      refine' L2.defat_mk KX G ?a ?l ?c ?k ?b
      (case a => k_is); (case l => k_is); (case c => k_is); (case k => k_is)
      (case b => exact fun _ _ _ _ _ _ us hl => match us, hl with | [_, _, _, _], _ => rfl)
    have d_refused : L2.DefAt (L2.KOf KX) mg "_law_refused" My.s_refused ["_law_rows", "_law_marks", "_law_begin"] := by
      dsimp only [L2.KOf]
      refine' L2.defat_mk KX G ?a ?l ?c ?k ?b
      (case a => k_is); (case l => k_is); (case c => k_is); (case k => k_is)
      (case b => exact fun _ _ _ _ _ _ us hl => match us, hl with | [_, _, _], _ => rfl)
    have xbf_Board : ∃ C f0 fd0, My.BoardFacts (L2.KOf KX) mg C f0 fd0 := by
      dsimp only [L2.KOf]
      refine' My.Board_mk KX G ?aC ?a0 ?i0 ?l0 ?c0 ?k0 ?pg ?hd ?po ?sa ?mk ?kc ?nf0 ?nf1 ?nf2
      (case aC => k_is)
      (case a0 => k_is)
      (case i0 => k_is)
      (case l0 => k_is)
      (case c0 => k_is)
      (case k0 => k_is)
      (case pg => k_is)
      (case hd => k_is)
      (case po => k_is)
      (case sa => k_is)
      (case mk => k_is)
      (case kc => k_is)
      (case nf0 => k_is)
      (case nf1 => k_is)
      (case nf2 => k_is)
    obtain ⟨_, _, _, bf_Board⟩ := xbf_Board
    have xer : ∃ CN CR, My.AllErr (L2.KOf KX) mg CN CR := by
      dsimp only [L2.KOf]
      refine' My.allErr_mk KX G ?aN ?aR ?a_NoDeed ?a_NoLaying ?a_Gap ?a_NoText ?a_NoWord ?a_TooFew ?a_Apart ?a_Crooked ?a_Lacking ?a_NoBack ?a_NoRow ?a_Over ?a_Taken ?a_Twice ?ex ?cl ?ga ?gx ?ha ?hn ?ht ?hm ?hb ?rk ?val ?k_NoDeed ?k_NoLaying ?k_Gap ?k_NoText ?k_NoWord ?k_TooFew ?k_Apart ?k_Crooked ?k_Lacking ?k_NoBack ?k_NoRow ?k_Over ?k_Taken ?k_Twice
      (case aN => k_is)
      (case aR => k_is)
      (case a_NoDeed => k_is)
      (case a_NoLaying => k_is)
      (case a_Gap => k_is)
      (case a_NoText => k_is)
      (case a_NoWord => k_is)
      (case a_TooFew => k_is)
      (case a_Apart => k_is)
      (case a_Crooked => k_is)
      (case a_Lacking => k_is)
      (case a_NoBack => k_is)
      (case a_NoRow => k_is)
      (case a_Over => k_is)
      (case a_Taken => k_is)
      (case a_Twice => k_is)
      (case ex => k_exc)
      (case cl => kernel_rfl)
      (case ga => k_is)
      (case gx => k_is)
      (case ha => k_is)
      (case hn => k_is)
      (case ht => k_is)
      (case hm => k_is)
      (case hb => k_is)
      (case rk => kernel_rfl)
      (case val => kernel_rfl)
      (case k_NoDeed => kernel_rfl)
      (case k_NoLaying => kernel_rfl)
      (case k_Gap => kernel_rfl)
      (case k_NoText => kernel_rfl)
      (case k_NoWord => kernel_rfl)
      (case k_TooFew => kernel_rfl)
      (case k_Apart => kernel_rfl)
      (case k_Crooked => kernel_rfl)
      (case k_Lacking => kernel_rfl)
      (case k_NoBack => kernel_rfl)
      (case k_NoRow => kernel_rfl)
      (case k_Over => kernel_rfl)
      (case k_Taken => kernel_rfl)
      (case k_Twice => kernel_rfl)
    obtain ⟨_, _, er⟩ := xer
    have lw : ∃ fd : FuncData, L2.Fun (L2.KOf KX) "law" "law" My.s_law fa fd ∧ ∀ (s : Shared) (v : Value), BindsTo s fd ⟨[v], []⟩ [("_law_script", v)] := by
      dsimp only [L2.KOf]
      refine' L2.law_at KX G hmg ?a ?l ?c ?k ?b
      (case a => k_is); (case l => k_is); (case c => k_is); (case k => k_is)
      (case b => exact fun _ _ _ _ _ _ _ => rfl)
    obtain ⟨fd, F, hb⟩ := lw
    exact ⟨fd, hb, fun base _ _ => My.law_all n_len n_range n_tuple n_str n_int n_bool n_all n_any n_min n_max n_isinstance n_ValueError g_FREE g_MARKS g_MOST d_is_whole d_is_sign d_is_block d_are_rows d_are_marks d_is_cell_of d_is_begin_of d_is_board d_cell_at d_stream d_letters d_size d_sign d_texts d_numbers d_made d_bad_text d_bad_rows d_bad_begin d_spoilt d_refused bf_Board er F⟩
