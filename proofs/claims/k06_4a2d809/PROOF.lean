import PyProof.Rows.All
import Wide.All
import OpenK.AllK
import Wide.FinOn
import Lean
import PyProof.EqAt
import PyProof.EqKinds
import PyProof.TupleCall
import KE.KRevIter
import PyProof.JoinWalk
import PyProof.CollectIter
import KE.KDictSum
import KE.KSortTup
import OpenK.KRaise
import PyProof.StationsW
import OpenK.KOwn
import KE.KTryMore
import KE.KIsNot
import PyProof.NsDelKeeps
import KE.KIsAll
import PyProof.ExcArgs
import PyProof.ListMulRoad
import PyProof.Rows.SeqMore
import PyProof.FactsAll.tuple_2
import PyProof.ExcInit
import OpenK.KCls
import PySem.Challenge.RW_letterrack_k06_what_a_book_refuses
section
set_option Elab.async false
set_option linter.all false
set_option maxRecDepth 100000
namespace L2
open PySem PySem.Spec PyProof.Rows

abbrev Key := Sum Int Str
def keyIs : Key → Value → Bool
  | .inl k, v => Value.isInt k v
  | .inr x, v => Value.isStrOf x v
def keyH (w : World) : Key → Int
  | .inl k => hashInt k
  | .inr x => hashStr w x
theorem keyIs_shape : ∀ {k : Key} {v : Value}, keyIs k v = true → (∃ i t, k = Sum.inl i ∧ v = Value.int i t) ∨ (∃ x t, k = Sum.inr x ∧ v = Value.str x t)
  | .inl i, v, h => by
    obtain ⟨t, e⟩ := Value.isInt_shape (k := i) (v := v) h
    exact .inl ⟨i, t, rfl, e⟩
  | .inr x, v, h => by
    obtain ⟨t, e⟩ := Value.isStrOf_shape (x := x) (v := v) h
    exact .inr ⟨x, t, rfl, e⟩
theorem keyIs_int (i : Int) (t : Tok) : keyIs (.inl i) (.int i t) = true := by simp [keyIs, Value.isInt]
theorem keyIs_str (x : Str) (t : Tok) : keyIs (.inr x) (.str x t) = true := by simp [keyIs, Value.isStrOf]
theorem key_ll (a b : Int) : decide ((Sum.inl a : Key) = Sum.inl b) = (a == b) := by
  by_cases e : a = b
  · subst e; simp
  · have h : ¬ (Sum.inl a : Key) = Sum.inl b := fun q => e (Sum.inl.inj q)
    rw [decide_eq_false h]
    exact (beq_eq_false_iff_ne.mpr e).symm
theorem key_rr (a b : Str) : decide ((Sum.inr a : Key) = Sum.inr b) = decide (a = b) := by
  by_cases e : a = b
  · subst e; simp
  · have h : ¬ (Sum.inr a : Key) = Sum.inr b := fun q => e (Sum.inr.inj q)
    rw [decide_eq_false h, decide_eq_false e]
theorem key_lr (a : Int) (b : Str) : decide ((Sum.inl a : Key) = Sum.inr b) = false := decide_eq_false (fun q => nomatch q)
theorem key_rl (a : Str) (b : Int) : decide ((Sum.inr a : Key) = Sum.inl b) = false := decide_eq_false (fun q => nomatch q)

def mixKind (prog : Program) (w : World) : PySem.KeyKind prog w Key where
  is := keyIs
  hash := keyH w
  inj := fun v a b ha hb => by
    rcases keyIs_shape ha with ⟨i, t, rfl, rfl⟩ | ⟨x, t, rfl, rfl⟩
    · rcases keyIs_shape hb with ⟨j, u, rfl, e⟩ | ⟨y, u, rfl, e⟩
      · injection e with e1 _; rw [e1]
      · exact nomatch e
    · rcases keyIs_shape hb with ⟨j, u, rfl, e⟩ | ⟨y, u, rfl, e⟩
      · exact nomatch e
      · injection e with e1 _; rw [e1]
  byValue := fun k v h => by
    rcases keyIs_shape h with ⟨i, t, rfl, rfl⟩ | ⟨x, t, rfl, rfl⟩ <;> rfl
  pyHash := fun hv h => by
    rcases keyIs_shape hv with ⟨i, t, rfl, rfl⟩ | ⟨x, t, rfl, rfl⟩
    · exact wpAny_pyHash_int h
    · exact wpAny_pyHash_str h
  eqBool := fun hu hv h => by
    rcases keyIs_shape hu with ⟨i, t, rfl, rfl⟩ | ⟨x, t, rfl, rfl⟩
    · rcases keyIs_shape hv with ⟨j, u, rfl, rfl⟩ | ⟨y, u, rfl, rfl⟩
      · rw [key_ll] at h; exact wpAny_eqBool_int h
      · rw [key_lr] at h; exact SeqAt.EqAt.int_str i t y u _ _ _ _ h
    · rcases keyIs_shape hv with ⟨j, u, rfl, rfl⟩ | ⟨y, u, rfl, rfl⟩
      · rw [key_rl] at h; exact SeqAt.EqAt.str_int x t j u _ _ _ _ h
      · rw [key_rr] at h; exact wpAny_eqBool_str h
  «strs» := fun k x t v h => by
    rcases keyIs_shape h with ⟨i, u, rfl, e⟩ | ⟨y, u, rfl, e⟩
    · exact nomatch e
    · injection e with e1 _
      subst e1
      cases v <;> rfl

theorem mixKind_int (prog : Program) (w : World) (i : Int) (t : Tok) : (mixKind prog w).is (.inl i) (.int i t) = true := keyIs_int i t
theorem mixKind_str (prog : Program) (w : World) (x : Str) (t : Tok) : (mixKind prog w).is (.inr x) (.str x t) = true := keyIs_str x t
end L2

namespace L2
open PySem PySem.Spec PyProof.Rows

inductive V where
  | non | bl (b : Bool) | int (i : Int) | str (x : Str) | byt (b : Array UInt8) | flt (b : UInt64) | ref (a : Addr) | ty (n : String)
  deriving DecidableEq

def RelV : V → Value → Prop
  | .non, u => u = Value.none
  | .bl b, u => u = Value.bool b
  | .int i, u => ∃ t, u = Value.int i t
  | .str x, u => ∃ t, u = Value.str x t
  | .byt b, u => ∃ t, u = Value.bytes b t
  | .flt b, u => ∃ t, u = Value.float b t
  | .ref a, u => u = Value.ref a
  | .ty n, u => u = Value.type n

abbrev Vals : List V → List Value → Prop := Paired RelV
theorem Vals.length {xs : List V} {us : List Value} (r : Vals xs us) : xs.length = us.length := Paired.length r
theorem Vals.get : ∀ {xs : List V} {us : List Value} {i : Nat} {x : V}, Vals xs us → xs[i]? = some x → ∃ u, us[i]? = some u ∧ RelV x u
  | _, _, _, _, .nil, e => by simp at e
  | _, _, 0, _, .cons r _, e => by simp at e; subst e; exact ⟨_, rfl, r⟩
  | _, _, i + 1, x, .cons _ t, e => by
    obtain ⟨u, h1, h2⟩ := Vals.get (i := i) (x := x) t (by simpa using e)
    exact ⟨u, by simpa using h1, h2⟩
theorem Vals.append : ∀ {xs ys : List V} {us ws : List Value}, Vals xs us → Vals ys ws → Vals (xs ++ ys) (us ++ ws)
  | _, _, _, _, .nil, s => s
  | _, _, _, _, .cons r t, s => .cons r (Vals.append t s)
theorem Vals.take : ∀ {xs : List V} {us : List Value} (n : Nat), Vals xs us → Vals (xs.take n) (us.take n)
  | _, _, 0, _ => .nil
  | _, _, _ + 1, .nil => .nil
  | _, _, n + 1, .cons r t => .cons r (Vals.take n t)
theorem Vals.drop : ∀ {xs : List V} {us : List Value} (n : Nat), Vals xs us → Vals (xs.drop n) (us.drop n)
  | _, _, 0, r => r
  | _, _, _ + 1, .nil => .nil
  | _, _, n + 1, .cons _ t => Vals.drop n t
def RelO : Option V → Option Value → Prop
  | some v, some u => RelV v u
  | none, none => True
  | _, _ => False
def KV {κ : Type} : List (κ × V) → List (κ × Value) → Prop := Paired fun (p : κ × V) (q : κ × Value) => p.1 = q.1 ∧ RelV p.2 q.2

def kV : Key → V
  | .inl i => .int i
  | .inr x => .str x

inductive HO where
  /-- a list -/
  | lst (xs : List V)
  /-- a tuple (never changes) -/
  | tup (xs : List V)
  /-- a dict whose keys are ints and texts; one whose keys are tuples of ints and texts (the empty one is both) -/
  | dK (kvs : List (Key × V)) | dT (kvs : List (List Key × V))
  /-- a set of ints: its members, its size -/
  | set (S : Int → Bool) (n : Nat)
  /-- an instance of the class at C, its dict at dx, its attributes -/
  | ins (C dx : Addr) (fs : List (Str × V))
  /-- the dict of the instance at x -/
  | own (x : Addr)
  /-- the dict of an exception -/
  | xd (fs : List (Str × V))
  /-- a bound method, f of x -/
  | met (f x : Addr)
  /-- a range object lo, lo + 1, .. below hi -/
  | rng (lo hi : Int)
  /-- a thing that is known to the object (the script; a dict while a loop walks it): read, never written while it is so -/
  | frz (o : Obj) (u : HO)
  /-- a code object's table -/
  | tbl (ps : Array Value)
  /-- any other thing, by what is true of its one object (a def of one's own: SetO a S n := HO.ext fun h => ..) -/
  | ext (φ : Heap → Prop)

abbrev Hp := Addr → Option HO
def upd (H : Hp) (a : Addr) (o : HO) : Hp := fun b => if b = a then some o else H b
theorem upd_same {H : Hp} {a : Addr} {o : HO} : upd H a o a = some o := by unfold upd; rw [if_pos rfl]
theorem upd_ne {H : Hp} {a b : Addr} {o : HO} (h : b ≠ a) : upd H a o b = H b := by unfold upd; rw [if_neg h]
theorem ne_of {H : Hp} {a b : Addr} {o u : HO} (h : H a = some o) (h' : H b = some u) (d : o ≠ u) : a ≠ b := by
  intro e; subst e; rw [h] at h'; exact d (Option.some.inj h')
theorem ne_of_none {H : Hp} {a b : Addr} {o : HO} (h : H a = some o) (h' : H b = none) : a ≠ b := by
  intro e; subst e; rw [h] at h'; cases h'

section
variable (P : Program) (w : World)
def ObjOk (H : Hp) (h : Heap) (a : Addr) : HO → Prop
  | .lst xs => xs.length ≤ sizeLine ∧ ∃ (its : List Value) (n : Nat), Vals xs its ∧ h.get? a = some { cls := .type "list", data := .seq its.toArray n }
  | .tup xs => xs.length ≤ sizeLine ∧ ∃ its : List Value, Vals xs its ∧ IsTup h a its.toArray
  | .dK kvs => kvs.length ≤ sizeLine ∧ (a == sysModules) = false ∧ ∃ vs, KV kvs vs ∧ h.DictOf (mixKind P w) a vs
  | .dT kvs => kvs.length ≤ sizeLine ∧ (a == sysModules) = false ∧ ∃ xs : List (List Key × Addr × Value),
      Paired (fun (p : List Key × V) (q : List Key × Addr × Value) => p.1 = q.1 ∧ H q.2.1 = some (.tup (p.1.map kV)) ∧ RelV p.2 q.2.2) kvs xs ∧
      ∃ o es ep, h.get? a = some o ∧ o.ExactDict ∧ o.data = .dict es ep ∧ es.toList = xs.map (entryOfKey (tupleKind (mixKind P w))) ∧ (xs.map (·.1)).Nodup
  | .set S n => h.SetOf (intKind P w) a S n
  | .ins C dx fs => H dx = some (.own a) ∧ fs.length ≤ 1000 ∧ dx ≠ a ∧ h.get? a = some (PySem.W.instObj C dx) ∧
      ∃ mA, h.Ns1 dx mA ∧ (∀ f, RelO (fs.lookup f) (mA f)) ∧ PySem.Within mA (fs.map (·.1))
  | .own _ => ∃ o, h.get? a = some o
  | .xd fs => ∃ mA, h.Ns1 a mA ∧ ∀ f, RelO (fs.lookup f) (mA f)
  | .rng lo hi => ∃ t u v, h.get? a = some { cls := .type "range", data := .fields #[.int lo t, .int hi u, .int 1 v] }
  | .frz o u => h.get? a = some o ∧ ObjOk H h a u
  | .tbl ps => h.get? a = some { cls := .none, data := .fields ps }
  | .met f x => h.get? a = some (PySem.W.methodObj (.ref f) (.ref x))
  | .ext φ => φ h ∧ (∃ o, h.get? a = some o) ∧ ∀ h1 h2 : Heap, φ h1 → (∀ o, h1.get? a = some o → h2.get? a = some o) → φ h2
def HOk (H : Hp) (h : Heap) : Prop := ∀ a o, H a = some o → ObjOk P w H h a o
end

section
variable {P : Program} {w : World} {H H' : Hp} {h h' : Heap} {a : Addr} {o : HO}
theorem ObjOk.lt (x : ObjOk P w H h a o) : a < h.objs.size := by
  cases o with
  | lst xs => obtain ⟨_, _, _, _, e⟩ := x; exact Heap.lt_size e
  | tup xs => obtain ⟨_, _, _, p⟩ := x; exact p.lt
  | dK kvs => obtain ⟨_, _, _, _, o, _, _, e, _⟩ := x; exact Heap.lt_size e
  | dT kvs => obtain ⟨_, _, _, _, o, _, _, e, _⟩ := x; exact Heap.lt_size e
  | set S n => obtain ⟨o, _, _, _, e, _⟩ := x; exact Heap.lt_size e
  | ins C dx fs => obtain ⟨_, _, _, e, _⟩ := x; exact Heap.lt_size e
  | own y => obtain ⟨_, e⟩ := x; exact Heap.lt_size e
  | xd fs => obtain ⟨_, ⟨_, _, _, e, _⟩, _⟩ := x; exact Heap.lt_size e
  | rng lo hi => obtain ⟨_, _, _, e⟩ := x; exact Heap.lt_size e
  | frz ob u => obtain ⟨e, _⟩ := x; exact Heap.lt_size e
  | tbl ps => exact Heap.lt_size (show h.get? a = some _ from x)
  | met f y => exact Heap.lt_size (show h.get? a = some _ from x)
  | ext φ => obtain ⟨_, ⟨_, e⟩, _⟩ := x; exact Heap.lt_size e
theorem Paired.mapP {α β : Type} {F G : α → β → Prop} : ∀ {l₁ : List α} {l₂ : List β}, Paired F l₁ l₂ → (∀ a b, F a b → G a b) → Paired G l₁ l₂
  | _, _, .nil, _ => .nil
  | _, _, .cons r t, f => .cons (f _ _ r) (Paired.mapP t f)
theorem ObjOk.stay (x : ObjOk P w H h a o) (k : ∀ b u, (b = a ∨ H b = some (.own a)) → h.get? b = some u → h'.get? b = some u)
    (ho : ∀ b, H b = some (.own a) → H' b = some (.own a)) (ht : ∀ b xs, H b = some (.tup xs) → H' b = some (.tup xs)) : ObjOk P w H' h' a o := by
  induction o with
  | lst xs => obtain ⟨z, its, n, r, e⟩ := x; exact ⟨z, its, n, r, k _ _ (.inl rfl) e⟩
  | tup xs => obtain ⟨z, its, r, ob, e, c⟩ := x; exact ⟨z, its, r, ob, k _ _ (.inl rfl) e, c⟩
  | dK kvs => obtain ⟨z, y, vs, r, ob, es, ep, e, c⟩ := x; exact ⟨z, y, vs, r, ob, es, ep, k _ _ (.inl rfl) e, c⟩
  | dT kvs =>
    obtain ⟨z, y, xs, r, ob, es, ep, e, c⟩ := x
    exact ⟨z, y, xs, Paired.mapP r fun p q z => ⟨z.1, ht _ _ z.2.1, z.2.2⟩, ob, es, ep, k _ _ (.inl rfl) e, c⟩
  | set S n => obtain ⟨ob, es, ep, t, e, c⟩ := x; exact ⟨ob, es, ep, t, k _ _ (.inl rfl) e, c⟩
  | ins C dx fs =>
    obtain ⟨d, z, ne, e, mA, ⟨od, es, ep, e2, c⟩, r⟩ := x
    exact ⟨ho _ d, z, ne, k _ _ (.inl rfl) e, mA, ⟨od, es, ep, k _ _ (.inr d) e2, c⟩, r⟩
  | own y => obtain ⟨ob, e⟩ := x; exact ⟨ob, k _ _ (.inl rfl) e⟩
  | xd fs => obtain ⟨mA, ⟨od, es, ep, e, c⟩, r⟩ := x; exact ⟨mA, ⟨od, es, ep, k _ _ (.inl rfl) e, c⟩, r⟩
  | rng lo hi => obtain ⟨t, u, v, e⟩ := x; exact ⟨t, u, v, k _ _ (.inl rfl) e⟩
  | frz ob u ih => obtain ⟨e, q⟩ := x; exact ⟨k _ _ (.inl rfl) e, ih q⟩
  | tbl ps =>
    have e : h.get? a = some { cls := .none, data := .fields ps } := x
    show h'.get? a = some { cls := .none, data := .fields ps }
    exact k a _ (.inl rfl) e
  | met f y =>
    have e : h.get? a = some (PySem.W.methodObj (.ref f) (.ref y)) := x
    show h'.get? a = some (PySem.W.methodObj (.ref f) (.ref y))
    exact k a _ (.inl rfl) e
  | ext φ => obtain ⟨p, ⟨o, e⟩, st⟩ := x; exact ⟨st _ _ p fun o q => k _ _ (.inl rfl) q, ⟨o, k _ _ (.inl rfl) e⟩, st⟩
theorem HOk.lt (x : HOk P w H h) (e : H a = some o) : a < h.objs.size := (x a o e).lt
theorem HOk.fresh (x : HOk P w H h) (e : h.objs.size ≤ a) : H a = none := by
  cases q : H a with
  | none => rfl
  | some u => exact absurd (Nat.lt_of_lt_of_le (x.lt q) e) (Nat.lt_irrefl _)
theorem HOk.kept (x : HOk P w H h) (k : ∀ b u, h.get? b = some u → h'.get? b = some u) : HOk P w H h' := fun a o e =>
  (x a o e).stay (fun b u _ q => k b u q) (fun _ q => q) fun _ _ q => q
theorem HOk.laid (x : HOk P w H h) (k : ∀ b u, h.get? b = some u → h'.get? b = some u) (hp : h.objs.size ≤ a) (new : ObjOk P w (upd H a o) h' a o) : HOk P w (upd H a o) h' := fun b u e => by
  have hn := x.fresh hp
  by_cases hb : b = a
  · subst hb; rw [upd_same] at e; cases e; exact new
  · rw [upd_ne hb] at e
    exact (x b u e).stay (fun c v _ q => k c v q) (fun c q => by rw [upd_ne (ne_of_none q hn)]; exact q) fun c xs q => by rw [upd_ne (ne_of_none q hn)]; exact q
end

def Rd (H : Hp) (a : Addr) (u : HO) : Prop := H a = some u ∨ ∃ o, H a = some (.frz o u)
theorem Rd.ok {P : Program} {w : World} {H : Hp} {h : Heap} {a : Addr} {u : HO} (r : Rd H a u) (x : HOk P w H h) : ObjOk P w H h a u := by
  rcases r with r | ⟨o, r⟩
  · exact x a u r
  · obtain ⟨_, q⟩ := x a _ r
    exact q
def Mut : Option HO → Prop
  | some (.lst _) => True
  | some (.dK _) => True
  | some (.dT _) => True
  | some (.set _ _) => True
  | some (.ins _ _ _) => True
  | some (.ext _) => True
  | _ => False
section
variable {P : Program} {w : World} {H : Hp} {h h' : Heap} {x e : Addr} {o' : HO}
theorem HOk.write (ok : HOk P w H h) (mu : Mut (H x)) (he : e = x ∨ H e = some (.own x)) (k : ∀ b u, b ≠ e → h.get? b = some u → h'.get? b = some u) (heo : ∃ u, h'.get? e = some u)
    (new : ObjOk P w (upd H x o') h' x o') : HOk P w (upd H x o') h' := fun b u q => by
  have nown : ∀ c y, H c = some (.own y) → c ≠ x := fun c y r z => by subst z; rw [r] at mu; exact mu
  have ntup : ∀ c xs, H c = some (.tup xs) → c ≠ x := fun c xs r z => by subst z; rw [r] at mu; exact mu
  by_cases hb : b = x
  · subst hb; rw [upd_same] at q; cases q; exact new
  · rw [upd_ne hb] at q
    by_cases hbe : b = e
    · have q' : H b = some (.own x) := by
        rcases he with z | z
        · exact absurd (hbe.trans z) hb
        · rw [hbe]; exact z
      rw [q] at q'; cases q'
      obtain ⟨v, hv⟩ := heo
      exact ⟨v, by rw [hbe]; exact hv⟩
    · refine (ok b u q).stay (fun c v hc r => k c v ?_ r) (fun c r => by rw [upd_ne (nown c b r)]; exact r) fun c xs r => by rw [upd_ne (ntup c xs r)]; exact r
      rcases hc with rfl | hc
      · exact hbe
      · rintro rfl
        rcases he with z | z
        · exact nown c b hc z
        · rw [hc] at z; cases z; exact hb rfl
end

structure Un (fs ex : List Addr) (H H' : Hp) (h h' : Heap) : Prop where
  keep : ∀ b o, h.get? b = some o → H b = none → b ∉ fs → b ∉ ex → h'.get? b = some o
  slot : ∀ b o, h.get? b = some o → H b = none → b ∈ fs → b ∉ ex → ∃ sl, h'.get? b = some { o with slots := sl }
  free : ∀ b o, h.get? b = some o → H b = none → b ∉ ex → H' b = none
  there : ∀ b o, h.get? b = some o → b ∉ ex → ∃ o', h'.get? b = some o'
  tups : ∀ b xs, H b = some (.tup xs) → H' b = some (.tup xs)
  frzs : ∀ b o u, H b = some (.frz o u) → H' b = some (.frz o u)
  tbls : ∀ b ps, H b = some (.tbl ps) → ∃ more, H' b = some (.tbl (ps ++ more))
section
variable {fs fs' ex ex' : List Addr} {H H1 H2 : Hp} {h h1 h2 h' : Heap} {a x e : Addr} {o : HO}
theorem Un.any (u : Un fs ex H H1 h h1) {b : Addr} {ob : Obj} (q : h.get? b = some ob) (n : H b = none) (hx : b ∉ ex) : ∃ sl, h1.get? b = some { ob with slots := sl } := by
  by_cases hb : b ∈ fs
  · exact u.slot b ob q n hb hx
  · exact ⟨ob.slots, u.keep b ob q n hb hx⟩
theorem Un.kept (k : ∀ b u, h.get? b = some u → h'.get? b = some u) : Un fs ex H H h h' :=
  ⟨fun b ob q _ _ _ => k b ob q, fun b ob q _ _ _ => ⟨ob.slots, k b ob q⟩, fun _ _ _ n _ => n, fun b ob q _ => ⟨ob, k b ob q⟩, fun _ _ q => q, fun _ _ _ q => q, fun _ ps q => ⟨#[], by rw [q]; simp⟩⟩
theorem Un.refl : Un fs ex H H h h := Un.kept fun _ _ q => q
theorem Un.laid (k : ∀ b u, h.get? b = some u → h'.get? b = some u) (hp : h.objs.size ≤ a) (hn : H a = none) : Un fs ex H (upd H a o) h h' where
  keep := fun b u q _ _ _ => k b u q
  slot := fun b u q _ _ _ => ⟨u.slots, k b u q⟩
  free := fun b u q n _ => by rw [upd_ne (Nat.ne_of_lt (Nat.lt_of_lt_of_le (Heap.lt_size q) hp))]; exact n
  there := fun b u q _ => ⟨u, k b u q⟩
  tups := fun b xs q => by rw [upd_ne (ne_of_none q hn)]; exact q
  frzs := fun b u xs q => by rw [upd_ne (ne_of_none q hn)]; exact q
  tbls := fun b ps q => ⟨#[], by rw [upd_ne (ne_of_none q hn), q]; simp⟩
theorem Un.write (mu : Mut (H x)) (he : e = x ∨ H e = some (.own x)) (k : ∀ b u, b ≠ e → h.get? b = some u → h'.get? b = some u) (heo : ∃ u, h'.get? e = some u) : Un fs ex H (upd H x o) h h' := by
  have hx : ∀ b, H b = none → b ≠ x := fun b n z => by subst z; rw [n] at mu; exact mu
  have hb : ∀ b, H b = none → b ≠ e := fun b n z => by
    subst z
    rcases he with r | r
    · exact hx b n r
    · rw [n] at r; cases r
  have hm : ∀ b u, H b = some u → ¬ Mut (some u) → b ≠ x := fun b u q nm z => by subst z; rw [q] at mu; exact nm mu
  refine ⟨fun b u q n _ _ => k b u (hb b n) q, fun b u q n _ _ => ⟨u.slots, k b u (hb b n) q⟩, fun b u q n _ => by rw [upd_ne (hx b n)]; exact n, fun b u q _ => ?_,
    fun b xs q => by rw [upd_ne (hm b _ q fun z => z)]; exact q, fun b u xs q => by rw [upd_ne (hm b _ q fun z => z)]; exact q, fun b ps q => ⟨#[], by rw [upd_ne (hm b _ q fun z => z), q]; simp⟩⟩
  by_cases hbe : b = e
  · subst hbe; exact heo
  · exact ⟨u, k b u hbe q⟩
end

def trk (h : Heap) (H : Hp) : List Addr := (List.range h.objs.size).filter fun a => (H a).isSome
def hidT (h : Heap) (H : Hp) : Heap := PySem.W.hideAll h (trk h H)
theorem hidT_size (h : Heap) (H : Hp) : (hidT h H).objs.size = h.objs.size := PySem.W.hideAll_size _ _
theorem hidT_get {h : Heap} {H : Hp} {b : Addr} {o : Obj} (e : h.get? b = some o) (n : H b = none) : (hidT h H).get? b = some o :=
  PySem.W.hideAll_get _ e fun hm => by
    have q : (H b).isSome = true := (List.mem_filter.mp hm).2
    rw [n] at q; simp at q
theorem of_hidT {h : Heap} {H : Hp} {b : Addr} {o : Obj} (e : (hidT h H).get? b = some o) : h.get? b = some o ∧ H b = none := by
  have e' : h.get? b = some o := PySem.W.of_hideAll (trk h H) e
  refine ⟨e', ?_⟩
  cases q : H b with
  | none => rfl
  | some x =>
    have hm : b ∈ trk h H := List.mem_filter.mpr ⟨List.mem_range.mpr (Heap.lt_size e'), by simp [q]⟩
    have z : (hidT h H).get? b = none := PySem.W.hideAll_none (trk h H) hm
    rw [z] at e; cases e

end L2

namespace L2
open PySem PySem.Spec PyProof.Rows

structure Mod (K : PySem.W.Frag) (mg : Str → Option Value) (base : Heap) : Prop where
  kin : K.In base
  glob : base.Ns mainGlobals mg
  blt : ∃ mb, base.Ns builtinsNs mb ∧ ∀ x : Str, x ≠ "__name__" → mb x = bootBuiltins x
  nolimit : base.NoLimit

structure Cx where
  prog : Program
  w : World
  K : PySem.W.Frag
  mg : Str → Option Value
  base : Heap
  A : Around
  N : List Str
  s₀ : Shared
  H₀ : Hp
  env : Env
  outer : List Env
  stack : List Env
  ex : List Addr
  fn : Str → Bool
  calm : Bool
  pn : List (Addr × Obj)
  xe : Value → Shared → Prop
def frs (l : List Env) : List Addr := l.filterMap (·.frame)
abbrev Cx.fs (X : Cx) : List Addr := frs X.outer

def Vis (sc : Scope) (x : Str) : Prop := sc.names.lookup x = some .local ∨ sc.names.lookup x = some .cell ∨ sc.names.lookup x = some .free
def Loc (sc : Scope) (x : Str) : Prop := sc.names.lookup x = some .local ∨ sc.names.lookup x = some .cell
def Look (env : Env) (h : Heap) (m : Str → Option Value) (x : Str) (u : Value) : Prop :=
  (env.kindOf x = some .local ∧ m x = some u) ∨ ((env.kindOf x = some .cell ∨ env.kindOf x = some .free) ∧ ∃ c, env.cells.lookup x = some c ∧ h.IsCell c (some u))

structure Cx.Ok (X : Cx) : Prop where
  mod : Mod X.K X.mg X.base
  kind : X.env.scope.kind = .function
  glob : X.env.globals = mainGlobals
  blt : X.env.builtins = builtinsNs
  above : X.s₀.heap.objs.size ≤ X.env.locals
  inj : ∀ x y c, X.env.cells.lookup x = some c → X.env.cells.lookup y = some c → x = y
  has : ∀ x, (X.env.kindOf x = some .cell ∨ X.env.kindOf x = some .free) → ∃ c, X.env.cells.lookup x = some c
  cab : ∀ x c, X.fn x = true → X.env.cells.lookup x = some c → X.s₀.heap.objs.size ≤ c
  hd : X.calm = true → X.A.handled = none
  frames : X.A.frames = some X.stack
  stk : X.stack = X.outer ∨ (X.stack = X.env :: X.outer ∧ X.env.frame = some X.env.locals)
  exf : ∀ b ∈ X.ex, b ≠ X.env.locals ∧ ∀ x c, X.env.cells.lookup x = some c → c ≠ b
  bs : ∀ b o, X.base.get? b = some o → X.s₀.heap.get? b = some o ∧ X.H₀ b = none
  bsz : X.base.objs.size ≤ X.s₀.heap.objs.size
  noex : ∀ b o, X.base.get? b = some o → b ∉ X.ex
  exfs : ∀ b ∈ X.ex, b ∉ X.fs
  funs : X.s₀.heap.FunFrames X.base X.outer
  frf : ∀ b ∈ X.fs, X.H₀ b = none

structure Inv (X : Cx) (pins : List (Addr × Obj)) (σ : List (Option V)) (H : Hp) (s : Shared) : Prop where
  ok : X.Ok
  os : s.os = X.s₀.os
  bare : AllBare s.gens
  base : Un X.fs X.ex X.H₀ H X.s₀.heap s.heap
  loc : ∃ m, s.heap.Ns X.env.locals m ∧ ∀ (i : Nat) (x : Str) (v : V), X.N[i]? = some x → σ[i]? = some (some v) → Vis X.env.scope x → ∃ u, RelV v u ∧ Look X.env s.heap m x u
  cell : ∀ x c, X.env.cells.lookup x = some c → ∃ v, s.heap.IsCell c v
  free : H X.env.locals = none
  freeC : ∀ x c, X.env.cells.lookup x = some c → H c = none
  pin : ∀ p ∈ X.pn ++ pins, s.heap.get? p.1 = some p.2 ∧ H p.1 = none ∧ p.1 ≠ X.env.locals ∧ p.1 ∉ X.fs ∧ ∀ v, p.2.data ≠ .cell v
  hok : HOk X.prog X.w H s.heap
  len : σ.length = X.N.length

section
variable {X : Cx} {pins : List (Addr × Obj)} {σ : List (Option V)} {H H' : Hp} {s : Shared} {h' : Heap}

theorem Cx.Ok.nofr (ok : X.Ok) {b : Addr} {o : Obj} (e : X.base.get? b = some o) : b ∉ X.fs := fun hb => by
  have := (ok.funs.mem hb).1
  rw [e] at this; cases this
theorem Inv.bs (I : Inv X pins σ H s) : ∀ b o, X.base.get? b = some o → s.heap.get? b = some o ∧ H b = none := fun b o e =>
  ⟨I.base.keep b o (I.ok.bs b o e).1 (I.ok.bs b o e).2 (I.ok.nofr e) (I.ok.noex b o e), I.base.free b o (I.ok.bs b o e).1 (I.ok.bs b o e).2 (I.ok.noex b o e)⟩
theorem Inv.bk (I : Inv X pins σ H s) : ∀ b o, X.base.get? b = some o → s.heap.get? b = some o := fun b o e => (I.bs b o e).1
theorem Inv.mod (I : Inv X pins σ H s) : Mod X.K X.mg X.base := I.ok.mod
theorem Inv.kIn (I : Inv X pins σ H s) : X.K.In s.heap := I.ok.mod.kin.keeps I.bk
theorem Inv.lt (I : Inv X pins σ H s) : X.env.locals < s.heap.objs.size := let ⟨_, hn, _⟩ := I.loc; hn.lt
theorem Inv.sz (I : Inv X pins σ H s) : X.s₀.heap.objs.size ≤ s.heap.objs.size := Nat.le_trans I.ok.above (Nat.le_of_lt I.lt)
theorem Inv.nofs (I : Inv X pins σ H s) {a : Addr} (h : s.heap.objs.size ≤ a) : a ∉ X.fs := fun hb => by
  obtain ⟨_, o, ho, _⟩ := I.ok.funs.mem hb
  exact absurd (Nat.lt_of_lt_of_le (Heap.lt_size ho) (Nat.le_trans I.sz h)) (Nat.lt_irrefl _)
theorem Inv.cne (I : Inv X pins σ H s) : ∀ x c, X.env.cells.lookup x = some c → c ≠ X.env.locals := fun x c e z => by
  obtain ⟨v, o, ho, hd⟩ := I.cell x c e
  obtain ⟨m, ⟨o', es, ep, ho', hd', _⟩, _⟩ := I.loc
  rw [z, ho'] at ho; cases ho; rw [hd'] at hd; cases hd
theorem Inv.funs (I : Inv X pins σ H s) : s.heap.FunFrames X.base X.outer := by
  have all : ∀ (l : List Env), (∀ b ∈ frs l, b ∈ X.fs) → X.s₀.heap.FunFrames X.base l → s.heap.FunFrames X.base l := by
    intro l
    induction l with
    | nil => intro _ _; trivial
    | cons env r ih =>
      intro hs hl
      obtain ⟨hk, ⟨L, o, hf, hn, ho, hd⟩, hr⟩ := hl
      have hL : L ∈ X.fs := hs L (by unfold frs; rw [List.filterMap_cons, hf]; exact List.mem_cons_self)
      obtain ⟨sl, e⟩ := I.base.slot L o ho (I.ok.frf L hL) hL fun z => I.ok.exfs L z hL
      exact ⟨hk, ⟨L, _, hf, hn, e, hd⟩, ih (fun b hb => hs b (by unfold frs; rw [List.filterMap_cons, hf]; exact List.mem_cons_of_mem _ hb)) hr⟩
  exact all X.outer (fun _ hb => hb) I.ok.funs

theorem Inv.stack (I : Inv X pins σ H s) : s.heap.FunFrames X.base X.stack := by
  rcases I.ok.stk with e | ⟨e, hf⟩
  · rw [e]; exact I.funs
  · rw [e]
    obtain ⟨m, hn, _⟩ := I.loc
    refine .cons (by rw [I.ok.kind]; decide) hf hn ?_ I.funs
    exact Heap.get?_none_of_le (Nat.le_trans I.ok.bsz I.ok.above)
theorem Inv.stkSub (I : Inv X pins σ H s) : ∀ b ∈ frs X.stack, b ∈ X.env.locals :: X.fs := fun b hb => by
  rcases I.ok.stk with e | ⟨e, hf⟩
  · rw [e] at hb; exact List.mem_cons_of_mem _ hb
  · rw [e] at hb
    unfold frs at hb
    rw [List.filterMap_cons, hf] at hb
    exact hb
theorem Inv.stkFree (I : Inv X pins σ H s) : ∀ b ∈ frs X.stack, H b = none := fun b hb => by
  rcases List.mem_cons.mp (I.stkSub b hb) with e | hb
  · rw [e]; exact I.free
  · obtain ⟨_, o, ho, _⟩ := I.ok.funs.mem hb
    exact I.base.free b o ho (I.ok.frf b hb) fun z => I.ok.exfs b z hb

theorem Inv.step {g' : Array GenState} {t' : Nat} {d' : Drawn} {ch : List Addr} (I : Inv X pins σ H s)
    (hch : ∀ b ∈ ch, (b ∈ X.ex ∨ X.s₀.heap.objs.size ≤ b) ∧ b ≠ X.env.locals ∧ (∀ x c, X.env.cells.lookup x = some c → c ≠ b) ∧ ∀ p ∈ X.pn ++ pins, p.1 ≠ b)
    (keep : ∀ b o, b ≠ X.env.locals → b ∉ X.fs → b ∉ ch → s.heap.get? b = some o → H b = none → h'.get? b = some o)
    (slot : ∀ b o, b ≠ X.env.locals → b ∈ X.fs → b ∉ ch → s.heap.get? b = some o → H b = none → ∃ sl, h'.get? b = some { o with slots := sl }) (free : ∀ b o, b ∉ ch → s.heap.get? b = some o → H b = none → H' b = none)
    (there : ∀ b o, b ∉ ch → s.heap.get? b = some o → ∃ o', h'.get? b = some o')
    (tups : ∀ b xs, H b = some (.tup xs) → H' b = some (.tup xs)) (frzs : ∀ b o u, H b = some (.frz o u) → H' b = some (.frz o u)) (tbls : ∀ b ps, H b = some (.tbl ps) → ∃ more, H' b = some (.tbl (ps ++ more)))
    (ns : ∀ m, s.heap.Ns X.env.locals m → h'.Ns X.env.locals m) (hok : HOk X.prog X.w H' h') (hg : AllBare g') :
    Inv X pins σ H' { s with heap := h', gens := g', drawn := d', toks := t' } := by
  have neL : ∀ b o, X.s₀.heap.get? b = some o → b ≠ X.env.locals := fun b o e => Nat.ne_of_lt (Nat.lt_of_lt_of_le (Heap.lt_size e) I.ok.above)
  have neC : ∀ b o, X.s₀.heap.get? b = some o → b ∉ X.ex → b ∉ ch := fun b o e hx hb => by
    rcases (hch b hb).1 with z | z
    · exact hx z
    · exact absurd (Nat.lt_of_lt_of_le (Heap.lt_size e) z) (Nat.lt_irrefl _)
  have cellK : ∀ x c, X.env.cells.lookup x = some c → ∀ v, s.heap.IsCell c v → h'.IsCell c v := fun x c e v ⟨o, ho, hd⟩ => by
    have nch : c ∉ ch := fun z => (hch c z).2.2.1 x c e rfl
    by_cases hc : c ∈ X.fs
    · obtain ⟨sl, q⟩ := slot c o (I.cne x c e) hc nch ho (I.freeC x c e)
      exact ⟨_, q, hd⟩
    · exact ⟨o, keep c o (I.cne x c e) hc nch ho (I.freeC x c e), hd⟩
  refine ⟨I.ok, I.os, hg, ⟨fun b o e n hb hx => ?_, fun b o e n hb hx => ?_, fun b o e n hx => ?_, fun b o e hx => ?_, fun b xs e => tups b xs (I.base.tups b xs e), fun b o xs e => frzs b o xs (I.base.frzs b o xs e), fun b ps e => ?_⟩, ?_, fun x c e => ?_, ?_, fun x c e => ?_, fun p hp => ?_, hok, I.len⟩
  · exact keep b o (neL b o e) hb (neC b o e hx) (I.base.keep b o e n hb hx) (I.base.free b o e n hx)
  · obtain ⟨sl, e1⟩ := I.base.slot b o e n hb hx
    obtain ⟨sl', e2⟩ := slot b _ (neL b o e) hb (neC b o e hx) e1 (I.base.free b o e n hx)
    exact ⟨sl', e2⟩
  · obtain ⟨o', e1⟩ := I.base.there b o e hx
    exact free b o' (neC b o e hx) e1 (I.base.free b o e n hx)
  · obtain ⟨o', e1⟩ := I.base.there b o e hx
    exact there b o' (neC b o e hx) e1
  · obtain ⟨m1, e1⟩ := I.base.tbls b ps e
    obtain ⟨m2, e2⟩ := tbls b _ e1
    exact ⟨m1 ++ m2, by rw [e2, Array.append_assoc]⟩
  · obtain ⟨m, hn, hl⟩ := I.loc
    refine ⟨m, ns m hn, fun i x v e1 e2 e3 => ?_⟩
    obtain ⟨u, r, l⟩ := hl i x v e1 e2 e3
    refine ⟨u, r, ?_⟩
    rcases l with l | ⟨k, c, e, z⟩
    · exact .inl l
    · exact .inr ⟨k, c, e, cellK x c e _ z⟩
  · obtain ⟨v, z⟩ := I.cell x c e
    exact ⟨v, cellK x c e v z⟩
  · obtain ⟨m, ⟨o, _, _, ho, _⟩, _⟩ := I.loc
    exact free _ o (fun z => (hch _ z).2.1 rfl) ho I.free
  · obtain ⟨v, o, ho, hd⟩ := I.cell x c e
    exact free c o (fun z => (hch c z).2.2.1 x c e rfl) ho (I.freeC x c e)
  · obtain ⟨e, n, ne, nf, d⟩ := I.pin p hp
    have nch : p.1 ∉ ch := fun z => (hch p.1 z).2.2.2 p hp rfl
    exact ⟨keep p.1 p.2 ne nf nch e n, free p.1 p.2 nch e n, ne, nf, d⟩
theorem Inv.un {t' : Nat} (I : Inv X pins σ H s) (u : Un X.fs [] H H' s.heap h') (hok : HOk X.prog X.w H' h') : Inv X pins σ H' { s with heap := h', toks := t' } := by
  obtain ⟨m, ⟨o, es, ep, ho, r⟩, _⟩ := id I.loc
  obtain ⟨sl, hL⟩ := u.any ho I.free (by simp)
  exact I.step (g' := s.gens) (d' := s.drawn) (ch := []) (fun _ z => nomatch z) (fun b o _ hb _ e n => u.keep b o e n hb (by simp)) (fun b o _ hb _ e n => u.slot b o e n hb (by simp)) (fun b o _ e n => u.free b o e n (by simp)) (fun b o _ e => u.there b o e (by simp)) u.tups u.frzs u.tbls (fun m' hm => by
    obtain ⟨o', es', ep', ho', r'⟩ := hm
    rw [ho] at ho'; cases ho'
    exact ⟨_, es', ep', hL, r'⟩) hok I.bare
theorem Inv.call {g' : Array GenState} {t' : Nat} {d' : Drawn} {ch : List Addr} (I : Inv X pins σ H s) (u : Un (frs X.stack) ch H H' s.heap h') (hok : HOk X.prog X.w H' h') (hg : AllBare g')
    (hch : ∀ b ∈ ch, (b ∈ X.ex ∨ X.s₀.heap.objs.size ≤ b) ∧ b ≠ X.env.locals ∧ (∀ x c, X.env.cells.lookup x = some c → c ≠ b) ∧ ∀ p ∈ X.pn ++ pins, p.1 ≠ b) :
    Inv X pins σ H' { s with heap := h', gens := g', drawn := d', toks := t' } := by
  obtain ⟨m, ⟨o, es, ep, ho, r⟩, _⟩ := id I.loc
  obtain ⟨sl, hL⟩ := u.any ho I.free fun z => (hch _ z).2.1 rfl
  exact I.step (ch := ch) hch (fun b o hL hb hc e n => u.keep b o e n (fun z => (List.mem_cons.mp (I.stkSub b z)).elim hL hb) hc) (fun b o _ _ hc e n => u.any e n hc) (fun b o hc e n => u.free b o e n hc) (fun b o hc e => u.there b o e hc) u.tups u.frzs u.tbls (fun m' hm => by
    obtain ⟨o', es', ep', ho', r'⟩ := hm
    rw [ho] at ho'; cases ho'
    exact ⟨_, es', ep', hL, r'⟩) hok hg
theorem Inv.turned {t' : Nat} {it : Addr} (I : Inv X pins σ H s) (k : ∀ b o, b ≠ it → s.heap.get? b = some o → h'.get? b = some o) (hn : H it = none) (hL : it ≠ X.env.locals)
    (h1 : it ∈ X.ex ∨ X.s₀.heap.objs.size ≤ it) (h2 : ∀ x c, X.env.cells.lookup x = some c → c ≠ it) (h3 : ∀ p ∈ X.pn ++ pins, p.1 ≠ it) : Inv X pins σ H { s with heap := h', toks := t' } := by
  have nit : ∀ b u, H b = some u → b ≠ it := fun b u e z => by rw [z, hn] at e; cases e
  refine I.step (g' := s.gens) (d' := s.drawn) (ch := [it]) (fun b hb => ?_) (fun b o _ _ hc e _ => k b o (fun z => hc (by simp [z])) e) (fun b o _ _ hc e _ => ⟨o.slots, k b o (fun z => hc (by simp [z])) e⟩) (fun _ _ _ _ n => n)
    (fun b o hc e => ⟨o, k b o (fun z => hc (by simp [z])) e⟩) (fun _ _ e => e) (fun _ _ _ e => e) (fun b ps e => ⟨#[], by rw [e]; simp⟩) (fun m hm => ?_) (fun b u e => ?_) I.bare
  · have e : b = it := by simpa using hb
    subst e
    exact ⟨h1, hL, h2, h3⟩
  · obtain ⟨o, es, ep, ho, r⟩ := hm
    exact ⟨o, es, ep, k _ o (Ne.symm hL) ho, r⟩
  · refine (I.hok b u e).stay (fun c v hc q => k c v ?_ q) (fun _ q => q) fun _ _ q => q
    rcases hc with z | z
    · rw [z]; exact nit b u e
    · exact nit c _ z
theorem Inv.tok (I : Inv X pins σ H s) (t : Nat) : Inv X pins σ H { s with toks := t } := I.un (h' := s.heap) (t' := t) Un.refl I.hok
theorem Inv.kept {t' : Nat} (I : Inv X pins σ H s) (k : ∀ b u, s.heap.get? b = some u → h'.get? b = some u) : Inv X pins σ H { s with heap := h', toks := t' } := I.un (Un.kept k) (I.hok.kept k)
theorem Inv.laid {a : Addr} {o : HO} {t' : Nat} (I : Inv X pins σ H s) (k : ∀ b u, s.heap.get? b = some u → h'.get? b = some u) (hp : s.heap.objs.size ≤ a) (new : ObjOk X.prog X.w (upd H a o) h' a o) :
    Inv X pins σ (upd H a o) { s with heap := h', toks := t' } := I.un (Un.laid k hp (I.hok.fresh hp)) (I.hok.laid k hp new)
theorem Inv.write {x e : Addr} {o : HO} {t' : Nat} (I : Inv X pins σ H s) (mu : Mut (H x)) (he : e = x ∨ H e = some (.own x)) (k : ∀ b u, b ≠ e → s.heap.get? b = some u → h'.get? b = some u) (heo : ∃ u, h'.get? e = some u)
    (new : ObjOk X.prog X.w (upd H x o) h' x o) : Inv X pins σ (upd H x o) { s with heap := h', toks := t' } := I.un (Un.write mu he k heo) (I.hok.write mu he k heo new)
theorem Inv.pins_of {pins' : List (Addr × Obj)} (I : Inv X pins σ H s) (h : ∀ p ∈ pins', s.heap.get? p.1 = some p.2 ∧ H p.1 = none ∧ p.1 ≠ X.env.locals ∧ p.1 ∉ X.fs ∧ ∀ v, p.2.data ≠ .cell v) : Inv X pins' σ H s :=
  ⟨I.ok, I.os, I.bare, I.base, I.loc, I.cell, I.free, I.freeC, fun p hp => (List.mem_append.mp hp).elim (fun z => I.pin p (List.mem_append_left _ z)) (h p), I.hok, I.len⟩

theorem nodup_ix {N : List Str} (hN : N.Nodup) {i j : Nat} {x : Str} (a : N[i]? = some x) (b : N[j]? = some x) : i = j := by
  obtain ⟨h1, e1⟩ := List.getElem?_eq_some_iff.mp a
  obtain ⟨h2, e2⟩ := List.getElem?_eq_some_iff.mp b
  exact (List.getElem_inj hN).mp (e1.trans e2.symm)

theorem store_ok2 {M : Model} {A : Around} {E : Value → Shared → Prop} {i : Nat} {x : Str} {v : V} {u : Value} {Q : Unit → Shared → Prop} (I : Inv X pins σ H s) (hN : X.N.Nodup) (hi : X.N[i]? = some x) (hx : Loc X.env.scope x) (r : RelV v u)
    (h : ∀ s', Inv X pins (σ.set i (some v)) H s' → (∃ a, Heap.SameBut a s.heap s'.heap ∧ (a = X.env.locals ∨ X.env.cells.lookup x = some a)) → Q () s') (hf : X.fn x = true ∨ X.env.scope.names.lookup x = some .local := by first | exact .inl rfl | exact .inr rfl | assumption) : wpAny M A (storeName X.env x u) Q E s := by
  obtain ⟨m, hn, hl⟩ := id I.loc
  have hcls : (X.env.scope.kind == .class || (X.env.scope.kind == .module && X.env.locals != X.env.globals)) = false := by rw [I.ok.kind]; rfl
  have hiσ : i < σ.length := by rw [I.len]; exact (List.getElem?_eq_some_iff.mp hi).1
  have cne := I.cne
  have tracked : ∀ {a : Addr} {h' : Heap}, (∃ o, s.heap.get? a = some o ∧ H a = none) → Heap.SameBut a s.heap h' → HOk X.prog X.w H h' := fun {a h'} ha hs b ob e => by
    obtain ⟨_, _, hfree⟩ := ha
    refine (I.hok b ob e).stay (fun c w' hc q => (hs.2 c ?_).trans q) (fun _ q => q) fun _ _ q => q
    rintro rfl
    rcases hc with rfl | hc
    · rw [hfree] at e; cases e
    · rw [hfree] at hc; cases hc
  rcases hx with hk | hk
  · refine wpAny_storeName_local hk hn (fun h' hn' hs => ?_) hcls
    obtain ⟨oL, _, _, hoL, _⟩ := id hn
    refine h _ ⟨I.ok, I.os, I.bare, ⟨fun b o e n hb hx => ?_, fun b o e n hb hx => ?_, I.base.free, fun b o e hx => ?_, I.base.tups, I.base.frzs, I.base.tbls⟩, ⟨_, hn', fun j y v' e1 e2 e3 => ?_⟩, fun y c e => ?_, I.free, I.freeC, fun p hp => ?_, tracked ⟨oL, hoL, I.free⟩ hs, by simpa using I.len⟩ ⟨_, hs, .inl rfl⟩
    · exact (hs.2 b (Nat.ne_of_lt (Nat.lt_of_lt_of_le (Heap.lt_size e) I.ok.above))).trans (I.base.keep b o e n hb hx)
    · obtain ⟨sl, e1⟩ := I.base.slot b o e n hb hx
      exact ⟨sl, (hs.2 b (Nat.ne_of_lt (Nat.lt_of_lt_of_le (Heap.lt_size e) I.ok.above))).trans e1⟩
    · obtain ⟨o', e1⟩ := I.base.there b o e hx
      exact ⟨o', (hs.2 b (Nat.ne_of_lt (Nat.lt_of_lt_of_le (Heap.lt_size e) I.ok.above))).trans e1⟩
    · by_cases hj : j = i
      · subst hj
        rw [hi] at e1; cases e1
        rw [List.getElem?_set_self hiσ] at e2
        cases e2
        exact ⟨u, r, .inl ⟨hk, by simp⟩⟩
      · rw [List.getElem?_set_ne (Ne.symm hj)] at e2
        obtain ⟨u', r', q⟩ := hl j y v' e1 e2 e3
        refine ⟨u', r', ?_⟩
        rcases q with ⟨k, e⟩ | ⟨k, c, e, z⟩
        · refine .inl ⟨k, ?_⟩
          have : y ≠ x := fun e => hj (nodup_ix hN e1 (e ▸ hi))
          simp [this, e]
        · exact .inr ⟨k, c, e, z.sameBut hs (cne y c e)⟩
    · obtain ⟨w', z⟩ := I.cell y c e
      exact ⟨w', z.sameBut hs (cne y c e)⟩
    · obtain ⟨e, n, ne, nf, d⟩ := I.pin p hp
      exact ⟨(hs.2 p.1 ne).trans e, n, ne, nf, d⟩
  · have hfn : X.fn x = true := by
      rcases hf with z | z
      · exact z
      · rw [z] at hk; cases hk
    obtain ⟨c, hc⟩ := I.ok.has x (.inl hk)
    obtain ⟨w', z⟩ := I.cell x c hc
    refine wpAny_storeName_cell I.ok.kind hk hc z (fun h' hc' hs => ?_)
    obtain ⟨oc, hoc, hocd⟩ := id z
    refine h { s with heap := h' } ⟨I.ok, I.os, I.bare, ⟨fun b o e n hb hx => ?_, fun b o e n hb hx => ?_, I.base.free, fun b o e hx => ?_, I.base.tups, I.base.frzs, I.base.tbls⟩, ⟨m, hn.sameBut hs (Ne.symm (cne x c hc)), fun j y v' e1 e2 e3 => ?_⟩, fun y c' e => ?_, I.free, I.freeC, fun p hp => ?_, tracked ⟨oc, hoc, I.freeC x c hc⟩ hs, by simpa using I.len⟩ ⟨c, hs, .inr hc⟩
    · exact (hs.2 b (Nat.ne_of_lt (Nat.lt_of_lt_of_le (Heap.lt_size e) (I.ok.cab x c hfn hc)))).trans (I.base.keep b o e n hb hx)
    · obtain ⟨sl, e1⟩ := I.base.slot b o e n hb hx
      exact ⟨sl, (hs.2 b (Nat.ne_of_lt (Nat.lt_of_lt_of_le (Heap.lt_size e) (I.ok.cab x c hfn hc)))).trans e1⟩
    · obtain ⟨o', e1⟩ := I.base.there b o e hx
      exact ⟨o', (hs.2 b (Nat.ne_of_lt (Nat.lt_of_lt_of_le (Heap.lt_size e) (I.ok.cab x c hfn hc)))).trans e1⟩
    · by_cases hj : j = i
      · subst hj
        rw [hi] at e1; cases e1
        rw [List.getElem?_set_self hiσ] at e2
        cases e2
        exact ⟨u, r, .inr ⟨.inl hk, c, hc, hc'⟩⟩
      · rw [List.getElem?_set_ne (Ne.symm hj)] at e2
        obtain ⟨u', r', q⟩ := hl j y v' e1 e2 e3
        refine ⟨u', r', ?_⟩
        rcases q with q | ⟨k, c', e, z'⟩
        · exact .inl q
        · refine .inr ⟨k, c', e, z'.sameBut hs ?_⟩
          rintro rfl
          exact hj (nodup_ix hN e1 (I.ok.inj _ _ _ e hc ▸ hi))
    · by_cases hcc : c' = c
      · subst hcc; exact ⟨_, hc'⟩
      · obtain ⟨w2, z2⟩ := I.cell y c' e
        exact ⟨w2, z2.sameBut hs hcc⟩
    · obtain ⟨e, n, ne, nf, d⟩ := I.pin p hp
      refine ⟨(hs.2 p.1 ?_).trans e, n, ne, nf, d⟩
      intro q
      rw [q, hoc] at e
      have q' : oc = p.2 := Option.some.inj e
      exact d w' (by rw [← q']; exact hocd)
theorem store_ok {M : Model} {A : Around} {E : Value → Shared → Prop} {i : Nat} {x : Str} {v : V} {u : Value} {Q : Unit → Shared → Prop} (I : Inv X pins σ H s) (hN : X.N.Nodup) (hi : X.N[i]? = some x) (hx : Loc X.env.scope x) (r : RelV v u)
    (h : ∀ s', Inv X pins (σ.set i (some v)) H s' → Q () s') (hf : X.fn x = true ∨ X.env.scope.names.lookup x = some .local := by first | exact .inl rfl | exact .inr rfl | assumption) : wpAny M A (storeName X.env x u) Q E s :=
  store_ok2 I hN hi hx r (fun s' I' _ => h s' I') hf
theorem Inv.call' {s' : Shared} {ch : List Addr} (I : Inv X pins σ H s) (ho : s'.os = s.os) (u : Un (frs X.stack) ch H H' s.heap s'.heap) (hok : HOk X.prog X.w H' s'.heap) (hg : AllBare s'.gens)
    (hch : ∀ b ∈ ch, (b ∈ X.ex ∨ X.s₀.heap.objs.size ≤ b) ∧ b ≠ X.env.locals ∧ (∀ x c, X.env.cells.lookup x = some c → c ≠ b) ∧ ∀ p ∈ X.pn ++ pins, p.1 ≠ b) : Inv X pins σ H' s' := by
  obtain ⟨h', g', d', t', o'⟩ := s'
  have e : o' = s.os := ho
  subst e
  exact I.call (g' := g') (t' := t') (d' := d') u hok hg hch
end

abbrev XK := Value → Option Addr → Hp → Prop
abbrev St := List (Option V)
abbrev VK := V → Hp → Prop
abbrev TE := St → Hp → VK → Prop
abbrev TT := St → Hp → (Bool → Hp → Prop) → Prop
abbrev TA := St → Hp → (List V → Hp → Prop) → Prop
structure Ends where
  nx : St → Hp → Prop
  rt : VK
  bk : St → Hp → Prop := fun _ _ => False
  ct : St → Hp → Prop := fun _ _ => False
abbrev TS := Ends → St → Hp → Prop

def EP (X : Cx) (pins : List (Addr × Obj)) (σ : St) (Q : VK) (u : Value) (s' : Shared) : Prop := ∃ v H', Inv X pins σ H' s' ∧ RelV v u ∧ Q v H'
def TP (X : Cx) (pins : List (Addr × Obj)) (σ : St) (Q : Bool → Hp → Prop) (b : Bool) (s' : Shared) : Prop := ∃ H', Inv X pins σ H' s' ∧ Q b H'
def AP (X : Cx) (pins : List (Addr × Obj)) (σ : St) (Q : List V → Hp → Prop) (us : List Value) (s' : Shared) : Prop := ∃ vs H', Inv X pins σ H' s' ∧ Vals vs us ∧ Q vs H'
def SP (X : Cx) (pins : List (Addr × Obj)) (D : Ends) (f : Flow) (s' : Shared) : Prop :=
  match f with
  | .next => ∃ σ' H', Inv X pins σ' H' s' ∧ D.nx σ' H'
  | .brk => ∃ σ' H', Inv X pins σ' H' s' ∧ D.bk σ' H'
  | .cont => ∃ σ' H', Inv X pins σ' H' s' ∧ D.ct σ' H'
  | .ret u => ∃ v σ' H', Inv X pins σ' H' s' ∧ RelV v u ∧ D.rt v H'

def PE (X : Cx) (e : Expr) (t : TE) : Prop :=
  ∀ (pins : List (Addr × Obj)) (s : Shared) (σ : St) (H : Hp) (Q : VK), Inv X pins σ H s → t σ H Q → wpAny (model X.prog X.w) X.A (eval e X.env) (EP X pins σ Q) X.xe s
def PT (X : Cx) (e : Expr) (t : TT) : Prop :=
  ∀ (pins : List (Addr × Obj)) (s : Shared) (σ : St) (H : Hp) (Q : Bool → Hp → Prop), Inv X pins σ H s → t σ H Q → wpAny (model X.prog X.w) X.A (isTrue e X.env (eval e X.env)) (TP X pins σ Q) X.xe s
def PW (X : Cx) (e : Expr) (t : TT) : Prop :=
  ∀ (whole : Sem Value) (pins : List (Addr × Obj)) (s : Shared) (σ : St) (H : Hp) (Q : Bool → Hp → Prop), Inv X pins σ H s → t σ H Q → wpAny (model X.prog X.w) X.A (isTrue e X.env whole) (TP X pins σ Q) X.xe s
theorem PW.pt {X : Cx} {e : Expr} {t : TT} (h : PW X e t) : PT X e t := h _
def PA (X : Cx) (es : List Expr) (t : TA) : Prop :=
  ∀ (pos : Pos) (pins : List (Addr × Obj)) (s : Shared) (σ : St) (H : Hp) (Q : List V → Hp → Prop), Inv X pins σ H s → t σ H Q → wpAny (model X.prog X.w) X.A (spliced (backTo pos (starEach es X.env))) (AP X pins σ Q) X.xe s
def PS (X : Cx) (st : Stmt) (t : TS) : Prop :=
  ∀ (pins : List (Addr × Obj)) (s : Shared) (σ : St) (H : Hp) (D : Ends), Inv X pins σ H s → t D σ H → wpAny (model X.prog X.w) X.A (exec st X.env) (SP X pins D) X.xe s
def PSs (X : Cx) (st : List Stmt) (t : TS) : Prop :=
  ∀ (pins : List (Addr × Obj)) (s : Shared) (σ : St) (H : Hp) (D : Ends), Inv X pins σ H s → t D σ H → wpAny (model X.prog X.w) X.A (execs st X.env) (SP X pins D) X.xe s
theorem thn {α : Type} {t : Sem α} {Q Q' : α → Shared → Prop} {M : Model} {A : Around} {E : Value → Shared → Prop} {s : Shared} (h : wpAny M A t Q E s) (hQ : ∀ a s, Q a s → Q' a s) : wpAny M A t Q' E s := wpAny_mono h hQ fun _ _ x => x
end L2

namespace L2
open PySem PySem.Spec PyProof.Rows
section
variable {X : Cx}

def tVar (i : Nat) : TE := fun σ H Q => ∃ v, σ[i]? = some (some v) ∧ Q v H
def tC (v : V) : TE := fun _ H Q => Q v H
theorem pe_var {i : Nat} {x : Str} {pos : Pos} (hN : X.N[i]? = some x) (hv : Vis X.env.scope x) (hd : (x == ("__debug__" : Str)) = false := by decide) (hcd : (x == ("__classdict__" : Str)) = false := by decide) : PE X (.Name x pos) (tVar i) := by
  intro pins s σ H Q I h
  obtain ⟨v, e, h⟩ := h
  obtain ⟨m, hn, hl⟩ := I.loc
  obtain ⟨u, r, l⟩ := hl i x v hN e hv
  have fin : EP X pins σ Q u s := ⟨v, H, I, r, h⟩
  rcases l with ⟨hk, hm⟩ | ⟨hk, c, hc, hcell⟩
  · exact wpAny_Name (wpAny_loadName_local I.ok.kind hk hn hm fin) hd
  · rcases hk with hk | hk
    · exact wpAny_Name (wpAny_loadName_cell I.ok.kind hk hc hcell fin) hd
    · exact wpAny_Name (wpAny_loadName_free I.ok.kind hk hc hcell fin hcd) hd
theorem pe_int {i j pos} : PE X (.Constant (.int i) j pos) (tC (.int i)) := fun _ _ _ H _ I h => wpAny_Constant_int ⟨.int i, H, I.tok _, ⟨_, rfl⟩, h⟩
theorem pe_bl {b j pos} : PE X (.Constant (.bool b) j pos) (tC (.bl b)) := fun _ _ _ H _ I h => Constant_bool ⟨.bl b, H, I, rfl, h⟩
theorem pe_non {j pos} : PE X (.Constant .none j pos) (tC .non) := fun _ _ _ H _ I h => Constant_none ⟨.non, H, I, rfl, h⟩
theorem pe_str {x j pos} : PE X (.Constant (.str x) j pos) (tC (.str x)) := fun _ _ _ H _ I h => Calls.Constant_str ⟨.str x, H, I.tok _, ⟨_, rfl⟩, h⟩

def Gl (X : Cx) (x : Str) : Prop := X.env.kindOf x = some .globalImplicit
theorem ld_glob {E : Value → Shared → Prop} {pins : List (Addr × Obj)} {s : Shared} {σ : St} {H : Hp} {x : Str} {u : Value} {pos : Pos} {Q : Value → Shared → Prop} (I : Inv X pins σ H s) (hg : Gl X x) (hm : X.mg x = some u) (h : Q u s)
    (hd : (x == ("__debug__" : Str)) = false := by decide) : wpAny (model X.prog X.w) X.A (eval (.Name x pos) X.env) Q E s :=
  Calls.Name_function_global I.ok.kind hg (Calls.loadGlobal_global (by rw [I.ok.glob]; exact I.mod.glob.keeps I.bk) hm h) hd
theorem ld_blt {E : Value → Shared → Prop} {pins : List (Addr × Obj)} {s : Shared} {σ : St} {H : Hp} {x : Str} {u : Value} {pos : Pos} {Q : Value → Shared → Prop} (I : Inv X pins σ H s) (hg : Gl X x) (hm : X.mg x = none) (hv : bootBuiltins x = some u) (h : Q u s)
    (hn : x ≠ "__name__" := by decide) (hd : (x == ("__debug__" : Str)) = false := by decide) : wpAny (model X.prog X.w) X.A (eval (.Name x pos) X.env) Q E s := by
  obtain ⟨mb, h1, h2⟩ := I.mod.blt
  exact Calls.Name_function_global I.ok.kind hg (Calls.loadGlobal_builtin (by rw [I.ok.glob]; exact I.mod.glob.keeps I.bk) hm (by rw [I.ok.blt]; exact h1.keeps I.bk) ((h2 x hn).trans hv) h) hd
theorem pe_glob {x : Str} {v : V} {u : Value} {pos : Pos} (hg : Gl X x) (hm : X.mg x = some u) (r : RelV v u) (hd : (x == ("__debug__" : Str)) = false := by decide) : PE X (.Name x pos) (tC v) :=
  fun _ _ _ H _ I h => ld_glob I hg hm ⟨v, H, I, r, h⟩ hd
theorem pe_bltn {x : Str} {v : V} {u : Value} {pos : Pos} (hg : Gl X x) (hm : X.mg x = none) (hv : bootBuiltins x = some u) (r : RelV v u) (hn : x ≠ "__name__" := by decide) (hd : (x == ("__debug__" : Str)) = false := by decide) : PE X (.Name x pos) (tC v) :=
  fun _ _ _ H _ I h => ld_blt I hg hm hv ⟨v, H, I, r, h⟩ hn hd

variable {a b : Expr} {ta tb : TE} {pos : Pos}
def PC (X : Cx) (op : CmpOp) (a b : Expr) (t : TE) : Prop :=
  ∀ (pins : List (Addr × Obj)) (s : Shared) (σ : St) (H : Hp) (Q : VK), Inv X pins σ H s → t σ H Q →
    wpAny (model X.prog X.w) X.A (eval a X.env) (fun v s₁ => wpAny (model X.prog X.w) X.A (eval b X.env) (fun u s₂ => wpAny (model X.prog X.w) X.A (compareOp op v u) (EP X pins σ Q) X.xe s₂) X.xe s₁) X.xe s
def tB (t : TE) : TT := fun σ H Q => t σ H fun x H1 => ∃ c, x = .bl c ∧ Q c H1
theorem pe_cmp {op : CmpOp} {t : TE} (h : PC X op a b t) (h1 : behindInMarks op b = false := by first | exact nobehind _ (by decide) (by decide) | rfl) : PE X (.Compare a [op] [b] pos) t := fun pins s σ H Q I hw => wpAny_Compare1 (h pins s σ H Q I hw) h1
theorem pt_cmp {op : CmpOp} {t : TE} (h : PC X op a b t) (h1 : behindInMarks op b = false := by first | exact nobehind _ (by decide) (by decide) | rfl) : PT X (.Compare a [op] [b] pos) (tB t) := by
  intro pins s σ H Q I hw
  refine wpAny_isTrue_Compare1 (thn (h pins s σ H _ I hw) fun v s1 h1 => thn h1 fun u s2 h2 => thn h2 fun c s3 ⟨x, H1, I1, r1, q1⟩ => ?_) h1
  obtain ⟨d, rfl, q⟩ := q1
  cases r1
  exact wpAny_truthy_bool ⟨H1, I1, q⟩
theorem pt_val {e : Expr} {t : TE} (h : PE X e t) (he : ∀ whole, isTrue e X.env whole = (do let v ← whole; standAt e.pos; holding [v] (truthy v)) := by intro _; rfl) : PT X e (tB t) := by
  intro pins s σ H Q I hw
  refine isTrue_plain (thn (h pins s σ H _ I hw) fun v s1 ⟨x, H1, I1, r1, q1⟩ => ?_) (he _)
  obtain ⟨d, rfl, q⟩ := q1
  cases r1
  exact wpAny_truthy_bool ⟨H1, I1, q⟩

variable {tA tB' : TT} {rest : List Expr}
def tOr (t u : TT) : TT := fun σ H Q => t σ H fun c H1 => if c = true then Q true H1 else u σ H1 Q
def tNot (t : TT) : TT := fun σ H Q => t σ H fun c H1 => Q (!c) H1
theorem pw_or1 (ha : PT X a tA) : PW X (.BoolOp .Or [a] pos) tA := by
  intro wh pins s σ H Q I h
  refine isTrue_or (thn (ha pins s σ H Q I h) fun c s1 e => ?_)
  cases c with
  | false => exact isTrue_or_nil e
  | true => exact e
theorem pw_or (ha : PT X a tA) (hb : PW X (.BoolOp .Or (b :: rest) pos) tB') : PW X (.BoolOp .Or (a :: b :: rest) pos) (tOr tA tB') := by
  intro wh pins s σ H Q I h
  refine isTrue_or (thn (ha pins s σ H _ I h) fun c s1 ⟨H1, I1, q1⟩ => ?_)
  cases c with
  | true => exact ⟨H1, I1, q1⟩
  | false => exact hb wh pins s1 σ H1 Q I1 q1
theorem pt_not (ha : PT X a tA) : PT X (.UnaryOp .Not a pos) (tNot tA) := by
  intro pins s σ H Q I h
  exact isTrue_not (ha pins s σ H (fun c H1 => Q (!c) H1) I h)
def tAndV (ta tb : TE) : TE := fun σ H Q => ta σ H fun x H1 => ∃ c, x = .bl c ∧ if c = true then tb σ H1 Q else Q (.bl false) H1
theorem pe_one {op} {t : TE} (h : PE X a t) : PE X (.BoolOp op [a] pos) t := fun pins s σ H Q I hw => BoolOp_one (h pins s σ H Q I hw)
theorem pe_and (ha : PE X a ta) (hb : PE X (.BoolOp .And (b :: rest) pos) tb) : PE X (.BoolOp .And (a :: b :: rest) pos) (tAndV ta tb) := by
  intro pins s σ H Q I h
  refine BoolOp_and (thn (ha pins s σ H _ I h) fun v s1 ⟨x, H1, I1, r1, q1⟩ => ?_)
  obtain ⟨c, rfl, q1⟩ := q1
  cases r1
  refine wpAny_truthy_bool ?_
  cases c with
  | true => exact hb pins s1 σ H1 Q I1 q1
  | false => exact ⟨.bl false, H1, I1, rfl, q1⟩
end
end L2

namespace L2
open PySem PySem.Spec PyProof.Rows

def SqL (K : PySem.W.Frag) (H : Hp) (a : Addr) (xs : List V) : Prop :=
  Rd H a (.lst xs) ∨
    ∃ (o : Obj) (its : Array Value) (n : Nat), K.lookup a = some o ∧ o.cls = .type "list" ∧ o.dict = none ∧ o.data = .seq its n ∧ its.size ≤ sizeLine ∧ Vals xs its.toList
def SqT (K : PySem.W.Frag) (H : Hp) (a : Addr) (xs : List V) : Prop :=
  Rd H a (.tup xs) ∨
    ∃ (o : Obj) (its : Array Value) (n : Nat), K.lookup a = some o ∧ o.cls = .type "tuple" ∧ o.data = .seq its n ∧ its.size ≤ sizeLine ∧ Vals xs its.toList
def absV : Value → Option V
  | .none => some .non
  | .bool b => some (.bl b)
  | .int i _ => some (.int i)
  | .str x _ => some (.str x)
  | .bytes b _ => some (.byt b)
  | .float b _ => some (.flt b)
  | .ref a => some (.ref a)
  | .type n => some (.ty n)
  | _ => none
theorem RelV.abs {x : V} {u : Value} (r : RelV x u) : absV u = some x := by
  cases x with
  | non => cases r; rfl
  | bl _ => cases r; rfl
  | int _ => obtain ⟨t, rfl⟩ := r; rfl
  | str _ => obtain ⟨t, rfl⟩ := r; rfl
  | byt _ => obtain ⟨t, rfl⟩ := r; rfl
  | flt _ => obtain ⟨t, rfl⟩ := r; rfl
  | ref _ => cases r; rfl
  | ty _ => cases r; rfl
theorem RelV.inj {x y : V} {u : Value} (r : RelV x u) (q : RelV y u) : x = y := Option.some.inj (r.abs.symm.trans q.abs)
theorem Vals.inj : ∀ {xs ys : List V} {us : List Value}, Vals xs us → Vals ys us → xs = ys
  | _, _, _, .nil, .nil => rfl
  | _, _, _, .cons r t, .cons r' t' => by rw [r.inj r', Vals.inj t t']
section
variable {X : Cx} {pins : List (Addr × Obj)} {σ : St} {H : Hp} {s : Shared} {a : Addr} {xs ys : List V}
theorem SqL.of {K : PySem.W.Frag} (h : H a = some (.lst xs)) : SqL K H a xs := .inl (.inl h)
theorem SqT.of {K : PySem.W.Frag} (h : H a = some (.tup xs)) : SqT K H a xs := .inl (.inl h)
theorem Inv.list (I : Inv X pins σ H s) (h : SqL X.K H a xs) : ∃ its : List Value, Vals xs its ∧ PlainL s.heap a its.toArray ∧ xs.length ≤ sizeLine := by
  rcases h with h | ⟨o, its, n, hk, hc, hd, hs, hz, r⟩
  · obtain ⟨z, its, n, r, e⟩ := h.ok I.hok
    exact ⟨its, r, ⟨_, n, e, rfl, rfl, rfl⟩, z⟩
  · refine ⟨its.toList, r, ⟨o, n, I.kIn a o hk, hc, hd, by simpa using hs⟩, ?_⟩
    have e := r.length
    simp only [Array.length_toList] at e
    omega
theorem Inv.tuple (I : Inv X pins σ H s) (h : SqT X.K H a xs) : ∃ its : List Value, Vals xs its ∧ IsTup s.heap a its.toArray ∧ xs.length ≤ sizeLine := by
  rcases h with h | ⟨o, its, n, hk, hc, hs, hz, r⟩
  · obtain ⟨z, its, r, p⟩ := h.ok I.hok
    exact ⟨its, r, p, z⟩
  · refine ⟨its.toList, r, ⟨o, I.kIn a o hk, hc, n, by simpa using hs⟩, ?_⟩
    have e := r.length
    simp only [Array.length_toList] at e
    omega
theorem Inv.list_inj (I : Inv X pins σ H s) (h : SqL X.K H a xs) (h' : SqL X.K H a ys) : xs = ys := by
  obtain ⟨its, r, ⟨o, n, e, _, _, d⟩, _⟩ := I.list h
  obtain ⟨its', r', ⟨o', n', e', _, _, d'⟩, _⟩ := I.list h'
  rw [e] at e'; cases e'
  rw [d] at d'
  injection d' with d1 _
  have : its = its' := by simpa using congrArg Array.toList d1
  subst this
  exact r.inj r'
end

abbrev Cx.wish (X : Cx) (E : Value → Shared → Prop) : Cx := { X with xe := E }
abbrev Cx.nox (X : Cx) : Cx := X.wish fun _ _ => False
theorem Cx.Ok.wish {X : Cx} (ok : X.Ok) (E : Value → Shared → Prop) : (X.wish E).Ok :=
  ⟨ok.mod, ok.kind, ok.glob, ok.blt, ok.above, ok.inj, ok.has, ok.cab, ok.hd, ok.frames, ok.stk, ok.exf, ok.bs, ok.bsz, ok.noex, ok.exfs, ok.funs, ok.frf⟩
theorem Cx.Ok.unwish {X : Cx} {E : Value → Shared → Prop} (ok : (X.wish E).Ok) : X.Ok :=
  ⟨ok.mod, ok.kind, ok.glob, ok.blt, ok.above, ok.inj, ok.has, ok.cab, ok.hd, ok.frames, ok.stk, ok.exf, ok.bs, ok.bsz, ok.noex, ok.exfs, ok.funs, ok.frf⟩
section
variable {X : Cx} {pins : List (Addr × Obj)} {σ : St} {H : Hp} {s : Shared} {E : Value → Shared → Prop}
theorem Inv.wish (I : Inv X pins σ H s) (E : Value → Shared → Prop) : Inv (X.wish E) pins σ H s := ⟨I.ok.wish E, I.os, I.bare, I.base, I.loc, I.cell, I.free, I.freeC, I.pin, I.hok, I.len⟩
theorem Inv.unwish (I : Inv (X.wish E) pins σ H s) : Inv X pins σ H s := ⟨I.ok.unwish, I.os, I.bare, I.base, I.loc, I.cell, I.free, I.freeC, I.pin, I.hok, I.len⟩
theorem SP.unwish {D : Ends} {f : Flow} {s' : Shared} (h : SP (X.wish E) pins D f s') : SP X pins D f s' := by
  cases f with
  | next => obtain ⟨σ', H', I, q⟩ := h; exact ⟨σ', H', I.unwish, q⟩
  | brk => obtain ⟨σ', H', I, q⟩ := h; exact ⟨σ', H', I.unwish, q⟩
  | cont => obtain ⟨σ', H', I, q⟩ := h; exact ⟨σ', H', I.unwish, q⟩
  | ret u => obtain ⟨v, σ', H', I, r, q⟩ := h; exact ⟨v, σ', H', I.unwish, r, q⟩
theorem PSs.nox {st : List Stmt} {t : TS} (h : PSs X.nox st t) : PSs X st t := fun pins s σ H D I hw =>
  wpAny_mono (h pins s σ H D (I.wish _) hw) (fun _ _ q => q.unwish) fun _ _ z => False.elim z
end

section
variable {X : Cx} {st : Stmt} {rest : List Stmt} {t u : TS} {e : Expr} {te : TE} {pos : Pos}
def tNext : TS := fun D σ H => D.nx σ H
def tSeq (t u : TS) : TS := fun D σ H => t { D with nx := u D } σ H
theorem pss_nil : PSs X [] tNext := fun _ _ σ H _ I h => wpAny_execs_nil ⟨σ, H, I, h⟩
theorem pss_cons (h1 : PS X st t) (h2 : PSs X rest u) : PSs X (st :: rest) (tSeq t u) := by
  intro pins s σ H D I h
  refine wpAny_execs_cons (thn (h1 pins s σ H { D with nx := u D } I h) fun f s1 q => ?_)
  cases f with
  | next =>
    obtain ⟨σ', H', I', q⟩ := q
    exact h2 pins s1 σ' H' D I' q
  | ret v => exact q
  | brk => exact q
  | cont => exact q
theorem pss_one (h1 : PS X st t) : PSs X [st] t := by
  intro pins s σ H D I h
  refine wpAny_execs_cons (thn (h1 pins s σ H D I h) fun f s1 q => ?_)
  cases f with
  | next => exact wpAny_execs_nil q
  | ret v => exact q
  | brk => exact q
  | cont => exact q
theorem Inv.quiet {pins : List (Addr × Obj)} {σ : St} {H : Hp} {s : Shared} (I : Inv X pins σ H s) : interactive X.env = false := by simp [interactive, I.ok.kind]
def tDrop (te : TE) : TS := fun D σ H => te σ H fun _ H1 => D.nx σ H1
theorem ps_expr (he : PE X e te) (hs : swapsWith e none pos.line X.env = pure false := by rfl) : PS X (.Expr e pos) (tDrop te) := by
  intro pins s σ H D I h
  exact wpAny_Expr_any (thn (he pins s σ H _ I h) fun v s1 ⟨x, H1, I1, r1, q1⟩ => ⟨σ, H1, I1, q1⟩) I.quiet hs
def tRet (te : TE) : TS := fun D σ H => te σ H D.rt
theorem ps_ret (he : PE X e te) : PS X (.Return (some e) pos) (tRet te) := by
  intro pins s σ H D I h
  exact wpAny_Return_some (thn (he pins s σ H _ I h) fun v s1 ⟨x, H1, I1, r1, q1⟩ => ⟨x, σ, H1, I1, r1, q1⟩)
def tIfS (c : TT) (t u : TS) : TS := fun D σ H => c σ H fun b H1 => if b = true then t D σ H1 else u D σ H1
theorem ps_if {c : Expr} {a b : List Stmt} {tc : TT} (hc : PT X c tc) (ha : PSs X a t) (hb : PSs X b u) : PS X (.If c a b pos) (tIfS tc t u) := by
  intro pins s σ H D I h
  refine wpAny_If (thn (hc pins s σ H _ I h) fun d s1 ⟨H1, I1, q1⟩ => ?_)
  cases d with
  | true => exact ha pins s1 σ H1 D I1 q1
  | false => exact hb pins s1 σ H1 D I1 q1
end

abbrev TG := V → St → Hp → (St → Hp → Prop) → Prop
abbrev TGs := List V → St → Hp → (St → Hp → Prop) → Prop
def PG (X : Cx) (target : Expr) (t : TG) : Prop :=
  ∀ (pins : List (Addr × Obj)) (s : Shared) (σ : St) (H : Hp) (v : V) (u : Value) (Q : St → Hp → Prop), Inv X pins σ H s → RelV v u → t v σ H Q →
    wpAny (model X.prog X.w) X.A (assign target X.env u) (fun _ s' => ∃ σ' H', Inv X pins σ' H' s' ∧ Q σ' H') X.xe s
def PGs (X : Cx) (ts : List Expr) (t : TGs) : Prop :=
  ∀ (pins : List (Addr × Obj)) (s : Shared) (σ : St) (H : Hp) (vs : List V) (us : List Value) (Q : St → Hp → Prop), Inv X pins σ H s → Vals vs us → t vs σ H Q →
    wpAny (model X.prog X.w) X.A (assignInOrder ((assignEach ts X.env).map (·.2)) us) (fun _ s' => ∃ σ' H', Inv X pins σ' H' s' ∧ Q σ' H') X.xe s
section
variable {X : Cx} {pos : Pos}
def gName (i : Nat) : TG := fun v σ H Q => Q (σ.set i (some v)) H
theorem pg_name {i : Nat} {x : Str} (hN : X.N.Nodup) (hi : X.N[i]? = some x) (hx : Loc X.env.scope x) (hf : X.fn x = true ∨ X.env.scope.names.lookup x = some .local := by first | exact .inl rfl | exact .inr rfl | assumption) : PG X (.Name x pos) (gName i) := by
  intro pins s σ H v u Q I r h
  exact wpAny_assign_Name (store_ok I hN hi hx r (fun s' I' => ⟨_, H, I', h⟩) hf)
def tAsg (te : TE) (g : TG) : TS := fun D σ H => te σ H fun x H1 => g x σ H1 D.nx
theorem ps_set {i : Nat} {x : Str} {e : Expr} {te : TE} {pos' : Pos} (hN : X.N.Nodup) (hi : X.N[i]? = some x) (hx : Loc X.env.scope x) (he : PE X e te) (hs : swapsWith e (some (.Name x pos')) pos.line X.env = pure false := by rfl) (hf : X.fn x = true ∨ X.env.scope.names.lookup x = some .local := by first | exact .inl rfl | exact .inr rfl | assumption) :
    PS X (.Assign [.Name x pos'] e pos) (tAsg te (gName i)) := by
  intro pins s σ H D I h
  refine wpAny_Assign_Name (thn (he pins s σ H _ I h) fun v s1 ⟨y, H1, I1, r1, q1⟩ => ?_) hs
  exact store_ok I1 hN hi hx r1 (fun s2 I2 => ⟨_, H1, I2, q1⟩) hf
end

section
variable {X : Cx} {pos : Pos}
def tWhile (c : TT) (tb : TS) : TS := fun D σ H => ∃ W : Nat → St → Hp → Prop, (∃ m, W m σ H) ∧ ∀ m σ H, W m σ H →
  c σ H fun b H1 => if b = true then ∃ N : St → Hp → Prop, (∀ σ' H', N σ' H' → ∃ m', m' < m ∧ W m' σ' H') ∧ tb { D with nx := N, ct := N, bk := D.nx } σ H1 else D.nx σ H1
theorem ps_while {c : Expr} {body : List Stmt} {tc : TT} {tb : TS} (hp : PassesOwn (model X.prog X.w) X.A X.env X.xe) (hc : PT X c tc) (hb : PSs X body tb) : PS X (.While c body [] pos) (tWhile tc tb) := by
  intro pins s σ H D I h
  obtain ⟨W, ⟨m0, w0⟩, turn⟩ := h
  refine wpAny_While (codeAny_whileLoop (fun n s' => ∃ σ' H', Inv X pins σ' H' s' ∧ W n σ' H') ?_ m0 ⟨σ, H, I, w0⟩)
  rintro n s1 ⟨σ1, H1, I1, w1⟩
  refine wpAny_passesOwn hp (thn (hc pins s1 σ1 H1 _ I1 (turn n σ1 H1 w1)) fun b s2 ⟨H2, I2, q2⟩ => ?_)
  cases b with
  | true =>
    obtain ⟨N, hN, q2⟩ := q2
    rw [if_pos rfl]
    refine wpAny_passesOwn hp (thn (hb pins s2 σ1 H2 _ I2 q2) fun f s3 q3 => ?_)
    cases f with
    | next =>
      obtain ⟨σ3, H3, I3, n3⟩ := q3
      obtain ⟨m', hm, w3⟩ := hN σ3 H3 n3
      exact ⟨m', hm, σ3, H3, I3, w3⟩
    | cont =>
      obtain ⟨σ3, H3, I3, n3⟩ := q3
      obtain ⟨m', hm, w3⟩ := hN σ3 H3 n3
      exact ⟨m', hm, σ3, H3, I3, w3⟩
    | brk => exact q3
    | ret v => exact q3
  | false =>
    rw [if_neg Bool.false_ne_true]
    exact wpAny_execs_nil ⟨σ1, H2, I2, q2⟩
end

structure It where
  go : Nat → Hp → Prop
  yld : Nat → Hp → V → Hp → Prop
  stop : Nat → Hp → Prop
def FpOk (X : Cx) (pins : List (Addr × Obj)) (H : Hp) (b : Addr) : Prop :=
  H b = none ∧ b ≠ X.env.locals ∧ b ∉ X.fs ∧ (b ∈ X.ex ∨ X.s₀.heap.objs.size ≤ b) ∧ (∀ x c, X.env.cells.lookup x = some c → c ≠ b) ∧ ∀ p ∈ X.pn ++ pins, p.1 ≠ b
theorem Inv.fpOk {X : Cx} {pins : List (Addr × Obj)} {σ : St} {H H' : Hp} {s : Shared} {b : Addr} (I : Inv X pins σ H s) (hb : s.heap.objs.size ≤ b) (hn : H' b = none) : FpOk X pins H' b := by
  refine ⟨hn, Nat.ne_of_gt (Nat.lt_of_lt_of_le I.lt hb), I.nofs hb, .inr (Nat.le_trans I.sz hb), fun x c e z => ?_, fun p hp z => ?_⟩
  · obtain ⟨v, q⟩ := I.cell x c e
    exact absurd (Nat.lt_of_lt_of_le q.lt (by rw [z]; exact hb)) (Nat.lt_irrefl _)
  · exact absurd (Nat.lt_of_lt_of_le (Heap.lt_size (I.pin p hp).1) (by rw [z]; exact hb)) (Nat.lt_irrefl _)
structure Turn (P : Program) (w : World) (K : PySem.W.Frag) (tg : Expr) (J : It) (fp : List Addr) (it : Addr) (tn : Nat → Heap → Prop) : Prop where
  mem : it ∈ fp
  obj : ∀ i h, tn i h → ∀ b ∈ fp, ∃ o, h.get? b = some o ∧ ∀ v, o.data ≠ .cell v
  keep : ∀ i h h', tn i h → (∀ b ∈ fp, ∀ o, h.get? b = some o → h'.get? b = some o) → tn i h'
  item : ∀ (X : Cx), X.prog = P → X.w = w → X.K = K → X.calm = true → ∀ (i : Nat) (pins : List (Addr × Obj)) (s : Shared) (σ : St) (H : Hp) (E : Value → Shared → Prop), Inv X pins σ H s → (∀ b ∈ fp, FpOk X pins H b) → tn i s.heap → J.go i H →
    wpAny (model P w) X.A (pyNext (.ref it)) (fun r s1 => ∃ u, r = some u ∧
      wpAny (model P w) X.A (letOwnedTupleGo tg (.ref it) u) (fun _ s2 => ∃ x H', Inv X pins σ H' s2 ∧ RelV x u ∧ J.yld i H x H' ∧ tn (i + 1) s2.heap ∧ ∀ b ∈ fp, H' b = none) E s1) E s
  done : ∀ (X : Cx), X.prog = P → X.w = w → X.K = K → X.calm = true → ∀ (i : Nat) (pins : List (Addr × Obj)) (s : Shared) (σ : St) (H : Hp) (E : Value → Shared → Prop), Inv X pins σ H s → (∀ b ∈ fp, FpOk X pins H b) → tn i s.heap → J.stop i H →
    wpAny (model P w) X.A (pyNext (.ref it)) (fun r s1 => r = none ∧ Inv X pins σ H s1) E s
  self : ∀ (A : Around) (i : Nat) (s : Shared) (Q : Value → Shared → Prop) (E : Value → Shared → Prop), tn i s.heap → Q (.ref it) s → wpAny (model P w) A (pyIter (.ref it)) Q E s
abbrev TI := St → Hp → (It → Hp → Prop) → Prop
def PIE (X : Cx) (pins : List (Addr × Obj)) (σ : St) (tg : Expr) (R : It → Hp → Prop) (itv : Value) (s2 : Shared) : Prop :=
  ∃ (it : Addr) (fp : List Addr) (tn : Nat → Heap → Prop) (J : It) (H' : Hp), itv = .ref it ∧ Inv X pins σ H' s2 ∧ Turn X.prog X.w X.K tg J fp it tn ∧ tn 0 s2.heap ∧ (∀ b ∈ fp, FpOk X pins H' b) ∧ R J H'
def PI (X : Cx) (tg iter : Expr) (wi : TI) : Prop :=
  ∀ (pins : List (Addr × Obj)) (s : Shared) (σ : St) (H : Hp) (R : It → Hp → Prop), Inv X pins σ H s → wi σ H R →
    wpAny (model X.prog X.w) X.A (eval iter X.env) (fun v s1 => wpAny (model X.prog X.w) X.A (pyIter v) (PIE X pins σ tg R) X.xe s1) X.xe s

theorem go_of {M : Model} {A : Around} {E : Value → Shared → Prop} {s : Shared} {tg : Expr} {it : Addr} {u : Value} {o : Obj} {n : String} {vs : Array Value} {Q : Unit → Shared → Prop} (ho : s.heap.get? it = some o) (hc : o.cls = .type n) (hd : o.data = .fields vs)
    (hn : ["enumerate", "zip", "dict_itemiterator", "dict_reverseitemiterator", "odict_iterator", "itertools.zip_longest", "itertools.pairwise"].contains n = false) (hQ : Q () s) : wpAny M A (letOwnedTupleGo tg (.ref it) u) Q E s := by
  unfold letOwnedTupleGo
  cases tg <;> first
    | exact wpAny_pure hQ
    | (cases u <;> first
        | exact wpAny_pure hQ
        | (refine wpAny_bind (wpAny_load ho ?_)
           rw [hc, hd]
           show wpAny M A (if (["enumerate", "zip", "dict_itemiterator", "dict_reverseitemiterator", "odict_iterator", "itertools.zip_longest", "itertools.pairwise"].contains n && vs[0]? == some (rawInt _)) = true then _ else _) Q E s
           rw [if_neg (by intro h; rw [hn, Bool.false_and] at h; cases h)]
           exact wpAny_pure hQ))

def Itl (K : PySem.W.Frag) (a : Addr) : It :=
  ⟨fun i H => ∃ xs x, SqL K H a xs ∧ xs[i]? = some x, fun i H x H' => H' = H ∧ ∀ xs, SqL K H a xs → xs[i]? = some x, fun i H => ∃ xs, SqL K H a xs ∧ xs.length ≤ i⟩
def Itr (lo : Int) (n : Nat) : It := ⟨fun i _ => i < n, fun i H x H' => H' = H ∧ x = .int (lo + i), fun i _ => n ≤ i⟩
theorem turn_list {P : Program} {w : World} {K : PySem.W.Frag} {tg : Expr} (a it : Addr) : Turn P w K tg (Itl K a) [it] it (fun i h => h.IsListIter it a i) where
  mem := by simp
  obj := fun i h st b hb => by
    have e : b = it := by simpa using hb
    subst e
    obtain ⟨o, e, c, d⟩ := st
    exact ⟨o, e, fun v z => by rw [d] at z; cases z⟩
  keep := fun i h h' st k => st.at fun o e => k it (by simp) o e
  item := by
    intro X hP hw hK hc i pins s σ H E I hf st hg
    subst hP hw hK
    obtain ⟨xs, x, hq, hx⟩ := hg
    obtain ⟨its, rv, p, hz⟩ := I.list hq
    obtain ⟨u, hu, ru⟩ := rv.get hx
    obtain ⟨f0, f1, f2, f3, f4, f5⟩ := hf it (by simp)
    refine wpAny_pyNext_list_item st p.isList (x := u) (by simpa using hu) fun h' st' sb => ?_
    have I1 : Inv X pins σ H { s with heap := h' } := I.turned (t' := s.toks) (fun b o hb e => (sb.2 b hb).trans e) f0 f1 f3 f4 f5
    obtain ⟨o, e, c, d⟩ := id st'
    exact ⟨u, rfl, go_of (s := { s with heap := h' }) e c d (by decide) ⟨x, H, I1, ru, ⟨rfl, fun ys hy => by rw [I.list_inj hy hq]; exact hx⟩, st', fun b hb => (hf b hb).1⟩⟩
  done := by
    intro X hP hw hK hc i pins s σ H E I hf st hg
    subst hP hw hK
    obtain ⟨xs, hq, hx⟩ := hg
    obtain ⟨its, rv, p, hz⟩ := I.list hq
    obtain ⟨f0, f1, f2, f3, f4, f5⟩ := hf it (by simp)
    have hl := rv.length
    exact wpAny_pyNext_list_end (I.ok.hd hc) st p.isList (by simp; omega) fun h' eb => ⟨rfl, I.turned (t' := s.toks) (fun b o hb e => eb b o hb e) f0 f1 f3 f4 f5⟩
  self := fun _ _ _ _ _ st h => wpAny_pyIter_listiter st h
theorem turn_range {P : Program} {w : World} {K : PySem.W.Frag} {tg : Expr} (it : Addr) (lo : Int) (n : Nat) : Turn P w K tg (Itr lo n) [it] it (fun i h => IsRangeIter h it (lo + (i : Nat) * 1) ((n : Int) - (i : Nat)) 1) where
  mem := by simp
  obj := fun i h st b hb => by
    have e : b = it := by simpa using hb
    subst e
    exact ⟨_, st, fun v z => by
      have z' : Data.fields _ = Data.cell v := z
      cases z'⟩
  keep := fun i h h' st k => k it (by simp) _ st
  item := by
    intro X hP hw hK hc i pins s σ H E I hf st hg
    subst hP hw hK
    obtain ⟨f0, f1, f2, f3, f4, f5⟩ := hf it (by simp)
    have W := Walks.range (prog := X.prog) (w := X.w) (I.ok.hd hc) it lo 1 n
    refine W.item i s _ _ hg st fun v h' tk hv st' kk => ?_
    obtain ⟨t, rfl⟩ := hv
    have I1 : Inv X pins σ H { s with heap := h', toks := tk } := I.turned (fun b o hb e => kk b o (by simpa using hb) e) f0 f1 f3 f4 f5
    refine ⟨_, rfl, go_of (s := { s with heap := h', toks := tk }) (n := "range_iterator") st' rfl rfl (by decide) ⟨.int (lo + i), H, I1, ⟨t, ?_⟩, ⟨rfl, rfl⟩, st', fun b hb => (hf b hb).1⟩⟩
    rw [Int.mul_one]
  done := by
    intro X hP hw hK hc i pins s σ H E I hf st hg
    subst hP hw hK
    obtain ⟨f0, f1, f2, f3, f4, f5⟩ := hf it (by simp)
    exact wpAny_pyNext_range_end (I.ok.hd hc) st (by have : n ≤ i := hg; omega) fun h' eb => ⟨rfl, I.turned (t' := s.toks) (fun b o hb e => eb b o hb e) f0 f1 f3 f4 f5⟩
  self := fun _ _ _ _ _ st h => wpAny_pyIter_rangeiter st h
end L2

namespace L2
open PySem PySem.Spec PyProof.Rows
section
variable {X : Cx} {tg : Expr}
def iList (K : PySem.W.Frag) (tl : TE) : TI := fun σ H R => tl σ H fun x H1 => ∃ a, x = .ref a ∧ (∃ xs, SqL K H1 a xs) ∧ R (Itl K a) H1
theorem pi_list {l : Expr} {tl : TE} (hl : PE X l tl) : PI X tg l (iList X.K tl) := by
  intro pins s σ H R I h
  refine thn (hl pins s σ H _ I h) fun v s1 ⟨x, H1, I1, r1, q1⟩ => ?_
  obtain ⟨a, e, ⟨xs, hq⟩, q⟩ := q1
  subst e
  cases r1
  obtain ⟨its, rv, p, hz⟩ := I1.list hq
  refine wpAny_pyIter_list p.isList ?_
  refine ⟨s1.heap.objs.size, [s1.heap.objs.size], _, _, H1, rfl, I1.kept (t' := s1.toks) fun b o e => Heap.get?_push_of_some _ e, turn_list a _, ⟨_, Heap.get?_push_size _ rfl, rfl, rfl⟩, fun b hb => ?_, q⟩
  have e : b = s1.heap.objs.size := by simpa using hb
  subst e
  exact I1.fpOk (Nat.le_refl _) (I1.hok.fresh (Nat.le_refl _))
theorem range_it {pins : List (Addr × Obj)} {σ : St} {H : Hp} {s : Shared} {R : It → Hp → Prop} {E : Value → Shared → Prop} {lo hi : Int} {t u v : Tok} {tk : Nat} (I : Inv X pins σ H s) (h1 : -(2 ^ 62) ≤ lo) (h2 : lo < 2 ^ 62) (h3 : -(2 ^ 62) ≤ hi) (h4 : hi < 2 ^ 62)
    (q : R (Itr lo (hi - lo).toNat) H) : wpAny (model X.prog X.w) X.A (pyIter (.ref s.heap.objs.size)) (PIE X pins σ tg R) E { s with heap := s.heap.push { cls := .type "range", data := .fields #[.int lo t, .int hi u, .int 1 v] }, toks := tk } := by
  refine wpAny_pyIter_range (IsRange.new ..) (small_one h1 h2 h3 h4) ?_
  have I1 : Inv X pins σ H { s with heap := s.heap.push { cls := .type "range", data := .fields #[.int lo t, .int hi u, .int 1 v] }, toks := tk } := I.kept fun b o e => Heap.get?_push_of_some _ e
  refine ⟨(s.heap.push { cls := .type "range", data := .fields #[.int lo t, .int hi u, .int 1 v] }).objs.size, [(s.heap.push { cls := .type "range", data := .fields #[.int lo t, .int hi u, .int 1 v] }).objs.size], _, _, H, rfl,
    I1.kept (t' := tk) fun b o e => Heap.get?_push_of_some _ e, turn_range _ lo (hi - lo).toNat, ?_, fun b hb => ?_, q⟩
  · have e1 : lo + ((0 : Nat) : Int) * 1 = lo := by simp
    have e2 : (((hi - lo).toNat : Nat) : Int) - ((0 : Nat) : Int) = Builtin.Range.rangeSize lo hi 1 := by rw [rangeSize_one]; split <;> omega
    show IsRangeIter _ _ (lo + ((0 : Nat) : Int) * 1) ((((hi - lo).toNat : Nat) : Int) - ((0 : Nat) : Int)) 1
    rw [e1, e2]
    exact Heap.get?_push_size _ rfl
  · have e : b = (s.heap.push { cls := .type "range", data := .fields #[.int lo t, .int hi u, .int 1 v] }).objs.size := by simpa using hb
    subst e
    exact I1.fpOk (Nat.le_refl _) (I1.hok.fresh (Nat.le_refl _))
def iRng1 (ta : TA) : TI := fun σ H R => ta σ H fun vs H1 => ∃ j : Int, vs = [.int j] ∧ -(2 ^ 62) ≤ j ∧ j < 2 ^ 62 ∧ R (Itr 0 j.toNat) H1
def iRng2 (ta : TA) : TI := fun σ H R => ta σ H fun vs H1 => ∃ i j : Int, vs = [.int i, .int j] ∧ (-(2 ^ 62) ≤ i ∧ i < 2 ^ 62 ∧ -(2 ^ 62) ≤ j ∧ j < 2 ^ 62) ∧ R (Itr i (j - i).toNat) H1
theorem pi_range1 {a : Expr} {ta : TA} {p pos : Pos} (hg : Gl X "range") (hm : X.mg "range" = none) (ha : PA X [a] ta) (hs : starEach [a] X.env = [(false, eval a X.env)] := by rfl) : PI X tg (.Call (.Name "range" p) [a] [] pos) (iRng1 ta) := by
  intro pins s σ H R I h
  refine Call_ (ld_blt I hg hm boot_range (PyProof.Rows.callWith_type1 (thn (ha pos pins s σ H _ I h) fun us s1 ⟨vs, H1, I1, r1, q1⟩ => ?_) hs rfl))
  obtain ⟨j, e, q1, q2, q⟩ := q1
  subst e
  cases r1 with
  | cons r rr =>
    cases rr
    obtain ⟨t, rfl⟩ := r
    exact call_range_1 (range_it I1 (by omega) (by omega) q1 q2 (by simpa using q))
theorem pi_range2 {a b : Expr} {ta : TA} {p pos : Pos} (hg : Gl X "range") (hm : X.mg "range" = none) (ha : PA X [a, b] ta) (hs : starEach [a, b] X.env = [(false, eval a X.env), (false, eval b X.env)] := by rfl) (hs2 : starEach [b] X.env = [(false, eval b X.env)] := by rfl) :
    PI X tg (.Call (.Name "range" p) [a, b] [] pos) (iRng2 ta) := by
  intro pins s σ H R I h
  refine Call_ (ld_blt I hg hm boot_range (PyProof.Rows.callWith_type1 (thn (ha pos pins s σ H _ I h) fun us s1 ⟨vs, H1, I1, r1, q1⟩ => ?_) (by rw [hs, hs2]) (by rw [hs2]; rfl)))
  obtain ⟨i, j, e, ⟨q1, q2, q3, q4⟩, q⟩ := q1
  subst e
  cases r1 with
  | cons r rr =>
    cases rr with
    | cons r' rr =>
      cases rr
      obtain ⟨t, rfl⟩ := r
      obtain ⟨t', rfl⟩ := r'
      exact call_range_2 (range_it I1 q1 q2 q3 q4 q)

def tFor (wi : TI) (g : TG) (tb : TS) : TS := fun D σ H => wi σ H fun J H1 => ∃ W : Nat → Nat → St → Hp → Prop, (∃ m, W 0 m σ H1) ∧ ∀ i m σ H, W i m σ H →
  (J.stop i H ∧ D.nx σ H) ∨ (J.go i H ∧ ∃ N : St → Hp → Prop, (∀ σ' H', N σ' H' → ∃ m', m' < m ∧ W (i + 1) m' σ' H') ∧ ∀ x H', J.yld i H x H' → g x σ H' fun σ2 H2 => tb { D with nx := N, ct := N, bk := D.nx } σ2 H2)
def pinsAt (fp : List Addr) (h : Heap) : List (Addr × Obj) := fp.filterMap fun b => (h.get? b).map fun o => (b, o)
theorem mem_pinsAt {fp : List Addr} {h : Heap} {b : Addr} {o : Obj} (hb : b ∈ fp) (e : h.get? b = some o) : (b, o) ∈ pinsAt fp h := List.mem_filterMap.mpr ⟨b, hb, by rw [e]; rfl⟩
theorem of_pinsAt {fp : List Addr} {h : Heap} {p : Addr × Obj} (hp : p ∈ pinsAt fp h) : p.1 ∈ fp ∧ h.get? p.1 = some p.2 := by
  obtain ⟨b, hb, e⟩ := List.mem_filterMap.mp hp
  cases q : h.get? b with
  | none => rw [q] at e; cases e
  | some o =>
    rw [q] at e
    have e' : (b, o) = p := Option.some.inj e
    subst e'
    exact ⟨hb, q⟩
theorem Inv.pinned {pins : List (Addr × Obj)} {σ : St} {H : Hp} {s : Shared} {fp : List Addr} (I : Inv X pins σ H s) (hf : ∀ b ∈ fp, FpOk X pins H b) (ho : ∀ b ∈ fp, ∃ o, s.heap.get? b = some o ∧ ∀ v, o.data ≠ .cell v) : Inv X (pins ++ pinsAt fp s.heap) σ H s :=
  I.pins_of fun p hp => (List.mem_append.mp hp).elim (fun z => I.pin p (List.mem_append_right _ z)) fun z => by
    obtain ⟨hb, e⟩ := of_pinsAt z
    obtain ⟨f0, f1, f2, _⟩ := hf p.1 hb
    obtain ⟨o, e', d⟩ := ho p.1 hb
    rw [e] at e'; cases e'
    exact ⟨e, f0, f1, f2, d⟩
theorem Inv.unpinned {pins pl : List (Addr × Obj)} {σ : St} {H : Hp} {s : Shared} (I : Inv X (pins ++ pl) σ H s) : Inv X pins σ H s := I.pins_of fun p hp => I.pin p (List.mem_append_right _ (List.mem_append_left _ hp))
theorem ps_for {iter : Expr} {body : List Stmt} {wi : TI} {g : TG} {tb : TS} {pos : Pos} (hp : PassesOwn (model X.prog X.w) X.A X.env X.xe) (hc : X.calm = true) (hi : PI X tg iter wi) (hg : PG X tg g) (hb : PSs X body tb)
    (hs : ∀ x, foldedSetIterable iter X.env x = pure x := by intro _; rfl) : PS X (.For tg iter body [] pos) (tFor wi g tb) := by
  intro pins s σ H D I h
  refine wpAny_For (thn (hi pins s σ H _ I h) fun v s1 h1 => thn h1 fun itv s2 h2 => ?_) hs
  obtain ⟨it, fp, tn, J, H2, e, I2, T, st2, f2, W, ⟨m0, w0⟩, turn⟩ := h2
  subst e
  -- what stays true of the iterator's objects through the loop
  have stat : ∀ {H' : Hp}, (∀ b ∈ fp, H' b = none) → ∀ b ∈ fp, FpOk X pins H' b := fun hn b hb => ⟨hn b hb, (f2 b hb).2⟩
  refine codeAny_forLoop_any (fun n s' => ∃ i σ' H', Inv X pins σ' H' s' ∧ tn i s'.heap ∧ (∀ b ∈ fp, H' b = none) ∧ W i n σ' H') ?_ m0 ⟨0, σ, H2, I2, st2, fun b hb => (f2 b hb).1, w0⟩
  rintro n s3 ⟨i, σ3, H3, I3, st3, fr3, w3⟩
  rcases turn i n σ3 H3 w3 with ⟨stop, qn⟩ | ⟨go, N, hN, step⟩
  · refine wpAny_passesOwn hp (thn (T.done X rfl rfl rfl hc i pins s3 σ3 H3 X.xe I3 (stat fr3) st3 stop) fun r s4 ⟨hr, I4⟩ => ?_)
    subst hr
    exact wpAny_execs_nil ⟨σ3, H3, I4, qn⟩
  · refine wpAny_passesOwn hp (thn (T.item X rfl rfl rfl hc i pins s3 σ3 H3 X.xe I3 (stat fr3) st3 go) fun r s4 ⟨u, hr, h4⟩ => ?_)
    subst hr
    refine wpAny_passesOwn hp (thn h4 fun _ s5 ⟨x, H5, I5, r5, y5, st5, fr5⟩ => ?_)
    have I5' := I5.pinned (stat fr5) (T.obj _ _ st5)
    refine wpAny_passesOwn hp (thn (hg _ s5 σ3 H5 x u _ I5' r5 (step x H5 y5)) fun _ s6 ⟨σ6, H6, I6, q6⟩ => ?_)
    refine wpAny_passesOwn hp (thn (hb _ s6 σ6 H6 _ I6 q6) fun f s7 q7 => ?_)
    have again : ∀ {σ7 : St} {H7 : Hp}, Inv X (pins ++ pinsAt fp s5.heap) σ7 H7 s7 → N σ7 H7 → ∃ m, m < n ∧ ∃ i σ' H', Inv X pins σ' H' s7 ∧ tn i s7.heap ∧ (∀ b ∈ fp, H' b = none) ∧ W i m σ' H' := fun {σ7 H7} I7 n7 => by
      obtain ⟨m', hm, w7⟩ := hN σ7 H7 n7
      refine ⟨m', hm, i + 1, σ7, H7, I7.unpinned, T.keep _ _ _ st5 fun b hb o e => (I7.pin (b, o) (List.mem_append_right _ (List.mem_append_right _ (mem_pinsAt hb e)))).1, fun b hb => ?_, w7⟩
      obtain ⟨o, e, d⟩ := T.obj _ _ st5 b hb
      exact (I7.pin (b, o) (List.mem_append_right _ (List.mem_append_right _ (mem_pinsAt hb e)))).2.1
    cases f with
    | next => obtain ⟨σ7, H7, I7, n7⟩ := q7; exact again I7 n7
    | cont => obtain ⟨σ7, H7, I7, n7⟩ := q7; exact again I7 n7
    | brk => obtain ⟨σ7, H7, I7, q7⟩ := q7; exact ⟨σ7, H7, I7.unpinned, q7⟩
    | ret v => obtain ⟨x7, σ7, H7, I7, r7, q7⟩ := q7; exact ⟨x7, σ7, H7, I7.unpinned, r7, q7⟩
end

theorem for_list {K : PySem.W.Frag} {a : Addr} {xs : List V} {g : TG} {tb : TS} {D : Ends} {σ : St} {H : Hp} (Pv : Nat → St → Hp → Prop) (h0 : Pv 0 σ H) (hl : ∀ i σ H, i ≤ xs.length → Pv i σ H → SqL K H a xs)
    (hs : ∀ i x σ H, xs[i]? = some x → Pv i σ H → g x σ H fun σ2 H2 => tb { D with nx := Pv (i + 1), ct := Pv (i + 1), bk := D.nx } σ2 H2) (hd : ∀ σ H, Pv xs.length σ H → D.nx σ H) :
    ∃ W : Nat → Nat → St → Hp → Prop, (∃ m, W 0 m σ H) ∧ ∀ i m σ H, W i m σ H →
      ((Itl K a).stop i H ∧ D.nx σ H) ∨ ((Itl K a).go i H ∧ ∃ N : St → Hp → Prop, (∀ σ' H', N σ' H' → ∃ m', m' < m ∧ W (i + 1) m' σ' H') ∧ ∀ x H', (Itl K a).yld i H x H' → g x σ H' fun σ2 H2 => tb { D with nx := N, ct := N, bk := D.nx } σ2 H2) := by
  refine ⟨fun i m σ H => m = xs.length - i ∧ i ≤ xs.length ∧ Pv i σ H, ⟨xs.length, by simp, Nat.zero_le _, h0⟩, ?_⟩
  rintro i m σ H ⟨rfl, hi, p⟩
  have q := hl i σ H hi p
  by_cases hlt : i < xs.length
  · refine .inr ⟨⟨xs, xs[i], q, by simp [hlt]⟩, Pv (i + 1), fun σ' H' p' => ⟨xs.length - (i + 1), by omega, rfl, hlt, p'⟩, fun x H' y => ?_⟩
    obtain ⟨e, y⟩ := y
    subst e
    exact hs i x σ _ (y xs q) p
  · have e : i = xs.length := by omega
    subst e
    exact .inl ⟨⟨xs, q, Nat.le_refl _⟩, hd σ H p⟩
theorem for_range {lo : Int} {n : Nat} {g : TG} {tb : TS} {D : Ends} {σ : St} {H : Hp} (Pv : Nat → St → Hp → Prop) (h0 : Pv 0 σ H)
    (hs : ∀ i σ H, i < n → Pv i σ H → g (.int (lo + i)) σ H fun σ2 H2 => tb { D with nx := Pv (i + 1), ct := Pv (i + 1), bk := D.nx } σ2 H2) (hd : ∀ σ H, Pv n σ H → D.nx σ H) :
    ∃ W : Nat → Nat → St → Hp → Prop, (∃ m, W 0 m σ H) ∧ ∀ i m σ H, W i m σ H →
      ((Itr lo n).stop i H ∧ D.nx σ H) ∨ ((Itr lo n).go i H ∧ ∃ N : St → Hp → Prop, (∀ σ' H', N σ' H' → ∃ m', m' < m ∧ W (i + 1) m' σ' H') ∧ ∀ x H', (Itr lo n).yld i H x H' → g x σ H' fun σ2 H2 => tb { D with nx := N, ct := N, bk := D.nx } σ2 H2) := by
  refine ⟨fun i m σ H => m = n - i ∧ i ≤ n ∧ Pv i σ H, ⟨n, by simp, Nat.zero_le _, h0⟩, ?_⟩
  rintro i m σ H ⟨rfl, hi, p⟩
  by_cases hlt : i < n
  · refine .inr ⟨hlt, Pv (i + 1), fun σ' H' p' => ⟨n - (i + 1), by omega, rfl, hlt, p'⟩, fun x H' y => ?_⟩
    obtain ⟨e, y⟩ := y
    subst e y
    exact hs i σ _ hlt p
  · have e : i = n := by omega
    subst e
    exact .inl ⟨Nat.le_refl _, hd σ H p⟩
end L2

namespace L2
open PySem PySem.Spec PyProof.Rows

abbrev R2 := V → V → Hp → VK → Prop
def OpR (X : Cx) (f : Value → Value → Sem Value) (r : R2) : Prop :=
  ∀ (pins : List (Addr × Obj)) (s : Shared) (σ : St) (H : Hp) (x y : V) (v u : Value) (Q : VK), Inv X pins σ H s → RelV x v → RelV y u → r x y H Q →
    wpAny (model X.prog X.w) X.A (f v u) (EP X pins σ Q) X.xe s
def UnR (X : Cx) (f : Value → Sem Value) (r : V → Hp → VK → Prop) : Prop :=
  ∀ (pins : List (Addr × Obj)) (s : Shared) (σ : St) (H : Hp) (x : V) (v : Value) (Q : VK), Inv X pins σ H s → RelV x v → r x H Q →
    wpAny (model X.prog X.w) X.A (f v) (EP X pins σ Q) X.xe s
def CallR (X : Cx) (f : Value) (r : List V → Hp → VK → Prop) : Prop :=
  ∀ (pins : List (Addr × Obj)) (s : Shared) (σ : St) (H : Hp) (xs : List V) (us : List Value) (Q : VK), Inv X pins σ H s → Vals xs us → r xs H Q →
    wpAny (model X.prog X.w) X.A (call f us) (EP X pins σ Q) X.xe s
def tOp (r : R2) (ta tb : TE) : TE := fun σ H Q => ta σ H fun x H1 => tb σ H1 fun y H2 => r x y H2 Q
def tUn (r : V → Hp → VK → Prop) (ta : TE) : TE := fun σ H Q => ta σ H fun x H1 => r x H1 Q
def rI (C : Int → Int → Prop) (g : Int → Int → V) : R2 := fun x y H Q => ∃ i j, x = .int i ∧ y = .int j ∧ C i j ∧ Q (g i j) H
def rI0 (g : Int → Int → V) : R2 := fun x y H Q => ∃ i j, x = .int i ∧ y = .int j ∧ Q (g i j) H
def rU (g : Int → V) : V → Hp → VK → Prop := fun x H Q => ∃ i, x = .int i ∧ Q (g i) H

section
variable {X : Cx} {a b c : Expr} {ta tb tc : TE} {pos : Pos}

theorem binT (ha : PE X a ta) (hb : PE X b tb) {pins : List (Addr × Obj)} {s : Shared} {σ : St} {H : Hp} {R : V → V → Hp → Prop} (I : Inv X pins σ H s)
    (h : ta σ H fun x H1 => tb σ H1 fun y H2 => R x y H2) {Q : Value → Shared → Prop} {f : Value → Value → Sem Value}
    (hf : ∀ v u s2 x y H2, Inv X pins σ H2 s2 → RelV x v → RelV y u → R x y H2 → wpAny (model X.prog X.w) X.A (f v u) Q X.xe s2) :
    wpAny (model X.prog X.w) X.A (eval a X.env) (fun v s₁ => wpAny (model X.prog X.w) X.A (eval b X.env) (fun u s₂ => wpAny (model X.prog X.w) X.A (f v u) Q X.xe s₂) X.xe s₁) X.xe s := by
  refine thn (ha pins s σ H _ I h) fun v s1 ⟨x, H1, I1, r1, q1⟩ => ?_
  refine thn (hb pins s1 σ H1 _ I1 q1) fun u s2 ⟨y, H2, I2, r2, q2⟩ => ?_
  exact hf v u s2 x y H2 I2 r1 r2 q2

theorem pe_op {op : Operator} {r : R2} (ho : OpR X (binaryOp op) r) (ha : PE X a ta) (hb : PE X b tb) : PE X (.BinOp a op b pos) (tOp r ta tb) := by
  intro pins s σ H Q I h
  exact wpAny_BinOp (binT ha hb I h fun v u s2 x y H2 I2 rx ry q => ho pins s2 σ H2 x y v u Q I2 rx ry q)
theorem pe_un {op : UnaryOp} {r : V → Hp → VK → Prop} (ho : UnR X (unaryOp op) r) (ha : PE X a ta) : PE X (.UnaryOp op a pos) (tUn r ta) := by
  intro pins s σ H Q I h
  exact UnaryOp_ (thn (ha pins s σ H _ I h) fun v s1 ⟨x, H1, I1, r1, q1⟩ => ho pins s1 σ H1 x v Q I1 r1 q1)
theorem opI {f : Value → Value → Sem Value} {C : Int → Int → Prop} {g : Int → Int → Int}
    (rule : ∀ (i j : Int) (t u : Tok) (s : Shared) (Q : Value → Shared → Prop) (E : Value → Shared → Prop), C i j → Q (.int (g i j) s.toks) { s with toks := s.toks + 1 } → wpAny (model X.prog X.w) X.A (f (.int i t) (.int j u)) Q E s) :
    OpR X f (rI C fun i j => .int (g i j)) := by
  intro pins s σ H x y v u Q I rx ry h
  obtain ⟨i, j, rfl, rfl, hc, q⟩ := h
  obtain ⟨t, rfl⟩ := rx
  obtain ⟨t', rfl⟩ := ry
  exact rule i j t t' s _ _ hc ⟨.int (g i j), H, I.tok _, ⟨_, rfl⟩, q⟩
theorem opI0 {f : Value → Value → Sem Value} {g : Int → Int → Int}
    (rule : ∀ (i j : Int) (t u : Tok) (s : Shared) (Q : Value → Shared → Prop) (E : Value → Shared → Prop), Q (.int (g i j) s.toks) { s with toks := s.toks + 1 } → wpAny (model X.prog X.w) X.A (f (.int i t) (.int j u)) Q E s) :
    OpR X f (rI0 fun i j => .int (g i j)) := by
  intro pins s σ H x y v u Q I rx ry h
  obtain ⟨i, j, rfl, rfl, q⟩ := h
  obtain ⟨t, rfl⟩ := rx
  obtain ⟨t', rfl⟩ := ry
  exact rule i j t t' s _ _ ⟨.int (g i j), H, I.tok _, ⟨_, rfl⟩, q⟩
theorem opB0 {f : Value → Value → Sem Value} {g : Int → Int → Bool}
    (rule : ∀ (i j : Int) (t u : Tok) (s : Shared) (Q : Value → Shared → Prop) (E : Value → Shared → Prop), Q (.bool (g i j)) s → wpAny (model X.prog X.w) X.A (f (.int i t) (.int j u)) Q E s) :
    OpR X f (rI0 fun i j => .bl (g i j)) := by
  intro pins s σ H x y v u Q I rx ry h
  obtain ⟨i, j, rfl, rfl, q⟩ := h
  obtain ⟨t, rfl⟩ := rx
  obtain ⟨t', rfl⟩ := ry
  exact rule i j t t' s _ _ ⟨.bl (g i j), H, I, rfl, q⟩

def CDiv (i j : Int) : Prop := 0 < j ∧ j < 1073741824
def CMul (i j : Int) : Prop := (-(2 ^ 64) < i ∧ i < 2 ^ 64) ∨ (-(2 ^ 64) < j ∧ j < 2 ^ 64)
theorem CMul.ok {i j : Int} (h : CMul i j) : IntMulOk i j := by
  rcases h with ⟨h1, h2⟩ | ⟨h1, h2⟩
  · exact .of_left (intBits_le_64 h1 h2)
  · exact .of_right (intBits_le_64 h1 h2)
theorem op_add : OpR X (binaryOp .Add) (rI0 fun i j => .int (i + j)) := opI0 fun _ _ _ _ _ _ _ q => add_int q
theorem op_mul : OpR X (binaryOp .Mult) (rI CMul fun i j => .int (i * j)) := opI fun _ _ _ _ _ _ _ hc q => mul_int q hc.ok
theorem op_fdiv : OpR X (binaryOp .FloorDiv) (rI CDiv fun i j => .int (i / j)) := opI fun i j _ _ _ _ _ hc q => by
  have h1 : (0 : Int) < j := hc.1
  have h2 : j < 1073741824 := hc.2
  exact floordiv_int (by omega) (by rw [Int.fdiv_eq_ediv_of_nonneg i (by omega)]; exact q) (.inl (PyProof.noPylong_small (by omega)))
theorem op_mod : OpR X (binaryOp .Mod) (rI (fun _ j => 0 < j) fun i j => .int (i % j)) := opI fun i j _ _ _ _ _ hc q => by
  have h1 : (0 : Int) < j := hc
  exact mod_int' (by omega) (by rw [Int.fmod_eq_emod_of_nonneg i (by omega)]; exact q)
theorem unI {f : Value → Sem Value} {g : Int → Int}
    (rule : ∀ (i : Int) (t : Tok) (s : Shared) (Q : Value → Shared → Prop) (E : Value → Shared → Prop), Q (.int (g i) s.toks) { s with toks := s.toks + 1 } → wpAny (model X.prog X.w) X.A (f (.int i t)) Q E s) :
    UnR X f (rU fun i => .int (g i)) := by
  intro pins s σ H x v Q I rx h
  obtain ⟨i, rfl, q⟩ := h
  obtain ⟨t, rfl⟩ := rx
  exact rule i t s _ _ ⟨.int (g i), H, I.tok _, ⟨_, rfl⟩, q⟩
theorem un_neg : UnR X (unaryOp .USub) (rU fun i => .int (-i)) := unI fun _ _ _ _ _ q => neg_int q
end

def scal : V → V → Bool
  | .non, .non => true | .non, .int _ => true | .int _, .non => true | .non, .bl _ => true | .bl _, .non => true | .non, .str _ => true | .str _, .non => true
  | .int _, .int _ => true | .bl _, .bl _ => true | .str _, .str _ => true | .byt _, .byt _ => true
  | .int _, .str _ => true | .str _, .int _ => true | .bl _, .str _ => true | .str _, .bl _ => true
  | _, _ => false
def rEq : R2 := fun x y H Q => scal x y = true ∧ Q (.bl (decide (x = y))) H
def rNe : R2 := fun x y H Q => scal x y = true ∧ Q (.bl (!decide (x = y))) H

theorem dec_int {i j : Int} : decide (V.int i = V.int j) = (i == j) := by
  rw [Bool.eq_iff_iff]
  simp
theorem dec_bl {i j : Bool} : decide (V.bl i = V.bl j) = (i == j) := by
  rw [Bool.eq_iff_iff]
  simp
theorem dec_str {i j : Str} : decide (V.str i = V.str j) = (i == j) := by
  rw [Bool.eq_iff_iff]
  simp
theorem dec_byt {i j : Array UInt8} : decide (V.byt i = V.byt j) = (i.toList == j.toList) := by
  rw [Bool.eq_iff_iff]
  cases i
  cases j
  simp

section
variable {X : Cx} {a b c : Expr} {ta tb tc : TE} {pos : Pos}
theorem fin_bl {pins : List (Addr × Obj)} {σ : St} {H : Hp} {s : Shared} {Q : VK} {k k' : Bool} (I : Inv X pins σ H s) (q : Q (.bl k) H) (e : k = k') : EP X pins σ Q (.bool k') s := by
  subst e
  exact ⟨.bl k, H, I, rfl, q⟩
theorem op_eq : OpR X (compareOp .Eq) rEq := by
  intro pins s σ H x y v u Q I rx ry h
  obtain ⟨hs, q⟩ := h
  cases x with
  | non =>
    cases rx
    cases y with
    | non => cases ry; exact PySem.EqNone.eq_none_none (fin_bl I q (by simp))
    | bl j => cases ry; exact PySem.EqNone.eq_none_bool (fin_bl I q (by simp))
    | int j => obtain ⟨t', rfl⟩ := ry; exact PySem.EqNone.eq_none_int (fin_bl I q (by simp))
    | str j => obtain ⟨t', rfl⟩ := ry; exact PySem.EqNone.eq_none_str (fin_bl I q (by simp))
    | _ => exact absurd (show false = true from hs) Bool.false_ne_true
  | bl i =>
    cases rx
    cases y with
    | non => cases ry; exact PySem.EqNone.eq_bool_none (fin_bl I q (by simp))
    | bl j => cases ry; exact eq_bool (fin_bl I q dec_bl)
    | str j => obtain ⟨t', rfl⟩ := ry; exact PySem.EqMixed.eq_bool_str (fin_bl I q (by simp))
    | _ => exact absurd (show false = true from hs) Bool.false_ne_true
  | int i =>
    obtain ⟨t, rfl⟩ := rx
    cases y with
    | non => cases ry; exact PySem.EqNone.eq_int_none (fin_bl I q (by simp))
    | int j => obtain ⟨t', rfl⟩ := ry; exact eq_int (fin_bl I q dec_int)
    | str j => obtain ⟨t', rfl⟩ := ry; exact PySem.EqMixed.eq_int_str (fin_bl I q (by simp))
    | _ => exact absurd (show false = true from hs) Bool.false_ne_true
  | str i =>
    obtain ⟨t, rfl⟩ := rx
    cases y with
    | non => cases ry; exact PySem.EqNone.eq_str_none (fin_bl I q (by simp))
    | bl j => cases ry; exact PySem.EqMixed.eq_str_bool (fin_bl I q (by simp))
    | int j => obtain ⟨t', rfl⟩ := ry; exact PySem.EqMixed.eq_str_int (fin_bl I q (by simp))
    | str j => obtain ⟨t', rfl⟩ := ry; exact eq_str (fin_bl I q dec_str)
    | _ => exact absurd (show false = true from hs) Bool.false_ne_true
  | byt i =>
    obtain ⟨t, rfl⟩ := rx
    cases y with
    | byt j => obtain ⟨t', rfl⟩ := ry; exact PySem.W.eq_bytes (fin_bl I q dec_byt)
    | _ => exact absurd (show false = true from hs) Bool.false_ne_true
  | _ => cases y <;> exact absurd (show false = true from hs) Bool.false_ne_true
theorem op_ne : OpR X (compareOp .NotEq) rNe := by
  intro pins s σ H x y v u Q I rx ry h
  obtain ⟨hs, q⟩ := h
  cases x with
  | non =>
    cases rx
    cases y with
    | non => cases ry; exact PySem.EqNone.ne_none_none (fin_bl I q (by simp))
    | bl j => cases ry; exact PySem.EqNone.ne_none_bool (fin_bl I q (by simp))
    | int j => obtain ⟨t', rfl⟩ := ry; exact PySem.EqNone.ne_none_int (fin_bl I q (by simp))
    | str j => obtain ⟨t', rfl⟩ := ry; exact PySem.EqNone.ne_none_str (fin_bl I q (by simp))
    | _ => exact absurd (show false = true from hs) Bool.false_ne_true
  | bl i =>
    cases rx
    cases y with
    | non => cases ry; exact PySem.EqNone.ne_bool_none (fin_bl I q (by simp))
    | bl j => cases ry; exact ne_bool (fin_bl I q (congrArg not dec_bl))
    | str j => obtain ⟨t', rfl⟩ := ry; exact PySem.EqMixed.ne_bool_str (fin_bl I q (by simp))
    | _ => exact absurd (show false = true from hs) Bool.false_ne_true
  | int i =>
    obtain ⟨t, rfl⟩ := rx
    cases y with
    | non => cases ry; exact PySem.EqNone.ne_int_none (fin_bl I q (by simp))
    | int j => obtain ⟨t', rfl⟩ := ry; exact ne_int (fin_bl I q (congrArg not dec_int))
    | str j => obtain ⟨t', rfl⟩ := ry; exact PySem.EqMixed.ne_int_str (fin_bl I q (by simp))
    | _ => exact absurd (show false = true from hs) Bool.false_ne_true
  | str i =>
    obtain ⟨t, rfl⟩ := rx
    cases y with
    | non => cases ry; exact PySem.EqNone.ne_str_none (fin_bl I q (by simp))
    | bl j => cases ry; exact PySem.EqMixed.ne_str_bool (fin_bl I q (by simp))
    | int j => obtain ⟨t', rfl⟩ := ry; exact PySem.EqMixed.ne_str_int (fin_bl I q (by simp))
    | str j => obtain ⟨t', rfl⟩ := ry; exact ne_str (fin_bl I q (congrArg not dec_str))
    | _ => exact absurd (show false = true from hs) Bool.false_ne_true
  | byt i =>
    obtain ⟨t, rfl⟩ := rx
    cases y with
    | byt j => obtain ⟨t', rfl⟩ := ry; exact PySem.W.ne_bytes (fin_bl I q (congrArg not dec_byt))
    | _ => exact absurd (show false = true from hs) Bool.false_ne_true
  | _ => cases y <;> exact absurd (show false = true from hs) Bool.false_ne_true

theorem op_lt : OpR X (compareOp .Lt) (rI0 fun i j => .bl (decide (i < j))) := opB0 fun _ _ _ _ _ _ _ q => lt_int q
theorem op_le : OpR X (compareOp .LtE) (rI0 fun i j => .bl (decide (i ≤ j))) := opB0 fun _ _ _ _ _ _ _ q => le_int q
theorem op_in_str : OpR X (compareOp .In) (fun x y H Q => ∃ i j, x = .str i ∧ y = .str j ∧ Q (.bl (!(Builtin.Str.occurrences j i 0 j.length 1).isEmpty)) H) := by
  intro pins s σ H x y v u Q I rx ry h
  obtain ⟨i, j, rfl, rfl, q⟩ := h
  obtain ⟨t, rfl⟩ := rx
  obtain ⟨t', rfl⟩ := ry
  exact in_str (fin_bl I q rfl)

theorem nomark (b : Expr) {op : CmpOp} (h : op ≠ .In := by decide) (h2 : op ≠ .NotIn := by decide) : behindInMarks op b = false := by
  have e1 : (op == CmpOp.In) = false := by cases op <;> first | rfl | exact absurd rfl h
  have e2 : (op == CmpOp.NotIn) = false := by cases op <;> first | rfl | exact absurd rfl h2
  cases b <;> simp [behindInMarks, e1, e2]
theorem pe_cmpR {op : CmpOp} {r : R2} (ho : OpR X (compareOp op) r) (ha : PE X a ta) (hb : PE X b tb) (hm : behindInMarks op b = false) : PE X (.Compare a [op] [b] pos) (tOp r ta tb) := by
  intro pins s σ H Q I h
  exact wpAny_Compare1 (binT ha hb I h fun v u s2 x y H2 I2 rx ry q => ho pins s2 σ H2 x y v u Q I2 rx ry q) hm
def tTest (t : TE) : TT := fun σ H Q => t σ H fun x H' => ∃ k, x = .bl k ∧ Q k H'
theorem pt_cmpR {op : CmpOp} {r : R2} (ho : OpR X (compareOp op) r) (ha : PE X a ta) (hb : PE X b tb) (hm : behindInMarks op b = false) : PT X (.Compare a [op] [b] pos) (tTest (tOp r ta tb)) := by
  intro pins s σ H Q I h
  refine wpAny_isTrue_Compare1 (thn (ha pins s σ H _ I h) fun v s1 ⟨x, H1, I1, r1, q1⟩ => thn (hb pins s1 σ H1 _ I1 q1) fun u s2 ⟨y, H2, I2, r2, q2⟩ =>
    thn (ho pins s2 σ H2 x y v u _ I2 r1 r2 q2) fun c s3 ⟨z, H3, I3, r3, k, e, q3⟩ => ?_) hm
  subst e
  cases r3
  exact wpAny_truthy_bool ⟨H3, I3, q3⟩
def tChain (r r' : R2) (ta tb tc : TE) : TE := fun σ H Q => ta σ H fun x H1 => tb σ H1 fun y H2 => r x y H2 fun z H3 => ∃ k, z = .bl k ∧
  (if k = true then tc σ H3 fun w' H4 => r' y w' H4 Q else Q (.bl false) H3)
theorem pe_chain {op op' : CmpOp} {r r' : R2} (ho : OpR X (compareOp op) r) (ho' : OpR X (compareOp op') r') (ha : PE X a ta) (hb : PE X b tb) (hc : PE X c tc)
    (hm : lastMarks [op, op'] [b, c] = false := by with_unfolding_all rfl) : PE X (.Compare a [op, op'] [b, c] pos) (tChain r r' ta tb tc) := by
  intro pins s σ H Q I h
  refine Compare_chain (thn (ha pins s σ H _ I h) fun v s1 ⟨x, H1, I1, r1, q1⟩ => chain_link (thn (hb pins s1 σ H1 _ I1 q1) fun u s2 ⟨y, H2, I2, r2, q2⟩ =>
    thn (ho pins s2 σ H2 x y v u _ I2 r1 r2 q2) fun d s3 ⟨z, H3, I3, r3, k, e, q3⟩ => ?_)) hm
  subst e
  cases r3
  refine wpAny_truthy_bool ?_
  cases k with
  | false => exact ite_ff ⟨.bl false, H3, I3, rfl, q3⟩
  | true => exact ite_tt (chain_last (thn (hc pins s3 σ H3 _ I3 q3) fun w' s4 ⟨z', H4, I4, r4, q4⟩ => ho' pins s4 σ H4 y z' u w' Q I4 r2 r4 q4))
theorem line63 : (sizeLine : Nat) < 2 ^ 63 := by rw [sizeLine_eq]; decide
theorem op_add_str : OpR X (binaryOp .Add) (fun x y H Q => ∃ i j, x = .str i ∧ y = .str j ∧ i.length + j.length ≤ sizeLine ∧ Q (.str (i ++ j)) H) := by
  intro pins s σ H x y v u Q I rx ry h
  obtain ⟨i, j, rfl, rfl, hz, q⟩ := h
  obtain ⟨t, rfl⟩ := rx
  obtain ⟨t', rfl⟩ := ry
  exact add_str (fun t' tk => ⟨.str (i ++ j), H, I.tok _, ⟨_, rfl⟩, q⟩) hz
theorem vals1 {x : V} {us : List Value} (r : Vals [x] us) : ∃ u, us = [u] ∧ RelV x u := by
  cases r with
  | cons r1 r2 => cases r2; exact ⟨_, rfl, r1⟩
theorem vals2 {x y : V} {us : List Value} (r : Vals [x, y] us) : ∃ u w', us = [u, w'] ∧ RelV x u ∧ RelV y w' := by
  cases r with
  | cons r1 r2 =>
    cases r2 with
    | cons r3 r4 => cases r4; exact ⟨_, _, rfl, r1, r3⟩
theorem call_min2 (hc : X.calm = true) : CallR X (.builtin "min") (fun xs H Q => ∃ i j, xs = [.int i, .int j] ∧ Q (.int (if j < i then j else i)) H) := by
  intro pins s σ H xs us Q I r h
  obtain ⟨i, j, rfl, q⟩ := h
  obtain ⟨u, w', rfl, ⟨t, rfl⟩, ⟨t', rfl⟩⟩ := vals2 r
  refine min_two_ints (I.ok.hd hc) fun h' tk k => ⟨_, H, I.kept k, ?_, q⟩
  by_cases hj : j < i
  · rw [if_pos hj, if_pos hj]; exact ⟨_, rfl⟩
  · rw [if_neg hj, if_neg hj]; exact ⟨_, rfl⟩
end
end L2

namespace L2
open PySem PySem.Spec PyProof.Rows

structure ObjM (h : Heap) (x dx C : Addr) (mA : Str → Option Value) : Prop where
  obj : h.get? x = some (PySem.W.instObj C dx)
  ns : h.Ns1 dx mA
  ne : dx ≠ x

theorem lookIn_ns {h : Heap} {dx : Addr} {mA : Str → Option Value} (n : h.Ns1 dx mA) : ∃ od, h.get? dx = some od ∧ ∀ name, PySem.W.lookIn name od = some (mA name) := by
  obtain ⟨o, es, ep, ho, hd, hk, _, hm⟩ := n
  refine ⟨o, ho, fun name => ?_⟩
  have e := hm name
  unfold nsFind findBy at e
  rw [← Array.find?_toList] at e
  unfold PySem.W.lookIn
  rw [hd]
  dsimp only
  split
  · rename_i y q
    rw [q] at e
    exact congrArg some e
  · rename_i q
    rw [q] at e
    have a : es.toList.any (·.refKey) = false := by
      rw [List.any_eq_false]
      intro y hy
      obtain ⟨z, t, hkey⟩ := hk y (Array.mem_toList_iff.mp hy)
      simp [DictEntry.refKey, hkey]
    have a' : ¬ es.toList.any (·.refKey) = true := by rw [a]; exact Bool.false_ne_true
    rw [if_neg a']
    exact congrArg some e

theorem ObjM.look {h : Heap} {x dx C : Addr} {mA : Str → Option Value} (I : ObjM h x dx C mA) : ∃ od, PySem.W.InstAt h x (PySem.W.instObj C dx) C (some od) ∧ ∀ name, PySem.W.lookIn name od = some (mA name) :=
  let ⟨od, ho, hl⟩ := lookIn_ns I.ns
  ⟨od, ⟨I.obj, rfl, rfl, ho⟩, hl⟩

section
variable {prog : Program} {w : World} {A : Around} {E : Value → Shared → Prop} {s : Shared} {K : PySem.W.Frag} {x dx C f : Addr} {mA : Str → Option Value} {name : Str} {v : Value}

theorem get_map {expr : Bool} {Q : Value → Shared → Prop} (X : K.In s.heap) (I : ObjM s.heap x dx C mA) (hg : PySem.W.plainGet K C name = true) (hh : PySem.W.hasDictIn K C = true)
    (ha : PySem.W.findIn K (.ref C) name = some none) (hv : mA name = some v) (hv' : PySem.W.handedIn v = true) (h : Q v { s with toks := s.toks + 1 }) :
    wpAny (model prog w) A (getAttr (.ref x) name expr) Q E s := by
  obtain ⟨od, J, hl⟩ := I.look
  exact PySem.W.get_value X J (PySem.W.plainGet_of hg).1 (PySem.W.findObj_own hh ha rfl (by rw [hl, hv])) hv' h

theorem get_meth {pl : Sem Bool} {Q : Value × List Value → Shared → Prop} (X : K.In s.heap) (I : ObjM s.heap x dx C mA) (hg : PySem.W.plainGet K C name = true)
    (hf : PySem.W.findIn K (.ref C) name = some (some (.ref f))) (ht : PySem.W.isFn K (.ref f) = true) (hv : mA name = none) (h : Q (.ref f, [.ref x]) s) :
    wpAny (model prog w) A (getMethod (.ref x) name pl) Q E s := by
  obtain ⟨od, J, hl⟩ := I.look
  exact PySem.W.method_fn X J (PySem.W.plainGet_of hg).1 (PySem.W.plainGet_of hg).2 hf (beq_iff_eq.mp ht) (by show (PySem.W.lookIn name od).map (·.isSome) = some false; rw [hl, hv]; rfl) h

theorem set_map {ns : List Str} {Q : Unit → Shared → Prop} (X : K.In s.heap) (I : ObjM s.heap x dx C mA)
    (hs : PySem.W.findIn K (.ref C) "__setattr__" = some (some (.builtin "object.__setattr__"))) (hp : PySem.W.plainOver K C = true) (ht : PySem.W.takerIn K C name = some none) (hh : PySem.W.hasDictIn K C = true)
    (hw : PySem.Within mA ns) (hsz : ns.length ≤ sizeLine)
    (h : ∀ h', ObjM h' x dx C (fun y => if y = name then some v else mA y) → Heap.SameBut dx s.heap h' → Q () { s with heap := h', toks := s.toks + 2 }) :
    wpAny (model prog w) A (setAttr (.ref x) name v) Q E s := by
  obtain ⟨od, J, hl⟩ := I.look
  refine PySem.W.set_plain X J hs (PySem.W.osa_open (s := { s with toks := s.toks + 1 }) (r := none) X J hp ht fun b => ?_)
  obtain ⟨cd, hc, hd'⟩ := PySem.W.any_some hh
  have hx : s.heap.get? x = some ⟨.ref C, some dx, .plain, #[]⟩ := I.obj
  refine wpAny_bind (wpAny_pure (wpAny_bind (wpAny_bind (wpAny_loadPart hx (wpAny_bind (PySem.W.Looks.here (s := { s with toks := s.toks + 1 }) (PySem.W.looks_clsIn X hc) ?_))))))
  rw [hd']
  refine wpAny_pure (a := some dx) (wpAny_bind (wpAny_pure (wpAny_bind ?_)))
  refine wpAny_nsSet1 (s := { s with toks := s.toks + 1 }) I.ns fun h' hn2 hs2 => ?_
  obtain ⟨oD, esD, epD, hoD, hdD, hcD⟩ := hn2.count (PySem.Within.cons name v hw)
  refine wpAny_bind (wpAny_lookBehind hoD (by rw [hdD]; exact pastItsLine_dict (Nat.le_trans hcD (by rw [List.length_cons]; omega))) ?_)
  exact wpAny_pure (h _ ⟨(hs2.2 _ (Ne.symm I.ne)).trans I.obj, hn2, I.ne⟩ hs2)

theorem make_map {R : Result → Shared → Prop} {vs : List Value} {kw : List (Str × Value)} (X : K.In s.heap) (hm : PySem.W.makesIn K C = true)
    (hi : PySem.W.findIn K (.ref C) "__init__" = some (some (.ref f))) (hf : PySem.W.typeIn K (.ref f) = some (.type "function"))
    (h : codeAny (model prog w) (A.under (.builtin "type.__call__" ⟨.ref C :: vs, kw⟩)) (.call (.ref f) ⟨.ref (s.heap.objs.size + 1) :: vs, kw⟩) (PySem.W.InitBack (s.heap.objs.size + 1) R)
      { s with heap := (s.heap.push PySem.W.emptyDict).push (PySem.W.instObj C s.heap.objs.size) }) :
    codeAny (model prog w) A (.call (.ref C) ⟨vs, kw⟩) R s := by
  obtain ⟨hh, g, d, t, os⟩ := s
  exact PySem.W.make_core (PySem.W.makes_of X hm) (PySem.W.looks_findIn X hi) (fun self => PySem.W.bind_fn X self hf) (.inl rfl) h
end

def putF (f : Str) (v : V) : List (Str × V) → List (Str × V)
  | [] => [(f, v)]
  | (g, x) :: r => if g = f then (g, v) :: r else (g, x) :: putF f v r
theorem lookup_putF (f g : Str) (v : V) : ∀ fs : List (Str × V), (putF f v fs).lookup g = if g = f then some v else fs.lookup g
  | [] => by
    show List.lookup g [(f, v)] = _
    by_cases h : g = f
    · have hb : (g == f) = true := beq_iff_eq.mpr h
      simp only [List.lookup, hb, if_pos h]
    · have hb : (g == f) = false := beq_eq_false_iff_ne.mpr h
      simp only [List.lookup, hb, if_neg h]
  | (k, x) :: r => by
    have ih := lookup_putF f g v r
    rw [show putF f v ((k, x) :: r) = (if k = f then (k, v) :: r else (k, x) :: putF f v r) from rfl]
    by_cases hk : k = f
    · rw [if_pos hk]
      by_cases h : g = k
      · have hb : (g == k) = true := beq_iff_eq.mpr h
        simp only [List.lookup, hb, if_pos (h.trans hk)]
      · have hb : (g == k) = false := beq_eq_false_iff_ne.mpr h
        simp only [List.lookup, hb, if_neg (fun e : g = f => h (e.trans hk.symm))]
    · rw [if_neg hk]
      by_cases h : g = k
      · have hb : (g == k) = true := beq_iff_eq.mpr h
        simp only [List.lookup, hb, if_neg (fun e : g = f => hk (h.symm.trans e))]
      · have hb : (g == k) = false := beq_eq_false_iff_ne.mpr h
        simp only [List.lookup, hb]
        exact ih
theorem keys_putF (f : Str) (v : V) : ∀ fs : List (Str × V), f ∈ (putF f v fs).map (·.1) ∧ ∀ g, g ∈ fs.map (·.1) → g ∈ (putF f v fs).map (·.1)
  | [] => ⟨by simp [putF], fun g h => by simp at h⟩
  | (k, x) :: r => by
    obtain ⟨i1, i2⟩ := keys_putF f v r
    rw [show putF f v ((k, x) :: r) = (if k = f then (k, v) :: r else (k, x) :: putF f v r) from rfl]
    by_cases hk : k = f
    · rw [if_pos hk]
      subst hk
      exact ⟨by simp, fun g h => by simpa using h⟩
    · rw [if_neg hk]
      refine ⟨?_, fun g h => ?_⟩
      · rw [List.map_cons]
        exact List.mem_cons_of_mem _ i1
      · rw [List.map_cons] at h ⊢
        rcases List.mem_cons.mp h with e | e
        · exact List.mem_cons.mpr (.inl e)
        · exact List.mem_cons_of_mem _ (i2 g e)
theorem length_putF (f : Str) (v : V) : ∀ fs : List (Str × V), (putF f v fs).length ≤ fs.length + 1
  | [] => by simp [putF]
  | (k, x) :: r => by
    have ih := length_putF f v r
    rw [show putF f v ((k, x) :: r) = (if k = f then (k, v) :: r else (k, x) :: putF f v r) from rfl]
    by_cases hk : k = f
    · rw [if_pos hk, List.length_cons, List.length_cons]; omega
    · rw [if_neg hk, List.length_cons, List.length_cons]; omega

theorem RelO.some_of {v : V} {o : Option Value} (r : RelO (some v) o) : ∃ u, o = some u ∧ RelV v u := by
  cases o with
  | none => exact (show False from r).elim
  | some u => exact ⟨u, rfl, r⟩
theorem RelO.none_of {o : Option Value} (r : RelO none o) : o = none := by
  cases o with
  | none => rfl
  | some u => exact (show False from r).elim
theorem handed_of {v : V} {u : Value} (r : RelV v u) : PySem.W.handedIn u = true := by
  cases v with
  | non => cases (show u = Value.none from r); rfl
  | bl b => cases (show u = Value.bool b from r); rfl
  | int i => obtain ⟨t, e⟩ := (show ∃ t, u = Value.int i t from r); cases e; rfl
  | str x => obtain ⟨t, e⟩ := (show ∃ t, u = Value.str x t from r); cases e; rfl
  | byt b => obtain ⟨t, e⟩ := (show ∃ t, u = Value.bytes b t from r); cases e; rfl
  | flt b => obtain ⟨t, e⟩ := (show ∃ t, u = Value.float b t from r); cases e; rfl
  | ref a => cases (show u = Value.ref a from r); rfl
  | ty n => cases (show u = Value.type n from r); rfl

section
variable {P : Program} {w : World} {H H' : Hp} {h h' : Heap} {a C dx : Addr} {fs fs' : List (Str × V)}
theorem ins_get (hok : HOk P w H h) (e : H a = some (.ins C dx fs)) : ∃ mA, ObjM h a dx C mA ∧ (∀ f, RelO (fs.lookup f) (mA f)) ∧ PySem.Within mA (fs.map (·.1)) ∧ fs.length ≤ 1000 ∧ H dx = some (.own a) := by
  obtain ⟨d, z, ne, ob, mA, n, r, q⟩ := (show ObjOk P w H h a (.ins C dx fs) from hok a _ e)
  exact ⟨mA, ⟨ob, n, ne⟩, r, q, z, d⟩
end

structure Cls (K : PySem.W.Frag) (C : Addr) : Prop where
  pg : PySem.W.plainGet K C Str.empty = true
  hd : PySem.W.hasDictIn K C = true
  po : PySem.W.plainOver K C = true
  sa : PySem.W.findIn K (.ref C) "__setattr__" = some (some (.builtin "object.__setattr__"))
theorem Cls.get {K : PySem.W.Frag} {C : Addr} (c : Cls K C) (f : Str) : PySem.W.plainGet K C f = true := c.pg
def NoAttr (K : PySem.W.Frag) (C : Addr) (f : Str) : Prop := PySem.W.findIn K (.ref C) f = some none
theorem NoAttr.taker {K : PySem.W.Frag} {C : Addr} {f : Str} (n : NoAttr K C f) : PySem.W.takerIn K C f = some none := by
  unfold PySem.W.takerIn
  rw [show PySem.W.findIn K (.ref C) f = some none from n]
  rfl
structure Con (K : PySem.W.Frag) (C : Addr) (f : Str) (v : V) (u : Value) : Prop where
  at_ : PySem.W.findIn K (.ref C) f = some (some u)
  rel : RelV v u
  get : PySem.W.specialIn K u "__get__" = some none
  cp : PySem.W.copiedNames.contains f = false
structure Meth (K : PySem.W.Frag) (C : Addr) (m : Str) (f : Addr) : Prop where
  at_ : PySem.W.findIn K (.ref C) m = some (some (.ref f))
  fn : PySem.W.isFn K (.ref f) = true
  kp : PySem.W.keepIn K (.ref f) = true

section
variable {X : Cx} {pins : List (Addr × Obj)} {σ : St} {H : Hp} {s : Shared} {a C dx : Addr} {fs : List (Str × V)} {f : Str} {v : V} {A : Around} {E : Value → Shared → Prop}

theorem getattr_ok {b : Bool} {Q : Value → Shared → Prop} (I : Inv X pins σ H s) (e : H a = some (.ins C dx fs)) (c : Cls X.K C) (n : NoAttr X.K C f) (l : fs.lookup f = some v)
    (h : ∀ u s', Inv X pins σ H s' → RelV v u → Q u s') : wpAny (model X.prog X.w) A (getAttr (.ref a) f b) Q E s := by
  obtain ⟨mA, O, r, _, _, _⟩ := ins_get I.hok e
  obtain ⟨u, hu, ru⟩ := RelO.some_of (v := v) (o := mA f) (by rw [← l]; exact r f)
  exact get_map I.kIn O (c.get f) c.hd n hu (handed_of ru) (h u _ (I.tok _) ru)

theorem getmeth_ok {m : Str} {g : Addr} {pl : Sem Bool} {Q : Value × List Value → Shared → Prop} (I : Inv X pins σ H s) (e : H a = some (.ins C dx fs)) (c : Cls X.K C) (k : Meth X.K C m g) (l : fs.lookup m = none)
    (h : Q (.ref g, [.ref a]) s) : wpAny (model X.prog X.w) A (getMethod (.ref a) m pl) Q E s := by
  obtain ⟨mA, O, r, _, _, _⟩ := ins_get I.hok e
  have hn : mA m = none := RelO.none_of (by rw [← l]; exact r m)
  exact get_meth I.kIn O (c.get m) k.at_ k.fn hn h

theorem setattr_ok {y : V} {u : Value} {Q : Unit → Shared → Prop} (I : Inv X pins σ H s) (e : H a = some (.ins C dx fs)) (c : Cls X.K C) (n : NoAttr X.K C f) (hl : fs.length < 1000) (ry : RelV y u)
    (h : ∀ s', Inv X pins σ (upd H a (.ins C dx (putF f y fs))) s' → Q () s') : wpAny (model X.prog X.w) A (setAttr (.ref a) f u) Q E s := by
  obtain ⟨mA, O, r, wi, _, ho⟩ := ins_get I.hok e
  have hz : (fs.map (·.1)).length ≤ sizeLine := by rw [List.length_map, sizeLine_eq]; omega
  refine set_map I.kIn O c.sa c.po n.taker c.hd wi hz fun h' O' sb => h _ ?_
  have hd : ∃ o, h'.get? dx = some o := let ⟨o, _, _, e', _⟩ := O'.ns; ⟨o, e'⟩
  refine I.write (x := a) (e := dx) (by rw [e]; exact True.intro) (.inr ho) (fun b q hb z => (sb.2 b hb).trans z) hd ?_
  refine ⟨by rw [upd_ne O.ne]; exact ho, ?_, O.ne, O'.obj, _, O'.ns, fun g => ?_, fun g hg => ?_⟩
  · have := length_putF f y fs; omega
  · show RelO ((putF f y fs).lookup g) (if g = f then some u else mA g)
    rw [lookup_putF]
    by_cases q : g = f
    · rw [if_pos q, if_pos q]; exact ry
    · rw [if_neg q, if_neg q]; exact r g
  · by_cases q : g = f
    · rw [q]; exact (keys_putF f y fs).1
    · refine (keys_putF f y fs).2 g (wi g fun z => hg ?_)
      show (if g = f then some u else mA g) = none
      rw [if_neg q]; exact z

theorem Inv.made (I : Inv X pins σ H s) : Inv X pins σ (upd (upd H s.heap.objs.size (.own (s.heap.objs.size + 1))) (s.heap.objs.size + 1) (.ins C s.heap.objs.size []))
    { s with heap := (s.heap.push PySem.W.emptyDict).push (PySem.W.instObj C s.heap.objs.size) } := by
  have e1 : (s.heap.push PySem.W.emptyDict).get? s.heap.objs.size = some PySem.W.emptyDict := Heap.get?_push_size s.heap rfl
  have e2 : ((s.heap.push PySem.W.emptyDict).push (PySem.W.instObj C s.heap.objs.size)).get? (s.heap.objs.size + 1) = some (PySem.W.instObj C s.heap.objs.size) := by
    have := Heap.get?_push_size (s.heap.push PySem.W.emptyDict) (o := PySem.W.instObj C s.heap.objs.size) rfl
    rwa [Heap.size_push] at this
  have e3 : (s.heap.push PySem.W.emptyDict).Ns s.heap.objs.size (fun _ => none) := ⟨PySem.W.emptyDict, #[], _, e1, rfl, (fun e he => absurd he (by simp)), fun _ => rfl⟩
  have I1 := I.laid (a := s.heap.objs.size) (o := .own (s.heap.objs.size + 1)) (h' := s.heap.push PySem.W.emptyDict) (t' := s.toks) (fun b u q => Heap.get?_push_of_some _ q) (Nat.le_refl _) ⟨_, e1⟩
  refine I1.laid (a := s.heap.objs.size + 1) (o := .ins C s.heap.objs.size []) (t' := s.toks) (fun b u q => Heap.get?_push_of_some _ q) (Nat.le_of_eq (Heap.size_push _ _)) ?_
  have ne : s.heap.objs.size ≠ s.heap.objs.size + 1 := Nat.ne_of_lt (Nat.lt_succ_self _)
  refine ⟨by rw [upd_ne ne, upd_same], Nat.zero_le _, ne, e2, fun _ => none, (Heap.Ns1.of_empty e3).at fun o q => Heap.get?_push_of_some _ q, fun _ => True.intro, fun y hy => absurd rfl hy⟩

theorem attr_of {prog : Program} {w : World} {env : Env} {e : Expr} {f : Str} {pos : Pos} {s : Shared} {Q : Value → Shared → Prop} (hb : attributeBase e f env (eval e env) = eval e env)
    (h : wpAny (model prog w) A (eval e env) (fun o s₁ => wpAny (model prog w) A (getAttr o f true) Q E s₁) E s) : wpAny (model prog w) A (eval (.Attribute e f pos) env) Q E s :=
  Attribute_any_ h (by rw [arm_eval_Attribute, hb])
end

def tFld (K : PySem.W.Frag) (ta : TE) (f : Str) : TE := fun σ H Q => ta σ H fun x H1 => ∃ a C dx fs v, x = .ref a ∧ H1 a = some (.ins C dx fs) ∧ Cls K C ∧ NoAttr K C f ∧ fs.lookup f = some v ∧ Q v H1
def sFld (K : PySem.W.Frag) (ta tv : TE) (f : Str) : TS := fun D σ H => tv σ H fun y H1 => ta σ H1 fun x H2 => ∃ a C dx fs, x = .ref a ∧ H2 a = some (.ins C dx fs) ∧ Cls K C ∧ NoAttr K C f ∧ fs.length < 1000 ∧
  D.nx σ (upd H2 a (.ins C dx (putF f y fs)))
section
variable {X : Cx} {o e value : Expr} {f : Str} {pos pos' tpos : Pos} {ta tv : TE}
theorem pe_fld (he : PE X e ta) (hb : attributeBase e f X.env (eval e X.env) = eval e X.env) : PE X (.Attribute e f pos) (tFld X.K ta f) := by
  intro pins s σ H Q I h
  refine attr_of hb (thn (he pins s σ H _ I h) fun u s1 ⟨x, H1, I1, rx, a, C, dx, fs, v, ex, ea, c, n, l, q⟩ => ?_)
  subst ex
  obtain rfl : u = Value.ref a := rx
  exact getattr_ok I1 ea c n l fun u' s2 I2 ru => ⟨v, H1, I2, ru, q⟩
theorem ps_fld (ha : PE X o ta) (hv : PE X value tv) (hs : swapsWith value (some (.Attribute o f pos')) pos.line X.env = pure false) : PS X (.Assign [.Attribute o f pos'] value pos) (sFld X.K ta tv f) := by
  intro pins s σ H D I h
  refine plainObj_wpAny_Assign_Attribute (thn (hv pins s σ H _ I h) fun u s1 ⟨y, H1, I1, ry, q⟩ => thn (ha pins s1 σ H1 _ I1 q) fun ov s2 ⟨x, H2, I2, rx, a, C, dx, fs, ex, ea, c, n, l, q2⟩ => ?_) hs
  subst ex
  obtain rfl : ov = Value.ref a := rx
  exact setattr_ok I2 ea c n l ry fun s3 I3 => ⟨σ, _, I3, q2⟩
end

section
variable {X : Cx} {pins : List (Addr × Obj)} {σ : St} {H : Hp} {s : Shared} {A : Around} {E : Value → Shared → Prop} {Q : Value → Shared → Prop} {c : Value} {b : Bool}
inductive TyOf (K : PySem.W.Frag) (H : Hp) : V → Value → Prop where
  | non : TyOf K H .non (.type "NoneType")
  | bl (x : Bool) : TyOf K H (.bl x) (.type "bool")
  | int (i : Int) : TyOf K H (.int i) (.type "int")
  | str (x : Str) : TyOf K H (.str x) (.type "str")
  | flt (x : UInt64) : TyOf K H (.flt x) (.type "float")
  | lst {a : Addr} {xs : List V} (e : H a = some (.lst xs)) : TyOf K H (.ref a) (.type "list")
  | frz {a : Addr} {o : Obj} {xs : List V} (e : H a = some (.frz o (.lst xs))) : TyOf K H (.ref a) (.type "list")
  | tup {a : Addr} {xs : List V} (e : H a = some (.tup xs)) : TyOf K H (.ref a) (.type "tuple")
  | dK {a : Addr} {kvs : List (Key × V)} (e : H a = some (.dK kvs)) : TyOf K H (.ref a) (.type "dict")
  | dT {a : Addr} {kvs : List (List Key × V)} (e : H a = some (.dT kvs)) : TyOf K H (.ref a) (.type "dict")
  | ins {a C dx : Addr} {fs : List (Str × V)} (e : H a = some (.ins C dx fs)) (cl : Cls K C) (ha : PySem.W.findIn K (.ref C) "__class__" = some (some (.builtin "object.__class__")))
      (hn : PySem.W.specialIn K (.builtin "object.__class__") "__get__" = some (some (.builtin "getset_descriptor.__get__"))) (htk : PySem.W.takesIn K (.builtin "object.__class__") = some true)
      (hm : PySem.W.mroIn K C (.type "object") = some true) : TyOf K H (.ref a) (.ref C)
theorem isinst_ok {x : V} {u t : Value} (I : Inv X pins σ H s) (rx : RelV x u) (ty : TyOf X.K H x t) (e : PySem.W.kitOne X.K t c = some b) (h : ∀ tk, Q (.bool b) { s with toks := tk }) :
    wpAny (model X.prog X.w) A (call (.builtin "isinstance") [u, c]) Q E s := by
  cases ty with
  | non => cases (show u = Value.none from rx); exact PySem.W.kia_one PySem.W.kitx_none I.kIn True.intro e (fun z => nomatch z) h
  | bl y => cases (show u = Value.bool y from rx); exact PySem.W.kia_one PySem.W.kitx_bool I.kIn True.intro e (fun z => nomatch z) h
  | int i => obtain ⟨t, q⟩ := (show ∃ t, u = Value.int i t from rx); cases q; exact PySem.W.kia_one PySem.W.kitx_int I.kIn True.intro e (fun z => nomatch z) h
  | str y => obtain ⟨t, q⟩ := (show ∃ t, u = Value.str y t from rx); cases q; exact PySem.W.kia_one PySem.W.kitx_str I.kIn True.intro e (fun z => nomatch z) h
  | flt y => obtain ⟨t, q⟩ := (show ∃ t, u = Value.float y t from rx); cases q; exact PySem.W.kia_one PySem.W.kitx_float I.kIn True.intro e (fun z => nomatch z) h
  | @lst a xs ea =>
    cases (show u = Value.ref a from rx)
    obtain ⟨_, _, n, _, h1⟩ := (show ObjOk X.prog X.w H s.heap a (.lst xs) from I.hok a _ ea)
    exact PySem.W.kia_one PySem.W.kitx_list I.kIn ⟨_, h1, rfl⟩ e (fun z => nomatch z) h
  | @frz a ob xs ea =>
    cases (show u = Value.ref a from rx)
    obtain ⟨_, _, _, n, _, h1⟩ := (show ObjOk X.prog X.w H s.heap a (.frz ob (.lst xs)) from I.hok a _ ea)
    exact PySem.W.kia_one PySem.W.kitx_list I.kIn ⟨_, h1, rfl⟩ e (fun z => nomatch z) h
  | @tup a xs ea =>
    cases (show u = Value.ref a from rx)
    obtain ⟨_, _, _, p⟩ := (show ObjOk X.prog X.w H s.heap a (.tup xs) from I.hok a _ ea)
    obtain ⟨o, h1, h2, _⟩ := p
    exact PySem.W.kia_one PySem.W.kitx_tuple I.kIn ⟨o, h1, h2⟩ e (fun z => nomatch z) h
  | @dK a kvs ea =>
    cases (show u = Value.ref a from rx)
    obtain ⟨_, _, vs, _, p⟩ := (show ObjOk X.prog X.w H s.heap a (.dK kvs) from I.hok a _ ea)
    obtain ⟨o, es, ep, h1, h2, _⟩ := p
    exact PySem.W.kia_one PySem.W.kitx_dict I.kIn ⟨o, h1, h2.1⟩ e (fun z => nomatch z) h
  | @dT a kvs ea =>
    cases (show u = Value.ref a from rx)
    obtain ⟨_, _, xs, _, o, es, ep, h1, h2, _⟩ := (show ObjOk X.prog X.w H s.heap a (.dT kvs) from I.hok a _ ea)
    exact PySem.W.kia_one PySem.W.kitx_dict I.kIn ⟨o, h1, h2.1⟩ e (fun z => nomatch z) h
  | @ins a C dx fs ea cl ha hn htk hm =>
    cases (show u = Value.ref a from rx)
    obtain ⟨mA, O, _⟩ := ins_get I.hok ea
    obtain ⟨od, J, _⟩ := O.look
    exact PySem.W.kia_one (PySem.W.kitx_own (cl.get _) cl.hd ha hn htk hm) I.kIn J e (fun z => nomatch z) h
end
end L2

namespace L2
open PySem PySem.Spec PyProof.Rows

structure Room (k : Nat) (A : Around) : Prop where
  hd : A.handled = none
  dp : A.depth + 3 * k + 5 < recursionLimit
  un : A.units + 16 * k + 200 < cLine
theorem Room.mono {j k : Nat} {A : Around} (r : Room k A) (h : j ≤ k) : Room j A := ⟨r.hd, by have := r.dp; omega, by have := r.un; omega⟩
theorem Room.deeper {k : Nat} {A : Around} (r : Room (k + 1) A) (env : Env) : Room k (A.deeper env) :=
  ⟨r.hd, by have := r.dp; show A.depth + 1 + 3 * k + 5 < _; omega, by have := r.un; show A.units + 3 + 16 * k + 200 < _; omega⟩
theorem make_depth {A : Around} {C : Addr} {us : List Value} {kw : List (Str × Value)} : (A.under (.builtin "type.__call__" ⟨.ref C :: us, kw⟩)).depth = A.depth + 1 := by
  first | rfl | simp [Around.under, Code.weight, Code.isCreation, Code.isGuard, Code.isCaller, Code.frames, Code.isFrame, guardIds]
theorem make_units {A : Around} {C : Addr} {us : List Value} {kw : List (Str × Value)} : (A.under (.builtin "type.__call__" ⟨.ref C :: us, kw⟩)).units = A.units + 1 := by
  first | rfl | simp [Around.under, Code.cUnits, Code.frames, Code.isFrame]
theorem Room.make {k : Nat} {A : Around} (r : Room (k + 1) A) (C : Addr) (us : List Value) (kw : List (Str × Value)) : Room k (A.under (.builtin "type.__call__" ⟨.ref C :: us, kw⟩)) :=
  ⟨r.hd, by have := r.dp; rw [make_depth]; omega, by have := r.un; rw [make_units]; omega⟩
theorem Room.depth {k : Nat} {A : Around} (r : Room k A) : A.depth < recursionLimit := by have := r.dp; omega
theorem Room.units {k : Nat} {A : Around} (r : Room k A) : A.units + 64 < cLine := by have := r.un; omega
def tNil : TA := fun _ H Q => Q [] H
def tCons (ta : TE) (tr : TA) : TA := fun σ H Q => ta σ H fun x H1 => tr σ H1 fun xs H2 => Q (x :: xs) H2
section
variable {X : Cx} {e : Expr} {es : List Expr} {te : TE} {t : TA} {pos : Pos}
theorem pa_nil : PA X [] tNil := fun _ _ _ _ H Q I h => Calls.spliced_nil ⟨[], H, I, .nil, h⟩
theorem pa_cons (ha : PE X e te) (hr : PA X es t) (hs : starEach (e :: es) X.env = (false, eval e X.env) :: starEach es X.env := by rfl) : PA X (e :: es) (tCons te t) := by
  intro pos pins s σ H Q I h
  rw [hs]
  show wpAny _ _ (spliced ((false, eval e X.env) :: backTo pos (starEach es X.env))) _ _ s
  refine Calls.spliced_cons (thn (ha pins s σ H _ I h) fun u s1 ⟨x, H1, I1, r1, q1⟩ => ?_)
  exact thn (hr pos pins s1 σ H1 _ I1 q1) fun us s2 ⟨xs, H2, I2, r2, q2⟩ => ⟨x :: xs, H2, I2, .cons r1 r2, q2⟩

def tTup (t : TA) : TE := fun σ H Q => t σ H fun xs H1 => xs.length ≤ sizeLine ∧ ∀ p, H1 p = none → Q (.ref p) (upd H1 p (.tup xs))
def tLst (t : TA) : TE := fun σ H Q => t σ H fun xs H1 => xs.length ≤ sizeLine ∧ ∀ p, H1 p = none → Q (.ref p) (upd H1 p (.lst xs))
theorem pe_tup {x1} (h : PA X es t) : PE X (.Tuple es x1 pos) (tTup t) := by
  intro pins s σ H Q I hq
  refine wpAny_Tuple_spliced (thn (h pos pins s σ H _ I hq) fun us s1 ⟨xs, H1, I1, r, z, q⟩ => ⟨by rw [← r.length]; exact z, ?_⟩)
  have hf : H1 s1.heap.objs.size = none := I1.hok.fresh (Nat.le_refl _)
  refine ⟨.ref s1.heap.objs.size, upd H1 s1.heap.objs.size (.tup xs), I1.laid (t' := s1.toks) (fun b u e => Heap.get?_push_of_some _ e) (Nat.le_refl _) ?_, rfl, q _ hf⟩
  exact ⟨z, us, r, ⟨_, Heap.get?_push_size _ rfl, rfl, _, rfl⟩⟩
theorem pe_lst (h : PA X es t) : PE X (.List es pos) (tLst t) := by
  intro pins s σ H Q I hq
  refine wpAny_List_spliced (thn (h pos pins s σ H _ I hq) fun us s1 ⟨xs, H1, I1, r, z, q⟩ => ⟨by rw [← r.length]; exact z, ?_⟩)
  have hf : H1 s1.heap.objs.size = none := I1.hok.fresh (Nat.le_refl _)
  refine ⟨.ref s1.heap.objs.size, upd H1 s1.heap.objs.size (.lst xs), I1.laid (t' := s1.toks) (fun b u e => Heap.get?_push_of_some _ e) (Nat.le_refl _) ?_, rfl, q _ hf⟩
  exact ⟨z, us, 0, r, Heap.get?_push_size _ rfl⟩
end

abbrev Sp := List V → Hp → VK → XK → Prop
abbrev CXT := List Env → Hp → Shared → XK → Value → Shared → Prop

structure Env0 (P : Program) (w : World) (K : PySem.W.Frag) (mg : Str → Option Value) (base : Heap) (A : Around) (outer : List Env) (s : Shared) (H : Hp) : Prop where
  frames : A.frames = some outer
  mod : Mod K mg base
  bs : ∀ b o, base.get? b = some o → s.heap.get? b = some o ∧ H b = none
  bsz : base.objs.size ≤ s.heap.objs.size
  funs : s.heap.FunFrames base outer
  frf : ∀ b ∈ frs outer, H b = none
  hok : HOk P w H s.heap
  bare : AllBare s.gens
def CE (outer : List Env) (P : Program) (w : World) (H : Hp) (s : Shared) (Q : VK) (u : Value) (s' : Shared) : Prop :=
  ∃ v H', s'.os = s.os ∧ AllBare s'.gens ∧ Un (frs outer) [] H H' s.heap s'.heap ∧ HOk P w H' s'.heap ∧ RelV v u ∧ Q v H'
def CR (CX : CXT) (outer : List Env) (P : Program) (w : World) (H : Hp) (s : Shared) (Q : VK) (E : XK) (r : Result) (s' : Shared) : Prop :=
  match r with
  | .ok (.ret u) => CE outer P w H s Q u s'
  | .ok _ => False
  | .error e => CX outer H s E e s'
structure FnOk (P : Program) (w : World) (K : PySem.W.Frag) (mg : Str → Option Value) (base : Heap) (CX : CXT) (k : Nat) (f : Addr) (fd : FuncData) (ps : List Str) (sp : Sp) : Prop where
  len : ∀ vs H Q E, sp vs H Q E → vs.length = ps.length
  run : ∀ (A : Around) (outer : List Env) (s : Shared) (H : Hp) (args : Args) (us : List Value) (vs : List V) (Q : VK) (E : XK), Room k A → Env0 P w K mg base A outer s H → BindsTo s fd args (ps.zip us) → Vals vs us → sp vs H Q E →
    codeAny (model P w) A (.call (.ref f) args) (CR CX outer P w H s Q E) s
theorem FnOk.mono {P : Program} {w : World} {K : PySem.W.Frag} {mg : Str → Option Value} {base : Heap} {CX : CXT} {j k : Nat} {f : Addr} {fd : FuncData} {ps : List Str} {sp : Sp} (F : FnOk P w K mg base CX j f fd ps sp) (h : j ≤ k) :
    FnOk P w K mg base CX k f fd ps sp := ⟨F.len, fun A outer s H args us vs Q E hr => F.run A outer s H args us vs Q E (hr.mono h)⟩
theorem Env0.make {P : Program} {w : World} {K : PySem.W.Frag} {mg : Str → Option Value} {base : Heap} {A : Around} {outer : List Env} {s : Shared} {H : Hp} (e : Env0 P w K mg base A outer s H) (C : Addr) (us : List Value) (kw : List (Str × Value)) :
    Env0 P w K mg base (A.under (.builtin "type.__call__" ⟨.ref C :: us, kw⟩)) outer s H := ⟨by first | exact e.frames | (simpa [Around.under, Code.envs, Code.isFrame, pushEnvs] using e.frames), e.mod, e.bs, e.bsz, e.funs, e.frf, e.hok, e.bare⟩
section
variable {X : Cx} {pins : List (Addr × Obj)} {σ : St} {H : Hp} {s s' : Shared}
theorem Inv.env0 (I : Inv X pins σ H s) : Env0 X.prog X.w X.K X.mg X.base X.A X.stack s H :=
  ⟨I.ok.frames, I.ok.mod, I.bs, Nat.le_trans I.ok.bsz I.sz, I.stack, I.stkFree, I.hok, I.bare⟩
theorem Inv.after {Q : VK} {u : Value} (I : Inv X pins σ H s) (h : CE X.stack X.prog X.w H s Q u s') : EP X pins σ Q u s' := by
  obtain ⟨v, H', os, bare, un, hok, r, q⟩ := h
  obtain ⟨hh, g, d, t, os'⟩ := s'
  obtain rfl : os' = s.os := os
  exact ⟨v, H', I.call (h' := hh) (g' := g) (d' := d) (t' := t) (ch := []) un hok bare (fun b z => absurd z (by simp)), r, q⟩
end

def tCall (sp : Sp) (dvs : List V) (E : XK) (t : TA) : TE := fun σ H Q => t σ H fun vs H1 => sp (vs ++ dvs) H1 Q E
def tMeth (C : Addr) (m : Str) (sp : Sp) (dvs : List V) (E : XK) (ta : TE) (t : TA) : TE := fun σ H Q => ta σ H fun x H1 => ∃ a dx fs, x = .ref a ∧ H1 a = some (.ins C dx fs) ∧ fs.lookup m = none ∧
  t σ H1 fun vs H2 => sp (x :: (vs ++ dvs)) H2 Q E
def Binds (K : PySem.W.Frag) (fd : FuncData) (ps : List Str) (ds : List Value) : Prop :=
  ∀ (s : Shared) (us : List Value), K.In s.heap → (us ++ ds).length = ps.length → BindsTo s fd ⟨us, []⟩ (ps.zip (us ++ ds))
theorem Binds.all {K : PySem.W.Frag} {fd : FuncData} {ps : List Str} (h : ∀ us : List Value, us.length = ps.length → bindArgs fd ⟨us, []⟩ = pure (ps.zip us)) : Binds K fd ps [] := fun s us _ hl => by
  rw [List.append_nil] at hl ⊢
  exact .of_eq (h us hl)

def Passes (CX : CXT) (X : Cx) (E : XK) : Prop := ∀ (pins : List (Addr × Obj)) (σ : St) (H : Hp) (s : Shared) (e : Value) (s' : Shared), Inv X pins σ H s → CX X.stack H s E e s' → X.xe e s'

section
variable {X : Cx} {CX : CXT} {k : Nat} {f C : Addr} {fd : FuncData} {ps : List Str} {sp : Sp} {dvs : List V} {ds : List Value} {E : XK} {x m : Str} {p pos apos : Pos} {e o : Expr} {es : List Expr} {ta : TE} {t : TA}

theorem run_fn {pins : List (Addr × Obj)} {σ : St} {H : Hp} {s : Shared} {Q : VK} {us : List Value} {vs : List V} (F : FnOk X.prog X.w X.K X.mg X.base CX k f fd ps sp) (hr : Room k X.A) (hb : Binds X.K fd ps ds) (hd : Vals dvs ds) (hx : Passes CX X E)
    (I : Inv X pins σ H s) (r : Vals vs us) (h : sp (vs ++ dvs) H Q E) : wpAny (model X.prog X.w) X.A (call (.ref f) us) (EP X pins σ Q) X.xe s := by
  have r2 : Vals (vs ++ dvs) (us ++ ds) := r.append hd
  have hl : (us ++ ds).length = ps.length := by rw [← r2.length]; exact F.len _ _ _ _ h
  refine wpAny_call (codeAny_mono (F.run X.A X.stack s H ⟨us, []⟩ (us ++ ds) (vs ++ dvs) Q E hr I.env0 (hb s us I.kIn hl) r2 h) fun r s' hq => ?_)
  cases r with
  | error e => exact hx pins σ H s e s' I hq
  | ok fl =>
    cases fl with
    | ret u => exact I.after hq
    | next => exact False.elim hq
    | brk => exact False.elim hq
    | cont => exact False.elim hq

theorem pe_call (F : FnOk X.prog X.w X.K X.mg X.base CX k f fd ps sp) (hr : Room k X.A) (hg : Gl X x) (hm : X.mg x = some (.ref f)) (hk : PySem.W.keepIn X.K (.ref f) = true) (hb : Binds X.K fd ps ds) (hd : Vals dvs ds) (hx : Passes CX X E)
    (ha : PA X (e :: es) t) (hdb : (x == ("__debug__" : Str)) = false := by decide) (he : starEach (e :: es) X.env = (false, eval e X.env) :: starEach es X.env := by rfl) (hpl : (backTo pos (starEach es X.env)).any (·.1) = false := by rfl) :
    PE X (.Call (.Name x p) (e :: es) [] pos) (tCall sp dvs E t) := by
  intro pins s σ H Q I h
  refine wpAny_Call_Name_kw (ld_glob I hg hm ?_ hdb)
  refine PySem.W.callWith_K (h₀ := X.base) I.ok.mod.kin hk (thn (ha pos pins s σ H _ I h) fun us s1 ⟨vs, H1, I1, r, q⟩ => ⟨I1.kIn, ?_⟩) he hpl
  exact run_fn F hr hb hd hx I1 r q
theorem pe_meth {pl : Sem Bool} (he : PE X o ta) (c : Cls X.K C) (hm : Meth X.K C m f) (F : FnOk X.prog X.w X.K X.mg X.base CX k f fd ps sp) (hr : Room k X.A) (hb : Binds X.K fd ps ds) (hd : Vals dvs ds) (hx : Passes CX X E) (ha : PA X (e :: es) t)
    (hst : starEach (e :: es) X.env = (false, eval e X.env) :: starEach es X.env := by rfl) (hpl : (backTo pos (starEach es X.env)).any (·.1) = false := by rfl)
    (ht : eval (.Call (.Attribute o m apos) (e :: es) [] pos) X.env = (do
      let ov ← eval o X.env
      standAt apos.atName
      let (f, first) ← holding [ov] (getMethod ov m pl)
      callWith pos f first (backTo pos (starEach (e :: es) X.env)) (backToKw pos (keywordEach [] X.env))) := by rfl) :
    PE X (.Call (.Attribute o m apos) (e :: es) [] pos) (tMeth C m sp dvs E ta t) := by
  intro pins s σ H Q I h
  refine PySem.W.methodCall_KW (pl := pl) (thn (he pins s σ H _ I h) fun u s1 ⟨x, H1, I1, rx, a, dx, fs, ex, ea, l, q⟩ => ?_) ht
  subst ex
  obtain rfl : u = Value.ref a := rx
  refine getmeth_ok I1 ea c hm l ?_
  refine PySem.W.callWith_K (first := [.ref a]) (h₀ := X.base) I.ok.mod.kin hm.kp (thn (ha pos pins s1 σ H1 _ I1 q) fun us s2 ⟨vs, H2, I2, r, q2⟩ => ⟨I2.kIn, ?_⟩) hst hpl
  exact run_fn (us := .ref a :: us) (vs := .ref a :: vs) F hr hb hd hx I2 (.cons rfl r) q2
theorem pe_meth0 {pl : Sem Bool} (he : PE X o ta) (c : Cls X.K C) (hm : Meth X.K C m f) (F : FnOk X.prog X.w X.K X.mg X.base CX k f fd ps sp) (hr : Room k X.A) (hb : Binds X.K fd ps ds) (hd : Vals dvs ds) (hx : Passes CX X E)
    (ht : eval (.Call (.Attribute o m apos) [] [] pos) X.env = (do
      let ov ← eval o X.env
      standAt apos.atName
      let (f, first) ← holding [ov] (getMethod ov m pl)
      callWith pos f first (backTo pos (starEach [] X.env)) (backToKw pos (keywordEach [] X.env))) := by rfl) :
    PE X (.Call (.Attribute o m apos) [] [] pos) (tMeth C m sp dvs E ta tNil) := by
  intro pins s σ H Q I h
  refine PySem.W.methodCall_KW (pl := pl) (thn (he pins s σ H _ I h) fun u s1 ⟨x, H1, I1, rx, a, dx, fs, ex, ea, l, q⟩ => ?_) ht
  subst ex
  obtain rfl : u = Value.ref a := rx
  refine getmeth_ok I1 ea c hm l ?_
  exact PySem.W.callWith_K0 (first := [.ref a]) I1.kIn hm.kp (run_fn (us := [.ref a]) (vs := [.ref a]) F hr hb hd hx I1 (.cons rfl .nil) q)

structure Mk (K : PySem.W.Frag) (C f : Addr) : Prop where
  makes : PySem.W.makesIn K C = true
  init : PySem.W.findIn K (.ref C) "__init__" = some (some (.ref f))
  fn : PySem.W.isFn K (.ref f) = true
  kp : PySem.W.keepIn K (.ref C) = true

end

section
variable {X : Cx} {CX : CXT} {k : Nat} {f C : Addr} {fd : FuncData} {ps ks : List Str} {sp : Sp} {E : XK} {x m : Str} {p pos apos kpos : Pos} {e o : Expr} {es : List Expr} {kws : List Keyword} {te ta : TE} {t tk : TA} {nm : Option Str}
structure KBinds (K : PySem.W.Frag) (fd : FuncData) (ps ks : List Str) (g : List Value → List Value → List Value) (gV : List V → List V → List V) : Prop where
  to : ∀ (s : Shared) (us ws : List Value), K.In s.heap → (g us ws).length = ps.length → BindsTo s fd ⟨us, ks.zip ws⟩ (ps.zip (g us ws))
  rel : ∀ {vs : List V} {us : List Value} {zs : List V} {ws : List Value}, Vals vs us → Vals zs ws → Vals (gV vs zs) (g us ws)
variable {g : List Value → List Value → List Value} {gV : List V → List V → List V}
end

structure FnScope (N P : List Str) (sc : Scope) : Prop where
  kind : sc.kind = .function
  co : sc.isCoroutine = false
  gen : sc.isGenerator = false
  nd : N.Nodup
  pre : N.take P.length = P
  par : ∀ x ∈ P, sc.names.lookup x = some .local ∨ sc.names.lookup x = some .cell
  nofree : ∀ y ∈ sc.names, y.2 ≠ .free

theorem bindL_out {kindOf : Str → Option NameKind} {x : Str} : ∀ {binds : List (Str × Value)} {m : Str → Option Value}, (∀ v, (x, v) ∉ binds) → bindL kindOf binds m x = m x
  | [], _, _ => rfl
  | (n, v) :: r, m, h => by
    unfold bindL
    rw [bindL_out fun w hw => h w (List.mem_cons_of_mem _ hw)]
    split
    · have : x ≠ n := by rintro rfl; exact h v List.mem_cons_self
      simp [this]
    · rfl
theorem bindC_out {kindOf : Str → Option NameKind} {x : Str} : ∀ {binds : List (Str × Value)} {m : Str → Option Value}, (∀ v, (x, v) ∉ binds) → bindC kindOf binds m x = m x
  | [], _, _ => rfl
  | (n, v) :: r, m, h => by
    unfold bindC
    rw [bindC_out fun w hw => h w (List.mem_cons_of_mem _ hw)]
    split
    · rfl
    · have : x ≠ n := by rintro rfl; exact h v List.mem_cons_self
      simp [this]
theorem bindL_get {kindOf : Str → Option NameKind} {x : Str} {v : Value} : ∀ {P : List Str} {vs : List Value} {i : Nat} {m : Str → Option Value}, P.Nodup → P[i]? = some x → vs[i]? = some v → kindOf x = some .local →
    bindL kindOf (P.zip vs) m x = some v
  | [], _, _, _, _, h, _, _ => by simp at h
  | _ :: _, [], _, _, _, _, h, _ => by simp at h
  | p :: P, w :: vs, 0, m, nd, h1, h2, hk => by
    simp at h1 h2; subst h1; subst h2
    show bindL kindOf ((p, w) :: P.zip vs) m p = _
    unfold bindL
    rw [bindL_out fun v hv => (List.nodup_cons.mp nd).1 (List.of_mem_zip hv).1, if_pos hk]
    simp
  | p :: P, w :: vs, i + 1, m, nd, h1, h2, hk => by
    show bindL kindOf ((p, w) :: P.zip vs) m x = _
    unfold bindL
    exact bindL_get (i := i) (List.nodup_cons.mp nd).2 (by simpa using h1) (by simpa using h2) hk
theorem bindC_get {kindOf : Str → Option NameKind} {x : Str} {v : Value} : ∀ {P : List Str} {vs : List Value} {i : Nat} {m : Str → Option Value}, P.Nodup → P[i]? = some x → vs[i]? = some v → kindOf x ≠ some .local →
    bindC kindOf (P.zip vs) m x = some v
  | [], _, _, _, _, h, _, _ => by simp at h
  | _ :: _, [], _, _, _, _, h, _ => by simp at h
  | p :: P, w :: vs, 0, m, nd, h1, h2, hk => by
    simp at h1 h2; subst h1; subst h2
    show bindC kindOf ((p, w) :: P.zip vs) m p = _
    unfold bindC
    rw [bindC_out fun v hv => (List.nodup_cons.mp nd).1 (List.of_mem_zip hv).1, if_neg hk]
    simp
  | p :: P, w :: vs, i + 1, m, nd, h1, h2, hk => by
    show bindC kindOf ((p, w) :: P.zip vs) m x = _
    unfold bindC
    exact bindC_get (i := i) (List.nodup_cons.mp nd).2 (by simpa using h1) (by simpa using h2) hk

def start (N : List Str) (vs : List V) : St := vs.map some ++ List.replicate (N.length - vs.length) none

def cxOf (CX : CXT) (P : Program) (w : World) (K : PySem.W.Frag) (mg : Str → Option Value) (base : Heap) (N : List Str) (qual : Str) (scope : Scope) (f : Addr) (cd : Value) (A : Around) (outer : List Env) (s : Shared) (H : Hp) (E : XK) : Cx where
  prog := P
  w := w
  K := K
  mg := mg
  base := base
  A := A.deeper (envOfC qual scope s.heap.objs.size f cd)
  N := N
  s₀ := s
  H₀ := H
  env := envOfC qual scope s.heap.objs.size f cd
  outer := outer
  stack := envOfC qual scope s.heap.objs.size f cd :: outer
  ex := []
  calm := true
  fn := fun _ => true
  pn := []
  xe := fun e s' => wpAny (model P w) (A.deeper (envOfC qual scope s.heap.objs.size f cd)) (leaving (envOfC qual scope s.heap.objs.size f cd) e) (fun _ s'' => CX outer H s E e s'') (fun e' s'' => CX outer H s E e' s'') s'

theorem cell_has {sc : Scope} {n : Nat} {x : Str} (h : sc.names.lookup x = some .cell) : ∃ c, (cellsFrom n sc.names []).lookup x = some c := by
  have q := PySem.W.cellsFrom_some sc.names n [] (.inl h)
  exact Option.isSome_iff_exists.mp q

theorem inv_start {CX : CXT} {P : Program} {w : World} {K : PySem.W.Frag} {mg : Str → Option Value} {base : Heap} {N ps : List Str} {qual : Str} {scope : Scope} {f : Addr} {cd : Value} {A : Around} {outer : List Env} {s s1 : Shared} {H : Hp} {E : XK} {us : List Value} {vs : List V}
    (S : FnScope N ps scope) (hd : A.handled = none) (e0 : Env0 P w K mg base A outer s H) (hl : vs.length = ps.length) (r : Vals vs us)
    (x : InCallC s s.heap.objs.size (bindL (envOfC qual scope s.heap.objs.size f cd).kindOf (ps.zip us) fun _ => none) (cellsFrom (s.heap.objs.size + 1) scope.names []) (bindC (envOfC qual scope s.heap.objs.size f cd).kindOf (ps.zip us) fun _ => none) s1) :
    Inv (cxOf CX P w K mg base N qual scope f cd A outer s H E) [] (start N vs) H s1 := by
  have hpl : ps.length ≤ N.length := by have := congrArg List.length S.pre; rw [List.length_take] at this; omega
  obtain ⟨h1, tk, rfl, hk⟩ := x.done
  have noA : ∀ b : Addr, b ∉ (cxOf CX P w K mg base N qual scope f cd A outer s H E).ex := fun b z => absurd (show b ∈ ([] : List Addr) from z) (by simp)
  refine ⟨⟨e0.mod, S.kind, rfl, rfl, Nat.le_refl _, fun y z c h1 h2 => ?_, fun y hy => ?_, fun y c _ h => ?_, fun _ => hd, Around.frames_deeper e0.frames, .inr ⟨rfl, rfl⟩, fun b z => absurd z (noA b), e0.bs, e0.bsz, fun b _ _ => noA b, fun b z => absurd z (noA b), e0.funs, e0.frf⟩,
    rfl, e0.bare, Un.kept hk, ⟨_, x.toInCall.ns, fun i y v h1 h2 h3 => ?_⟩, fun y c h => ⟨_, x.cell y c h⟩, e0.hok.fresh (Nat.le_refl _), fun y c h => ?_, fun p hp => absurd (show p ∈ ([] : List (Addr × Obj)) from hp) (by simp), e0.hok.kept hk, ?_⟩
  · exact name_of_addr x.apart (PySem.mem_of_lookup h1) (PySem.mem_of_lookup h2)
  · have hy : scope.names.lookup y = some .cell ∨ scope.names.lookup y = some .free := hy
    rcases hy with hy | hy
    · exact cell_has hy
    · exact absurd rfl (S.nofree _ (PySem.mem_of_lookup hy))
  · exact Nat.le_of_lt (x.above y c (PySem.mem_of_lookup h))
  · have hi : i < vs.length := by
      unfold start at h2
      by_cases hi : i < vs.length
      · exact hi
      · rw [List.getElem?_append_right (by simpa using hi)] at h2
        rw [List.getElem?_replicate] at h2
        split at h2 <;> cases h2
    have ha : vs[i]? = some v := by
      unfold start at h2
      rw [List.getElem?_append_left (by simpa using hi), List.getElem?_map] at h2
      cases e : vs[i]? with
      | none => rw [e] at h2; cases h2
      | some a => rw [e] at h2; cases h2; rfl
    obtain ⟨u, hu, rv⟩ := r.get ha
    have hp : ps[i]? = some y := by
      rw [← S.pre, List.getElem?_take_of_lt (by omega)]; exact h1
    have ndP : ps.Nodup := by rw [← S.pre]; exact S.nd.sublist (List.take_sublist _ _)
    refine ⟨u, rv, ?_⟩
    rcases S.par y (List.mem_of_getElem? hp) with k | k
    · exact .inl ⟨k, bindL_get ndP hp hu k⟩
    · obtain ⟨c, e⟩ := cell_has (n := s.heap.objs.size + 1) k
      refine .inr ⟨.inl k, c, e, ?_⟩
      have q := x.cell y c e
      rw [bindC_get ndP hp hu (by show scope.names.lookup y ≠ _; rw [k]; decide)] at q
      exact q
  · exact e0.hok.fresh (Nat.le_of_lt (x.above y c (PySem.mem_of_lookup h)))
  · unfold start
    show _ = N.length
    rw [List.length_append, List.length_map, List.length_replicate]
    omega

theorem fn_of {CX : CXT} {P : Program} {w : World} {K : PySem.W.Frag} {mg : Str → Option Value} {base : Heap} {k : Nat} {f : Addr} {name qual : Str} {params : Arguments} {body : List Stmt} {scope : Scope} {dV kV doc pm cdv ct oc : Value} {an od : Option Addr}
    {osl : Array (Option Value)} {N ps : List Str} {sp : Sp} (lk : K.lookup f = some ⟨oc, od, .func (PySem.W.fnOf name qual params body scope dV kV doc pm an cdv ct), osl⟩) (hcd : PySem.W.codeIn K cdv qual = true) (S : FnScope N ps scope)
    (len : ∀ vs H Q E, sp vs H Q E → vs.length = ps.length)
    (hbody : ∀ (A : Around) (outer : List Env) (s : Shared) (H : Hp) (vs : List V) (Q : VK) (E : XK), Room k (A.deeper (envOfC qual scope s.heap.objs.size f cdv)) → sp vs H Q E →
      ∃ t, PSs (cxOf CX P w K mg base N qual scope f cdv A outer s H E) body t ∧ t { nx := fun _ H' => Q .non H', rt := Q } (start N vs) H) :
    FnOk P w K mg base CX (k + 1) f (PySem.W.fnOf name qual params body scope dV kV doc pm an cdv ct) ps sp := by
  refine ⟨len, fun A outer s H args us vs Q E hr e0 hb r hsp => ?_⟩
  have hl := len _ _ _ _ hsp
  have KX : K.In s.heap := e0.mod.kin.keeps fun b o e => (e0.bs b o e).1
  have lim : s.heap.NoLimit := e0.mod.nolimit.keeps fun b o e => (e0.bs b o e).1
  have hkind : ∀ y ∈ ps.zip us, scope.names.lookup y.1 = some .local ∨ (scope.names.lookup y.1 = some .cell ∧ ((cellsFrom (s.heap.objs.size + 1) scope.names []).lookup y.1).isSome = true) := fun ⟨n, v⟩ hy => by
    rcases S.par n (List.of_mem_zip hy).1 with q | q
    · exact .inl q
    · exact .inr ⟨q, PySem.W.cellsFrom_some _ _ _ (.inl q)⟩
  refine codeAny_call_function hr.depth (KX _ _ lk) rfl S.co S.gen rfl (PySem.W.codeRec_of KX hcd) (hb _ _ _ _ ?_)
  refine wpAny_newFunctionEnv_cells S.kind hkind fun env he s1 x => ?_
  subst he
  refine ⟨lim.keeps x.toInCall.keep, codeAny_func ?_⟩
  obtain ⟨t, ht, hq⟩ := hbody A outer s H vs Q E (hr.deeper _) hsp
  have I : Inv (cxOf CX P w K mg base N qual scope f cdv A outer s H E) [] (start N vs) H s1 := inv_start S hr.hd e0 hl r x
  refine wpAny_mono (ht [] s1 (start N vs) H _ I hq) (fun fl s' hs => ?_) fun e s' hs => hs
  have fin : ∀ {σ' : St} {H' : Hp} {v : V} {u : Value}, Inv (cxOf CX P w K mg base N qual scope f cdv A outer s H E) [] σ' H' s' → RelV v u → Q v H' → CE outer P w H s Q u s' :=
    fun {σ' H' v u} J rv q => ⟨v, H', J.os, J.bare, J.base, J.hok, rv, q⟩
  cases fl with
  | ret u =>
    obtain ⟨v, σ', H', J, rv, q⟩ := hs
    exact fin J rv q
  | next =>
    obtain ⟨σ', H', J, q⟩ := hs
    exact fin (v := V.non) (u := Value.none) J rfl q
  | brk =>
    obtain ⟨_, _, _, q⟩ := hs
    exact False.elim q
  | cont =>
    obtain ⟨_, _, _, q⟩ := hs
    exact False.elim q
end L2

namespace L2
open PySem PySem.Spec PyProof.Rows
section
variable {X : Cx} {x : Str} {p pos : Pos} {e : Expr} {es : List Expr} {t : TA} {id T : String} {r : List V → Hp → VK → Prop}

def tCB (r : List V → Hp → VK → Prop) (t : TA) : TE := fun σ H Q => t σ H fun vs H1 => r vs H1 Q
theorem pe_callB (hc : CallR X (.builtin id) r) (hg : Gl X x) (hm : X.mg x = none) (hv : bootBuiltins x = some (.builtin id)) (ha : PA X (e :: es) t) (hn : x ≠ "__name__" := by decide) (hdb : (x == ("__debug__" : Str)) = false := by decide)
    (he : starEach (e :: es) X.env = (false, eval e X.env) :: starEach es X.env := by rfl) (hpl : (backTo pos (starEach es X.env)).any (·.1) = false := by rfl) : PE X (.Call (.Name x p) (e :: es) [] pos) (tCB r t) := by
  intro pins s σ H Q I h
  refine wpAny_Call_Name_kw (ld_blt I hg hm hv ?_ hn hdb)
  exact PyProof.Rows.callWith_builtin1 (thn (ha pos pins s σ H _ I h) fun us s1 ⟨vs, H1, I1, r1, q1⟩ => hc pins s1 σ H1 vs us Q I1 r1 q1) he hpl
theorem pe_callTy (hc : CallR X (.type T) r) (hg : Gl X x) (hm : X.mg x = none) (hv : bootBuiltins x = some (.type T)) (ha : PA X (e :: es) t) (hn : x ≠ "__name__" := by decide) (hdb : (x == ("__debug__" : Str)) = false := by decide)
    (he : starEach (e :: es) X.env = (false, eval e X.env) :: starEach es X.env := by rfl) (hpl : (backTo pos (starEach es X.env)).any (·.1) = false := by rfl) : PE X (.Call (.Name x p) (e :: es) [] pos) (tCB r t) := by
  intro pins s σ H Q I h
  refine wpAny_Call_Name_kw (ld_blt I hg hm hv ?_ hn hdb)
  exact PyProof.Rows.callWith_type1 (thn (ha pos pins s σ H _ I h) fun us s1 ⟨vs, H1, I1, r1, q1⟩ => hc pins s1 σ H1 vs us Q I1 r1 q1) he hpl
end
end L2

namespace HT
open PySem PyProof.Rows

section
open PySem.SeqAt
open PySem.AutoSeq1 (wpAny_loadPart')
open PySem.MeetsSeq PySem.MeetsSeq2 PySem.MeetsSeq3

end

section
variable {prog : Program} {w : World} {A : Around} {E : Value → Shared → Prop} {s : Shared}

def sIx (n d : Nat) : Option Int → Nat
  | none => d
  | some v => if v < 0 then (v + (n : Int)).toNat else min v.toNat n
theorem sIx_none (n d : Nat) : sIx n d none = d := rfl
theorem sIx_nat (n d k : Nat) : sIx n d (some (k : Int)) = min k n := by
  show (if (k : Int) < 0 then ((k : Int) + (n : Int)).toNat else min (k : Int).toNat n) = min k n
  rw [if_neg (by omega), Int.toNat_natCast]
theorem sIx_le (n d : Nat) (hd : d ≤ n) (o : Option Int) : sIx n d o ≤ n := by
  cases o with
  | none => exact hd
  | some v =>
    show (if v < 0 then (v + (n : Int)).toNat else min v.toNat n) ≤ n
    by_cases hv : v < 0
    · rw [if_pos hv]; omega
    · rw [if_neg hv]; exact Nat.min_le_right _ _
theorem clip_eq (v : Int) (n d : Nat) : (if v < 0 then max (v + (n : Int)) 0 else min v (n : Int)) = ((sIx n d (some v) : Nat) : Int) := by
  show (if v < 0 then max (v + (n : Int)) 0 else min v (n : Int)) = (((if v < 0 then (v + (n : Int)).toNat else min v.toNat n) : Nat) : Int)
  by_cases hv : v < 0
  · simp only [if_pos hv]; omega
  · simp only [if_neg hv]; omega
end
end HT

namespace L2
open PySem PySem.Spec PyProof.Rows

abbrev TO := St → Hp → (Option Int → Hp → Prop) → Prop
def PO (X : Cx) (e : Option Expr) (t : TO) : Prop :=
  ∀ (pins : List (Addr × Obj)) (s : Shared) (σ : St) (H : Hp) (Q : Option Int → Hp → Prop), Inv X pins σ H s → t σ H Q →
    wpAny (model X.prog X.w) X.A (evalPart e X.env) (fun u s' => ∃ o H', Inv X pins σ H' s' ∧ IsPart u o ∧ Q o H') X.xe s
def tNoPart : TO := fun _ H Q => Q none H
def tPart (t : TE) : TO := fun σ H Q => t σ H fun x H1 => ∃ i, x = .int i ∧ Q (some i) H1

section
variable {X : Cx} {e : Expr} {te : TE} {lo hi : Option Expr} {tl th : TO} {pos p2 : Pos}

theorem po_none : PO X none tNoPart := by
  intro pins s σ H Q I h
  rw [evalPart_none]
  exact wpAny_pure ⟨none, H, I, .none, h⟩
theorem po_some (h : PE X e te) : PO X (some e) (tPart te) := by
  intro pins s σ H Q I hw
  rw [evalPart_some]
  refine thn (h pins s σ H _ I hw) fun u s1 ⟨x, H1, I1, r1, q1⟩ => ?_
  obtain ⟨i, rfl, q⟩ := q1
  obtain ⟨t, rfl⟩ := r1
  exact ⟨some i, H1, I1, .int i t, q⟩

def SlR (X : Cx) (r : V → Option Int → Option Int → Hp → VK → Prop) : Prop :=
  ∀ (pins : List (Addr × Obj)) (s : Shared) (σ : St) (H : Hp) (x : V) (v vl vu : Value) (lo hi : Option Int) (sl : Addr) (Q : VK), Inv X pins σ H s → RelV x v → s.heap.IsSliceOf sl vl vu .none → IsPart vl lo → IsPart vu hi → r x lo hi H Q →
    ∃ T id, typeLookup (.type T) "__getitem__" = pure (some (.builtin id)) ∧ s.TypeIs v T ∧ wpAny (model X.prog X.w) X.A (getItem v (.ref sl)) (EP X pins σ Q) X.xe s
def tSl (r : V → Option Int → Option Int → Hp → VK → Prop) (te : TE) (tl th : TO) : TE := fun σ H Q => te σ H fun x H1 => tl σ H1 fun l H2 => th σ H2 fun u H3 => r x l u H3 Q
theorem pe_slice {r : V → Option Int → Option Int → Hp → VK → Prop} (hr : SlR X r) (he : PE X e te) (hl : PO X lo tl) (hu : PO X hi th) : PE X (.Subscript e (.Slice lo hi none p2) pos) (tSl r te tl th) := by
  intro pins s σ H Q I h
  refine Subscript_ (thn (he pins s σ H _ I h) fun v s1 ⟨x, H1, I1, r1, q1⟩ => ?_)
  refine wpAny_Slice (thn (hl pins s1 σ H1 _ I1 q1) fun vl s2 ⟨l, H2, I2, pl, q2⟩ => thn (hu pins s2 σ H2 _ I2 q2) fun vu s3 ⟨u, H3, I3, pu, q3⟩ => ?_)
  rw [evalPart_none]
  refine wpAny_pure ?_
  have I4 : Inv X pins σ H3 { s3 with heap := s3.heap.push { cls := .type "slice", data := .fields #[vl, vu, .none] } } := I3.kept (t' := s3.toks) fun b ob q => Heap.get?_push_of_some _ q
  obtain ⟨T, id, hT, ht, hg⟩ := hr pins { s3 with heap := s3.heap.push { cls := .type "slice", data := .fields #[vl, vu, .none] } } σ H3 x v vl vu l u s3.heap.objs.size Q I4 r1 (Heap.IsSliceOf.new ..) pl pu q3
  show wpAny (model X.prog X.w) X.A (subscriptTail e (.Slice lo hi none p2) v (.ref s3.heap.objs.size)) (EP X pins σ Q) X.xe { s3 with heap := s3.heap.push { cls := .type "slice", data := .fields #[vl, vu, .none] } }
  exact tail_any (ops := [.ref s3.heap.objs.size, v]) ht hT hg (by with_unfolding_all rfl)

def cutV (xs : List V) (lo hi : Option Int) : List V := (xs.drop (HT.sIx xs.length 0 lo)).take (HT.sIx xs.length xs.length hi - HT.sIx xs.length 0 lo)
theorem cutV_length (xs : List V) (lo hi : Option Int) : (cutV xs lo hi).length ≤ xs.length := by
  unfold cutV
  rw [List.length_take, List.length_drop]
  omega
end
end L2

namespace L2
open PySem PySem.Spec PyProof.Rows

def ixN (n : Nat) (i : Int) : Option Nat := if 0 ≤ i then (if i < n then some i.toNat else none) else if -(n : Int) ≤ i then some (i + n).toNat else none
def atI {α : Type} (xs : List α) (i : Int) : Option α := (ixN xs.length i).bind fun j => xs[j]?
theorem ixN_seq {n : Nat} {i : Int} {j : Nat} (h : ixN n i = some j) : seqIndex? i n = some j ∧ j < n ∧ -(n : Int) ≤ i ∧ i < n := by
  unfold ixN at h
  by_cases h0 : 0 ≤ i
  · rw [if_pos h0] at h
    by_cases h1 : i < n
    · rw [if_pos h1] at h
      have e : i.toNat = j := Option.some.inj h
      exact ⟨by rw [seqIndex_of h0 h1, e], by omega, by omega, h1⟩
    · rw [if_neg h1] at h; cases h
  · rw [if_neg h0] at h
    by_cases h1 : -(n : Int) ≤ i
    · rw [if_pos h1] at h
      have e : (i + n).toNat = j := Option.some.inj h
      exact ⟨by rw [seqIndex_neg (by omega) h1, e], by omega, h1, by omega⟩
    · rw [if_neg h1] at h; cases h
theorem atI_get {α : Type} {xs : List α} {i : Int} {v : α} (h : atI xs i = some v) : ∃ j, seqIndex? i xs.length = some j ∧ xs[j]? = some v ∧ j < xs.length ∧ -(xs.length : Int) ≤ i ∧ i < xs.length := by
  unfold atI at h
  cases e : ixN xs.length i with
  | none => rw [e] at h; cases h
  | some j =>
    rw [e] at h
    obtain ⟨h1, h2, h3, h4⟩ := ixN_seq e
    exact ⟨j, h1, h, h2, h3, h4⟩
theorem atI_nat {α : Type} {xs : List α} {j : Nat} {v : α} (h : xs[j]? = some v) : atI xs (j : Int) = some v := by
  have hj : j < xs.length := (List.getElem?_eq_some_iff.mp h).1
  have e : ixN xs.length (j : Int) = some j := by
    unfold ixN
    rw [if_pos (by omega), if_pos (by omega)]; simp
  unfold atI; rw [e]; exact h
def PlainIx (b : Expr) : Prop := ∀ o i, subscripted b false o i = operate [o, i] (getItem o i)
def IxR (X : Cx) (r : R2) : Prop :=
  ∀ (value slice : Expr) (pins : List (Addr × Obj)) (s : Shared) (σ : St) (H : Hp) (x y : V) (v u : Value) (Q : VK), Inv X pins σ H s → RelV x v → RelV y u → r x y H Q →
    subscripted slice false v u = operate [v, u] (getItem v u) → wpAny (model X.prog X.w) X.A (subscriptTail value slice v u) (EP X pins σ Q) X.xe s
def MtR (X : Cx) (id : String) (r : V → List V → Hp → VK → Prop) : Prop :=
  ∀ (pins : List (Addr × Obj)) (s : Shared) (σ : St) (H : Hp) (x : V) (xs : List V) (v : Value) (us : List Value) (Q : VK), Inv X pins σ H s → RelV x v → Vals xs us → r x xs H Q →
    wpAny (model X.prog X.w) X.A (call (.builtin id) (v :: us)) (EP X pins σ Q) X.xe s
section
variable {X : Cx} {a b : Expr} {ta tb : TE} {pos : Pos}
theorem pe_ix {r : R2} (hr : IxR X r) (ha : PE X a ta) (hb : PE X b tb) (hs : PlainIx b) : PE X (.Subscript a b pos) (tOp r ta tb) := by
  intro pins s σ H Q I h
  exact Subscript_ (binT ha hb I h fun v u s2 x y H2 I2 rx ry q => hr a b pins s2 σ H2 x y v u Q I2 rx ry q (hs _ _))

def rIxL (K : PySem.W.Frag) : R2 := fun x y H Q => ∃ p xs i v, x = .ref p ∧ y = .int i ∧ SqL K H p xs ∧ atI xs i = some v ∧ Q v H
def rIxS : R2 := fun x y H Q => ∃ z i c, x = .str z ∧ y = .int i ∧ z.length ≤ sizeLine ∧ atI z.cps.toList i = some c ∧ Q (.str ⟨#[c]⟩) H
theorem ix_list : IxR X (rIxL X.K) := by
  intro value slice pins s σ H x y v u Q I rx ry h hs
  obtain ⟨p, xs, i, z, rfl, rfl, hq, he, q⟩ := h
  cases rx
  obtain ⟨t, rfl⟩ := ry
  obtain ⟨its, r, pl, hz⟩ := I.list hq
  obtain ⟨j, h1, h2, h3, h4, h5⟩ := atI_get he
  obtain ⟨w, ew, rw'⟩ := r.get h2
  have hl := r.length
  have hn := line63
  have fin : EP X pins σ Q w s := ⟨z, H, I, rw', q⟩
  by_cases h0 : 0 ≤ i
  · have hj : i.toNat = j := by
      rw [seqIndex_of h0 h5] at h1
      exact Option.some.inj h1
    exact item_listR pl.isList h0 (by omega) (by rw [hj]; simpa using ew) fin hs
  · have hj : (i + (its.toArray.size : Int)).toNat = j := by
      rw [seqIndex_neg (by omega) h4] at h1
      rw [List.size_toArray, ← hl]
      exact Option.some.inj h1
    exact subscriptTail_builtinR (x := w) pl.isList.typeIs slot_list_getitem.lookup
      (wpAny_getItem_list_neg (Q := fun r s' => r = w ∧ EP X pins σ Q r s') pl.isList (by omega) (by rw [List.size_toArray] <;> omega) (by omega) (by rw [hj]; simpa using ew) ⟨rfl, fin⟩) hs
theorem ix_str : IxR X rIxS := by
  intro value slice pins s σ H x y v u Q I rx ry h hs
  obtain ⟨z, i, c, rfl, rfl, hz, he, q⟩ := h
  obtain ⟨t, rfl⟩ := rx
  obtain ⟨t', rfl⟩ := ry
  obtain ⟨j, h1, h2, h3, h4, h5⟩ := atI_get he
  have hl : z.cps.toList.length = z.length := by simp [Str.length]
  rw [hl] at h1 h4 h5
  have hn := line63
  exact tail_any (typeIs_str s z t) slot_str_getitem.lookup (getItem_str (c := c) (by
    have e1 : decide (i < -(2 ^ 63 : Int)) = false := decide_eq_false (by omega)
    have e2 : decide (i ≥ 2 ^ 63) = false := decide_eq_false (by omega)
    rw [e1, e2, Bool.or_false]) (by rw [h1]; simpa using h2) ⟨.str ⟨#[c]⟩, H, I.tok _, ⟨_, rfl⟩, q⟩) hs
theorem slice_bounds (lo hi : Option Int) (n : Nat) : (sliceBounds lo hi none n).1 = ((HT.sIx n 0 lo : Nat) : Int) ∧ (sliceBounds lo hi none n).2.1 = ((HT.sIx n n hi : Nat) : Int) ∧ (sliceBounds lo hi none n).2.2 = 1 := by
  refine ⟨?_, ?_, rfl⟩
  · cases lo with
    | none => simp [sliceBounds, HT.sIx]
    | some i =>
      simp only [sliceBounds, HT.sIx, Option.getD_none, show (1 : Int) > 0 by decide, if_true]
      by_cases h : i < 0
      · simp only [h, if_true] <;> omega
      · simp only [h, if_false] <;> omega
  · cases hi with
    | none => simp [sliceBounds, HT.sIx]
    | some i =>
      simp only [sliceBounds, HT.sIx, Option.getD_none, show (1 : Int) > 0 by decide, if_true]
      by_cases h : i < 0
      · simp only [h, if_true] <;> omega
      · simp only [h, if_false] <;> omega
theorem slicePick_cut (its : List Value) (lo hi : Option Int) : slicePick its.toArray lo hi none = ((its.drop (HT.sIx its.length 0 lo)).take (HT.sIx its.length its.length hi - HT.sIx its.length 0 lo)).toArray := by
  obtain ⟨h1, h2, h3⟩ := slice_bounds lo hi its.toArray.size
  unfold slicePick
  rw [h1, h2, h3]
  simp only [sliceRange_one, pick_run, List.size_toArray] <;> rfl
def rSlL (K : PySem.W.Frag) : V → Option Int → Option Int → Hp → VK → Prop := fun x lo hi H Q => ∃ a xs, x = .ref a ∧ SqL K H a xs ∧ ∀ p, H p = none → Q (.ref p) (upd H p (.lst (cutV xs lo hi)))
theorem sl_list : SlR X (rSlL X.K) := by
  intro pins s σ H x v vl vu lo hi sl Q I rx hs pl pu h
  obtain ⟨a, xs, rfl, hx, q⟩ := h
  cases rx
  obtain ⟨its, r, ht, hz⟩ := I.list hx
  have hlen := r.length
  refine ⟨"list", _, slot_list_getitem.lookup, ht.isList.typeIs, ?_⟩
  refine wpAny_getItem_list_slice ht.isList hs pl pu .none (by simp) ?_ (by rw [List.size_toArray] <;> omega)
  rw [slicePick_cut, ← hlen]
  refine ⟨.ref s.heap.objs.size, _, I.laid (t' := s.toks) (o := .lst (cutV xs lo hi)) (fun b ob q => Heap.get?_push_of_some _ q) (Nat.le_refl _) ?_, rfl, q _ (I.hok.fresh (Nat.le_refl _))⟩
  exact ⟨Nat.le_trans (cutV_length xs lo hi) hz, _, 0, (r.drop (HT.sIx xs.length 0 lo)).take (HT.sIx xs.length xs.length hi - HT.sIx xs.length 0 lo), Heap.get?_push_size _ rfl⟩

def flatV : V → Bool
  | .non => true
  | .bl _ => true
  | .int _ => true
  | .str _ => true
  | _ => false
def eqV : V → V → Bool
  | .non, .non => true
  | .bl a, .bl b => a == b
  | .bl a, .int b => (if a then 1 else 0) == b
  | .int a, .bl b => a == (if b then 1 else 0)
  | .int a, .int b => a == b
  | .str a, .str b => a == b
  | _, _ => false
theorem eqAt_V {A : Around} {s : Shared} {y x : V} {u v : Value} (ry : RelV y u) (rx : RelV x v) (fy : flatV y = true) (fx : flatV x = true) : SeqAt.EqAt A s u v (eqV y x) := by
  cases y with
  | non =>
    cases ry
    cases x with
    | non => cases rx; exact SeqAt.EqAt.same _
    | bl b => cases rx; exact SeqAt.EqAt.none_bool b
    | int b => obtain ⟨t, rfl⟩ := rx; exact SeqAt.EqAt.none_int b t
    | str b => obtain ⟨t, rfl⟩ := rx; exact SeqAt.EqAt.none_str b t
    | _ => exact absurd (show false = true from fx) Bool.false_ne_true
  | bl a =>
    cases ry
    cases x with
    | non => cases rx; exact SeqAt.EqAt.bool_none a
    | bl b => cases rx; exact SeqAt.EqAt.bool_bool a b
    | int b => obtain ⟨t, rfl⟩ := rx; exact SeqAt.EqAt.bool_int a b t
    | str b => obtain ⟨t, rfl⟩ := rx; exact SeqAt.EqAt.bool_str a b t
    | _ => exact absurd (show false = true from fx) Bool.false_ne_true
  | int a =>
    obtain ⟨t', rfl⟩ := ry
    cases x with
    | non => cases rx; exact SeqAt.EqAt.int_none a t'
    | bl b => cases rx; exact SeqAt.EqAt.int_bool a t' b
    | int b => obtain ⟨t, rfl⟩ := rx; exact SeqAt.EqAt.int_int a t' b t
    | str b => obtain ⟨t, rfl⟩ := rx; exact SeqAt.EqAt.int_str a t' b t
    | _ => exact absurd (show false = true from fx) Bool.false_ne_true
  | str a =>
    obtain ⟨t', rfl⟩ := ry
    cases x with
    | non => cases rx; exact SeqAt.EqAt.str_none a t'
    | bl b => cases rx; exact SeqAt.EqAt.str_bool a t' b
    | int b => obtain ⟨t, rfl⟩ := rx; exact SeqAt.EqAt.str_int a t' b t
    | str b => obtain ⟨t, rfl⟩ := rx; exact SeqAt.EqAt.str_str a t' b t
    | _ => exact absurd (show false = true from fx) Bool.false_ne_true
  | _ => exact absurd (show false = true from fy) Bool.false_ne_true
def eqU (x : V) (u : Value) : Bool := match u with
  | .none => eqV .non x
  | .bool b => eqV (.bl b) x
  | .int i _ => eqV (.int i) x
  | .str z _ => eqV (.str z) x
  | _ => false
theorem eqU_of {x y : V} {u : Value} (r : RelV y u) (f : flatV y = true) : eqU x u = eqV y x := by
  cases y with
  | non => cases r; rfl
  | bl b => cases r; rfl
  | int i => obtain ⟨t, rfl⟩ := r; rfl
  | str z => obtain ⟨t, rfl⟩ := r; rfl
  | _ => exact absurd (show false = true from f) Bool.false_ne_true
theorem any_eqU {x : V} : ∀ {xs : List V} {us : List Value}, Vals xs us → xs.all flatV = true → us.any (eqU x) = xs.any fun y => eqV y x
  | _, _, .nil, _ => rfl
  | y :: xs, u :: us, .cons r t, f => by
    rw [List.all_cons, Bool.and_eq_true] at f
    rw [List.any_cons, List.any_cons, eqU_of r f.1, any_eqU t f.2]
theorem mem_eqAt {A : Around} {s : Shared} {x : V} {v : Value} (rx : RelV x v) (fx : flatV x = true) : ∀ {xs : List V} {us : List Value}, Vals xs us → xs.all flatV = true → ∀ u ∈ us, SeqAt.EqAt A s u v (eqU x u)
  | _, _, .nil, _ => fun u hu => by cases hu
  | y :: xs, u :: us, .cons r t, f => fun u' hu => by
    rw [List.all_cons, Bool.and_eq_true] at f
    rcases List.mem_cons.mp hu with rfl | hu
    · rw [eqU_of r f.1]; exact eqAt_V r rx f.1 fx
    · exact mem_eqAt rx fx t f.2 u' hu
def inV (x : V) (xs : List V) : Bool := xs.any fun y => eqV y x
def rIn (K : PySem.W.Frag) (neg : Bool) : R2 := fun x y H Q => ∃ p xs, y = .ref p ∧ (SqL K H p xs ∨ SqT K H p xs) ∧ flatV x = true ∧ xs.all flatV = true ∧ Q (.bl (if neg then !inV x xs else inV x xs)) H
theorem op_notIn_seq : OpR X (compareOp .NotIn) (rIn X.K true) := by
  intro pins s σ H x y v u Q I rx ry h
  obtain ⟨p, xs, rfl, hq, fx, fs, q⟩ := h
  cases ry
  rcases hq with hq | hq
  · obtain ⟨its, r, pl, hz⟩ := I.list hq
    refine SeqAt.notIn_listAt (eqU x) pl.isList (fun w hw => mem_eqAt rx fx r fs w (by simpa using hw)) ⟨.bl _, H, I, rfl, ?_⟩
    rw [show its.toArray.any (eqU x) = its.any (eqU x) by simp, any_eqU r fs]
    exact q
  · obtain ⟨its, r, pl, hz⟩ := I.tuple hq
    refine SeqAt.notIn_tupleAt (eqU x) pl (fun w hw => mem_eqAt rx fx r fs w (by simpa using hw)) ⟨.bl _, H, I, rfl, ?_⟩
    rw [show its.toArray.any (eqU x) = its.any (eqU x) by simp, any_eqU r fs]
    exact q
theorem call_len_seq : CallR X (.builtin "len") (fun xs H Q => ∃ p ys, xs = [.ref p] ∧ (SqL X.K H p ys ∨ SqT X.K H p ys) ∧ Q (.int ys.length) H) := by
  intro pins s σ H xs us Q I r h
  obtain ⟨p, ys, rfl, hq, q⟩ := h
  obtain ⟨u, rfl, rx⟩ := vals1 r
  cases rx
  have hn := line63
  rcases hq with hq | hq
  · obtain ⟨its, r', pl, hz⟩ := I.list hq
    have hlen := r'.length
    exact Calls.call_len_list pl.isList (by simp only [List.size_toArray] <;> omega) ⟨.int ys.length, H, I.tok _, ⟨s.toks + 1, by rw [List.size_toArray, hlen]⟩, q⟩
  · obtain ⟨its, r', pl, hz⟩ := I.tuple hq
    have hlen := r'.length
    exact len_tuple pl (by simp only [List.size_toArray] <;> omega) ⟨.int ys.length, H, I.tok _, ⟨s.toks + 1, by rw [List.size_toArray, hlen]⟩, q⟩
theorem call_len_str : CallR X (.builtin "len") (fun xs H Q => ∃ z, xs = [.str z] ∧ z.length ≤ sizeLine ∧ Q (.int z.length) H) := by
  intro pins s σ H xs us Q I r h
  obtain ⟨z, rfl, hz, q⟩ := h
  obtain ⟨u, rfl, t, rfl⟩ := vals1 r
  have hn := line63
  exact len_str (by omega) ⟨.int z.length, H, I.tok _, ⟨_, rfl⟩, q⟩
theorem call_list_of : CallR X (.type "list") (fun xs H Q => ∃ p ys, xs = [.ref p] ∧ (SqL X.K H p ys ∨ SqT X.K H p ys) ∧ ∀ l, H l = none → Q (.ref l) (upd H l (.lst ys))) := by
  intro pins s σ H xs us Q I r h
  obtain ⟨p, ys, rfl, hq, q⟩ := h
  obtain ⟨u, rfl, rx⟩ := vals1 r
  cases rx
  have fin : ∀ (its : List Value), Vals ys its → ys.length ≤ sizeLine → ∀ (h' : Heap) (c' : Nat), (∀ b o', s.heap.get? b = some o' → h'.get? b = some o') →
      h'.get? s.heap.objs.size = some { cls := .type "list", dict := none, data := .seq its.toArray c', slots := #[] } → EP X pins σ Q (.ref s.heap.objs.size) { s with heap := h' } := fun its r' hz h' c' kp e =>
    ⟨.ref s.heap.objs.size, _, I.laid (t' := s.toks) kp (Nat.le_refl _) (show ObjOk X.prog X.w _ h' _ (.lst ys) from ⟨hz, its, c', r', e⟩), rfl, q _ (I.hok.fresh (Nat.le_refl _))⟩
  rcases hq with hq | hq
  · obtain ⟨its, r', pl, hz⟩ := I.list hq
    have hlen := r'.length
    obtain ⟨o, ho, hc, n, hd⟩ := pl.isList
    exact call_list_seq p (.inl rfl) ho hc hd (fun h' c' kp e => fin its r' hz h' c' kp e) (by simp only [List.size_toArray] <;> omega)
  · obtain ⟨its, r', pl, hz⟩ := I.tuple hq
    have hlen := r'.length
    obtain ⟨o, ho, hc, n, hd⟩ := pl
    exact call_list_seq p (.inr rfl) ho hc hd (fun h' c' kp e => fin its r' hz h' c' kp e) (by simp only [List.size_toArray] <;> omega)
theorem call_tuple_of : CallR X (.type "tuple") (fun xs H Q => ∃ p ys, xs = [.ref p] ∧ ((SqL X.K H p ys ∧ ∀ l, H l = none → Q (.ref l) (upd H l (.tup ys))) ∨ (SqT X.K H p ys ∧ Q (.ref p) H))) := by
  intro pins s σ H xs us Q I r h
  obtain ⟨p, ys, rfl, h⟩ := h
  obtain ⟨u, rfl, rx⟩ := vals1 r
  cases rx
  rcases h with ⟨hq, q⟩ | ⟨hq, q⟩
  · obtain ⟨its, r', pl, hz⟩ := I.list hq
    have hlen := r'.length
    refine call_tuple_list pl.isList (fun h' kp => ?_) (by simp only [List.size_toArray] <;> omega)
    have I1 : Inv X pins σ H { s with heap := h' } := I.kept (t' := s.toks) kp
    have I2 : Inv X pins σ (upd H h'.objs.size (.tup ys)) { s with heap := h'.push { cls := .type "tuple", data := .seq its.toArray } } :=
      I1.laid (t' := s.toks) (fun b o e => Heap.get?_push_of_some _ e) (Nat.le_refl _) (show ObjOk X.prog X.w _ _ _ (.tup ys) from ⟨hz, its, r', IsTup.new _ _⟩)
    exact ⟨.ref h'.objs.size, _, I2, rfl, q _ (I1.hok.fresh (Nat.le_refl _))⟩
  · obtain ⟨its, r', pl, hz⟩ := I.tuple hq
    exact call_tuple_same pl ⟨.ref p, H, I, rfl, q⟩

def tyV (K : PySem.W.Frag) (T : String) (x : V) (H : Hp) : Prop := match x with
  | .str _ => T = "str"
  | .int _ => T = "int"
  | .ref p => (T = "list" ∧ ∃ xs, SqL K H p xs) ∨ (T = "tuple" ∧ ∃ o, K.lookup p = some o ∧ o.cls = .type "tuple" ∧ o.dict = none) ∨
      (T = "dict" ∧ ((∃ kvs, H p = some (.dK kvs)) ∨ ∃ kvs, H p = some (.dT kvs))) ∨ (T = "set" ∧ ∃ S n, H p = some (.set S n))
  | _ => False
theorem tyV_is {pins : List (Addr × Obj)} {σ : St} {H : Hp} {s : Shared} {T : String} {x : V} {v : Value} (I : Inv X pins σ H s) (r : RelV x v) (ty : tyV X.K T x H) :
    s.TypeIs v T ∧ ∀ a, v = .ref a → ∃ ob, s.heap.get? a = some ob ∧ ob.dict = none := by
  cases x with
  | str z =>
    obtain ⟨t, rfl⟩ := r
    cases (show T = "str" from ty)
    exact ⟨typeIs_str s z t, fun _ e => nomatch e⟩
  | int i =>
    obtain ⟨t, rfl⟩ := r
    cases (show T = "int" from ty)
    exact ⟨typeIs_int s i t, fun _ e => nomatch e⟩
  | ref p =>
    cases r
    rcases ty with ⟨rfl, xs, hq⟩ | ⟨rfl, o, hk, hc, hd⟩ | ⟨rfl, hk⟩ | ⟨rfl, S, n, hk⟩
    · obtain ⟨its, _, pl, _⟩ := I.list hq
      refine ⟨pl.isList.typeIs, fun a e => ?_⟩
      cases e
      obtain ⟨o, n, e, c, hd, _⟩ := pl
      exact ⟨o, e, hd⟩
    · refine ⟨⟨o, I.kIn p o hk, hc⟩, fun a e => ?_⟩
      cases e
      exact ⟨o, I.kIn _ o hk, hd⟩
    · have z : ∃ o, s.heap.get? p = some o ∧ o.ExactDict := by
        rcases hk with ⟨kvs, hk⟩ | ⟨kvs, hk⟩
        · obtain ⟨_, _, _, _, o, _, _, e, ex, _⟩ := I.hok p _ hk
          exact ⟨o, e, ex⟩
        · obtain ⟨_, _, _, _, o, _, _, e, ex, _⟩ := I.hok p _ hk
          exact ⟨o, e, ex⟩
      obtain ⟨o, e, ex⟩ := z
      refine ⟨⟨o, e, ex.1⟩, fun a e2 => ?_⟩
      cases e2
      exact ⟨o, e, ex.2.1⟩
    · obtain ⟨o, _, _, _, e, ex, _⟩ := I.hok p _ hk
      refine ⟨⟨o, e, ex.1⟩, fun a e2 => ?_⟩
      cases e2
      exact ⟨o, e, ex.2.1⟩
  | _ => exact False.elim ty
def tBM0 (K : PySem.W.Frag) (T : String) (r : V → List V → Hp → VK → Prop) (to : TE) : TE := fun σ H Q => to σ H fun x H1 => tyV K T x H1 ∧ r x [] H1 Q
def tBM (K : PySem.W.Frag) (T : String) (r : V → List V → Hp → VK → Prop) (to : TE) (t : TA) : TE := fun σ H Q => to σ H fun x H1 => tyV K T x H1 ∧ t σ H1 fun xs H2 => r x xs H2 Q
variable {o e : Expr} {es : List Expr} {to : TE} {t : TA} {name : Str} {apos cpos : Pos} {T id : String} {r : V → List V → Hp → VK → Prop}
theorem pe_bm0 (pa : PlainAttrs T) (slot : Slot T name id) (hty : typeOf (.builtin id) = pure (.type "method_descriptor")) (hm : MtR X id r) (ho : PE X o to)
    (hbase : attributeBase o name X.env (eval o X.env) = eval o X.env := by rfl) (hline : (apos.endLine == cpos.line) = true := by rfl) : PE X (.Call (.Attribute o name apos) [] [] cpos) (tBM0 X.K T r to) := by
  intro pins s σ H Q I h
  refine wpAny_Call_method0_late hbase hline (thn (ho pins s σ H _ I h) fun v s1 ⟨x, H1, I1, r1, ty, q1⟩ => ?_)
  obtain ⟨h1, h2⟩ := tyV_is I1 r1 ty
  exact ⟨T, id, pa, slot, hty, h1, h2, Calls.callWith_builtin rfl (PySem.evalArgs_none (hm pins s1 σ H1 x [] v [] Q I1 r1 .nil q1))⟩
theorem pe_bm (pa : PlainAttrs T) (slot : Slot T name id) (hty : typeOf (.builtin id) = pure (.type "method_descriptor")) (hm : MtR X id r) (ho : PE X o to) (ha : PA X (e :: es) t)
    (hbase : attributeBase o name X.env (eval o X.env) = eval o X.env := by rfl)
    (hfew : ((backTo cpos (starEach (e :: es) X.env)).all (fun x => !x.1) && (backToKw cpos (keywordEach [] X.env)).all (fun x => x.1.isSome)
      && decide ((e :: es).length + ([] : List Keyword).length + (if ([] : List Keyword).isEmpty then 0 else 1) < 30)) = true := by rfl)
    (hline : (apos.endLine == cpos.line) = true := by rfl) (hs : starEach (e :: es) X.env = (false, eval e X.env) :: starEach es X.env := by rfl) (hplain : (backTo cpos (starEach es X.env)).any (·.1) = false := by rfl) :
    PE X (.Call (.Attribute o name apos) (e :: es) [] cpos) (tBM X.K T r to t) := by
  intro pins s σ H Q I h
  refine wpAny_Call_method_late hbase hfew hline rfl (thn (ho pins s σ H _ I h) fun v s1 ⟨x, H1, I1, r1, ty, q1⟩ => ?_)
  obtain ⟨h1, h2⟩ := tyV_is I1 r1 ty
  refine ⟨T, id, pa, slot, hty, h1, h2, ?_⟩
  have hA := ha cpos pins s1 σ H1 _ I1 q1
  rw [hs] at hA ⊢
  refine Calls.callWith_builtin (by show (false || (backTo cpos (starEach es X.env)).any (·.1)) = false; rw [hplain] <;> rfl) (Calls.evalArgs_plain ?_)
  exact thn hA fun us s2 ⟨vs, H2, I2, r2, q2⟩ => hm pins s2 σ H2 x vs v us Q I2 r1 r2 q2
end
end L2

namespace L2
open PySem PySem.Spec PyProof.Rows

def MtM (X : Cx) (id : String) (r : V → List V → Hp → VK → Prop) : Prop :=
  ∀ (pins : List (Addr × Obj)) (s : Shared) (σ : St) (H : Hp) (x : V) (xs : List V) (v : Value) (us : List Value) (Q : VK), Inv X pins σ H s → RelV x v → Vals xs us → r x xs H Q →
    wpAny (model X.prog X.w) X.A (call (.builtin id) (v :: us)) (EP X pins σ Q) X.xe s

theorem Vals.one : ∀ {x : V} {us : List Value}, Vals [x] us → ∃ u, us = [u] ∧ RelV x u
  | _, _, .cons r .nil => ⟨_, rfl, r⟩
theorem Vals.zero : ∀ {us : List Value}, Vals [] us → us = []
  | _, .nil => rfl
section
variable {X : Cx} {pins : List (Addr × Obj)} {σ : St} {H : Hp} {s : Shared} {l b : Addr} {xs ys zs : List V}

theorem Inv.lset {its its' : List Value} {n : Nat} {f : Array Value → Array Value} {t' : Nat} (I : Inv X pins σ H s) (hH : H l = some (.lst xs))
    (e : s.heap.get? l = some { cls := .type "list", data := .seq its.toArray n }) (hf : f its.toArray = its'.toArray) (hv : Vals ys its') (hz : ys.length ≤ sizeLine) :
    Inv X pins σ (upd H l (.lst ys)) { s with heap := s.heap.update l (Obj.mapSeq f), toks := t' } := by
  have q := PySem.IsL.update e f
  rw [hf] at q
  refine I.write (x := l) (e := l) (by rw [hH]; exact trivial) (.inl rfl) (fun b' u hb hu => (Heap.get?_update_other s.heap (Obj.mapSeq f) (Ne.symm hb)).trans hu) ⟨_, q⟩ ?_
  exact ⟨hz, its', _, hv, q⟩
theorem Inv.lnew {its : List Value} {t' : Nat} (I : Inv X pins σ H s) (hv : Vals ys its) (hz : ys.length ≤ sizeLine) :
    Inv X pins σ (upd H s.heap.objs.size (.lst ys)) { s with heap := s.heap.push { cls := .type "list", data := .seq its.toArray }, toks := t' } :=
  I.laid (fun _ _ q => Heap.get?_push_of_some _ q) (Nat.le_refl _) ⟨hz, its, 0, hv, Heap.get?_push_size _ rfl⟩
theorem Inv.fresh (I : Inv X pins σ H s) : H s.heap.objs.size = none := I.hok.fresh (Nat.le_refl _)
theorem Inv.lstM (I : Inv X pins σ H s) (hH : H l = some (.lst xs)) : xs.length ≤ sizeLine ∧ ∃ (its : List Value) (n : Nat), Vals xs its ∧ xs.length = its.length ∧ s.heap.get? l = some { cls := .type "list", data := .seq its.toArray n } := by
  obtain ⟨z, its, n, r, e⟩ := I.hok l _ hH
  exact ⟨z, its, n, r, r.length, e⟩

end

section
variable {X : Cx}

def rAppend : V → List V → Hp → VK → Prop := fun x vs H Q => ∃ l xs y, x = .ref l ∧ vs = [y] ∧ H l = some (.lst xs) ∧ xs.length < sizeLine ∧ Q .non (upd H l (.lst (xs ++ [y])))
theorem mt_append : MtM X "list.append" rAppend := by
  intro pins s σ H x vs v us Q I rx rv h
  obtain ⟨l, xs, y, rfl, rfl, hH, hz, q⟩ := h
  cases rx
  obtain ⟨u, rfl, ru⟩ := rv.one
  obtain ⟨z, its, n, r, hl, e⟩ := I.lstM hH
  refine call_meets F.slot_list_append ⟨_, e, rfl⟩ F.entry_list_append (F.args_list_append_2 _ _) (PySem.list_append l its.toArray n u (by rw [List.size_toArray]; omega)) ⟨e, ?_⟩
  refine ⟨.non, _, I.lset (its' := its ++ [u]) hH e (by simp) (r.append (.cons ru .nil)) ?_, rfl, q⟩
  rw [List.length_append, List.length_singleton]
  omega

def rCat : R2 := fun x y H Q => ∃ l b xs zs, x = .ref l ∧ y = .ref b ∧ H l = some (.lst xs) ∧ H b = some (.lst zs) ∧ xs.length + zs.length ≤ sizeLine ∧ ∀ p, H p = none → Q (.ref p) (upd H p (.lst (xs ++ zs)))
theorem op_cat : OpR X (binaryOp .Add) rCat := by
  intro pins s σ H x y v u Q I rx ry h
  obtain ⟨l, b, xs, zs, rfl, rfl, hH, hB, hz, q⟩ := h
  cases rx
  cases ry
  obtain ⟨z, its, n, r, hl, e⟩ := I.lstM hH
  obtain ⟨z2, its2, n2, r2, hl2, e2⟩ := I.lstM hB
  refine PySem.P.add_list e e2 ?_ (by rw [List.size_toArray, List.size_toArray]; omega)
  have ea : its.toArray ++ its2.toArray = (its ++ its2).toArray := by simp
  rw [ea]
  exact ⟨.ref _, _, I.lnew (t' := s.toks) (r.append r2) (by rw [List.length_append]; omega), rfl, q _ I.fresh⟩
theorem len_rep {α : Type} (xs : List α) (k : Nat) : (List.replicate k xs).flatten.length = k * xs.length := by
  induction k with
  | zero => simp
  | succ k ih => rw [List.replicate_succ, List.flatten_cons, List.length_append, ih, Nat.succ_mul, Nat.add_comm]
end

section
variable {prog : Program} {w : World} {A : Around} {E : Value → Shared → Prop} {s : Shared}
end

section
variable {X : Cx}
end
end L2

namespace L2
open PySem PySem.Spec PyProof.Rows

section
variable {κ : Type} [DecidableEq κ]
def valV (kvs : List (κ × V)) (k : κ) : Option V := (kvs.find? fun kv => decide (kv.1 = k)).map (·.2)
def putK (kvs : List (κ × V)) (k : κ) (v : V) : List (κ × V) :=
  if (kvs.any fun kv => decide (kv.1 = k)) = true then kvs.map (fun kv => if kv.1 = k then (kv.1, v) else kv) else kvs ++ [(k, v)]
def dropK (kvs : List (κ × V)) (k : κ) : List (κ × V) := kvs.filter fun kv => decide (kv.1 ≠ k)

theorem valV_pos {p : κ × V} {r : List (κ × V)} {k : κ} (e : p.1 = k) : valV (p :: r) k = some p.2 := by simp [valV, List.find?_cons, e]
theorem valV_neg {p : κ × V} {r : List (κ × V)} {k : κ} (e : ¬ p.1 = k) : valV (p :: r) k = valV r k := by simp [valV, List.find?_cons, e]
theorem valV_any (k : κ) : ∀ kvs : List (κ × V), (kvs.any fun kv => decide (kv.1 = k)) = (valV kvs k).isSome
  | [] => rfl
  | p :: r => by
    rw [List.any_cons]
    by_cases e : p.1 = k
    · simp only [valV_pos e, decide_eq_true e, Bool.true_or, Option.isSome_some]
    · rw [valV_neg e, decide_eq_false e, Bool.false_or]; exact valV_any k r
theorem length_putK (kvs : List (κ × V)) (k : κ) (v : V) : (putK kvs k v).length ≤ kvs.length + 1 := by
  unfold putK
  split
  · rw [List.length_map]; omega
  · rw [List.length_append, List.length_cons, List.length_nil]; omega
theorem putK_new {kvs : List (κ × V)} {k : κ} (v : V) (h : valV kvs k = none) : putK kvs k v = kvs ++ [(k, v)] := by
  unfold putK
  rw [valV_any, h]
  exact if_neg (by decide)

theorem RelO.isSome_eq {o : Option V} {u : Option Value} (r : RelO o u) : o.isSome = u.isSome := by
  cases o with
  | none => cases u with
    | none => rfl
    | some _ => exact (show False from r).elim
  | some _ => cases u with
    | none => exact (show False from r).elim
    | some _ => rfl
theorem KV.val {kvs : List (κ × V)} {vs : List (κ × Value)} (r : KV kvs vs) (k : κ) : RelO (valV kvs k) (valueAt vs k) := by
  unfold KV at r
  induction r with
  | nil => exact True.intro
  | @cons p q ps qs h t ih =>
    obtain ⟨h1, h2⟩ := h
    by_cases e : p.1 = k
    · have e' : q.1 = k := h1.symm.trans e
      have b : valueAt (q :: qs) k = some q.2 := by simp [valueAt, List.find?_cons, e']
      rw [valV_pos e, b]; exact h2
    · have e' : ¬ q.1 = k := fun z => e (h1.trans z)
      have b : valueAt (q :: qs) k = valueAt qs k := by simp [valueAt, List.find?_cons, e']
      rw [valV_neg e, b]; exact ih
theorem KV.any {kvs : List (κ × V)} {vs : List (κ × Value)} (r : KV kvs vs) (k : κ) : (kvs.any fun kv => decide (kv.1 = k)) = vs.any fun kv => decide (kv.1 = k) := by
  unfold KV at r
  induction r with
  | nil => rfl
  | cons h t ih => rw [List.any_cons, List.any_cons, ih, h.1]
theorem KV.repl {kvs : List (κ × V)} {vs : List (κ × Value)} (r : KV kvs vs) (k : κ) {y : V} {u : Value} (ry : RelV y u) :
    KV (kvs.map fun kv => if kv.1 = k then (kv.1, y) else kv) (vs.map fun kv => if kv.1 = k then (kv.1, u) else kv) := by
  unfold KV at r ⊢
  induction r with
  | nil => exact .nil
  | @cons p q ps qs h t ih =>
    rw [List.map_cons, List.map_cons]
    refine .cons ?_ ih
    obtain ⟨h1, h2⟩ := h
    by_cases e : p.1 = k
    · rw [if_pos e, if_pos (h1.symm.trans e)]; exact ⟨h1, ry⟩
    · rw [if_neg e, if_neg (fun z => e (h1.trans z))]; exact ⟨h1, h2⟩
theorem KV.put {kvs : List (κ × V)} {vs : List (κ × Value)} (r : KV kvs vs) (k : κ) {y : V} {u : Value} (ry : RelV y u) : KV (putK kvs k y) (stored vs k u) := by
  unfold putK stored
  rw [r.any k]
  by_cases e : (vs.any fun kv => decide (kv.1 = k)) = true
  · rw [if_pos e, if_pos e]; exact r.repl k ry
  · rw [if_neg e, if_neg e]; exact Paired.snoc r ⟨rfl, ry⟩
theorem KV.drop {kvs : List (κ × V)} {vs : List (κ × Value)} (r : KV kvs vs) (k : κ) : KV (dropK kvs k) (without vs k) := by
  unfold KV at r ⊢
  unfold dropK without
  induction r with
  | nil => exact .nil
  | @cons p q ps qs h t ih =>
    obtain ⟨h1, h2⟩ := h
    rw [List.filter_cons, List.filter_cons]
    by_cases e : p.1 = k
    · have a : ¬ decide (p.1 ≠ k) = true := by simp [e]
      have b : ¬ decide (q.1 ≠ k) = true := by simp [h1.symm.trans e]
      rw [if_neg a, if_neg b]; exact ih
    · have e' : ¬ q.1 = k := fun z => e (h1.trans z)
      have a : decide (p.1 ≠ k) = true := by simp [e]
      have b : decide (q.1 ≠ k) = true := by simp [e']
      rw [if_pos a, if_pos b]; exact .cons ⟨h1, h2⟩ ih
theorem KV.keys {kvs : List (κ × V)} {vs : List (κ × Value)} (r : KV kvs vs) : kvs.map (·.1) = vs.map (·.1) := by
  unfold KV at r
  induction r with
  | nil => rfl
  | cons h t ih => rw [List.map_cons, List.map_cons, ih, h.1]
theorem KV.length {kvs : List (κ × V)} {vs : List (κ × Value)} (r : KV kvs vs) : kvs.length = vs.length := Paired.length r
theorem dropK_le (kvs : List (κ × V)) (k : κ) : (dropK kvs k).length ≤ kvs.length := List.length_filter_le _ _
end


theorem kV_is {P : Program} {w : World} {k : Key} {u : Value} (r : RelV (kV k) u) : (mixKind P w).is k u = true := by
  cases k with
  | inl i => obtain ⟨t, e⟩ := (show ∃ t, u = Value.int i t from r); subst e; exact mixKind_int P w i t
  | inr x => obtain ⟨t, e⟩ := (show ∃ t, u = Value.str x t from r); subst e; exact mixKind_str P w x t
theorem items_are {P : Program} {w : World} : ∀ {ks : List Key} {us : List Value}, Vals (ks.map kV) us → ItemsAre (mixKind P w) ks us
  | [], _, r => by rw [List.map_nil] at r; cases r; exact .nil
  | k :: ks, _, r => by
    rw [List.map_cons] at r
    cases r with
    | cons h t => exact .cons (kV_is h) (items_are t)

abbrev KT (H : Hp) : List (List Key × V) → List (List Key × Addr × Value) → Prop := Paired fun p q => p.1 = q.1 ∧ H q.2.1 = some (.tup (p.1.map kV)) ∧ RelV p.2 q.2.2
theorem KT.val {H : Hp} {kvs : List (List Key × V)} {xs : List (List Key × Addr × Value)} (r : KT H kvs xs) (k : List Key) : RelO (valV kvs k) ((atKey xs k).map (·.2)) := by
  induction r with
  | nil => exact True.intro
  | @cons p q ps qs h t ih =>
    obtain ⟨h1, _, h2⟩ := h
    by_cases e : p.1 = k
    · have e' : q.1 = k := h1.symm.trans e
      have b : atKey (q :: qs) k = some q.2 := by simp [atKey, List.find?_cons, e']
      rw [valV_pos e, b]; exact h2
    · have e' : ¬ q.1 = k := fun z => e (h1.trans z)
      have b : atKey (q :: qs) k = atKey qs k := by simp [atKey, List.find?_cons, e']
      rw [valV_neg e, b]; exact ih
theorem KT.repl {H : Hp} {kvs : List (List Key × V)} {xs : List (List Key × Addr × Value)} (r : KT H kvs xs) (k : List Key) {y : V} {u : Value} (ry : RelV y u) :
    KT H (kvs.map fun kv => if kv.1 = k then (kv.1, y) else kv) (xs.map (putAt k u)) := by
  induction r with
  | nil => exact .nil
  | @cons p q ps qs h t ih =>
    rw [List.map_cons, List.map_cons]
    refine .cons ?_ ih
    obtain ⟨h1, h2, h3⟩ := h
    unfold putAt
    by_cases e : p.1 = k
    · rw [if_pos e, if_pos (h1.symm.trans e)]; exact ⟨h1, h2, ry⟩
    · rw [if_neg e, if_neg (fun z => e (h1.trans z))]; exact ⟨h1, h2, h3⟩
theorem KT.put {H : Hp} {kvs : List (List Key × V)} {xs : List (List Key × Addr × Value)} (r : KT H kvs xs) (k : List Key) {b : Addr} {y : V} {u : Value} (hb : H b = some (.tup (k.map kV))) (ry : RelV y u) :
    KT H (putK kvs k y) (storedH xs k b u) := by
  have e : (kvs.any fun kv => decide (kv.1 = k)) = (atKey xs k).isSome := by
    rw [valV_any, (r.val k).isSome_eq, Option.isSome_map]
  unfold putK storedH
  rw [e]
  by_cases q : (atKey xs k).isSome = true
  · rw [if_pos q, if_pos q]; exact r.repl k ry
  · rw [if_neg q, if_neg q]; exact Paired.snoc r ⟨rfl, hb, ry⟩
theorem KT.keeps {H H' : Hp} {kvs : List (List Key × V)} {xs : List (List Key × Addr × Value)} (r : KT H kvs xs) (ht : ∀ b ys, H b = some (.tup ys) → H' b = some (.tup ys)) : KT H' kvs xs :=
  Paired.mapP r fun _ _ z => ⟨z.1, ht _ _ z.2.1, z.2.2⟩

section
variable {P : Program} {w : World} {H : Hp} {h : Heap} {a : Addr}
theorem rd_of {u : HO} (ok : HOk P w H h) (e : Rd H a u) : ObjOk P w H h a u := e.ok ok
theorem dk_rd {kvs : List (Key × V)} (ok : HOk P w H h) (e : Rd H a (.dK kvs)) : kvs.length ≤ sizeLine ∧ (a == sysModules) = false ∧ ∃ vs, KV kvs vs ∧ h.DictOf (mixKind P w) a vs :=
  show ObjOk P w H h a (.dK kvs) from rd_of ok e
theorem dk_of {kvs : List (Key × V)} (ok : HOk P w H h) (e : H a = some (.dK kvs)) : kvs.length ≤ sizeLine ∧ (a == sysModules) = false ∧ ∃ vs, KV kvs vs ∧ h.DictOf (mixKind P w) a vs := dk_rd ok (.inl e)
theorem key_of {ks : List Key} (ok : HOk P w H h) (e : H a = some (.tup (ks.map kV))) : (tupleKind (mixKind P w)).is h ks a := by
  obtain ⟨_, its, r, o, h1, h2, n, h3⟩ := (show ObjOk P w H h a (.tup (ks.map kV)) from ok a _ e)
  exact ⟨o, its.toArray, n, h1, h2, h3, by simpa using items_are r⟩
theorem dt_rd {kvs : List (List Key × V)} (ok : HOk P w H h) (e : Rd H a (.dT kvs)) : kvs.length ≤ sizeLine ∧ (a == sysModules) = false ∧
    ∃ xs, KT H kvs xs ∧ h.DictOfH (tupleKind (mixKind P w)) a xs := by
  obtain ⟨z, y, xs, r, o, es, ep, h1, h2, h3, h4, h5⟩ := (show ObjOk P w H h a (.dT kvs) from rd_of ok e)
  refine ⟨z, y, xs, r, o, es, ep, h1, h2, h3, h4, fun x hx => ?_, h5⟩
  have all : ∀ {l : List (List Key × V)} {m : List (List Key × Addr × Value)}, KT H l m → ∀ x ∈ m, (tupleKind (mixKind P w)).is h x.1 x.2.1 := by
    intro l m q
    induction q with
    | nil => intro x hx; exact nomatch hx
    | @cons p q ps qs hq t ih =>
      intro x hx
      rcases List.mem_cons.mp hx with e | hx
      · subst e
        exact key_of ok (by rw [← hq.1]; exact hq.2.1)
      · exact ih x hx
  exact all r x hx
theorem dt_of {kvs : List (List Key × V)} (ok : HOk P w H h) (e : H a = some (.dT kvs)) : kvs.length ≤ sizeLine ∧ (a == sysModules) = false ∧
    ∃ xs, KT H kvs xs ∧ h.DictOfH (tupleKind (mixKind P w)) a xs := dt_rd ok (.inl e)
end

def DGet (H : Hp) (a : Addr) (y : V) (r : Option V) : Prop :=
  (∃ kvs k, Rd H a (.dK kvs) ∧ y = kV k ∧ r = valV kvs k) ∨ ∃ kvs k b, Rd H a (.dT kvs) ∧ y = .ref b ∧ H b = some (.tup (k.map kV)) ∧ r = valV kvs k
def DPut (H : Hp) (a : Addr) (y v : V) (H' : Hp) : Prop :=
  (∃ kvs k, H a = some (.dK kvs) ∧ y = kV k ∧ kvs.length < sizeLine ∧ H' = upd H a (.dK (putK kvs k v))) ∨
  ∃ kvs k b, H a = some (.dT kvs) ∧ y = .ref b ∧ H b = some (.tup (k.map kV)) ∧ kvs.length < sizeLine ∧ H' = upd H a (.dT (putK kvs k v))
theorem DGet.k {H : Hp} {a : Addr} {kvs : List (Key × V)} {k : Key} (e : H a = some (.dK kvs)) : DGet H a (kV k) (valV kvs k) := .inl ⟨kvs, k, .inl e, rfl, rfl⟩
theorem DPut.k {H : Hp} {a : Addr} {kvs : List (Key × V)} {k : Key} {v : V} (e : H a = some (.dK kvs)) (hl : kvs.length < sizeLine) : DPut H a (kV k) v (upd H a (.dK (putK kvs k v))) := .inl ⟨kvs, k, e, rfl, hl, rfl⟩
section
variable {X : Cx} {pins : List (Addr × Obj)} {σ : St} {H : Hp} {s : Shared} {a : Addr} {y v : V} {u r : Value} {o : Option V} {A : Around} {E : Value → Shared → Prop}

theorem Inv.big (I : Inv X pins σ H s) : sysModules < s.heap.objs.size := by
  have h : mainGlobals < s.heap.objs.size := (I.mod.glob.keeps I.bk).lt
  exact Nat.lt_trans (by decide) h

theorem d_in {Q : Value → Shared → Prop} (hu : A.units + 1 < cLine) (I : Inv X pins σ H s) (g : DGet H a y o) (ry : RelV y u) (h : ∀ s', Inv X pins σ H s' → Q (.bool o.isSome) s') :
    wpAny (model X.prog X.w) A (compareOp .In u (.ref a)) Q E s := by
  rcases g with ⟨kvs, k, e, ey, l⟩ | ⟨kvs, k, b, e, ey, eb, l⟩
  · subst ey
    obtain ⟨z, hd, vs, rel, dd⟩ := dk_rd I.hok e
    refine wpAny_in_of (kV_is ry) hd dd.mapOf ?_
    rw [← (rel.val k).isSome_eq, ← l]
    exact h _ (I.tok _)
  · subst ey
    cases (show u = Value.ref b from ry)
    obtain ⟨z, hd, xs, rel, dd⟩ := dt_rd I.hok e
    refine wpAny_in_heap (tupleKind_room_in1 hu) (key_of I.hok eb) hd dd ?_
    have q := (rel.val k).isSome_eq
    rw [Option.isSome_map] at q
    rw [← q, ← l]
    exact h _ (I.tok _)
theorem d_notIn {Q : Value → Shared → Prop} (hu : A.units + 1 < cLine) (I : Inv X pins σ H s) (g : DGet H a y o) (ry : RelV y u) (h : ∀ s', Inv X pins σ H s' → Q (.bool (!o.isSome)) s') :
    wpAny (model X.prog X.w) A (compareOp .NotIn u (.ref a)) Q E s := by
  rcases g with ⟨kvs, k, e, ey, l⟩ | ⟨kvs, k, b, e, ey, eb, l⟩
  · subst ey
    obtain ⟨z, hd, vs, rel, dd⟩ := dk_rd I.hok e
    refine wpAny_notIn_of (kV_is ry) hd dd.mapOf ?_
    rw [← (rel.val k).isSome_eq, ← l]
    exact h _ (I.tok _)
  · subst ey
    cases (show u = Value.ref b from ry)
    obtain ⟨z, hd, xs, rel, dd⟩ := dt_rd I.hok e
    refine wpAny_notIn_heap (tupleKind_room_in1 hu) (key_of I.hok eb) hd dd ?_
    have q := (rel.val k).isSome_eq
    rw [Option.isSome_map] at q
    rw [← q, ← l]
    exact h _ (I.tok _)
theorem d_write {h' : Heap} {t' : Nat} {ob : HO} (I : Inv X pins σ H s) (mu : Mut (H a)) (hs : Heap.SameBut a s.heap h') (he : ∃ q, h'.get? a = some q) (new : ObjOk X.prog X.w (upd H a ob) h' a ob) :
    Inv X pins σ (upd H a ob) { s with heap := h', toks := t' } :=
  I.write (x := a) (e := a) mu (.inl rfl) (fun b q hb z => (hs.2 b hb).trans z) he new
theorem dk_new {P : Program} {w : World} {H' : Hp} {h' : Heap} {kvs : List (Key × V)} {vs : List (Key × Value)} (z : kvs.length ≤ sizeLine) (hd : (a == sysModules) = false) (rel : KV kvs vs) (dd : h'.DictOf (mixKind P w) a vs) :
    ObjOk P w H' h' a (.dK kvs) := ⟨z, hd, vs, rel, dd⟩
theorem d_setItem {H' : Hp} {Q : Unit → Shared → Prop} (hu : A.units + 1 < cLine) (I : Inv X pins σ H s) (g : DPut H a y v H') (ry : RelV y u) (rv : RelV v r) (h : ∀ s', Inv X pins σ H' s' → Q () s') :
    wpAny (model X.prog X.w) A (setItem (.ref a) u r) Q E s := by
  rcases g with ⟨kvs, k, e, ey, l, eH⟩ | ⟨kvs, k, b, e, ey, eb, l, eH⟩
  · subst ey eH
    obtain ⟨z, hd, vs, rel, dd⟩ := dk_of I.hok e
    have hz : vs.length ≤ sizeLine := by rw [← rel.length]; exact z
    have hl : (putK kvs k v).length ≤ sizeLine := by have := length_putK kvs k v; omega
    refine wpAny_setItem_pairs (hsz := hz) (kV_is ry) dd fun h' dd' hs => h _ ?_
    have he : ∃ q, h'.get? a = some q := let ⟨q, _, _, hq, _⟩ := dd'; ⟨q, hq⟩
    exact d_write I (by rw [e]; exact True.intro) hs he (dk_new hl hd (rel.put k rv) dd')
  · subst ey eH
    cases (show u = Value.ref b from ry)
    obtain ⟨z, hd, xs, rel, dd⟩ := dt_of I.hok e
    have hz : xs.length ≤ sizeLine := by rw [← Paired.length rel]; exact z
    have hl : (putK kvs k v).length ≤ sizeLine := by have := length_putK kvs k v; omega
    refine wpAny_setItem_heap (hsz := hz) (tupleKind_room_in1 hu) (key_of I.hok eb) dd fun h' dd' hs => h _ ?_
    obtain ⟨q, es, ep, hq, h2, h3, h4, _, h5⟩ := dd'
    refine d_write I (by rw [e]; exact True.intro) hs ⟨q, hq⟩ ⟨hl, hd, _, (rel.put k eb rv).keeps fun c ys ec => ?_, q, es, ep, hq, h2, h3, h4, h5⟩
    rw [upd_ne (ne_of ec e (fun z => nomatch z))]
    exact ec
end

section
variable {X : Cx} {pins : List (Addr × Obj)} {σ : St} {H : Hp} {s : Shared} {a : Addr} {kvs : List (Key × V)} {k : Key} {u : Value} {A : Around} {E : Value → Shared → Prop}
theorem d_pop {v : V} {more : List Value} {Q : Value → Shared → Prop} (I : Inv X pins σ H s) (e : H a = some (.dK kvs)) (ry : RelV (kV k) u) (l : valV kvs k = some v) (hm : more = [] ∨ ∃ x, more = [x])
    (h : ∀ w' s', Inv X pins σ (upd H a (.dK (dropK kvs k))) s' → RelV v w' → Q w' s') : wpAny (model X.prog X.w) A (call (.builtin "dict.pop") (.ref a :: u :: more)) Q E s := by
  obtain ⟨z, hd, vs, rel, dd⟩ := dk_of I.hok e
  obtain ⟨w', hw, rw'⟩ := RelO.some_of (v := v) (o := valueAt vs k) (by rw [← l]; exact rel.val k)
  have hp : (keyPart u).isSome = true := by
    cases k with
    | inl i => obtain ⟨t, q⟩ := (show ∃ t, u = Value.int i t from ry); subst q; rfl
    | inr x => obtain ⟨t, q⟩ := (show ∃ t, u = Value.str x t from ry); subst q; rfl
  have ha : argsOk "dict.pop" ⟨.ref a :: u :: more, []⟩ := by
    rcases hm with q | ⟨x, q⟩
    · subst q; exact PySem.F.args_dict_pop_2 _ _
    · subst q; exact PySem.F.args_dict_pop_3 _ _ _
  refine call_meetsIn PySem.F.slot_dict_pop dd.typeIs PySem.F.entry_dict_pop ha (meets_dict_pop_there (mixKind X.prog X.w) a (kV_is ry) more hm hp)
    ⟨vs, w', dd, by rw [← rel.length]; exact z, hw, fun h' dd' hs => h w' _ ?_ rw'⟩
  have he : ∃ q, h'.get? a = some q := let ⟨q, _, _, hq, _⟩ := dd'; ⟨q, hq⟩
  exact d_write I (by rw [e]; exact True.intro) hs he (dk_new (Nat.le_trans (dropK_le kvs k) z) hd (rel.drop k) dd')
end


def tDIn (ty td : TE) : TE := fun σ H Q => ty σ H fun y H1 => td σ H1 fun x H2 => ∃ a o, x = .ref a ∧ DGet H2 a y o ∧ Q (.bl o.isSome) H2
def tDNotIn (ty td : TE) : TE := fun σ H Q => ty σ H fun y H1 => td σ H1 fun x H2 => ∃ a o, x = .ref a ∧ DGet H2 a y o ∧ Q (.bl (!o.isSome)) H2
def sDPut (td ty tv : TE) : TS := fun D σ H => tv σ H fun v H1 => td σ H1 fun x H2 => ty σ H2 fun y H3 => ∃ a H4, x = .ref a ∧ DPut H3 a y v H4 ∧ D.nx σ H4
section
variable {X : Cx} {o i e value : Expr} {pos pos' tpos : Pos} {td ty tv : TE}
theorem pc_din (hu : X.A.units + 1 < cLine) (hi : PE X i ty) (ho : PE X o td) : PC X .In i o (tDIn ty td) := by
  intro pins s σ H Q I h
  refine thn (hi pins s σ H _ I h) fun iv s1 ⟨y, H1, I1, ry, q1⟩ => thn (ho pins s1 σ H1 _ I1 q1) fun u s2 ⟨x, H2, I2, rx, a, ov, ex, g, q2⟩ => ?_
  subst ex
  obtain rfl : u = Value.ref a := rx
  exact d_in hu I2 g ry fun s3 I3 => ⟨.bl ov.isSome, H2, I3, rfl, q2⟩
theorem pc_dnotin (hu : X.A.units + 1 < cLine) (hi : PE X i ty) (ho : PE X o td) : PC X .NotIn i o (tDNotIn ty td) := by
  intro pins s σ H Q I h
  refine thn (hi pins s σ H _ I h) fun iv s1 ⟨y, H1, I1, ry, q1⟩ => thn (ho pins s1 σ H1 _ I1 q1) fun u s2 ⟨x, H2, I2, rx, a, ov, ex, g, q2⟩ => ?_
  subst ex
  obtain rfl : u = Value.ref a := rx
  exact d_notIn hu I2 g ry fun s3 I3 => ⟨.bl (!ov.isSome), H2, I3, rfl, q2⟩
theorem ps_dput (hu : X.A.units + 1 < cLine) (ho : PE X o td) (hi : PE X i ty) (hv : PE X value tv) (hs : swapsWith value (some (.Subscript o i pos')) pos.line X.env = pure false) :
    PS X (.Assign [.Subscript o i pos'] value pos) (sDPut td ty tv) := by
  intro pins s σ H D I h
  refine wpAny_Assign_Subscript (thn (hv pins s σ H _ I h) fun r s1 ⟨v, H1, I1, rv, q1⟩ => thn (ho pins s1 σ H1 _ I1 q1) fun u s2 ⟨x, H2, I2, rx, q2⟩ => thn (hi pins s2 σ H2 _ I2 q2) fun iv s3 ⟨y, H3, I3, ry, a, H4, ex, g, q3⟩ => ?_) hs
  subst ex
  obtain rfl : u = Value.ref a := rx
  exact d_setItem hu I3 g ry rv fun s4 I4 => ⟨σ, H4, I4, q3⟩
end


theorem dk_empty {P : Program} {w : World} {H : Hp} (h : Heap) (hb : sysModules < h.objs.size) : ObjOk P w H (h.push { cls := .type "dict", data := .dict #[] }) h.objs.size (.dK []) :=
  ⟨Nat.zero_le _, beq_eq_false_iff_ne.mpr (Ne.symm (Nat.ne_of_lt hb)), [], .nil, Heap.DictOf.new h⟩
def tDNewK : TE := fun _ H Q => ∀ p, H p = none → Q (.ref p) (upd H p (.dK []))
section
variable {X : Cx} {pos : Pos}
theorem pe_dnewK : PE X (.Dict [] [] pos) tDNewK := fun pins s σ H Q I h =>
  wpAny_Dict_empty ⟨.ref s.heap.objs.size, _, I.laid (a := s.heap.objs.size) (o := .dK []) (t' := s.toks) (fun _ _ q => Heap.get?_push_of_some _ q) (Nat.le_refl _) (dk_empty s.heap I.big), rfl, h _ (I.hok.fresh (Nat.le_refl _))⟩
end

structure M1 (X : Cx) (o : Expr) (m : Str) (apos : Pos) (e : Expr) (cpos : Pos) : Prop where
  base : attributeBase o m X.env (eval o X.env) = eval o X.env
  few : ((backTo cpos (starEach [e] X.env)).all (fun x => !x.1) && (backToKw cpos (keywordEach [] X.env)).all (fun x => x.1.isSome)
    && decide (([e] : List Expr).length + ([] : List Keyword).length + (if ([] : List Keyword).isEmpty then 0 else 1) < 30)) = true
  line : (apos.endLine == cpos.line) = true
  trees : backTo cpos (starEach [e] X.env) = [(false, eval e X.env)]
structure M2 (X : Cx) (o : Expr) (m : Str) (apos : Pos) (e f : Expr) (cpos : Pos) : Prop where
  base : attributeBase o m X.env (eval o X.env) = eval o X.env
  few : ((backTo cpos (starEach [e, f] X.env)).all (fun x => !x.1) && (backToKw cpos (keywordEach [] X.env)).all (fun x => x.1.isSome)
    && decide (([e, f] : List Expr).length + ([] : List Keyword).length + (if ([] : List Keyword).isEmpty then 0 else 1) < 30)) = true
  line : (apos.endLine == cpos.line) = true
  trees : backTo cpos (starEach [e, f] X.env) = [(false, eval e X.env), (false, eval f X.env)]

def IsD (H : Hp) (a : Addr) : Prop := (∃ kvs, Rd H a (.dK kvs)) ∨ ∃ kvs, Rd H a (.dT kvs)
theorem isD_at {X : Cx} {pins : List (Addr × Obj)} {σ : St} {H : Hp} {s : Shared} {a : Addr} (I : Inv X pins σ H s) (d : IsD H a) :
    s.TypeIs (.ref a) "dict" ∧ (∀ b, Value.ref a = .ref b → ∃ ob, s.heap.get? b = some ob ∧ ob.dict = none) ∧ (a == sysModules) = false := by
  rcases d with ⟨kvs, e⟩ | ⟨kvs, e⟩
  · obtain ⟨_, hd, vs, _, dd⟩ := dk_rd I.hok e
    refine ⟨dd.typeIs, fun b q => ?_, hd⟩
    cases q
    obtain ⟨ob, _, _, h1, h2, _⟩ := dd
    exact ⟨ob, h1, h2.2.1⟩
  · obtain ⟨_, hd, xs, _, dd⟩ := dt_rd I.hok e
    refine ⟨dd.typeIs, fun b q => ?_, hd⟩
    cases q
    obtain ⟨ob, _, _, h1, h2, _⟩ := dd
    exact ⟨ob, h1, h2.2.1⟩

section
variable {X : Cx} {pins : List (Addr × Obj)} {σ : St} {H : Hp} {s : Shared} {a : Addr} {y d : V} {u r : Value} {o : Option V} {A : Around} {E : Value → Shared → Prop}
end

def tDPop1 (td ty : TE) : TE := fun σ H Q => td σ H fun x H1 => ∃ a, x = .ref a ∧ IsD H1 a ∧ ty σ H1 fun y H2 => ∃ kvs k v, H2 a = some (.dK kvs) ∧ y = kV k ∧ valV kvs k = some v ∧ Q v (upd H2 a (.dK (dropK kvs k)))
section
variable {X : Cx} {o e f : Expr} {apos cpos : Pos} {td ty tx : TE}
theorem pe_dpop1 (ho : PE X o td) (he : PE X e ty) (m : M1 X o "pop" apos e cpos) : PE X (.Call (.Attribute o "pop" apos) [e] [] cpos) (tDPop1 td ty) := by
  intro pins s σ H Q I h
  refine wpAny_Call_method m.base m.few m.line PySem.F.plainAttrs_dict PySem.F.slot_dict_pop PySem.F.type_dict_pop (thn (ho pins s σ H _ I h) fun u s1 ⟨x, H1, I1, rx, a, ex, d, q1⟩ => ?_)
  subst ex
  obtain rfl : u = Value.ref a := rx
  obtain ⟨t1, t2, _⟩ := isD_at I1 d
  refine ⟨t1, t2, ?_⟩
  rw [m.trees]
  refine Calls.callWith_builtin rfl (Calls.evalArgs_plain (Calls.spliced_cons (thn (he pins s1 σ H1 _ I1 q1) fun iv s2 ⟨y, H2, I2, ry, kvs, k, v, ea, ey, l, q2⟩ => Calls.spliced_nil ?_)))
  subst ey
  exact d_pop I2 ea ry l (.inl rfl) fun w' s3 I3 rw' => ⟨v, _, I3, rw', q2⟩
end

section
variable {X : Cx} {pins : List (Addr × Obj)} {σ : St} {H : Hp} {s : Shared} {a : Addr} {kvs : List (Key × V)} {A : Around} {E : Value → Shared → Prop}
end


section
variable {X : Cx} {pins : List (Addr × Obj)} {σ : St} {H : Hp} {s : Shared} {a : Addr} {y : V} {u : Value} {A : Around} {E : Value → Shared → Prop}
end
end L2


namespace Att
open PySem PySem.W PySem.Calls PyProof.Rows

theorem ints_of_wellAll {P : Params} {h : Heap} : ∀ (ns : List Int) (vs : List Value), WellAll P h vs (ns.map WData.int) → IntsAre vs ns := by
  intro ns
  induction ns with
  | nil =>
    intro vs w
    rw [List.map_nil] at w
    cases w
    exact .nil
  | cons n ns ih =>
    intro vs w
    rw [List.map_cons] at w
    cases w with
    | cons a b =>
      cases a
      exact .cons _ _ (ih _ b)

theorem script_of {l : OpenLaw} {n : Nat} (hn : l.most = some n) {P : Params} {h : Heap} {args : List WData} {vals : List Value}
    (hpre : l.row.toRowW.claim.pre args = true) (hwl : WellAll P h vals args) :
    ∃ a vs ns, vals = [Value.ref a] ∧ args = [WData.list (ns.map WData.int)] ∧ h.get? a = some { cls := .type "list", data := .seq vs.toArray } ∧ IntsAre vs ns ∧ ns.length ≤ n := by
  have hsh : WShape.hasAll [] args [.list .int] = true := (pre_splitW hpre).1
  have hc : l.pre.holds [] { args := args } = true := (pre_splitW hpre).2
  obtain ⟨d, r, rfl, h1, h2⟩ := hasAllW_cons hsh
  obtain rfl := hasAllW_nil h2
  obtain ⟨xs, rfl, h3⟩ := hasW_list h1
  obtain ⟨ns, rfl⟩ := items_int h3
  have hlen : ns.length ≤ n := by
    unfold OpenLaw.pre at hc
    have h4 : (WTm.not (.lt (.lit (.int (n : Int))) (.len (.arg 0)))).holds [] { args := [.list (ns.map .int)] } = true := by
      have h4 := (holds_andW hc).1
      rw [hn] at h4
      exact h4
    have h5 := condW_of h4 (w_not (w_lt w_lit (w_len_list (w_arg rfl))))
    rw [List.length_map] at h5
    refine Nat.le_of_not_lt fun q => ?_
    have q' : (n : Int) < ((ns.length : Nat) : Int) := by omega
    first
      | (rw [decide_eq_true q'] at h5; exact absurd h5 (by decide))
      | (simp at h5; omega)
  cases hwl with
  | cons w1 w2 =>
    cases w2
    cases w1 with
    | list ho hall => exact ⟨_, _, ns, rfl, rfl, ho, ints_of_wellAll ns _ hall, hlen⟩

theorem post_true (l : OpenLaw) (args : List WData) : l.row.toRowW.claim.post args (.bool true) args = true :=
  postW_of (r := l.row.toRowW) (X := (true == true))
    (show WShape.has [] (.bool true) .bool = true by first | rfl | decide | simp [WShape.has, WShape.arms, WShape.armsAll])
    (show (WTm.eq .res (.lit (.bool true))).value [] { args := args, res := some (.bool true), after := args } = some (.bool (true == true)) from w_eq_bool (w_res rfl) w_lit) rfl

theorem attach_call {l : OpenLaw} {n : Nat} {q : Program} {loose : List Str} {XP : (Str → Option Value) → Heap → Prop} {YP : World → Heap → Prop} {d : DefRec}
    (hn : l.most = some n) (hdf : d.params.defaults = [])
    (call : ∀ (w : World) (s₀ s₁ : Shared) (mg mb : Str → Option Value) (fa : Addr) (o : Obj) (pm cd doc : Value) (a : Addr) (vs : List Value) (ns : List Int),
      Ground q loose [] XP w s₀ mg mb s₁.heap → YP w s₁.heap →
      s₁.heap.get? fa = some o → o.data = .func (docDef d.name d.params d.body d.scope pm cd doc) → s₁.heap.CodeRec cd d.name → mg d.name = some (.ref fa) →
      s₁.heap.get? a = some { cls := .type "list", data := .seq vs.toArray } → IntsAre vs ns → ns.length ≤ n → s₁.gens = #[] →
      codeAny (model l.prog w) callerA (.call (.ref fa) ⟨[.ref a], []⟩) (fun r s' => r = .ok (.ret (.bool true)) ∧ OldK s₁.heap s'.heap ∧ s'.os = s₁.os ∧ AllBare s'.gens) s₁) :
    WalkO q loose XP YP l.row.toRowW d [] (fun f vs => PySem.call f vs) := by
  intro w s₀ s₁ mg mb G Y fa o pm cd doc dV kV ho hd hcd hD hmg hg args vals as hpre hlay hrd hwl hlo
  obtain rfl : dV = .none := Dflts.none hD hdf
  obtain rfl : kV = .none := Dflts.noKw hD
  obtain ⟨a, vs, ns, rfl, rfl, hobj, hints, hlen⟩ := script_of hn hpre hwl
  refine enter_call (codeAny_mono (call w s₀ s₁ mg mb fa o pm cd doc a vs ns G Y ho (fd_plain hd) hcd hmg hobj hints hlen hg) fun r s' hq => ?_)
  obtain ⟨rfl, h2, h3, h4⟩ := hq
  exact ⟨.inl ⟨.bool true, .bool true, [], rfl, fun _ => rfl, .bool true, post_true l _, fun _ => ⟨List.Pairwise.nil, fun _ hm => (nomatch hm)⟩⟩, h2, h3, h4⟩

section
variable {prog : Program} {w : World} {A : Around} {E : Value → Shared → Prop} {s : Shared} {K : Frag}

end
end Att

namespace L2
open PySem PySem.Spec PyProof.Rows

theorem vals_ints : ∀ {vs : List Value} {ns : List Int}, IntsAre vs ns → Vals (ns.map V.int) vs
  | _, _, .nil => .nil
  | _, _, .cons n t h => .cons ⟨t, rfl⟩ (vals_ints h)

def Only (H : Hp) : Prop := ∀ b, H b = none ∨ ∃ o xs, H b = some (.frz o (.lst xs))

theorem law_call {P : Program} {w : World} {K : PySem.W.Frag} {mg mb : Str → Option Value} {CX : CXT} {k : Nat} {fa a : Addr} {fd : FuncData} {x : Str} {sp : Sp} {s₁ : Shared} {vs : List Value} {ns : List Int}
    (KX : K.In s₁.heap) (hns : s₁.heap.Ns mainGlobals mg) (hb : s₁.heap.Ns builtinsNs mb) (hbb : ∀ x : Str, x ≠ "__name__" → mb x = bootBuiltins x) (hlim : s₁.heap.NoLimit) (hg : s₁.gens = #[])
    (ha : s₁.heap.get? a = some { cls := .type "list", data := .seq vs.toArray }) (hi : IntsAre vs ns) (hl : ns.length ≤ sizeLine) (hr : Room k callerA)
    (F : ∀ base : Heap, K.In base → base.Ns mainGlobals mg → FnOk P w K mg base CX k fa fd [x] sp) (hbind : ∀ (s : Shared) (u : Value), BindsTo s fd ⟨[u], []⟩ [(x, u)])
    (hsp : ∀ H : Hp, Only H → SqL K H a (ns.map V.int) → sp [.ref a] H (fun v _ => v = .bl true) fun _ _ _ => False)
    (hCX : ∀ H e s', CX [] H s₁ (fun _ _ _ => False) e s' → False) :
    codeAny (model P w) callerA (.call (.ref fa) ⟨[.ref a], []⟩) (fun r s' => r = .ok (.ret (.bool true)) ∧ OldK s₁.heap s'.heap ∧ s'.os = s₁.os ∧ AllBare s'.gens) s₁ := by
  have rv := vals_ints hi
  have lenV := hi.length
  -- from an abstract heap in which nothing but the script may be tracked
  have core : ∀ H : Hp, Only H → SqL K H a (ns.map V.int) → HOk P w H s₁.heap → (∀ b, H b ≠ none → b = a) → (H a ≠ none → K.lookup a = none) →
      codeAny (model P w) callerA (.call (.ref fa) ⟨[.ref a], []⟩) (fun r s' => r = .ok (.ret (.bool true)) ∧ OldK s₁.heap s'.heap ∧ s'.os = s₁.os ∧ AllBare s'.gens) s₁ := by
    intro H hO hS hok hA hK
    have base_of : ∀ {b : Addr} {o : Obj}, s₁.heap.get? b = some o → H b = none → (hidT s₁.heap H).get? b = some o := fun e n => hidT_get e n
    have noA : ∀ {b : Addr} {o : Obj} {es : Array DictEntry} {ep : Nat}, s₁.heap.get? b = some o → o.data = .dict es ep → H b = none := fun {b o es ep} e d => by
      cases q : H b with
      | none => rfl
      | some u =>
        have e' : b = a := hA b (by rw [q]; simp)
        subst e'
        rw [ha] at e; cases e
        have d' : Data.seq vs.toArray _ = Data.dict es ep := d
        cases d'
    have nsK : ∀ {b : Addr} {m : Str → Option Value}, s₁.heap.Ns b m → (hidT s₁.heap H).Ns b m := fun {b m} ⟨o, es, ep, e, d, r⟩ => ⟨o, es, ep, base_of e (noA e d), d, r⟩
    have hKb : K.In (hidT s₁.heap H) := fun b o e => base_of (KX b o e) (by
      cases q : H b with
      | none => rfl
      | some u =>
        have e' : b = a := hA b (by rw [q]; simp)
        subst e'
        rw [hK (by rw [q]; simp)] at e; cases e)
    have hM : Mod K mg (hidT s₁.heap H) := ⟨hKb, nsK hns, ⟨mb, nsK hb, hbb⟩, let ⟨mc, h1, h2⟩ := hlim; ⟨mc, nsK h1, h2⟩⟩
    have e0 : Env0 P w K mg (hidT s₁.heap H) callerA [] s₁ H := ⟨rfl, hM, fun b o e => of_hidT e, Nat.le_of_eq (hidT_size _ _), trivial, fun b hb => absurd (show b ∈ ([] : List Addr) from hb) (by simp), hok, .of_eq hg⟩
    refine codeAny_mono ((F _ hKb (nsK hns)).run callerA [] s₁ H ⟨[.ref a], []⟩ [.ref a] [.ref a] _ _ hr e0 (hbind s₁ (.ref a)) (.cons rfl .nil) (hsp H hO hS)) fun r s' h => ?_
    cases r with
    | error e => exact (hCX H e s' h).elim
    | ok fl =>
      cases fl with
      | next => exact False.elim h
      | brk => exact False.elim h
      | cont => exact False.elim h
      | ret u =>
        obtain ⟨v, H', os, bare, un, hok', r', q⟩ := h
        have q' : v = .bl true := q
        subst q'
        obtain rfl : u = Value.bool true := r'
        refine ⟨rfl, OldK.of_keep fun b o e => ?_, os, bare⟩
        cases q : H b with
        | none => exact un.keep b o e q (by intro z; exact absurd (show b ∈ ([] : List Addr) from z) (by simp)) (by simp)
        | some u =>
          rcases hO b with z | ⟨ob, xs, z⟩
          · rw [q] at z; cases z
          · have z2 := un.frzs b ob _ z
            obtain ⟨e1, _⟩ := hok b _ z
            obtain ⟨e2, _⟩ := hok' b _ z2
            rw [e] at e1; cases e1
            exact e2
  cases hk : K.lookup a with
  | some o =>
    -- the script is one of the module's own objects
    have e := KX a o hk
    rw [ha] at e
    cases e
    refine core (fun _ => none) (fun _ => .inl rfl) (.inr ⟨_, vs.toArray, _, hk, rfl, rfl, rfl, by rw [List.size_toArray, lenV]; exact hl, by simpa using rv⟩) (fun b u z => by have z' : (none : Option HO) = some u := z; cases z') (fun b z => absurd rfl z) fun z => absurd rfl z
  | none =>
    refine core (fun b => if b = a then some (.frz { cls := .type "list", data := .seq vs.toArray } (.lst (ns.map V.int))) else none) (fun b => ?_) (.inl (.inr ⟨{ cls := .type "list", data := .seq vs.toArray }, if_pos rfl⟩)) (fun b u z => ?_) (fun b z => ?_) fun _ => hk
    · by_cases hb : b = a
      · exact .inr ⟨_, _, if_pos hb⟩
      · exact .inl (if_neg hb)
    · by_cases hb : b = a
      · have z' := (if_pos hb).symm.trans z
        cases z'
        subst hb
        exact ⟨ha, by rw [List.length_map]; exact hl, vs, _, rv, ha⟩
      · have z' := (if_neg hb).symm.trans z
        cases z'
    · by_cases hb : b = a
      · exact hb
      · exact absurd (if_neg hb) z
end L2

namespace L2
open PySem PySem.Spec PyProof.Rows

abbrev KOf {K : PySem.W.Frag} {h : Heap} (_ : K.In h) : PySem.W.Frag := K

theorem walk_of {l : PySem.W.OpenLaw} {n k : Nat} {q : Program} {loose : List Str} {XP : (Str → Option Value) → Heap → Prop} {YP : World → Heap → Prop} {d : DefRec} {K : Params → PySem.W.Frag} {CX : World → CXT} {sp : World → Sp} {x : Str}
    (hn : l.most = some n) (hn2 : n ≤ sizeLine) (hdf : d.params.defaults = []) (hr : Room k callerA)
    (hY : ∀ (w : World) (h : Heap), YP w h → (K w.params).In h)
    (F : ∀ (w : World) (mg : Str → Option Value) (fa : Addr) (h : Heap), (K w.params).In h → h.Ns mainGlobals mg → mg d.name = some (.ref fa) →
      ∃ fd : FuncData, (∀ (s : Shared) (u : Value), BindsTo s fd ⟨[u], []⟩ [(x, u)]) ∧
        ∀ base : Heap, (K w.params).In base → base.Ns mainGlobals mg → FnOk l.prog w (K w.params) mg base (CX w) k fa fd [x] (sp w))
    (hsp : ∀ (w : World) (H : Hp) (a : Addr) (ns : List Int), ns.length ≤ n → Only H → SqL (K w.params) H a (ns.map V.int) → sp w [.ref a] H (fun v _ => v = .bl true) fun _ _ _ => False)
    (hCX : ∀ (w : World) (H : Hp) (s : Shared) (e : Value) (s' : Shared), CX w [] H s (fun _ _ _ => False) e s' → False) :
    PySem.W.WalkO q loose XP YP l.row.toRowW d [] (fun f vs => PySem.call f vs) := by
  refine Att.attach_call hn hdf fun w s₀ s₁ mg mb fa o pm cd doc a vs ns G Y ho hd hcd hmg hobj hints hlen hg => ?_
  have KX := hY w _ Y
  obtain ⟨fd, hb, hF⟩ := F w mg fa _ KX G.T.g hmg
  exact law_call KX G.T.g G.T.b G.T.builtins G.T.nolimit hg hobj hints (Nat.le_trans hlen hn2) hr hF hb (fun H hO hS => hsp w H a ns hlen hO hS) fun H e s' => hCX w H s₁ e s'
end L2


namespace L2
open PySem PySem.Spec PyProof.Rows

def inClass (s : Stmt) (j : Nat) : Stmt := match s with
  | .ClassDef _ _ _ body _ _ _ _ _ _ _ => body.getD j (.Pass ⟨0, 0, 0, 0⟩)
  | _ => .Pass ⟨0, 0, 0, 0⟩
def defArgs (s : Stmt) : Arguments := match s with
  | .FunctionDef _ a _ _ _ _ _ _ _ _ => a
  | _ => { posonlyargs := [], args := [], vararg := none, kwonlyargs := [], kw_defaults := [], kwarg := none, defaults := [] }
def defBody (s : Stmt) : List Stmt := match s with
  | .FunctionDef _ _ b _ _ _ _ _ _ _ => b
  | _ => []
def defScope (s : Stmt) : Scope := match s with
  | .FunctionDef _ _ _ _ _ _ sc _ _ _ => sc
  | _ => { kind := .function, names := [], isGenerator := false, isCoroutine := false }

abbrev CX0 : CXT := fun _ _ _ _ _ _ => False
abbrev E0 : XK := fun _ _ _ => False
theorem pass0 {X : Cx} : Passes CX0 X E0 := fun _ _ _ _ _ _ _ h => h.elim

structure Fun (K : PySem.W.Frag) (x qual : Str) (st : Stmt) (f : Addr) (fd : FuncData) : Prop where
  ex : ∃ (oc : Value) (od : Option Addr) (kV doc pm : Value) (an : Option Addr) (cdv ct : Value) (osl : Array (Option Value)),
    fd = PySem.W.fnOf x qual (defArgs st) (defBody st) (defScope st) .none kV doc pm an cdv ct ∧ K.lookup f = some ⟨oc, od, .func fd, osl⟩ ∧ PySem.W.codeIn K cdv qual = true
  kp : PySem.W.keepIn K (.ref f) = true
section
variable {P : Program} {w : World} {K : PySem.W.Frag} {mg : Str → Option Value} {base : Heap}
theorem Fun.ok {x qual : Str} {st : Stmt} {f : Addr} {fd : FuncData} {N ps : List Str} {k : Nat} {sp : Sp} (F : Fun K x qual st f fd) (S : FnScope N ps (defScope st)) (len : ∀ vs H Q E, sp vs H Q E → vs.length = ps.length)
    (hbody : ∀ (cdv : Value) (A : Around) (outer : List Env) (s : Shared) (H : Hp) (vs : List V) (Q : VK) (E : XK), Room k (A.deeper (envOfC qual (defScope st) s.heap.objs.size f cdv)) → sp vs H Q E →
      ∃ t, PSs (cxOf CX0 P w K mg base N qual (defScope st) f cdv A outer s H E).nox (defBody st) t ∧ t { nx := fun _ H' => Q .non H', rt := Q } (start N vs) H) : FnOk P w K mg base CX0 (k + 1) f fd ps sp := by
  obtain ⟨oc, od, kV, doc, pm, an, cdv, ct, osl, rfl, lk, hcd⟩ := F.ex
  refine fn_of lk hcd S len fun A outer s H vs Q E hr hsp => ?_
  obtain ⟨t, h, q⟩ := hbody cdv A outer s H vs Q E hr hsp
  exact ⟨t, h.nox, q⟩
theorem Fun.binds {x qual : Str} {st : Stmt} {f : Addr} {fd : FuncData} {ps : List Str} (F : Fun K x qual st f fd)
    (h : ∀ (kV doc pm : Value) (an : Option Addr) (cdv ct : Value) (us : List Value), us.length = ps.length → bindArgs (PySem.W.fnOf x qual (defArgs st) (defBody st) (defScope st) .none kV doc pm an cdv ct) ⟨us, []⟩ = pure (ps.zip us)) : Binds K fd ps [] := by
  obtain ⟨oc, od, kV, doc, pm, an, cdv, ct, osl, rfl, lk, hcd⟩ := F.ex
  exact .all (h kV doc pm an cdv ct)
theorem fun_mk {x qual : Str} {st : Stmt} {f : Addr} {oc : Value} {od an : Option Addr} {osl : Array (Option Value)} {kV doc pm cdv ct : Value} (l : K.lookup f = some ⟨oc, od, .func (PySem.W.fnOf x qual (defArgs st) (defBody st) (defScope st) .none kV doc pm an cdv ct), osl⟩)
    (c : PySem.W.codeIn K cdv qual = true) (k : PySem.W.keepIn K (.ref f) = true) : Fun K x qual st f (PySem.W.fnOf x qual (defArgs st) (defBody st) (defScope st) .none kV doc pm an cdv ct) := ⟨⟨oc, od, kV, doc, pm, an, cdv, ct, osl, rfl, l, c⟩, k⟩
end
theorem hu_of {A : Around} {k : Nat} (hr : Room k A) : A.units + 1 < cLine := Nat.lt_of_le_of_lt (Nat.add_le_add_left (by decide : 1 ≤ 64) _) hr.units
theorem small1000 {n : Nat} (h : n ≤ 1000) : n < sizeLine := Nat.lt_of_le_of_lt h (by decide)

section
variable {X : Cx}
theorem pv (i : Nat) {x : Str} {pos : Pos} (hN : X.N[i]? = some x := by rfl) (hv : Vis X.env.scope x := by first | exact Or.inl rfl | exact Or.inr (Or.inl rfl) | exact Or.inr (Or.inr rfl)) (hd : (x == ("__debug__" : Str)) = false := by decide)
    (hcd : (x == ("__classdict__" : Str)) = false := by decide) : PE X (.Name x pos) (tVar i) := pe_var hN hv hd hcd
end

theorem iteF {A B : Prop} (h : B) : if false = true then A else B := by
  rw [if_neg Bool.false_ne_true]
  exact h
theorem iteT {A B : Prop} (h : A) : if true = true then A else B := by
  rw [if_pos rfl]
  exact h
theorem ite2 {c A B : Prop} [Decidable c] (h1 : c → A) (h2 : ¬ c → B) : if c then A else B := by
  by_cases h : c
  · rw [if_pos h]
    exact h1 h
  · rw [if_neg h]
    exact h2 h
theorem iteNS {c A B : Prop} [Decidable c] (hc : c) (h : B) : if (!decide c) = true then A else B := by
  rw [decide_eq_true hc]
  exact iteF h

def Same (H H' : Hp) : Prop := ∀ b o, H b = some o → H' b = some o
theorem Same.refl (H : Hp) : Same H H := fun _ _ h => h
theorem Same.trans {H H1 H2 : Hp} (a : Same H H1) (b : Same H1 H2) : Same H H2 := fun c o h => b c o (a c o h)
theorem Same.free {H H' : Hp} (e : Same H H') {l : Addr} (h : H' l = Option.none) : H l = Option.none := by
  cases q : H l with
  | none => rfl
  | some o =>
    rw [e l o q] at h
    cases h
theorem Same.seq {K : PySem.W.Frag} {H H' : Hp} {a : Addr} {xs : List V} (e : Same H H') (h : SqL K H a xs) : SqL K H' a xs := by
  rcases h with (h | ⟨o, h⟩) | h
  · exact .inl (.inl (e _ _ h))
  · exact .inl (.inr ⟨o, e _ _ h⟩)
  · exact .inr h

end L2

namespace L2
open PySem PySem.Spec PyProof.Rows
section
variable {X : Cx}
end
section
variable {κ : Type} [DecidableEq κ]
theorem nd_snoc : ∀ {l : List κ} {k : κ}, l.Nodup → ¬ k ∈ l → (l ++ [k]).Nodup
  | [], k, _, _ => by simp
  | a :: r, k, h, hk => by
    obtain ⟨h1, h2⟩ := List.nodup_cons.mp h
    show (a :: (r ++ [k])).Nodup
    refine List.nodup_cons.mpr ⟨fun m => ?_, nd_snoc h2 fun m => hk (List.mem_cons.mpr (Or.inr m))⟩
    rcases List.mem_append.mp m with q | q
    · exact h1 q
    · exact hk (List.mem_cons.mpr (Or.inl (List.mem_singleton.mp q).symm))
end
end L2
end

section
set_option Elab.async false
set_option linter.all false
set_option maxRecDepth 100000
namespace L2
open PySem PySem.Spec PyProof.Rows

def blk (X : Cx) (scope : Scope) (cl : List (Str × Addr)) (C : Addr) (x : Str) (s₀ : Shared) (H₀ : Hp) (fp : List Addr) : Cx :=
  { X with N := x :: X.N, s₀ := s₀, H₀ := H₀, env := compEnvC scope cl C X.env, outer := X.stack, ex := fp, fn := fun _ => false, pn := [], xe := fun _ _ => False }

structure CompOk (X : Cx) (scope : Scope) (x : Str) : Prop where
  kind : scope.kind = .function
  ncell : ∀ y ∈ scope.names, y.2 ≠ .cell
  names : ∀ y ∈ scope.names, y.2 = .local → scope.names.lookup y.1 = some .local
  hx : scope.names.lookup x = some .local
  free : ∀ y ∈ scope.names, y.2 = .free → X.env.kindOf y.1 = some .cell ∨ X.env.kindOf y.1 = some .free
  out : ∀ y ∈ X.N, scope.names.lookup y ≠ some .local
  nd : X.N.Nodup

def compChk (sc : Scope) (N : List Str) (scope : Scope) (x : Str) : Bool :=
  scope.kind == .function && scope.names.all (fun y => y.2 != .cell) && scope.names.all (fun y => y.2 != .local || scope.names.lookup y.1 == some .local) && scope.names.lookup x == some .local &&
  scope.names.all (fun y => y.2 != .free || sc.names.lookup y.1 == some .cell || sc.names.lookup y.1 == some .free) && N.all (fun y => scope.names.lookup y != some .local)
theorem CompOk.of {X : Cx} {scope : Scope} {x : Str} (hN : X.N.Nodup) (h : compChk X.env.scope X.N scope x = true) : CompOk X scope x := by
  unfold compChk at h
  simp only [Bool.and_eq_true, List.all_eq_true, Bool.or_eq_true, bne_iff_ne, beq_iff_eq, ne_eq] at h
  obtain ⟨⟨⟨⟨⟨h1, h2⟩, h3⟩, h4⟩, h5⟩, h6⟩ := h
  refine ⟨h1, fun y hy => h2 y hy, fun y hy e => (h3 y hy).resolve_left fun z => z e, h4, fun y hy e => ?_, fun y hy => h6 y hy, hN⟩
  rcases h5 y hy with (z | z) | z
  · exact absurd e z
  · exact .inl z
  · exact .inr z

theorem lookup_mem' {α : Type} : ∀ {l : List (Str × α)} {x : Str} {a : α}, l.lookup x = some a → (x, a) ∈ l
  | [], _, _, h => by simp at h
  | (y, b) :: r, x, a, h => by
    rw [List.lookup_cons] at h
    split at h
    · rename_i e
      have e' : x = y := by simpa using e
      cases h; subst e'
      exact List.mem_cons_self
    · exact List.mem_cons_of_mem _ (lookup_mem' h)

theorem closure_ok {env : Env} : ∀ (names : List (Str × NameKind)), (∀ y ∈ names, y.2 = .free → ∃ c, env.cells.lookup y.1 = some c) → ∀ acc : List (Str × Addr), (∀ n c, acc.lookup n = some c → env.cells.lookup n = some c) →
    ∃ cl, (forIn names acc (fun (p : Str × NameKind) (cs : List (Str × Addr)) => if (p.2 == NameKind.free) = true then (do let a ← cellOf env p.1; pure (ForInStep.yield ((p.1, a) :: cs))) else (pure (ForInStep.yield cs) : Sem _)) : Sem (List (Str × Addr))) = pure cl ∧
      (∀ n c, cl.lookup n = some c → env.cells.lookup n = some c) ∧ (∀ n, (∃ c, acc.lookup n = some c) → ∃ c, cl.lookup n = some c) ∧ ∀ n, (n, NameKind.free) ∈ names → ∃ c, cl.lookup n = some c
  | [], _, acc, ha => ⟨acc, by simp, ha, fun _ h => h, fun _ h => by simp at h⟩
  | (n, k) :: r, hf, acc, ha => by
    have hr : ∀ y ∈ r, y.2 = .free → ∃ c, env.cells.lookup y.1 = some c := fun y hy => hf y (List.mem_cons_of_mem _ hy)
    by_cases hk : k = .free
    · subst hk
      obtain ⟨c, hc⟩ := hf (n, .free) List.mem_cons_self rfl
      obtain ⟨cl, e, h1, h2, h3⟩ := closure_ok r hr ((n, c) :: acc) (fun n' c' h => by
        rw [List.lookup_cons] at h
        split at h
        · rename_i q
          have q' : n' = n := by simpa using q
          cases h; subst q'; exact hc
        · exact ha n' c' h)
      refine ⟨cl, ?_, h1, fun n' h => h2 n' ?_, fun n' h => ?_⟩
      · rw [List.forIn_cons]
        simp only [beq_self_eq_true, if_true]
        have e2 : cellOf env n = pure c := by unfold cellOf; rw [hc]
        rw [e2]
        simp only [pure_bind]
        exact e
      · obtain ⟨c', hc'⟩ := h
        rw [List.lookup_cons]
        split
        · exact ⟨c, rfl⟩
        · exact ⟨c', hc'⟩
      · rcases List.mem_cons.mp h with q | q
        · refine h2 n' ⟨c, ?_⟩
          cases q
          rw [List.lookup_cons, beq_self_eq_true]
        · exact h3 n' q
    · have hb : (k == NameKind.free) = false := by simpa using hk
      obtain ⟨cl, e, h1, h2, h3⟩ := closure_ok r hr acc ha
      refine ⟨cl, ?_, h1, h2, fun n' h => ?_⟩
      · rw [List.forIn_cons]
        simp only [hb, Bool.false_eq_true, if_false, pure_bind]
        exact e
      · rcases List.mem_cons.mp h with q | q
        · cases q; exact absurd rfl hk
        · exact h3 n' q

theorem lookup_relabel {env : Env} : ∀ {names : List (Str × NameKind)} {x : Str} {k : NameKind},
    (names.map fun (n, k) => if (k == NameKind.free && env.scope.kind == .function && env.kindOf n == some .cell) then (n, NameKind.cell) else (n, k)).lookup x = some k → names.lookup x = some k ∨ (k = .cell ∧ names.lookup x = some .free)
  | [], _, _, h => by simp at h
  | (n, j) :: r, x, k, h => by
    have ih := @lookup_relabel env r x k
    have h' : List.lookup x ((if (j == NameKind.free && env.scope.kind == .function && env.kindOf n == some .cell) = true then (n, NameKind.cell) else (n, j)) :: _) = some k := h
    by_cases hc : (j == NameKind.free && env.scope.kind == .function && env.kindOf n == some .cell) = true
    · rw [if_pos hc] at h'
      cases hx : x == n with
      | true =>
        simp only [List.lookup_cons, hx] at h' ⊢
        cases h'
        have : j = .free := by simp at hc; exact hc.1.1
        exact .inr ⟨rfl, by rw [this]⟩
      | false => simp only [List.lookup_cons, hx] at h' ⊢; exact ih h'
    · rw [if_neg hc] at h'
      cases hx : x == n with
      | true => simp only [List.lookup_cons, hx] at h' ⊢; exact .inl h'
      | false => simp only [List.lookup_cons, hx] at h' ⊢; exact ih h'

theorem compLoop_T {prog : Program} {w : World} {A : Around} {R : Result → Shared → Prop} {s : Shared} {elt target iter : Expr} {ifs : List Expr} {scope : Scope} {pos : Pos} {it acc : Value} {env : Env} (I : Nat → Shared → Prop)
    (turn : ∀ n s, I n s → wpAny (model prog w) A (pyNext it) (fun r s₁ => match r with
      | none => R (.ok .next) s₁
      | some v => wpAny (model prog w) A (letOwnedTupleGo target it v) (fun _ s₀ => wpAny (model prog w) A (assign target env v) (fun _ s₂ =>
          wpAny (model prog w) A (forIn ifs true fun c r => if r = true then do let ok ← isTrue c env (eval c env); pure (ForInStep.yield ok) else pure (ForInStep.yield r)) (fun ok s₃ =>
            if ok = true then wpAny (model prog w) A (eval elt env) (fun x s₄ =>
              wpAny (model prog w) A (call (.builtin "list.append") [acc, x]) (fun _ s₅ => ∃ m, m < n ∧ I m s₅) (fun _ _ => False) s₄) (fun _ _ => False) s₃
            else ∃ m, m < n ∧ I m s₃) (fun _ _ => False) s₂) (fun _ _ => False) s₀) (fun _ _ => False) s₁) (fun _ _ => False) s)
    (n : Nat) (h : I n s) :
    codeAny (model prog w) A (.compLoop (.ListComp elt [⟨target, iter, ifs, 0⟩] scope pos) 0 it acc env) R s := by
  refine codeAny_loop rfl I (fun n s hI => ?_) n h
  show wpAny _ A ((compTurn (.ListComp elt [⟨target, iter, ifs, 0⟩] scope pos) 0 it acc env).onRaise (fun x => do noteFrame x env; theTreesLotGoes x)) _ _ s
  refine wpAny_noted ?_
  rw [compTurn_list]
  refine wpAny_bind (wpAny_standAt (wpAny_bind (wpAny_mono (turn n s hI) (fun r s₁ h₁ => ?_) fun _ _ h' => h'.elim)))
  cases r with
  | none => exact wpAny_pure h₁
  | some v =>
    refine wpAny_bind (wpAny_mono h₁ (fun _ s₀ h₀ => ?_) fun _ _ h' => h'.elim)
    refine wpAny_bind (wpAny_mono h₀ (fun _ s₂ h₂ => wpAny_bind (wpAny_mono h₂ (fun ok s₃ h₃ => ?_) fun _ _ h' => h'.elim)) fun _ _ h' => h'.elim)
    cases ok with
    | false => exact wpAny_pure ⟨rfl, h₃⟩
    | true =>
      exact wpAny_bind (wpAny_bind (wpAny_mono h₃ (fun x s₄ h₄ => wpAny_bind (wpAny_mono h₄ (fun _ s₅ h₅ => wpAny_pure (wpAny_pure ⟨rfl, h₅⟩)) fun _ _ h' => h'.elim)) fun _ _ h' => h'.elim))

def PTs (X : Cx) (ifs : List Expr) (t : TT) : Prop :=
  ∀ (pins : List (Addr × Obj)) (s : Shared) (σ : St) (H : Hp) (Q : Bool → Hp → Prop), Inv X pins σ H s → t σ H Q →
    wpAny (model X.prog X.w) X.A (forIn ifs true fun c r => if r = true then do let ok ← isTrue c X.env (eval c X.env); pure (ForInStep.yield ok) else pure (ForInStep.yield r)) (TP X pins σ Q) X.xe s
def tYes : TT := fun _ H Q => Q true H
theorem pts_nil {X : Cx} : PTs X [] tYes := fun _ _ _ H _ I h => wpAny_tests_nil ⟨H, I, h⟩
def tComp (wi : TI) (tt : TT) (te : TE) : TE := fun σ H Q => wi σ H fun J H1 => ∀ D, H1 D = none → ∃ W : Nat → Nat → List V → Hp → Prop, (∃ m, W 0 m [] (upd H1 D (.lst []))) ∧
  ∀ i m ys H, W i m ys H → (J.stop i H ∧ Q (.ref D) H) ∨ (J.go i H ∧ ∀ x H', J.yld i H x H' → tt (some x :: σ) H' fun b H2 =>
    if b = true then te (some x :: σ) H2 fun y H3 => H3 D = some (.lst ys) ∧ ys.length < sizeLine ∧ ∃ m', m' < m ∧ W (i + 1) m' (ys ++ [y]) (upd H3 D (.lst (ys ++ [y])))
    else ∃ m', m' < m ∧ W (i + 1) m' ys H2)

theorem pe_comp {X : Cx} {elt iter : Expr} {x : Str} {px : Pos} {ifs : List Expr} {scope : Scope} {pos : Pos} {wi : TI} {tt : TT} {te : TE} (hc : X.calm = true) (ok : CompOk X scope x) (hi : PI X (.Name x px) iter wi)
    (ht : ∀ cl C s₀ H₀ fp, PTs (blk X scope cl C x s₀ H₀ fp) ifs tt) (he : ∀ cl C s₀ H₀ fp, PE (blk X scope cl C x s₀ H₀ fp) elt te)
    (hs : ∀ x, foldedSetIterable iter X.env x = pure x := by intro _; rfl) : PE X (.ListComp elt [⟨.Name x px, iter, ifs, 0⟩] scope pos) (tComp wi tt te) := by
  intro pins s σ H Q I h
  obtain ⟨cl, hcl, hsub, _, hall⟩ := closure_ok (env := X.env) scope.names (fun y hy e => I.ok.has y.1 (ok.free y hy e)) [] (fun _ _ z => by simp at z)
  have hclos : closureFor scope X.env = pure cl := by
    unfold closureFor
    simp only [bind_pure]
    exact hcl
  rw [eval_ListComp]
  refine wpAny_comprehension_free (use := none) (E := X.xe) (cl := cl) rfl hs hclos ok.kind ok.names (thn (hi pins s σ H _ I h) fun v s1 h1 => thn h1 fun itv s2 h2 => ?_)
  obtain ⟨it, fp, tn, J, H2, e, I2, T, st2, f2, R⟩ := h2
  subst e
  obtain ⟨W, ⟨m0, w0⟩, turn⟩ := R s2.heap.objs.size I2.fresh
  refine wpAny_newObj_type (wpAny_newFunctionEnv ok.ncell (by intro y hy; simp at hy) (fun h₁ hns₁ hsb₁ => ?_) ok.kind)
  dsimp only at hns₁ hsb₁ ⊢
  have I3 : Inv X pins σ (upd H2 s2.heap.objs.size (.lst [])) { s2 with heap := s2.heap.push { cls := .type "list", data := .seq ([] : List Value).toArray } } := I2.lnew (t' := s2.toks) (ys := []) (its := []) .nil (Nat.zero_le _)
  generalize hH3 : upd H2 s2.heap.objs.size (HO.lst []) = H3 at *
  generalize hs3 : s2.heap.push { cls := .type "list", data := .seq ([] : List Value).toArray } = hp3 at *
  generalize hD : s2.heap.objs.size = D at *
  generalize hC : hp3.objs.size = C at *
  have hDC : D < C := by rw [← hC, ← hs3, Heap.size_push, hD]; exact Nat.lt_succ_self _
  have old : ∀ b o, hp3.get? b = some o → h₁.get? b = some o := fun b o e => (hsb₁.2 b (by rw [← hC]; exact Nat.ne_of_lt (Heap.lt_size e))).trans (Heap.get?_push_of_some _ e)
  have fpl : ∀ b ∈ fp, b < C := fun b hb => by
    obtain ⟨o, e, _⟩ := T.obj _ _ st2 b hb
    rw [← hC, ← hs3, Heap.size_push]
    exact Nat.lt_succ_of_lt (Heap.lt_size e)
  have f3 : ∀ b ∈ fp, FpOk X pins H3 b := fun b hb => by
    obtain ⟨o, e, _⟩ := T.obj _ _ st2 b hb
    refine ⟨?_, (f2 b hb).2⟩
    rw [← hH3, upd_ne (by rw [← hD]; exact Nat.ne_of_lt (Heap.lt_size e))]
    exact (f2 b hb).1
  have nstk : ∀ b ∈ fp, b ∉ frs X.stack := fun b hb z => by
    obtain ⟨_, g1, g2, _⟩ := f3 b hb
    rcases List.mem_cons.mp (I3.stkSub b z) with q | q
    · exact g1 q
    · exact g2 q
  -- the block's context
  have YOk : (blk X scope cl C x { s2 with heap := hp3 } H3 fp).Ok := by
    refine ⟨I.ok.mod, ?_, I.ok.glob, I.ok.blt, Nat.le_of_eq hC, ?_, ?_, ?_, I.ok.hd, I.ok.frames, .inl rfl, ?_, ?_, ?_, ?_, ?_, ?_, ?_⟩
    · exact ok.kind
    · exact fun a b c h1 h2 => I.ok.inj a b c (hsub a c h1) (hsub b c h2)
    · intro a ha
      refine hall a ?_
      rcases ha with z | z
      · rcases lookup_relabel (env := X.env) z with q | ⟨_, q⟩
        · exact absurd rfl (ok.ncell _ (lookup_mem' q))
        · exact lookup_mem' q
      · rcases lookup_relabel (env := X.env) z with q | ⟨q, _⟩
        · exact lookup_mem' q
        · cases q
    · intro a c hf; cases hf
    · intro b hb
      refine ⟨Nat.ne_of_lt (fpl b hb), fun a c h1 => (f3 b hb).2.2.2.2.1 a c (hsub a c h1)⟩
    · exact I3.bs
    · exact Nat.le_trans I.ok.bsz I3.sz
    · intro b o e hb
      rcases (f3 b hb).2.2.2.1 with z | z
      · exact I.ok.noex b o e z
      · exact absurd (Nat.lt_of_lt_of_le (Heap.lt_size e) (Nat.le_trans I.ok.bsz z)) (Nat.lt_irrefl _)
    · exact nstk
    · exact I3.stack
    · exact I3.stkFree
  have Y0 : Inv (blk X scope cl C x { s2 with heap := hp3 } H3 fp) [] (none :: σ) H3 { s2 with heap := h₁, toks := s2.toks + ([] : List (Str × Value)).length } := by
    refine ⟨YOk, rfl, I3.bare, Un.kept old, ⟨_, hns₁, ?_⟩, ?_, ?_, ?_, fun p hp => by simp [blk] at hp, I3.hok.kept old, ?_⟩
    · intro i y v e1 e2 e3
      cases i with
      | zero => simp at e2
      | succ i =>
        have e1' : X.N[i]? = some y := by simpa [blk] using e1
        have e2' : σ[i]? = some (some v) := by simpa using e2
        have hy : y ∈ X.N := List.mem_of_getElem? e1'
        have hfree : (y, NameKind.free) ∈ scope.names := by
          have key : ∀ k, (relabel scope X.env).names.lookup y = some k → k ≠ .local → k = .cell ∨ k = .free → (y, NameKind.free) ∈ scope.names := fun k q n hk => by
            rcases lookup_relabel (env := X.env) q with z | ⟨_, z⟩
            · rcases hk with rfl | rfl
              · exact absurd rfl (ok.ncell _ (lookup_mem' z))
              · exact lookup_mem' z
            · exact lookup_mem' z
          rcases e3 with z | z | z
          · rcases lookup_relabel (env := X.env) z with q | ⟨q, _⟩
            · exact absurd q (ok.out y hy)
            · cases q
          · exact key _ z (by decide) (.inl rfl)
          · exact key _ z (by decide) (.inr rfl)
        have hk := ok.free _ hfree rfl
        obtain ⟨m, hn, hl⟩ := I3.loc
        obtain ⟨u, r, q⟩ := hl i y v e1' e2' (by rcases hk with z | z; exact .inr (.inl z); exact .inr (.inr z))
        refine ⟨u, r, .inr ⟨?_, ?_⟩⟩
        · rcases e3 with z | z | z
          · rcases lookup_relabel (env := X.env) z with q | ⟨q, _⟩
            · exact absurd q (ok.out y hy)
            · cases q
          · exact .inl z
          · exact .inr z
        · rcases q with ⟨z, _⟩ | ⟨_, c, hc', hcell⟩
          · rcases hk with q | q <;> (rw [z] at q; cases q)
          · obtain ⟨c', hc2⟩ := hall y hfree
            have : c' = c := by have := hsub y c' hc2; rw [hc'] at this; exact (Option.some.inj this).symm
            subst this
            obtain ⟨o, ho, hd⟩ := hcell
            exact ⟨c', hc2, o, old _ _ ho, hd⟩
    · intro a c h1
      obtain ⟨v, o, ho, hd⟩ := I3.cell a c (hsub a c h1)
      exact ⟨v, o, old _ _ ho, hd⟩
    · show H3 C = none
      exact I3.hok.fresh (Nat.le_of_eq hC)
    · exact fun a c h1 => I3.freeC a c (hsub a c h1)
    · show (none :: σ).length = (x :: X.N).length
      rw [List.length_cons, List.length_cons, I.len]
  -- behind the block
  have back : ∀ (s' : Shared) (v : Option V) (H' : Hp) (h' : Heap), Inv (blk X scope cl C x { s2 with heap := hp3 } H3 fp) [] (v :: σ) H' s' → Heap.SameBut C s'.heap h' → (∀ b ∈ fp, H' b = none) → Inv X pins σ H' { s' with heap := h' } := by
    intro s' v H' h' I' sb fr
    have neC : ∀ b o, hp3.get? b = some o → b ≠ C := fun b o e => by rw [← hC]; exact Nat.ne_of_lt (Heap.lt_size e)
    have U : Un (frs X.stack) fp H3 H' hp3 s'.heap := I'.base
    refine I3.call' (ch := fp) (H' := H') (s' := { s' with heap := h' }) I'.os ⟨fun b o e n h1 h2 => (sb.2 b (neC b o e)).trans (U.keep b o e n h1 h2), fun b o e n h1 h2 => ?_, U.free, fun b o e h2 => ?_, U.tups, U.frzs, U.tbls⟩ (fun b ob e => ?_) I'.bare fun b hb => ?_
    · obtain ⟨sl, q⟩ := U.slot b o e n h1 h2
      exact ⟨sl, (sb.2 b (neC b o e)).trans q⟩
    · obtain ⟨o', q⟩ := U.there b o e h2
      exact ⟨o', (sb.2 b (neC b o e)).trans q⟩
    · have fC : H' C = none := I'.free
      refine (I'.hok b ob e).stay (fun c w' hc q => (sb.2 c ?_).trans q) (fun _ q => q) fun _ _ q => q
      rintro rfl
      rcases hc with rfl | hc
      · rw [fC] at e; cases e
      · rw [fC] at hc; cases hc
    · obtain ⟨_, g1, _, g3, g4, g5⟩ := f3 b hb
      exact ⟨g3, g1, g4, g5⟩
  have stat : ∀ {H' : Hp}, (∀ b ∈ fp, H' b = none) → ∀ b ∈ fp, FpOk (blk X scope cl C x { s2 with heap := hp3 } H3 fp) [] H' b := fun hn b hb =>
    ⟨hn b hb, Nat.ne_of_lt (fpl b hb), nstk b hb, .inl hb, fun a c h1 => (f3 b hb).2.2.2.2.1 a c (hsub a c h1), fun p hp => by simp [blk] at hp⟩
  have st₁ : tn 0 h₁ := T.keep _ _ _ st2 fun b _ o e => old b o (by rw [← hs3]; exact Heap.get?_push_of_some _ e)
  have loop : codeAny (model X.prog X.w) X.A (.compLoop (.ListComp elt [⟨.Name x px, iter, ifs, 0⟩] scope pos) 0 (.ref it) (.ref D) (compEnvC scope cl C X.env)) (compPost (model X.prog X.w) X.A X.xe none (EP X pins σ Q) (.ref D) C)
      { s2 with heap := h₁, toks := s2.toks + ([] : List (Str × Value)).length } := by
    refine compLoop_T (fun n s' => ∃ i v ys H', Inv (blk X scope cl C x { s2 with heap := hp3 } H3 fp) [] (v :: σ) H' s' ∧ tn i s'.heap ∧ (∀ b ∈ fp, H' b = none) ∧ W i n ys H') ?_ m0 ⟨0, none, [], H3, Y0, st₁, fun b hb => (f3 b hb).1, w0⟩
    rintro n s4 ⟨i, v, ys, H4, I4, st4, fr4, w4⟩
    rcases turn i n ys H4 w4 with ⟨stop, qn⟩ | ⟨go, step⟩
    · refine thn (T.done (blk X scope cl C x { s2 with heap := hp3 } H3 fp) rfl rfl rfl hc i [] s4 (v :: σ) H4 _ I4 (stat fr4) st4 stop) fun r s5 ⟨hr, I5⟩ => ?_
      subst hr
      obtain ⟨m, hn, _⟩ := id I5.loc
      exact ⟨m, hn, fun h' sb => ⟨.ref D, H4, back s5 v H4 h' I5 sb fr4, rfl, qn⟩⟩
    · refine thn (T.item (blk X scope cl C x { s2 with heap := hp3 } H3 fp) rfl rfl rfl hc i [] s4 (v :: σ) H4 _ I4 (stat fr4) st4 go) fun r s5 ⟨u, hr, h5⟩ => ?_
      subst hr
      refine thn h5 fun _ s6 ⟨y, H6, I6, r6, y6, st6, fr6⟩ => ?_
      have I6' := I6.pinned (stat fr6) (T.obj _ _ st6)
      refine wpAny_assign_Name (store_ok (X := blk X scope cl C x { s2 with heap := hp3 } H3 fp) (i := 0) I6' ?_ rfl (.inl (lookup_relabel_local ok.hx)) r6 (fun s7 I7 => ?_) (.inr (lookup_relabel_local ok.hx)))
      · show (x :: X.N).Nodup
        exact List.nodup_cons.mpr ⟨fun z => ok.out x z ok.hx, ok.nd⟩
      have I7' : Inv (blk X scope cl C x { s2 with heap := hp3 } H3 fp) _ (some y :: σ) H6 s7 := I7
      refine thn (ht cl C { s2 with heap := hp3 } H3 fp _ s7 _ H6 _ I7' (step y H6 y6)) fun b s8 ⟨H8, I8, q8⟩ => ?_
      have keepIt : ∀ {σ' : St} {H' : Hp} {s' : Shared}, Inv (blk X scope cl C x { s2 with heap := hp3 } H3 fp) ([] ++ pinsAt fp s6.heap) σ' H' s' → tn (i + 1) s'.heap ∧ ∀ b ∈ fp, H' b = none := fun {σ' H' s'} I9 => by
        refine ⟨T.keep _ _ _ st6 fun b hb o e => (I9.pin (b, o) (List.mem_append_right _ (List.mem_append_right _ (mem_pinsAt hb e)))).1, fun b hb => ?_⟩
        obtain ⟨o, e, d⟩ := T.obj _ _ st6 b hb
        exact (I9.pin (b, o) (List.mem_append_right _ (List.mem_append_right _ (mem_pinsAt hb e)))).2.1
      cases b with
      | false =>
        obtain ⟨m', hm, w'⟩ := q8
        obtain ⟨k1, k2⟩ := keepIt I8
        exact ⟨m', hm, i + 1, some y, ys, H8, I8.unpinned, k1, k2, w'⟩
      | true =>
        have q8' : te (some y :: σ) H8 _ := q8
        show wpAny _ _ (eval elt _) _ _ _
        refine thn (he cl C { s2 with heap := hp3 } H3 fp _ s8 _ H8 _ I8 q8') fun z s9 ⟨zv, H9, I9, r9, hD9, hz9, m', hm, w'⟩ => ?_
        refine thn (mt_append (X := blk X scope cl C x { s2 with heap := hp3 } H3 fp) _ s9 _ H9 (.ref D) [zv] (.ref D) [z] (fun _ H' => H' = upd H9 D (.lst (ys ++ [zv]))) I9 rfl (.cons r9 .nil) ⟨D, ys, zv, rfl, rfl, hD9, hz9, rfl⟩) fun _ s10 ⟨_, H10, I10, _, e10⟩ => ?_
        subst e10
        obtain ⟨k1, k2⟩ := keepIt I10
        exact ⟨m', hm, i + 1, some y, ys ++ [zv], _, I10.unpinned, k1, k2, w'⟩
  exact codeAny_compStart_list loop (T.self X.A 0 _ _ _ st₁ loop)
end L2
namespace L2
open PySem PySem.Spec PyProof.Rows
def Nxt (n i : Nat) (P : Prop) : Prop := ∃ m', m' < n - i ∧ m' = n - (i + 1) ∧ i + 1 ≤ n ∧ P
theorem Nxt.mk {n i : Nat} {P : Prop} (h : i < n) (p : P) : Nxt n i P := ⟨_, by omega, rfl, h, p⟩
theorem comp_list {K : PySem.W.Frag} {a D : Addr} {xs : List V} {te : TE} {σ : St} {H : Hp} {R : Hp → Prop} (Pv : Nat → List V → Hp → Prop) (h0 : Pv 0 [] (upd H D (.lst []))) (hl : ∀ i ys H, i ≤ xs.length → Pv i ys H → SqL K H a xs)
    (hs : ∀ i x ys H, xs[i]? = some x → Pv i ys H → te (some x :: σ) H fun y H3 => H3 D = some (.lst ys) ∧ ys.length < sizeLine ∧ Nxt xs.length i (Pv (i + 1) (ys ++ [y]) (upd H3 D (.lst (ys ++ [y])))))
    (hd : ∀ ys H, Pv xs.length ys H → R H) :
    ∃ W : Nat → Nat → List V → Hp → Prop, (∃ m, W 0 m [] (upd H D (.lst []))) ∧
      ∀ i m ys H, W i m ys H → ((Itl K a).stop i H ∧ R H) ∨ ((Itl K a).go i H ∧ ∀ x H', (Itl K a).yld i H x H' → tYes (some x :: σ) H' fun b H2 =>
        if b = true then te (some x :: σ) H2 fun y H3 => H3 D = some (.lst ys) ∧ ys.length < sizeLine ∧ ∃ m', m' < m ∧ W (i + 1) m' (ys ++ [y]) (upd H3 D (.lst (ys ++ [y])))
        else ∃ m', m' < m ∧ W (i + 1) m' ys H2) := by
  refine ⟨fun i m ys H => m = xs.length - i ∧ i ≤ xs.length ∧ Pv i ys H, ⟨xs.length, by simp, Nat.zero_le _, h0⟩, ?_⟩
  rintro i m ys H ⟨rfl, hi, p⟩
  have q := hl i ys H hi p
  by_cases hlt : i < xs.length
  · refine .inr ⟨⟨xs, xs[i], q, by simp [hlt]⟩, fun x H' y => ?_⟩
    obtain ⟨e, y⟩ := y
    subst e
    exact hs i x ys H' (y xs q) p
  · have e : i = xs.length := by omega
    subst e
    exact .inl ⟨⟨xs, q, Nat.le_refl _⟩, hd ys H p⟩
theorem comp_range {lo : Int} {n : Nat} {D : Addr} {te : TE} {σ : St} {H : Hp} {R : Hp → Prop} (Pv : Nat → List V → Hp → Prop) (h0 : Pv 0 [] (upd H D (.lst [])))
    (hs : ∀ i ys H, i < n → Pv i ys H → te (some (.int (lo + i)) :: σ) H fun y H3 => H3 D = some (.lst ys) ∧ ys.length < sizeLine ∧ Nxt n i (Pv (i + 1) (ys ++ [y]) (upd H3 D (.lst (ys ++ [y])))))
    (hd : ∀ ys H, Pv n ys H → R H) :
    ∃ W : Nat → Nat → List V → Hp → Prop, (∃ m, W 0 m [] (upd H D (.lst []))) ∧
      ∀ i m ys H, W i m ys H → ((Itr lo n).stop i H ∧ R H) ∨ ((Itr lo n).go i H ∧ ∀ x H', (Itr lo n).yld i H x H' → tYes (some x :: σ) H' fun b H2 =>
        if b = true then te (some x :: σ) H2 fun y H3 => H3 D = some (.lst ys) ∧ ys.length < sizeLine ∧ ∃ m', m' < m ∧ W (i + 1) m' (ys ++ [y]) (upd H3 D (.lst (ys ++ [y])))
        else ∃ m', m' < m ∧ W (i + 1) m' ys H2) := by
  refine ⟨fun i m ys H => m = n - i ∧ i ≤ n ∧ Pv i ys H, ⟨n, by simp, Nat.zero_le _, h0⟩, ?_⟩
  rintro i m ys H ⟨rfl, hi, p⟩
  by_cases hlt : i < n
  · refine .inr ⟨hlt, fun x H' y => ?_⟩
    obtain ⟨e, y⟩ := y
    subst e y
    exact hs i ys H' hlt p
  · have e : i = n := by omega
    subst e
    exact .inl ⟨Nat.le_refl _, hd ys H p⟩
end L2
end

section
set_option Elab.async false
set_option linter.all false
set_option maxRecDepth 100000
namespace L2
open PySem PySem.Spec PyProof.Rows

def S (l : List Nat) : Str := ⟨l.toArray⟩
theorem S_cps (l : List Nat) : (S l).cps.toList = l := rfl
theorem S_len (l : List Nat) : (S l).length = l.length := rfl
theorem S_inj {a b : List Nat} (h : S a = S b) : a = b := congrArg (fun s : Str => s.cps.toList) h
theorem S_of (z : Str) : S z.cps.toList = z := by cases z; rfl
theorem S_app (a b : List Nat) : S a ++ S b = S (a ++ b) := by
  show (⟨a.toArray ++ b.toArray⟩ : Str) = ⟨(a ++ b).toArray⟩
  simp
section
variable {X : Cx} {a b c e o : Expr} {ta tb tc te to : TE} {pos : Pos}

theorem pe_strS (l : List Nat) {x : Str} {j pos} (h : x = S l) : PE X (.Constant (.str x) j pos) (tC (.str (S l))) := by rw [h]; exact pe_str

def rAddS : R2 := fun x y H Q => ∃ i j, x = .str (S i) ∧ y = .str (S j) ∧ i.length + j.length ≤ sizeLine ∧ Q (.str (S (i ++ j))) H
theorem op_addS : OpR X (binaryOp .Add) rAddS := by
  intro pins s σ H x y v u Q I rx ry h
  obtain ⟨i, j, rfl, rfl, hz, q⟩ := h
  exact op_add_str pins s σ H _ _ v u Q I rx ry ⟨S i, S j, rfl, rfl, hz, by rw [S_app]; exact q⟩

def rIxS' : R2 := fun x y H Q => ∃ l i c, x = .str (S l) ∧ y = .int i ∧ l.length ≤ sizeLine ∧ atI l i = some c ∧ Q (.str (S [c])) H
theorem ix_S : IxR X rIxS' := by
  intro value slice pins s σ H x y v u Q I rx ry h hs
  obtain ⟨l, i, c, rfl, rfl, hz, hc, q⟩ := h
  exact ix_str value slice pins s σ H _ _ v u Q I rx ry ⟨S l, i, c, rfl, rfl, hz, hc, q⟩ hs

def rLenS : List V → Hp → VK → Prop := fun xs H Q => ∃ l, xs = [.str (S l)] ∧ l.length ≤ sizeLine ∧ Q (.int l.length) H
theorem call_lenS : CallR X (.builtin "len") rLenS := by
  intro pins s σ H xs us Q I r h
  obtain ⟨l, rfl, hz, q⟩ := h
  exact call_len_str pins s σ H _ us Q I r ⟨S l, rfl, hz, q⟩

def rInS : R2 := fun x y H Q => ∃ c l, x = .str (S [c]) ∧ y = .str (S l) ∧ Q (.bl (decide (c ∈ l))) H
theorem op_inS : OpR X (compareOp .In) rInS := by
  intro pins s σ H x y v u Q I rx ry h
  obtain ⟨c, l, rfl, rfl, q⟩ := h
  exact op_in_str pins s σ H _ _ v u Q I rx ry ⟨S [c], S l, rfl, rfl, by
    have e := StrLaws.found_one (S l) c
    rw [S_cps] at e
    rw [show (S [c]) = (⟨#[c]⟩ : Str) from rfl, e]; exact q⟩

def cutN (l : List Nat) (lo hi : Option Int) : List Nat := (l.drop (HT.sIx l.length 0 lo)).take (HT.sIx l.length l.length hi - HT.sIx l.length 0 lo)
theorem idx_gen (lo hi : Option Int) (n : Nat) : Builtin.Str.strSliceIndices lo hi 1 n = (List.range (HT.sIx n n hi - HT.sIx n 0 lo)).map (fun k => HT.sIx n 0 lo + k) := by
  have clip : ∀ (v : Int) (d : Nat), max (0 : Int) (min (if v < 0 then v + (n : Int) else v) (n : Int)) = ((HT.sIx n d (some v) : Nat) : Int) := fun v d => by
    rw [← HT.clip_eq]; split <;> omega
  have key : ∀ a b : Nat, sliceRange (a : Int) (b : Int) 1 = (List.range (b - a)).map (fun k => a + k) := fun a b => by
    simp only [sliceRange, show ((1 : Int) > 0) = True from by simp, if_true]
    by_cases hlt : (a : Int) < b
    · have e3 : (((b : Int) - a + 1 - 1) / 1).toNat = b - a := by first | omega | (simp; done) | (simp; omega)
      simp only [hlt, if_true, e3]
      refine List.map_congr_left fun k _ => ?_
      omega
    · have : b - a = 0 := by omega
      simp [hlt, this]
  unfold Builtin.Str.strSliceIndices
  simp only [show ((1 : Int) > 0) = True from by simp, if_true]
  cases lo with
  | none =>
    cases hi with
    | none => exact key 0 n
    | some j => dsimp only; rw [clip j n]; exact key 0 _
  | some i =>
    cases hi with
    | none => dsimp only; rw [clip i 0]; exact key _ n
    | some j => dsimp only; rw [clip i 0, clip j n]; exact key _ _
theorem slice_gen (l : List Nat) (lo hi : Option Int) : Txt.slice (S l) lo hi = S (cutN l lo hi) := by
  have hle : HT.sIx l.length l.length hi ≤ l.length := HT.sIx_le _ _ (Nat.le_refl _) _
  have key : ((Builtin.Str.strSliceIndices lo hi 1 (S l).length).filterMap ((S l).cps[·]?)) = cutN l lo hi := by
    rw [idx_gen]
    have h := StrLaws.picks l (HT.sIx l.length l.length hi - HT.sIx l.length 0 lo) (HT.sIx l.length 0 lo)
    unfold cutN
    by_cases hc : HT.sIx l.length 0 lo ≤ HT.sIx l.length l.length hi
    · have h2 := h (by omega)
      rw [S_len]
      simpa [S] using h2
    · have e : HT.sIx l.length l.length hi - HT.sIx l.length 0 lo = 0 := by omega
      rw [S_len, e]; simp
  unfold Txt.slice
  split
  · rename_i hc
    have hlen : (Builtin.Str.strSliceIndices lo hi 1 (S l).length).length = l.length := by
      simp at hc
      simpa [S_len] using hc
    have hl2 : HT.sIx l.length l.length hi - HT.sIx l.length 0 lo = l.length := by rw [idx_gen, S_len] at hlen; simpa using hlen
    have h0 : HT.sIx l.length 0 lo = 0 ∨ l.length = 0 := by omega
    have e : cutN l lo hi = l := by
      unfold cutN
      rw [hl2]
      rcases h0 with z | z
      · rw [z]; simp
      · have : l = [] := List.length_eq_zero_iff.mp z
        subst this; simp
    rw [e]
  · rw [key]; rfl
def rSlS : V → Option Int → Option Int → Hp → VK → Prop := fun x lo hi H Q => ∃ l, x = .str (S l) ∧ l.length ≤ sizeLine ∧ Q (.str (S (cutN l lo hi))) H
theorem part_of {v : Value} {o : Option Int} (p : IsPart v o) : ∃ l : Option (Int × Tok), v = partValue l ∧ l.map (·.1) = o := by
  cases p with
  | none => exact ⟨none, rfl, rfl⟩
  | int i t => exact ⟨some (i, t), rfl, rfl⟩
theorem sl_S : SlR X rSlS := by
  intro pins s σ H x v vl vu lo hi sl Q I rx hs pl pu h
  obtain ⟨l, rfl, hz, q⟩ := h
  obtain ⟨t, rfl⟩ := rx
  obtain ⟨p1, rfl, rfl⟩ := part_of pl
  obtain ⟨p2, rfl, rfl⟩ := part_of pu
  refine ⟨"str", _, F.slot_str_getitem.lookup, typeIs_str _ _ _, ?_⟩
  refine wpAny_getItem_str_slice (l := p1) (u := p2) (st := none) hs rfl ?_
  have e := slice_gen l (p1.map (·.1)) (p2.map (·.1))
  have hle : (Txt.slice (S l) (p1.map (·.1)) (p2.map (·.1))).length ≤ sizeLine := Nat.le_trans (Txt.slice_le _ _ _) hz
  refine post_val_or_str ⟨hle, fun t' k => ?_⟩
  have e' : (if ((Option.map (fun x : Int × Tok => x.1) none).getD 1 == 1 && (slicePicked (S l) p1 p2 none).length == (S l).length) = true then S l else ⟨((slicePicked (S l) p1 p2 none).filterMap ((S l).cps[·]?)).toArray⟩) = S (cutN l (p1.map (·.1)) (p2.map (·.1))) := e
  exact ⟨.str (S (cutN l (p1.map (·.1)) (p2.map (·.1)))), H, I.tok _, ⟨t', congrArg (fun z => Value.str z t') e'⟩, q⟩

abbrev Ts (ls : List (List Nat)) : List V := ls.map fun l => V.str (S l)
def rInst (K : PySem.W.Frag) : List V → Hp → VK → Prop := fun xs H Q => ∃ x n t b, xs = [x, .ty n] ∧ TyOf K H x t ∧ PySem.W.kitOne K t (.type n) = some b ∧ Q (.bl b) H
theorem call_isinst : CallR X (.builtin "isinstance") (rInst X.K) := by
  intro pins s σ H xs us Q I r h
  obtain ⟨x, n, t, b, rfl, ty, k, q⟩ := h
  obtain ⟨u, w', rfl, r1, r2⟩ := vals2 r
  cases r2
  exact isinst_ok I r1 ty k fun tk => ⟨.bl b, H, I.tok tk, rfl, q⟩

def rMulS : R2 := fun x y H Q => ∃ l n, x = .str (S l) ∧ y = .int (n : Nat) ∧ 1 ≤ n ∧ n < 1000 ∧ l.length < 1000 ∧ Q (.str (S (List.replicate n l).flatten)) H
theorem rep_fold (l : List Nat) : ∀ (n : Nat) (acc : Array Nat), ((List.replicate n l.toArray).foldl (· ++ ·) acc).toList = acc.toList ++ (List.replicate n l).flatten
  | 0, acc => by simp
  | n + 1, acc => by
    rw [List.replicate_succ, List.foldl_cons, rep_fold l n, List.replicate_succ]
    simp
theorem op_mulS : OpR X (binaryOp .Mult) rMulS := by
  intro pins s σ H x y v u Q I rx ry h
  obtain ⟨l, n, rfl, rfl, h1, h2, h3, q⟩ := h
  obtain ⟨t, rfl⟩ := rx
  obtain ⟨t', rfl⟩ := ry
  have hsmall : l.length * n ≤ 1000 * 1000 := Nat.mul_le_mul (Nat.le_of_lt h3) (Nat.le_of_lt h2)
  have hbig : (1000 * 1000 : Nat) ≤ sizeLine := by decide
  refine PySem.P.mul_str ?_ ?_ ?_ ?_
  · rw [decide_eq_false (by omega), decide_eq_false (by omega)]; rfl
  · intro _ _
    have e : (2 ^ 63 - 1 : Int) / (n : Int) ≥ 1000 := by
      refine Int.le_ediv_of_mul_le (by omega) ?_
      have : (1000 : Int) * (n : Int) ≤ 1000 * 1000 := by omega
      omega
    rw [S_len]
    omega
  · intro _ _
    show decide (_ > _) = false
    rw [decide_eq_false]
    rw [S_len, Int.toNat_natCast]
    omega
  · rw [if_neg (by omega)]
    have hres : (⟨(List.replicate (n : Int).toNat (S l).cps).foldl (· ++ ·) #[]⟩ : Str) = S (List.replicate n l).flatten := by
      have e := rep_fold l n #[]
      rw [Int.toNat_natCast]
      unfold S
      congr 1
      apply Array.toList_inj.mp
      simpa using e
    rw [hres]
    split
    · rename_i hc
      have e : (List.replicate n l).flatten = l := by
        simp at hc
        rcases hc with z | z
        · have : n = 1 := by omega
          subst this; simp
        · have : l = [] := by simpa [S, Str.length] using z
          subst this; simp
      rw [e] at q
      exact ⟨.str (S l), H, I, ⟨t, rfl⟩, q⟩
    · refine ⟨?_, .str (S (List.replicate n l).flatten), H, I.tok _, ⟨_, rfl⟩, q⟩
      rw [S_len, len_rep, Nat.mul_comm]
      omega

theorem joinNil (ls : List (List Nat)) : Txt.join (S []) (ls.map S) = S ls.flatten := by
  unfold Txt.join Builtin.Str.glued
  have key : ∀ (ls : List (List Nat)) (acc : Array Nat), ((ls.map S).foldl (fun acc p => acc ++ (S []).cps ++ p.cps) acc).toList = acc.toList ++ ls.flatten := by
    intro ls
    induction ls with
    | nil => intro acc; simp
    | cons l r ih => intro acc; rw [List.map_cons, List.foldl_cons, ih]; simp [S]
  unfold S
  congr 1
  apply Array.toList_inj.mp
  cases ls with
  | nil => rfl
  | cons l r =>
    have := key r (S l).cps
    have e : (List.map S (l :: r)).drop 1 = List.map S r := rfl
    show (((List.map S (l :: r)).drop 1).foldl _ (S l).cps).toList = _
    rw [e]
    exact this.trans (by simp [S])
def rJoin (K : PySem.W.Frag) : V → List V → Hp → VK → Prop := fun x vs H Q => ∃ p ls, x = .str (S []) ∧ vs = [.ref p] ∧ SqL K H p (Ts ls) ∧ ls.flatten.length ≤ 1000 ∧ Q (.str (S ls.flatten)) H
theorem strs_of : ∀ {ls : List (List Nat)} {us : List Value}, Vals (Ts ls) us → StrsAre us (ls.map S)
  | [], _, .nil => .nil
  | l :: r, _, .cons q t => by
    obtain ⟨t', rfl⟩ := q
    exact .cons (S l) t' (strs_of t)
theorem sum_len (ls : List (List Nat)) : ((ls.map S).map (·.length)).sum = ls.flatten.length := by
  induction ls with
  | nil => rfl
  | cons l r ih => rw [List.map_cons, List.map_cons, List.sum_cons, ih, List.flatten_cons, List.length_append, S_len]
theorem mt_join : MtR X "str.join" (rJoin X.K) := by
  intro pins s σ H x vs v us Q I rx rv h
  obtain ⟨p, ls, rfl, rfl, hq, hz, q⟩ := h
  obtain ⟨t, rfl⟩ := rx
  obtain ⟨u, rfl, ru⟩ := vals1 rv
  cases ru
  obtain ⟨its, r, pl, _⟩ := I.list hq
  refine join_list pl.isList (ys := ls.map S) (by simpa using strs_of r) ?_ fun t' k => ?_
  · rw [sum_len]; show _ + _ * 0 ≤ _; omega
  · exact ⟨.str (S ls.flatten), H, I.tok k, ⟨t', congrArg (fun z => Value.str z t') (joinNil ls)⟩, q⟩
end
end L2
end

section
set_option Elab.async false
set_option linter.all false
set_option maxRecDepth 100000
namespace L2
open PySem PySem.Spec PyProof.Rows

structure DefAt (K : PySem.W.Frag) (mg : Str → Option Value) (name : Str) (st : Stmt) (ps : List Str) : Prop where
  ex : ∃ f fd, Fun K name name st f fd ∧ Binds K fd ps [] ∧ mg name = some (.ref f)
structure Def (P : Program) (w : World) (K : PySem.W.Frag) (mg : Str → Option Value) (base : Heap) (name : Str) (k : Nat) (ps : List Str) (sp : Sp) : Prop where
  ex : ∃ f fd, FnOk P w K mg base CX0 k f fd ps sp ∧ Binds K fd ps [] ∧ mg name = some (.ref f) ∧ PySem.W.keepIn K (.ref f) = true
theorem DefAt.ok {P : Program} {w : World} {K : PySem.W.Frag} {mg : Str → Option Value} {base : Heap} {name : Str} {st : Stmt} {N ps : List Str} {k : Nat} {sp : Sp} (D : DefAt K mg name st ps) (S : FnScope N ps (defScope st)) (len : ∀ vs H Q E, sp vs H Q E → vs.length = ps.length)
    (hbody : ∀ (f : Addr) (cdv : Value) (A : Around) (outer : List Env) (s : Shared) (H : Hp) (vs : List V) (Q : VK) (E : XK), Room k (A.deeper (envOfC name (defScope st) s.heap.objs.size f cdv)) → sp vs H Q E →
      ∃ t, PSs (cxOf CX0 P w K mg base N name (defScope st) f cdv A outer s H E).nox (defBody st) t ∧ t { nx := fun _ H' => Q .non H', rt := Q } (start N vs) H) : Def P w K mg base name (k + 1) ps sp := by
  obtain ⟨f, fd, F, b, g⟩ := D.ex
  exact ⟨f, fd, F.ok S len (hbody f), b, g, F.kp⟩
section
variable {X : Cx} {x : Str} {p pos : Pos} {e : Expr} {es : List Expr} {t : TA}
theorem pe_own {k : Nat} {ps : List Str} {sp : Sp} (D : Def X.prog X.w X.K X.mg X.base x k ps sp) (hr : Room k X.A) (hg : Gl X x) (ha : PA X (e :: es) t) (hdb : (x == ("__debug__" : Str)) = false := by decide)
    (hs : starEach (e :: es) X.env = (false, eval e X.env) :: starEach es X.env := by rfl) (hpl : (backTo pos (starEach es X.env)).any (·.1) = false := by rfl) :
    PE X (.Call (.Name x p) (e :: es) [] pos) (tCall sp [] E0 t) := by
  obtain ⟨f, fd, G, b, g, kp⟩ := D.ex
  exact pe_call G hr hg g kp b .nil pass0 ha hdb hs hpl
end
theorem Same.upd {H : Hp} {p : Addr} {o : HO} (h : H p = none) : Same H (upd H p o) := fun b o' e => by rw [upd_ne (ne_of_none e h)]; exact e
theorem Same.upd' {H H' : Hp} {p : Addr} {o : HO} (s : Same H H') (h : H p = none) : Same H (L2.upd H' p o) := fun b o' e => by rw [upd_ne (ne_of_none e h)]; exact s b o' e
end L2
namespace L2
open PySem PySem.Spec PyProof.Rows
def noStar : Expr → Bool
  | .Starred .. => false
  | _ => true
theorem star_of {e : Expr} {es : List Expr} {env : Env} (h : noStar e = true) : starEach (e :: es) env = (false, eval e env) :: starEach es env := by
  cases e <;> first | rfl | cases h
section
variable {X : Cx} {e : Expr} {es : List Expr} {te : TE} {t : TA}
theorem pa_c {i j pos} (h : PA X es t) : PA X (.Constant (.int i) j pos :: es) (tCons (tC (.int i)) t) := pa_cons pe_int h (star_of rfl)
end
end L2
namespace L2
open PySem PySem.Spec PyProof.Rows
end L2
namespace L2
open PySem PySem.Spec PyProof.Rows
theorem defat_mk {K : PySem.W.Frag} {h : Heap} {mg : Str → Option Value} {name : Str} {st : Stmt} {ps : List Str} {f : Addr} {oc : Value} {od an : Option Addr} {osl : Array (Option Value)} {kV doc pm cdv ct : Value} (X : K.In h) (G : h.Ns mainGlobals mg)
    (a : PySem.W.nsIn K mainGlobals name = some (some (.ref f))) (l : K.lookup f = some ⟨oc, od, .func (PySem.W.fnOf name name (defArgs st) (defBody st) (defScope st) .none kV doc pm an cdv ct), osl⟩)
    (c : PySem.W.codeIn K cdv name = true) (k : PySem.W.keepIn K (.ref f) = true)
    (hb : ∀ (kV doc pm : Value) (an : Option Addr) (cdv ct : Value) (us : List Value), us.length = ps.length → bindArgs (PySem.W.fnOf name name (defArgs st) (defBody st) (defScope st) .none kV doc pm an cdv ct) ⟨us, []⟩ = pure (ps.zip us)) : DefAt K mg name st ps :=
  ⟨f, _, fun_mk l c k, (fun_mk l c k).binds hb, PySem.W.mg_of X G a⟩
theorem law_at {K : PySem.W.Frag} {h : Heap} {mg : Str → Option Value} {st : Stmt} {x : Str} {f fa : Addr} {oc : Value} {od an : Option Addr} {osl : Array (Option Value)} {kV doc pm cdv ct : Value} (X : K.In h) (G : h.Ns mainGlobals mg) (hfa : mg "law" = some (.ref fa))
    (a : PySem.W.nsIn K mainGlobals "law" = some (some (.ref f))) (l : K.lookup f = some ⟨oc, od, .func (PySem.W.fnOf "law" "law" (defArgs st) (defBody st) (defScope st) .none kV doc pm an cdv ct), osl⟩)
    (c : PySem.W.codeIn K cdv "law" = true) (k : PySem.W.keepIn K (.ref f) = true)
    (hb : ∀ (kV doc pm : Value) (an : Option Addr) (cdv ct v : Value), bindArgs (PySem.W.fnOf "law" "law" (defArgs st) (defBody st) (defScope st) .none kV doc pm an cdv ct) ⟨[v], []⟩ = pure [(x, v)]) :
    ∃ fd : FuncData, Fun K "law" "law" st fa fd ∧ ∀ (s : Shared) (v : Value), BindsTo s fd ⟨[v], []⟩ [(x, v)] := by
  have e := hfa.symm.trans (PySem.W.mg_of X G a)
  cases e
  exact ⟨_, fun_mk l c k, fun s v => .of_eq (hb kV doc pm an cdv ct v)⟩
def spLaw (K : PySem.W.Frag) : Sp := fun vs H Q _ => ∃ (a : Addr) (ns : List Int), vs = [.ref a] ∧ SqL K H a (ns.map V.int) ∧ ns.length ≤ 63 ∧ ∀ H', Q (.bl true) H'
theorem walkLaw {x : Str} {l : PySem.W.OpenLaw} {q : Program} {loose : List Str} {XP : (Str → Option Value) → Heap → Prop} {YP : World → Heap → Prop} {d : DefRec} {K : Params → PySem.W.Frag} (hn : l.most = some 63) (hdf : d.params.defaults = [])
    (hY : ∀ (w : World) (h : Heap), YP w h → (K w.params).In h)
    (F : ∀ (w : World) (mg : Str → Option Value) (fa : Addr) (h : Heap), (K w.params).In h → h.Ns mainGlobals mg → mg d.name = some (.ref fa) →
      ∃ fd : FuncData, (∀ (s : Shared) (u : Value), BindsTo s fd ⟨[u], []⟩ [(x, u)]) ∧ ∀ base : Heap, (K w.params).In base → base.Ns mainGlobals mg → FnOk l.prog w (K w.params) mg base CX0 20 fa fd [x] (spLaw (K w.params))) :
    PySem.W.WalkO q loose XP YP l.row.toRowW d [] (fun f vs => PySem.call f vs) :=
  L2.walk_of (n := 63) (k := 20) (x := x) (CX := fun _ => CX0) (sp := fun w => spLaw (K w.params)) hn (by decide) hdf ⟨rfl, by decide, by decide⟩ hY F (fun _ _ a ns hl _ hS => ⟨a, ns, rfl, hS, hl, fun _ => rfl⟩) fun _ _ _ _ _ z => z
end L2
end

section
set_option Elab.async false
set_option linter.all false
set_option maxRecDepth 100000
namespace L2
open PySem PySem.Spec PyProof.Rows
namespace RV
section
variable {prog : Program} {w : World} {A : Around} {E : Value → Shared → Prop} {s : Shared}
end
end RV
end L2
end

section
set_option Elab.async false
set_option linter.all false
set_option maxRecDepth 100000
namespace L2
open PySem PySem.Spec PyProof.Rows
section
variable {X : Cx} {o e st : Expr} {to te tst : TE} {apos cpos rpos pos p p2 : Pos}
end
end L2
end

section
set_option Elab.async false
set_option linter.all false
set_option maxRecDepth 100000
namespace L2
open PySem PySem.Spec PyProof.Rows
structure QE (X : Cx) (e : Expr) (t : TE) : Prop where
  out : PE X e t
structure QT (X : Cx) (e : Expr) (t : TT) : Prop where
  out : PT X e t
structure QW (X : Cx) (e : Expr) (t : TT) : Prop where
  out : PW X e t
structure QA (X : Cx) (es : List Expr) (t : TA) : Prop where
  out : PA X es t
structure QS (X : Cx) (st : Stmt) (t : TS) : Prop where
  out : PS X st t
structure QSs (X : Cx) (st : List Stmt) (t : TS) : Prop where
  out : PSs X st t
structure QG (X : Cx) (e : Expr) (t : TG) : Prop where
  out : PG X e t
structure QGs (X : Cx) (es : List Expr) (t : TGs) : Prop where
  out : PGs X es t
structure QI (X : Cx) (tg iter : Expr) (wi : TI) : Prop where
  out : PI X tg iter wi
structure QO (X : Cx) (e : Option Expr) (t : TO) : Prop where
  out : PO X e t
structure QC (X : Cx) (op : CmpOp) (a b : Expr) (t : TE) : Prop where
  out : PC X op a b t
structure QTs (X : Cx) (ifs : List Expr) (t : TT) : Prop where
  out : PTs X ifs t
theorem QW.qt {X : Cx} {e : Expr} {t : TT} (h : QW X e t) : QT X e t := ⟨h.out.pt⟩
section
variable {X : Cx} {st : Stmt} {rest : List Stmt} {t u : TS} {e : Expr} {te : TE} {pos : Pos}
theorem qss_nil  : QSs X [] tNext :=
  ⟨pss_nil⟩
end
section
variable {X : Cx} {st : Stmt} {rest : List Stmt} {t u : TS} {e : Expr} {te : TE} {pos : Pos}
theorem qss_cons (h1 : QS X st t) (h2 : QSs X rest u) : QSs X (st :: rest) (tSeq t u) :=
  ⟨pss_cons h1.out h2.out⟩
end
section
variable {X : Cx} {st : Stmt} {rest : List Stmt} {t u : TS} {e : Expr} {te : TE} {pos : Pos}
theorem qss_one (h1 : QS X st t) : QSs X [st] t :=
  ⟨pss_one h1.out⟩
end
section
variable {X : Cx} {st : Stmt} {rest : List Stmt} {t u : TS} {e : Expr} {te : TE} {pos : Pos}
theorem qs_if {c : Expr} {a b : List Stmt} {tc : TT} (hc : QT X c tc) (ha : QSs X a t) (hb : QSs X b u) : QS X (.If c a b pos) (tIfS tc t u) :=
  ⟨ps_if hc.out ha.out hb.out⟩
end
section
variable {X : Cx} {st : Stmt} {rest : List Stmt} {t u : TS} {e : Expr} {te : TE} {pos : Pos}
theorem qs_ret (he : QE X e te) : QS X (.Return (some e) pos) (tRet te) :=
  ⟨ps_ret he.out⟩
end
section
variable {X : Cx} {st : Stmt} {rest : List Stmt} {t u : TS} {e : Expr} {te : TE} {pos : Pos}
end
section
variable {X : Cx} {st : Stmt} {rest : List Stmt} {t u : TS} {e : Expr} {te : TE} {pos : Pos}
theorem qs_expr (he : QE X e te) (hs : swapsWith e none pos.line X.env = pure false := by rfl) : QS X (.Expr e pos) (tDrop te) :=
  ⟨ps_expr he.out hs⟩
end
section
variable {X : Cx} {tg : Expr}
theorem qs_for {iter : Expr} {body : List Stmt} {wi : TI} {g : TG} {tb : TS} {pos : Pos} (hp : PassesOwn (model X.prog X.w) X.A X.env X.xe) (hc : X.calm = true) (hi : QI X tg iter wi) (hg : QG X tg g) (hb : QSs X body tb) (hs : ∀ x, foldedSetIterable iter X.env x = pure x := by intro _; rfl) : QS X (.For tg iter body [] pos) (tFor wi g tb) :=
  ⟨ps_for hp hc hi.out hg.out hb.out hs⟩
end
section
variable {X : Cx} {st : Stmt} {rest : List Stmt} {t u : TS} {e : Expr} {te : TE} {pos : Pos}
theorem qs_while {c : Expr} {body : List Stmt} {tc : TT} {tb : TS} (hp : PassesOwn (model X.prog X.w) X.A X.env X.xe) (hc : QT X c tc) (hb : QSs X body tb) : QS X (.While c body [] pos) (tWhile tc tb) :=
  ⟨ps_while hp hc.out hb.out⟩
end
section
variable {X : Cx} {pos : Pos}
theorem qs_set {i : Nat} {x : Str} {e : Expr} {te : TE} {pos' : Pos} (hN : X.N.Nodup) (hi : X.N[i]? = some x) (hx : Loc X.env.scope x) (he : QE X e te) (hs : swapsWith e (some (.Name x pos')) pos.line X.env = pure false := by rfl) (hf : X.fn x = true ∨ X.env.scope.names.lookup x = some .local := by first | exact .inl rfl | exact .inr rfl | assumption) : QS X (.Assign [.Name x pos'] e pos) (tAsg te (gName i)) :=
  ⟨ps_set hN hi hx he.out hs hf⟩
end
section
variable {X : Cx} {st : Stmt} {rest : List Stmt} {t u : TS} {e : Expr} {te : TE} {pos : Pos}
end
section
variable {X : Cx} {st : Stmt} {rest : List Stmt} {t u : TS} {e : Expr} {te : TE} {pos : Pos}
end
section
variable {X : Cx} {st : Stmt} {rest : List Stmt} {t u : TS} {e : Expr} {te : TE} {pos : Pos}
end
section
variable {X : Cx} {o e value : Expr} {f : Str} {pos pos' tpos : Pos} {ta tv : TE}
theorem qs_fld (ha : QE X o ta) (hv : QE X value tv) (hs : swapsWith value (some (.Attribute o f pos')) pos.line X.env = pure false) : QS X (.Assign [.Attribute o f pos'] value pos) (sFld X.K ta tv f) :=
  ⟨ps_fld ha.out hv.out hs⟩
end
section
variable {X : Cx} {pos : Pos}
end
section
variable {X : Cx} {pos : Pos}
theorem qg_name {i : Nat} {x : Str} (hN : X.N.Nodup) (hi : X.N[i]? = some x) (hx : Loc X.env.scope x) (hf : X.fn x = true ∨ X.env.scope.names.lookup x = some .local := by first | exact .inl rfl | exact .inr rfl | assumption) : QG X (.Name x pos) (gName i) :=
  ⟨pg_name hN hi hx hf⟩
end
section
variable {X : Cx} {pos : Pos}
end
section
variable {X : Cx} {pos : Pos}
end
section
variable {X : Cx} {pos : Pos}
end
section
variable {X : Cx} 
theorem qe_int {i j pos} : QE X (.Constant (.int i) j pos) (tC (.int i)) :=
  ⟨pe_int⟩
end
section
variable {X : Cx} 
theorem qe_bl {b j pos} : QE X (.Constant (.bool b) j pos) (tC (.bl b)) :=
  ⟨pe_bl⟩
end
section
variable {X : Cx} 
theorem qe_non {j pos} : QE X (.Constant .none j pos) (tC .non) :=
  ⟨pe_non⟩
end
section
variable {X : Cx} {a b c : Expr} {ta tb tc : TE} {pos : Pos}
theorem qe_op {op : Operator} {r : R2} (ho : OpR X (binaryOp op) r) (ha : QE X a ta) (hb : QE X b tb) : QE X (.BinOp a op b pos) (tOp r ta tb) :=
  ⟨pe_op ho ha.out hb.out⟩
end
section
variable {X : Cx} {a b c : Expr} {ta tb tc : TE} {pos : Pos}
theorem qe_un {op : UnaryOp} {r : V → Hp → VK → Prop} (ho : UnR X (unaryOp op) r) (ha : QE X a ta) : QE X (.UnaryOp op a pos) (tUn r ta) :=
  ⟨pe_un ho ha.out⟩
end
section
variable {X : Cx} {a b c : Expr} {ta tb tc : TE} {pos : Pos}
theorem qe_cmpR {op : CmpOp} {r : R2} (ho : OpR X (compareOp op) r) (ha : QE X a ta) (hb : QE X b tb) (hm : behindInMarks op b = false) : QE X (.Compare a [op] [b] pos) (tOp r ta tb) :=
  ⟨pe_cmpR ho ha.out hb.out hm⟩
end
section
variable {X : Cx} {a b c : Expr} {ta tb tc : TE} {pos : Pos}
theorem qt_cmpR {op : CmpOp} {r : R2} (ho : OpR X (compareOp op) r) (ha : QE X a ta) (hb : QE X b tb) (hm : behindInMarks op b = false) : QT X (.Compare a [op] [b] pos) (tTest (tOp r ta tb)) :=
  ⟨pt_cmpR ho ha.out hb.out hm⟩
end
section
variable {X : Cx} {a b c : Expr} {ta tb tc : TE} {pos : Pos}
theorem qe_chain {op op' : CmpOp} {r r' : R2} (ho : OpR X (compareOp op) r) (ho' : OpR X (compareOp op') r') (ha : QE X a ta) (hb : QE X b tb) (hc : QE X c tc) (hm : lastMarks [op, op'] [b, c] = false := by with_unfolding_all rfl) : QE X (.Compare a [op, op'] [b, c] pos) (tChain r r' ta tb tc) :=
  ⟨pe_chain ho ho' ha.out hb.out hc.out hm⟩
end
section
variable {X : Cx} {a b c : Expr} {ta tb tc : TE} {pos : Pos}
end
section
variable {X : Cx} {a b : Expr} {ta tb : TE} {pos : Pos} {tA tB' : TT} {rest : List Expr}
theorem qt_val {e : Expr} {t : TE} (h : QE X e t) (he : ∀ whole, isTrue e X.env whole = (do let v ← whole; standAt e.pos; holding [v] (truthy v)) := by intro _; rfl) : QT X e (tB t) :=
  ⟨pt_val h.out he⟩
end
section
variable {X : Cx} {a b c : Expr} {ta tb tc : TE} {pos : Pos}
end
section
variable {X : Cx} {a b : Expr} {ta tb : TE} {pos : Pos} {tA tB' : TT} {rest : List Expr}
theorem qt_not (ha : QT X a tA) : QT X (.UnaryOp .Not a pos) (tNot tA) :=
  ⟨pt_not ha.out⟩
end
section
variable {X : Cx} {a b : Expr} {ta tb : TE} {pos : Pos} {tA tB' : TT} {rest : List Expr}
end
section
variable {X : Cx} {a b : Expr} {ta tb : TE} {pos : Pos} {tA tB' : TT} {rest : List Expr}
end
section
variable {X : Cx} {a b : Expr} {ta tb : TE} {pos : Pos} {tA tB' : TT} {rest : List Expr}
theorem qw_or (ha : QT X a tA) (hb : QW X (.BoolOp .Or (b :: rest) pos) tB') : QW X (.BoolOp .Or (a :: b :: rest) pos) (tOr tA tB') :=
  ⟨pw_or ha.out hb.out⟩
end
section
variable {X : Cx} {a b : Expr} {ta tb : TE} {pos : Pos} {tA tB' : TT} {rest : List Expr}
theorem qw_or1 (ha : QT X a tA) : QW X (.BoolOp .Or [a] pos) tA :=
  ⟨pw_or1 ha.out⟩
end
section
variable {X : Cx} {a b : Expr} {ta tb : TE} {pos : Pos} {tA tB' : TT} {rest : List Expr}
theorem qe_and (ha : QE X a ta) (hb : QE X (.BoolOp .And (b :: rest) pos) tb) : QE X (.BoolOp .And (a :: b :: rest) pos) (tAndV ta tb) :=
  ⟨pe_and ha.out hb.out⟩
end
section
variable {X : Cx} {a b : Expr} {ta tb : TE} {pos : Pos} {tA tB' : TT} {rest : List Expr}
end
section
variable {X : Cx} {a b : Expr} {ta tb : TE} {pos : Pos} {tA tB' : TT} {rest : List Expr}
theorem qe_one {op} {t : TE} (h : QE X a t) : QE X (.BoolOp op [a] pos) t :=
  ⟨pe_one h.out⟩
end
section
variable {X : Cx} {a b : Expr} {ta tb : TE} {pos : Pos} {tA tB' : TT} {rest : List Expr}
end
section
variable {X : Cx} {a b : Expr} {ta tb : TE} {pos : Pos} {tA tB' : TT} {rest : List Expr}
end
section
variable {X : Cx} {a b c : Expr} {ta tb tc : TE} {pos : Pos}
theorem qe_ix {r : R2} (hr : IxR X r) (ha : QE X a ta) (hb : QE X b tb) (hs : PlainIx b) : QE X (.Subscript a b pos) (tOp r ta tb) :=
  ⟨pe_ix hr ha.out hb.out hs⟩
end
section
variable {X : Cx} {e : Expr} {te : TE} {lo hi : Option Expr} {tl th : TO} {pos p2 : Pos}
theorem qe_slice {r : V → Option Int → Option Int → Hp → VK → Prop} (hr : SlR X r) (he : QE X e te) (hl : QO X lo tl) (hu : QO X hi th) : QE X (.Subscript e (.Slice lo hi none p2) pos) (tSl r te tl th) :=
  ⟨pe_slice hr he.out hl.out hu.out⟩
end
section
variable {X : Cx} {e : Expr} {te : TE} {lo hi : Option Expr} {tl th : TO} {pos p2 : Pos}
theorem qo_none  : QO X none tNoPart :=
  ⟨po_none⟩
end
section
variable {X : Cx} {e : Expr} {te : TE} {lo hi : Option Expr} {tl th : TO} {pos p2 : Pos}
theorem qo_some (h : QE X e te) : QO X (some e) (tPart te) :=
  ⟨po_some h.out⟩
end
section
variable {X : Cx} {e : Expr} {es : List Expr} {te : TE} {t : TA} {pos : Pos}
theorem qe_lst (h : QA X es t) : QE X (.List es pos) (tLst t) :=
  ⟨pe_lst h.out⟩
end
section
variable {X : Cx} {e : Expr} {es : List Expr} {te : TE} {t : TA} {pos : Pos}
theorem qe_tup {x1} (h : QA X es t) : QE X (.Tuple es x1 pos) (tTup t) :=
  ⟨pe_tup h.out⟩
end
section
variable {X : Cx} {e : Expr} {es : List Expr} {te : TE} {t : TA} {pos : Pos}
theorem qa_nil  : QA X [] tNil :=
  ⟨pa_nil⟩
end
section
variable {X : Cx} {e : Expr} {es : List Expr} {te : TE} {t : TA} {pos : Pos}
theorem qa_cons (ha : QE X e te) (hr : QA X es t) (hs : starEach (e :: es) X.env = (false, eval e X.env) :: starEach es X.env := by rfl) : QA X (e :: es) (tCons te t) :=
  ⟨pa_cons ha.out hr.out hs⟩
end
section
variable {X : Cx} {x : Str} {p pos : Pos} {e : Expr} {es : List Expr} {t : TA} {id T : String} {r : List V → Hp → VK → Prop}
theorem qe_callB (hc : CallR X (.builtin id) r) (hg : Gl X x) (hm : X.mg x = none) (hv : bootBuiltins x = some (.builtin id)) (ha : QA X (e :: es) t) (hn : x ≠ "__name__" := by decide) (hdb : (x == ("__debug__" : Str)) = false := by decide) (he : starEach (e :: es) X.env = (false, eval e X.env) :: starEach es X.env := by rfl) (hpl : (backTo pos (starEach es X.env)).any (·.1) = false := by rfl) : QE X (.Call (.Name x p) (e :: es) [] pos) (tCB r t) :=
  ⟨pe_callB hc hg hm hv ha.out hn hdb he hpl⟩
end
section
variable {X : Cx} {x : Str} {p pos : Pos} {e : Expr} {es : List Expr} {t : TA} {id T : String} {r : List V → Hp → VK → Prop}
theorem qe_callTy (hc : CallR X (.type T) r) (hg : Gl X x) (hm : X.mg x = none) (hv : bootBuiltins x = some (.type T)) (ha : QA X (e :: es) t) (hn : x ≠ "__name__" := by decide) (hdb : (x == ("__debug__" : Str)) = false := by decide) (he : starEach (e :: es) X.env = (false, eval e X.env) :: starEach es X.env := by rfl) (hpl : (backTo pos (starEach es X.env)).any (·.1) = false := by rfl) : QE X (.Call (.Name x p) (e :: es) [] pos) (tCB r t) :=
  ⟨pe_callTy hc hg hm hv ha.out hn hdb he hpl⟩
end
section
variable {X : Cx} {x : Str} {p pos : Pos} {e : Expr} {es : List Expr} {t : TA} {id T : String} {r : List V → Hp → VK → Prop}
end
section
variable {X : Cx} {o e : Expr} {es : List Expr} {to : TE} {t : TA} {name : Str} {apos cpos : Pos} {T id : String} {r : V → List V → Hp → VK → Prop}
theorem qe_bm (pa : PlainAttrs T) (slot : Slot T name id) (hty : typeOf (.builtin id) = pure (.type "method_descriptor")) (hm : MtR X id r) (ho : QE X o to) (ha : QA X (e :: es) t) (hbase : attributeBase o name X.env (eval o X.env) = eval o X.env := by rfl) (hfew : ((backTo cpos (starEach (e :: es) X.env)).all (fun x => !x.1) && (backToKw cpos (keywordEach [] X.env)).all (fun x => x.1.isSome)
      && decide ((e :: es).length + ([] : List Keyword).length + (if ([] : List Keyword).isEmpty then 0 else 1) < 30)) = true := by rfl) (hline : (apos.endLine == cpos.line) = true := by rfl) (hs : starEach (e :: es) X.env = (false, eval e X.env) :: starEach es X.env := by rfl) (hplain : (backTo cpos (starEach es X.env)).any (·.1) = false := by rfl) : QE X (.Call (.Attribute o name apos) (e :: es) [] cpos) (tBM X.K T r to t) :=
  ⟨pe_bm pa slot hty hm ho.out ha.out hbase hfew hline hs hplain⟩
end
section
variable {X : Cx} {o e : Expr} {es : List Expr} {to : TE} {t : TA} {name : Str} {apos cpos : Pos} {T id : String} {r : V → List V → Hp → VK → Prop}
theorem qe_bm0 (pa : PlainAttrs T) (slot : Slot T name id) (hty : typeOf (.builtin id) = pure (.type "method_descriptor")) (hm : MtR X id r) (ho : QE X o to) (hbase : attributeBase o name X.env (eval o X.env) = eval o X.env := by rfl) (hline : (apos.endLine == cpos.line) = true := by rfl) : QE X (.Call (.Attribute o name apos) [] [] cpos) (tBM0 X.K T r to) :=
  ⟨pe_bm0 pa slot hty hm ho.out hbase hline⟩
end
section
variable {X : Cx} 
theorem qe_bltn {x : Str} {v : V} {u : Value} {pos : Pos} (hg : Gl X x) (hm : X.mg x = none) (hv : bootBuiltins x = some u) (r : RelV v u) (hn : x ≠ "__name__" := by decide) (hd : (x == ("__debug__" : Str)) = false := by decide) : QE X (.Name x pos) (tC v) :=
  ⟨pe_bltn hg hm hv r hn hd⟩
end
section
variable {X : Cx} 
theorem qe_glob {x : Str} {v : V} {u : Value} {pos : Pos} (hg : Gl X x) (hm : X.mg x = some u) (r : RelV v u) (hd : (x == ("__debug__" : Str)) = false := by decide) : QE X (.Name x pos) (tC v) :=
  ⟨pe_glob hg hm r hd⟩
end
section
variable {X : Cx} {tg : Expr}
theorem qi_list {l : Expr} {tl : TE} (hl : QE X l tl) : QI X tg l (iList X.K tl) :=
  ⟨pi_list hl.out⟩
end
section
variable {X : Cx} {tg : Expr}
end
section
variable {X : Cx} {tg : Expr}
theorem qi_range1 {a : Expr} {ta : TA} {p pos : Pos} (hg : Gl X "range") (hm : X.mg "range" = none) (ha : QA X [a] ta) (hs : starEach [a] X.env = [(false, eval a X.env)] := by rfl) : QI X tg (.Call (.Name "range" p) [a] [] pos) (iRng1 ta) :=
  ⟨pi_range1 hg hm ha.out hs⟩
end
section
variable {X : Cx} {tg : Expr}
theorem qi_range2 {a b : Expr} {ta : TA} {p pos : Pos} (hg : Gl X "range") (hm : X.mg "range" = none) (ha : QA X [a, b] ta) (hs : starEach [a, b] X.env = [(false, eval a X.env), (false, eval b X.env)] := by rfl) (hs2 : starEach [b] X.env = [(false, eval b X.env)] := by rfl) : QI X tg (.Call (.Name "range" p) [a, b] [] pos) (iRng2 ta) :=
  ⟨pi_range2 hg hm ha.out hs hs2⟩
end
section
variable {X : Cx} {o e value : Expr} {f : Str} {pos pos' tpos : Pos} {ta tv : TE}
theorem qe_fld (he : QE X e ta) (hb : attributeBase e f X.env (eval e X.env) = eval e X.env) : QE X (.Attribute e f pos) (tFld X.K ta f) :=
  ⟨pe_fld he.out hb⟩
end
section
variable {X : Cx} {CX : CXT} {k : Nat} {f C : Addr} {fd : FuncData} {ps : List Str} {sp : Sp} {dvs : List V} {ds : List Value} {E : XK} {x m : Str} {p pos apos : Pos} {e o : Expr} {es : List Expr} {ta : TE} {t : TA}
theorem qe_meth {pl : Sem Bool} (he : QE X o ta) (c : Cls X.K C) (hm : Meth X.K C m f) (F : FnOk X.prog X.w X.K X.mg X.base CX k f fd ps sp) (hr : Room k X.A) (hb : Binds X.K fd ps ds) (hd : Vals dvs ds) (hx : Passes CX X E) (ha : QA X (e :: es) t) (hst : starEach (e :: es) X.env = (false, eval e X.env) :: starEach es X.env := by rfl) (hpl : (backTo pos (starEach es X.env)).any (·.1) = false := by rfl) (ht : eval (.Call (.Attribute o m apos) (e :: es) [] pos) X.env = (do
      let ov ← eval o X.env
      standAt apos.atName
      let (f, first) ← holding [ov] (getMethod ov m pl)
      callWith pos f first (backTo pos (starEach (e :: es) X.env)) (backToKw pos (keywordEach [] X.env))) := by rfl) : QE X (.Call (.Attribute o m apos) (e :: es) [] pos) (tMeth C m sp dvs E ta t) :=
  ⟨pe_meth he.out c hm F hr hb hd hx ha.out hst hpl ht⟩
end
section
variable {X : Cx} {CX : CXT} {k : Nat} {f C : Addr} {fd : FuncData} {ps : List Str} {sp : Sp} {dvs : List V} {ds : List Value} {E : XK} {x m : Str} {p pos apos : Pos} {e o : Expr} {es : List Expr} {ta : TE} {t : TA}
theorem qe_meth0 {pl : Sem Bool} (he : QE X o ta) (c : Cls X.K C) (hm : Meth X.K C m f) (F : FnOk X.prog X.w X.K X.mg X.base CX k f fd ps sp) (hr : Room k X.A) (hb : Binds X.K fd ps ds) (hd : Vals dvs ds) (hx : Passes CX X E) (ht : eval (.Call (.Attribute o m apos) [] [] pos) X.env = (do
      let ov ← eval o X.env
      standAt apos.atName
      let (f, first) ← holding [ov] (getMethod ov m pl)
      callWith pos f first (backTo pos (starEach [] X.env)) (backToKw pos (keywordEach [] X.env))) := by rfl) : QE X (.Call (.Attribute o m apos) [] [] pos) (tMeth C m sp dvs E ta tNil) :=
  ⟨pe_meth0 he.out c hm F hr hb hd hx ht⟩
end
section
variable {X : Cx} {CX : CXT} {k : Nat} {f C : Addr} {fd : FuncData} {ps : List Str} {sp : Sp} {dvs : List V} {ds : List Value} {E : XK} {x m : Str} {p pos apos : Pos} {e o : Expr} {es : List Expr} {ta : TE} {t : TA}
end
section
variable {X : Cx} {CX : CXT} {k : Nat} {f C : Addr} {fd : FuncData} {ps : List Str} {sp : Sp} {dvs : List V} {ds : List Value} {E : XK} {x m : Str} {p pos apos : Pos} {e o : Expr} {es : List Expr} {ta : TE} {t : TA}
end
section
variable {X : Cx} {o i value : Expr} {td ty tv : TE} {pos pos' : Pos}
theorem qe_dnewK  : QE X (.Dict [] [] pos) tDNewK :=
  ⟨pe_dnewK⟩
end
section
variable {X : Cx} {o i value : Expr} {td ty tv : TE} {pos pos' : Pos}
theorem qc_din (hu : X.A.units + 1 < cLine) (hi : QE X i ty) (ho : QE X o td) : QC X .In i o (tDIn ty td) :=
  ⟨pc_din hu hi.out ho.out⟩
end
section
variable {X : Cx} {o i value : Expr} {td ty tv : TE} {pos pos' : Pos}
theorem qc_dnotin (hu : X.A.units + 1 < cLine) (hi : QE X i ty) (ho : QE X o td) : QC X .NotIn i o (tDNotIn ty td) :=
  ⟨pc_dnotin hu hi.out ho.out⟩
end
section
variable {X : Cx} {o e : Expr} {td ty : TE} {apos cpos : Pos}
theorem qe_dpop1 (ho : QE X o td) (he : QE X e ty) (m : M1 X o "pop" apos e cpos) : QE X (.Call (.Attribute o "pop" apos) [e] [] cpos) (tDPop1 td ty) :=
  ⟨pe_dpop1 ho.out he.out m⟩
end
section
variable {X : Cx} {o i value : Expr} {td ty tv : TE} {pos pos' : Pos}
theorem qs_dput (hu : X.A.units + 1 < cLine) (ho : QE X o td) (hi : QE X i ty) (hv : QE X value tv) (hs : swapsWith value (some (.Subscript o i pos')) pos.line X.env = pure false) : QS X (.Assign [.Subscript o i pos'] value pos) (sDPut td ty tv) :=
  ⟨ps_dput hu ho.out hi.out hv.out hs⟩
end
section
variable {X : Cx} {a b : Expr} {ta tb : TE} {pos : Pos} {tA tB' : TT} {rest : List Expr}
theorem qe_cmp {op : CmpOp} {t : TE} (h : QC X op a b t) (h1 : behindInMarks op b = false := by first | exact nobehind _ (by decide) (by decide) | rfl) : QE X (.Compare a [op] [b] pos) t :=
  ⟨pe_cmp h.out h1⟩
end
section
variable {X : Cx} {a b : Expr} {ta tb : TE} {pos : Pos} {tA tB' : TT} {rest : List Expr}
theorem qt_cmp {op : CmpOp} {t : TE} (h : QC X op a b t) (h1 : behindInMarks op b = false := by first | exact nobehind _ (by decide) (by decide) | rfl) : QT X (.Compare a [op] [b] pos) (tB t) :=
  ⟨pt_cmp h.out h1⟩
end
section
variable {X : Cx} 
theorem qv (i : Nat) {x : Str} {pos : Pos} (hN : X.N[i]? = some x := by rfl) (hv : Vis X.env.scope x := by first | exact Or.inl rfl | exact Or.inr (Or.inl rfl) | exact Or.inr (Or.inr rfl)) (hd : (x == ("__debug__" : Str)) = false := by decide) (hcd : (x == ("__classdict__" : Str)) = false := by decide) : QE X (.Name x pos) (tVar i) :=
  ⟨pv i hN hv hd hcd⟩
end
section
variable {X : Cx} 
theorem qts_nil {X : Cx} : QTs X [] tYes :=
  ⟨pts_nil⟩
end
section
variable {X : Cx} 
end
section
variable {X : Cx} 
theorem qe_strS (l : List Nat) {x : Str} {j pos} (h : x = S l) : QE X (.Constant (.str x) j pos) (tC (.str (S l))) :=
  ⟨pe_strS l h⟩
end
section
variable {X : Cx} {e : Expr} {es : List Expr} {te : TE} {t : TA} {pos : Pos}
theorem qa_c {i j pos} (h : QA X es t) : QA X (.Constant (.int i) j pos :: es) (tCons (tC (.int i)) t) :=
  ⟨pa_c h.out⟩
end
section
variable {X : Cx} {x : Str} {p pos : Pos} {e : Expr} {es : List Expr} {t : TA}
theorem qe_own {k : Nat} {ps : List Str} {sp : Sp} (D : Def X.prog X.w X.K X.mg X.base x k ps sp) (hr : Room k X.A) (hg : Gl X x) (ha : QA X (e :: es) t) (hdb : (x == ("__debug__" : Str)) = false := by decide) (hs : starEach (e :: es) X.env = (false, eval e X.env) :: starEach es X.env := by rfl) (hpl : (backTo pos (starEach es X.env)).any (·.1) = false := by rfl) : QE X (.Call (.Name x p) (e :: es) [] pos) (tCall sp [] E0 t) :=
  ⟨pe_own D hr hg ha.out hdb hs hpl⟩
end
section
variable {X : Cx} {o e st : Expr} {to te tst : TE} {apos cpos rpos pos p p2 : Pos}
end
section
variable {X : Cx} {o e st : Expr} {to te tst : TE} {apos cpos rpos pos p p2 : Pos}
end
theorem qe_comp {X : Cx} {elt iter : Expr} {x : Str} {px : Pos} {ifs : List Expr} {scope : Scope} {pos : Pos} {wi : TI} {tt : TT} {te : TE} (hc : X.calm = true) (ok : CompOk X scope x) (hi : QI X (.Name x px) iter wi)
    (ht : ∀ cl C s₀ H₀ fp, QTs (blk X scope cl C x s₀ H₀ fp) ifs tt) (he : ∀ cl C s₀ H₀ fp, QE (blk X scope cl C x s₀ H₀ fp) elt te)
    (hs : ∀ x, foldedSetIterable iter X.env x = pure x := by intro _; rfl) : QE X (.ListComp elt [⟨.Name x px, iter, ifs, 0⟩] scope pos) (tComp wi tt te) :=
  ⟨pe_comp hc ok hi.out (fun cl C s₀ H₀ fp => (ht cl C s₀ H₀ fp).out) (fun cl C s₀ H₀ fp => (he cl C s₀ H₀ fp).out) hs⟩
theorem DefAt.qok {P : Program} {w : World} {K : PySem.W.Frag} {mg : Str → Option Value} {base : Heap} {name : Str} {st : Stmt} {N ps : List Str} {k : Nat} {sp : Sp} (D : DefAt K mg name st ps) (S : FnScope N ps (defScope st)) (len : ∀ vs H Q E, sp vs H Q E → vs.length = ps.length)
    (hbody : ∀ (f : Addr) (cdv : Value) (A : Around) (outer : List Env) (s : Shared) (H : Hp) (vs : List V) (Q : VK) (E : XK), Room k (A.deeper (envOfC name (defScope st) s.heap.objs.size f cdv)) → sp vs H Q E →
      ∃ t, QSs (cxOf CX0 P w K mg base N name (defScope st) f cdv A outer s H E).nox (defBody st) t ∧ t { nx := fun _ H' => Q .non H', rt := Q } (start N vs) H) : Def P w K mg base name (k + 1) ps sp :=
  D.ok S len fun f cdv A outer s H vs Q E hr h => let ⟨t, a, b⟩ := hbody f cdv A outer s H vs Q E hr h; ⟨t, a.out, b⟩
theorem Fun.qok {P : Program} {w : World} {K : PySem.W.Frag} {mg : Str → Option Value} {base : Heap} {x qual : Str} {st : Stmt} {f : Addr} {fd : FuncData} {N ps : List Str} {k : Nat} {sp : Sp} (F : Fun K x qual st f fd) (S : FnScope N ps (defScope st)) (len : ∀ vs H Q E, sp vs H Q E → vs.length = ps.length)
    (hbody : ∀ (cdv : Value) (A : Around) (outer : List Env) (s : Shared) (H : Hp) (vs : List V) (Q : VK) (E : XK), Room k (A.deeper (envOfC qual (defScope st) s.heap.objs.size f cdv)) → sp vs H Q E →
      ∃ t, QSs (cxOf CX0 P w K mg base N qual (defScope st) f cdv A outer s H E).nox (defBody st) t ∧ t { nx := fun _ H' => Q .non H', rt := Q } (start N vs) H) : FnOk P w K mg base CX0 (k + 1) f fd ps sp :=
  F.ok S len fun cdv A outer s H vs Q E hr h => let ⟨t, a, b⟩ := hbody cdv A outer s H vs Q E hr h; ⟨t, a.out, b⟩
end L2
end

section
set_option Elab.async false
set_option linter.all false
set_option maxRecDepth 100000
namespace L2
open PySem PySem.Spec PyProof.Rows
section
variable {prog : Program} {w : World} {A : Around} {E : Value → Shared → Prop} {s : Shared}
theorem sorted_any {v : Value} {Q : Value → Shared → Prop} (hcol : wpAny (model prog w) A.in1 (collect v) (fun vs s1 => ∃ ss, StrsAre vs ss ∧ vs.length < 64 ∧
      ∀ (h' : Heap) (vs' : List Value) (ss' : List Str) (e : Nat), (∀ b o, s1.heap.get? b = some o → h'.get? b = some o) → h'.get? s1.heap.objs.size = some (seqObj "list" vs'.toArray e) → StrsAre vs' ss' → ss'.Perm ss → sortedS ss' = true →
        Q (.ref s1.heap.objs.size) { s1 with heap := h' }) E s) : wpAny (model prog w) A (call (.builtin "sorted") [v]) Q E s := by
  refine Calls.call_function_entry kind_sorted plain_sorted entry_sorted (args_sorted1 _) ?_
  unfold Builtin.«sorted»
  refine wpAny_bind (m := checkCount "sorted" 1 1 _) (wpAny_pure ?_)
  refine wpAny_bind (thn hcol fun vs s1 ⟨ss, hS, h64, h⟩ => ?_)
  refine wpAny_bind (wpAny_newList ?_)
  have hoL : (s1.heap.push (seqObj "list" vs.toArray 0)).get? s1.heap.objs.size = some (seqObj "list" vs.toArray 0) := Heap.get?_push_size _ rfl
  refine wpAny_bind (wpAny_holding (wpAny_call_entry slot_list_sort (s := { s1 with heap := s1.heap.push (seqObj "list" vs.toArray 0) }) ⟨_, hoL, rfl⟩ entry_list_sort
    (list_sort_treeK (s := { s1 with heap := s1.heap.push (seqObj "list" vs.toArray 0) }) strKind_oneLt hoL hS.keysOf (fun v₁ v₂ rest e => keyKind_strs (by rw [← e]; exact hS)) h64 fun st' hp hs => ⟨_, rfl, ?_⟩) (args_list_sort _)))
  obtain ⟨ss', h1, h2, h3⟩ := sorted_out_str hS hp hs
  obtain ⟨e, he⟩ := sortedHeap_at (vs := vs) (out := (arrOf st').map (·.2)) hoL
  refine wpAny_pure ⟨_, rfl, h _ ((arrOf st').map (·.2)).toList ss' e (fun b o z => ?_) (by rw [Array.toArray_toList]; exact he) h1 h2 h3⟩
  have hb : b < s1.heap.objs.size := Heap.lt_size z
  rw [sortedHeap_old (Nat.ne_of_lt hb) (by rw [Heap.size_push]; exact Nat.lt_succ_of_lt hb)]
  exact Heap.get?_push_of_some _ z
end
theorem signs_of {x : Str} {vs : Array Value} (h : ItemsOf (SignAt x) vs x.cps.size) : StrsAre vs.toList (x.cps.toList.map fun c => (⟨#[c]⟩ : Str)) := by
  have key : ∀ (l : List Value) (m : List Nat), l.length = m.length → (∀ (j : Nat) v, l[j]? = some v → ∃ c u, m[j]? = some c ∧ v = .str ⟨#[c]⟩ u) → StrsAre l (m.map fun c => (⟨#[c]⟩ : Str)) := by
    intro l
    induction l with
    | nil =>
      intro m hl _
      cases m with
      | nil => exact .nil
      | cons c r => simp at hl
    | cons a r ih =>
      intro m hl hv
      cases m with
      | nil => simp at hl
      | cons c m =>
        obtain ⟨c', u, e, rfl⟩ := hv 0 a rfl
        have e' : c = c' := by simpa using e
        subst e'
        exact .cons _ u (ih m (by simpa using hl) fun j v hj => hv (j + 1) v hj)
  refine key _ _ (by simpa using h.1) fun j v hj => ?_
  obtain ⟨c, u, e1, e2⟩ := h.2 j v (by simpa using hj)
  exact ⟨c, u, by simpa using e1, e2⟩
section
variable {X : Cx}
theorem vals_of_strs : ∀ {ss : List Str} {us : List Value}, StrsAre us ss → Vals (ss.map V.str) us
  | _, _, .nil => .nil
  | _, _, .cons x t r => .cons ⟨t, rfl⟩ (vals_of_strs r)
def rSortS : List V → Hp → VK → Prop := fun xs H Q => ∃ l, xs = [.str (S l)] ∧ l.length < 64 ∧ ∀ (p : Addr) (ls' : List Nat), H p = none → ls'.Perm l → Q (.ref p) (upd H p (.lst (Ts (ls'.map fun c => [c]))))
theorem call_sortedS (hc : X.calm = true) : CallR X (.builtin "sorted") rSortS := by
  intro pins s σ H xs us Q I r h
  obtain ⟨l, rfl, h64, q⟩ := h
  obtain ⟨u, rfl, ru⟩ := vals1 r
  obtain ⟨t, rfl⟩ := ru
  have hz : (S l).cps.size ≤ sizeLine := by show l.length ≤ sizeLine; exact Nat.le_of_lt (small1000 (by omega))
  refine sorted_any (wpAny_collect_str (A := X.A.in1) (I.ok.hd hc) (S l) t (fun s1 acc k1 k2 k3 k4 hacc => ?_) hz)
  have hS := signs_of hacc
  refine ⟨_, hS, ?_, fun h' vs' ss' e kk he hS' pm _ => ?_⟩
  · rw [Array.length_toList, hacc.1]; exact h64
  have I1 : Inv X pins σ H s1 := by
    have I5 := I.kept (h' := s1.heap) (t' := s1.toks) k1
    obtain ⟨h', g', d', t'', o'⟩ := s1
    simp only at k2 k3 k4
    subst k2 k3 k4
    exact I5
  -- the letters behind
  have pm' : (ss'.map fun y => y.cps.toList.headD 0).Perm l := by
    have := pm.map fun y : Str => y.cps.toList.headD 0
    rw [List.map_map] at this
    have e : ((fun y : Str => y.cps.toList.headD 0) ∘ fun c => (⟨#[c]⟩ : Str)) = id := rfl
    rw [e, List.map_id, S_cps] at this
    exact this
  have es : ss' = (ss'.map fun y => y.cps.toList.headD 0).map fun c => (⟨#[c]⟩ : Str) := by
    rw [List.map_map]
    refine (List.map_id _).symm.trans (List.map_congr_left fun y hy => ?_)
    obtain ⟨c, _, rfl⟩ := List.mem_map.mp (pm.mem_iff.mp hy)
    rfl
  have hn : H s1.heap.objs.size = none := I1.fresh
  have hv : Vals (Ts ((ss'.map fun y => y.cps.toList.headD 0).map fun c => [c])) vs' := by
    have := vals_of_strs hS'
    rw [es] at this
    simpa [Ts, S, Function.comp_def] using this
  have hl : (Ts ((ss'.map fun y => y.cps.toList.headD 0).map fun c => [c])).length ≤ sizeLine := by
    rw [List.length_map, List.length_map, pm'.length_eq]; exact Nat.le_of_lt (small1000 (by omega))
  refine ⟨.ref s1.heap.objs.size, _, I1.laid (o := .lst _) (t' := s1.toks) kk (Nat.le_refl _) ⟨hl, vs', e, hv, he⟩, rfl, q _ _ hn pm'⟩
end
end L2
end

section
set_option Elab.async false
set_option linter.all false
set_option maxRecDepth 100000
namespace L2
open PySem PySem.Spec PyProof.Rows
def Its (l : List Nat) : It := ⟨fun i _ => i < l.length, fun i H x H' => H' = H ∧ ∃ c, l[i]? = some c ∧ x = .str (S [c]), fun i _ => l.length ≤ i⟩
theorem turn_str {P : Program} {w : World} {K : PySem.W.Frag} {tg : Expr} {ty : String} (hty : ty = "str_ascii_iterator" ∨ ty = "str_iterator") (l : List Nat) (t : Tok) (it : Addr) :
    Turn P w K tg (Its l) [it] it (fun i h => i ≤ l.length ∧ h.IsStrIter it ty (S l) t i) where
  mem := by simp
  obj := fun i h st b hb => by
    have e : b = it := by simpa using hb
    subst e
    obtain ⟨_, o, e, c, d⟩ := st
    exact ⟨o, e, fun v z => by rw [d] at z; cases z⟩
  keep := fun i h h' st k => ⟨st.1, let ⟨o, ho, r⟩ := st.2; ⟨o, k it (by simp) o ho, r⟩⟩
  item := by
    intro X hP hw hK hc i pins s σ H E I hf st hg
    subst hP hw hK
    obtain ⟨f0, f1, f2, f3, f4, f5⟩ := hf it (by simp)
    have hg' : i < (S l).cps.size := hg
    have fin : ∀ (v : Value) (h' : Heap) (tk : Nat), SignAt (S l) i v → h'.IsStrIter it ty (S l) t (i + 1) → (∀ b o, b ∉ [it] → s.heap.get? b = some o → h'.get? b = some o) →
        ∃ u, some v = some u ∧ wpAny (model X.prog X.w) X.A (letOwnedTupleGo tg (.ref it) u) (fun _ s2 => ∃ x H', Inv X pins σ H' s2 ∧ RelV x u ∧ (Its l).yld i H x H' ∧ (i + 1 ≤ l.length ∧ s2.heap.IsStrIter it ty (S l) t (i + 1)) ∧ ∀ b ∈ [it], H' b = none) E { s with heap := h', toks := tk } := by
      intro v h' tk hv st' kk
      obtain ⟨c, u, hc', rfl⟩ := hv
      have I1 : Inv X pins σ H { s with heap := h', toks := tk } := I.turned (fun b o hb e => kk b o (by simpa using hb) e) f0 f1 f3 f4 f5
      obtain ⟨o, e, c2, d2⟩ := id st'
      refine ⟨_, rfl, go_of (s := { s with heap := h', toks := tk }) e c2 d2 (by rcases hty with rfl | rfl <;> decide) ⟨.str (S [c]), H, I1, ⟨u, rfl⟩, ⟨rfl, c, by simpa [S] using hc', rfl⟩, ⟨hg, st'⟩, fun b hb => (hf b hb).1⟩⟩
    rcases hty with rfl | rfl
    · exact (Walks.strAscii (prog := X.prog) (w := X.w) (I.ok.hd hc) it (S l) t).item i s _ _ hg' st.2 fun v h' tk hv st' kk => fin v h' tk hv st' kk
    · exact (Walks.strWide (prog := X.prog) (w := X.w) (I.ok.hd hc) it (S l) t).item i s _ _ hg' st.2 fun v h' tk hv st' kk => fin v h' tk hv st' kk
  done := by
    intro X hP hw hK hc i pins s σ H E I hf st hg
    subst hP hw hK
    obtain ⟨f0, f1, f2, f3, f4, f5⟩ := hf it (by simp)
    have hi : i = (S l).cps.size := Nat.le_antisymm st.1 hg
    have st' := st.2
    rw [hi] at st'
    rcases hty with rfl | rfl
    · exact (Walks.strAscii (prog := X.prog) (w := X.w) (I.ok.hd hc) it (S l) t).done s _ _ st' fun h' tk kk => ⟨rfl, I.turned (fun b o hb e => kk b o (by simpa using hb) e) f0 f1 f3 f4 f5⟩
    · exact (Walks.strWide (prog := X.prog) (w := X.w) (I.ok.hd hc) it (S l) t).done s _ _ st' fun h' tk kk => ⟨rfl, I.turned (fun b o hb e => kk b o (by simpa using hb) e) f0 f1 f3 f4 f5⟩
  self := fun A i s Q E st h => by
    rcases hty with rfl | rfl
    · exact wpAny_pyIter_striter_ascii st.2 h
    · exact wpAny_pyIter_striter_wide st.2 h
theorem nlt_trans {a b c : List Nat} (h1 : ¬ b < a) (h2 : ¬ c < b) : ¬ c < a := by
  have h1' : a ≤ b := h1
  have h2' : b ≤ c := h2
  exact List.le_trans h1' h2'
theorem rising_pw : ∀ (r : List Str) (p : Str), risingS p r = true → (∀ x ∈ r, ¬ x.cps.toList < p.cps.toList) ∧ (r.map fun y => y.cps.toList).Pairwise (fun a b => decide (b < a) = false)
  | [], _, _ => ⟨fun _ h => by simp at h, List.Pairwise.nil⟩
  | y :: r, p, h => by
    rw [risingS, Bool.and_eq_true] at h
    have h0 : ¬ y.cps.toList < p.cps.toList := by
      have := h.1
      simpa [ltCps_eq] using this
    obtain ⟨h1, h2⟩ := rising_pw r y h.2
    refine ⟨fun x hx => ?_, ?_⟩
    · rcases List.mem_cons.mp hx with e | e
      · rw [e]; exact h0
      · exact nlt_trans h0 (h1 x e)
    · rw [List.map_cons]
      refine List.Pairwise.cons (fun b hb => ?_) h2
      obtain ⟨x, hx, rfl⟩ := List.mem_map.mp hb
      exact decide_eq_false (h1 x hx)
theorem sorted_pw (ss : List Str) (h : sortedS ss = true) : (ss.map fun y => y.cps.toList).Pairwise (fun a b => decide (b < a) = false) := by
  cases ss with
  | nil => exact List.Pairwise.nil
  | cons x r =>
    obtain ⟨h1, h2⟩ := rising_pw r x h
    rw [List.map_cons]
    refine List.Pairwise.cons (fun b hb => ?_) h2
    obtain ⟨y, hy, rfl⟩ := List.mem_map.mp hb
    exact decide_eq_false (h1 y hy)
section
variable {X : Cx} {tg : Expr}
def iStr (tl : TE) : TI := fun σ H R => tl σ H fun x H1 => ∃ l, x = .str (S l) ∧ R (Its l) H1
theorem qi_str {l : Expr} {tl : TE} (hl : QE X l tl) : QI X tg l (iStr tl) := ⟨by
  intro pins s σ H R I h
  refine thn (hl.out pins s σ H _ I h) fun v s1 ⟨x, H1, I1, r1, q1⟩ => ?_
  obtain ⟨l, e, q⟩ := q1
  subst e
  obtain ⟨t, rfl⟩ := r1
  refine wpAny_pyIter_strU ?_
  have hty : strIterType (S l) = "str_ascii_iterator" ∨ strIterType (S l) = "str_iterator" := by unfold strIterType; split <;> simp
  refine ⟨s1.heap.objs.size, [s1.heap.objs.size], _, _, H1, rfl, I1.kept (t' := s1.toks) fun b o e => Heap.get?_push_of_some _ e, turn_str hty l t _, ⟨Nat.zero_le _, _, Heap.get?_push_size _ rfl, rfl, rfl⟩, fun b hb => ?_, q⟩
  have e : b = s1.heap.objs.size := by simpa using hb
  subst e
  exact I1.fpOk (Nat.le_refl _) (I1.hok.fresh (Nat.le_refl _))⟩
theorem comp_str {l : List Nat} {D : Addr} {te : TE} {σ : St} {H : Hp} {R : Hp → Prop} (Pv : Nat → List V → Hp → Prop) (h0 : Pv 0 [] (upd H D (.lst [])))
    (hs : ∀ i c ys H, l[i]? = some c → Pv i ys H → te (some (.str (S [c])) :: σ) H fun y H3 => H3 D = some (.lst ys) ∧ ys.length < sizeLine ∧ Nxt l.length i (Pv (i + 1) (ys ++ [y]) (upd H3 D (.lst (ys ++ [y])))))
    (hd : ∀ ys H, Pv l.length ys H → R H) :
    ∃ W : Nat → Nat → List V → Hp → Prop, (∃ m, W 0 m [] (upd H D (.lst []))) ∧
      ∀ i m ys H, W i m ys H → ((Its l).stop i H ∧ R H) ∨ ((Its l).go i H ∧ ∀ x H', (Its l).yld i H x H' → tYes (some x :: σ) H' fun b H2 =>
        if b = true then te (some x :: σ) H2 fun y H3 => H3 D = some (.lst ys) ∧ ys.length < sizeLine ∧ ∃ m', m' < m ∧ W (i + 1) m' (ys ++ [y]) (upd H3 D (.lst (ys ++ [y])))
        else ∃ m', m' < m ∧ W (i + 1) m' ys H2) := by
  refine ⟨fun i m ys H => m = l.length - i ∧ i ≤ l.length ∧ Pv i ys H, ⟨l.length, by simp, Nat.zero_le _, h0⟩, ?_⟩
  rintro i m ys H ⟨rfl, hi, p⟩
  by_cases hlt : i < l.length
  · refine .inr ⟨hlt, fun x H' y => ?_⟩
    obtain ⟨e, c, hc, e2⟩ := y
    subst e e2
    exact hs i c ys H' hc p
  · have e : i = l.length := by omega
    subst e
    exact .inl ⟨Nat.le_refl _, hd ys H p⟩
theorem call_all (hc : X.calm = true) : CallR X (.builtin "all") (fun xs H Q => ∃ (p : Addr) (bs : List Bool), xs = [.ref p] ∧ SqL X.K H p (bs.map V.bl) ∧ Q (.bl (bs.all id)) H) := by
  intro pins s σ H xs us Q I r h
  obtain ⟨p, bs, rfl, hq, q⟩ := h
  obtain ⟨u, rfl, ru⟩ := vals1 r
  cases ru
  obtain ⟨its, rv, pl, hz⟩ := I.list hq
  have hne : p ≠ s.heap.objs.size := by
    obtain ⟨o, ho, _⟩ := pl.isList
    exact Nat.ne_of_lt (Heap.lt_size ho)
  have hb : ∀ (i : Nat) (v : Value), its[i]? = some v → v = .bool (bs.getD i true) := fun i v hv => by
    have hlen := rv.length
    have hi : i < bs.length := by have := (List.getElem?_eq_some_iff.mp hv).1; simp at hlen; omega
    obtain ⟨u, hu, ru⟩ := rv.get (i := i) (x := .bl bs[i]) (by simp [hi])
    rw [hv] at hu; cases hu
    cases ru
    simp [List.getD, hi]
  refine call_all_walk (wpAny_pyIter_list pl.isList ?_)
  refine ⟨s.heap.objs.size, _, _, _, _, _, fun i => bs.getD i true, rfl, Walks.list (A := X.A.in1) (I.ok.hd hc) s.heap.objs.size p hne its.toArray, ⟨⟨_, Heap.get?_push_size _ rfl, rfl, rfl⟩, pl.isList.at fun o e => Heap.get?_push_of_some _ e⟩, ?_, fun h' tk kk => ?_⟩
  · intro i v s' Q' E' hv hq'
    have e := hb i v (by simpa using hv)
    subst e
    exact wpAny_truthy_bool hq'
  · have I1 : Inv X pins σ H { s with heap := h', toks := tk } := I.kept fun b o e => kk b o (by
      intro hm
      have : b = s.heap.objs.size := by simpa using hm
      subst this
      exact absurd (Heap.lt_size e) (Nat.lt_irrefl _)) (Heap.get?_push_of_some _ e)
    refine ⟨.bl (bs.all id), H, I1, ?_, q⟩
    show Value.bool _ = Value.bool _
    have hlen : its.toArray.size = bs.length := by have := rv.length; simp at this; simp [this]
    rw [hlen]
    congr 1
    have key : ∀ bs : List Bool, (List.range bs.length).all (fun i => bs.getD i true) = bs.all id := fun bs => by
      rw [Bool.eq_iff_iff, List.all_eq_true, List.all_eq_true]
      constructor
      · intro h x hx
        obtain ⟨i, hi, rfl⟩ := List.mem_iff_getElem.mp hx
        have := h i (List.mem_range.mpr hi)
        simpa [List.getD, hi] using this
      · intro h i hi
        have hi' := List.mem_range.mp hi
        have := h bs[i] (List.getElem_mem _)
        simpa [List.getD, hi'] using this
    exact key bs
def rLeS : R2 := fun x y H Q => ∃ i j, x = .str (S i) ∧ y = .str (S j) ∧ Q (.bl (!decide (j < i))) H
theorem op_leS : OpR X (compareOp .LtE) rLeS := by
  intro pins s σ H x y v u Q I rx ry h
  obtain ⟨i, j, rfl, rfl, q⟩ := h
  obtain ⟨t, rfl⟩ := rx
  obtain ⟨t', rfl⟩ := ry
  exact PySem.P.le_str ⟨.bl _, H, I, rfl, q⟩
abbrev keyS (l : List Nat) : Key := Sum.inr (S l)
theorem call_sortedD (hc : X.calm = true) : CallR X (.builtin "sorted") (fun xs H Q => ∃ (d : Addr) (kvs : List (Key × V)) (ws : List (List Nat)), xs = [.ref d] ∧ H d = some (.dK kvs) ∧ kvs.map (·.1) = ws.map keyS ∧ ws.length < 64 ∧
    ∀ (p : Addr) (ws' : List (List Nat)), H p = none → ws'.Perm ws → ws'.Pairwise (fun a b => decide (b < a) = false) → Q (.ref p) (upd H p (.lst (Ts ws')))) := by
  intro pins s σ H xs us Q I r h
  obtain ⟨d, kvs, ws, rfl, hd, hk, h64, q⟩ := h
  obtain ⟨u, rfl, ru⟩ := vals1 r
  cases ru
  obtain ⟨hz, lo, vs, rel, dd⟩ := dk_of I.hok hd
  obtain ⟨ep, hat⟩ := dd.dictAt
  have hkv := KV.keys rel
  have hlv : vs.length = ws.length := by
    have h1 := KV.length rel
    have h2 := congrArg List.length hk
    simp at h2
    omega
  refine sorted_any (PySem.W.kdu_collect (A := X.A.in1) (PySem.W.kdl_dict (knd := mixKind X.prog X.w) (kvs := vs) (ep := ep) lo) (I.ok.hd hc) hat (by rw [hlv]; exact Nat.le_of_lt (small1000 (by omega))) fun h' tk acc kk hacc => ?_)
  have hS : StrsAre acc.toList (ws.map S) := by
    have key : ∀ (l : List Value) (m : List (List Nat)), l.length = m.length → (∀ (j : Nat) v, l[j]? = some v → ∃ c, m[j]? = some c ∧ ∃ u, v = .str (S c) u) → StrsAre l (m.map S) := by
      intro l
      induction l with
      | nil => intro m hl _; cases m with | nil => exact .nil | cons c r => simp at hl
      | cons a r ih =>
        intro m hl hv
        cases m with
        | nil => simp at hl
        | cons c m =>
          obtain ⟨c', e, u, rfl⟩ := hv 0 a rfl
          have e' : c = c' := by simpa using e
          subst e'
          exact .cons _ u (ih m (by simpa using hl) fun j v hj => hv (j + 1) v hj)
    refine key _ _ (by rw [Array.length_toList, hacc.1, hlv]) fun j v hj => ?_
    obtain ⟨k, x, hx, hi⟩ := hacc.2 j v (by simpa using hj)
    have hkj : (ws.map keyS)[j]? = some k := by
      rw [← hk, hkv, List.getElem?_map, hx]; rfl
    rw [List.getElem?_map] at hkj
    cases hw : ws[j]? with
    | none => rw [hw] at hkj; cases hkj
    | some c =>
      rw [hw] at hkj
      have e : keyS c = k := by simpa using hkj
      subst e
      refine ⟨c, rfl, ?_⟩
      rcases keyIs_shape (show keyIs (Sum.inr (S c)) v = true from hi) with ⟨i, t, e1, _⟩ | ⟨y, t, e1, e2⟩
      · cases e1
      · cases e1; exact ⟨t, e2⟩
  have I1 : Inv X pins σ H { s with heap := h', toks := tk } := I.kept kk
  refine ⟨_, hS, by rw [Array.length_toList, hacc.1, hlv]; exact h64, fun h2 vs' ss' e k2 he hS' pm so => ?_⟩
  have es : ss' = (ss'.map fun y => y.cps.toList).map S := by
    rw [List.map_map]
    refine (List.map_id _).symm.trans (List.map_congr_left fun y _ => ?_)
    exact (S_of y).symm
  have pm' : (ss'.map fun y => y.cps.toList).Perm ws := by
    have := pm.map fun y : Str => y.cps.toList
    rw [List.map_map] at this
    have e : ((fun y : Str => y.cps.toList) ∘ S) = id := rfl
    rw [e, List.map_id] at this
    exact this
  have hv : Vals (Ts (ss'.map fun y => y.cps.toList)) vs' := by
    have := vals_of_strs hS'
    rw [es] at this
    simpa [Ts, Function.comp_def] using this
  have hl : (Ts (ss'.map fun y => y.cps.toList)).length ≤ sizeLine := by
    rw [List.length_map, pm'.length_eq]; exact Nat.le_of_lt (small1000 (by omega))
  refine ⟨.ref h'.objs.size, _, I1.laid (o := .lst _) (t' := tk) k2 (Nat.le_refl _) ⟨hl, vs', e, hv, he⟩, rfl, q _ _ I1.fresh pm' (sorted_pw ss' so)⟩
end
theorem SqL.keep {K : PySem.W.Frag} {H H' : Hp} {a p : Addr} {xs : List V} (k : ∀ b o, H b = some o → b ≠ p → H' b = some o) (hp : ∀ o, H p = some o → (∀ ys, o ≠ .lst ys) ∧ ∀ u ys, o ≠ .frz u (.lst ys)) (h : SqL K H a xs) : SqL K H' a xs := by
  rcases h with (h | ⟨o, h⟩) | h
  · exact .inl (.inl (k _ _ h fun e => (hp _ (e ▸ h)).1 _ rfl))
  · exact .inl (.inr ⟨o, k _ _ h fun e => (hp _ (e ▸ h)).2 _ _ rfl⟩)
  · exact .inr h
end L2
end

section
set_option Elab.async false
set_option linter.all false
set_option maxRecDepth 100000
namespace L2
open PySem PySem.Spec PyProof.Rows PySem.SeqAt PySem.MeetsSeq PySem.MeetsSeq3
open AutoSeq1 (wpAny_loadPart')
section
variable {X : Cx}
end
end L2
end

section
set_option Elab.async false
set_option linter.all false
set_option maxRecDepth 100000
namespace L2
open PySem PySem.Spec PyProof.Rows
section
variable {X : Cx}
def rUpA : V → List V → Hp → VK → Prop := fun x vs H Q => ∃ l, x = .str (S l) ∧ vs = [] ∧ l.length ≤ 1000 ∧ (∀ c ∈ l, c < 128) ∧ Q (.str (S (l.map up1))) H
theorem mt_upA : MtR X "str.upper" rUpA := by
  intro pins s σ H x vs v us Q I rx rv h
  obtain ⟨l, rfl, rfl, hz, ha, q⟩ := h
  obtain ⟨t, rfl⟩ := rx
  have hus := rv.zero
  subst hus
  have hfit : Builtin.Str.tooLong (Txt.upper (S l)).length = false := fit_upper (by rw [S_len]; omega)
  refine call_gives F.slot_str_upper (typeIs_str s _ t) F.entry_str_upper (F.args_str_upper_1 _) (gives_str_upper (S l) t hfit) ⟨fit_le hfit, ?_⟩
  have e : Txt.upper (S l) = S (l.map up1) := by rw [upper_ascii (x := S l) ha]; simp [S]
  exact ⟨.str (S (l.map up1)), H, I.tok _, ⟨s.toks, congrArg (fun z => Value.str z s.toks) e⟩, q⟩
end
theorem at_modA {α : Type} {xs : List α} {n : Nat} (hn : xs.length = n) (h : 0 < n) (c : Int) : ∃ v, atI xs (c % (n : Int)) = some v ∧ v ∈ xs := by
  have h0 : 0 ≤ c % (n : Int) := Int.emod_nonneg _ (by omega)
  have h1 : c % (n : Int) < n := Int.emod_lt_of_pos _ (by omega)
  obtain ⟨k, hk⟩ : ∃ k : Nat, c % (n : Int) = (k : Int) := ⟨(c % (n : Int)).toNat, by omega⟩
  rw [hk]
  have hl : k < xs.length := by omega
  exact ⟨xs[k], atI_nat (by simp [hl]), List.getElem_mem _⟩
end L2
end

section
set_option Elab.async false
set_option linter.all false
set_option maxRecDepth 100000
namespace L2
open PySem PySem.Spec PyProof.Rows
inductive Dt where
  | non | int (i : Int) | str (l : List Nat) | tup (ds : List Dt) | lst (ds : List Dt)
mutual
def toP : Dt → PyData
  | .non => .none
  | .int i => .int i
  | .str l => .str (S l)
  | .tup ds => .tuple (toPs ds)
  | .lst ds => .list (toPs ds)
def toPs : List Dt → List PyData
  | [] => []
  | d :: ds => toP d :: toPs ds
end
mutual
theorem eqv_D : ∀ d e : Dt, PyData.eqv (toP d) (toP e) = true ↔ d = e
  | .non, .non => by simp [toP, PyData.eqv]
  | .non, .int _ => by simp [toP, PyData.eqv]
  | .non, .str _ => by simp [toP, PyData.eqv]
  | .non, .tup _ => by simp [toP, PyData.eqv]
  | .non, .lst _ => by simp [toP, PyData.eqv]
  | .int _, .non => by simp [toP, PyData.eqv]
  | .int _, .int _ => by simp [toP, PyData.eqv]
  | .int _, .str _ => by simp [toP, PyData.eqv]
  | .int _, .tup _ => by simp [toP, PyData.eqv]
  | .int _, .lst _ => by simp [toP, PyData.eqv]
  | .str _, .non => by simp [toP, PyData.eqv]
  | .str _, .int _ => by simp [toP, PyData.eqv]
  | .str a, .str b => by
    simp only [toP, PyData.eqv, beq_iff_eq, Dt.str.injEq]
    exact ⟨S_inj, fun z => by rw [z]⟩
  | .str _, .tup _ => by simp [toP, PyData.eqv]
  | .str _, .lst _ => by simp [toP, PyData.eqv]
  | .tup _, .non => by simp [toP, PyData.eqv]
  | .tup _, .int _ => by simp [toP, PyData.eqv]
  | .tup _, .str _ => by simp [toP, PyData.eqv]
  | .tup ds, .tup es => by simp only [toP, PyData.eqv, Dt.tup.injEq]; exact eqv_Ds ds es
  | .tup _, .lst _ => by simp [toP, PyData.eqv]
  | .lst _, .non => by simp [toP, PyData.eqv]
  | .lst _, .int _ => by simp [toP, PyData.eqv]
  | .lst _, .str _ => by simp [toP, PyData.eqv]
  | .lst _, .tup _ => by simp [toP, PyData.eqv]
  | .lst ds, .lst es => by simp only [toP, PyData.eqv, Dt.lst.injEq]; exact eqv_Ds ds es
theorem eqv_Ds : ∀ ds es : List Dt, PyData.eqvAll (toPs ds) (toPs es) = true ↔ ds = es
  | [], [] => by simp [toPs, PyData.eqvAll]
  | [], _ :: _ => by simp [toPs, PyData.eqvAll]
  | _ :: _, [] => by simp [toPs, PyData.eqvAll]
  | d :: ds, e :: es => by
    simp only [toPs, PyData.eqvAll, Bool.and_eq_true, List.cons.injEq]
    rw [eqv_D d e, eqv_Ds ds es]
end
open Classical in
theorem eqv_dec (d e : Dt) : PyData.eqv (toP d) (toP e) = decide (d = e) := by
  by_cases h : d = e
  · rw [decide_eq_true h]; exact (eqv_D d e).mpr h
  · rw [decide_eq_false h]
    cases z : PyData.eqv (toP d) (toP e) with
    | false => rfl
    | true => exact absurd ((eqv_D d e).mp z) h
mutual
inductive HasD (K : PySem.W.Frag) (H : Hp) : Nat → Dt → V → Prop
  | non {n} : HasD K H n .non .non
  | int {n} (i : Int) : HasD K H n (.int i) (.int i)
  | str {n} (l : List Nat) (h : ∀ c ∈ l, c < 128) : HasD K H n (.str l) (.str (S l))
  | tup {n a ds xs} (h : SqT K H a xs) (hs : HasDs K H n ds xs) : HasD K H (n + 1) (.tup ds) (.ref a)
  | lst {n a ds xs} (h : SqL K H a xs) (hs : HasDs K H n ds xs) : HasD K H (n + 1) (.lst ds) (.ref a)
inductive HasDs (K : PySem.W.Frag) (H : Hp) : Nat → List Dt → List V → Prop
  | nil {n} : HasDs K H n [] []
  | cons {n d ds x xs} (h : HasD K H n d x) (hs : HasDs K H n ds xs) : HasDs K H n (d :: ds) (x :: xs)
end
theorem strOk_S {l : List Nat} (h : ∀ c ∈ l, c < 128) : PyData.strOk (S l) = true := by
  unfold PyData.strOk
  show l.toArray.all _ = true
  rw [Array.all_eq_true_iff_forall_mem]
  intro x hx
  have := h x (by simpa using hx)
  exact decide_eq_true (by omega)
mutual
theorem HasD.lay {K : PySem.W.Frag} {H : Hp} : ∀ {n : Nat} {d : Dt} {x : V}, HasD K H n d x → (toP d).canLay0 = true ∧ (toP d).depth ≤ n
  | _, _, _, .non => by simp [toP, PyData.canLay0, PyData.depth]
  | _, _, _, .int _ => by simp [toP, PyData.canLay0, PyData.depth]
  | _, _, _, .str l h => by simp only [toP, PyData.canLay0, PyData.depth]; exact ⟨strOk_S h, Nat.zero_le _⟩
  | _, _, _, .tup _ hs => by
    simp only [toP, PyData.canLay0, PyData.depth]
    have := hs.lay
    exact ⟨this.1, Nat.succ_le_succ this.2⟩
  | _, _, _, .lst _ hs => by
    simp only [toP, PyData.canLay0, PyData.depth]
    have := hs.lay
    exact ⟨this.1, Nat.succ_le_succ this.2⟩
theorem HasDs.lay {K : PySem.W.Frag} {H : Hp} : ∀ {n : Nat} {ds : List Dt} {xs : List V}, HasDs K H n ds xs → PyData.canLayAll0 (toPs ds) = true ∧ PyData.depthAll (toPs ds) ≤ n
  | _, _, _, .nil => by simp [toPs, PyData.canLayAll0, PyData.depthAll]
  | _, _, _, .cons h hs => by
    have a := h.lay
    have b := hs.lay
    simp only [toPs, PyData.canLayAll0, PyData.depthAll, Bool.and_eq_true]
    exact ⟨⟨a.1, b.1⟩, Nat.max_le.mpr ⟨a.2, b.2⟩⟩
end
mutual
theorem HasD.same {K : PySem.W.Frag} {H H' : Hp} (sm : Same H H') (st : ∀ a xs, SqT K H a xs → SqT K H' a xs) : ∀ {n : Nat} {d : Dt} {x : V}, HasD K H n d x → HasD K H' n d x
  | _, _, _, .non => .non
  | _, _, _, .int i => .int i
  | _, _, _, .str l h => .str l h
  | _, _, _, .tup h hs => .tup (st _ _ h) (hs.same sm st)
  | _, _, _, .lst h hs => .lst (sm.seq h) (hs.same sm st)
theorem HasDs.same {K : PySem.W.Frag} {H H' : Hp} (sm : Same H H') (st : ∀ a xs, SqT K H a xs → SqT K H' a xs) : ∀ {n : Nat} {ds : List Dt} {xs : List V}, HasDs K H n ds xs → HasDs K H' n ds xs
  | _, _, _, .nil => .nil
  | _, _, _, .cons h hs => .cons (h.same sm st) (hs.same sm st)
end
section
variable {X : Cx}
mutual
theorem HasD.reads {pins : List (Addr × Obj)} {σ : St} {H : Hp} {s : Shared} (I : Inv X pins σ H s) : ∀ {n : Nat} {d : Dt} {x : V} {u : Value}, HasD X.K H n d x → RelV x u → ∃ as, Reads s.heap u (toP d) as
  | _, _, _, u, .non, r => by cases r; exact ⟨[], by rw [toP]; exact .none⟩
  | _, _, _, u, .int i, r => by obtain ⟨t, rfl⟩ := r; exact ⟨[], by rw [toP]; exact .int i t⟩
  | _, _, _, u, .str l h, r => by obtain ⟨t, rfl⟩ := r; exact ⟨[], by rw [toP]; exact .str _ t⟩
  | _, _, _, u, .tup h hs, r => by
    cases r
    obtain ⟨its, rv, pl, _⟩ := I.tuple h
    obtain ⟨as, ra⟩ := hs.reads I rv
    obtain ⟨o, ho, hc, n, hd⟩ := pl
    exact ⟨as, by rw [toP]; exact .tuple ho hc hd (by simpa using ra)⟩
  | _, _, _, u, .lst h hs, r => by
    cases r
    obtain ⟨its, rv, pl, _⟩ := I.list h
    obtain ⟨as, ra⟩ := hs.reads I rv
    obtain ⟨o, ho, hc, n, hd⟩ := pl.isList
    exact ⟨_ :: as, by rw [toP]; exact .list ho hc hd (by simpa using ra)⟩
theorem HasDs.reads {pins : List (Addr × Obj)} {σ : St} {H : Hp} {s : Shared} (I : Inv X pins σ H s) : ∀ {n : Nat} {ds : List Dt} {xs : List V} {us : List Value}, HasDs X.K H n ds xs → Vals xs us → ∃ as, ReadsAll s.heap us (toPs ds) as
  | _, _, _, us, .nil, r => by cases r; exact ⟨[], by rw [toPs]; exact .nil⟩
  | _, _, _, us, .cons h hs, r => by
    cases r with
    | cons q t =>
      obtain ⟨as, a⟩ := h.reads I q
      obtain ⟨bs, b⟩ := hs.reads I t
      exact ⟨as ++ bs, by rw [toPs]; exact .cons a b⟩
end
theorem HasD.shaped {K : PySem.W.Frag} {H : Hp} {n : Nat} {d : Dt} {x : V} (h : HasD K H n d x) (hn : n ≤ 64) : SeqAt.shaped (toP d) = true := by
  unfold SeqAt.shaped
  rw [h.lay.1, decide_eq_true (Nat.le_trans h.lay.2 hn)]
  rfl
open Classical in
def rEqD (K : PySem.W.Frag) (neg : Bool) : R2 := fun x y H Q => ∃ n d e, n ≤ 64 ∧ HasD K H n d x ∧ HasD K H n e y ∧ Q (.bl (if neg then !decide (d = e) else decide (d = e))) H
theorem op_eqD (hu : X.A.units + 64 < cLine) : OpR X (compareOp .Eq) (rEqD X.K false) := by
  intro pins s σ H x y v u Q I rx ry h
  obtain ⟨n, d, e, hn, hd, he, q⟩ := h
  obtain ⟨as, ra⟩ := hd.reads I rx
  obtain ⟨bs, rb⟩ := he.reads I ry
  refine SeqAt.compareEq_shaped ra rb (hd.shaped hn) (he.shaped hn) hu ⟨.bl _, H, I, rfl, ?_⟩
  rw [eqv_dec]; exact q
theorem op_neD (hu : X.A.units + 64 < cLine) : OpR X (compareOp .NotEq) (rEqD X.K true) := by
  intro pins s σ H x y v u Q I rx ry h
  obtain ⟨n, d, e, hn, hd, he, q⟩ := h
  obtain ⟨as, ra⟩ := hd.reads I rx
  obtain ⟨bs, rb⟩ := he.reads I ry
  refine SeqAt.compareNe_shaped ra rb (hd.shaped hn) (he.shaped hn) hu ⟨.bl _, H, I, rfl, ?_⟩
  rw [eqv_dec]; exact q
variable {tg : Expr}
end
end L2
namespace L2
open PySem PySem.Spec PyProof.Rows
section
variable {X : Cx} {x : Str} {pos : Pos}
end
end L2
namespace L2
open PySem PySem.Spec PyProof.Rows
section
variable {X : Cx}
theorem sl_listK (K : PySem.W.Frag)  (h : X.K = K := by rfl) : SlR X (rSlL K) := by subst h; exact sl_list
theorem call_list_ofK (K : PySem.W.Frag)  (h : X.K = K := by rfl) : CallR X (.type "list") (fun xs H Q => ∃ p ys, xs = [.ref p] ∧ (SqL K H p ys ∨ SqT K H p ys) ∧ ∀ l, H l = none → Q (.ref l) (upd H l (.lst ys))) := by subst h; exact call_list_of
end
end L2
end

section
set_option Elab.async false
set_option linter.all false
set_option maxRecDepth 100000
namespace L2
open PySem PySem.Spec PyProof.Rows
theorem cut_to (l : List Nat) (n : Nat) : cutN l none (some (n : Int)) = l.take n := by
  unfold cutN
  rw [HT.sIx_nat]
  show (l.drop 0).take (min n l.length - 0) = _
  rw [List.drop_zero, Nat.sub_zero]
  by_cases h : n ≤ l.length
  · rw [Nat.min_eq_left h]
  · rw [Nat.min_eq_right (by omega), List.take_of_length_le (Nat.le_refl _), List.take_of_length_le (by omega)]
section
variable {X : Cx}
end
end L2
end

section
set_option Elab.async false
set_option linter.all false
set_option maxRecDepth 100000
namespace L2
open PySem PySem.Spec PyProof.Rows
structure CompG (X : Cx) (scope : Scope) (ns N2 : List Str) (f : St → St) : Prop where
  kind : scope.kind = .function
  ncell : ∀ y ∈ scope.names, y.2 ≠ .cell
  names : ∀ y ∈ scope.names, y.2 = .local → scope.names.lookup y.1 = some .local
  free : ∀ y ∈ scope.names, y.2 = .free → X.env.kindOf y.1 = some .cell ∨ X.env.kindOf y.1 = some .free
  lenf : ∀ σ : St, (f σ).length = σ.length
  lenN : N2.length = X.N.length
  out : ∀ (σ : St) (i : Nat) (y : Str) (v : V), N2[i]? = some y → (f σ)[i]? = some (some v) → X.N[i]? = some y ∧ σ[i]? = some (some v) ∧ scope.names.lookup y ≠ some .local
end L2
namespace L2
open PySem PySem.Spec PyProof.Rows
end L2
end

section
set_option Elab.async false
set_option linter.all false
set_option maxRecDepth 100000
namespace L2
open PySem PySem.Spec PyProof.Rows
section
variable {X : Cx}
def tCut (t : TS) : TS := fun D σ H => ∃ Iv : St → Hp → Prop, t { D with nx := Iv } σ H ∧ ∀ σ' H', Iv σ' H' → D.nx σ' H'
theorem qs_cut {st : Stmt} {t : TS} (h : QS X st t) : QS X st (tCut t) := ⟨fun pins s σ H D I ⟨Iv, a, b⟩ => by
  refine thn (h.out pins s σ H _ I a) fun f s' q => ?_
  cases f with
  | next => obtain ⟨σ7, H7, I7, n7⟩ := q; exact ⟨σ7, H7, I7, b _ _ n7⟩
  | cont => exact q
  | brk => exact q
  | ret v => exact q⟩
end
end L2
end

section
set_option Elab.async false
set_option linter.all false
set_option maxRecDepth 100000
namespace L2
open PySem PySem.Spec PyProof.Rows PySem.W
section
variable {n : Nat} {r : Nat → Nat}
structure PermA (n : Nat) (p : Array Nat) : Prop where
  sz : p.size = n
  pm : p.toList.Perm (List.range n)
end
end L2
end

section
set_option Elab.async false
set_option linter.all false
set_option maxRecDepth 100000
set_option maxHeartbeats 1000000
namespace L2
open PySem PySem.Spec PyProof.Rows PySem.W
section
variable {prog : Program} {w : World} {A : Around} {E : Value → Shared → Prop} {s : Shared}
end
section
variable {X : Cx}
end
end L2
end

section
set_option Elab.async false
set_option linter.all false
set_option maxRecDepth 100000
set_option maxHeartbeats 1000000
namespace L2
open PySem PySem.Spec PyProof.Rows PySem.W
section
variable {prog : Program} {w : World} {A : Around} {E : Value → Shared → Prop} {s : Shared} {d a : Addr} {g : Array DictEntry} {e i : Nat}
end
section
variable {X : Cx}
end
section
variable {X : Cx} {pos : Pos}
end
end L2
end

section
set_option Elab.async false
set_option linter.all false
set_option maxRecDepth 100000
set_option maxHeartbeats 1000000
namespace L2
open PySem PySem.Spec PyProof.Rows PySem.W
section
variable {prog : Program} {w : World} {A : Around} {E : Value → Shared → Prop} {s : Shared}
end
section
variable {X : Cx}
end
end L2
end

section
set_option Elab.async false
set_option linter.all false
set_option maxRecDepth 100000
set_option maxHeartbeats 1000000
namespace L2
open PySem PySem.Spec PyProof.Rows PySem.W
section
variable {X : Cx}
structure InstOk (K : PySem.W.Frag) (C : Addr) : Prop where
  ha : PySem.W.findIn K (.ref C) "__class__" = some (some (.builtin "object.__class__"))
  hn : PySem.W.specialIn K (.builtin "object.__class__") "__get__" = some (some (.builtin "getset_descriptor.__get__"))
  ht : PySem.W.takesIn K (.builtin "object.__class__") = some true
  hm : PySem.W.mroIn K C (.type "object") = some true
  ki : PySem.W.kitOne K (.ref C) (.ref C) = some true
end
end L2
end

section
set_option Elab.async false
set_option linter.all false
set_option maxRecDepth 100000
set_option maxHeartbeats 1000000
namespace L2
open PySem PySem.Spec PyProof.Rows
end L2
end

section
set_option Elab.async false
set_option linter.all false
set_option maxRecDepth 100000
set_option maxHeartbeats 1000000
namespace L2
open PySem PySem.Spec PyProof.Rows
section
variable {M : Model} {A : Around} {E : Value → Shared → Prop} {s : Shared}
end
structure CompC (X : Cx) (scope : Scope) (xn : Str) (N2 : List Str) (f : St → St) : Prop where
  kind : scope.kind = .function
  one : ∀ y ∈ scope.names, y.2 = .cell → y.1 = xn
  cf : ∀ k acc, cellsFrom k scope.names acc = (xn, k) :: acc
  pc : ∀ h : Heap, pushCells h scope.names = h.push { cls := .type "cell", data := .cell none }
  names : ∀ y ∈ scope.names, y.2 = .local → scope.names.lookup y.1 = some .local
  free : ∀ y ∈ scope.names, y.2 = .free → X.env.kindOf y.1 = some .cell ∨ X.env.kindOf y.1 = some .free
  lenf : ∀ σ : St, (f σ).length = σ.length
  lenN : N2.length = X.N.length
  out : ∀ (σ : St) (i : Nat) (y : Str) (v : V), N2[i]? = some y → (f σ)[i]? = some (some v) → X.N[i]? = some y ∧ σ[i]? = some (some v) ∧ scope.names.lookup y ≠ some .local ∧ y ≠ xn
end L2
end

section
set_option Elab.async false
set_option linter.all false
set_option maxRecDepth 100000
namespace L2
open PySem PySem.Spec PyProof.Rows
section
variable {X : Cx}
end
end L2
end

section
set_option Elab.async false
set_option linter.all false
set_option maxRecDepth 100000
set_option maxHeartbeats 1000000
namespace L2
open PySem PySem.Spec PyProof.Rows PySem.W
section
variable {X : Cx}
end
end L2
end

section
set_option Elab.async false
set_option linter.all false
set_option maxRecDepth 100000
set_option maxHeartbeats 2000000
namespace L2
open PySem PySem.Spec PyProof.Rows PySem.W
open AutoSeq1 (wpAny_loadPart')
section
variable {prog : Program} {w : World} {A : Around} {E : Value → Shared → Prop} {s : Shared}
end
section
variable {X : Cx} {pins : List (Addr × Obj)} {σ : St} {H : Hp} {s : Shared} {h' : Heap}
end
section
variable {X : Cx} {elts : List Expr} {x1 : Nat} {tp : Pos}
end
section
variable {X : Cx}
end
end L2
end

section
set_option Elab.async false
set_option linter.all false
set_option maxRecDepth 100000
set_option maxHeartbeats 2000000
namespace L2
open PySem PySem.Spec PyProof.Rows PySem.W
structure ZA (z ti to u v a b : Addr) : Prop where
  q1 : ti ≠ z
  q2 : to ≠ z
  q3 : u ≠ z
  q4 : v ≠ z
  q5 : ti ≠ to
  q6 : ti ≠ u
  q7 : ti ≠ v
  q8 : to ≠ u
  q9 : to ≠ v
  p1 : u ≠ v
  p2 : a ≠ z
  p3 : a ≠ to
  p4 : a ≠ u
  p5 : a ≠ v
  p6 : b ≠ z
  p7 : b ≠ to
  p8 : b ≠ u
  p9 : b ≠ v
section
variable {prog : Program} {w : World} {A : Around} {E : Value → Shared → Prop} {s : Shared} {z ti to u v a b : Addr} {i : Nat} {f g : Array Value} {x y m n : Value}
end
section
variable {X : Cx} {pins : List (Addr × Obj)} {σ : St} {H : Hp} {s : Shared}
end
section
variable {X : Cx} {elts : List Expr} {x1 : Nat} {tp : Pos}
end
end L2
end

section
set_option Elab.async false
set_option linter.all false
set_option maxRecDepth 100000
set_option maxHeartbeats 2000000
namespace L2
open PySem PySem.Spec PyProof.Rows PySem.W
structure Fly (B : Heap) (l : List Env) (e : Addr) (cls : Value) (dd : Option Addr) (fl : Value) (h : Heap) : Prop where
  stays : B.StaysIn h
  new : B.get? e = none
  frames : h.FunFrames B l
  tr : ∃ oe vs T oT ts, h.get? e = some oe ∧ oe.cls = cls ∧ oe.dict = dd ∧ oe.data = .fields vs ∧ vs[1]? = some (.ref T) ∧ vs[2]? = some .none ∧ B.get? T = none ∧ T ≠ e ∧ h.get? T = some oT ∧ oT.data = .fields ts ∧ ts[3]? = some fl
theorem Fly.outer {B h : Heap} {env : Env} {l : List Env} {e : Addr} {cls fl : Value} {dd : Option Addr} (x : Fly B (env :: l) e cls dd fl h) : Fly B l e cls dd fl h := ⟨x.stays, x.new, x.frames.2.2, x.tr⟩
theorem dict_mapF (o : Obj) (f) : (o.mapFields f).dict = o.dict := by obtain ⟨c, d, dt, sl⟩ := o; cases dt <;> rfl
section
variable {M : Model} {A : Around} {E : Value → Shared → Prop} {s : Shared} {B : Heap} {env : Env} {outer l : List Env} {L e : Addr} {oe : Obj} {vs : Array Value} {head cls fl : Value} {dd : Option Addr} {hadNext : Bool} {Q : Unit → Shared → Prop}
theorem entry_made (hfr : A.frames = some (env :: outer)) (hl : s.heap.FunFrames B (env :: outer)) (hf : env.frame = some L) (he : s.heap.get? e = some oe) (kb : B.StaysIn s.heap) (en : B.get? e = none) (hd : oe.data = .fields vs) (hz : 1 < vs.size) (h2 : vs[2]? = some .none)
    (h : ∀ h', Fly B (env :: outer) e oe.cls oe.dict (rawInt L) h' → s.heap.UpToSlots h' → Q () { s with heap := h' }) :
    wpAny M A (do let a ← frameOf env; let pl ← entryPlaceOf L hadNext; let b ← EntryCells.newEntry head a .none (rawInt L) .none pl; setField (.ref e) 1 b) Q E s := by
  have out : e ∉ (env :: outer).filterMap (·.frame) := fun z => by
    obtain ⟨_, u, hu, nf⟩ := hl.mem z
    rw [he] at hu; cases hu; exact nf vs hd
  refine wpAny_bind (wpAny_frameOf_fun hfr hl hf fun g hg => wpAny_bind (wpAny_entryPlaceOf fun pl hpl => ?_))
  unfold EntryCells.newEntry newFields
  refine wpAny_bind (wpAny_newObj_type ?_ (hpl.sizeOk5 _ _ _ _ _))
  generalize hO : ({ cls := .type "traceback", dict := none, data := .fields ([head, .ref L, .none, rawInt L, .none] ++ (if pl.isEmpty then List.replicate 6 Value.none else pl)).toArray } : Obj) = O
  have hOd : ∃ ts, O.data = .fields ts ∧ ts[3]? = some (rawInt L) := ⟨_, by rw [← hO], by first | (simp; done) | (rcases hpl with rfl | ⟨_, _, _, _, _, _, _, rfl⟩ <;> simp)⟩
  have ge : g.get? e = some oe := (hg.2.1 e out).trans he
  have gB : B.StaysIn g := fun b o q => (hg.2.1 b fun z => by rw [(hl.mem z).1] at q; cases q).trans (kb b o q)
  have Te : g.objs.size ≠ e := Nat.ne_of_gt (Heap.lt_size ge)
  have pe : (g.push O).get? e = some oe := Heap.get?_push_of_some O ge
  obtain ⟨ts, hts, h3⟩ := hOd
  have pT : (g.push O).get? g.objs.size = some O := Heap.get?_push_size g (Obj.isFreed_of_fields hts)
  have mv : ∀ b o, b ≠ e → g.get? b = some o → ((g.push O).update e (Obj.mapFields (·.setIfInBounds 1 (Value.ref g.objs.size)))).get? b = some o := fun b o nb q =>
    (Heap.get?_update_other _ _ (Ne.symm nb)).trans (Heap.get?_push_of_some O q)
  have nr : ∀ b o, s.heap.get? b = some o → (∀ vs, o.data ≠ .fields vs) → b ≠ e := fun b o q nf z => by
    rw [z, he] at q; cases q; exact nf vs hd
  refine wpAny_setField pe hd hz (h _ ⟨fun b o q => mv b o (fun z => by rw [z, en] at q; cases q) (gB b o q), en, hl.of_keeps fun b o q nf => ?_, ?_⟩ fun b o q nf => ?_)
  · obtain ⟨sl, z⟩ := hg.2.2 b o q
    exact ⟨_, mv b _ (nr b o q nf) z, rfl⟩
  · have dd := Obj.data_mapFields hd (·.setIfInBounds 1 (Value.ref g.objs.size))
    refine ⟨_, _, g.objs.size, O, ts, Heap.get?_update_self _ pe (Obj.isFreed_of_fields dd), Obj.cls_mapFields _ _, dict_mapF _ _, dd, by simp [hz], by rw [Array.getElem?_setIfInBounds_ne (by decide)]; exact h2, gB.fresh, Te, (Heap.get?_update_other _ _ (Ne.symm Te)).trans pT, hts, h3⟩
  · obtain ⟨sl, z⟩ := hg.2.2 b o q
    exact ⟨sl, mv b _ (nr b o q nf) z⟩
theorem flight_off (x : Fly B l e cls dd fl s.heap) (h : ∀ h', Fly B l e cls dd .none h' → s.heap.UpToSlots h' → Q () { s with heap := h' }) : wpAny M A (setFlight (.ref e) none) Q E s := by
  obtain ⟨st, en, fr, oe, vs, T, oT, ts, he, hc, hdd, hd, h1, h2, nT, Te, hT, hdT, h3⟩ := x
  have z3 : 3 < ts.size := (Array.getElem?_eq_some_iff.mp h3).1
  have mv : ∀ b, b ≠ T → (s.heap.update T (Obj.mapFields (·.setIfInBounds 3 ((none : Option Addr).elim Value.none fun f => rawInt f)))).get? b = s.heap.get? b := fun b nb => Heap.get?_update_other _ _ (Ne.symm nb)
  have nr : ∀ b o, s.heap.get? b = some o → (∀ vs, o.data ≠ .fields vs) → b ≠ T := fun b o q nf z => by
    rw [z, hT] at q; cases q; exact nf ts hdT
  unfold setFlight
  refine wpAny_bind (wpAny_field he hd h1 ?_)
  rw [if_pos (show (Value.ref T != Value.none) = true by simp)]
  refine wpAny_setField hT hdT z3 (h _ ⟨fun b o q => (mv b fun z => by rw [z, nT] at q; cases q).trans (st b o q), en, fr.of_keeps fun b o q nf => ⟨o, (mv b (nr b o q nf)).trans q, rfl⟩, ?_⟩ fun b o q nf => ⟨o.slots, (mv b (nr b o q nf)).trans q⟩)
  have d3 := Obj.data_mapFields hdT (·.setIfInBounds 3 ((none : Option Addr).elim Value.none fun f => rawInt f))
  exact ⟨oe, vs, T, _, _, (mv e (Ne.symm Te)).trans he, hc, hdd, hd, h1, h2, nT, Te, Heap.get?_update_self _ hT (Obj.isFreed_of_fields d3), d3, by simp [z3]⟩
theorem note_new (hfr : A.frames = some (env :: outer)) (hl : s.heap.FunFrames B (env :: outer)) (hf : env.frame = some L) (he : s.heap.get? e = some oe) (kb : B.StaysIn s.heap) (en : B.get? e = none) (hd : oe.data = .fields vs) (h1 : vs[1]? = some .none) (h2 : vs[2]? = some .none)
    (h : ∀ h', Fly B (env :: outer) e oe.cls oe.dict (rawInt L) h' → s.heap.UpToSlots h' → Q () { s with heap := h' }) : wpAny M A (noteFrame (.ref e) env) Q E s := by
  unfold noteFrame
  simp only [hf]
  refine wpAny_bind (wpAny_field he hd h1 ?_)
  rw [if_neg (by decide)]
  exact entry_made hfr hl hf he kb en hd (Array.getElem?_eq_some_iff.mp h1).1 h2 h
theorem note_on (hfr : A.frames = some (env :: outer)) (hf : env.frame = some L) (x : Fly B (env :: outer) e cls dd .none s.heap) (h : ∀ h', Fly B (env :: outer) e cls dd (rawInt L) h' → s.heap.UpToSlots h' → Q () { s with heap := h' }) : wpAny M A (noteFrame (.ref e) env) Q E s := by
  obtain ⟨st, en, fr, oe, vs, T, oT, ts, he, hc, hdd, hd, h1, h2, nT, Te, hT, hdT, h3⟩ := x
  subst hc hdd
  have mv : ∀ b, b ≠ T → (s.heap.update T (Obj.mapFields (·.setIfInBounds 3 Value.none))).get? b = s.heap.get? b := fun b nb => Heap.get?_update_other _ _ (Ne.symm nb)
  have nr : ∀ b o, s.heap.get? b = some o → (∀ vs, o.data ≠ .fields vs) → b ≠ T := fun b o q nf z => by
    rw [z, hT] at q; cases q; exact nf ts hdT
  unfold noteFrame
  simp only [hf]
  refine wpAny_bind (wpAny_field he hd h1 ?_)
  rw [if_pos (show (Value.ref T != Value.none) = true by simp)]
  refine wpAny_bind (wpAny_field hT hdT h3 ?_)
  rw [if_neg (show ¬ ((Value.none == rawInt L) = true) by simp [rawInt])]
  refine wpAny_bind (wpAny_setField hT hdT (Array.getElem?_eq_some_iff.mp h3).1 ?_)
  refine entry_made hfr (fr.of_keeps fun b o q nf => ⟨o, (mv b (nr b o q nf)).trans q, rfl⟩) hf ((mv e (Ne.symm Te)).trans he) (fun b o q => (mv b fun z => by rw [z, nT] at q; cases q).trans (st b o q)) en hd (Array.getElem?_eq_some_iff.mp h1).1 h2
    fun h' y k => h h' y fun b o q nf => k b o ((mv b (nr b o q nf)).trans q) nf
theorem leave_new (hfr : A.frames = some (env :: outer)) (hl : s.heap.FunFrames B (env :: outer)) (hf : env.frame = some L) (he : s.heap.get? e = some oe) (kb : B.StaysIn s.heap) (en : B.get? e = none) (hd : oe.data = .fields vs) (h1 : vs[1]? = some .none) (h2 : vs[2]? = some .none)
    (h : ∀ h', Fly B outer e oe.cls oe.dict .none h' → s.heap.UpToSlots h' → Q () { s with heap := h' }) : wpAny M A (leaving env (.ref e)) Q E s := by
  unfold leaving
  exact wpAny_bind (note_new hfr hl hf he kb en hd h1 h2 fun h1 x k => flight_off x fun h2 y k2 => h h2 y.outer (k.trans k2))
theorem leave_on (hfr : A.frames = some (env :: outer)) (hf : env.frame = some L) (x : Fly B (env :: outer) e cls dd .none s.heap) (h : ∀ h', Fly B outer e cls dd .none h' → s.heap.UpToSlots h' → Q () { s with heap := h' }) : wpAny M A (leaving env (.ref e)) Q E s := by
  unfold leaving
  exact wpAny_bind (note_on hfr hf x fun h1 x k => flight_off x fun h2 y k2 => h h2 y.outer (k.trans k2))
end
end L2
end

section
set_option Elab.async false
set_option linter.all false
set_option maxRecDepth 100000
set_option maxHeartbeats 2000000
namespace L2
open PySem PySem.Spec PyProof.Rows PySem.W
theorem ObjOk.there {P : Program} {w : World} {H : Hp} {h : Heap} {a : Addr} {o : HO} (x : ObjOk P w H h a o) : ∃ u, h.get? a = some u := by
  cases o with
  | lst xs => obtain ⟨_, _, _, _, e⟩ := x; exact ⟨_, e⟩
  | tup xs => obtain ⟨_, _, _, _, e, _⟩ := x; exact ⟨_, e⟩
  | dK kvs => obtain ⟨_, _, _, _, o, _, _, e, _⟩ := x; exact ⟨_, e⟩
  | dT kvs => obtain ⟨_, _, _, _, o, _, _, e, _⟩ := x; exact ⟨_, e⟩
  | set S n => obtain ⟨o, _, _, _, e, _⟩ := x; exact ⟨_, e⟩
  | ins C dx fs => obtain ⟨_, _, _, e, _⟩ := x; exact ⟨_, e⟩
  | own y => exact x
  | xd fs => obtain ⟨_, ⟨_, _, _, e, _⟩, _⟩ := x; exact ⟨_, e⟩
  | rng lo hi => obtain ⟨_, _, _, e⟩ := x; exact ⟨_, e⟩
  | frz ob u => obtain ⟨e, _⟩ := x; exact ⟨_, e⟩
  | tbl ps => exact ⟨_, (show h.get? a = some _ from x)⟩
  | met f y => exact ⟨_, (show h.get? a = some _ from x)⟩
  | ext φ => obtain ⟨_, e, _⟩ := x; exact e
structure ExB (P : Program) (w : World) (outer : List Env) (H : Hp) (s : Shared) (a : Addr) (cls : Value) (dd : Option Addr) (H' : Hp) (s' : Shared) (B : Heap) : Prop where
  os : s'.os = s.os
  bare : AllBare s'.gens
  un : Un (frs outer) [] H H' s.heap s'.heap
  hok : HOk P w H' s'.heap
  fly : Fly B outer a cls dd .none s'.heap
  na : H' a = none
  trk : ∀ b u, H' b = some u → ∃ o, B.get? b = some o
  kp : ∀ b o, s.heap.get? b = some o → b ∉ frs outer → H b = none → B.get? b = some o
  th : ∀ b o, s.heap.get? b = some o → b ∉ frs outer → ∃ o', B.get? b = some o'
def CXE (P : Program) (w : World) : CXT := fun outer H s E e s' => ∃ (a : Addr) (cls : Value) (dd : Option Addr) (H' : Hp) (B : Heap), e = .ref a ∧ ExB P w outer H s a cls dd H' s' B ∧ E cls dd H'
section
variable {X : Cx} {pins : List (Addr × Obj)} {σ : St} {H1 H' : Hp} {s1 s2 : Shared} {e : Addr} {oe : Obj} {vs : Array Value} {Q : Unit → Shared → Prop} {E : Value → Shared → Prop} {cls : Value} {dd : Option Addr} {B : Heap}
theorem Inv.nst (I : Inv X pins σ H1 s1) {b : Addr} {o : Obj} (q : X.s₀.heap.get? b = some o) (nb : b ∉ frs X.outer) : b ∉ frs X.stack := fun z => by
  rcases List.mem_cons.mp (I.stkSub b z) with z | z
  · exact absurd (Nat.lt_of_lt_of_le (Heap.lt_size q) I.ok.above) (by rw [z]; exact Nat.lt_irrefl _)
  · exact nb z
theorem Inv.osub (I : Inv X pins σ H1 s1) {b : Addr} (z : b ∈ frs X.outer) : b ∈ frs X.stack := by
  rcases I.ok.stk with e | ⟨e, hf⟩
  · rw [e]; exact z
  · rw [e]; unfold frs; rw [List.filterMap_cons, hf]; exact List.mem_cons_of_mem _ z
theorem Inv.raised (I : Inv X pins σ H1 s1) (hst : X.stack = X.env :: X.outer) (hf : X.env.frame = some X.env.locals) (hex : X.ex = []) (he : s1.heap.get? e = some oe) (hd : oe.data = .fields vs) (h1 : vs[1]? = some .none) (h2 : vs[2]? = some .none) (ne : H1 e = none)
    (en : ∀ b o, X.s₀.heap.get? b = some o → b ≠ e) (q : ∀ s2 B, ExB X.prog X.w X.outer X.H₀ X.s₀ e oe.cls oe.dict H1 s2 B → Q () s2) : wpAny (model X.prog X.w) X.A (leaving X.env (.ref e)) Q E s1 := by
  have hfr : X.A.frames = some (X.env :: X.outer) := by rw [← hst]; exact I.ok.frames
  have hl : s1.heap.FunFrames (hideAll s1.heap (e :: frs X.stack)) (X.env :: X.outer) := by
    rw [← hst]
    exact funFrames_hide I.stack fun env he b hb => List.mem_cons_of_mem _ (List.mem_filterMap.mpr ⟨env, he, hb⟩)
  have nex : ∀ b : Addr, b ∉ X.ex := fun b => by rw [hex]; simp
  refine leave_new hfr hl hf he (fun b o z => of_hideAll _ z) (hideAll_none _ (.head _)) hd h1 h2 fun h' x k => q _ (hideAll s1.heap (e :: frs X.stack)) ?_
  have kB : ∀ b o, s1.heap.get? b = some o → b ≠ e → b ∉ frs X.stack → (hideAll s1.heap (e :: frs X.stack)).get? b = some o := fun b o z n1 n2 => hideAll_get _ z fun m => by
    rcases List.mem_cons.mp m with m | m
    · exact n1 m
    · exact n2 m
  have kF : ∀ b o, s1.heap.get? b = some o → b ∈ frs X.stack → ∃ sl, h'.get? b = some { o with slots := sl } := fun b o z m => by
    obtain ⟨_, u, hu, nf⟩ := I.stack.mem m
    rw [z] at hu; cases hu
    exact k b _ z nf
  have kT : ∀ b u, H1 b = some u → ∀ o, s1.heap.get? b = some o → (hideAll s1.heap (e :: frs X.stack)).get? b = some o := fun b u t o z => kB b o z (fun m => by rw [m, ne] at t; cases t) fun m => by rw [I.stkFree b m] at t; cases t
  refine ⟨I.os, I.bare, ⟨fun b o z n hb _ => ?_, fun b o z n hb _ => ?_, fun b o z n _ => I.base.free b o z n (nex b), fun b o z _ => ?_, I.base.tups, I.base.frzs, I.base.tbls⟩, fun b o t => ?_, x, ne, fun b u t => ?_, fun b o z hb n => ?_, fun b o z hb => ?_⟩
  · exact x.stays b o (kB b o (I.base.keep b o z n hb (nex b)) (en b o z) (I.nst z hb))
  · obtain ⟨sl, e1⟩ := I.base.slot b o z n hb (nex b)
    obtain ⟨sl2, e2⟩ := kF b _ e1 (I.osub hb)
    exact ⟨sl2, e2⟩
  · obtain ⟨o1, e1⟩ := I.base.there b o z (nex b)
    by_cases m : b ∈ frs X.stack
    · obtain ⟨sl2, e2⟩ := kF b _ e1 m
      exact ⟨_, e2⟩
    · exact ⟨o1, x.stays b o1 (kB b o1 e1 (en b o z) m)⟩
  · refine (I.hok b o t).stay (fun c u hc z => x.stays c u ?_) (fun _ r => r) fun _ _ r => r
    rcases hc with rfl | hc
    · exact kT c _ t u z
    · exact kT c _ hc u z
  · obtain ⟨o, z⟩ := (I.hok b u t).there
    exact ⟨o, kT b u t o z⟩
  · exact kB b o (I.base.keep b o z n hb (nex b)) (en b o z) (I.nst z hb)
  · obtain ⟨o1, e1⟩ := I.base.there b o z (nex b)
    exact ⟨o1, kB b o1 e1 (en b o z) (I.nst z hb)⟩
theorem Inv.passed (I : Inv X pins σ H1 s1) (hst : X.stack = X.env :: X.outer) (hf : X.env.frame = some X.env.locals) (hex : X.ex = []) (x : ExB X.prog X.w X.stack H1 s1 e cls dd H' s2 B)
    (q : ∀ s3, ExB X.prog X.w X.outer X.H₀ X.s₀ e cls dd H' s3 B → Q () s3) : wpAny (model X.prog X.w) X.A (leaving X.env (.ref e)) Q E s2 := by
  have hfr : X.A.frames = some (X.env :: X.outer) := by rw [← hst]; exact I.ok.frames
  have nex : ∀ b : Addr, b ∉ X.ex := fun b => by rw [hex]; simp
  have n0 : ∀ b : Addr, b ∉ ([] : List Addr) := fun b => by simp
  refine leave_on hfr hf (by rw [← hst]; exact x.fly) fun h' y k => q _ ?_
  have kp : ∀ b o, X.s₀.heap.get? b = some o → b ∉ frs X.outer → X.H₀ b = none → B.get? b = some o := fun b o z hb n => x.kp b o (I.base.keep b o z n hb (nex b)) (I.nst z hb) (I.base.free b o z n (nex b))
  have th : ∀ b o, X.s₀.heap.get? b = some o → b ∉ frs X.outer → ∃ o', B.get? b = some o' := fun b o z hb => by
    obtain ⟨o1, e1⟩ := I.base.there b o z (nex b)
    exact x.th b o1 e1 (I.nst z hb)
  have kF : ∀ b o, X.s₀.heap.get? b = some o → b ∈ frs X.outer → ∃ sl, h'.get? b = some { o with slots := sl } := fun b o z m => by
    obtain ⟨sl, e1⟩ := I.base.slot b o z (I.ok.frf b m) m (nex b)
    obtain ⟨sl2, e2⟩ := x.un.slot b _ e1 (I.stkFree b (I.osub m)) (I.osub m) (n0 b)
    obtain ⟨_, u, hu, nf⟩ := I.ok.funs.mem m
    rw [z] at hu; cases hu
    obtain ⟨sl3, e3⟩ := k b _ e2 nf
    exact ⟨sl3, e3⟩
  refine ⟨x.os.trans I.os, x.bare, ⟨fun b o z n hb _ => y.stays b o (kp b o z hb n), fun b o z n hb _ => kF b o z hb, fun b o z n _ => ?_, fun b o z _ => ?_, fun b xs t => x.un.tups b xs (I.base.tups b xs t), fun b o u t => x.un.frzs b o u (I.base.frzs b o u t), fun b ps t => ?_⟩, fun b o t => ?_, y, x.na, x.trk, kp, th⟩
  · obtain ⟨o1, e1⟩ := I.base.there b o z (nex b)
    exact x.un.free b o1 e1 (I.base.free b o z n (nex b)) (n0 b)
  · by_cases m : b ∈ frs X.outer
    · obtain ⟨sl, e3⟩ := kF b o z m
      exact ⟨_, e3⟩
    · obtain ⟨o', e1⟩ := th b o z m
      exact ⟨o', y.stays b o' e1⟩
  · obtain ⟨m1, e1⟩ := I.base.tbls b ps t
    obtain ⟨m2, e2⟩ := x.un.tbls b _ e1
    exact ⟨m1 ++ m2, by rw [e2, Array.append_assoc]⟩
  · refine (x.hok b o t).stay (fun c u hc z => ?_) (fun _ r => r) fun _ _ r => r
    have : ∃ v, H' c = some v := by
      rcases hc with rfl | hc
      · exact ⟨_, t⟩
      · exact ⟨_, hc⟩
    obtain ⟨v, hv⟩ := this
    obtain ⟨o', hB⟩ := x.trk c v hv
    have := x.fly.stays c o' hB
    rw [z] at this; cases this
    exact y.stays c u hB
end
end L2
end

section
set_option Elab.async false
set_option linter.all false
set_option maxRecDepth 100000
set_option maxHeartbeats 2000000
namespace L2
open PySem PySem.Spec PyProof.Rows PySem.W
def Lets (X : Cx) (E : XK) : Prop := ∀ (pins : List (Addr × Obj)) (σ : St) (H : Hp) (s : Shared) (e : Addr) (oe : Obj) (vs : Array Value), Inv X pins σ H s → s.heap.get? e = some oe → oe.data = .fields vs → vs[1]? = some .none → vs[2]? = some .none → H e = none →
  (∀ b o, X.s₀.heap.get? b = some o → b ≠ e) → E oe.cls oe.dict H → X.xe (.ref e) s
section
variable {P : Program} {w : World} {K : PySem.W.Frag} {mg : Str → Option Value} {base : Heap} {N : List Str} {qual : Str} {scope : Scope} {f : Addr} {cd : Value} {A : Around} {outer : List Env} {s : Shared} {H : Hp} {E : XK}
theorem lets_cx : Lets (cxOf (CXE P w) P w K mg base N qual scope f cd A outer s H E) E := fun pins σ H1 s1 e oe vs I he hd h1 h2 ne en q =>
  I.raised rfl rfl rfl he hd h1 h2 ne en fun s2 B x => ⟨e, _, _, _, B, rfl, x, q⟩
theorem pass_cx : Passes (CXE P w) (cxOf (CXE P w) P w K mg base N qual scope f cd A outer s H E) E := fun pins σ H1 s1 e s2 I ⟨a, cls, dd, H', B, z, x, q⟩ => by
  subst z
  exact I.passed rfl rfl rfl x fun s3 y => ⟨a, cls, dd, H', B, rfl, y, q⟩
end
structure DefX (P : Program) (w : World) (K : PySem.W.Frag) (mg : Str → Option Value) (base : Heap) (name : Str) (k : Nat) (ps : List Str) (sp : Sp) : Prop where
  ex : ∃ f fd, FnOk P w K mg base (CXE P w) k f fd ps sp ∧ Binds K fd ps [] ∧ mg name = some (.ref f) ∧ PySem.W.keepIn K (.ref f) = true
theorem Fun.qokX {P : Program} {w : World} {K : PySem.W.Frag} {mg : Str → Option Value} {base : Heap} {x qual : Str} {st : Stmt} {f : Addr} {fd : FuncData} {N ps : List Str} {k : Nat} {sp : Sp} (F : Fun K x qual st f fd) (S : FnScope N ps (defScope st)) (len : ∀ vs H Q E, sp vs H Q E → vs.length = ps.length)
    (hbody : ∀ (cdv : Value) (A : Around) (outer : List Env) (s : Shared) (H : Hp) (vs : List V) (Q : VK) (E : XK), Room k (A.deeper (envOfC qual (defScope st) s.heap.objs.size f cdv)) → sp vs H Q E →
      ∃ t, QSs (cxOf (CXE P w) P w K mg base N qual (defScope st) f cdv A outer s H E) (defBody st) t ∧ t { nx := fun _ H' => Q .non H', rt := Q } (start N vs) H) : FnOk P w K mg base (CXE P w) (k + 1) f fd ps sp := by
  obtain ⟨oc, od, kV, doc, pm, an, cdv, ct, osl, rfl, lk, hcd⟩ := F.ex
  refine fn_of lk hcd S len fun A outer s H vs Q E hr hsp => ?_
  obtain ⟨t, h, q⟩ := hbody cdv A outer s H vs Q E hr hsp
  exact ⟨t, h.out, q⟩
theorem DefAt.qokX {P : Program} {w : World} {K : PySem.W.Frag} {mg : Str → Option Value} {base : Heap} {name : Str} {st : Stmt} {N ps : List Str} {k : Nat} {sp : Sp} (D : DefAt K mg name st ps) (S : FnScope N ps (defScope st)) (len : ∀ vs H Q E, sp vs H Q E → vs.length = ps.length)
    (hbody : ∀ (f : Addr) (cdv : Value) (A : Around) (outer : List Env) (s : Shared) (H : Hp) (vs : List V) (Q : VK) (E : XK), Room k (A.deeper (envOfC name (defScope st) s.heap.objs.size f cdv)) → sp vs H Q E →
      ∃ t, QSs (cxOf (CXE P w) P w K mg base N name (defScope st) f cdv A outer s H E) (defBody st) t ∧ t { nx := fun _ H' => Q .non H', rt := Q } (start N vs) H) : DefX P w K mg base name (k + 1) ps sp := by
  obtain ⟨f, fd, F, b, g⟩ := D.ex
  exact ⟨f, fd, F.qokX S len (hbody f), b, g, F.kp⟩
def PassesS (CX : CXT) (X : Cx) (E : XK) (S : St → Prop) : Prop := ∀ (pins : List (Addr × Obj)) (σ : St) (H : Hp) (s : Shared) (e : Value) (s' : Shared), Inv X pins σ H s → S σ → CX X.stack H s E e s' → X.xe e s'
theorem Passes.all {CX : CXT} {X : Cx} {E : XK} (h : Passes CX X E) : PassesS CX X E fun _ => True := fun pins σ H s e s' I _ q => h pins σ H s e s' I q
def tCallS (sp : Sp) (E : XK) (S : St → Prop) (t : TA) : TE := fun σ H Q => S σ ∧ t σ H fun vs H1 => sp vs H1 Q E
def tMakeS (C : Addr) (sp : Sp) (E : XK) (S : St → Prop) (t : TA) : TE := fun σ H Q => S σ ∧ t σ H fun vs H1 => ∀ x dx, H1 x = none → H1 dx = none → dx ≠ x →
  sp (.ref x :: vs) (upd (upd H1 dx (.own x)) x (.ins C dx [])) (fun v H2 => v = .non ∧ Q (.ref x) H2) E
section
variable {X : Cx} {CX : CXT} {k : Nat} {f C : Addr} {fd : FuncData} {ps : List Str} {sp : Sp} {E : XK} {S : St → Prop} {x : Str} {p pos : Pos} {e : Expr} {es : List Expr} {t : TA}
theorem qe_ownS (D : DefX X.prog X.w X.K X.mg X.base x k ps sp) (hr : Room k X.A) (hg : Gl X x) (hx : PassesS (CXE X.prog X.w) X E S) (ha : QA X (e :: es) t) (hdb : (x == ("__debug__" : Str)) = false := by decide)
    (hs : starEach (e :: es) X.env = (false, eval e X.env) :: starEach es X.env := by rfl) (hpl : (backTo pos (starEach es X.env)).any (·.1) = false := by rfl) :
    QE X (.Call (.Name x p) (e :: es) [] pos) (tCallS sp E S t) := ⟨by
  obtain ⟨f, fd, F, hb, hm, hk⟩ := D.ex
  intro pins s σ H Q I h
  obtain ⟨hS, h⟩ := h
  refine wpAny_Call_Name_kw (ld_glob I hg hm ?_ hdb)
  refine PySem.W.callWith_K (h₀ := X.base) I.ok.mod.kin hk (thn (ha.out pos pins s σ H _ I h) fun us s1 ⟨vs, H1, I1, r, q⟩ => ⟨I1.kIn, ?_⟩) hs hpl
  have hl : us.length = ps.length := by rw [← r.length]; exact F.len _ _ _ _ q
  have hB := hb s1 us I1.kIn (by rw [List.append_nil]; exact hl)
  rw [List.append_nil] at hB
  refine wpAny_call (codeAny_mono (F.run X.A X.stack s1 H1 ⟨us, []⟩ us vs Q E hr I1.env0 hB r q) fun r s' hq => ?_)
  cases r with
  | error e => exact hx pins σ H1 s1 e s' I1 hS hq
  | ok fl =>
    cases fl with
    | ret u => exact I1.after hq
    | next => exact False.elim hq
    | brk => exact False.elim hq
    | cont => exact False.elim hq⟩
theorem qe_makeS (M : Mk X.K C f) (F : FnOk X.prog X.w X.K X.mg X.base (CXE X.prog X.w) k f fd ps sp) (hr : Room (k + 1) X.A) (hg : Gl X x) (hm : X.mg x = some (.ref C)) (hb : Binds X.K fd ps []) (hx : PassesS (CXE X.prog X.w) X E S) (ha : QA X (e :: es) t)
    (hdb : (x == ("__debug__" : Str)) = false := by decide) (hs : starEach (e :: es) X.env = (false, eval e X.env) :: starEach es X.env := by rfl) (hpl : (backTo pos (starEach es X.env)).any (·.1) = false := by rfl) :
    QE X (.Call (.Name x p) (e :: es) [] pos) (tMakeS C sp E S t) := ⟨by
  intro pins s σ H Q I h
  obtain ⟨hS, h⟩ := h
  refine wpAny_Call_Name_kw (ld_glob I hg hm ?_ hdb)
  refine PySem.W.callWith_K (h₀ := X.base) I.ok.mod.kin M.kp (thn (ha.out pos pins s σ H _ I h) fun us s1 ⟨vs, H1, I1, r, q⟩ => ⟨I1.kIn, ?_⟩) hs hpl
  have hq := q (s1.heap.objs.size + 1) s1.heap.objs.size (I1.hok.fresh (Nat.le_succ _)) (I1.hok.fresh (Nat.le_refl _)) (Nat.ne_of_lt (Nat.lt_succ_self _))
  have I2 := Inv.made (C := C) I1
  have r2 : Vals (V.ref (s1.heap.objs.size + 1) :: vs) (Value.ref (s1.heap.objs.size + 1) :: us) := .cons rfl r
  have hl : (Value.ref (s1.heap.objs.size + 1) :: us).length = ps.length := by rw [← r2.length]; exact F.len _ _ _ _ hq
  have hB := hb _ (Value.ref (s1.heap.objs.size + 1) :: us) I2.kIn (by rw [List.append_nil]; exact hl)
  rw [List.append_nil] at hB
  refine wpAny_call (make_map (f := f) I1.kIn M.makes M.init (beq_iff_eq.mp M.fn) (codeAny_mono (F.run _ X.stack _ _ ⟨Value.ref (s1.heap.objs.size + 1) :: us, []⟩ (Value.ref (s1.heap.objs.size + 1) :: us) _ _ E (hr.make C us []) (I2.env0.make C us []) hB r2 hq) fun r s' hq' => ?_))
  cases r with
  | error e => exact hx pins σ _ _ e s' I2 hS hq'
  | ok fl =>
    cases fl with
    | ret u =>
      obtain ⟨v, H', I3, rv, ev, q3⟩ := I2.after hq'
      subst ev
      exact ⟨rv, ⟨V.ref (s1.heap.objs.size + 1), H', I3, rfl, q3⟩⟩
    | next => exact False.elim hq'
    | brk => exact False.elim hq'
    | cont => exact False.elim hq'⟩
end
theorem exc_obj {K : PySem.W.Frag} {h : Heap} {C : Addr} {bmB : List Value} {newId : String} (X : K.In h) (q : excIn K C bmB newId = true) :
    ∃ bm N nm q bs hdct sn sub ab col dd k0 k1 k2 k3 k5 mN, h.get? C = some (excClassObj nm q C N bs bm hdct sn sub ab col dd k0 k1 k2 k3 k5 newId) ∧ h.Ns N mN ∧ mN "__init__" = none ∧ OwnTail h bmB bm := by
  unfold excIn at q
  split at q
  · next dd cd sl ho =>
    split at q
    · next C' bm k0 k1 k2 k3 n k5 hm hs =>
      simp only [Bool.and_eq_true, beq_iff_eq, Bool.not_eq_true'] at q
      obtain ⟨⟨⟨⟨⟨e1, e2⟩, hdel⟩, ht⟩, hok⟩, hni⟩ := q
      subst e1 e2
      obtain ⟨nm, bs, mro, ns, qn, hd, sn, sub, ab, col, del⟩ := cd
      dsimp only at hm hdel hok hni
      subst hm hdel
      have hsl : sl = #[k0, k1, k2, k3, some (.builtin n), k5] := by cases sl; simp only at hs; rw [hs]
      subst hsl
      exact ⟨bm, ns, nm, qn, bs, hd, sn, sub, ab, col, dd, k0, k1, k2, k3, k5, _, X _ _ ho, .of_isNs (isNs_of_in X hok), nsMap_none_of_in X hok hni, tail_of_in X ht⟩
    · cases q
  · cases q
abbrev vErr : List Value := [.type "ValueError", .type "Exception", .type "BaseException", .type "object"]
def tRaise (C : Addr) (E : XK) (t : TA) : TS := fun _ σ H => t σ H fun vs H1 => vs.length ≤ sizeLine ∧ E (.ref C) none H1
section
variable {X : Cx} {C : Addr} {E : XK} {x : Str} {np cpos pos : Pos} {e : Expr} {es : List Expr} {t : TA}
theorem qs_raise (hl : Lets X E) (hc : X.calm = true) (hex : X.ex = []) (hg : Gl X x) (hm : X.mg x = some (.ref C)) (hC : excIn X.K C vErr "ValueError.__new__" = true) (ha : QA X (e :: es) t) (hdb : (x == ("__debug__" : Str)) = false := by decide)
    (hs : starEach (e :: es) X.env = (false, eval e X.env) :: starEach es X.env := by rfl) (hpl : (backTo cpos (starEach es X.env)).any (·.1) = false := by rfl) :
    QS X (.Raise (some (.Call (.Name x np) (e :: es) [] cpos)) none pos) (tRaise C E t) := ⟨by
  intro pins s σ H D I h
  obtain ⟨tl, N, nm, q, bs, hdct, sn, sub, ab, col, dd, k0, k1, k2, k3, k5, mN, cC, cN, cni, T⟩ := exc_obj I.ok.mod.kin hC
  have ar := ha.out cpos pins s σ H _ I h
  rw [hs] at ar
  refine wpAny_Raise_call_subT (C := C) (nm := nm) (q := q) (N := N) (bs := bs) (bm := tl) (hdct := hdct) (sn := sn) (sub := sub) (ab := ab) (col := col) (dd := dd) (k0 := k0) (k1 := k1) (k2 := k2) (k3 := k3) (k5 := k5) PySem.F.excBase_ValueError (mN := mN)
    (T.hasType PySem.F.excBase_ValueError.hasBase) (I.ok.hd hc) (by rw [hs]; show (false || (backTo cpos (starEach es X.env)).any (·.1)) = false; rw [hpl]; rfl) cni (ld_glob I hg hm ⟨rfl, ?_⟩ hdb)
  rw [hs]
  refine Calls.evalArgs_plain (wpAny_mono ar (fun us s2 z => ?_) fun _ _ y => y)
  obtain ⟨vs, H1, I1, r, hv, hE⟩ := z
  refine ⟨rfl, by rw [← r.length]; exact hv, I1.bk _ _ cC, cN.keeps I1.bk, T.keeps I1.bk, fun h' a hx => ?_⟩
  obtain ⟨tt, ha1, _, _⟩ := hx.there
  refine hl pins σ H1 _ a _ _ (I1.kept (t' := s2.toks) hx.keeps) ha1 rfl rfl rfl ?_ (fun b o z y => ?_) hE
  · cases z : H1 a with
    | none => rfl
    | some u =>
      obtain ⟨o, ho⟩ := (I1.hok a u z).there
      rw [hx.new] at ho; cases ho
  · obtain ⟨o', ho⟩ := I1.base.there b o z (by rw [hex]; simp)
    rw [y, hx.new] at ho; cases ho⟩
end
end L2
end

section
set_option Elab.async false
set_option linter.all false
set_option maxRecDepth 100000
set_option maxHeartbeats 2000000
namespace L2
open PySem PySem.Spec PyProof.Rows PySem.W
def ExcO (a : Addr) (cls : Value) (dd : Option Addr) : Heap → Prop := fun h => ∃ oe vs, h.get? a = some oe ∧ oe.cls = cls ∧ oe.dict = dd ∧ oe.data = .fields vs ∧ vs[2]? = some .none
section
variable {X : Cx} {pins : List (Addr × Obj)} {σ : St} {H H' : Hp} {s s' : Shared} {a : Addr} {cls fl : Value} {dd : Option Addr} {B h3 : Heap}
theorem Inv.caught (I : Inv X pins σ H s) (x : ExB X.prog X.w X.stack H s a cls dd H' s' B) (y : Fly B X.stack a cls dd fl h3) (k : s'.heap.UpToSlots h3) : Inv X pins σ (upd H' a (.ext (ExcO a cls dd))) { s' with heap := h3 } := by
  have n0 : ∀ b : Addr, b ∉ ([] : List Addr) := fun b => by simp
  obtain ⟨oe, vs, T, oT, ts, he, hc, hdd, hd, _, h2, _⟩ := y.tr
  have kF : ∀ b o, s.heap.get? b = some o → b ∈ frs X.stack → (∃ sl, h3.get? b = some { o with slots := sl }) ∧ ∀ vs, o.data ≠ .fields vs := fun b o z m => by
    obtain ⟨_, u, hu, nf⟩ := I.stack.mem m
    rw [z] at hu; cases hu
    obtain ⟨sl2, e2⟩ := x.un.slot b _ z (I.stkFree b m) m (n0 b)
    obtain ⟨sl3, e3⟩ := k b _ e2 nf
    exact ⟨⟨sl3, e3⟩, nf⟩
  have na : ∀ b o, s.heap.get? b = some o → b ≠ a := fun b o z m => by
    by_cases hb : b ∈ frs X.stack
    · obtain ⟨⟨sl, e3⟩, nf⟩ := kF b o z hb
      rw [m, he] at e3
      cases e3
      exact nf vs hd
    · obtain ⟨o', e'⟩ := x.th b o z hb
      rw [m, y.new] at e'; cases e'
  have nt : ∀ b u, H' b = some u → b ≠ a := fun b u z m => by rw [m, x.na] at z; cases z
  have kT : ∀ c u v, H' c = some v → s'.heap.get? c = some u → h3.get? c = some u := fun c u v t z => by
    obtain ⟨o', hB⟩ := x.trk c v t
    have := x.fly.stays c o' hB
    rw [z] at this; cases this
    exact y.stays c u hB
  refine I.call' (s' := { s' with heap := h3 }) (ch := []) x.os ⟨fun b o z n hb _ => y.stays b o (x.kp b o z hb n), fun b o z n hb _ => (kF b o z hb).1, fun b o z n _ => ?_, fun b o z _ => ?_, fun b xs t => ?_, fun b o u t => ?_, fun b ps t => ?_⟩ (fun b o t => ?_) x.bare fun b z => absurd z (by simp)
  · rw [upd_ne (na b o z)]
    exact x.un.free b o z n (n0 b)
  · by_cases m : b ∈ frs X.stack
    · obtain ⟨⟨sl, e3⟩, _⟩ := kF b o z m
      exact ⟨_, e3⟩
    · obtain ⟨o', e1⟩ := x.th b o z m
      exact ⟨o', y.stays b o' e1⟩
  · have t' := x.un.tups b xs t
    rw [upd_ne (nt b _ t')]; exact t'
  · have t' := x.un.frzs b o u t
    rw [upd_ne (nt b _ t')]; exact t'
  · obtain ⟨more, t'⟩ := x.un.tbls b ps t
    exact ⟨more, by rw [upd_ne (nt b _ t')]; exact t'⟩
  · by_cases hb : b = a
    · subst hb
      rw [upd_same] at t
      cases t
      exact ⟨⟨oe, vs, he, hc, hdd, hd, h2⟩, ⟨oe, he⟩, fun h h' ⟨oe, vs, e1, e2, e3, e4⟩ q => ⟨oe, vs, q oe e1, e2, e3, e4⟩⟩
    · rw [upd_ne hb] at t
      refine (x.hok b o t).stay (fun c u hc z => ?_) (fun c r => by rw [upd_ne (nt c _ r)]; exact r) fun c xs r => by rw [upd_ne (nt c _ r)]; exact r
      rcases hc with rfl | hc
      · exact kT c u _ t z
      · exact kT c u _ hc z
theorem Inv.unbound {i : Nat} {n : Str} {m : Str → Option Value} {v : Option Value} {h' : Heap} (I : Inv X pins σ H s) (hN : X.N.Nodup) (hi : X.N[i]? = some n) (hk : X.env.kindOf n = some .local)
    (hm : s.heap.Ns X.env.locals m) (hn : h'.Ns X.env.locals (fun y => if y = n then v else m y)) (hs : Heap.SameBut X.env.locals s.heap h') : Inv X pins (σ.set i none) H { s with heap := h', toks := s.toks + 1 } := by
  have ab : ∀ b o, X.s₀.heap.get? b = some o → b ≠ X.env.locals := fun b o e => Nat.ne_of_lt (Nat.lt_of_lt_of_le (Heap.lt_size e) I.ok.above)
  obtain ⟨m1, hm1, hl⟩ := I.loc
  have em : m1 = m := by
    obtain ⟨o1, es1, ep1, g1, d1, _, f1⟩ := hm1
    obtain ⟨o2, es2, ep2, g2, d2, _, f2⟩ := hm
    rw [g1] at g2; cases g2
    rw [d1] at d2; cases d2
    funext y; rw [← f1 y, ← f2 y]
  subst em
  refine ⟨I.ok, I.os, I.bare, ⟨fun b o e n hb hx => (hs.2 b (ab b o e)).trans (I.base.keep b o e n hb hx), fun b o e n hb hx => ?_, I.base.free, fun b o e hx => ?_, I.base.tups, I.base.frzs, I.base.tbls⟩, ⟨_, hn, fun j y v' e1 e2 e3 => ?_⟩, fun y c e => ?_, I.free, I.freeC, fun p hp => ?_, fun b ob e => ?_, by simpa using I.len⟩
  · obtain ⟨sl, e1⟩ := I.base.slot b o e n hb hx
    exact ⟨sl, (hs.2 b (ab b o e)).trans e1⟩
  · obtain ⟨o', e1⟩ := I.base.there b o e hx
    exact ⟨o', (hs.2 b (ab b o e)).trans e1⟩
  · have hj : j ≠ i := fun z => by
      subst z
      rw [List.getElem?_set] at e2
      simp only [if_true] at e2
      split at e2 <;> simp at e2
    rw [List.getElem?_set_ne (Ne.symm hj)] at e2
    obtain ⟨u, r, l⟩ := hl j y v' e1 e2 e3
    refine ⟨u, r, ?_⟩
    have yn : y ≠ n := fun z => hj (nodup_ix hN e1 (z ▸ hi))
    rcases l with ⟨a1, a2⟩ | ⟨a1, c, a2, a3⟩
    · exact .inl ⟨a1, by simp [yn, a2]⟩
    · exact .inr ⟨a1, c, a2, a3.sameBut hs (I.cne y c a2)⟩
  · obtain ⟨w', z⟩ := I.cell y c e
    exact ⟨w', z.sameBut hs (I.cne y c e)⟩
  · obtain ⟨e, n, ne, nf, d⟩ := I.pin p hp
    exact ⟨(hs.2 p.1 ne).trans e, n, ne, nf, d⟩
  · refine (I.hok b ob e).stay (fun c w' hc q => (hs.2 c ?_).trans q) (fun _ q => q) fun _ _ q => q
    rintro rfl
    rcases hc with rfl | hc
    · rw [I.free] at e; cases e
    · rw [I.free] at hc; cases hc
end
abbrev Cx.tried (X : Cx) (pn : List (Addr × Obj)) (xe : Value → Shared → Prop) : Cx := { X with pn := pn, xe := xe }
abbrev Cx.held (X : Cx) (a : Addr) : Cx := { X with A := X.A.mark (some (.ref a)), calm := false, xe := fun _ _ => False }
section
variable {X : Cx} {pins pins' pn : List (Addr × Obj)} {σ : St} {H : Hp} {s : Shared} {xe : Value → Shared → Prop} {a : Addr}
theorem Inv.tried (I : Inv X pins σ H s) (xe : Value → Shared → Prop) : Inv (X.tried (X.pn ++ pins) xe) [] σ H s :=
  ⟨⟨I.ok.mod, I.ok.kind, I.ok.glob, I.ok.blt, I.ok.above, I.ok.inj, I.ok.has, I.ok.cab, I.ok.hd, I.ok.frames, I.ok.stk, I.ok.exf, I.ok.bs, I.ok.bsz, I.ok.noex, I.ok.exfs, I.ok.funs, I.ok.frf⟩, I.os, I.bare, I.base, I.loc, I.cell, I.free, I.freeC, fun p hp => I.pin p (by simpa using hp), I.hok, I.len⟩
theorem Inv.untried (I : Inv (X.tried (X.pn ++ pins) xe) pins' σ H s) : Inv X pins σ H s :=
  ⟨⟨I.ok.mod, I.ok.kind, I.ok.glob, I.ok.blt, I.ok.above, I.ok.inj, I.ok.has, I.ok.cab, I.ok.hd, I.ok.frames, I.ok.stk, I.ok.exf, I.ok.bs, I.ok.bsz, I.ok.noex, I.ok.exfs, I.ok.funs, I.ok.frf⟩, I.os, I.bare, I.base, I.loc, I.cell, I.free, I.freeC, fun p hp => I.pin p (List.mem_append_left _ hp), I.hok, I.len⟩
theorem SP.untried {D : Ends} {f : Flow} (h : SP (X.tried (X.pn ++ pins) xe) pins' D f s) : SP X pins D f s := by
  cases f with
  | next => obtain ⟨σ', H', I, q⟩ := h; exact ⟨σ', H', I.untried, q⟩
  | brk => obtain ⟨σ', H', I, q⟩ := h; exact ⟨σ', H', I.untried, q⟩
  | cont => obtain ⟨σ', H', I, q⟩ := h; exact ⟨σ', H', I.untried, q⟩
  | ret u => obtain ⟨v, σ', H', I, r, q⟩ := h; exact ⟨v, σ', H', I.untried, r, q⟩
theorem Inv.held (I : Inv X pins σ H s) (a : Addr) : Inv (X.held a) pins σ H s :=
  ⟨⟨I.ok.mod, I.ok.kind, I.ok.glob, I.ok.blt, I.ok.above, I.ok.inj, I.ok.has, I.ok.cab, (fun z => nomatch z), I.ok.frames, I.ok.stk, I.ok.exf, I.ok.bs, I.ok.bsz, I.ok.noex, I.ok.exfs, I.ok.funs, I.ok.frf⟩, I.os, I.bare, I.base, I.loc, I.cell, I.free, I.freeC, I.pin, I.hok, I.len⟩
theorem Inv.unheld (I : Inv (X.held a) pins σ H s) (ok : X.Ok) : Inv X pins σ H s := ⟨ok, I.os, I.bare, I.base, I.loc, I.cell, I.free, I.freeC, I.pin, I.hok, I.len⟩
end
def unb (i : Nat) (D : Ends) : Ends := { nx := fun σ H => D.nx (σ.set i none) H, rt := D.rt, bk := fun σ H => D.bk (σ.set i none) H, ct := fun σ H => D.ct (σ.set i none) H }
def tTry (K : PySem.W.Frag) (C : Addr) (i : Nat) (tb : XK → St → TS) (th : TS) : TS := fun D σ H => ∃ E : XK, tb E σ D σ H ∧ ∀ (a : Addr) (cls : Value) (dd : Option Addr) (H' : Hp), E cls dd H' → H' a = none →
  exmOne K cls (.ref C) = some true ∧ th (unb i D) (σ.set i (some (.ref a))) (upd H' a (.ext (ExcO a cls dd)))
def tTryA (K : PySem.W.Frag) (C : Addr) (i : Nat) (tb : XK → St → TS) (th : Addr → TS) : TS := fun D σ H => ∃ E : XK, tb E σ D σ H ∧ ∀ (a : Addr) (cls : Value) (dd : Option Addr) (H' : Hp), E cls dd H' → H' a = none →
  exmOne K cls (.ref C) = some true ∧ th a (unb i D) (σ.set i (some (.ref a))) (upd H' a (.ext (ExcO a cls dd)))
section
variable {X : Cx} {C : Addr} {x n : Str} {np hpos pos : Pos} {body suite : List Stmt} {b0 : Stmt} {i : Nat} {tb : XK → St → TS} {th : TS} {thA : Addr → TS}
theorem qs_tryA (hst : X.stack = X.env :: X.outer) (hf : X.env.frame = some X.env.locals) (hg : Gl X x) (hm : X.mg x = some (.ref C)) (hN : X.N.Nodup) (hi : X.N[i]? = some n) (hk : X.env.scope.names.lookup n = some .local)
    (hb : ∀ (pn : List (Addr × Obj)) (xe : Value → Shared → Prop) (E : XK) (σ0 : St), PassesOwn (model X.prog X.w) X.A X.env xe → PassesS (CXE X.prog X.w) (X.tried pn xe) E (· = σ0) → QSs (X.tried pn xe) body (tb E σ0))
    (hh : ∀ a, QSs (X.held a) (b0 :: suite) (thA a)) (hdb : (x == ("__debug__" : Str)) = false := by decide) :
    QS X (.Try body [.ExceptHandler (some (.Name x np)) (some n) (b0 :: suite) hpos] [] [] pos) (tTryA X.K C i tb thA) := ⟨by
  intro pins s σ H D I h
  obtain ⟨E, hbody, hcatch⟩ := h
  have hp : PassesOwn (model X.prog X.w) X.A X.env (fun e s₁ => wpAny (model X.prog X.w) X.A (noteFrame e X.env) (fun _ s₂ => wpAny (model X.prog X.w) X.A (setFlight e none) (fun _ s₃ => wpAny (model X.prog X.w) X.A (handleBy e X.env [.ExceptHandler (some (.Name x np)) (some n) (b0 :: suite) hpos]) (SP X pins D) X.xe s₃) X.xe s₂) X.xe s₁) := PassesOwn.looking
  have hP : PassesS (CXE X.prog X.w) (X.tried (X.pn ++ pins) (fun e s₁ => wpAny (model X.prog X.w) X.A (noteFrame e X.env) (fun _ s₂ => wpAny (model X.prog X.w) X.A (setFlight e none) (fun _ s₃ => wpAny (model X.prog X.w) X.A (handleBy e X.env [.ExceptHandler (some (.Name x np)) (some n) (b0 :: suite) hpos]) (SP X pins D) X.xe s₃) X.xe s₂) X.xe s₁)) E (· = σ) := by
    intro pins' σ' H1 s1 e s2 I1 hσ hq
    obtain ⟨a, cls, dd, H', B, ea, ex, q⟩ := hq
    subst ea
    have J := I1.untried
    have hσ : σ' = σ := hσ
    subst hσ
    have fl : Fly B (X.env :: X.outer) a cls dd .none s2.heap := by rw [← hst]; exact ex.fly
    have hfr : X.A.frames = some (X.env :: X.outer) := by rw [← hst]; exact J.ok.frames
    obtain ⟨hmt, hsu⟩ := hcatch a cls dd H' q ex.na
    refine note_on hfr hf fl fun h1 y1 k1 => flight_off y1 fun h2 y2 k2 => ?_
    have I2 := J.caught ex (by rw [hst]; exact y2) (k1.trans k2)
    refine wpAny_handleBy_cons (codeAny_handlers_test (ld_glob (X := X.held a) (I2.held a) hg hm ?_ hdb)) (by intro q; cases q)
    have LT : Looks (model X.prog X.w) h2 (typeOf (.ref a)) cls := by
      obtain ⟨oe, _, _, _, _, he, hc, _⟩ := y2.tr
      exact hc ▸ (Looks.ld he).andThen .now
    refine (exm_one (K := X.K) I2.kIn LT hmt).here ?_
    refine codeAny_handlers_suite_as (flight_off y2 fun h3 y3 k3 => ?_)
    have I3 := J.caught ex (by rw [hst]; exact y3) ((k1.trans k2).trans k3)
    refine store_ok (X := X.held a) (I3.held a) hN hi (.inl hk) (v := .ref a) rfl (fun s4 I4 => ?_) (.inr hk)
    refine wpAny_mono ((hh a).out pins s4 _ _ (unb i D) I4 hsu) (fun f s5 hs => ?_) fun _ _ z => z.elim
    have hcls : (X.env.scope.kind == .class || (X.env.scope.kind == .module && X.env.locals != X.env.globals)) = false := by rw [J.ok.kind]; rfl
    have fin : ∀ {σ5 : St} {H5 : Hp} {Q : Unit → Shared → Prop}, Inv (X.held a) pins σ5 H5 s5 → (∀ s6, Inv X pins (σ5.set i none) H5 s6 → Q () s6) → wpAny (model X.prog X.w) X.A (do bindName X.env n .none; unbindBehindTheSuite X.env n hpos) Q X.xe s5 := fun I5 hQ => by
      have I5' := I5.unheld J.ok
      obtain ⟨m, hm5, _⟩ := id I5'.loc
      exact wpAny_nameGoes_keeps hk hm5 hcls fun h' v hn hs => hQ _ (I5'.unbound hN hi hk hm5 hn hs)
    cases f with
    | next => obtain ⟨σ5, H5, I5, q5⟩ := hs; exact fin I5 fun s6 I6 => ⟨_, _, I6, q5⟩
    | brk => obtain ⟨σ5, H5, I5, q5⟩ := hs; exact fin I5 fun s6 I6 => ⟨_, _, I6, q5⟩
    | cont => obtain ⟨σ5, H5, I5, q5⟩ := hs; exact fin I5 fun s6 I6 => ⟨_, _, I6, q5⟩
    | ret u => obtain ⟨v, σ5, H5, I5, r5, q5⟩ := hs; exact fin I5 fun s6 I6 => ⟨v, _, _, I6, r5, q5⟩
  refine wpAny_Try_except (wpAny_mono ((hb _ _ E σ hp hP).out [] s σ H D (I.tried _) hbody) (fun f s1 hs => ?_) fun e s1 z => z)
  have hs := hs.untried
  cases f with
  | next =>
    obtain ⟨σ', H', I', q⟩ := hs
    exact (qss_nil (X := X)).out pins s1 σ' H' D I' q
  | brk => exact hs
  | cont => exact hs
  | ret u => exact hs⟩
theorem qs_try (hst : X.stack = X.env :: X.outer) (hf : X.env.frame = some X.env.locals) (hg : Gl X x) (hm : X.mg x = some (.ref C)) (hN : X.N.Nodup) (hi : X.N[i]? = some n) (hk : X.env.scope.names.lookup n = some .local)
    (hb : ∀ (pn : List (Addr × Obj)) (xe : Value → Shared → Prop) (E : XK) (σ0 : St), PassesOwn (model X.prog X.w) X.A X.env xe → PassesS (CXE X.prog X.w) (X.tried pn xe) E (· = σ0) → QSs (X.tried pn xe) body (tb E σ0))
    (hh : ∀ a, QSs (X.held a) (b0 :: suite) th) (hdb : (x == ("__debug__" : Str)) = false := by decide) :
    QS X (.Try body [.ExceptHandler (some (.Name x np)) (some n) (b0 :: suite) hpos] [] [] pos) (tTry X.K C i tb th) := qs_tryA (thA := fun _ => th) hst hf hg hm hN hi hk hb hh hdb
end
end L2
end

section
set_option Elab.async false
set_option linter.all false
set_option maxRecDepth 100000
set_option maxHeartbeats 2000000
namespace L2
open PySem PySem.Spec PyProof.Rows PySem.W
structure ExcIs (K : PySem.W.Frag) (C : Addr) : Prop where
  cl : (clsIn K C).isSome = true
  ga : findIn K (.ref C) "__getattribute__" = some (some (.builtin "BaseException.__getattribute__"))
  gx : findIn K (.ref C) "__getattr__" = some none
  ha : findIn K (.ref C) "__class__" = some (some (.builtin "object.__class__"))
  hn : specialIn K (.builtin "object.__class__") "__get__" = some (some (.builtin "getset_descriptor.__get__"))
  ht : takesIn K (.builtin "object.__class__") = some true
  hm : mroIn K C (.type "object") = some true
  hb : mroIn K C (.type "BaseException") = some true
section
variable {prog : Program} {w : World} {A : Around} {E : Value → Shared → Prop} {s : Shared} {K : PySem.W.Frag} {x C : Addr} {ox : Obj} {odo : Option Obj}
theorem exc_find (T : ExcIs K C) : findObj K C odo "__class__" = some (.bind (.builtin "getset_descriptor.__get__") (.builtin "object.__class__")) := by
  obtain ⟨cd, hc⟩ := Option.isSome_iff_exists.mp T.cl
  unfold findObj
  rw [hc, Option.bind_some, T.ha, Option.bind_some]
  simp [T.hn, T.ht]
theorem exc_entry {tk : Tok} {Q : Fin → Shared → Prop} (T : ExcIs K C) (X : K.In s.heap) (I : InstAt s.heap x ox C odo) (h : Q (.done (.ret (.ref C))) s) :
    wpAny (model prog w) A (Builtin.«object.__getattribute__» ⟨[.ref x, .str "__class__" tk], []⟩) Q E s := by
  obtain ⟨hh, g, d, t, os⟩ := s
  have L0 := I.type (M := model prog w)
  have L1 := looks_find (M := model prog w) X I (exc_find T)
  unfold Builtin.«object.__getattribute__»
  repeat (first | with_reducible refine wpAny_call (class_get X I T.hm ?_) | lk)
  exact h
theorem exc_class {Q : Option Value → Shared → Prop} (T : ExcIs K C) (X : K.In s.heap) (I : InstAt s.heap x ox C odo) (h : Q (some (.ref C)) { s with toks := s.toks + 1 }) : wpAny (model prog w) A (getAttr? (.ref x) "__class__") Q E s := by
  obtain ⟨hh, g, d, t, os⟩ := s
  have L0 := I.type (M := model prog w)
  have L1 := looks_findIn (M := model prog w) X T.ga
  have L2 := looks_findIn (M := model prog w) X T.gx
  unfold getAttr? getAttrBy? getAttrBy
  refine wpAny_bind (wpAny_mkText (wpAny_bind (wpAny_attempt (wpAny_holding (wpAny_bind (L0.at (wpAny_bind (L1.at ?_))))))))
  show wpAny _ _ (getAttrByItsOwn _ _ _ _ _ _) _ _ _
  unfold getAttrByItsOwn hookBefore
  rw [if_pos (show onTheHeap (Value.ref C) = true from rfl)]
  refine wpAny_bind (L2.at (wpAny_bind (wpAny_attempt (wpAny_holding ?_))))
  unfold callGetattribute boundAndCalled
  rw [if_neg (by decide)]
  have f3 := PySem.F.excAttr_ValueError.ga.bind (.ref x)
  rw [f3]
  refine wpAny_bind (wpAny_pure ?_)
  refine wpAny_call (codeAny_call_builtin PySem.F.excAttr_ValueError.ga.plain F.entry_bexc_ga ?_)
  have hk : builtinKind "BaseException.__getattribute__" = some .slot := by decide +kernel
  have hsp : splitId "BaseException.__getattribute__" = some ("BaseException", "__getattribute__") := by decide +kernel
  have Lb := looks_mroIn (M := model prog w) X T.hb
  have hargs := F.args_bexc_ga (.ref x) (.str "__class__" t)
  simp only [checkBuiltinCall, hk, hsp]
  refine wpAny_bind ?_
  unfold isInstance
  refine wpAny_bind (L0.at (Lb.at ?_))
  repeat (first | refine exc_entry (x := x) T X I ?_ | assumption | wp_step)
theorem kitx_exc {y : Addr} (T : ExcIs K C) : KitX K (.ref y) (.ref C) (fun h => ∃ ox odo, InstAt h y ox C odo) where
  ty := fun _ _ _ ⟨_, _, I⟩ => I.type
  it := fun _ _ X _ => by
    obtain ⟨cd, hc⟩ := Option.isSome_iff_exists.mp T.cl
    unfold clsIn at hc
    split at hc
    · next ho =>
      intro A' Q' E' s' k q
      unfold isType loadHead
      exact wpAny_bind (wpAny_loadPart (k _ _ (X _ _ ho)) (wpAny_pure q))
    · cases hc
  ne := fun h tp dd its n sl X htp => by
    refine Bool.eq_false_iff.mpr fun q => ?_
    have e : C = tp := Value.ref.inj (beq_iff_eq.mp q)
    subst e
    obtain ⟨cd, hc⟩ := Option.isSome_iff_exists.mp T.cl
    unfold clsIn at hc
    split at hc
    · next ho =>
      have z := (X _ _ ho).symm.trans htp
      cases z
    · cases hc
  ca := fun X ⟨_, _, I⟩ k => exc_class T X I k
end
def DictKn (H : Hp) : Option Addr → Prop
  | none => True
  | some d => ∃ o, H d = some o
def rInstX (K : PySem.W.Frag) : List V → Hp → VK → Prop := fun xs H Q => ∃ (a C : Addr) (c : V) (u : Value) (dd : Option Addr) (b : Bool), xs = [.ref a, c] ∧ ((∃ D, c = .ref D ∧ u = .ref D) ∨ ∃ n, c = .ty n ∧ u = .type n) ∧ H a = some (.ext (ExcO a (.ref C) dd)) ∧ DictKn H dd ∧ ExcIs K C ∧ kitOne K (.ref C) u = some b ∧ Q (.bl b) H
section
variable {X : Cx}
theorem call_isinstX (hc : True := True.intro) : CallR X (.builtin "isinstance") (rInstX X.K) := by
  intro pins s σ H xs us Q I r h
  obtain ⟨a, C, c, u, dd, b, rfl, ru, ha, hd, T, k, q⟩ := h
  obtain ⟨u1, w', rfl, r1, r2⟩ := vals2 r
  obtain rfl : u1 = Value.ref a := r1
  have eu : w' = u := by
    rcases ru with ⟨D, rfl, rfl⟩ | ⟨n, rfl, rfl⟩
    · exact r2
    · exact r2
  subst eu
  obtain ⟨⟨oe, vs, e1, e2, e3, e4, _⟩, _, _⟩ := (show ObjOk X.prog X.w H s.heap a (.ext (ExcO a (.ref C) dd)) from I.hok a _ ha)
  have hI : ∃ ox odo, InstAt s.heap a ox C odo := by
    cases dd with
    | none => exact ⟨oe, none, e1, e2, by unfold notCls; rw [e4], by rw [e3]; trivial⟩
    | some d =>
      obtain ⟨o1, hfs⟩ := hd
      obtain ⟨o, ho⟩ := (I.hok d _ hfs).there
      exact ⟨oe, some o, e1, e2, by unfold notCls; rw [e4], by rw [e3]; exact ho⟩
  exact kia_one (kitx_exc T) I.kIn hI k (fun z => nomatch z) fun tk => ⟨.bl b, H, I.tok tk, rfl, q⟩
end
end L2
end

section
set_option Elab.async false
set_option linter.all false
set_option maxRecDepth 100000
set_option maxHeartbeats 2000000
namespace L2
open PySem PySem.Spec PyProof.Rows PySem.W
theorem boot_ValueError : bootBuiltins "ValueError" = some (.type "ValueError") := by decide +kernel
section
variable {X : Cx}
end
end L2
end

section
set_option Elab.async false
set_option linter.all false
set_option maxRecDepth 100000
set_option maxHeartbeats 2000000
namespace HT
open PySem PySem.Spec PyProof.Rows
section
variable {prog : Program} {w : World} {A : Around} {E : Value → Shared → Prop} {s : Shared}
end
end HT
namespace L2
open PySem PySem.Spec PyProof.Rows PySem.W
section
variable {X : Cx}
end
end L2
end

section
set_option Elab.async false
set_option linter.all false
set_option maxRecDepth 100000
set_option maxHeartbeats 2000000
namespace L2
open PySem PySem.Spec PyProof.Rows PySem.W
def iniIn (K : Frag) (C fI : Addr) : Bool := match K.lookup C with
  | some ⟨.type "type", _, .cls cd, sl⟩ => (match cd.mro, sl.toList with
    | .ref D :: tl, [_, _, _, _, some (.builtin n), _] => (D == C) && (n == "ValueError.__new__") && (!cd.hasDel) && (cd.hasDict && (tailIn K vErr tl && (nsOkIn K cd.ns && (nsIn K cd.ns "__init__" == some (some (.ref fI))))))
    | _, _ => false)
  | _ => false
theorem nsAt {K : Frag} {h : Heap} {N : Addr} {m : Str → Option Value} {n : Str} {v : Value} (X : K.In h) (G : h.Ns N m) (e : nsIn K N n = some (some v)) : m n = some v := by
  obtain ⟨o, es, ep, ho, hd, _, hf⟩ := G
  unfold nsIn at e
  split at e
  · next c0 d0 es0 n0 sl0 q =>
    have z := X _ _ q
    rw [ho] at z
    cases z
    cases hd
    split at e
    · next en he =>
      cases e
      rw [← hf]
      unfold nsFind findBy
      rw [← Array.find?_toList, he]
      rfl
    · split at e <;> cases e
  · cases e
theorem ini_obj {K : Frag} {h : Heap} {C fI : Addr} (X : K.In h) (q : iniIn K C fI = true) :
    ∃ bm N nm q bs sn sub ab col dd k0 k1 k2 k3 k5 mN, h.get? C = some (excClassObj nm q C N bs bm true sn sub ab col dd k0 k1 k2 k3 k5 "ValueError.__new__") ∧ h.Ns N mN ∧ mN "__init__" = some (.ref fI) ∧ OwnTail h vErr bm := by
  unfold iniIn at q
  split at q
  · next dd cd sl ho =>
    split at q
    · next D tl k0 k1 k2 k3 n k5 hm hs =>
      rw [Bool.and_eq_true, Bool.and_eq_true, Bool.and_eq_true, Bool.and_eq_true, Bool.and_eq_true, Bool.and_eq_true, beq_iff_eq, beq_iff_eq, beq_iff_eq, Bool.not_eq_true'] at q
      obtain ⟨⟨⟨e1, e2⟩, e3⟩, e4, ht, hok, hi⟩ := q
      subst e1 e2
      obtain ⟨nm, bs, mro, ns, qn, hd, sn, sub, ab, col, del⟩ := cd
      dsimp only at hm e3 e4 hok hi
      subst hm e3 e4
      obtain ⟨sll⟩ := sl
      dsimp only at hs
      subst hs
      exact ⟨tl, ns, nm, qn, bs, sn, sub, ab, col, dd, k0, k1, k2, k3, k5, _, X _ _ ho, .of_isNs (isNs_of_in X hok), nsAt X (.of_isNs (isNs_of_in X hok)) hi, tail_of_in X ht⟩
    · cases q
  · cases q
section
variable {prog : Program} {w : World} {A : Around} {E : Value → Shared → Prop} {h : Heap} {g : Array GenState} {d : Drawn} {t : Nat} {os : OsState}
variable {nm q : Str} {C N fI : Addr} {bs bm : List Value} {sn : List Str} {sub : List Value} {ab : Bool} {col : Option Bool} {dd : Option Addr} {k0 k1 k2 k3 k5 : Option Value} {oI : Obj} {mN : Str → Option Value} {rest : List Value}
abbrev newArgs (rest : List Value) : Obj := { cls := .type "tuple", data := .seq rest.toArray }
abbrev newExc (C a : Addr) : Obj := { cls := .ref C, data := .fields #[.ref a, .none, .none, .none, .bool false, .none] }
theorem typecall_ini {Q : Fin → Shared → Prop} (T : OwnTail h vErr bm) (hC : h.get? C = some (excClassObj nm q C N bs bm true sn sub ab col dd k0 k1 k2 k3 k5 "ValueError.__new__")) (hn : h.Ns N mN) (hi : mN "__init__" = some (.ref fI))
    (hf : h.get? fI = some oI) (hfc : oI.cls = .type "function") (hz : rest.length ≤ sizeLine)
    (hq : wpAny (model prog w) A (call (.ref fI) (.ref (h.objs.size + 1) :: rest)) (fun r s' => r = .none ∧ Q (.done (.ret (.ref (h.objs.size + 1)))) s') E ⟨(h.push (newArgs rest)).push (newExc C h.objs.size), g, d, t, os⟩) :
    wpAny (model prog w) A (Builtin.«type.__call__» ⟨.ref C :: rest, []⟩) Q E ⟨h, g, d, t, os⟩ := by
  have FB := PySem.F.excBase_ValueError
  repeat (first | with_reducible refine wpAny_loadPart_at hC ?_ | with_reducible refine wpAny_madeBy_exc hC ?_ | wp_step)
  refine codeAny_call_builtin_code (Code.quiet_builtin _ FB.quiet) (wpAny_check_new_subT FB T hC (codeAny_exc_new_subT FB T hC ?_ hz))
  show wpAny _ _ _ _ _ _
  have up : ∀ b o, h.get? b = some o → ((h.push (newArgs rest)).push (newExc C h.objs.size)).get? b = some o := fun b o z => Heap.get?_push_of_some _ (Heap.get?_push_of_some _ z)
  have eC := up _ _ hC
  have eF := up _ _ hf
  have eN := hn.keeps up
  have eT := T.keeps up
  have eX : ((h.push (newArgs rest)).push (newExc C h.objs.size)).get? (h.objs.size + 1) = some (newExc C h.objs.size) := by heap_get
  have inC : (Value.ref C :: bm).contains (.ref C) = true := by simp
  unfold isInstance
  repeat (first | with_reducible refine wpAny_loadPart_at eX ?_ | (with_reducible refine wpAny_isSubtype_exc eC ?_; rw [inC]) | wp_step)
  show wpAny _ _ (typeLookup (.ref C) "__init__") _ _ _
  refine wpAny_typeLookup_tail eC eN eT FB.mroIs FB.init.lookup ?_
  rw [hi]
  refine wpAny_holding (wpAny_bind ?_)
  unfold bindSpecial
  refine wpAny_bind (wpAny_typeOf (T := "function") ⟨_, eF, hfc⟩ ?_)
  rw [if_pos (by decide)]
  refine wpAny_pure (wpAny_bind (wpAny_mono hq (fun r s' z => ?_) fun _ _ y => y))
  obtain ⟨rfl, z⟩ := z
  wp_walk
  exact z
theorem call_ini {Q : Value → Shared → Prop} (T : OwnTail h vErr bm) (hC : h.get? C = some (excClassObj nm q C N bs bm true sn sub ab col dd k0 k1 k2 k3 k5 "ValueError.__new__")) (hn : h.Ns N mN) (hi : mN "__init__" = some (.ref fI))
    (hf : h.get? fI = some oI) (hfc : oI.cls = .type "function") (hz : rest.length ≤ sizeLine)
    (hq : wpAny (model prog w) (A.under (.builtin "type.__call__" ⟨.ref C :: rest, []⟩)) (call (.ref fI) (.ref (h.objs.size + 1) :: rest)) (fun r s' => r = .none ∧ Q (.ref (h.objs.size + 1)) s') E ⟨(h.push (newArgs rest)).push (newExc C h.objs.size), g, d, t, os⟩) :
    wpAny (model prog w) A (call (.ref C) rest) Q E ⟨h, g, d, t, os⟩ := by
  have f1 := tc_lookup
  have f2 := tc_bind (.ref C)
  have tyC : (⟨h, g, d, t, os⟩ : Shared).TypeIs (.ref C) "type" := ⟨_, hC, rfl⟩
  refine wpAny_call (codeAny_of_tree ?_)
  show wpAny _ _ (callAny (.ref C) _) _ _ _
  repeat (any_goals (first | assumption | with_reducible refine wpAny_loadPart_at hC ?_ | wp_step))
  exact ⟨rfl, codeAny_call_builtin_at (Code.quiet_builtin _ (by decide +kernel)) entry_typeCall (wpAny_check_type_call_sub hC (typecall_ini T hC hn hi hf hfc hz hq))⟩
end
section
variable {M : Model} {A : Around} {E : Value → Shared → Prop} {s : Shared} {env : Env} {x : Sem Value} {Q : Flow → Shared → Prop}
variable {nm q : Str} {C N : Addr} {bs bm : List Value} {hdct : Bool} {sn : List Str} {sub : List Value} {ab : Bool} {col : Option Bool} {dd : Option Addr} {k0 k1 k2 k3 k5 : Option Value} {newId : String}
theorem raise_obj (hb : bm.contains (.type "BaseException") = true) (hh : A.handled = none)
    (hx : wpAny M A x (fun v s1 => ∃ e oe vs, v = .ref e ∧ s1.heap.get? C = some (excClassObj nm q C N bs bm hdct sn sub ab col dd k0 k1 k2 k3 k5 newId) ∧ s1.heap.get? e = some oe ∧ oe.cls = .ref C ∧ oe.data = .fields vs ∧ vs[1]? = some .none ∧ E (.ref e) s1) E s) :
    wpAny M A (raiseStmt env (some x) none) Q E s := by
  have inB : (Value.ref C :: bm).contains (.type "BaseException") = true := by rw [List.contains_cons, hb, Bool.or_true]
  unfold raiseStmt
  refine wpAny_bind (wpAny_mono hx (fun v s1 z => ?_) fun _ _ y => y)
  obtain ⟨e, oe, vs, rfl, hC, he, hc, hd, h1, hE⟩ := z
  obtain ⟨oc, od, oda, osl⟩ := oe
  dsimp only at hc hd
  subst hc hd
  obtain ⟨hp, g, d, tk, os⟩ := s1
  repeat (first | with_reducible refine wpAny_loadPart_at he ?_ | with_reducible refine wpAny_loadPart_at hC ?_ | (with_reducible refine wpAny_isSubtype_exc hC ?_; rw [inB]) | wp_step)
  rw [h1]
  refine wpAny_pure ?_
  rw [if_neg (by decide)]
  exact wpAny_pure (wpAny_raiseNew_none hh hE)
end
def ExcN (a : Addr) (cls : Value) (dd : Option Addr) : Heap → Prop := fun h => ∃ oe vs, h.get? a = some oe ∧ oe.cls = cls ∧ oe.dict = dd ∧ oe.data = .fields vs ∧ vs[1]? = some .none ∧ vs[2]? = some .none ∧ dd ≠ some a
theorem ExcN.at {a : Addr} {cls : Value} {dd : Option Addr} {h h' : Heap} (x : ExcN a cls dd h) (k : ∀ o, h.get? a = some o → h'.get? a = some o) : ExcN a cls dd h' := let ⟨oe, vs, e, r⟩ := x; ⟨oe, vs, k oe e, r⟩
theorem ExcN.ok {P : Program} {w : World} {H : Hp} {h : Heap} {a : Addr} {cls : Value} {dd : Option Addr} (x : ExcN a cls dd h) : ObjOk P w H h a (.ext (ExcN a cls dd)) := ⟨x, let ⟨oe, _, e, _⟩ := x; ⟨oe, e⟩, fun _ _ y k => y.at k⟩
def drop (H : Hp) (a : Addr) : Hp := fun b => if b = a then none else H b
theorem drop_same {H : Hp} {a : Addr} : drop H a a = none := by unfold drop; rw [if_pos rfl]
theorem drop_ne {H : Hp} {a b : Addr} (h : b ≠ a) : drop H a b = H b := by unfold drop; rw [if_neg h]
section
variable {X : Cx} {pins : List (Addr × Obj)} {σ : St} {H : Hp} {s : Shared} {a : Addr} {φ : Heap → Prop}
theorem Inv.drop (I : Inv X pins σ H s) (ha : H a = some (.ext φ)) (nst : ∀ b o, X.s₀.heap.get? b = some o → b ≠ a) : Inv X pins σ (L2.drop H a) s := by
  have ne : ∀ b u, H b = some u → (∀ φ, u ≠ .ext φ) → b ≠ a := fun b u e n z => by rw [z, ha] at e; cases e; exact n φ rfl
  refine ⟨I.ok, I.os, I.bare, ⟨I.base.keep, I.base.slot, fun b o e n hx => ?_, I.base.there, fun b xs e => ?_, fun b o u e => ?_, fun b ps e => ?_⟩, I.loc, I.cell, ?_, fun x c e => ?_, fun p hp => ?_, fun b o e => ?_, I.len⟩
  · by_cases hb : b = a
    · rw [hb]; exact drop_same
    · rw [drop_ne hb]; exact I.base.free b o e n hx
  · have z := I.base.tups b xs e
    rw [drop_ne (ne b _ z fun φ => by simp)]; exact z
  · have z := I.base.frzs b o u e
    rw [drop_ne (ne b _ z fun φ => by simp)]; exact z
  · obtain ⟨more, z⟩ := I.base.tbls b ps e
    exact ⟨more, by rw [drop_ne (ne b _ z fun φ => by simp)]; exact z⟩
  · by_cases hb : X.env.locals = a
    · rw [hb]; exact drop_same
    · rw [drop_ne hb]; exact I.free
  · by_cases hb : c = a
    · rw [hb]; exact drop_same
    · rw [drop_ne hb]; exact I.freeC x c e
  · obtain ⟨e1, e2, e3⟩ := I.pin p hp
    refine ⟨e1, ?_, e3⟩
    by_cases hb : p.1 = a
    · rw [hb]; exact drop_same
    · rw [drop_ne hb]; exact e2
  · by_cases hb : b = a
    · rw [hb, drop_same] at e; cases e
    · rw [drop_ne hb] at e
      refine (I.hok b o e).stay (fun c u _ z => z) (fun c r => ?_) fun c xs r => ?_
      · rw [drop_ne (ne c _ r fun φ => by simp)]; exact r
      · rw [drop_ne (ne c _ r fun φ => by simp)]; exact r
end
structure MkX (K : Frag) (C f : Addr) : Prop where
  ini : iniIn K C f = true
  fn : PySem.W.isFn K (.ref f) = true
  kp : PySem.W.keepIn K (.ref C) = true
def tRaiseI (C : Addr) (sp : Sp) (E : XK) (t : TA) : TS := fun _ σ H => t σ H fun vs H1 => vs.length ≤ sizeLine ∧ ∀ a, H1 a = none → sp (.ref a :: vs) (upd H1 a (.ext (ExcN a (.ref C) none))) (fun v H2 => v = .non ∧ ∃ dd, H2 a = some (.ext (ExcN a (.ref C) dd)) ∧ E (.ref C) dd (drop H2 a)) E0
section
variable {X : Cx} {k : Nat} {f C : Addr} {fd : FuncData} {ps : List Str} {sp : Sp} {x : Str} {p pos cpos : Pos} {e : Expr} {es : List Expr} {t : TA} {E : XK}
theorem exc_run {pins : List (Addr × Obj)} {s : Shared} {σ : St} {H : Hp} {G : Addr → Hp → Prop} (M : MkX X.K C f) (F : FnOk X.prog X.w X.K X.mg X.base CX0 k f fd ps sp) (hr : Room (k + 1) X.A) (hg : Gl X x) (hm : X.mg x = some (.ref C)) (hb : Binds X.K fd ps []) (ha : QA X (e :: es) t)
    (I : Inv X pins σ H s) (h : t σ H fun vs H1 => vs.length ≤ sizeLine ∧ ∀ a, H1 a = none → sp (.ref a :: vs) (upd H1 a (.ext (ExcN a (.ref C) none))) (fun v H2 => v = .non ∧ G a H2) E0)
    (hdb : (x == ("__debug__" : Str)) = false) (hs : starEach (e :: es) X.env = (false, eval e X.env) :: starEach es X.env) (hpl : (backTo cpos (starEach es X.env)).any (·.1) = false) :
    wpAny (model X.prog X.w) X.A (eval (.Call (.Name x p) (e :: es) [] cpos) X.env) (fun v s' => ∃ a H2, v = .ref a ∧ Inv X pins σ H2 s' ∧ X.s₀.heap.objs.size ≤ a ∧ G a H2) X.xe s := by
  refine wpAny_Call_Name_kw (ld_glob I hg hm ?_ hdb)
  refine PySem.W.callWith_K (h₀ := X.base) I.ok.mod.kin M.kp (thn (ha.out cpos pins s σ H _ I h) fun us s1 ⟨vs, H1, I1, r, hz, q⟩ => ⟨I1.kIn, ?_⟩) hs hpl
  obtain ⟨bm, N, nm, qn, bs, sn, sub, ab, col, dd, k0, k1, k2, k3, k5, mN, cC, cN, ci, T⟩ := ini_obj I1.kIn M.ini
  obtain ⟨oI, hoI, hcI⟩ : ∃ oI, s1.heap.get? f = some oI ∧ oI.cls = .type "function" := by
    have z : (X.K.lookup f).map (·.cls) = some (.type "function") := beq_iff_eq.mp M.fn
    cases y : X.K.lookup f with
    | none => rw [y] at z; cases z
    | some of => rw [y] at z; exact ⟨of, I1.kIn _ _ y, Option.some.inj z⟩
  have hsz0 : X.s₀.heap.objs.size ≤ s1.heap.objs.size + 1 := Nat.le_succ_of_le I1.sz
  obtain ⟨hh, g, d, tk, os⟩ := s1
  have I2 : Inv X pins σ H1 ⟨hh.push (newArgs us), g, d, tk, os⟩ := I1.kept (t' := tk) fun b u z => Heap.get?_push_of_some _ z
  have hsz : (hh.push (newArgs us)).objs.size = hh.objs.size + 1 := Heap.size_push _ _
  have eX : ((hh.push (newArgs us)).push (newExc C hh.objs.size)).get? (hh.objs.size + 1) = some (newExc C hh.objs.size) := by heap_get
  have I3 : Inv X pins σ (upd H1 (hh.objs.size + 1) (.ext (ExcN (hh.objs.size + 1) (.ref C) none))) ⟨(hh.push (newArgs us)).push (newExc C hh.objs.size), g, d, tk, os⟩ :=
    I2.laid (t' := tk) (fun b u z => Heap.get?_push_of_some _ z) (Nat.le_of_eq hsz) (ExcN.ok ⟨_, _, eX, rfl, rfl, rfl, rfl, rfl, by simp⟩)
  have hq := q (hh.objs.size + 1) (I2.hok.fresh (Nat.le_of_eq hsz))
  have r2 : Vals (V.ref (hh.objs.size + 1) :: vs) (Value.ref (hh.objs.size + 1) :: us) := .cons rfl r
  have hl : (Value.ref (hh.objs.size + 1) :: us).length = ps.length := by rw [← r2.length]; exact F.len _ _ _ _ hq
  have hB := hb ⟨(hh.push (newArgs us)).push (newExc C hh.objs.size), g, d, tk, os⟩ (Value.ref (hh.objs.size + 1) :: us) I3.kIn (by rw [List.append_nil]; exact hl)
  rw [List.append_nil] at hB
  refine call_ini T cC cN ci hoI hcI (by show us.length ≤ sizeLine; rw [← r.length]; exact hz) (wpAny_call (codeAny_mono (F.run _ X.stack _ _ ⟨Value.ref (hh.objs.size + 1) :: us, []⟩ (Value.ref (hh.objs.size + 1) :: us) _ _ E0 (hr.make C us []) (I3.env0.make C us []) hB r2 hq) fun r s' hq' => ?_))
  cases r with
  | error e => exact False.elim hq'
  | ok fl =>
    cases fl with
    | ret u =>
      obtain ⟨v, H', I4, rv, ev, q3⟩ := I3.after hq'
      subst ev
      exact ⟨rv, _, H', rfl, I4, hsz0, q3⟩
    | next => exact False.elim hq'
    | brk => exact False.elim hq'
    | cont => exact False.elim hq'
theorem qs_raiseI (hl : Lets X E) (hc : X.calm = true) (M : MkX X.K C f) (F : FnOk X.prog X.w X.K X.mg X.base CX0 k f fd ps sp) (hr : Room (k + 1) X.A) (hg : Gl X x) (hm : X.mg x = some (.ref C)) (hb : Binds X.K fd ps []) (ha : QA X (e :: es) t)
    (hdb : (x == ("__debug__" : Str)) = false := by decide) (hs : starEach (e :: es) X.env = (false, eval e X.env) :: starEach es X.env := by rfl) (hpl : (backTo cpos (starEach es X.env)).any (·.1) = false := by rfl) :
    QS X (.Raise (some (.Call (.Name x p) (e :: es) [] cpos)) none pos) (tRaiseI C sp E t) := ⟨by
  intro pins s σ H D I h
  have run := exc_run (p := p) M F hr hg hm hb ha I h hdb hs hpl
  obtain ⟨bm, N, nm, qn, bs, sn, sub, ab, col, dd, k0, k1, k2, k3, k5, mN, cC, cN, ci, T⟩ := ini_obj I.ok.mod.kin M.ini
  rw [arm_exec_Raise]
  refine wpAny_bind (wpAny_standAt (raise_obj (C := C) (nm := nm) (q := qn) (N := N) (bs := bs) (bm := bm) (hdct := true) (sn := sn) (sub := sub) (ab := ab) (col := col) (dd := dd) (k0 := k0) (k1 := k1) (k2 := k2) (k3 := k3) (k5 := k5) (newId := "ValueError.__new__")
    (T.hasType PySem.F.excBase_ValueError.hasBase) (I.ok.hd hc) (wpAny_bind (wpAny_mono run (fun v s1 z => wpAny_bind (wpAny_standAt (wpAny_pure ?_))) fun _ _ y => y))))
  obtain ⟨a, H2, rfl, I2, ha2, dd2, hd2, hE⟩ := z
  obtain ⟨⟨oe, vs, he, h1, h2, h3, h4, h42, _⟩, _⟩ := I2.hok a _ hd2
  have nst : ∀ b o, X.s₀.heap.get? b = some o → b ≠ a := fun b o z y => absurd (Heap.lt_size z) (by rw [y]; exact Nat.not_lt.mpr ha2)
  have I3 := I2.drop hd2 nst
  refine ⟨a, oe, vs, rfl, I2.bk _ _ cC, he, h1, h3, h4, hl pins σ _ _ a oe vs I3 he h3 h4 h42 drop_same nst ?_⟩
  rw [h1, h2]; exact hE⟩
end
section
variable {prog : Program} {w : World} {A : Around} {E : Value → Shared → Prop} {h : Heap} {g : Array GenState} {d : Drawn} {t : Nat} {os : OsState}
variable {nm q : Str} {C N a : Addr} {bs bm : List Value} {sn : List Str} {sub : List Value} {ab : Bool} {col : Option Bool} {dd : Option Addr} {k0 k1 k2 k3 k5 : Option Value} {mN : Str → Option Value} {rest : List Value} {Q : Value → Shared → Prop} {oe : Obj} {vs : Array Value}
theorem init_call (T : OwnTail h vErr bm) (hC : h.get? C = some (excClassObj nm q C N bs bm true sn sub ab col dd k0 k1 k2 k3 k5 "ValueError.__new__")) (he : h.get? a = some oe) (hc : oe.cls = .ref C) (hd : oe.data = .fields vs) (hz : 0 < vs.size) (hr : rest.length ≤ sizeLine)
    (hq : Q .none ⟨(h.push (newArgs rest)).update a (Obj.mapFields (·.setIfInBounds 0 (.ref h.objs.size))), g, d, t, os⟩) :
    wpAny (model prog w) A (call (.builtin "ValueError.__init__") (.ref a :: rest)) Q E ⟨h, g, d, t, os⟩ := by
  have FB := PySem.F.excBase_ValueError
  obtain ⟨oc, od, oda, osl⟩ := oe
  dsimp only at hc hd
  subst hc hd
  refine wpAny_call (codeAny_call_builtin FB.init.plain FB.initEntry (wpAny_check_init_subT FB T hC he rfl ?_))
  have he1 : (h.push (newArgs rest)).get? a = some ⟨.ref C, od, .fields vs, osl⟩ := Heap.get?_push_of_some _ he
  unfold Builtin.«BaseException.__init__»
  repeat (first | with_reducible refine wpAny_loadPart_at he1 ?_ | wp_step)
  obtain ⟨v0, e0⟩ : ∃ v0, vs[0]? = some v0 := ⟨_, Array.getElem?_eq_getElem hz⟩
  rw [e0]
  refine wpAny_pure (wpAny_bind (wpAny_setField he1 rfl hz ?_))
  cases v0 <;> first | exact wpAny_letGo (wpAny_pure hq) | exact wpAny_pure (wpAny_pure hq)
end
def errLine : List Value → Bool
  | .ref _ :: r => errLine r
  | l => l == vErr
theorem errLine_pass (self : Value) : ∀ {l : List Value}, errLine l = true → refuseLoop self "__setattr__" l = pure ()
  | .ref _ :: r, e => (refuseLoop_ref self "__setattr__" _ r).trans (errLine_pass self (l := r) e)
  | [], e => by cases e
  | .type n :: r, e => by rw [beq_iff_eq.mp (show (Value.type n :: r == vErr) = true from e)]; exact PySem.F.store_ValueError.passes self
  | .none :: r, e => by cases (beq_iff_eq.mp (show (Value.none :: r == vErr) = true from e))
  | .bool b :: r, e => by cases (beq_iff_eq.mp (show (Value.bool b :: r == vErr) = true from e))
  | .int i t :: r, e => by cases (beq_iff_eq.mp (show (Value.int i t :: r == vErr) = true from e))
  | .float i t :: r, e => by cases (beq_iff_eq.mp (show (Value.float i t :: r == vErr) = true from e))
  | .str i t :: r, e => by cases (beq_iff_eq.mp (show (Value.str i t :: r == vErr) = true from e))
  | .bytes i t :: r, e => by cases (beq_iff_eq.mp (show (Value.bytes i t :: r == vErr) = true from e))
  | .builtin n :: r, e => by cases (beq_iff_eq.mp (show (Value.builtin n :: r == vErr) = true from e))
structure ErrCls (K : Frag) (C : Addr) : Prop where
  ln : ((clsIn K C).any fun cd => cd.hasDict && errLine cd.mro) = true
  ob : mroIn K C (.type "object") = some true
  sa : findIn K (.ref C) "__setattr__" = some (some (.builtin "object.__setattr__"))
section
open Builtin Builtin.ObjectAttr
variable {prog : Program} {w : World} {A : Around} {E : Value → Shared → Prop} {s : Shared} {K : Frag} {x C : Addr} {ox : Obj} {od : Option Obj} {name : Str} {v : Value}
theorem setX_open {Q : Unit → Shared → Prop} (X : K.In s.heap) (T : ErrCls K C) (hn : findIn K (.ref C) name = some none) (I : InstAt s.heap x ox C od)
    (h : wpAny (model prog w) A.in1 (storeInOwnDict (.ref x) (.ref C) (.str name s.toks) name v false) (fun fin s' => match fin with | .done (.ret _) => Q () s' | _ => False) (fun _ _ => False) { s with toks := s.toks + 1 }) :
    wpAny (model prog w) A (setAttr (.ref x) name v) Q E s := by
  have SF := PySem.F.store_ValueError
  obtain ⟨cd, hc, ho⟩ := any_some T.ln
  rw [Bool.and_eq_true] at ho
  have L0 := I.type (M := model prog w)
  have Lm : Looks (model prog w) s.heap (mroOf (.ref C)) cd.mro := (looks_clsIn X hc).andThen .now
  have Li : Looks (model prog w) s.heap (isInstance (.ref x) (.type "object")) true := L0.andThen (looks_mroIn X T.ob)
  have Ln := looks_findIn (M := model prog w) X hn
  obtain ⟨hh, g, d, t, os⟩ := s
  unfold setAttr
  refine wpAny_bind (wpAny_mkText (wpAny_bind (wpAny_bind (wpAny_bind (L0.at ((looks_findIn X T.sa).at (wpAny_holding (wpAny_bind ?_))))))))
  rw [SF.slot.bind (.ref x)]
  refine wpAny_pure (wpAny_bind (wpAny_call (codeAny_call_builtin SF.slot.plain SF.entry (@check_slot (model prog w) _ _ _ "object.__setattr__" "object" "__setattr__" (.ref x) [.str name t, v] [] _ SF.kind SF.split Li (SF.args (.ref x) (.str name t) v) ?_))))
  show wpAny (model prog w) A.in1 (Builtin.«object.__setattr__» ⟨[.ref x, .str name t, v], []⟩) _ _ _
  rw [osa_eq, refuse_eq]
  refine wpAny_bind (wpAny_bind (L0.at (wpAny_bind (Lm.at ?_))))
  rw [errLine_pass _ ho.2]
  refine wpAny_pure (wpAny_bind (L0.at (wpAny_bind (Ln.at (wpAny_bind (wpAny_pure ?_))))))
  refine wpAny_mono h (fun fin s' z => ?_) fun _ _ z => z.elim
  cases fin with
  | done f => cases f with
    | ret u => exact wpAny_pure (wpAny_pure z)
    | next => exact z.elim
    | brk => exact z.elim
    | cont => exact z.elim
  | again c => exact z.elim
end
section
open Builtin Builtin.ObjectAttr
variable {prog : Program} {w : World} {A : Around} {E : Value → Shared → Prop} {h : Heap} {g : Array GenState} {d : Drawn} {t : Nat} {os : OsState} {K : Frag} {x C dx : Addr} {vs : Array Value} {sl : Array (Option Value)} {name : Str} {v : Value} {Q : Fin → Shared → Prop} {b : Bool} {tk : Tok}
theorem storeX_new (X : K.In h) (T : ErrCls K C) (hx : h.get? x = some ⟨.ref C, none, .fields vs, sl⟩)
    (hq : ∀ h' t', h'.Ns1 h.objs.size (fun y => if y = name then some v else none) → h'.get? x = some ⟨.ref C, some h.objs.size, .fields vs, sl⟩ → (∀ c o, c ≠ x → h.get? c = some o → h'.get? c = some o) → Q (.done (.ret .none)) ⟨h', g, d, t', os⟩) :
    wpAny (model prog w) A (storeInOwnDict (.ref x) (.ref C) (.str name tk) name v b) Q E ⟨h, g, d, t, os⟩ := by
  obtain ⟨cd, hc, ho⟩ := any_some T.ln
  rw [Bool.and_eq_true] at ho
  have xs : x ≠ h.objs.size := Nat.ne_of_lt (Heap.lt_size hx)
  refine wpAny_bind (wpAny_pure (wpAny_bind (wpAny_bind (wpAny_loadPart hx (wpAny_bind ((looks_clsIn X hc).here ?_))))))
  rw [ho.1]
  have hx1 : (h.push { cls := .type "dict", data := .dict #[] }).get? x = some ⟨.ref C, none, .fields vs, sl⟩ := Heap.get?_push_of_some _ hx
  refine wpAny_bind (wpAny_alloc' ?_)
  refine wpAny_bind (wpAny_update' hx1 ?_)
  refine wpAny_pure ?_
  generalize e1 : ((h.push { cls := .type "dict", data := .dict #[] }).update x fun o => { cls := o.cls, dict := some h.objs.size, data := o.data, slots := o.slots }) = h1
  have g1 : h1.get? h.objs.size = some { cls := .type "dict", data := .dict #[] } := by rw [← e1]; exact (Heap.get?_update_ne _ _ _ _ xs.symm).trans (Heap.get?_push_at rfl rfl)
  have g2 : h1.get? x = some ⟨.ref C, some h.objs.size, .fields vs, sl⟩ := by rw [← e1]; exact Heap.get?_update_self _ hx1 rfl
  have g3 : ∀ c o, c ≠ x → h.get? c = some o → h1.get? c = some o := fun c o n z => by rw [← e1]; exact (Heap.get?_update_ne _ _ _ _ n).trans (Heap.get?_push_of_some _ z)
  have n1 : h1.Ns h.objs.size (fun _ => none) := ⟨_, #[], _, g1, rfl, (fun e he => absurd he (by simp)), fun _ => rfl⟩
  show wpAny _ _ (storeInDict h.objs.size (.str name tk) name v) _ _ _
  unfold storeInDict newKeyGuard
  refine wpAny_bind (wpAny_pure (wpAny_bind (wpAny_nsSet1 (Heap.Ns1.of_empty n1) fun h2 n2 k2 => ?_)))
  obtain ⟨oD, esD, epD, hoD, hdD, hcD⟩ := n2.count (PySem.Within.cons name v PySem.Within.nil)
  refine wpAny_bind (wpAny_lookBehind hoD (by rw [hdD]; exact pastItsLine_dict (Nat.le_trans hcD (by rw [List.length_cons, List.length_nil, sizeLine_eq]; omega))) (wpAny_pure ?_))
  exact hq h2 _ n2 ((k2.2 x xs).trans g2) fun c o n z => (k2.2 c (Nat.ne_of_lt (Heap.lt_size z))).trans (g3 c o n z)
theorem storeX_more {mA : Str → Option Value} {ns : List Str} (X : K.In h) (T : ErrCls K C) (hx : h.get? x = some ⟨.ref C, some dx, .fields vs, sl⟩) (hn : h.Ns1 dx mA) (hw : PySem.Within mA ns) (hl : ns.length ≤ 100)
    (hq : ∀ h' t', h'.Ns1 dx (fun y => if y = name then some v else mA y) → (∀ c o, c ≠ dx → h.get? c = some o → h'.get? c = some o) → Q (.done (.ret .none)) ⟨h', g, d, t', os⟩) :
    wpAny (model prog w) A (storeInOwnDict (.ref x) (.ref C) (.str name tk) name v b) Q E ⟨h, g, d, t, os⟩ := by
  obtain ⟨cd, hc, ho⟩ := any_some T.ln
  rw [Bool.and_eq_true] at ho
  refine wpAny_bind (wpAny_pure (wpAny_bind (wpAny_bind (wpAny_loadPart hx (wpAny_bind ((looks_clsIn X hc).here ?_))))))
  rw [ho.1]
  refine wpAny_pure ?_
  show wpAny _ _ (storeInDict dx (.str name tk) name v) _ _ _
  unfold storeInDict newKeyGuard
  refine wpAny_bind (wpAny_pure (wpAny_bind (wpAny_nsSet1 hn fun h2 n2 k2 => ?_)))
  obtain ⟨oD, esD, epD, hoD, hdD, hcD⟩ := n2.count (PySem.Within.cons name v hw)
  refine wpAny_bind (wpAny_lookBehind hoD (by rw [hdD]; exact pastItsLine_dict (Nat.le_trans hcD (by rw [List.length_cons, sizeLine_eq]; omega))) (wpAny_pure ?_))
  exact hq h2 _ n2 fun c o n z => (k2.2 c n).trans z
end
def XD (a : Addr) (fs : List (Str × V)) : Heap → Prop := fun h => ∃ mA, h.Ns1 a mA ∧ (∀ f, RelO (fs.lookup f) (mA f)) ∧ PySem.Within mA (fs.map (·.1)) ∧ fs.length ≤ 50
theorem XD.at {a : Addr} {fs : List (Str × V)} {h h' : Heap} (x : XD a fs h) (k : ∀ o, h.get? a = some o → h'.get? a = some o) : XD a fs h' := let ⟨mA, n, r⟩ := x; ⟨mA, n.at k, r⟩
theorem XD.ok {P : Program} {w : World} {H : Hp} {h : Heap} {a : Addr} {fs : List (Str × V)} (x : XD a fs h) : ObjOk P w H h a (.ext (XD a fs)) := ⟨x, let ⟨_, ⟨o, _, _, e, _⟩, _⟩ := x; ⟨o, e⟩, fun _ _ y k => y.at k⟩
def sFldX (K : Frag) (ta tv : TE) (f : Str) : TS := fun D σ H => tv σ H fun y H1 => ta σ H1 fun x H2 => ∃ a C dd, x = .ref a ∧ H2 a = some (.ext (ExcN a (.ref C) dd)) ∧ ErrCls K C ∧ findIn K (.ref C) f = some none ∧
  ((dd = none ∧ ∀ dx, dx ≠ a → H2 dx = none → D.nx σ (upd (upd H2 dx (.ext (XD dx [(f, y)]))) a (.ext (ExcN a (.ref C) (some dx))))) ∨
   ∃ dx fs, dd = some dx ∧ H2 dx = some (.ext (XD dx fs)) ∧ fs.length < 50 ∧ D.nx σ (upd H2 dx (.ext (XD dx (putF f y fs)))))
section
variable {X : Cx} {o value : Expr} {f : Str} {pos pos' : Pos} {ta tv : TE}
theorem qs_fldX (ha : QE X o ta) (hv : QE X value tv) (hs : swapsWith value (some (.Attribute o f pos')) pos.line X.env = pure false) : QS X (.Assign [.Attribute o f pos'] value pos) (sFldX X.K ta tv f) := ⟨by
  intro pins s σ H D I h
  refine plainObj_wpAny_Assign_Attribute (thn (hv.out pins s σ H _ I h) fun u s1 ⟨y, H1, I1, ry, q⟩ => thn (ha.out pins s1 σ H1 _ I1 q) fun ov s2 ⟨x, H2, I2, rx, a, C, dd, ex, ea, T, hn, q2⟩ => ?_) hs
  subst ex
  obtain rfl : ov = Value.ref a := rx
  obtain ⟨⟨oe, vs, he, h1, h2, h3, h4, h42, h5⟩, _⟩ := I2.hok a _ ea
  obtain ⟨oc, od, oda, osl⟩ := oe
  dsimp only at h1 h2 h3
  subst h1 h2 h3
  have hk : X.K.In s2.heap := I2.kIn
  obtain ⟨hh, g, d, t, os⟩ := s2
  rcases q2 with ⟨rfl, q2⟩ | ⟨dx, fs, rfl, hdx, hl, q2⟩
  · refine setX_open hk T hn (od := none) ⟨he, rfl, rfl, True.intro⟩ (storeX_new hk T he fun h' t' n' e' k' => ?_)
    have xs : a ≠ hh.objs.size := Nat.ne_of_lt (Heap.lt_size he)
    have nN : H2 hh.objs.size = none := I2.hok.fresh (Nat.le_refl _)
    have na : ∀ b, H2 b = none → b ≠ a := fun b n z => by rw [z, ea] at n; cases n
    have ne : ∀ b w, H2 b = some w → (∀ φ, w ≠ .ext φ) → b ≠ a ∧ b ≠ hh.objs.size := fun b w e n => ⟨fun z => by rw [z, ea] at e; cases e; exact n _ rfl, fun z => by rw [z, nN] at e; cases e⟩
    have up : ∀ b, b ≠ a → b ≠ hh.objs.size → upd (upd H2 hh.objs.size (.ext (XD hh.objs.size [(f, y)]))) a (.ext (ExcN a (.ref C) (some hh.objs.size))) b = H2 b := fun b n1 n2 => by rw [upd_ne n1, upd_ne n2]
    have lt : ∀ b o, hh.get? b = some o → b ≠ hh.objs.size := fun b o z => Nat.ne_of_lt (Heap.lt_size z)
    have hD : XD hh.objs.size [(f, y)] h' := ⟨_, n', fun g' => by
        show RelO (List.lookup g' [(f, y)]) (if g' = f then some u else none)
        by_cases q : g' = f
        · rw [if_pos q, q]; simp only [List.lookup, beq_self_eq_true]; exact ry
        · rw [if_neg q]
          have : (g' == f) = false := beq_false_of_ne q
          simp only [List.lookup, this]; trivial, fun g' hg => by
        by_cases q : g' = f
        · rw [q]; simp
        · exact absurd (show (if g' = f then some u else none) = none by rw [if_neg q]) hg, by show 1 ≤ 50; decide⟩
    have I3 : Inv X pins σ (upd (upd H2 hh.objs.size (.ext (XD hh.objs.size [(f, y)]))) a (.ext (ExcN a (.ref C) (some hh.objs.size)))) ⟨h', g, d, t', os⟩ := I2.un (t' := t')
      ⟨fun b o z n _ _ => k' b o (na b n) z, fun b o z n _ _ => ⟨o.slots, k' b o (na b n) z⟩, fun b o z n _ => (up b (na b n) (lt b o z)).trans n, fun b o z _ => by
        by_cases hb : b = a
        · exact ⟨_, by rw [hb]; exact e'⟩
        · exact ⟨o, k' b o hb z⟩, fun b xs e => by
        obtain ⟨n1, n2⟩ := ne b _ e fun φ => by simp
        exact (up b n1 n2).trans e, fun b o xs e => by
        obtain ⟨n1, n2⟩ := ne b _ e fun φ => by simp
        exact (up b n1 n2).trans e, fun b ps e => by
        obtain ⟨n1, n2⟩ := ne b _ e fun φ => by simp
        exact ⟨#[], by rw [up b n1 n2, e]; simp⟩⟩ fun b o e => by
      by_cases hb : b = a
      · subst hb
        rw [upd_same] at e
        cases e
        exact ExcN.ok ⟨_, _, e', rfl, rfl, rfl, h4, h42, fun z => xs (Option.some.inj z).symm⟩
      · rw [upd_ne hb] at e
        by_cases hn : b = hh.objs.size
        · subst hn
          rw [upd_same] at e
          cases e
          exact hD.ok
        · rw [upd_ne hn] at e
          refine (I2.hok b o e).stay (fun c w hc z => k' c w (fun y => ?_) z) (fun c r => ?_) fun c xs r => ?_
          · rcases hc with hc | hc
            · exact hb (hc.symm.trans y)
            · rw [y, ea] at hc; cases hc
          · obtain ⟨n1, n2⟩ := ne c _ r fun φ => by simp
            exact (up c n1 n2).trans r
          · obtain ⟨n1, n2⟩ := ne c _ r fun φ => by simp
            exact (up c n1 n2).trans r
    exact ⟨σ, _, I3, q2 _ xs.symm nN⟩
  · obtain ⟨⟨mA, nA, rA, wA, lA⟩, ⟨od, hod⟩, _⟩ := I2.hok dx _ hdx
    refine setX_open hk T hn (od := some od) ⟨he, rfl, rfl, hod⟩ (storeX_more (ns := fs.map (·.1)) hk T he nA wA (by rw [List.length_map]; omega) fun h' t' n' k' => ?_)
    have I3 : Inv X pins σ (upd H2 dx (.ext (XD dx (putF f y fs)))) ⟨h', g, d, t', os⟩ := I2.write (t' := t') (e := dx) (by rw [hdx]; trivial) (.inl rfl) (fun b o n z => k' b o n z) (let ⟨o, _, _, e, _⟩ := n'; ⟨o, e⟩)
      (XD.ok ⟨_, n', fun g' => ?_, fun g' hg => ?_, ?_⟩)
    · exact ⟨σ, _, I3, q2⟩
    · show RelO ((putF f y fs).lookup g') (if g' = f then some u else mA g')
      rw [lookup_putF]
      by_cases q : g' = f
      · rw [if_pos q, if_pos q]; exact ry
      · rw [if_neg q, if_neg q]; exact rA g'
    · by_cases q : g' = f
      · rw [q]; exact (keys_putF f y fs).1
      · refine (keys_putF f y fs).2 g' (wA g' fun z => hg ?_)
        show (if g' = f then some u else mA g') = none
        rw [if_neg q]; exact z
    · have := length_putF f y fs; omega⟩
end
structure InitOf (K : Frag) (R : Addr) : Prop where
  ga : specialIn K (.ref R) "__getattribute__" = some (some (.builtin "type.__getattribute__"))
  rd : readsIn K R (.type "type") = true
  fc : findCls K (.ref R) (.type "type") "__init__" = some (.val (.builtin "ValueError.__init__"))
def tExcInit (K : Frag) (t : TA) : TE := fun σ H Q => t σ H fun vs H1 => ∃ a C f dd rest, vs = .ref a :: rest ∧ H1 a = some (.ext (ExcN a (.ref C) dd)) ∧ iniIn K C f = true ∧ rest.length ≤ sizeLine ∧ Q .non H1
section
variable {X : Cx} {R : Addr} {x : Str} {np apos pos : Pos} {e : Expr} {es : List Expr} {t : TA}
theorem qe_excInit {pl : Sem Bool} (hg : Gl X x) (hm : X.mg x = some (.ref R)) (F : InitOf X.K R) (ha : QA X (e :: es) t) (hdb : (x == ("__debug__" : Str)) = false := by decide)
    (hs : starEach (e :: es) X.env = (false, eval e X.env) :: starEach es X.env := by rfl) (hpl : (backTo pos (starEach es X.env)).any (·.1) = false := by rfl)
    (ht : eval (.Call (.Attribute (.Name x np) "__init__" apos) (e :: es) [] pos) X.env = (do
      let ov ← eval (.Name x np) X.env
      standAt apos.atName
      let (f, first) ← holding [ov] (getMethod ov "__init__" pl)
      callWith pos f first (backTo pos (starEach (e :: es) X.env)) (backToKw pos (keywordEach [] X.env))) := by rfl) :
    QE X (.Call (.Attribute (.Name x np) "__init__" apos) (e :: es) [] pos) (tExcInit X.K t) := ⟨by
  intro pins s σ H Q I h
  refine methodCall_KW (pl := pl) (ld_glob I hg hm ?_ hdb) ht
  refine method_cls I.kIn F.ga (cls_value I.kIn F.rd F.fc rfl ?_)
  have I0 := I.tok (s.toks + 1)
  refine PyProof.Rows.callWith_builtin1 (thn (ha.out pos pins _ σ H _ I0 h) fun us s1 ⟨vs, H1, I1, r1, a, C, f, dd, rest, ev, hE, hC, hz, q⟩ => ?_) hs hpl
  subst ev
  obtain ⟨bm, N, nm, qn, bs, sn, sub, ab, col, dd', k0, k1, k2, k3, k5, mN, cC, cN, ci, T⟩ := ini_obj I1.kIn hC
  obtain ⟨⟨oe, ws, he, h1, h2, h3, h4, h42, h5⟩, _⟩ := I1.hok a _ hE
  obtain ⟨u, us', rfl, ra, rr⟩ : ∃ u us', us = u :: us' ∧ RelV (.ref a) u ∧ Vals rest us' := by
    cases r1 with
    | cons ra rr => exact ⟨_, _, rfl, ra, rr⟩
  obtain rfl : u = Value.ref a := ra
  obtain ⟨hh, g, d, tk, os⟩ := s1
  have hsz : 0 < ws.size := Nat.lt_of_le_of_lt (Nat.zero_le 1) (Array.getElem?_eq_some_iff.mp h4).1
  refine init_call T cC he h1 h3 hsz (by rw [← rr.length]; exact hz) ?_
  have e1 : (hh.push (newArgs us')).get? a = some oe := Heap.get?_push_of_some _ he
  have I2 : Inv X pins σ H1 ⟨hh.push (newArgs us'), g, d, tk, os⟩ := I1.kept (t' := tk) fun b u z => Heap.get?_push_of_some _ z
  have dd2 := Obj.data_mapFields h3 (·.setIfInBounds 0 (Value.ref hh.objs.size))
  have e2 : ((hh.push (newArgs us')).update a (Obj.mapFields (·.setIfInBounds 0 (.ref hh.objs.size)))).get? a = some (oe.mapFields (·.setIfInBounds 0 (.ref hh.objs.size))) := Heap.get?_update_self _ e1 (Obj.isFreed_of_fields dd2)
  have I3 : Inv X pins σ (upd H1 a (.ext (ExcN a (.ref C) dd))) ⟨(hh.push (newArgs us')).update a (Obj.mapFields (·.setIfInBounds 0 (.ref hh.objs.size))), g, d, tk, os⟩ := I2.write (t' := tk) (e := a) (by rw [hE]; trivial) (.inl rfl)
    (fun b u n z => (Heap.get?_update_other _ _ (Ne.symm n)).trans z) ⟨_, e2⟩ (ExcN.ok ⟨_, _, e2, (Obj.cls_mapFields _ _).trans h1, (dict_mapF _ _).trans h2, dd2, by rw [Array.getElem?_setIfInBounds_ne (by decide)]; exact h4, by rw [Array.getElem?_setIfInBounds_ne (by decide)]; exact h42, h5⟩)
  rw [show upd H1 a (.ext (ExcN a (.ref C) dd)) = H1 from funext fun b => by
    by_cases hb : b = a
    · rw [hb, upd_same, hE]
    · rw [upd_ne hb]] at I3
  exact ⟨.non, H1, I3, rfl, q⟩⟩
end
def tFldX (K : Frag) (ta : TE) (f : Str) : TE := fun σ H Q => ta σ H fun x H1 => ∃ a C dx fs v, x = .ref a ∧ H1 a = some (.ext (ExcO a (.ref C) (some dx))) ∧ H1 dx = some (.ext (XD dx fs)) ∧ ExcIs K C ∧ hasDictIn K C = true ∧ findIn K (.ref C) f = some none ∧ fs.lookup f = some v ∧ Q v H1
section
variable {prog : Program} {w : World} {A : Around} {E : Value → Shared → Prop} {s : Shared} {K : Frag} {x C : Addr} {ox : Obj} {od : Obj} {name : Str} {v : Value}
theorem getX_entry {tk : Tok} {Q : Fin → Shared → Prop} (X : K.In s.heap) (I : InstAt s.heap x ox C (some od)) (hf : findObj K C (some od) name = some (.value v)) (h : Q (.done (.ret v)) s) :
    wpAny (model prog w) A (Builtin.«object.__getattribute__» ⟨[.ref x, .str name tk], []⟩) Q E s := by
  obtain ⟨hh, g, d, t, os⟩ := s
  have L0 := I.type (M := model prog w)
  have L1 := looks_find (M := model prog w) X I hf
  unfold Builtin.«object.__getattribute__»
  repeat (first | lk)
  exact h
theorem getX {expr : Bool} {Q : Value → Shared → Prop} (T : ExcIs K C) (X : K.In s.heap) (I : InstAt s.heap x ox C (some od)) (hf : findObj K C (some od) name = some (.value v)) (hv : handedIn v = true) (h : Q v { s with toks := s.toks + 1 }) :
    wpAny (model prog w) A (getAttr (.ref x) name expr) Q E s := by
  obtain ⟨hh, g, d, t, os⟩ := s
  have L0 := I.type (M := model prog w)
  have L1 := looks_findIn (M := model prog w) X T.ga
  have L2 := looks_findIn (M := model prog w) X T.gx
  unfold getAttr getAttrBy
  refine wpAny_bind (wpAny_mkText (wpAny_holding (wpAny_bind (L0.at (wpAny_bind (L1.at ?_))))))
  show wpAny _ _ (getAttrByItsOwn _ _ _ _ _ _) _ _ _
  unfold getAttrByItsOwn hookBefore
  rw [if_pos (show onTheHeap (Value.ref C) = true from rfl)]
  refine wpAny_bind (L2.at (wpAny_bind (wpAny_attempt (wpAny_holding ?_))))
  unfold callGetattribute boundAndCalled
  rw [if_neg (by simp [onTheHeap])]
  have f3 := PySem.F.excAttr_ValueError.ga.bind (.ref x)
  rw [f3]
  refine wpAny_bind (wpAny_pure ?_)
  refine wpAny_call (codeAny_call_builtin PySem.F.excAttr_ValueError.ga.plain F.entry_bexc_ga ?_)
  have hk : builtinKind "BaseException.__getattribute__" = some .slot := by decide +kernel
  have hsp : splitId "BaseException.__getattribute__" = some ("BaseException", "__getattribute__") := by decide +kernel
  have Lb := looks_mroIn (M := model prog w) X T.hb
  have hargs := F.args_bexc_ga (.ref x) (.str name t)
  simp only [checkBuiltinCall, hk, hsp]
  refine wpAny_bind ?_
  unfold isInstance
  refine wpAny_bind (L0.at (Lb.at ?_))
  repeat (first | refine getX_entry (x := x) X I hf ?_ | assumption | wp_step)
  exact handed_on hv h
end
section
variable {X : Cx} {e : Expr} {f : Str} {pos : Pos} {ta : TE}
theorem qe_fldX (he : QE X e ta) (hb : attributeBase e f X.env (eval e X.env) = eval e X.env) : QE X (.Attribute e f pos) (tFldX X.K ta f) := ⟨by
  intro pins s σ H Q I h
  refine attr_of hb (thn (he.out pins s σ H _ I h) fun u s1 ⟨x, H1, I1, rx, a, C, dx, fs, v, ex, ea, ed, T, hd, hn, hl, q⟩ => ?_)
  subst ex
  obtain rfl : u = Value.ref a := rx
  obtain ⟨⟨oe, vs, e1, e2, e3, e4, _⟩, _⟩ := I1.hok a _ ea
  obtain ⟨⟨mA, nA, rA, wA, lA⟩, _⟩ := I1.hok dx _ ed
  obtain ⟨od, ho, hlk⟩ := lookIn_ns nA
  obtain ⟨u, hu, ru⟩ := RelO.some_of (v := v) (o := mA f) (by rw [← hl]; exact rA f)
  have J : InstAt s1.heap a oe C (some od) := ⟨e1, e2, by unfold notCls; rw [e4], by rw [e3]; exact ho⟩
  exact getX T I1.kIn J (findObj_own hd hn rfl (by rw [hlk, hu])) (handed_of ru) ⟨v, H1, I1.tok _, ru, q⟩⟩
end
section
variable {X : Cx} {e : Expr} {f : Str} {pos : Pos} {ta : TE}
end
theorem drop_new {H : Hp} {a dx : Addr} {o p q : HO} (na : H a = none) (ne : dx ≠ a) (nd : upd H a o dx = none) : Same H (drop (upd (upd (upd H a o) dx p) a q) a) ∧ drop (upd (upd (upd H a o) dx p) a q) a dx = some p := by
  rw [upd_ne ne] at nd
  refine ⟨fun b u e => ?_, ?_⟩
  · have h1 : b ≠ a := ne_of_none e na
    have h2 : b ≠ dx := ne_of_none e nd
    rw [drop_ne h1, upd_ne h1, upd_ne h2, upd_ne h1]; exact e
  · rw [drop_ne ne, upd_ne ne, upd_same]
structure XCls (K : Frag) (mg : Str → Option Value) (name : Str) (C f : Addr) (fs : List Str) : Prop where
  mgC : mg name = some (.ref C)
  M : MkX K C f
  T : ErrCls K C
  is : ExcIs K C
  hd : hasDictIn K C = true
  no : ∀ g ∈ fs, findIn K (.ref C) g = some none
def spIni1 (C : Addr) (nm : Str) : Sp := fun vs H Q _ => ∃ (a : Addr) (v : V), vs = [.ref a, v] ∧ H a = some (.ext (ExcN a (.ref C) none)) ∧ ∀ dx, dx ≠ a → H dx = none → Q .non (upd (upd H dx (.ext (XD dx [(nm, v)]))) a (.ext (ExcN a (.ref C) (some dx))))
end L2
end

section
set_option Elab.async false
set_option linter.all false
set_option maxRecDepth 100000
set_option maxHeartbeats 2000000
namespace L2
open PySem PySem.Spec PyProof.Rows PySem.W
section
variable {prog : Program} {w : World} {A : Around} {E : Value → Shared → Prop} {s : Shared}
end
section
variable {X : Cx}
end
section
variable {X : Cx}
end
end L2
end

section
set_option Elab.async false
set_option linter.all false
set_option maxRecDepth 100000
set_option maxHeartbeats 2000000
namespace L2
open PySem PySem.Spec PyProof.Rows PySem.W
def tMethS (C : Addr) (m : Str) (sp : Sp) (E : XK) (S : St → Prop) (ta : TE) (t : TA) : TE := fun σ H Q => S σ ∧ ta σ H fun x H1 => ∃ a dx fs, x = .ref a ∧ H1 a = some (.ins C dx fs) ∧ fs.lookup m = none ∧ t σ H1 fun vs H2 => sp (x :: vs) H2 Q E
section
variable {X : Cx} {C f : Addr} {m : Str} {k : Nat} {fd : FuncData} {ps : List Str} {sp : Sp} {E : XK} {S : St → Prop} {o e : Expr} {es : List Expr} {ta : TE} {t : TA} {apos pos : Pos}
theorem qe_methS {pl : Sem Bool} (he : QE X o ta) (c : Cls X.K C) (hm : Meth X.K C m f) (F : FnOk X.prog X.w X.K X.mg X.base (CXE X.prog X.w) k f fd ps sp) (hr : Room k X.A) (hb : Binds X.K fd ps []) (hx : PassesS (CXE X.prog X.w) X E S) (ha : QA X (e :: es) t)
    (hs : starEach (e :: es) X.env = (false, eval e X.env) :: starEach es X.env := by rfl) (hpl : (backTo pos (starEach es X.env)).any (·.1) = false := by rfl)
    (ht : eval (.Call (.Attribute o m apos) (e :: es) [] pos) X.env = (do
      let ov ← eval o X.env
      standAt apos.atName
      let (f, first) ← holding [ov] (getMethod ov m pl)
      callWith pos f first (backTo pos (starEach (e :: es) X.env)) (backToKw pos (keywordEach [] X.env))) := by rfl) :
    QE X (.Call (.Attribute o m apos) (e :: es) [] pos) (tMethS C m sp E S ta t) := ⟨by
  intro pins s σ H Q I h
  obtain ⟨hS, h⟩ := h
  refine methodCall_KW (pl := pl) (thn (he.out pins s σ H _ I h) fun u s1 ⟨x, H1, I1, rx, a, dx, fs, ex, ea, l, q⟩ => ?_) ht
  subst ex
  obtain rfl : u = Value.ref a := rx
  refine getmeth_ok I1 ea c hm l (callWith_K (first := [.ref a]) (h₀ := X.base) I.ok.mod.kin hm.kp (thn (ha.out pos pins s1 σ H1 _ I1 q) fun us s2 ⟨vs, H2, I2, r, q2⟩ => ⟨I2.kIn, ?_⟩) hs hpl)
  have r2 : Vals (V.ref a :: vs) (Value.ref a :: us) := .cons rfl r
  have hl : (Value.ref a :: us).length = ps.length := by rw [← r2.length]; exact F.len _ _ _ _ q2
  have hB := hb s2 (Value.ref a :: us) I2.kIn (by rw [List.append_nil]; exact hl)
  rw [List.append_nil] at hB
  refine wpAny_call (codeAny_mono (F.run X.A X.stack s2 H2 ⟨Value.ref a :: us, []⟩ (Value.ref a :: us) _ Q E hr I2.env0 hB r2 q2) fun r s' hq => ?_)
  cases r with
  | error e => exact hx pins σ H2 s2 e s' I2 hS hq
  | ok fl =>
    cases fl with
    | ret u => exact I2.after hq
    | next => exact False.elim hq
    | brk => exact False.elim hq
    | cont => exact False.elim hq⟩
end
def isT : Value → Bool
  | .bool b => b
  | _ => false
section
variable {X : Cx}
theorem isT_vals : ∀ {bs : List Bool} {its : List Value}, Vals (bs.map V.bl) its → its.map isT = bs
  | [], _, .nil => rfl
  | b :: bs, _, .cons r t => by
    cases r
    rw [List.map_cons, isT_vals t]; rfl
def rCountB : V → List V → Hp → VK → Prop := fun x vs H Q => ∃ (l : Addr) (bs : List Bool), x = .ref l ∧ vs = [.bl true] ∧ H l = some (.lst (bs.map V.bl)) ∧ Q (.int (bs.count true : Nat)) H
theorem bool_at {bs : List Bool} {its : List Value} (r : Vals (bs.map V.bl) its) {A : Around} {s : Shared} : ∀ y ∈ its.toArray, SeqAt.EqAt A s y (.bool true) (isT y) := fun y hy => by
  obtain ⟨m, hm, rfl⟩ := Array.mem_iff_getElem.mp hy
  have hl := r.length
  have hm' : m < bs.length := by simp at hm hl; omega
  obtain ⟨u1, e1, s1⟩ := r.get (i := m) (x := .bl bs[m]) (by simp [hm'])
  cases s1
  have e2 : its.toArray[m] = .bool bs[m] := by
    rw [List.getElem?_eq_getElem (by simpa using hm)] at e1
    simpa using e1
  rw [e2]
  have := SeqAt.EqAt.bool_bool (A := A) (s := s) bs[m] true
  cases z : bs[m] <;> (rw [z] at this; exact this)
theorem mt_countB : MtM X "list.count" rCountB := by
  intro pins s σ H x vs v us Q I rx rv h
  obtain ⟨l, bs, rfl, rfl, hH, q⟩ := h
  cases rx
  obtain ⟨u, rfl, ru⟩ := rv.one
  cases ru
  obtain ⟨z, its, n, r, hl, e⟩ := I.lstM hH
  refine call_meets F.slot_list_count ⟨_, e, rfl⟩ F.entry_list_count (F.args_list_count_2 _ _) (SeqAt.list_countAt l its.toArray n _ _ (.bool true) isT) ⟨e, bool_at r, ?_⟩
  have ec : its.countP isT = bs.count true := by
    rw [← isT_vals r, List.count, List.countP_map]
    congr 1
    funext y
    simp
  exact ⟨.int (bs.count true : Nat), H, I.tok _, ⟨s.toks, by rw [← ec]⟩, q⟩
def rIndexB : V → List V → Hp → VK → Prop := fun x vs H Q => ∃ (l : Addr) (bs : List Bool) (j : Nat), x = .ref l ∧ vs = [.bl true] ∧ H l = some (.lst (bs.map V.bl)) ∧ bs[j]? = some true ∧ (∀ m, m < j → bs[m]? = some false) ∧ bs.length ≤ 1000 ∧ Q (.int j) H
theorem mt_indexB : MtM X "list.index" rIndexB := by
  intro pins s σ H x vs v us Q I rx rv h
  obtain ⟨l, bs, j, rfl, rfl, hH, hj, hno, hz, q⟩ := h
  cases rx
  obtain ⟨u, rfl, ru⟩ := rv.one
  cases ru
  obtain ⟨z, its, n, r, hl, e⟩ := I.lstM hH
  have em := isT_vals r
  have hlen : its.length = bs.length := by rw [← em, List.length_map]
  have hjb : j < bs.length := (List.getElem?_eq_some_iff.mp hj).1
  have at_ : ∀ m (hm : m < its.toArray.size), bs[m]? = some (isT its.toArray[m]) := fun m hm => by
    have hm' : m < its.length := by simpa using hm
    rw [← em, List.getElem?_map, List.getElem?_eq_getElem hm']; simp
  refine call_meets F.slot_list_index ⟨_, e, rfl⟩ F.entry_list_index (F.args_list_index_2 _ _) (SeqAt.list_indexAt l its.toArray n _ _ (.bool true) isT j (by simp; omega) (by omega) ?_ ?_) ⟨e, bool_at r, ?_⟩
  · have := at_ j (by simp; omega)
    rw [hj] at this
    exact (Option.some.inj this).symm
  · intro m hm hlt
    have := at_ m hm
    rw [hno m hlt] at this
    exact (Option.some.inj this).symm
  · exact ⟨.int j, H, I.tok _, ⟨s.toks, rfl⟩, q⟩
end
end L2
end

section
set_option Elab.async false
set_option linter.all false
set_option maxRecDepth 100000
set_option maxHeartbeats 2000000
namespace L2
open PySem PySem.Spec PyProof.Rows PySem.W
section
variable {prog : Program} {w : World} {A : Around} {E : Value → Shared → Prop} {s : Shared} {z ti to u v a b : Addr} {i : Nat} {f g : Array Value} {x y m n : Value}
end
section
variable {X : Cx} {elts : List Expr} {x1 : Nat} {tp : Pos}
end
section
variable {prog : Program} {w : World} {A : Around} {E : Value → Shared → Prop} {s : Shared}
end
section
variable {X : Cx}
end
section
variable {X : Cx}
end
end L2
end

section
set_option Elab.async false
set_option linter.all false
set_option maxRecDepth 100000
set_option maxHeartbeats 4000000
namespace My
open PySem L2
def top (i : Nat) : Stmt := PySem.Challenge.pw_letterrack_k06_what_a_book_refuses.main.body.getD i (.Pass ⟨0, 0, 0, 0⟩)
abbrev s_NoWord_init : Stmt := inClass (top 5) 0
theorem sc_NoWord_init : FnScope ["self", "word"] ["self", "word"] (defScope s_NoWord_init) := ⟨rfl, rfl, rfl, by decide +kernel, rfl, by decide +kernel, by decide +kernel⟩
abbrev s_is_word : Stmt := top 19
theorem sc_is_word : FnScope ["text"] ["text"] (defScope s_is_word) := ⟨rfl, rfl, rfl, by decide +kernel, rfl, by decide +kernel, by decide +kernel⟩
abbrev s_check_word : Stmt := top 20
theorem sc_check_word : FnScope ["text"] ["text"] (defScope s_check_word) := ⟨rfl, rfl, rfl, by decide +kernel, rfl, by decide +kernel, by decide +kernel⟩
abbrev s_Book_init : Stmt := inClass (top 21) 0
theorem sc_Book_init : FnScope ["self", "words", "word"] ["self", "words"] (defScope s_Book_init) := ⟨rfl, rfl, rfl, by decide +kernel, rfl, by decide +kernel, by decide +kernel⟩
abbrev s_Book_words : Stmt := inClass (top 21) 1
theorem sc_Book_words : FnScope ["self"] ["self"] (defScope s_Book_words) := ⟨rfl, rfl, rfl, by decide +kernel, rfl, by decide +kernel, by decide +kernel⟩
abbrev s_Book_has : Stmt := inClass (top 21) 2
theorem sc_Book_has : FnScope ["self", "text"] ["self", "text"] (defScope s_Book_has) := ⟨rfl, rfl, rfl, by decide +kernel, rfl, by decide +kernel, by decide +kernel⟩
abbrev s_Book_put_in : Stmt := inClass (top 21) 3
theorem sc_Book_put_in : FnScope ["self", "word"] ["self", "word"] (defScope s_Book_put_in) := ⟨rfl, rfl, rfl, by decide +kernel, rfl, by decide +kernel, by decide +kernel⟩
abbrev s_Book_take_out : Stmt := inClass (top 21) 4
theorem sc_Book_take_out : FnScope ["self", "word"] ["self", "word"] (defScope s_Book_take_out) := ⟨rfl, rfl, rfl, by decide +kernel, rfl, by decide +kernel, by decide +kernel⟩
abbrev s_cell_at : Stmt := top 23
theorem sc_cell_at : FnScope ["_law_script", "_law_k"] ["_law_script", "_law_k"] (defScope s_cell_at) := ⟨rfl, rfl, rfl, by decide +kernel, rfl, by decide +kernel, by decide +kernel⟩
abbrev s_next : Stmt := top 24
theorem sc_next : FnScope ["_law_x"] ["_law_x"] (defScope s_next) := ⟨rfl, rfl, rfl, by decide +kernel, rfl, by decide +kernel, by decide +kernel⟩
abbrev s_other : Stmt := top 25
theorem sc_other : FnScope ["_law_x"] ["_law_x"] (defScope s_other) := ⟨rfl, rfl, rfl, by decide +kernel, rfl, by decide +kernel, by decide +kernel⟩
abbrev s_number : Stmt := top 26
theorem sc_number : FnScope ["_law_script", "_law_k", "_law_cell"] ["_law_script", "_law_k"] (defScope s_number) := ⟨rfl, rfl, rfl, by decide +kernel, rfl, by decide +kernel, by decide +kernel⟩
abbrev s_digits : Stmt := top 27
theorem sc_digits : FnScope ["_law_script", "_law_k", "_law_base", "_law_many", "_law_left", "_law_found", "_law_x", "_law_j"] ["_law_script", "_law_k", "_law_base", "_law_many"] (defScope s_digits) := ⟨rfl, rfl, rfl, by decide +kernel, rfl, by decide +kernel, by decide +kernel⟩
abbrev s_letters : Stmt := top 28
theorem sc_letters : FnScope ["_law_script", "_law_k", "_law_letters_here", "_law_row", "_law_found", "_law_digit"] ["_law_script", "_law_k"] (defScope s_letters) := ⟨rfl, rfl, rfl, by decide +kernel, rfl, by decide +kernel, by decide +kernel⟩
abbrev s_word_of : Stmt := top 29
theorem sc_word_of : FnScope ["_law_row", "_law_letters_here", "_law_size"] ["_law_row", "_law_letters_here"] (defScope s_word_of) := ⟨rfl, rfl, rfl, by decide +kernel, rfl, by decide +kernel, by decide +kernel⟩
abbrev s_word : Stmt := top 30
theorem sc_word : FnScope ["_law_letters_here", "_law_script", "_law_k"] ["_law_letters_here", "_law_script", "_law_k"] (defScope s_word) := ⟨rfl, rfl, rfl, by decide +kernel, rfl, by decide +kernel, by decide +kernel⟩
abbrev s_mixed : Stmt := top 31
theorem sc_mixed : FnScope ["_law_cell", "_law_k", "_law_many", "_law_x", "_law_found", "_law_j"] ["_law_cell", "_law_k", "_law_many"] (defScope s_mixed) := ⟨rfl, rfl, rfl, by decide +kernel, rfl, by decide +kernel, by decide +kernel⟩
abbrev s_rows_of : Stmt := top 32
theorem sc_rows_of : FnScope ["_law_script", "_law_start", "_law_most", "_law_cell"] ["_law_script", "_law_start", "_law_most"] (defScope s_rows_of) := ⟨rfl, rfl, rfl, by decide +kernel, rfl, by decide +kernel, by decide +kernel⟩
abbrev s_book : Stmt := top 33
theorem sc_book : FnScope ["_law_script", "_law_start", "_law_most", "_law_letters_here", "_law_words", "_law_row", "_law_word_here"] ["_law_script", "_law_start", "_law_most", "_law_letters_here"] (defScope s_book) := ⟨rfl, rfl, rfl, by decide +kernel, rfl, by decide +kernel, by decide +kernel⟩
abbrev s_which : Stmt := top 34
theorem sc_which : FnScope ["_law_error", "_law_some"] ["_law_error"] (defScope s_which) := ⟨rfl, rfl, rfl, by decide +kernel, rfl, by decide +kernel, by decide +kernel⟩
abbrev s_no_word : Stmt := top 35
theorem sc_no_word : FnScope ["_law_script", "_law_place", "_law_letters_here", "_law_row", "_law_word_here", "_law_cell", "_law_at", "_law_some"] ["_law_script", "_law_place", "_law_letters_here"] (defScope s_no_word) := ⟨rfl, rfl, rfl, by decide +kernel, rfl, by decide +kernel, by decide +kernel⟩
abbrev s_told : Stmt := top 36
theorem sc_told : FnScope ["_law_book_here", "_law_way", "_law_word_here", "_law_found", "e"] ["_law_book_here", "_law_way", "_law_word_here"] (defScope s_told) := ⟨rfl, rfl, rfl, by decide +kernel, rfl, by decide +kernel, by decide +kernel⟩
abbrev s_law : Stmt := top 37
theorem sc_law : FnScope ["_law_script", "_law_letters_here", "_law_words", "_law_book_here", "_law_kept", "_law_k", "_law_word_here", "_law_way", "_law_away", "_law_error"] ["_law_script"] (defScope s_law) := ⟨rfl, rfl, rfl, by decide +kernel, rfl, by decide +kernel, by decide +kernel⟩
-- DEFS _wall|_wall|k NoWord_init|NoWord.__init__|self,word Taken_init|Taken.__init__|self,row,column Gap_init|Gap.__init__|self,row,column Lacking_init|Lacking.__init__|self,tile is_word|is_word|text check_word|check_word|text Book_init|Book.__init__|self,words Book_words|Book.words|self Book_has|Book.has|self,text Book_put_in|Book.put_in|self,word Book_take_out|Book.take_out|self,word Book_machine|Book.machine|self Book_twin|Book.twin|self cell_at|_law_cell_at|_law_script,_law_k next|_law_next|_law_x other|_law_other|_law_x number|_law_number|_law_script,_law_k digits|_law_digits|_law_script,_law_k,_law_base,_law_many letters|_law_letters|_law_script,_law_k word_of|_law_word_of|_law_row,_law_letters_here word|_law_word|_law_letters_here,_law_script,_law_k mixed|_law_mixed|_law_cell,_law_k,_law_many rows_of|_law_rows_of|_law_script,_law_start,_law_most book|_law_book|_law_script,_law_start,_law_most,_law_letters_here which|_law_which|_law_error no_word|_law_no_word|_law_script,_law_place,_law_letters_here told|_law_told|_law_book_here,_law_way,_law_word_here law|law|_law_script

section
variable {P : Program} {w : World} {K : PySem.W.Frag} {mg : Str → Option Value} {base : Heap}
theorem two_at (a b : V) (c : Int) : ∃ v, atI [a, b] (c % 2) = some v ∧ (v = a ∨ v = b) := by
  rcases Int.emod_two_eq c with h | h
  · exact ⟨a, by rw [h]; exact atI_nat (j := 0) rfl, .inl rfl⟩
  · exact ⟨b, by rw [h]; exact atI_nat (j := 1) rfl, .inr rfl⟩
def spCell (K : PySem.W.Frag) : Sp := fun vs H Q _ => ∃ (a : Addr) (ns : List Int) (k : Nat), vs = [.ref a, .int k] ∧ SqL K H a (ns.map V.int) ∧ ∀ v : Int, Q (.int v) H
def spMix : Sp := fun vs H Q _ => ∃ x : Int, vs = [.int x] ∧ 0 ≤ x ∧ x < 1099511627776 ∧ ∀ y : Int, 0 ≤ y → y < 2147483647 → Q (.int y) H
def spNum (K : PySem.W.Frag) : Sp := fun vs H Q _ => ∃ (a : Addr) (ns : List Int) (k : Nat), vs = [.ref a, .int k] ∧ SqL K H a (ns.map V.int) ∧ k ≤ 1000 ∧ ∀ v : Int, Q (.int v) H
def spDig (K : PySem.W.Frag) : Sp := fun vs H Q _ => ∃ (a : Addr) (ns : List Int) (k : Nat) (b : Int) (m : Nat), vs = [.ref a, .int k, .int b, .int m] ∧ SqL K H a (ns.map V.int) ∧ k ≤ 1000 ∧ 0 < b ∧ b < 1000000 ∧ m ≤ 100 ∧
  ∀ (p : Addr) (ds : List Int) (H' : Hp), Same H H' → H p = none → H' p = some (.lst (ds.map V.int)) → ds.length = m → (∀ d ∈ ds, 0 ≤ d ∧ d < b) → Q (.ref p) H'
def isLet (c : Nat) : Prop := 97 ≤ c ∧ c ≤ 122
structure Alph (ls : List Nat) : Prop where
  lo : 2 ≤ ls.length
  hi : ls.length ≤ 26
  az : ∀ c ∈ ls, isLet c
def spLet (K : PySem.W.Frag) : Sp := fun vs H Q _ => ∃ (a : Addr) (ns : List Int) (k : Nat), vs = [.ref a, .int k] ∧ SqL K H a (ns.map V.int) ∧ k ≤ 1000 ∧
  ∀ (ls : List Nat) (H' : Hp), Same H H' → Alph ls → Q (.str (S ls)) H'
structure Word (w : List Nat) : Prop where
  lo : 2 ≤ w.length
  hi : w.length ≤ 9
  az : ∀ c ∈ w, isLet c
structure Row (ds : List Int) : Prop where
  lo : 10 ≤ ds.length
  hi : ds.length ≤ 100
  nn : ∀ d ∈ ds, 0 ≤ d ∧ d < 1000000
def spWordOf (K : PySem.W.Frag) : Sp := fun vs H Q _ => ∃ (p : Addr) (ds : List Int) (ls : List Nat), vs = [.ref p, .str (S ls)] ∧ SqL K H p (ds.map V.int) ∧ Row ds ∧ Alph ls ∧
  ∀ (w : List Nat) (H' : Hp), Same H H' → Word w → Q (.str (S w)) H'
def spWord (K : PySem.W.Frag) : Sp := fun vs H Q _ => ∃ (a : Addr) (ns : List Int) (k : Nat) (ls : List Nat), vs = [.str (S ls), .ref a, .int k] ∧ SqL K H a (ns.map V.int) ∧ k ≤ 1000 ∧ Alph ls ∧
  ∀ (w : List Nat) (H' : Hp), Same H H' → Word w → Q (.str (S w)) H'

theorem ok_cell (D : DefAt K mg "_law_cell_at" s_cell_at ["_law_script", "_law_k"]) (hlen : mg "len" = none) : Def P w K mg base "_law_cell_at" 1 ["_law_script", "_law_k"] (spCell K) := by
  refine D.qok sc_cell_at (fun vs H Q E h => ?_) (fun f cdv A outer s H vs Q E hr h => ?_)
  · obtain ⟨a, ns, k, rfl, _⟩ := h
    rfl
  · obtain ⟨a, ns, k, rfl, hS, q⟩ := h
    refine ⟨_, qss_cons (qs_if (qt_cmpR op_lt (qv 1) (qe_callB call_len_seq (by rfl) hlen PySem.boot_len (qa_cons (qv 0) qa_nil)) (nomark _)) (qss_one (qs_ret (qe_ix ix_list (qv 0) (qv 1) (fun _ _ => rfl)))) qss_nil) (qss_one (qs_ret qe_int)), ?_⟩
    refine ⟨_, rfl, _, rfl, a, _, rfl, .inl hS, _, _, rfl, rfl, _, rfl, ?_⟩
    refine ite2 (fun hc => ?_) (fun _ => ?_)
    · have hk : k < ns.length := by
        have := of_decide_eq_true hc
        rw [List.length_map] at this
        omega
      exact ⟨_, rfl, _, rfl, a, _, _, .int ns[k], rfl, rfl, hS, atI_nat (by simp [hk]), q _⟩
    · exact q _
theorem ok_next (D : DefAt K mg "_law_next" s_next ["_law_x"]) : Def P w K mg base "_law_next" 1 ["_law_x"] spMix := by
  refine D.qok sc_next (fun vs H Q E h => ?_) (fun f cdv A outer s H vs Q E hr h => ?_)
  · obtain ⟨x, rfl, _⟩ := h
    rfl
  · obtain ⟨x, rfl, h0, h1, q⟩ := h
    refine ⟨_, qss_one (qs_ret (qe_op op_mod (qe_op op_add (qe_op op_add (qe_op op_mul (qv 0) (qv 0)) (qe_op op_mul qe_int (qv 0))) qe_int) qe_int)), ?_⟩
    refine ⟨_, rfl, _, rfl, _, _, rfl, rfl, .inl ⟨by omega, by omega⟩, _, rfl, _, _, rfl, rfl, .inl ⟨by decide, by decide⟩, _, _, rfl, rfl, _, _, rfl, rfl, _, _, rfl, rfl, (by show (0 : Int) < 2147483647; decide), ?_⟩
    exact q _ (Int.emod_nonneg _ (by decide)) (Int.emod_lt_of_pos _ (by decide))
theorem ok_other (D : DefAt K mg "_law_other" s_other ["_law_x"]) : Def P w K mg base "_law_other" 1 ["_law_x"] spMix := by
  refine D.qok sc_other (fun vs H Q E h => ?_) (fun f cdv A outer s H vs Q E hr h => ?_)
  · obtain ⟨x, rfl, _⟩ := h
    rfl
  · obtain ⟨x, rfl, h0, h1, q⟩ := h
    refine ⟨_, qss_one (qs_ret (qe_op op_mod (qe_op op_add (qe_op op_add (qe_op op_mul (qv 0) (qv 0)) (qe_op op_mul qe_int (qv 0))) qe_int) qe_int)), ?_⟩
    refine ⟨_, rfl, _, rfl, _, _, rfl, rfl, .inl ⟨by omega, by omega⟩, _, rfl, _, _, rfl, rfl, .inl ⟨by decide, by decide⟩, _, _, rfl, rfl, _, _, rfl, rfl, _, _, rfl, rfl, (by show (0 : Int) < 2147483629; decide), ?_⟩
    exact q _ (Int.emod_nonneg _ (by decide)) (Int.lt_trans (Int.emod_lt_of_pos _ (by decide)) (by decide))
theorem ok_number (D : DefAt K mg "_law_number" s_number ["_law_script", "_law_k"]) (D1 : Def P w K mg base "_law_cell_at" 1 ["_law_script", "_law_k"] (spCell K)) (D2 : Def P w K mg base "_law_next" 1 ["_law_x"] spMix) (D3 : Def P w K mg base "_law_other" 1 ["_law_x"] spMix) :
    Def P w K mg base "_law_number" 2 ["_law_script", "_law_k"] (spNum K) := by
  refine D.qok sc_number (fun vs H Q E h => ?_) (fun f cdv A outer s H vs Q E hr h => ?_)
  · obtain ⟨a, ns, k, rfl, _⟩ := h
    rfl
  · obtain ⟨a, ns, k, rfl, hS, hk, q⟩ := h
    refine ⟨_, qss_cons (qs_set (i := 2) sc_number.nd rfl (Or.inl rfl) (qe_own D1 hr rfl (qa_cons (qv 0) (qa_cons (qv 1) qa_nil))))
      (qss_cons (qs_if (qt_cmpR op_eq (qe_op op_mod (qv 2) qe_int) qe_int (nomark _)) (qss_one (qs_ret (qe_op op_fdiv (qv 2) qe_int))) qss_nil)
      (qss_one (qs_ret (qe_own D3 hr rfl (qa_cons (qe_own D2 hr rfl (qa_cons (qe_op op_mod (qe_op op_add (qv 2) (qe_op op_mul (qe_op op_mul qe_int (qv 1)) (qv 1))) qe_int) qa_nil)) qa_nil))))), ?_⟩
    refine ⟨_, rfl, _, rfl, a, ns, k, rfl, hS, fun v => ?_⟩
    refine ⟨_, rfl, _, _, rfl, rfl, (by show (0 : Int) < 2; decide), rfl, _, rfl, ?_⟩
    refine ite2 (fun _ => ?_) (fun _ => ?_)
    · exact ⟨_, rfl, _, _, rfl, rfl, ⟨by decide, by decide⟩, q _⟩
    · refine ⟨_, rfl, _, rfl, _, _, rfl, rfl, .inl ⟨by decide, by decide⟩, _, rfl, _, _, rfl, rfl, .inr ⟨by omega, by omega⟩, _, _, rfl, rfl, _, _, rfl, rfl, (by show (0 : Int) < 2147483647; decide), ?_⟩
      refine ⟨_, rfl, Int.emod_nonneg _ (by decide), Int.lt_trans (Int.emod_lt_of_pos _ (by decide)) (by decide), fun y h1 h2 => ?_⟩
      exact ⟨y, rfl, h1, by omega, fun z _ _ => q z⟩
theorem ok_digits (D : DefAt K mg "_law_digits" s_digits ["_law_script", "_law_k", "_law_base", "_law_many"]) (hrange : mg "range" = none) (D1 : Def P w K mg base "_law_cell_at" 1 ["_law_script", "_law_k"] (spCell K)) (D2 : Def P w K mg base "_law_next" 1 ["_law_x"] spMix)
    (D3 : Def P w K mg base "_law_other" 1 ["_law_x"] spMix) (D4 : Def P w K mg base "_law_number" 2 ["_law_script", "_law_k"] (spNum K)) : Def P w K mg base "_law_digits" 3 ["_law_script", "_law_k", "_law_base", "_law_many"] (spDig K) := by
  refine D.qok sc_digits (fun vs H Q E h => ?_) (fun f cdv A outer s H vs Q E hr h => ?_)
  · obtain ⟨a, ns, k, b, m, rfl, _⟩ := h
    rfl
  · obtain ⟨a, ns, k, b, m, rfl, hS, hk, hb0, hb1, hm, q⟩ := h
    have hr1 : Room 1 _ := hr.mono (by decide)
    have nd := sc_digits.nd
    refine ⟨_, qss_cons (qs_set (i := 4) nd rfl (Or.inl rfl) (qe_own D4 hr rfl (qa_cons (qv 0) (qa_cons (qv 1) qa_nil))))
      (qss_cons (qs_set (i := 5) nd rfl (Or.inl rfl) (qe_lst qa_nil))
      (qss_cons (qs_set (i := 6) nd rfl (Or.inl rfl) (qe_op op_mod (qv 4) qe_int))
      (qss_cons (qs_for PassesOwn.never rfl (qi_range1 rfl hrange (qa_cons (qv 3) qa_nil)) (qg_name (i := 7) nd rfl (Or.inl rfl))
        (qss_cons (qs_set (i := 6) nd rfl (Or.inl rfl) (qe_own D3 hr1 rfl (qa_cons (qe_own D2 hr1 rfl (qa_cons (qe_op op_add (qv 6) (qv 7)) qa_nil)) qa_nil)))
        (qss_cons (qs_expr (qe_bm PySem.F.plainAttrs_list PySem.F.slot_list_append PySem.F.type_list_append mt_append (qv 5)
          (qa_cons (qe_op op_mod (qe_ix ix_list (qe_lst (qa_cons (qv 4) (qa_cons (qv 6) qa_nil))) (qe_op op_mod (qe_own D1 hr1 rfl (qa_cons (qv 0) (qa_cons (qv 1) qa_nil))) qe_int) (fun _ _ => rfl)) (qv 2)) qa_nil)))
        (qss_one (qs_set (i := 4) nd rfl (Or.inl rfl) (qe_op op_fdiv (qv 4) (qv 2)))))))
      (qss_one (qs_ret (qv 5)))))), ?_⟩
    refine ⟨_, rfl, _, rfl, a, ns, k, rfl, hS, hk, fun v => ?_⟩
    refine ⟨by show 0 ≤ sizeLine; decide, fun p hp => ?_⟩
    refine ⟨_, rfl, _, _, rfl, rfl, (by show (0 : Int) < 2147483647; decide), ?_⟩
    refine ⟨_, rfl, _, rfl, by omega, by omega, for_range (n := m) (lo := 0) (fun i σ H2 => ∃ (lf x : Int) (jv : Option V) (ds : List Int), σ = [some (.ref a), some (.int k), some (.int b), some (.int m), some (.int lf), some (.ref p), some (.int x), jv] ∧ Same H H2 ∧
      H2 p = some (.lst (ds.map V.int)) ∧ ds.length = i ∧ (∀ d ∈ ds, 0 ≤ d ∧ d < b) ∧ 0 ≤ x ∧ x < 2147483647)
      ⟨v, _, none, [], rfl, Same.upd hp, upd_same, rfl, fun d hd => by simp at hd, Int.emod_nonneg _ (by decide), Int.emod_lt_of_pos _ (by decide)⟩ ?_ ?_⟩
    · rintro i σ H2 hi ⟨lf, x, jv, ds, rfl, sm, hp2, hl, hd, hx0, hx1⟩
      refine ⟨_, rfl, _, rfl, _, _, rfl, rfl, ?_⟩
      refine ⟨_, rfl, by omega, by omega, fun y h1 h2 => ?_⟩
      refine ⟨y, rfl, h1, by omega, fun z h3 h4 => ?_⟩
      refine ⟨_, rfl, .inl ⟨rfl, _, SqL.of hp2⟩, ?_⟩
      refine ⟨_, rfl, _, rfl, by show 2 ≤ sizeLine; decide, fun t ht => ?_⟩
      have s3 : ∀ o, Same H (upd H2 t o) := fun o => sm.upd' (sm.free ht)
      refine ⟨_, rfl, _, rfl, a, ns, k, rfl, (s3 _).seq hS, fun cv => ?_⟩
      obtain ⟨u, hu, hu2⟩ := two_at (.int lf) (.int z) cv
      obtain ⟨c, rfl⟩ : ∃ c, u = .int c := by rcases hu2 with e | e <;> exact ⟨_, e⟩
      refine ⟨_, _, rfl, rfl, (by show (0 : Int) < 2; decide), t, _, _, _, rfl, rfl, SqL.of upd_same, hu, _, rfl, _, _, rfl, rfl, hb0, ?_⟩
      have npt : p ≠ t := ne_of_none hp2 ht
      refine ⟨p, _, _, rfl, rfl, (by rw [upd_ne npt]; exact hp2), (by rw [List.length_map, hl]; exact small1000 (by omega)), ?_⟩
      refine ⟨_, rfl, _, rfl, _, _, rfl, rfl, ⟨hb0, by omega⟩, ?_⟩
      refine ⟨lf / b, z, _, ds ++ [c % b], rfl, (s3 _).upd' hp, ?_, by simp [hl], ?_, h3, h4⟩
      · rw [upd_same]; simp
      · intro d hd'
        rcases List.mem_append.mp hd' with e | e
        · exact hd d e
        · rw [List.mem_singleton.mp e]
          exact ⟨Int.emod_nonneg _ (by omega), Int.emod_lt_of_pos _ hb0⟩
    · rintro σ H2 ⟨lf, x, jv, ds, rfl, sm, hp2, hl, hd, hx0, hx1⟩
      exact ⟨_, rfl, q p ds H2 sm hp hp2 hl hd⟩
def AL : List Nat := (List.range 26).map (97 + ·)
theorem AL_at (d : Int) : atI AL (d % 26) = some (97 + (d % 26).toNat) := by
  have h0 : 0 ≤ d % 26 := Int.emod_nonneg _ (by decide)
  have h1 : d % 26 < 26 := Int.emod_lt_of_pos _ (by decide)
  have e : d % 26 = (((d % 26).toNat : Nat) : Int) := by omega
  rw [e]
  refine atI_nat ?_
  have hl : ((d % 26).toNat : Int).toNat < 26 := by omega
  simp only [AL, List.getElem?_map, Int.toNat_natCast]
  rw [List.getElem?_range (by omega)]
  rfl
theorem some_out : ∀ (F : List Nat) (L : List Nat), L.Nodup → F.length < L.length → ∃ x ∈ L, x ∉ F
  | [], L, _, h => by
    cases L with
    | nil => simp at h
    | cons x r => exact ⟨x, List.mem_cons_self, by simp⟩
  | c :: F, L, nd, h => by
    have hl : F.length < (L.erase c).length := by
      rw [List.length_erase]
      simp only [List.length_cons] at h
      split <;> omega
    obtain ⟨x, h1, h2⟩ := some_out F (L.erase c) (nd.erase c) hl
    obtain ⟨h3, h4⟩ := nd.mem_erase_iff.mp h1
    exact ⟨x, h4, fun z => by rcases List.mem_cons.mp z with e | e; exact h3 e; exact h2 e⟩
theorem out_soon (F : List Nat) (h : F.length < 26) (d : Int) : ∃ j : Nat, (97 + ((d + j) % 26).toNat) ∉ F := by
  obtain ⟨x, h1, h2⟩ := some_out F ((List.range 26).map (97 + ·)) (by decide) (by simpa using h)
  obtain ⟨c, hc, rfl⟩ := List.mem_map.mp h1
  have hc' : c < 26 := List.mem_range.mp hc
  refine ⟨((c - d) % 26).toNat, ?_⟩
  have e : ((d + (((c - d) % 26).toNat : Nat)) % 26).toNat = c := by omega
  rw [e]
  exact h2
theorem ints_mem {ds : List Int} {lo hi : Option Int} {v : V} (h : v ∈ cutV (ds.map V.int) lo hi) : ∃ d ∈ ds, v = .int d := by
  unfold cutV at h
  have h2 := List.mem_of_mem_drop (List.mem_of_mem_take h)
  obtain ⟨d, hd, e⟩ := List.mem_map.mp h2
  exact ⟨d, hd, e.symm⟩
theorem cut_len {ds : List Int} {a b : Nat} (h1 : a ≤ b) (h2 : b ≤ ds.length) : (cutV (ds.map V.int) (some (a : Int)) (some (b : Int))).length = b - a := by
  unfold cutV
  rw [HT.sIx_nat, HT.sIx_nat, List.length_take, List.length_drop, List.length_map]
  omega
theorem flat1 (l : List Nat) : (l.map fun c => [c]).flatten = l := by
  induction l with
  | nil => rfl
  | cons c r ih => rw [List.map_cons, List.flatten_cons, ih]; rfl
theorem AL_az : ∀ c ∈ AL, isLet c := fun c hc => by
  obtain ⟨k, hk, rfl⟩ := List.mem_map.mp hc
  have := List.mem_range.mp hk
  exact ⟨by omega, by omega⟩
theorem ok_letters (D : DefAt K mg "_law_letters" s_letters ["_law_script", "_law_k"]) (hsorted : mg "sorted" = none)
    (D1 : Def P w K mg base "_law_digits" 3 ["_law_script", "_law_k", "_law_base", "_law_many"] (spDig K)) : Def P w K mg base "_law_letters" 4 ["_law_script", "_law_k"] (spLet K) := by
  refine D.qok sc_letters (fun vs H Q E h => ?_) (fun f cdv A outer s H vs Q E hr h => ?_)
  · obtain ⟨a, ns, k, rfl, _⟩ := h
    rfl
  · obtain ⟨a, ns, k, rfl, hS, hk, q⟩ := h
    have nd := sc_letters.nd
    refine ⟨_, qss_cons (qs_set (i := 2) nd rfl (Or.inl rfl) (qe_strS AL (by decide +kernel)))
      (qss_cons (qs_set (i := 3) nd rfl (Or.inl rfl) (qe_own D1 hr rfl (qa_cons (qv 0) (qa_cons (qv 1) (qa_cons qe_int (qa_cons qe_int qa_nil))))))
      (qss_cons (qs_if (qt_cmpR op_eq (qe_op op_mod (qe_ix ix_list (qv 3) qe_int (fun _ _ => rfl)) qe_int) qe_int (nomark _)) (qss_one (qs_ret (qv 2))) qss_nil)
      (qss_cons (qs_set (i := 4) nd rfl (Or.inl rfl) (qe_strS [] (by decide +kernel)))
      (qss_cons (qs_for PassesOwn.never rfl (qi_list (qe_slice sl_list (qv 3) (qo_some qe_int) (qo_some (qe_op op_add qe_int (qe_op op_mod (qe_op op_fdiv (qe_ix ix_list (qv 3) qe_int (fun _ _ => rfl)) qe_int) qe_int))))) (qg_name (i := 5) nd rfl (Or.inl rfl))
        (qss_cons (qs_while PassesOwn.never (qt_cmpR op_inS (qe_ix ix_S (qv 2) (qe_op op_mod (qv 5) qe_int) (fun _ _ => rfl)) (qv 4) rfl) (qss_one (qs_set (i := 5) nd rfl (Or.inl rfl) (qe_op op_add (qv 5) qe_int))))
        (qss_one (qs_set (i := 4) nd rfl (Or.inl rfl) (qe_op op_addS (qv 4) (qe_ix ix_S (qv 2) (qe_op op_mod (qv 5) qe_int) (fun _ _ => rfl)))))))
      (qss_one (qs_ret (qe_bm PySem.F.plainAttrs_str PySem.F.slot_str_join PySem.F.type_str_join mt_join (qe_strS [] (by decide +kernel)) (qa_cons (qe_callB (call_sortedS rfl) (by rfl) hsorted PyProof.Rows.boot_sorted (qa_cons (qv 4) qa_nil)) qa_nil)))))))), ?_⟩
    have hAL : AL.length ≤ sizeLine := by decide
    refine ⟨_, rfl, _, rfl, a, ns, k, 208, 5, rfl, hS, hk, by decide, by decide, by decide, fun p ds H1 sm hp hp1 hl hd => ?_⟩
    have hd0 : ds[0]? = some ds[0] := by simp [hl]
    have h0 := hd ds[0] (List.getElem_mem _)
    have at0 : atI (ds.map V.int) 0 = some (.int ds[0]) := atI_nat (j := 0) (by simp [hl])
    refine ⟨_, rfl, p, _, 0, _, rfl, rfl, SqL.of hp1, at0, _, _, rfl, rfl, (by show (0 : Int) < 8; decide), rfl, _, rfl, ?_⟩
    refine ite2 (fun _ => ?_) (fun _ => ?_)
    · exact ⟨_, rfl, q AL H1 sm ⟨by decide, by decide, AL_az⟩⟩
    · refine ⟨_, rfl, _, rfl, _, rfl, p, _, 0, _, rfl, rfl, SqL.of hp1, at0, _, _, rfl, rfl, ⟨by decide, by decide⟩, _, _, rfl, rfl, (by show (0 : Int) < 3; decide), _, _, rfl, rfl, _, rfl, p, _, rfl, SqL.of hp1, fun t ht => ?_⟩
      obtain ⟨r, hr1, hr2⟩ : ∃ r : Nat, (3 : Int) + ds[0] / 8 % 3 = ((3 + r : Nat) : Int) ∧ r < 3 := ⟨(ds[0] / 8 % 3).toNat, by omega, by omega⟩
      rw [hr1]
      have hxl : (cutV (ds.map V.int) (some (1 : Nat)) (some ((3 + r : Nat) : Int))).length = 2 + r := by rw [cut_len (by omega) (by omega)]; omega
      generalize hxs : cutV (ds.map V.int) (some 1) (some ((3 + r : Nat) : Int)) = xs
      have hxl' : xs.length = 2 + r := by rw [← hxs]; exact hxl
      have hxm : ∀ v ∈ xs, ∃ d : Int, v = .int d := fun v hv => by
        rw [← hxs] at hv
        obtain ⟨d, _, e⟩ := ints_mem hv
        exact ⟨d, e⟩
      refine ⟨t, rfl, ⟨_, SqL.of upd_same⟩, for_list (K := K) (a := t) (xs := xs) (fun i σ H2 => ∃ (dv : Option V) (fs : List Nat), σ = [some (.ref a), some (.int k), some (.str (S AL)), some (.ref p), some (.str (S fs)), dv] ∧ Same H H2 ∧ H2 t = some (.lst xs) ∧ fs.length = i ∧ ∀ c ∈ fs, isLet c)
        ⟨none, [], rfl, sm.upd' (sm.free ht), upd_same, rfl, fun c hc => by simp at hc⟩ (fun i σ H2 _ ⟨_, _, _, _, h2, _⟩ => SqL.of h2) ?_ ?_⟩
      · rintro i y σ H2 hi ⟨dv, fs, rfl, sm2, h2, hfl, hfa⟩
        have hil : i < xs.length := (List.getElem?_eq_some_iff.mp hi).1
        obtain ⟨d, rfl⟩ := hxm y (List.mem_of_getElem? hi)
        -- the while
        obtain ⟨j0, hj0⟩ := out_soon fs (by omega) d
        refine ⟨fun m σ' H' => H' = H2 ∧ ∃ (e : Int), σ' = [some (.ref a), some (.int k), some (.str (S AL)), some (.ref p), some (.str (S fs)), some (.int e)] ∧ ∃ j : Nat, j ≤ m ∧ (97 + ((e + j) % 26).toNat) ∉ fs, ⟨j0, rfl, d, rfl, j0, Nat.le_refl _, hj0⟩, ?_⟩
        rintro m σ' H' ⟨rfl, e, rfl, j, hjm, hj⟩
        refine ⟨_, rfl, _, rfl, _, _, rfl, rfl, (by show (0 : Int) < 26; decide), AL, _, _, rfl, rfl, hAL, AL_at e, _, rfl, _, _, rfl, rfl, _, rfl, ?_⟩
        refine ite2 (fun hc => ?_) (fun hc => ?_)
        · have hin : (97 + (e % 26).toNat) ∈ fs := of_decide_eq_true hc
          have hj1 : j ≠ 0 := fun z => by subst z; simp at hj; exact hj hin
          refine ⟨fun σ2 H3 => H3 = H' ∧ σ2 = [some (.ref a), some (.int k), some (.str (S AL)), some (.ref p), some (.str (S fs)), some (.int (e + 1))], ?_, ?_⟩
          · rintro σ2 H3 ⟨rfl, rfl⟩
            refine ⟨m - 1, by omega, rfl, e + 1, rfl, j - 1, by omega, ?_⟩
            have : (e + 1 + ((j - 1 : Nat) : Int)) = e + (j : Int) := by omega
            rw [this]; exact hj
          · exact ⟨_, rfl, _, _, rfl, rfl, rfl, rfl⟩
        · refine ⟨_, rfl, _, rfl, _, rfl, _, _, rfl, rfl, (by show (0 : Int) < 26; decide), AL, _, _, rfl, rfl, hAL, AL_at e, fs, _, rfl, rfl, by show fs.length + 1 ≤ sizeLine; exact small1000 (by omega), ?_⟩
          refine ⟨_, _, rfl, sm2, h2, by simp [hfl], fun c hc' => ?_⟩
          rcases List.mem_append.mp hc' with z | z
          · exact hfa c z
          · rw [List.mem_singleton.mp z]
            have h1 : e % 26 < 26 := Int.emod_lt_of_pos _ (by decide)
            exact ⟨by omega, by omega⟩
      · rintro σ H2 ⟨dv, fs, rfl, sm2, h2, hfl, hfa⟩
        refine ⟨rfl, _, rfl, fs, rfl, by omega, fun u ls' hu pm => ?_⟩
        have hll : ls'.length = fs.length := pm.length_eq
        refine ⟨u, ls'.map fun c => [c], rfl, rfl, SqL.of upd_same, by rw [flat1]; omega, ?_⟩
        rw [flat1]
        exact q ls' _ (sm2.upd' (sm2.free hu)) ⟨by omega, by omega, fun c hc => hfa c (pm.mem_iff.mp hc)⟩
theorem ok_word_of (D : DefAt K mg "_law_word_of" s_word_of ["_law_row", "_law_letters_here"]) (hlen : mg "len" = none) : Def P w K mg base "_law_word_of" 1 ["_law_row", "_law_letters_here"] (spWordOf K) := by
  refine D.qok sc_word_of (fun vs H Q E h => ?_) (fun f cdv A outer s H vs Q E hr h => ?_)
  · obtain ⟨p, ds, ls, rfl, _⟩ := h
    rfl
  · obtain ⟨p, ds, ls, rfl, hS, hR, hA, q⟩ := h
    have nd := sc_word_of.nd
    refine ⟨_, qss_cons (qs_set (i := 2) nd rfl (Or.inl rfl) (qe_ix ix_list (qe_lst (qa_c (qa_c (qa_c (qa_c (qa_c (qa_c (qa_c (qa_cons (qe_op op_add qe_int (qe_op op_mod (qe_op op_fdiv (qe_ix ix_list (qv 0) qe_int (fun _ _ => rfl)) qe_int) qe_int)) qa_nil))))))))) (qe_op op_mod (qe_ix ix_list (qv 0) qe_int (fun _ _ => rfl)) qe_int) (fun _ _ => rfl)))
      (qss_one (qs_ret (qe_bm PySem.F.plainAttrs_str PySem.F.slot_str_join PySem.F.type_str_join mt_join (qe_strS [] (by decide +kernel))
        (qa_cons (qe_comp rfl (CompOk.of nd (by kernel_rfl)) (qi_list (qe_slice sl_list (qv 0) (qo_some qe_int) (qo_some (qe_op op_add qe_int (qv 2)))))
          (fun _ _ _ _ _ => qts_nil) (fun _ _ _ _ _ => qe_ix ix_S (qv 2) (qe_op op_mod (qe_op op_fdiv (qv 0) qe_int) (qe_callB call_lenS (by rfl) hlen PySem.boot_len (qa_cons (qv 2) qa_nil))) (fun _ _ => rfl))) qa_nil)))), ?_⟩
    have hl0 : 0 < ds.length := by have := hR.lo; omega
    have at0 : atI (ds.map V.int) 0 = some (.int ds[0]) := atI_nat (j := 0) (by simp [hl0])
    have h0 := hR.nn ds[0] (List.getElem_mem _)
    refine ⟨_, rfl, p, _, 0, _, rfl, rfl, hS, at0, _, _, rfl, rfl, ⟨by decide, by decide⟩, _, _, rfl, rfl, (by show (0 : Int) < 8; decide), _, _, rfl, rfl, by show 8 ≤ sizeLine; decide, fun t ht => ?_⟩
    obtain ⟨z, hz1, hz2, hz3⟩ : ∃ z : Nat, atI [V.int 2, V.int 2, V.int 3, V.int 3, V.int 3, V.int 4, V.int 5, V.int (2 + ds[0] / 8 % 8)] (ds[0] % 8) = some (.int z) ∧ 2 ≤ z ∧ z ≤ 9 := by
      have hm : ds[0] % 8 = 0 ∨ ds[0] % 8 = 1 ∨ ds[0] % 8 = 2 ∨ ds[0] % 8 = 3 ∨ ds[0] % 8 = 4 ∨ ds[0] % 8 = 5 ∨ ds[0] % 8 = 6 ∨ ds[0] % 8 = 7 := by omega
      rcases hm with e | e | e | e | e | e | e | e <;> rw [e]
      · exact ⟨2, atI_nat (j := 0) rfl, by decide, by decide⟩
      · exact ⟨2, atI_nat (j := 1) rfl, by decide, by decide⟩
      · exact ⟨3, atI_nat (j := 2) rfl, by decide, by decide⟩
      · exact ⟨3, atI_nat (j := 3) rfl, by decide, by decide⟩
      · exact ⟨3, atI_nat (j := 4) rfl, by decide, by decide⟩
      · exact ⟨4, atI_nat (j := 5) rfl, by decide, by decide⟩
      · exact ⟨5, atI_nat (j := 6) rfl, by decide, by decide⟩
      · refine ⟨(2 + ds[0] / 8 % 8).toNat, ?_, by omega, by omega⟩
        have e2 : (2 + ds[0] / 8 % 8) = (((2 + ds[0] / 8 % 8).toNat : Nat) : Int) := by omega
        rw [← e2]
        exact atI_nat (j := 7) rfl
    have hT : upd H t (.lst [V.int 2, V.int 2, V.int 3, V.int 3, V.int 3, V.int 4, V.int 5, V.int (2 + ds[0] / 8 % 8)]) t = some _ := upd_same
    have s1 : Same H (upd H t (.lst [V.int 2, V.int 2, V.int 3, V.int 3, V.int 3, V.int 4, V.int 5, V.int (2 + ds[0] / 8 % 8)])) := Same.upd ht
    generalize upd H t (.lst [V.int 2, V.int 2, V.int 3, V.int 3, V.int 3, V.int 4, V.int 5, V.int (2 + ds[0] / 8 % 8)]) = H1 at hT s1 ⊢
    refine ⟨_, rfl, p, _, 0, _, rfl, rfl, s1.seq hS, at0, _, _, rfl, rfl, (by show (0 : Int) < 8; decide), t, _, _, _, rfl, rfl, SqL.of hT, hz1, ?_⟩
    refine ⟨rfl, _, rfl, _, rfl, _, rfl, _, _, rfl, rfl, _, rfl, p, _, rfl, s1.seq hS, fun u hu => ?_⟩
    have sU : ∀ o, Same H (upd H1 u o) := fun o => s1.upd' (s1.free hu)
    have e1 : (1 : Int) + (z : Int) = ((1 + z : Nat) : Int) := by omega
    rw [e1]
    have hxl : (cutV (ds.map V.int) (some (1 : Nat)) (some ((1 + z : Nat) : Int))).length = z := by rw [cut_len (by omega) (by have := hR.lo; omega)]; omega
    generalize hxs : cutV (ds.map V.int) (some 1) (some ((1 + z : Nat) : Int)) = xs
    have hxl' : xs.length = z := by rw [← hxs]; exact hxl
    have hxm : ∀ v ∈ xs, ∃ d : Int, v = .int d ∧ 0 ≤ d := fun v hv => by
      rw [← hxs] at hv
      obtain ⟨d, hd, e⟩ := ints_mem hv
      exact ⟨d, e, (hR.nn d hd).1⟩
    have hls : ls.length ≤ sizeLine := Nat.le_of_lt (small1000 (by have := hA.hi; omega))
    refine ⟨u, rfl, ⟨_, SqL.of upd_same⟩, fun L hL => comp_list (K := K) (a := u) (xs := xs) (fun i ys H2 => ∃ cs : List Nat, ys = Ts (cs.map fun c => [c]) ∧ cs.length = i ∧ (∀ c ∈ cs, c ∈ ls) ∧ H2 L = some (.lst ys) ∧ H2 u = some (.lst xs) ∧ Same H H2)
      ⟨[], rfl, rfl, fun c hc => by simp at hc, upd_same, by rw [upd_ne (ne_of_none upd_same hL)]; exact upd_same, (sU _).upd' ((sU _).free hL)⟩ (fun i ys H2 _ ⟨_, _, _, _, _, h2, _⟩ => SqL.of h2) ?_ ?_⟩
    · rintro i y ys H2 hi ⟨cs, rfl, hcl, hcm, hL2, hu2, sm2⟩
      have hil : i < xs.length := (List.getElem?_eq_some_iff.mp hi).1
      obtain ⟨d, rfl, hd0⟩ := hxm y (List.mem_of_getElem? hi)
      have hlp : (0 : Int) < (ls.length : Int) := by have := hA.lo; omega
      obtain ⟨j, hj1, hj2⟩ : ∃ j : Nat, d / 20 % (ls.length : Int) = (j : Int) ∧ j < ls.length := by
        have h1 : 0 ≤ d / 20 % (ls.length : Int) := Int.emod_nonneg _ (by omega)
        have h2 : d / 20 % (ls.length : Int) < ls.length := Int.emod_lt_of_pos _ hlp
        exact ⟨(d / 20 % (ls.length : Int)).toNat, by omega, by omega⟩
      refine ⟨_, rfl, _, rfl, _, _, rfl, rfl, ⟨by decide, by decide⟩, _, rfl, ls, rfl, hls, _, _, rfl, rfl, hlp, ls, _, ls[j], rfl, rfl, hls, by rw [hj1]; exact atI_nat (by simp [hj2]), hL2, ?_, ?_⟩
      · show (Ts (cs.map fun c => [c])).length < sizeLine
        rw [List.length_map, List.length_map]
        exact small1000 (by omega)
      · refine Nxt.mk hil ⟨cs ++ [ls[j]], by simp [Ts], by simp [hcl], fun c hc => ?_, upd_same, ?_, fun b o e => ?_⟩
        · rcases List.mem_append.mp hc with e | e
          · exact hcm c e
          · rw [List.mem_singleton.mp e]; exact List.getElem_mem _
        · rw [upd_ne (ne_of_none upd_same hL)]; exact hu2
        · rw [upd_ne (ne_of_none ((sU _) b o e) hL)]; exact sm2 b o e
    · rintro ys H2 ⟨cs, rfl, hcl, hcm, hL2, hu2, sm2⟩
      refine ⟨L, cs.map fun c => [c], rfl, rfl, SqL.of hL2, by rw [flat1]; omega, ?_⟩
      rw [flat1]
      exact q cs H2 sm2 ⟨by omega, by omega, fun c hc => hA.az c (hcm c hc)⟩
theorem ok_word (D : DefAt K mg "_law_word" s_word ["_law_letters_here", "_law_script", "_law_k"]) (D1 : Def P w K mg base "_law_digits" 3 ["_law_script", "_law_k", "_law_base", "_law_many"] (spDig K))
    (D2 : Def P w K mg base "_law_word_of" 1 ["_law_row", "_law_letters_here"] (spWordOf K)) : Def P w K mg base "_law_word" 4 ["_law_letters_here", "_law_script", "_law_k"] (spWord K) := by
  refine D.qok sc_word (fun vs H Q E h => ?_) (fun f cdv A outer s H vs Q E hr h => ?_)
  · obtain ⟨a, ns, k, ls, rfl, _⟩ := h
    rfl
  · obtain ⟨a, ns, k, ls, rfl, hS, hk, hA, q⟩ := h
    have hr1 : Room 1 _ := hr.mono (by decide)
    refine ⟨_, qss_one (qs_ret (qe_own D2 hr1 rfl (qa_cons (qe_own D1 hr rfl (qa_cons (qv 1) (qa_cons (qv 2) (qa_cons qe_int (qa_cons qe_int qa_nil))))) (qa_cons (qv 0) qa_nil)))), ?_⟩
    refine ⟨_, rfl, _, rfl, a, ns, k, 520, 10, rfl, hS, hk, by decide, by decide, by decide, fun p ds H1 sm hp hp1 hl hd => ?_⟩
    refine ⟨_, rfl, p, ds, ls, rfl, SqL.of hp1, ⟨by omega, by omega, fun d h => by have := hd d h; omega⟩, hA, fun w H2 sm2 hw => ?_⟩
    exact q w H2 (sm.trans sm2) hw

end
end My
end

section
set_option Elab.async false
set_option linter.all false
set_option maxRecDepth 100000
set_option maxHeartbeats 2000000
namespace My
open PySem L2
section
variable {P : Program} {w : World} {K : PySem.W.Frag} {mg : Str → Option Value} {base : Heap}
def spMixed : Sp := fun vs H Q _ => ∃ (c : Int) (k m : Nat), vs = [.int c, .int k, .int m] ∧ k ≤ 1000 ∧ m ≤ 100 ∧
  ∀ (p : Addr) (ds : List Int) (H' : Hp), Same H H' → H p = none → H' p = some (.lst (ds.map V.int)) → ds.length = m → (∀ d ∈ ds, 0 ≤ d ∧ d < 520) → Q (.ref p) H'
theorem ok_mixed (D : DefAt K mg "_law_mixed" s_mixed ["_law_cell", "_law_k", "_law_many"]) (hrange : mg "range" = none) (D2 : Def P w K mg base "_law_next" 1 ["_law_x"] spMix) (D3 : Def P w K mg base "_law_other" 1 ["_law_x"] spMix) :
    Def P w K mg base "_law_mixed" 2 ["_law_cell", "_law_k", "_law_many"] spMixed := by
  refine D.qok sc_mixed (fun vs H Q E h => ?_) (fun f cdv A outer s H vs Q E hr h => ?_)
  · obtain ⟨c, k, m, rfl, _⟩ := h
    rfl
  · obtain ⟨c, k, m, rfl, hk, hm, q⟩ := h
    have nd := sc_mixed.nd
    refine ⟨_, qss_cons (qs_set (i := 3) nd rfl (Or.inl rfl) (qe_own D3 hr rfl (qa_cons (qe_own D2 hr rfl (qa_cons (qe_op op_mod (qe_op op_add (qe_op op_add (qe_op op_mod (qv 0) qe_int) (qe_op op_mul (qe_op op_mul qe_int (qv 1)) (qv 1))) qe_int) qe_int) qa_nil)) qa_nil)))
      (qss_cons (qs_set (i := 4) nd rfl (Or.inl rfl) (qe_lst qa_nil))
      (qss_cons (qs_for PassesOwn.never rfl (qi_range1 rfl hrange (qa_cons (qv 2) qa_nil)) (qg_name (i := 5) nd rfl (Or.inl rfl))
        (qss_cons (qs_set (i := 3) nd rfl (Or.inl rfl) (qe_own D3 hr rfl (qa_cons (qe_own D2 hr rfl (qa_cons (qe_op op_add (qv 3) (qv 5)) qa_nil)) qa_nil)))
        (qss_one (qs_expr (qe_bm PySem.F.plainAttrs_list PySem.F.slot_list_append PySem.F.type_list_append mt_append (qv 4) (qa_cons (qe_op op_mod (qv 3) qe_int) qa_nil))))))
      (qss_one (qs_ret (qv 4))))), ?_⟩
    refine ⟨_, rfl, _, _, rfl, rfl, (by show (0 : Int) < 2147483647; decide), _, rfl, _, _, rfl, rfl, .inl ⟨by decide, by decide⟩, _, rfl, _, _, rfl, rfl, .inr ⟨by omega, by omega⟩, _, _, rfl, rfl, _, _, rfl, rfl, _, _, rfl, rfl, (by show (0 : Int) < 2147483647; decide), ?_⟩
    refine ⟨_, rfl, Int.emod_nonneg _ (by decide), Int.lt_trans (Int.emod_lt_of_pos _ (by decide)) (by decide), fun y h1 h2 => ?_⟩
    refine ⟨y, rfl, h1, by omega, fun z h3 h4 => ?_⟩
    refine ⟨by show 0 ≤ sizeLine; decide, fun p hp => ?_⟩
    refine ⟨_, rfl, _, rfl, by omega, by omega, for_range (n := m) (lo := 0) (fun i σ H2 => ∃ (x : Int) (jv : Option V) (ds : List Int), σ = [some (.int c), some (.int k), some (.int m), some (.int x), some (.ref p), jv] ∧ Same H H2 ∧
      H2 p = some (.lst (ds.map V.int)) ∧ ds.length = i ∧ (∀ d ∈ ds, 0 ≤ d ∧ d < 520) ∧ 0 ≤ x ∧ x < 2147483647)
      ⟨z, none, [], rfl, Same.upd hp, upd_same, rfl, fun d hd => by simp at hd, h3, h4⟩ ?_ ?_⟩
    · rintro i σ H2 hi ⟨x, jv, ds, rfl, sm, hp2, hl, hd, hx0, hx1⟩
      refine ⟨_, rfl, _, rfl, _, _, rfl, rfl, ?_⟩
      refine ⟨_, rfl, by omega, by omega, fun y h1 h2 => ?_⟩
      refine ⟨y, rfl, h1, by omega, fun z h3 h4 => ?_⟩
      refine ⟨_, rfl, .inl ⟨rfl, _, SqL.of hp2⟩, ?_⟩
      refine ⟨_, rfl, _, _, rfl, rfl, (by show (0 : Int) < 520; decide), p, _, _, rfl, rfl, hp2, (by rw [List.length_map, hl]; exact small1000 (by omega)), ?_⟩
      refine ⟨z, _, ds ++ [z % 520], rfl, sm.upd' hp, ?_, by simp [hl], ?_, h3, h4⟩
      · rw [upd_same]; simp
      · intro d hd'
        rcases List.mem_append.mp hd' with e | e
        · exact hd d e
        · rw [List.mem_singleton.mp e]
          exact ⟨Int.emod_nonneg _ (by decide), Int.emod_lt_of_pos _ (by decide)⟩
    · rintro σ H2 ⟨x, jv, ds, rfl, sm, hp2, hl, hd, hx0, hx1⟩
      exact ⟨_, rfl, q p ds H2 sm hp hp2 hl hd⟩
def RowAt (H : Hp) (a : Addr) : Prop := ∃ ds : List Int, H a = some (.lst (ds.map V.int)) ∧ ds.length = 11 ∧ ∀ d ∈ ds, 0 ≤ d ∧ d < 520
def spRows (K : PySem.W.Frag) : Sp := fun vs H Q _ => ∃ (a : Addr) (ns : List Int) (b m : Nat), vs = [.ref a, .int b, .int m] ∧ SqL K H a (ns.map V.int) ∧ ns.length ≤ 100 ∧ b ≤ 100 ∧ m ≤ 60 ∧
  ∀ (p : Addr) (rs : List Addr) (H' : Hp), Same H H' → H p = none → H' p = some (.lst (rs.map V.ref)) → rs.length ≤ m → (∀ r ∈ rs, RowAt H' r) → Q (.ref p) H'
theorem ok_rows_of (D : DefAt K mg "_law_rows_of" s_rows_of ["_law_script", "_law_start", "_law_most"]) (hlen : mg "len" = none) (hrange : mg "range" = none) (hmin : mg "min" = none)
    (D1 : Def P w K mg base "_law_cell_at" 1 ["_law_script", "_law_k"] (spCell K)) (D2 : Def P w K mg base "_law_mixed" 2 ["_law_cell", "_law_k", "_law_many"] spMixed)
    (D3 : Def P w K mg base "_law_digits" 3 ["_law_script", "_law_k", "_law_base", "_law_many"] (spDig K)) : Def P w K mg base "_law_rows_of" 4 ["_law_script", "_law_start", "_law_most"] (spRows K) := by
  refine D.qok sc_rows_of (fun vs H Q E h => ?_) (fun f cdv A outer s H vs Q E hr h => ?_)
  · obtain ⟨a, ns, b, m, rfl, _⟩ := h
    rfl
  · obtain ⟨a, ns, b, m, rfl, hS, hn, hb, hm, q⟩ := h
    have nd := sc_rows_of.nd
    have hr1 : Room 1 _ := hr.mono (by decide)
    have hr2 : Room 2 _ := hr.mono (by decide)
    refine ⟨_, qss_cons (qs_set (i := 3) nd rfl (by first | exact Or.inl rfl | exact Or.inr rfl) (qe_own D1 hr1 rfl (qa_cons (qv 0) (qa_cons qe_int qa_nil))))
      (qss_cons (qs_if (qt_cmpR op_eq (qe_op op_mod (qe_op op_fdiv (qv 3) qe_int) qe_int) qe_int (nomark _))
        (qss_one (qs_ret (qe_comp rfl (CompOk.of nd (by kernel_rfl)) (qi_range1 (by rfl) hrange (qa_cons (qe_op op_mod (qe_op op_fdiv (qv 3) qe_int) (qe_op op_add (qv 2) qe_int)) qa_nil)) (fun _ _ _ _ _ => qts_nil)
          (fun _ _ _ _ _ => qe_own D2 hr2 (by rfl) (qa_cons (qv 4) (qa_cons (qv 0) (qa_cons qe_int qa_nil))))))) qss_nil)
      (qss_one (qs_ret (qe_comp rfl (CompOk.of nd (by kernel_rfl)) (qi_range2 (by rfl) hrange (qa_cons (qv 1) (qa_cons (qe_callB (call_min2 rfl) (by rfl) hmin (by decide +kernel) (qa_cons (qe_callB call_len_seq (by rfl) hlen PySem.boot_len (qa_cons (qv 0) qa_nil)) (qa_cons (qe_op op_add (qv 1) (qv 2)) qa_nil))) qa_nil))) (fun _ _ _ _ _ => qts_nil)
          (fun _ _ _ _ _ => qe_own D3 hr (by rfl) (qa_cons (qv 1) (qa_cons (qv 0) (qa_cons qe_int (qa_cons qe_int qa_nil))))))))), ?_⟩
    refine ⟨_, rfl, a, ns, 1, rfl, hS, fun c => ?_⟩
    refine ⟨_, rfl, _, _, rfl, rfl, ⟨by decide, by decide⟩, _, _, rfl, rfl, (by show (0 : Int) < 8; decide), rfl, _, rfl, ?_⟩
    refine ite2 (fun _ => ?_) (fun _ => ?_)
    · have hm0 : (0 : Int) < (m : Int) + 1 := by omega
      have e1 : 0 ≤ c / 8000 % ((m : Int) + 1) := Int.emod_nonneg _ (by omega)
      have e2 : c / 8000 % ((m : Int) + 1) < (m : Int) + 1 := Int.emod_lt_of_pos _ hm0
      refine ⟨_, rfl, _, _, rfl, rfl, ⟨by decide, by decide⟩, _, rfl, _, _, rfl, rfl, _, _, rfl, rfl, hm0, _, rfl, by omega, by omega, fun L hL => ?_⟩
      generalize c / 8000 % ((m : Int) + 1) = z at e1 e2
      refine comp_range (fun i ys H2 => ∃ rs : List Addr, ys = rs.map V.ref ∧ rs.length = i ∧ H2 L = some (.lst ys) ∧ Same H H2 ∧ (∀ r ∈ rs, RowAt H2 r) ∧ ∀ r ∈ rs, r ≠ L) ⟨[], rfl, rfl, upd_same, Same.upd hL, fun r hr => by simp at hr, fun r hr => by simp at hr⟩ ?_ ?_
      · rintro i ys H2 hi ⟨rs, rfl, hrl, hL2, sm, hrs, hrn⟩
        refine ⟨_, rfl, _, rfl, c, i, 11, ?_, by omega, by decide, fun p ds H3 s3 hp hp3 hdl hdb => ⟨s3 _ _ hL2, ?_, Nxt.mk hi ?_⟩⟩
        · show [V.int c, V.int (0 + (i : Int)), V.int 11] = _
          rw [show (0 + (i : Int)) = ((i : Nat) : Int) by omega]; rfl
        · rw [List.length_map]; exact small1000 (by omega)
        · have npL : p ≠ L := (ne_of_none hL2 hp).symm
          have s4 : ∀ b o, H2 b = some o → b ≠ L → upd H3 L (.lst (rs.map V.ref ++ [.ref p])) b = some o := fun b o e hb => by rw [upd_ne hb]; exact s3 b o e
          refine ⟨rs ++ [p], by simp, by simp [hrl], upd_same, (sm.trans s3).upd' hL, fun r hr => ?_, fun r hr => ?_⟩
          · rcases List.mem_append.mp hr with e | e
            · obtain ⟨ds', x, r1⟩ := hrs r e
              exact ⟨ds', s4 _ _ x (hrn r e), r1⟩
            · rw [List.mem_singleton.mp e]
              exact ⟨ds, by rw [upd_ne npL]; exact hp3, hdl, hdb⟩
          · rcases List.mem_append.mp hr with e | e
            · exact hrn r e
            · rw [List.mem_singleton.mp e]; exact npL
      · rintro ys H2 ⟨rs, rfl, hrl, hL2, sm, hrs, hrn⟩
        exact q L rs H2 sm hL hL2 (by omega) hrs
    · refine ⟨_, rfl, _, rfl, a, _, rfl, .inl hS, _, rfl, _, rfl, _, _, rfl, rfl, _, _, rfl, ?_⟩
      have hj : ∃ j : Nat, (if (b : Int) + (m : Int) < ((ns.map V.int).length : Int) then (b : Int) + (m : Int) else ((ns.map V.int).length : Int)) = (j : Int) ∧ j ≤ b + m := by
        rw [List.length_map]
        split
        · exact ⟨b + m, by omega, by omega⟩
        · exact ⟨ns.length, rfl, by omega⟩
      obtain ⟨j, hj1, hj2⟩ := hj
      rw [hj1]
      refine ⟨_, _, rfl, ⟨by omega, by omega, by omega, by omega⟩, fun L hL => ?_⟩
      refine comp_range (fun i ys H2 => ∃ rs : List Addr, ys = rs.map V.ref ∧ rs.length = i ∧ H2 L = some (.lst ys) ∧ Same H H2 ∧ (∀ r ∈ rs, RowAt H2 r) ∧ ∀ r ∈ rs, r ≠ L) ⟨[], rfl, rfl, upd_same, Same.upd hL, fun r hr => by simp at hr, fun r hr => by simp at hr⟩ ?_ ?_
      · rintro i ys H2 hi ⟨rs, rfl, hrl, hL2, sm, hrs, hrn⟩
        refine ⟨_, rfl, _, rfl, a, ns, b + i, 520, 11, ?_, sm.seq hS, by omega, by decide, by decide, by decide, fun p ds H3 s3 hp hp3 hdl hdb => ⟨s3 _ _ hL2, ?_, Nxt.mk hi ?_⟩⟩
        · show [V.ref a, V.int ((b : Int) + (i : Int)), V.int 520, V.int 11] = _
          rw [show ((b : Int) + (i : Int)) = ((b + i : Nat) : Int) by omega]; rfl
        · rw [List.length_map]; exact small1000 (by omega)
        · have npL : p ≠ L := (ne_of_none hL2 hp).symm
          have s4 : ∀ b o, H2 b = some o → b ≠ L → upd H3 L (.lst (rs.map V.ref ++ [.ref p])) b = some o := fun b o e hb => by rw [upd_ne hb]; exact s3 b o e
          refine ⟨rs ++ [p], by simp, by simp [hrl], upd_same, (sm.trans s3).upd' hL, fun r hr => ?_, fun r hr => ?_⟩
          · rcases List.mem_append.mp hr with e | e
            · obtain ⟨ds', x, r1⟩ := hrs r e
              exact ⟨ds', s4 _ _ x (hrn r e), r1⟩
            · rw [List.mem_singleton.mp e]
              exact ⟨ds, by rw [upd_ne npL]; exact hp3, hdl, hdb⟩
          · rcases List.mem_append.mp hr with e | e
            · exact hrn r e
            · rw [List.mem_singleton.mp e]; exact npL
      · rintro ys H2 ⟨rs, rfl, hrl, hL2, sm, hrs, hrn⟩
        exact q L rs H2 sm hL hL2 (by omega) hrs

end
end My
end

section
set_option Elab.async false
set_option linter.all false
set_option maxRecDepth 100000
set_option maxHeartbeats 2000000
namespace My
open PySem L2
section
variable {P : Program} {w : World} {K : PySem.W.Frag} {mg : Str → Option Value} {base : Heap}
structure BookCls (K : PySem.W.Frag) (C : Addr) : Prop where
  cl : Cls K C
  nh : NoAttr K C "held"
def wKv (ws : List (List Nat)) : List (Key × V) := ws.map fun l => (keyS l, V.bl true)
theorem wKv_keys (ws : List (List Nat)) : (wKv ws).map (·.1) = ws.map keyS := by unfold wKv; rw [List.map_map]; rfl
theorem keyS_inj {a b : List Nat} (h : keyS a = keyS b) : a = b := S_inj (Sum.inr.inj h)
theorem val_in (ws : List (List Nat)) (l : List Nat) : valV (wKv ws) (keyS l) = if l ∈ ws then some (.bl true) else none := by
  induction ws with
  | nil => simp [wKv, valV]
  | cons a r ih =>
    by_cases e : a = l
    · subst e
      have : valV (wKv (a :: r)) (keyS a) = some (.bl true) := valV_pos (p := (keyS a, V.bl true)) rfl
      rw [this]; simp
    · have : valV (wKv (a :: r)) (keyS l) = valV (wKv r) (keyS l) := valV_neg (p := (keyS a, V.bl true)) fun z => e (keyS_inj z)
      rw [this, ih]
      have e' : ¬ l = a := fun z => e z.symm
      simp [e']
theorem put_old {ws : List (List Nat)} {l : List Nat} (h : l ∈ ws) : putK (wKv ws) (keyS l) (.bl true) = wKv ws := by
  have hany : ((wKv ws).any fun kv => decide (kv.1 = keyS l)) = true := by rw [valV_any, val_in, if_pos h]; rfl
  unfold putK
  rw [if_pos hany]
  refine (List.map_congr_left fun kv hkv => ?_).trans (List.map_id _)
  obtain ⟨a, _, rfl⟩ := List.mem_map.mp hkv
  by_cases e : keyS a = keyS l
  · simp [e]
  · simp [e]
theorem put_new {ws : List (List Nat)} {l : List Nat} (h : l ∉ ws) : putK (wKv ws) (keyS l) (.bl true) = wKv (ws ++ [l]) := by
  rw [putK_new _ (by rw [val_in, if_neg h])]
  simp [wKv]
structure BookAt (C : Addr) (H : Hp) (p d : Addr) (ws : List (List Nat)) : Prop where
  ob : ∃ dx, H p = some (.ins C dx [("held", .ref d)])
  dc : H d = some (.dK (wKv ws))
  nd : ws.Nodup
  az : ∀ l ∈ ws, Word l
def insW (ws : List (List Nat)) (l : List Nat) : List (List Nat) := if l ∈ ws then ws else ws ++ [l]
theorem insW_put (ws : List (List Nat)) (l : List Nat) : putK (wKv ws) (keyS l) (.bl true) = wKv (insW ws l) := by
  unfold insW
  split
  · rename_i h; exact put_old h
  · rename_i h; exact put_new h
theorem insW_nd {ws : List (List Nat)} {l : List Nat} (h : ws.Nodup) : (insW ws l).Nodup := by
  unfold insW
  split
  · exact h
  · rename_i hl; exact nd_snoc h hl
theorem insW_mem {ws : List (List Nat)} {l x : List Nat} : x ∈ insW ws l ↔ x ∈ ws ∨ x = l := by
  unfold insW
  split
  · rename_i h; exact ⟨.inl, fun z => z.elim id fun e => e ▸ h⟩
  · simp
theorem insW_len (ws : List (List Nat)) (l : List Nat) : (insW ws l).length ≤ ws.length + 1 := by
  unfold insW
  split
  · omega
  · simp
def spHas (C : Addr) : Sp := fun vs H Q _ => ∃ (p d : Addr) (ws : List (List Nat)) (l : List Nat), vs = [.ref p, .str (S l)] ∧ BookAt C H p d ws ∧ Q (.bl (decide (l ∈ ws))) H
theorem ok_has {f C : Addr} {fd : FuncData} (F : Fun K "has" "Book.has" s_Book_has f fd) (T : BookCls K C) : FnOk P w K mg base CX0 1 f fd ["self", "text"] (spHas C) := by
  refine F.qok sc_Book_has (fun vs H Q E h => ?_) (fun cdv A outer s H vs Q E hr h => ?_)
  · obtain ⟨p, d, ws, l, rfl, _⟩ := h
    rfl
  · obtain ⟨p, d, ws, l, rfl, B, q⟩ := h
    have hu := hu_of hr
    obtain ⟨⟨dx, hp⟩, hd, _, _⟩ := id B
    refine ⟨_, qss_one (qs_ret (qe_cmp (qc_din hu (qv 1) (qe_fld (qv 0) rfl)))), ?_⟩
    refine ⟨_, rfl, _, rfl, p, C, dx, _, _, rfl, hp, T.cl, T.nh, rfl, d, _, rfl, DGet.k (k := keyS l) hd, ?_⟩
    rw [val_in]
    by_cases h : l ∈ ws
    · rw [if_pos h]; simpa [h] using q
    · rw [if_neg h]; simpa [h] using q
def Rise (ws : List (List Nat)) : Prop := ws.Pairwise (fun a b => decide (b < a) = false)
def spWords (C : Addr) : Sp := fun vs H Q _ => ∃ (p d : Addr) (ws : List (List Nat)), vs = [.ref p] ∧ BookAt C H p d ws ∧ ws.length < 64 ∧
  ∀ (t : Addr) (us : List (List Nat)) (H' : Hp), Same H H' → H t = none → H' t = some (.tup (Ts us)) → us.Perm ws → Rise us → Q (.ref t) H'
theorem ok_words {f C : Addr} {fd : FuncData} (F : Fun K "words" "Book.words" s_Book_words f fd) (T : BookCls K C) (hsorted : mg "sorted" = none) (htup : mg "tuple" = none) : FnOk P w K mg base CX0 1 f fd ["self"] (spWords C) := by
  refine F.qok sc_Book_words (fun vs H Q E h => ?_) (fun cdv A outer s H vs Q E hr h => ?_)
  · obtain ⟨p, d, ws, rfl, _⟩ := h
    rfl
  · obtain ⟨p, d, ws, rfl, B, h64, q⟩ := h
    obtain ⟨⟨dx, hp⟩, hd, _, _⟩ := id B
    refine ⟨_, qss_one (qs_ret (qe_callTy call_tuple_of (by rfl) htup PyProof.Rows.boot_tuple (qa_cons (qe_callB (call_sortedD rfl) (by rfl) hsorted PyProof.Rows.boot_sorted (qa_cons (qe_fld (qv 0) rfl) qa_nil)) qa_nil))), ?_⟩
    refine ⟨_, rfl, p, C, dx, _, _, rfl, hp, T.cl, T.nh, rfl, d, _, ws, rfl, hd, wKv_keys ws, h64, fun t us ht pm rs => ?_⟩
    refine ⟨t, _, rfl, .inl ⟨SqL.of upd_same, fun v hv => ?_⟩⟩
    have s1 : Same H (upd H t (.lst (Ts us))) := Same.upd ht
    exact q v us _ (s1.upd' (s1.free hv)) (s1.free hv) upd_same pm rs
theorem inV_ts (x : List Nat) (ws : List (List Nat)) : inV (.str (S x)) (Ts ws) = decide (x ∈ ws) := by
  unfold inV
  induction ws with
  | nil => simp [Ts]
  | cons y ws ih =>
    have e : eqV (.str (S y)) (.str (S x)) = decide (y = x) := by
      show decide (S y = S x) = _
      by_cases h : y = x
      · rw [h]; simp
      · have h2 : S y ≠ S x := fun e => h (S_inj e)
        simp [h, h2]
    show (eqV (.str (S y)) (.str (S x)) || (Ts ws).any _) = _
    rw [e, ih]
    by_cases h : y = x
    · simp [h]
    · have h2 : ¬ x = y := fun e => h e.symm
      simp [h, h2]
theorem flat_ts (ws : List (List Nat)) : (Ts ws).all flatV = true := by
  rw [List.all_eq_true]
  intro v hv
  obtain ⟨l, _, e⟩ := List.mem_map.mp hv
  subst e
  rfl
theorem cutN_le (l : List Nat) (lo hi : Option Int) : (cutN l lo hi).length ≤ l.length := by unfold cutN; rw [List.length_take, List.length_drop]; omega
end
end My
end

section
set_option Elab.async false
set_option linter.all false
set_option maxRecDepth 100000
set_option maxHeartbeats 2000000
namespace My
open PySem L2
section
variable {P : Program} {w : World} {K : PySem.W.Frag} {mg : Str → Option Value} {base : Heap}
def azN (c : Nat) : Bool := decide (97 ≤ c ∧ c ≤ 122)
def wordB (l : List Nat) : Bool := decide (2 ≤ l.length ∧ l.length ≤ 9) && l.all azN
theorem wordB_iff {l : List Nat} : wordB l = true ↔ Word l := by
  unfold wordB
  rw [Bool.and_eq_true, decide_eq_true_eq, List.all_eq_true]
  constructor
  · rintro ⟨⟨h1, h2⟩, h3⟩
    exact ⟨h1, h2, fun c hc => by have := h3 c hc; unfold azN at this; rw [decide_eq_true_eq] at this; exact this⟩
  · intro h
    exact ⟨⟨h.lo, h.hi⟩, fun c hc => decide_eq_true (h.az c hc)⟩
def spIsWordG : Sp := fun vs H Q _ => ∃ l : List Nat, vs = [.str (S l)] ∧ l.length ≤ 100 ∧ ∀ H', Same H H' → Q (.bl (wordB l)) H'
theorem az1 (c : Nat) : ((!decide ([c] < [97])) && (!decide ([122] < [c]))) = azN c := by
  have hlt : ∀ a b : Nat, ([a] < [b]) ↔ a < b := fun a b => by simp [List.cons_lt_cons_iff]
  unfold azN
  by_cases h1 : 97 ≤ c <;> by_cases h2 : c ≤ 122
  · rw [decide_eq_false (by rw [hlt]; omega), decide_eq_false (by rw [hlt]; omega), decide_eq_true ⟨h1, h2⟩]; rfl
  · rw [decide_eq_false (by rw [hlt]; omega), decide_eq_true (by rw [hlt]; omega), decide_eq_false fun z => h2 z.2]; rfl
  · rw [decide_eq_true (show [c] < [97] by rw [hlt]; omega), show decide (97 ≤ c ∧ c ≤ 122) = false from decide_eq_false fun z => h1 z.1]; rfl
  · rw [decide_eq_true (show [c] < [97] by rw [hlt]; omega), show decide (97 ≤ c ∧ c ≤ 122) = false from decide_eq_false fun z => h1 z.1]; rfl
theorem ok_is_wordG (D : DefAt K mg "is_word" s_is_word ["text"]) (n_len : mg "len" = none) (n_all : mg "all" = none) : Def P w K mg base "is_word" 1 ["text"] spIsWordG := by
  refine D.qok sc_is_word (fun vs H Q E h => ?_) (fun f cdv A outer s H vs Q E hr h => ?_)
  · obtain ⟨l, rfl, _⟩ := h
    rfl
  · obtain ⟨l, rfl, hl, q⟩ := h
    have hz : l.length ≤ sizeLine := Nat.le_of_lt (small1000 (by omega))
    refine ⟨_, qss_one (qs_ret (qe_and (qe_chain op_le op_le qe_int (qe_callB call_lenS (by rfl) n_len PySem.boot_len (qa_cons (qv 0) qa_nil)) qe_int)
      (qe_one (qe_callB (call_all rfl) (by rfl) n_all (by decide +kernel) (qa_cons (qe_comp rfl (CompOk.of sc_is_word.nd (by kernel_rfl)) (qi_str (qv 0)) (fun _ _ _ _ _ => qts_nil)
        (fun _ _ _ _ _ => qe_chain op_leS op_leS (qe_strS [97] (by decide +kernel)) (qv 0) (qe_strS [122] (by decide +kernel)))) qa_nil))))), ?_⟩
    have no : ¬ (2 ≤ l.length ∧ l.length ≤ 9) → Q (.bl false) H := fun z => by
      have := q H (Same.refl _)
      unfold wordB at this
      rw [decide_eq_false z, Bool.false_and] at this
      exact this
    refine ⟨_, rfl, l, rfl, hz, _, _, rfl, rfl, _, rfl, ?_⟩
    by_cases h1 : (2 : Int) ≤ (l.length : Int)
    · rw [decide_eq_true h1]
      refine iteT ⟨_, _, rfl, rfl, _, rfl, ?_⟩
      by_cases h2 : (l.length : Int) ≤ 9
      · rw [decide_eq_true h2]
        refine iteT ?_
        refine ⟨_, rfl, l, rfl, fun L hL => comp_str (fun i ys H2 => ys = ((l.take i).map azN).map V.bl ∧ H2 L = some (.lst ys) ∧ Same H H2) ⟨rfl, upd_same, Same.upd hL⟩ ?_ ?_⟩
        · rintro i c ys H2 hi ⟨rfl, hL2, sm⟩
          have hil : i < l.length := (List.getElem?_eq_some_iff.mp hi).1
          have fin : ∀ b : Bool, b = azN c → ((l.take i).map azN).map V.bl ++ [V.bl b] = ((l.take (i + 1)).map azN).map V.bl := fun b hb => by rw [hb, List.take_add_one, hi]; simp
          have sz : (((l.take i).map azN).map V.bl).length < sizeLine := by rw [List.length_map, List.length_map, List.length_take]; exact small1000 (by omega)
          have a1 := az1 c
          refine ⟨_, rfl, [97], [c], rfl, rfl, _, rfl, ?_⟩
          by_cases h3 : [c] < [97]
          · rw [decide_eq_true h3] at a1 ⊢
            exact iteF ⟨hL2, sz, Nxt.mk hil ⟨fin _ a1, upd_same, sm.upd' hL⟩⟩
          · rw [decide_eq_false h3] at a1 ⊢
            exact iteT ⟨[c], [122], rfl, rfl, hL2, sz, Nxt.mk hil ⟨fin _ a1, upd_same, sm.upd' hL⟩⟩
        · rintro ys H2 ⟨rfl, hL2, sm⟩
          refine ⟨L, l.map azN, rfl, SqL.of (by rw [List.take_length] at hL2; exact hL2), ?_⟩
          have := q H2 sm
          unfold wordB at this
          rw [decide_eq_true (show 2 ≤ l.length ∧ l.length ≤ 9 by omega), Bool.true_and] at this
          rw [show (l.map azN).all id = l.all azN by rw [List.all_map]; rfl]
          exact this
      · rw [decide_eq_false h2]
        exact iteF (no (by omega))
    · rw [decide_eq_false h1]
      exact iteF ⟨_, rfl, iteF (no (by omega))⟩
def spCheckX (CN : Addr) : Sp := fun vs H Q E => ∃ l : List Nat, vs = [.str (S l)] ∧ l.length ≤ 100 ∧ (wordB l = true → ∀ H', Same H H' → Q .non H') ∧ (wordB l = false → ∀ H', Same H H' → E (.ref CN) none H')
theorem ok_check_wordX {CN : Addr} (D : DefAt K mg "check_word" s_check_word ["text"]) (mg_NoText : mg "NoText" = some (.ref CN)) (X_NoText : PySem.W.excIn K CN vErr "ValueError.__new__" = true) (D_is_word : Def P w K mg base "is_word" 1 ["text"] spIsWordG) : DefX P w K mg base "check_word" 2 ["text"] (spCheckX CN) := by
  refine D.qokX sc_check_word (fun vs H Q E h => ?_) (fun f cdv A outer s H vs Q E hr h => ?_)
  · obtain ⟨l, rfl, _⟩ := h
    rfl
  · obtain ⟨l, rfl, hl, q1, q2⟩ := h
    refine ⟨_, (qss_one (qs_if (qt_not (qt_val (qe_own D_is_word (hr.mono (by decide)) rfl (qa_cons (qv 0) qa_nil)))) (qss_one (qs_raise lets_cx rfl rfl (by rfl) mg_NoText X_NoText (qa_cons (qv 0) qa_nil))) qss_nil)), ?_⟩
    refine ⟨_, rfl, l, rfl, hl, fun H1 s1 => ⟨_, rfl, ?_⟩⟩
    cases e : wordB l with
    | true => exact iteF (q1 e H1 s1)
    | false => exact iteT ⟨_, rfl, by show 1 ≤ sizeLine; decide, q2 e H1 s1⟩

end
end My
end

section
set_option Elab.async false
set_option linter.all false
set_option maxRecDepth 100000
set_option maxHeartbeats 2000000
namespace My
open PySem L2
section
variable {P : Program} {w : World} {K : PySem.W.Frag} {mg : Str → Option Value} {base : Heap}
theorem drop_wKv (ws : List (List Nat)) (l : List Nat) : dropK (wKv ws) (keyS l) = wKv (ws.filter fun x => decide (x ≠ l)) := by
  unfold dropK wKv
  rw [List.filter_map]
  congr 1
  refine List.filter_congr fun x _ => ?_
  show decide (keyS x ≠ keyS l) = decide (x ≠ l)
  by_cases h : x = l
  · subst h; simp
  · rw [decide_eq_true (show x ≠ l from h), decide_eq_true (show keyS x ≠ keyS l from fun z => h (keyS_inj z))]
theorem ok_noword {f C R : Addr} {fd : FuncData} (F : Fun K "__init__" "NoWord.__init__" s_NoWord_init f fd) (mg_RackError : mg "RackError" = some (.ref R)) (I_RackError : InitOf K R) (T : XCls K mg "NoWord" C f ["word"]) : FnOk P w K mg base CX0 1 f fd ["self", "word"] (spIni1 C "word") := by
  refine F.qok sc_NoWord_init (fun vs H Q E h => ?_) (fun cdv A outer s H vs Q E hr h => ?_)
  · obtain ⟨a, v, rfl, _⟩ := h
    rfl
  · obtain ⟨a, v, rfl, ha, q⟩ := h
    refine ⟨_, (qss_cons (qs_expr (qe_excInit (by rfl) mg_RackError I_RackError (qa_cons (qv 0) (qa_cons (qv 1) qa_nil)))) (qss_one (qs_fldX (qv 0) (qv 1) rfl))), ?_⟩
    refine ⟨_, rfl, _, rfl, a, C, f, none, [v], rfl, ha, T.M.ini, by show 1 ≤ sizeLine; decide, ?_⟩
    exact ⟨_, rfl, _, rfl, a, C, none, rfl, ha, T.T, T.no _ (by simp), .inl ⟨rfl, fun dx ne nd => q dx ne nd⟩⟩
def spPutX (C CN CT : Addr) : Sp := fun vs H Q E => ∃ (p d : Addr) (ws : List (List Nat)) (l : List Nat), vs = [.ref p, .str (S l)] ∧ BookAt C H p d ws ∧ l.length ≤ 100 ∧ ws.length ≤ 200 ∧
  (wordB l = false → ∀ H', Same H H' → E (.ref CN) none H') ∧ (wordB l = true → l ∈ ws → ∀ H', Same H H' → E (.ref CT) none H') ∧
  (wordB l = true → l ∉ ws → ∀ H', BookAt C H' p d (ws ++ [l]) → (∀ b o, H b = some o → b ≠ d → H' b = some o) → Q .non H')
theorem ok_put_inX {f C CN CT : Addr} {fd : FuncData} (F : Fun K "put_in" "Book.put_in" s_Book_put_in f fd) (T : BookCls K C) (mg_Twice : mg "Twice" = some (.ref CT)) (X_Twice : PySem.W.excIn K CT vErr "ValueError.__new__" = true) (D_check_word : DefX P w K mg base "check_word" 2 ["text"] (spCheckX CN)) : FnOk P w K mg base (CXE P w) 3 f fd ["self", "word"] (spPutX C CN CT) := by
  refine F.qokX sc_Book_put_in (fun vs H Q E h => ?_) (fun cdv A outer s H vs Q E hr h => ?_)
  · obtain ⟨p, d, ws, l, rfl, _⟩ := h
    rfl
  · obtain ⟨p, d, ws, l, rfl, B, hl, hn, q1, q2, q3⟩ := h
    have hu := hu_of hr
    obtain ⟨⟨dx, hp⟩, hd, nd, az⟩ := id B
    refine ⟨_, (qss_cons (qs_expr (qe_ownS D_check_word (hr.mono (by decide)) rfl pass_cx.all (qa_cons (qv 1) qa_nil))) (qss_cons (qs_if (qt_cmp (qc_din hu (qv 1) (qe_fld (qv 0) rfl))) (qss_one (qs_raise lets_cx rfl rfl (by rfl) mg_Twice X_Twice (qa_cons (qv 1) qa_nil))) qss_nil) (qss_one (qs_dput hu (qe_fld (qv 0) rfl) (qv 1) qe_bl rfl)))), ?_⟩
    refine ⟨True.intro, _, rfl, l, rfl, hl, fun hw H1 s1 => ?_, fun hw H1 s1 => q1 hw H1 s1⟩
    refine ⟨_, rfl, _, rfl, p, C, dx, _, _, rfl, s1 _ _ hp, T.cl, T.nh, rfl, d, _, rfl, DGet.k (k := keyS l) (s1 _ _ hd), _, rfl, ?_⟩
    rw [val_in]
    by_cases hm : l ∈ ws
    · rw [if_pos hm]
      exact iteT ⟨_, rfl, by show 1 ≤ sizeLine; decide, q2 hw hm H1 s1⟩
    · rw [if_neg hm]
      refine iteF ⟨_, rfl, p, C, dx, _, _, rfl, s1 _ _ hp, T.cl, T.nh, rfl, _, rfl, d, _, rfl, DPut.k (k := keyS l) (s1 _ _ hd) (by rw [wKv, List.length_map]; exact small1000 (by omega)), ?_⟩
      have npd : p ≠ d := fun z => by rw [z, hd] at hp; cases hp
      refine q3 hw hm _ ⟨⟨dx, by rw [upd_ne npd]; exact s1 _ _ hp⟩, by rw [upd_same, put_new hm], nd_snoc nd hm, fun x hx => ?_⟩ fun b o e hb => by rw [upd_ne hb]; exact s1 _ _ e
      rcases List.mem_append.mp hx with z | z
      · exact az x z
      · rw [List.mem_singleton.mp z]; exact wordB_iff.mp hw
def spTakeX (C CN CW : Addr) : Sp := fun vs H Q E => ∃ (p d : Addr) (ws : List (List Nat)) (l : List Nat), vs = [.ref p, .str (S l)] ∧ BookAt C H p d ws ∧ l.length ≤ 100 ∧
  (wordB l = false → ∀ H', Same H H' → E (.ref CN) none H') ∧ (wordB l = true → l ∉ ws → ∀ (dx : Addr) (H' : Hp), Same H H' → H' dx = some (.ext (XD dx [("word", .str (S l))])) → E (.ref CW) (some dx) H') ∧
  (wordB l = true → l ∈ ws → ∀ H', BookAt C H' p d (ws.filter fun x => decide (x ≠ l)) → (∀ b o, H b = some o → b ≠ d → H' b = some o) → Q .non H')
theorem ok_take_outX {f C CN CW f0 : Addr} {fd fd0 : FuncData} (F : Fun K "take_out" "Book.take_out" s_Book_take_out f fd) (T : BookCls K C) (W : XCls K mg "NoWord" CW f0 ["word"]) (G_NoWord : FnOk P w K mg base CX0 1 f0 fd0 ["self", "word"] (spIni1 CW "word")) (b_NoWord : Binds K fd0 ["self", "word"] [])
    (D_check_word : DefX P w K mg base "check_word" 2 ["text"] (spCheckX CN)) : FnOk P w K mg base (CXE P w) 3 f fd ["self", "word"] (spTakeX C CN CW) := by
  refine F.qokX sc_Book_take_out (fun vs H Q E h => ?_) (fun cdv A outer s H vs Q E hr h => ?_)
  · obtain ⟨p, d, ws, l, rfl, _⟩ := h
    rfl
  · obtain ⟨p, d, ws, l, rfl, B, hl, q1, q2, q3⟩ := h
    have hu := hu_of hr
    have M_NoWord := W.M
    have mg_NoWord := W.mgC
    obtain ⟨⟨dx, hp⟩, hd, nd, az⟩ := id B
    refine ⟨_, (qss_cons (qs_expr (qe_ownS D_check_word (hr.mono (by decide)) rfl pass_cx.all (qa_cons (qv 1) qa_nil))) (qss_cons (qs_if (qt_cmp (qc_dnotin hu (qv 1) (qe_fld (qv 0) rfl))) (qss_one (qs_raiseI lets_cx rfl M_NoWord G_NoWord (hr.mono (by decide)) (by rfl) mg_NoWord b_NoWord (qa_cons (qv 1) qa_nil))) qss_nil) (qss_one (qs_expr (qe_dpop1 (qe_fld (qv 0) rfl) (qv 1) ⟨rfl, rfl, rfl, rfl⟩))))), ?_⟩
    refine ⟨True.intro, _, rfl, l, rfl, hl, fun hw H1 s1 => ?_, fun hw H1 s1 => q1 hw H1 s1⟩
    refine ⟨_, rfl, _, rfl, p, C, dx, _, _, rfl, s1 _ _ hp, T.cl, T.nh, rfl, d, _, rfl, DGet.k (k := keyS l) (s1 _ _ hd), _, rfl, ?_⟩
    rw [val_in]
    by_cases hm : l ∈ ws
    · rw [if_pos hm]
      refine iteF ⟨_, rfl, p, C, dx, _, _, rfl, s1 _ _ hp, T.cl, T.nh, rfl, d, rfl, .inl ⟨_, .inl (s1 _ _ hd)⟩, _, rfl, _, keyS l, .bl true, s1 _ _ hd, rfl, by rw [val_in, if_pos hm], ?_⟩
      have npd : p ≠ d := fun z => by rw [z, hd] at hp; cases hp
      refine q3 hw hm _ ⟨⟨dx, by rw [upd_ne npd]; exact s1 _ _ hp⟩, by rw [upd_same, drop_wKv], nd.filter _, fun x hx => az x (List.mem_filter.mp hx).1⟩ fun b o e hb => by rw [upd_ne hb]; exact s1 _ _ e
    · rw [if_neg hm]
      refine iteT ⟨_, rfl, by show 1 ≤ sizeLine; decide, fun a na => ⟨a, _, rfl, upd_same, fun d2 ne nd2 => ⟨rfl, some d2, upd_same, ?_⟩⟩⟩
      obtain ⟨k1, k2⟩ := drop_new (q := .ext (ExcN a (.ref CW) (some d2))) (p := .ext (XD d2 [("word", .str (S l))])) na ne nd2
      exact q2 hw hm d2 _ (s1.trans k1) k2

end
end My
end

section
set_option Elab.async false
set_option linter.all false
set_option maxRecDepth 100000
set_option maxHeartbeats 2000000
namespace My
open PySem L2
section
variable {P : Program} {w : World} {K : PySem.W.Frag} {mg : Str → Option Value} {base : Heap}
def spInitX (K : PySem.W.Frag) (C CN : Addr) : Sp := fun vs H Q E => ∃ (p dx a : Addr) (ls : List (List Nat)), vs = [.ref p, .ref a] ∧ H p = some (.ins C dx []) ∧ SqL K H a (Ts ls) ∧ (∀ l ∈ ls, l.length ≤ 100) ∧ ls.length ≤ 200 ∧
  ((∃ l ∈ ls, wordB l = false) → ∀ H', (∀ b o, H b = some o → b ≠ p → H' b = some o) → E (.ref CN) none H') ∧
  ((∀ l ∈ ls, wordB l = true) → ∀ (d : Addr) (ws : List (List Nat)) (H' : Hp), H d = none → BookAt C H' p d ws → (∀ x, x ∈ ws ↔ x ∈ ls) → ws.length ≤ ls.length → (∀ b o, H b = some o → b ≠ p → H' b = some o) → Q .non H')
theorem ok_initX {f C CN : Addr} {fd : FuncData} (F : Fun K "__init__" "Book.__init__" s_Book_init f fd) (T : BookCls K C) (D_check_word : DefX P w K mg base "check_word" 2 ["text"] (spCheckX CN)) : FnOk P w K mg base (CXE P w) 3 f fd ["self", "words"] (spInitX K C CN) := by
  refine F.qokX sc_Book_init (fun vs H Q E h => ?_) (fun cdv A outer s H vs Q E hr h => ?_)
  · obtain ⟨p, dx, a, ls, rfl, _⟩ := h
    rfl
  · obtain ⟨p, dx, a, ls, rfl, hp, hS, hW, hn, kE, k⟩ := h
    have hu := hu_of hr
    refine ⟨_, (qss_cons (qs_fld (qv 0) qe_dnewK rfl) (qss_one (qs_for PassesOwn.leaving rfl (qi_list (qv 1)) (qg_name (i := 2) sc_Book_init.nd rfl (Or.inl rfl)) (qss_cons (qs_expr (qe_ownS D_check_word (hr.mono (by decide)) rfl pass_cx.all (qa_cons (qv 2) qa_nil))) (qss_one (qs_dput hu (qe_fld (qv 0) rfl) (qv 2) qe_bl rfl)))))), ?_⟩
    intro d hd
    have npd : p ≠ d := ne_of_none hp hd
    refine ⟨_, rfl, p, C, dx, [], rfl, (by rw [upd_ne npd]; exact hp), T.cl, T.nh, (by show 0 < 1000; decide), ?_⟩
    have hP1 : upd (upd H d (HO.dK [])) p (HO.ins C dx (putF "held" (V.ref d) [])) p = some (.ins C dx [("held", .ref d)]) := upd_same
    have hD1 : upd (upd H d (HO.dK [])) p (HO.ins C dx (putF "held" (V.ref d) [])) d = some (.dK (wKv [])) := by rw [upd_ne npd.symm, upd_same]; rfl
    have kp1 : ∀ b o, H b = some o → b ≠ p → upd (upd H d (HO.dK [])) p (HO.ins C dx (putF "held" (V.ref d) [])) b = some o := fun b o e hb => by rw [upd_ne hb, upd_ne (ne_of_none e hd)]; exact e
    generalize upd (upd H d (HO.dK [])) p (HO.ins C dx (putF "held" (V.ref d) [])) = H1 at hP1 hD1 kp1 ⊢
    have npl : ∀ o, H p = some o → (∀ ys, o ≠ .lst ys) ∧ ∀ u ys, o ≠ .frz u (.lst ys) := fun o e => by
      rw [hp] at e; cases e
      exact ⟨fun _ z => (nomatch z), fun _ _ z => (nomatch z)⟩
    refine ⟨_, rfl, a, rfl, ⟨_, hS.keep kp1 npl⟩, for_list (K := K) (a := a) (xs := Ts ls) (fun i σ H2 => ∃ (v2 : Option V) (ws : List (List Nat)), σ = [some (.ref p), some (.ref a), v2] ∧ H2 p = some (.ins C dx [("held", .ref d)]) ∧ H2 d = some (.dK (wKv ws)) ∧ ws.Nodup ∧
        (∀ x, x ∈ ws ↔ x ∈ ls.take i) ∧ ws.length ≤ i ∧ (∀ x ∈ ls.take i, wordB x = true) ∧ ∀ b o, H b = some o → b ≠ p → H2 b = some o) ⟨none, [], rfl, hP1, hD1, List.nodup_nil, fun x => by simp, Nat.le_refl _, fun x hx => by simp at hx, kp1⟩ (fun i σ H2 _ ⟨_, _, _, _, _, _, _, _, _, kp⟩ => hS.keep kp npl) ?_ ?_⟩
    · rintro i y σ H2 hi ⟨v2, ws, rfl, hp2, hd2, hnd, hm, hl, hwd, kp⟩
      rw [List.getElem?_map] at hi
      obtain ⟨l, hl2, e⟩ := Option.map_eq_some_iff.mp hi
      subst e
      have hil : i < ls.length := (List.getElem?_eq_some_iff.mp hl2).1
      have hlm := List.mem_of_getElem? hl2
      refine ⟨True.intro, _, rfl, l, rfl, hW l hlm, fun hw H3 s3 => ?_, fun hw H3 s3 => kE ⟨l, hlm, hw⟩ H3 fun b o e hb => s3 _ _ (kp b o e hb)⟩
      have hd3 := s3 _ _ hd2
      refine ⟨_, rfl, p, C, dx, _, _, rfl, s3 _ _ hp2, T.cl, T.nh, rfl, _, rfl, d, _, rfl, DPut.k (k := keyS l) hd3 (by rw [wKv, List.length_map]; exact small1000 (by omega)), ?_⟩
      refine ⟨_, insW ws l, rfl, by rw [upd_ne npd]; exact s3 _ _ hp2, by rw [upd_same, insW_put], insW_nd hnd, fun x => ?_, Nat.le_trans (insW_len _ _) (by omega), fun x hx => ?_, fun b o e hb => ?_⟩
      · rw [insW_mem, hm, List.take_add_one, hl2]; simp
      · rw [List.take_add_one, hl2] at hx
        rcases List.mem_append.mp hx with z | z
        · exact hwd x z
        · have : x = l := by simpa using z
          rw [this]; exact hw
      · rw [upd_ne (ne_of_none e hd)]; exact s3 _ _ (kp b o e hb)
    · rintro σ H2 ⟨v2, ws, rfl, hp2, hd2, hnd, hm, hl, hwd, kp⟩
      rw [List.length_map] at hm hl hwd
      rw [List.take_length] at hm hwd
      exact k hwd d ws H2 hd ⟨⟨dx, hp2⟩, hd2, hnd, fun l hl => wordB_iff.mp (hwd l ((hm l).mp hl))⟩ hm hl kp

end
end My
end

section
set_option Elab.async false
set_option linter.all false
set_option maxRecDepth 100000
set_option maxHeartbeats 2000000
namespace My
open PySem L2
section
variable {P : Program} {w : World} {K : PySem.W.Frag} {mg : Str → Option Value} {base : Heap}
def spWhich (K : PySem.W.Frag) (Cs : List Addr) : Sp := fun vs H Q _ => ∃ (a C : Addr) (dd : Option Addr) (j : Nat), vs = [.ref a] ∧ H a = some (.ext (ExcO a (.ref C) dd)) ∧ DictKn H dd ∧ ExcIs K C ∧ PySem.W.kitOne K (.ref C) (.type "ValueError") = some true ∧ j < 15 ∧
  (∀ i D, Cs[i]? = some D → PySem.W.kitOne K (.ref C) (.ref D) = some (decide (i = j))) ∧ ∀ H', Same H H' → Q (.int j) H'
theorem DictKn.mv {H H' : Hp} {dd : Option Addr} (h : DictKn H dd) (s : Same H H') : DictKn H' dd := by
  cases dd with
  | none => trivial
  | some d => obtain ⟨o, e⟩ := h; exact ⟨o, s _ _ e⟩
def bits (j : Nat) : List Bool := [decide (0 = j), decide (1 = j), decide (2 = j), decide (3 = j), decide (4 = j), decide (5 = j), decide (6 = j), decide (7 = j), decide (8 = j), decide (9 = j), decide (10 = j), decide (11 = j), decide (12 = j), decide (13 = j), decide (14 = j)]
theorem bits_count : ∀ j, j < 15 → (bits j).count true = 1 := by decide
theorem bits_at : ∀ j, j < 15 → (bits j)[j]? = some true ∧ ∀ m, m < j → (bits j)[m]? = some false := by
  intro j hj
  have h1 : ∀ j, j < 15 → (bits j)[j]? = some true := by decide
  have h2 : ∀ j, j < 15 → ∀ m, m < 15 → m < j → (bits j)[m]? = some false := by decide
  exact ⟨h1 j hj, fun m hm => h2 j hj m (by omega) hm⟩
theorem ok_which {C_NoText C_Twice C_NoWord C_NoBoard C_NoLaying C_Taken C_Crooked C_Gap C_Apart C_Lacking C_TooFew C_NoDeed C_Over C_NoBack C_NoRow : Addr} (D : DefAt K mg "_law_which" s_which ["_law_error"]) (n_isinstance : mg "isinstance" = none) (n_ValueError : mg "ValueError" = none) (mg_NoText : mg "NoText" = some (.ref C_NoText)) (mg_Twice : mg "Twice" = some (.ref C_Twice)) (mg_NoWord : mg "NoWord" = some (.ref C_NoWord)) (mg_NoBoard : mg "NoBoard" = some (.ref C_NoBoard)) (mg_NoLaying : mg "NoLaying" = some (.ref C_NoLaying)) (mg_Taken : mg "Taken" = some (.ref C_Taken)) (mg_Crooked : mg "Crooked" = some (.ref C_Crooked)) (mg_Gap : mg "Gap" = some (.ref C_Gap)) (mg_Apart : mg "Apart" = some (.ref C_Apart)) (mg_Lacking : mg "Lacking" = some (.ref C_Lacking)) (mg_TooFew : mg "TooFew" = some (.ref C_TooFew)) (mg_NoDeed : mg "NoDeed" = some (.ref C_NoDeed)) (mg_Over : mg "Over" = some (.ref C_Over)) (mg_NoBack : mg "NoBack" = some (.ref C_NoBack)) (mg_NoRow : mg "NoRow" = some (.ref C_NoRow)) : Def P w K mg base "_law_which" 1 ["_law_error"] (spWhich K [C_NoText, C_Twice, C_NoWord, C_NoBoard, C_NoLaying, C_Taken, C_Crooked, C_Gap, C_Apart, C_Lacking, C_TooFew, C_NoDeed, C_Over, C_NoBack, C_NoRow]) := by
  refine D.qok sc_which (fun vs H Q E h => ?_) (fun f cdv A outer s H vs Q E hr h => ?_)
  · obtain ⟨a, C, dd, j, rfl, _⟩ := h
    rfl
  · obtain ⟨a, C, dd, j, rfl, ha, hdk, is, kv, hj, kk, q⟩ := h
    have k_NoText := kk 0 C_NoText rfl
    have k_Twice := kk 1 C_Twice rfl
    have k_NoWord := kk 2 C_NoWord rfl
    have k_NoBoard := kk 3 C_NoBoard rfl
    have k_NoLaying := kk 4 C_NoLaying rfl
    have k_Taken := kk 5 C_Taken rfl
    have k_Crooked := kk 6 C_Crooked rfl
    have k_Gap := kk 7 C_Gap rfl
    have k_Apart := kk 8 C_Apart rfl
    have k_Lacking := kk 9 C_Lacking rfl
    have k_TooFew := kk 10 C_TooFew rfl
    have k_NoDeed := kk 11 C_NoDeed rfl
    have k_Over := kk 12 C_Over rfl
    have k_NoBack := kk 13 C_NoBack rfl
    have k_NoRow := kk 14 C_NoRow rfl
    refine ⟨_, (qss_cons (qs_set (i := 1) sc_which.nd rfl (Or.inl rfl) (qe_lst (qa_cons (qe_callB call_isinstX (by rfl) n_isinstance PyProof.Rows.boot_isinstance (qa_cons (qv 0) (qa_cons (qe_glob (v := .ref _) (by rfl) mg_NoText rfl) qa_nil))) (qa_cons (qe_callB call_isinstX (by rfl) n_isinstance PyProof.Rows.boot_isinstance (qa_cons (qv 0) (qa_cons (qe_glob (v := .ref _) (by rfl) mg_Twice rfl) qa_nil))) (qa_cons (qe_callB call_isinstX (by rfl) n_isinstance PyProof.Rows.boot_isinstance (qa_cons (qv 0) (qa_cons (qe_glob (v := .ref _) (by rfl) mg_NoWord rfl) qa_nil))) (qa_cons (qe_callB call_isinstX (by rfl) n_isinstance PyProof.Rows.boot_isinstance (qa_cons (qv 0) (qa_cons (qe_glob (v := .ref _) (by rfl) mg_NoBoard rfl) qa_nil))) qa_nil)))))) (qss_cons (qs_set (i := 1) sc_which.nd rfl (Or.inl rfl) (qe_op op_cat (qv 1) (qe_lst (qa_cons (qe_callB call_isinstX (by rfl) n_isinstance PyProof.Rows.boot_isinstance (qa_cons (qv 0) (qa_cons (qe_glob (v := .ref _) (by rfl) mg_NoLaying rfl) qa_nil))) (qa_cons (qe_callB call_isinstX (by rfl) n_isinstance PyProof.Rows.boot_isinstance (qa_cons (qv 0) (qa_cons (qe_glob (v := .ref _) (by rfl) mg_Taken rfl) qa_nil))) (qa_cons (qe_callB call_isinstX (by rfl) n_isinstance PyProof.Rows.boot_isinstance (qa_cons (qv 0) (qa_cons (qe_glob (v := .ref _) (by rfl) mg_Crooked rfl) qa_nil))) qa_nil)))))) (qss_cons (qs_set (i := 1) sc_which.nd rfl (Or.inl rfl) (qe_op op_cat (qv 1) (qe_lst (qa_cons (qe_callB call_isinstX (by rfl) n_isinstance PyProof.Rows.boot_isinstance (qa_cons (qv 0) (qa_cons (qe_glob (v := .ref _) (by rfl) mg_Gap rfl) qa_nil))) (qa_cons (qe_callB call_isinstX (by rfl) n_isinstance PyProof.Rows.boot_isinstance (qa_cons (qv 0) (qa_cons (qe_glob (v := .ref _) (by rfl) mg_Apart rfl) qa_nil))) (qa_cons (qe_callB call_isinstX (by rfl) n_isinstance PyProof.Rows.boot_isinstance (qa_cons (qv 0) (qa_cons (qe_glob (v := .ref _) (by rfl) mg_Lacking rfl) qa_nil))) qa_nil)))))) (qss_cons (qs_set (i := 1) sc_which.nd rfl (Or.inl rfl) (qe_op op_cat (qv 1) (qe_lst (qa_cons (qe_callB call_isinstX (by rfl) n_isinstance PyProof.Rows.boot_isinstance (qa_cons (qv 0) (qa_cons (qe_glob (v := .ref _) (by rfl) mg_TooFew rfl) qa_nil))) (qa_cons (qe_callB call_isinstX (by rfl) n_isinstance PyProof.Rows.boot_isinstance (qa_cons (qv 0) (qa_cons (qe_glob (v := .ref _) (by rfl) mg_NoDeed rfl) qa_nil))) (qa_cons (qe_callB call_isinstX (by rfl) n_isinstance PyProof.Rows.boot_isinstance (qa_cons (qv 0) (qa_cons (qe_glob (v := .ref _) (by rfl) mg_Over rfl) qa_nil))) qa_nil)))))) (qss_cons (qs_set (i := 1) sc_which.nd rfl (Or.inl rfl) (qe_op op_cat (qv 1) (qe_lst (qa_cons (qe_callB call_isinstX (by rfl) n_isinstance PyProof.Rows.boot_isinstance (qa_cons (qv 0) (qa_cons (qe_glob (v := .ref _) (by rfl) mg_NoBack rfl) qa_nil))) (qa_cons (qe_callB call_isinstX (by rfl) n_isinstance PyProof.Rows.boot_isinstance (qa_cons (qv 0) (qa_cons (qe_glob (v := .ref _) (by rfl) mg_NoRow rfl) qa_nil))) qa_nil))))) (qss_cons (qs_if (QW.qt (qw_or (qt_cmpR op_ne (qe_bm PySem.F.plainAttrs_list PySem.F.slot_list_count PySem.F.type_list_count mt_countB (qv 1) (qa_cons qe_bl qa_nil)) qe_int (nomark _)) (qw_or1 (qt_not (qt_val (qe_callB call_isinstX (by rfl) n_isinstance PyProof.Rows.boot_isinstance (qa_cons (qv 0) (qa_cons (qe_bltn (v := .ty "ValueError") (by rfl) n_ValueError boot_ValueError rfl) qa_nil)))))))) (qss_one (qs_ret (qe_un un_neg qe_int))) qss_nil) (qss_one (qs_ret (qe_bm PySem.F.plainAttrs_list PySem.F.slot_list_index PySem.F.type_list_index mt_indexB (qv 1) (qa_cons qe_bl qa_nil)))))))))), ?_⟩
    refine ⟨_, rfl, a, C, .ref C_NoText, .ref C_NoText, dd, _, rfl, .inl ⟨C_NoText, rfl, rfl⟩, ha, hdk, is, k_NoText, _, rfl, a, C, .ref C_Twice, .ref C_Twice, dd, _, rfl, .inl ⟨C_Twice, rfl, rfl⟩, ha, hdk, is, k_Twice, _, rfl, a, C, .ref C_NoWord, .ref C_NoWord, dd, _, rfl, .inl ⟨C_NoWord, rfl, rfl⟩, ha, hdk, is, k_NoWord, _, rfl, a, C, .ref C_NoBoard, .ref C_NoBoard, dd, _, rfl, .inl ⟨C_NoBoard, rfl, rfl⟩, ha, hdk, is, k_NoBoard, by show 4 ≤ sizeLine; decide, fun M0 hM0 => ?_⟩
    have t0 : Same H (upd H M0 (HO.lst [V.bl (decide (0 = j)), V.bl (decide (1 = j)), V.bl (decide (2 = j)), V.bl (decide (3 = j))])) := Same.upd hM0
    have f0 : upd H M0 (HO.lst [V.bl (decide (0 = j)), V.bl (decide (1 = j)), V.bl (decide (2 = j)), V.bl (decide (3 = j))]) M0 = some (.lst [V.bl (decide (0 = j)), V.bl (decide (1 = j)), V.bl (decide (2 = j)), V.bl (decide (3 = j))]) := upd_same
    have s0 := t0
    generalize upd H M0 (HO.lst [V.bl (decide (0 = j)), V.bl (decide (1 = j)), V.bl (decide (2 = j)), V.bl (decide (3 = j))]) = G0 at t0 f0 s0 ⊢
    refine ⟨_, rfl, _, rfl, a, C, .ref C_NoLaying, .ref C_NoLaying, dd, _, rfl, .inl ⟨C_NoLaying, rfl, rfl⟩, (s0 _ _ ha), (DictKn.mv hdk s0), is, k_NoLaying, _, rfl, a, C, .ref C_Taken, .ref C_Taken, dd, _, rfl, .inl ⟨C_Taken, rfl, rfl⟩, (s0 _ _ ha), (DictKn.mv hdk s0), is, k_Taken, _, rfl, a, C, .ref C_Crooked, .ref C_Crooked, dd, _, rfl, .inl ⟨C_Crooked, rfl, rfl⟩, (s0 _ _ ha), (DictKn.mv hdk s0), is, k_Crooked, by show 3 ≤ sizeLine; decide, fun M1 hM1 => ?_⟩
    have t1 : Same G0 (upd G0 M1 (HO.lst [V.bl (decide (4 = j)), V.bl (decide (5 = j)), V.bl (decide (6 = j))])) := Same.upd hM1
    have f1 : upd G0 M1 (HO.lst [V.bl (decide (4 = j)), V.bl (decide (5 = j)), V.bl (decide (6 = j))]) M1 = some (.lst [V.bl (decide (4 = j)), V.bl (decide (5 = j)), V.bl (decide (6 = j))]) := upd_same
    have u1 := t1 _ _ f0
    have s1a := s0.trans t1
    generalize upd G0 M1 (HO.lst [V.bl (decide (4 = j)), V.bl (decide (5 = j)), V.bl (decide (6 = j))]) = G1 at t1 f1 u1 s1a ⊢
    refine ⟨M0, M1, _, _, rfl, rfl, u1, f1, by show 4 + 3 ≤ sizeLine; decide, fun L1 hL1 => ?_⟩
    have v1 : Same G1 (upd G1 L1 (HO.lst ([V.bl (decide (0 = j)), V.bl (decide (1 = j)), V.bl (decide (2 = j)), V.bl (decide (3 = j))] ++ [V.bl (decide (4 = j)), V.bl (decide (5 = j)), V.bl (decide (6 = j))]))) := Same.upd hL1
    have e1 : upd G1 L1 (HO.lst ([V.bl (decide (0 = j)), V.bl (decide (1 = j)), V.bl (decide (2 = j)), V.bl (decide (3 = j))] ++ [V.bl (decide (4 = j)), V.bl (decide (5 = j)), V.bl (decide (6 = j))])) L1 = some (.lst ([V.bl (decide (0 = j)), V.bl (decide (1 = j)), V.bl (decide (2 = j)), V.bl (decide (3 = j))] ++ [V.bl (decide (4 = j)), V.bl (decide (5 = j)), V.bl (decide (6 = j))])) := upd_same
    have s1 := s1a.trans v1
    generalize upd G1 L1 (HO.lst ([V.bl (decide (0 = j)), V.bl (decide (1 = j)), V.bl (decide (2 = j)), V.bl (decide (3 = j))] ++ [V.bl (decide (4 = j)), V.bl (decide (5 = j)), V.bl (decide (6 = j))])) = K1 at v1 e1 s1 ⊢
    refine ⟨_, rfl, _, rfl, a, C, .ref C_Gap, .ref C_Gap, dd, _, rfl, .inl ⟨C_Gap, rfl, rfl⟩, (s1 _ _ ha), (DictKn.mv hdk s1), is, k_Gap, _, rfl, a, C, .ref C_Apart, .ref C_Apart, dd, _, rfl, .inl ⟨C_Apart, rfl, rfl⟩, (s1 _ _ ha), (DictKn.mv hdk s1), is, k_Apart, _, rfl, a, C, .ref C_Lacking, .ref C_Lacking, dd, _, rfl, .inl ⟨C_Lacking, rfl, rfl⟩, (s1 _ _ ha), (DictKn.mv hdk s1), is, k_Lacking, by show 3 ≤ sizeLine; decide, fun M2 hM2 => ?_⟩
    have t2 : Same K1 (upd K1 M2 (HO.lst [V.bl (decide (7 = j)), V.bl (decide (8 = j)), V.bl (decide (9 = j))])) := Same.upd hM2
    have f2 : upd K1 M2 (HO.lst [V.bl (decide (7 = j)), V.bl (decide (8 = j)), V.bl (decide (9 = j))]) M2 = some (.lst [V.bl (decide (7 = j)), V.bl (decide (8 = j)), V.bl (decide (9 = j))]) := upd_same
    have u2 := t2 _ _ e1
    have s2a := s1.trans t2
    generalize upd K1 M2 (HO.lst [V.bl (decide (7 = j)), V.bl (decide (8 = j)), V.bl (decide (9 = j))]) = G2 at t2 f2 u2 s2a ⊢
    refine ⟨L1, M2, _, _, rfl, rfl, u2, f2, by show 7 + 3 ≤ sizeLine; decide, fun L2 hL2 => ?_⟩
    have v2 : Same G2 (upd G2 L2 (HO.lst (([V.bl (decide (0 = j)), V.bl (decide (1 = j)), V.bl (decide (2 = j)), V.bl (decide (3 = j))] ++ [V.bl (decide (4 = j)), V.bl (decide (5 = j)), V.bl (decide (6 = j))]) ++ [V.bl (decide (7 = j)), V.bl (decide (8 = j)), V.bl (decide (9 = j))]))) := Same.upd hL2
    have e2 : upd G2 L2 (HO.lst (([V.bl (decide (0 = j)), V.bl (decide (1 = j)), V.bl (decide (2 = j)), V.bl (decide (3 = j))] ++ [V.bl (decide (4 = j)), V.bl (decide (5 = j)), V.bl (decide (6 = j))]) ++ [V.bl (decide (7 = j)), V.bl (decide (8 = j)), V.bl (decide (9 = j))])) L2 = some (.lst (([V.bl (decide (0 = j)), V.bl (decide (1 = j)), V.bl (decide (2 = j)), V.bl (decide (3 = j))] ++ [V.bl (decide (4 = j)), V.bl (decide (5 = j)), V.bl (decide (6 = j))]) ++ [V.bl (decide (7 = j)), V.bl (decide (8 = j)), V.bl (decide (9 = j))])) := upd_same
    have s2 := s2a.trans v2
    generalize upd G2 L2 (HO.lst (([V.bl (decide (0 = j)), V.bl (decide (1 = j)), V.bl (decide (2 = j)), V.bl (decide (3 = j))] ++ [V.bl (decide (4 = j)), V.bl (decide (5 = j)), V.bl (decide (6 = j))]) ++ [V.bl (decide (7 = j)), V.bl (decide (8 = j)), V.bl (decide (9 = j))])) = K2 at v2 e2 s2 ⊢
    refine ⟨_, rfl, _, rfl, a, C, .ref C_TooFew, .ref C_TooFew, dd, _, rfl, .inl ⟨C_TooFew, rfl, rfl⟩, (s2 _ _ ha), (DictKn.mv hdk s2), is, k_TooFew, _, rfl, a, C, .ref C_NoDeed, .ref C_NoDeed, dd, _, rfl, .inl ⟨C_NoDeed, rfl, rfl⟩, (s2 _ _ ha), (DictKn.mv hdk s2), is, k_NoDeed, _, rfl, a, C, .ref C_Over, .ref C_Over, dd, _, rfl, .inl ⟨C_Over, rfl, rfl⟩, (s2 _ _ ha), (DictKn.mv hdk s2), is, k_Over, by show 3 ≤ sizeLine; decide, fun M3 hM3 => ?_⟩
    have t3 : Same K2 (upd K2 M3 (HO.lst [V.bl (decide (10 = j)), V.bl (decide (11 = j)), V.bl (decide (12 = j))])) := Same.upd hM3
    have f3 : upd K2 M3 (HO.lst [V.bl (decide (10 = j)), V.bl (decide (11 = j)), V.bl (decide (12 = j))]) M3 = some (.lst [V.bl (decide (10 = j)), V.bl (decide (11 = j)), V.bl (decide (12 = j))]) := upd_same
    have u3 := t3 _ _ e2
    have s3a := s2.trans t3
    generalize upd K2 M3 (HO.lst [V.bl (decide (10 = j)), V.bl (decide (11 = j)), V.bl (decide (12 = j))]) = G3 at t3 f3 u3 s3a ⊢
    refine ⟨L2, M3, _, _, rfl, rfl, u3, f3, by show 10 + 3 ≤ sizeLine; decide, fun L3 hL3 => ?_⟩
    have v3 : Same G3 (upd G3 L3 (HO.lst ((([V.bl (decide (0 = j)), V.bl (decide (1 = j)), V.bl (decide (2 = j)), V.bl (decide (3 = j))] ++ [V.bl (decide (4 = j)), V.bl (decide (5 = j)), V.bl (decide (6 = j))]) ++ [V.bl (decide (7 = j)), V.bl (decide (8 = j)), V.bl (decide (9 = j))]) ++ [V.bl (decide (10 = j)), V.bl (decide (11 = j)), V.bl (decide (12 = j))]))) := Same.upd hL3
    have e3 : upd G3 L3 (HO.lst ((([V.bl (decide (0 = j)), V.bl (decide (1 = j)), V.bl (decide (2 = j)), V.bl (decide (3 = j))] ++ [V.bl (decide (4 = j)), V.bl (decide (5 = j)), V.bl (decide (6 = j))]) ++ [V.bl (decide (7 = j)), V.bl (decide (8 = j)), V.bl (decide (9 = j))]) ++ [V.bl (decide (10 = j)), V.bl (decide (11 = j)), V.bl (decide (12 = j))])) L3 = some (.lst ((([V.bl (decide (0 = j)), V.bl (decide (1 = j)), V.bl (decide (2 = j)), V.bl (decide (3 = j))] ++ [V.bl (decide (4 = j)), V.bl (decide (5 = j)), V.bl (decide (6 = j))]) ++ [V.bl (decide (7 = j)), V.bl (decide (8 = j)), V.bl (decide (9 = j))]) ++ [V.bl (decide (10 = j)), V.bl (decide (11 = j)), V.bl (decide (12 = j))])) := upd_same
    have s3 := s3a.trans v3
    generalize upd G3 L3 (HO.lst ((([V.bl (decide (0 = j)), V.bl (decide (1 = j)), V.bl (decide (2 = j)), V.bl (decide (3 = j))] ++ [V.bl (decide (4 = j)), V.bl (decide (5 = j)), V.bl (decide (6 = j))]) ++ [V.bl (decide (7 = j)), V.bl (decide (8 = j)), V.bl (decide (9 = j))]) ++ [V.bl (decide (10 = j)), V.bl (decide (11 = j)), V.bl (decide (12 = j))])) = K3 at v3 e3 s3 ⊢
    refine ⟨_, rfl, _, rfl, a, C, .ref C_NoBack, .ref C_NoBack, dd, _, rfl, .inl ⟨C_NoBack, rfl, rfl⟩, (s3 _ _ ha), (DictKn.mv hdk s3), is, k_NoBack, _, rfl, a, C, .ref C_NoRow, .ref C_NoRow, dd, _, rfl, .inl ⟨C_NoRow, rfl, rfl⟩, (s3 _ _ ha), (DictKn.mv hdk s3), is, k_NoRow, by show 2 ≤ sizeLine; decide, fun M4 hM4 => ?_⟩
    have t4 : Same K3 (upd K3 M4 (HO.lst [V.bl (decide (13 = j)), V.bl (decide (14 = j))])) := Same.upd hM4
    have f4 : upd K3 M4 (HO.lst [V.bl (decide (13 = j)), V.bl (decide (14 = j))]) M4 = some (.lst [V.bl (decide (13 = j)), V.bl (decide (14 = j))]) := upd_same
    have u4 := t4 _ _ e3
    have s4a := s3.trans t4
    generalize upd K3 M4 (HO.lst [V.bl (decide (13 = j)), V.bl (decide (14 = j))]) = G4 at t4 f4 u4 s4a ⊢
    refine ⟨L3, M4, _, _, rfl, rfl, u4, f4, by show 13 + 2 ≤ sizeLine; decide, fun L4 hL4 => ?_⟩
    have v4 : Same G4 (upd G4 L4 (HO.lst (((([V.bl (decide (0 = j)), V.bl (decide (1 = j)), V.bl (decide (2 = j)), V.bl (decide (3 = j))] ++ [V.bl (decide (4 = j)), V.bl (decide (5 = j)), V.bl (decide (6 = j))]) ++ [V.bl (decide (7 = j)), V.bl (decide (8 = j)), V.bl (decide (9 = j))]) ++ [V.bl (decide (10 = j)), V.bl (decide (11 = j)), V.bl (decide (12 = j))]) ++ [V.bl (decide (13 = j)), V.bl (decide (14 = j))]))) := Same.upd hL4
    have e4 : upd G4 L4 (HO.lst (((([V.bl (decide (0 = j)), V.bl (decide (1 = j)), V.bl (decide (2 = j)), V.bl (decide (3 = j))] ++ [V.bl (decide (4 = j)), V.bl (decide (5 = j)), V.bl (decide (6 = j))]) ++ [V.bl (decide (7 = j)), V.bl (decide (8 = j)), V.bl (decide (9 = j))]) ++ [V.bl (decide (10 = j)), V.bl (decide (11 = j)), V.bl (decide (12 = j))]) ++ [V.bl (decide (13 = j)), V.bl (decide (14 = j))])) L4 = some (.lst (((([V.bl (decide (0 = j)), V.bl (decide (1 = j)), V.bl (decide (2 = j)), V.bl (decide (3 = j))] ++ [V.bl (decide (4 = j)), V.bl (decide (5 = j)), V.bl (decide (6 = j))]) ++ [V.bl (decide (7 = j)), V.bl (decide (8 = j)), V.bl (decide (9 = j))]) ++ [V.bl (decide (10 = j)), V.bl (decide (11 = j)), V.bl (decide (12 = j))]) ++ [V.bl (decide (13 = j)), V.bl (decide (14 = j))])) := upd_same
    have s4 := s4a.trans v4
    generalize upd G4 L4 (HO.lst (((([V.bl (decide (0 = j)), V.bl (decide (1 = j)), V.bl (decide (2 = j)), V.bl (decide (3 = j))] ++ [V.bl (decide (4 = j)), V.bl (decide (5 = j)), V.bl (decide (6 = j))]) ++ [V.bl (decide (7 = j)), V.bl (decide (8 = j)), V.bl (decide (9 = j))]) ++ [V.bl (decide (10 = j)), V.bl (decide (11 = j)), V.bl (decide (12 = j))]) ++ [V.bl (decide (13 = j)), V.bl (decide (14 = j))])) = K4 at v4 e4 s4 ⊢
    have eb : K4 L4 = some (.lst ((bits j).map V.bl)) := e4
    refine ⟨_, rfl, .inl ⟨rfl, _, SqL.of eb⟩, L4, bits j, rfl, rfl, eb, rfl, _, rfl, ?_⟩
    have ec : V.int (((bits j).count true : Nat) : Int) = V.int 1 := by rw [bits_count j hj]; rfl
    obtain ⟨b1, b2⟩ := bits_at j hj
    refine iteNS ec ?_
    refine ⟨_, rfl, a, C, .ty "ValueError", .type "ValueError", dd, true, rfl, .inr ⟨_, rfl, rfl⟩, (s4 _ _ ha), DictKn.mv hdk s4, is, kv, _, rfl, iteF ?_⟩
    exact ⟨_, rfl, .inl ⟨rfl, _, SqL.of eb⟩, L4, bits j, j, rfl, rfl, eb, b1, b2, by show 15 ≤ 1000; decide, q _ s4⟩

end
end My
end

section
set_option Elab.async false
set_option linter.all false
set_option maxRecDepth 100000
set_option maxHeartbeats 2000000
namespace My
open PySem L2
section
variable {P : Program} {w : World} {K : PySem.W.Frag} {mg : Str → Option Value} {base : Heap}
def spToldB (C CN CT CW : Addr) : Sp := fun vs H Q _ => ∃ (p d : Addr) (ws : List (List Nat)) (way : Int) (l : List Nat), vs = [.ref p, .int way, .str (S l)] ∧ BookAt C H p d ws ∧ l.length ≤ 100 ∧ ws.length < 64 ∧
  ((wordB l = false ∧ (way = 0 ∨ way = 1 ∨ way = 2) ∧ ∀ (a : Addr) (H' : Hp), Same H H' → H' a = some (.ext (ExcO a (.ref CN) none)) → Q (.ref a) H') ∨
   (way = 0 ∧ wordB l = true ∧ l ∈ ws ∧ ∀ (a : Addr) (H' : Hp), Same H H' → H' a = some (.ext (ExcO a (.ref CT) none)) → Q (.ref a) H') ∨
   (way = 1 ∧ wordB l = true ∧ l ∉ ws ∧ ∀ (a dx : Addr) (H' : Hp), Same H H' → H' a = some (.ext (ExcO a (.ref CW) (some dx))) → H' dx = some (.ext (XD dx [("word", .str (S l))])) → Q (.ref a) H'))
theorem ok_toldB {C CN CT CW CR f0 f1 f2 f3 : Addr} {fd0 fd1 fd2 fd3 : FuncData} (D : DefAt K mg "_law_told" s_told ["_law_book_here", "_law_way", "_law_word_here"]) (n_list : mg "list" = none) (mg_RackError : mg "RackError" = some (.ref CR)) (T_Book : BookCls K C) (mg_Book : mg "Book" = some (.ref C)) (M_Book : Mk K C f0)
    (xN : PySem.W.exmOne K (.ref CN) (.ref CR) = some true) (xT : PySem.W.exmOne K (.ref CT) (.ref CR) = some true) (xW : PySem.W.exmOne K (.ref CW) (.ref CR) = some true)
    (G_Book : FnOk P w K mg base (CXE P w) 3 f0 fd0 ["self", "words"] (spInitX K C CN)) (b_Book : Binds K fd0 ["self", "words"] [])
    (m_Book_put_in : Meth K C "put_in" f1) (G_Book_put_in : FnOk P w K mg base (CXE P w) 3 f1 fd1 ["self", "word"] (spPutX C CN CT)) (b_Book_put_in : Binds K fd1 ["self", "word"] [])
    (m_Book_take_out : Meth K C "take_out" f2) (G_Book_take_out : FnOk P w K mg base (CXE P w) 3 f2 fd2 ["self", "word"] (spTakeX C CN CW)) (b_Book_take_out : Binds K fd2 ["self", "word"] [])
    (m_Book_words : Meth K C "words" f3) (G_Book_words : FnOk P w K mg base CX0 1 f3 fd3 ["self"] (spWords C)) (b_Book_words : Binds K fd3 ["self"] []) : Def P w K mg base "_law_told" 6 ["_law_book_here", "_law_way", "_law_word_here"] (spToldB C CN CT CW) := by
  refine D.qok sc_told (fun vs H Q E h => ?_) (fun f cdv A outer s H vs Q E hr h => ?_)
  · obtain ⟨p, d, ws, way, l, rfl, _⟩ := h
    rfl
  · obtain ⟨p, d, ws, way, l, rfl, B, hl, h64, q⟩ := h
    obtain ⟨dx0, hp⟩ := B.ob
    refine ⟨_, (qss_cons (qs_set (i := 3) sc_told.nd rfl (Or.inl rfl) qe_non) (qss_cons (qs_try rfl rfl (by rfl) mg_RackError sc_told.nd (i := 4) rfl (by rfl) (fun pn xe E0 σ0 hp hx => (qss_one (qs_if (qt_cmpR op_eq (qv 1) qe_int (nomark _)) (qss_one (qs_expr (qe_methS (qv 0) T_Book.cl m_Book_put_in G_Book_put_in (hr.mono (by decide)) b_Book_put_in hx (qa_cons (qv 2) qa_nil)))) (qss_one (qs_if (qt_cmpR op_eq (qv 1) qe_int (nomark _)) (qss_one (qs_expr (qe_methS (qv 0) T_Book.cl m_Book_take_out G_Book_take_out (hr.mono (by decide)) b_Book_take_out hx (qa_cons (qv 2) qa_nil)))) (qss_one (qs_expr (qe_makeS M_Book G_Book (hr.mono (by decide)) rfl mg_Book b_Book hx (qa_cons (qe_op op_cat (qe_op op_cat (qe_callTy (call_list_ofK K) (by rfl) n_list PyProof.Rows.boot_list (qa_cons (qe_meth0 (qv 0) T_Book.cl m_Book_words G_Book_words (hr.mono (by decide)) b_Book_words .nil pass0) qa_nil)) (qe_lst (qa_cons (qv 2) qa_nil))) (qe_slice (sl_listK K) (qe_callTy (call_list_ofK K) (by rfl) n_list PyProof.Rows.boot_list (qa_cons (qe_meth0 (qv 0) T_Book.cl m_Book_words G_Book_words (hr.mono (by decide)) b_Book_words .nil pass0) qa_nil)) qo_none (qo_some qe_int))) qa_nil))))))))) (fun _ => (qss_one (qs_set (i := 3) sc_told.nd rfl (Or.inl rfl) (qv 4))))) (qss_one (qs_ret (qv 3))))), ?_⟩
    rcases q with ⟨hw, hway, q⟩ | ⟨rfl, hw, hm, q⟩ | ⟨rfl, hw, hm, q⟩
    · refine ⟨fun cls dd H' => cls = .ref CN ∧ dd = none ∧ Same H H', ?_, ?_⟩
      · rcases hway with rfl | rfl | rfl
        · refine ⟨_, rfl, rfl, _, rfl, ?_⟩
          rw [decide_eq_true rfl]
          refine iteT ⟨rfl, _, rfl, p, dx0, _, rfl, hp, rfl, _, rfl, p, d, ws, l, rfl, B, hl, by omega, fun _ H' s' => ⟨rfl, rfl, s'⟩, fun e => ?_, fun e => ?_⟩
          · rw [hw] at e; cases e
          · rw [hw] at e; cases e
        · refine ⟨_, rfl, rfl, _, rfl, ?_⟩
          rw [decide_eq_false (by simp)]
          refine iteF ⟨_, rfl, rfl, _, rfl, ?_⟩
          rw [decide_eq_true rfl]
          refine iteT ⟨rfl, _, rfl, p, dx0, _, rfl, hp, rfl, _, rfl, p, d, ws, l, rfl, B, hl, fun _ H' s' => ⟨rfl, rfl, s'⟩, fun e => ?_, fun e => ?_⟩
          · rw [hw] at e; cases e
          · rw [hw] at e; cases e
        · refine ⟨_, rfl, rfl, _, rfl, ?_⟩
          rw [decide_eq_false (by simp)]
          refine iteF ⟨_, rfl, rfl, _, rfl, ?_⟩
          rw [decide_eq_false (by simp)]
          refine iteF ⟨rfl, _, rfl, p, dx0, _, rfl, hp, rfl, p, d, ws, rfl, B, h64, fun t us H1 s1 ht ht1 pm rs => ?_⟩
          refine ⟨t, _, rfl, .inr (SqT.of ht1), fun L hL => ?_⟩
          have sL : Same H1 (upd H1 L (HO.lst (Ts us))) := Same.upd hL
          have eL : upd H1 L (HO.lst (Ts us)) L = some (.lst (Ts us)) := upd_same
          have s2 := s1.trans sL
          generalize upd H1 L (HO.lst (Ts us)) = H2 at sL eL s2 ⊢
          refine ⟨_, rfl, by show 1 ≤ sizeLine; decide, fun M hM => ?_⟩
          have sM : Same H2 (upd H2 M (HO.lst [.str (S l)])) := Same.upd hM
          have eM : upd H2 M (HO.lst [.str (S l)]) M = some (.lst (Ts [l])) := upd_same
          have eL3 := sM _ _ eL
          have s3 := s2.trans sM
          generalize upd H2 M (HO.lst [.str (S l)]) = H3 at sM eM eL3 s3 ⊢
          have lu : us.length < 64 := by rw [pm.length_eq]; exact h64
          refine ⟨L, M, _, _, rfl, rfl, eL3, eM, Nat.le_of_lt (small1000 (by rw [List.length_map]; simp; omega)), fun N hN => ?_⟩
          have sN : Same H3 (upd H3 N (HO.lst (Ts us ++ Ts [l]))) := Same.upd hN
          have eN : upd H3 N (HO.lst (Ts us ++ Ts [l])) N = some (.lst (Ts (us ++ [l]))) := by rw [upd_same]; simp [Ts]
          have s4 := s3.trans sN
          generalize upd H3 N (HO.lst (Ts us ++ Ts [l])) = H4 at sN eN s4 ⊢
          have B4 : BookAt C H4 p d ws := ⟨⟨dx0, s4 _ _ hp⟩, s4 _ _ B.dc, B.nd, B.az⟩
          refine ⟨_, rfl, p, dx0, _, rfl, s4 _ _ hp, rfl, p, d, ws, rfl, B4, h64, fun t2 us2 H5 s5 ht2 ht3 pm2 rs2 => ?_⟩
          refine ⟨t2, _, rfl, .inr (SqT.of ht3), fun L2 hL2 => ?_⟩
          have sP : Same H5 (upd H5 L2 (HO.lst (Ts us2))) := Same.upd hL2
          have eP : upd H5 L2 (HO.lst (Ts us2)) L2 = some (.lst (Ts us2)) := upd_same
          have eN6 := sP _ _ (s5 _ _ eN)
          have s6 := s4.trans (s5.trans sP)
          generalize upd H5 L2 (HO.lst (Ts us2)) = H6 at sP eP eN6 s6 ⊢
          refine ⟨_, rfl, L2, _, rfl, SqL.of eP, fun R hR => ?_⟩
          obtain ⟨vs, evs, hvl, hvm⟩ : ∃ vs : List (List Nat), cutV (Ts us2) none (some 2) = Ts vs ∧ vs.length ≤ us2.length ∧ ∀ x ∈ vs, x ∈ us2 := by
            refine ⟨_, by unfold cutV Ts; rw [← List.map_drop, ← List.map_take], ?_, fun x hx => List.mem_of_mem_drop (List.mem_of_mem_take hx)⟩
            rw [List.length_take, List.length_drop]; omega
          rw [evs]
          have sR : Same H6 (upd H6 R (HO.lst (Ts vs))) := Same.upd hR
          have eR : upd H6 R (HO.lst (Ts vs)) R = some (.lst (Ts vs)) := upd_same
          have eN7 := sR _ _ eN6
          have s7 := s6.trans sR
          generalize upd H6 R (HO.lst (Ts vs)) = H7 at sR eR eN7 s7 ⊢
          have lu2 : us2.length < 64 := by rw [pm2.length_eq]; exact h64
          refine ⟨N, R, _, _, rfl, rfl, eN7, eR, Nat.le_of_lt (small1000 (by rw [List.length_map, List.length_map]; simp; omega)), fun Z hZ => ?_⟩
          have sZ : Same H7 (upd H7 Z (HO.lst (Ts (us ++ [l]) ++ Ts vs))) := Same.upd hZ
          have eZ : upd H7 Z (HO.lst (Ts (us ++ [l]) ++ Ts vs)) Z = some (.lst (Ts (us ++ [l] ++ vs))) := by rw [upd_same]; simp [Ts]
          have s8 := s7.trans sZ
          generalize upd H7 Z (HO.lst (Ts (us ++ [l]) ++ Ts vs)) = H8 at sZ eZ s8 ⊢
          intro x dx nx ndx nex
          have s9 : Same H8 (upd (upd H8 dx (HO.own x)) x (HO.ins C dx [])) := fun b o e => by rw [upd_ne (ne_of_none e nx), upd_ne (ne_of_none e ndx)]; exact e
          have wl : ∀ y ∈ ws, y.length ≤ 100 := fun y hy => by have := (B.az y hy).hi; omega
          refine ⟨x, dx, Z, us ++ [l] ++ vs, rfl, upd_same, SqL.of (s9 _ _ eZ), fun y hy => ?_, by simp; omega, fun _ H' kp => ⟨rfl, rfl, fun b o e => ?_⟩, fun all => ?_⟩
          · rcases List.mem_append.mp hy with z | z
            · rcases List.mem_append.mp z with z | z
              · exact wl y (pm.mem_iff.mp z)
              · rw [List.mem_singleton.mp z]; exact hl
            · exact wl y (pm2.mem_iff.mp (hvm y z))
          · exact kp b o (s9 _ _ (s8 _ _ e)) (ne_of_none (s8 _ _ e) nx)
          · have := all l (by simp)
            rw [hw] at this; cases this
      · rintro a cls dd H' ⟨rfl, rfl, s3⟩ na
        exact ⟨xN, _, rfl, _, rfl, q a _ (s3.trans (Same.upd na)) upd_same⟩
    · refine ⟨fun cls dd H' => cls = .ref CT ∧ dd = none ∧ Same H H', ?_, ?_⟩
      · refine ⟨_, rfl, rfl, _, rfl, ?_⟩
        rw [decide_eq_true rfl]
        refine iteT ⟨rfl, _, rfl, p, dx0, _, rfl, hp, rfl, _, rfl, p, d, ws, l, rfl, B, hl, by omega, fun e => ?_, fun _ _ H' s' => ⟨rfl, rfl, s'⟩, fun _ e => absurd hm e⟩
        rw [hw] at e; cases e
      · rintro a cls dd H' ⟨rfl, rfl, s3⟩ na
        exact ⟨xT, _, rfl, _, rfl, q a _ (s3.trans (Same.upd na)) upd_same⟩
    · refine ⟨fun cls dd H' => ∃ dx, cls = .ref CW ∧ dd = some dx ∧ Same H H' ∧ H' dx = some (.ext (XD dx [("word", .str (S l))])), ?_, ?_⟩
      · refine ⟨_, rfl, rfl, _, rfl, ?_⟩
        rw [decide_eq_false (by simp)]
        refine iteF ⟨_, rfl, rfl, _, rfl, ?_⟩
        rw [decide_eq_true rfl]
        refine iteT ⟨rfl, _, rfl, p, dx0, _, rfl, hp, rfl, _, rfl, p, d, ws, l, rfl, B, hl, fun e => ?_, fun _ _ dx H' s' hd => ⟨dx, rfl, rfl, s', hd⟩, fun _ e => absurd e hm⟩
        rw [hw] at e; cases e
      · rintro a cls dd H' ⟨dx, rfl, rfl, s3, hd⟩ na
        exact ⟨xW, _, rfl, _, rfl, q a dx _ (s3.trans (Same.upd na)) upd_same (Same.upd na _ _ hd)⟩

end
end My
end

section
set_option Elab.async false
set_option linter.all false
set_option maxRecDepth 100000
set_option maxHeartbeats 2000000
namespace My
open PySem L2
section
variable {P : Program} {w : World} {K : PySem.W.Frag} {mg : Str → Option Value} {base : Heap}
def spBk (K : PySem.W.Frag) : Sp := fun vs H Q _ => ∃ (a : Addr) (ns : List Int) (b m : Nat) (ls : List Nat), vs = [.ref a, .int b, .int m, .str (S ls)] ∧ SqL K H a (ns.map V.int) ∧ ns.length ≤ 100 ∧ b ≤ 100 ∧ m ≤ 60 ∧ Alph ls ∧
  ∀ (p : Addr) (ws : List (List Nat)) (H' : Hp), Same H H' → H' p = some (.lst (Ts ws)) → ws.Nodup → (∀ w ∈ ws, Word w) → ws.length ≤ m → Q (.ref p) H'
theorem ok_book (D : DefAt K mg "_law_book" s_book ["_law_script", "_law_start", "_law_most", "_law_letters_here"]) (D_rows_of : Def P w K mg base "_law_rows_of" 4 ["_law_script", "_law_start", "_law_most"] (spRows K)) (D_word_of : Def P w K mg base "_law_word_of" 1 ["_law_row", "_law_letters_here"] (spWordOf K)) : Def P w K mg base "_law_book" 5 ["_law_script", "_law_start", "_law_most", "_law_letters_here"] (spBk K) := by
  refine D.qok sc_book (fun vs H Q E h => ?_) (fun f cdv A outer s H vs Q E hr h => ?_)
  · obtain ⟨a, ns, b, m, ls, rfl, _⟩ := h
    rfl
  · obtain ⟨a, ns, b, m, ls, rfl, hS, hn, hb, hm, hA, q⟩ := h
    refine ⟨_, (qss_cons (qs_set (i := 4) sc_book.nd rfl (Or.inl rfl) (qe_lst qa_nil)) (qss_cons (qs_for PassesOwn.never rfl (qi_list (qe_own D_rows_of (hr.mono (by decide)) rfl (qa_cons (qv 0) (qa_cons (qv 1) (qa_cons (qv 2) qa_nil))))) (qg_name (i := 5) sc_book.nd rfl (Or.inl rfl)) (qss_cons (qs_set (i := 6) sc_book.nd rfl (Or.inl rfl) (qe_own D_word_of (hr.mono (by decide)) rfl (qa_cons (qv 5) (qa_cons (qv 3) qa_nil)))) (qss_one (qs_if (qt_cmpR op_notIn_seq (qv 6) (qv 4) rfl) (qss_one (qs_expr (qe_bm PySem.F.plainAttrs_list PySem.F.slot_list_append PySem.F.type_list_append mt_append (qv 4) (qa_cons (qv 6) qa_nil)))) qss_nil)))) (qss_one (qs_ret (qv 4))))), ?_⟩
    refine ⟨by show 0 ≤ sizeLine; decide, fun L hL => ?_⟩
    have s1 : Same H (upd H L (HO.lst [])) := Same.upd hL
    have eL : upd H L (HO.lst []) L = some (.lst (Ts [])) := upd_same
    generalize upd H L (HO.lst []) = H1 at s1 eL ⊢
    refine ⟨_, rfl, _, rfl, _, rfl, a, ns, b, m, rfl, s1.seq hS, hn, hb, hm, fun p rs H2 s2 np hp hrl hrs => ?_⟩
    have s02 := s1.trans s2
    have eL2 := s2 _ _ eL
    refine ⟨p, rfl, ⟨_, SqL.of hp⟩, for_list (K := K) (a := p) (xs := rs.map V.ref) (fun i σ H3 => ∃ (v5 v6 : Option V) (ws : List (List Nat)), σ = [some (.ref a), some (.int b), some (.int m), some (.str (S ls)), some (.ref L), v5, v6] ∧ (∀ c o, H2 c = some o → c ≠ L → H3 c = some o) ∧ H3 L = some (.lst (Ts ws)) ∧ ws.Nodup ∧ (∀ w ∈ ws, Word w) ∧ ws.length ≤ i)
      ⟨none, none, [], rfl, fun c o e _ => e, eL2, List.nodup_nil, fun w h => by simp at h, Nat.le_refl _⟩ (fun i σ H3 _ ⟨_, _, _, _, k, _⟩ => SqL.of (k _ _ hp (ne_of_none eL np).symm)) ?_ ?_⟩
    · rintro i y σ H3 hi ⟨v5, v6, ws, rfl, kp, hL3, hnd, hwd, hl⟩
      rw [List.getElem?_map] at hi
      obtain ⟨r, hr2, e⟩ := Option.map_eq_some_iff.mp hi
      subst e
      obtain ⟨ds, hds, d11, dlt⟩ := hrs r (List.mem_of_getElem? hr2)
      have hil : i < rs.length := (List.getElem?_eq_some_iff.mp hr2).1
      have nrL : r ≠ L := fun z => by
        rw [z, eL2] at hds
        have : (ds.map V.int).length = 0 := by injection hds with hds; injection hds with hds; rw [← hds]; rfl
        rw [List.length_map] at this; omega
      refine ⟨_, rfl, _, rfl, r, ds, ls, rfl, SqL.of (kp _ _ hds nrL), ⟨by omega, by omega, fun d hd => by have := dlt d hd; omega⟩, hA, fun wd H4 s4 hw => ?_⟩
      have hL4 := s4 _ _ hL3
      refine ⟨_, rfl, _, rfl, L, Ts ws, rfl, .inl (SqL.of hL4), rfl, flat_ts ws, _, rfl, ?_⟩
      rw [inV_ts]
      by_cases hm2 : wd ∈ ws
      · rw [decide_eq_true hm2]
        exact iteF ⟨_, _, ws, rfl, fun c o e hc => s4 _ _ (kp c o e hc), hL4, hnd, hwd, by omega⟩
      · rw [decide_eq_false hm2]
        refine iteT ⟨_, rfl, .inl ⟨rfl, _, SqL.of hL4⟩, _, rfl, L, _, _, rfl, rfl, hL4, by rw [List.length_map]; exact small1000 (by omega), ?_⟩
        refine ⟨_, _, ws ++ [wd], rfl, fun c o e hc => by rw [upd_ne hc]; exact s4 _ _ (kp c o e hc), by rw [upd_same]; simp [Ts], nd_snoc hnd hm2, fun x hx => ?_, by simp; omega⟩
        rcases List.mem_append.mp hx with z | z
        · exact hwd x z
        · rw [List.mem_singleton.mp z]; exact hw
    · rintro σ H3 ⟨v5, v6, ws, rfl, kp, hL3, hnd, hwd, hl⟩
      rw [List.length_map] at hl
      exact ⟨_, rfl, q L ws H3 (fun c o e => kp c o (s02 _ _ e) (ne_of_none e hL)) hL3 hnd hwd (by omega)⟩

end
end My
end

section
set_option Elab.async false
set_option linter.all false
set_option maxRecDepth 100000
set_option maxHeartbeats 2000000
namespace My
open PySem L2
section
variable {P : Program} {w : World} {K : PySem.W.Frag} {mg : Str → Option Value} {base : Heap}
theorem cut_fromN (l : List Nat) (m : Nat) : cutN l (some (m : Int)) none = l.drop m := by
  unfold cutN
  rw [HT.sIx_nat, HT.sIx_none]
  by_cases h : m ≤ l.length
  · rw [Nat.min_eq_left h, List.take_of_length_le (by rw [List.length_drop]; omega)]
  · rw [Nat.min_eq_right (by omega), List.drop_eq_nil_of_le (show l.length ≤ m by omega)]; simp
theorem nw_c {l : List Nat} {c : Nat} (h : c ∈ l) (hc : ¬ (97 ≤ c ∧ c ≤ 122)) : wordB l = false := by
  cases e : wordB l with
  | false => rfl
  | true => exact absurd ((wordB_iff.mp e).az c h) hc
theorem nw_l {l : List Nat} (h : ¬ (2 ≤ l.length ∧ l.length ≤ 9)) : wordB l = false := by
  cases e : wordB l with
  | false => rfl
  | true => exact absurd ⟨(wordB_iff.mp e).lo, (wordB_iff.mp e).hi⟩ h
def spNoW (K : PySem.W.Frag) : Sp := fun vs H Q _ => ∃ (a : Addr) (ns : List Int) (k : Nat) (ls : List Nat), vs = [.ref a, .int k, .str (S ls)] ∧ SqL K H a (ns.map V.int) ∧ k ≤ 1000 ∧ Alph ls ∧
  ∀ (l : List Nat) (H' : Hp), Same H H' → l.length ≤ 100 → wordB l = false → Q (.str (S l)) H'
theorem ok_no_word (D : DefAt K mg "_law_no_word" s_no_word ["_law_script", "_law_place", "_law_letters_here"]) (n_len : mg "len" = none) (D_digits : Def P w K mg base "_law_digits" 3 ["_law_script", "_law_k", "_law_base", "_law_many"] (spDig K)) (D_word_of : Def P w K mg base "_law_word_of" 1 ["_law_row", "_law_letters_here"] (spWordOf K)) : Def P w K mg base "_law_no_word" 4 ["_law_script", "_law_place", "_law_letters_here"] (spNoW K) := by
  refine D.qok sc_no_word (fun vs H Q E h => ?_) (fun f cdv A outer s H vs Q E hr h => ?_)
  · obtain ⟨a, ns, k, ls, rfl, _⟩ := h
    rfl
  · obtain ⟨a, ns, k, ls, rfl, hS, hk, hA, q⟩ := h
    refine ⟨_, (qss_cons (qs_set (i := 3) sc_no_word.nd rfl (Or.inl rfl) (qe_own D_digits (hr.mono (by decide)) rfl (qa_cons (qv 0) (qa_cons (qv 1) (qa_cons qe_int (qa_cons qe_int qa_nil)))))) (qss_cons (qs_set (i := 4) sc_no_word.nd rfl (Or.inl rfl) (qe_own D_word_of (hr.mono (by decide)) rfl (qa_cons (qv 3) (qa_cons (qv 2) qa_nil)))) (qss_cons (qs_set (i := 5) sc_no_word.nd rfl (Or.inl rfl) (qe_ix ix_list (qv 3) qe_int (fun _ _ => rfl))) (qss_cons (qs_set (i := 6) sc_no_word.nd rfl (Or.inl rfl) (qe_op op_mod (qe_ix ix_list (qv 3) qe_int (fun _ _ => rfl)) (qe_callB call_lenS (by rfl) n_len PySem.boot_len (qa_cons (qv 4) qa_nil)))) (qss_cons (qs_set (i := 7) sc_no_word.nd rfl (Or.inl rfl) (qe_lst (qa_cons (qe_strS [] (by decide +kernel)) (qa_cons (qe_ix ix_S (qv 2) qe_int (fun _ _ => rfl)) (qa_cons (qe_slice sl_S (qe_op op_mulS (qv 2) qe_int) qo_none (qo_some qe_int)) (qa_cons (qe_op op_addS (qe_op op_addS (qe_slice sl_S (qv 4) qo_none (qo_some (qv 6))) (qe_bm0 PySem.F.plainAttrs_str PySem.F.slot_str_upper PySem.F.type_str_upper mt_upA (qe_ix ix_S (qv 4) (qv 6) (fun _ _ => rfl)))) (qe_slice sl_S (qv 4) (qo_some (qe_op op_add (qv 6) qe_int)) qo_none)) qa_nil)))))) (qss_cons (qs_expr (qe_bm PySem.F.plainAttrs_list PySem.F.slot_list_append PySem.F.type_list_append mt_append (qv 7) (qa_cons (qe_op op_addS (qe_op op_addS (qe_slice sl_S (qv 4) qo_none (qo_some (qv 6))) (qe_strS [43] (by decide +kernel))) (qe_slice sl_S (qv 4) (qo_some (qv 6)) qo_none)) qa_nil))) (qss_cons (qs_set (i := 7) sc_no_word.nd rfl (Or.inl rfl) (qe_op op_cat (qv 7) (qe_lst (qa_cons (qe_op op_addS (qe_strS [32] (by decide +kernel)) (qv 4)) (qa_cons (qe_op op_addS (qv 4) (qe_strS [32] (by decide +kernel))) (qa_cons (qe_op op_addS (qe_op op_addS (qe_slice sl_S (qv 4) qo_none (qo_some qe_int)) (qe_strS [49] (by decide +kernel))) (qe_slice sl_S (qv 4) (qo_some qe_int) (qo_some qe_int))) (qa_cons (qe_op op_addS (qe_slice sl_S (qv 4) qo_none (qo_some qe_int)) (qe_strS [10] (by decide +kernel))) (qa_cons (qe_op op_addS (qe_slice sl_S (qv 4) qo_none (qo_some qe_int)) (qe_strS [63] (by decide +kernel))) qa_nil)))))))) (qss_one (qs_ret (qe_ix ix_list (qv 7) (qe_op op_mod (qv 5) qe_int) (fun _ _ => rfl))))))))))), ?_⟩
    have hl1 := hA.lo
    have hl2 := hA.hi
    have hzl : ls.length ≤ sizeLine := Nat.le_of_lt (small1000 (by omega))
    refine ⟨_, rfl, _, rfl, a, ns, k, 520, 12, rfl, hS, hk, by decide, by decide, by decide, fun p ds H1 s1 np hp hd hb => ?_⟩
    have at_ : ∀ m, (h : m < ds.length) → (ds.map V.int)[m]? = some (V.int ds[m]) := fun m h => by rw [List.getElem?_map, List.getElem?_eq_getElem h]; rfl
    have h10 : 10 < ds.length := by omega
    have h11 : 11 < ds.length := by omega
    refine ⟨_, rfl, _, rfl, p, ds, ls, rfl, SqL.of hp, ⟨by omega, by omega, fun d h => by have := hb d h; omega⟩, hA, fun wd H2 s2 hw => ?_⟩
    have w2 := hw.lo
    have w9 := hw.hi
    have hzw : wd.length ≤ sizeLine := Nat.le_of_lt (small1000 (by omega))
    have hp2 := s2 _ _ hp
    have s12 := s1.trans s2
    refine ⟨_, rfl, p, _, _, .int ds[10], rfl, rfl, SqL.of hp2, atI_nat (j := 10) (at_ 10 h10), ?_⟩
    refine ⟨_, rfl, p, _, _, .int ds[11], rfl, rfl, SqL.of hp2, atI_nat (j := 11) (at_ 11 h11), _, rfl, wd, rfl, hzw, _, _, rfl, rfl, (by show (0 : Int) < (wd.length : Int); omega), ?_⟩
    have j0 := Int.emod_nonneg ds[11] (show (wd.length : Int) ≠ 0 by omega)
    have j1 := Int.emod_lt_of_pos ds[11] (show (0 : Int) < (wd.length : Int) by omega)
    obtain ⟨j, ej⟩ : ∃ j : Nat, ds[11] % (wd.length : Int) = j := ⟨(ds[11] % (wd.length : Int)).toNat, by omega⟩
    have hj : j < wd.length := by omega
    dsimp only
    rw [ej]
    have h0 : 0 < ls.length := by omega
    refine ⟨_, rfl, ls, _, ls[0], rfl, rfl, hzl, atI_nat (j := 0) (List.getElem?_eq_getElem h0), ?_⟩
    have hz : ∀ n, n ≤ 1000 → n ≤ sizeLine := fun n h => Nat.le_of_lt (small1000 h)
    have wz : ∀ c ∈ wd, c < 128 := fun c hc => by have := (hw.az c hc).2; omega
    have l5 : (List.replicate 5 ls).flatten.length = 5 * ls.length := by simp [List.length_flatten]; omega
    refine ⟨_, rfl, ls, 5, rfl, rfl, by decide, by decide, by omega, _, rfl, _, rfl, hz _ (by rw [l5]; omega), ?_⟩
    rw [show (10 : Int) = ((10 : Nat) : Int) from rfl, cut_to]
    refine ⟨_, rfl, _, rfl, _, rfl, wd, rfl, hzw, ?_⟩
    rw [cut_to]
    refine ⟨_, rfl, _, rfl, wd, _, wd[j], rfl, rfl, hzw, atI_nat (List.getElem?_eq_getElem hj), ?_⟩
    obtain ⟨u, eu, u1, u2⟩ : ∃ u, [wd[j]].map PyProof.Rows.up1 = [u] ∧ 65 ≤ u ∧ u ≤ 90 := by
      have h := hw.az wd[j] (List.getElem_mem hj)
      have h1 := h.1
      have h2 := h.2
      refine ⟨_, rfl, ?_⟩
      show 65 ≤ PyProof.Rows.up1 wd[j] ∧ PyProof.Rows.up1 wd[j] ≤ 90
      unfold PyProof.Rows.up1
      rw [if_pos ⟨by omega, by omega⟩]
      omega
    refine ⟨rfl, [wd[j]], rfl, rfl, by show 1 ≤ 1000; decide, fun c hc => by rw [List.mem_singleton.mp hc]; exact wz _ (List.getElem_mem hj), ?_⟩
    rw [eu]
    refine ⟨wd.take j, [u], rfl, rfl, hz _ (by rw [List.length_take]; simp; omega), _, rfl, _, rfl, _, _, rfl, rfl, _, rfl, wd, rfl, hzw, ?_⟩
    rw [show (j : Int) + 1 = ((j + 1 : Nat) : Int) by omega, cut_fromN]
    refine ⟨wd.take j ++ [u], wd.drop (j + 1), rfl, rfl, hz _ (by rw [List.length_append, List.length_take, List.length_drop]; simp; omega), by show 4 ≤ sizeLine; decide, fun L hL => ?_⟩
    have sL : Same H2 (upd H2 L (HO.lst [V.str (S []), V.str (S [ls[0]]), V.str (S ((List.replicate 5 ls).flatten.take 10)), V.str (S (wd.take j ++ [u] ++ wd.drop (j + 1)))])) := Same.upd hL
    have eL : upd H2 L (HO.lst [V.str (S []), V.str (S [ls[0]]), V.str (S ((List.replicate 5 ls).flatten.take 10)), V.str (S (wd.take j ++ [u] ++ wd.drop (j + 1)))]) L = some (.lst (Ts [[], [ls[0]], (List.replicate 5 ls).flatten.take 10, wd.take j ++ [u] ++ wd.drop (j + 1)])) := upd_same
    have s3 := s12.trans sL
    have nL0 : H L = none := s12.free hL
    generalize upd H2 L (HO.lst [V.str (S []), V.str (S [ls[0]]), V.str (S ((List.replicate 5 ls).flatten.take 10)), V.str (S (wd.take j ++ [u] ++ wd.drop (j + 1)))]) = H3 at sL eL s3 ⊢
    refine ⟨_, rfl, .inl ⟨rfl, _, SqL.of eL⟩, _, rfl, _, rfl, _, rfl, wd, rfl, hzw, ?_⟩
    rw [cut_to]
    refine ⟨wd.take j, [43], rfl, rfl, hz _ (by rw [List.length_take]; simp; omega), _, rfl, _, rfl, _, rfl, wd, rfl, hzw, ?_⟩
    rw [cut_fromN]
    refine ⟨wd.take j ++ [43], wd.drop j, rfl, rfl, hz _ (by rw [List.length_append, List.length_take, List.length_drop]; simp; omega), L, _, _, rfl, rfl, eL, by show 4 < sizeLine; decide, ?_⟩
    have s4 : Same H (upd H3 L (HO.lst (Ts [[], [ls[0]], (List.replicate 5 ls).flatten.take 10, wd.take j ++ [u] ++ wd.drop (j + 1)] ++ [V.str (S (wd.take j ++ [43] ++ wd.drop j))]))) := s3.upd' nL0
    have eL4 : upd H3 L (HO.lst (Ts [[], [ls[0]], (List.replicate 5 ls).flatten.take 10, wd.take j ++ [u] ++ wd.drop (j + 1)] ++ [V.str (S (wd.take j ++ [43] ++ wd.drop j))])) L = some (.lst (Ts ([[], [ls[0]], (List.replicate 5 ls).flatten.take 10, wd.take j ++ [u] ++ wd.drop (j + 1)] ++ [wd.take j ++ [43] ++ wd.drop j]))) := upd_same
    generalize upd H3 L (HO.lst (Ts [[], [ls[0]], (List.replicate 5 ls).flatten.take 10, wd.take j ++ [u] ++ wd.drop (j + 1)] ++ [V.str (S (wd.take j ++ [43] ++ wd.drop j))])) = H4 at s4 eL4 ⊢
    have c13 : (cutN wd (some 1) (some 3)).length ≤ wd.length := cutN_le _ _ _
    refine ⟨_, rfl, _, rfl, [32], wd, rfl, rfl, hz _ (by simp; omega), _, rfl, wd, [32], rfl, rfl, hz _ (by simp; omega), _, rfl, _, rfl, wd, rfl, hzw, ?_⟩
    rw [show cutN wd none (some 1) = wd.take 1 from cut_to wd 1]
    refine ⟨wd.take 1, [49], rfl, rfl, hz _ (by rw [List.length_take]; simp; omega), _, rfl, _, rfl, _, rfl, wd, rfl, hzw, ?_⟩
    refine ⟨wd.take 1 ++ [49], cutN wd (some 1) (some 3), rfl, rfl, hz _ (by rw [List.length_append, List.length_take]; simp; omega), _, rfl, _, rfl, wd, rfl, hzw, ?_⟩
    rw [show cutN wd none (some 2) = wd.take 2 from cut_to wd 2]
    refine ⟨wd.take 2, [10], rfl, rfl, hz _ (by rw [List.length_take]; simp; omega), _, rfl, _, rfl, wd, rfl, hzw, ?_⟩
    rw [show cutN wd none (some 1) = wd.take 1 from cut_to wd 1]
    refine ⟨wd.take 1, [63], rfl, rfl, hz _ (by rw [List.length_take]; simp; omega), by show 5 ≤ sizeLine; decide, fun M hM => ?_⟩
    have sM : Same H4 (upd H4 M (HO.lst [V.str (S ([32] ++ wd)), V.str (S (wd ++ [32])), V.str (S (wd.take 1 ++ [49] ++ cutN wd (some 1) (some 3))), V.str (S (wd.take 2 ++ [10])), V.str (S (wd.take 1 ++ [63]))])) := Same.upd hM
    have eM : upd H4 M (HO.lst [V.str (S ([32] ++ wd)), V.str (S (wd ++ [32])), V.str (S (wd.take 1 ++ [49] ++ cutN wd (some 1) (some 3))), V.str (S (wd.take 2 ++ [10])), V.str (S (wd.take 1 ++ [63]))]) M = some (.lst (Ts [[32] ++ wd, wd ++ [32], wd.take 1 ++ [49] ++ cutN wd (some 1) (some 3), wd.take 2 ++ [10], wd.take 1 ++ [63]])) := upd_same
    have eL5 := sM _ _ eL4
    have s5 := s4.trans sM
    generalize upd H4 M (HO.lst [V.str (S ([32] ++ wd)), V.str (S (wd ++ [32])), V.str (S (wd.take 1 ++ [49] ++ cutN wd (some 1) (some 3))), V.str (S (wd.take 2 ++ [10])), V.str (S (wd.take 1 ++ [63]))]) = H5 at sM eM eL5 s5 ⊢
    refine ⟨L, M, _, _, rfl, rfl, eL5, eM, by show 5 + 5 ≤ sizeLine; decide, fun N hN => ?_⟩
    have sN : Same H5 (upd H5 N (HO.lst (Ts ([[], [ls[0]], (List.replicate 5 ls).flatten.take 10, wd.take j ++ [u] ++ wd.drop (j + 1)] ++ [wd.take j ++ [43] ++ wd.drop j]) ++ Ts [[32] ++ wd, wd ++ [32], wd.take 1 ++ [49] ++ cutN wd (some 1) (some 3), wd.take 2 ++ [10], wd.take 1 ++ [63]]))) := Same.upd hN
    have eN : upd H5 N (HO.lst (Ts ([[], [ls[0]], (List.replicate 5 ls).flatten.take 10, wd.take j ++ [u] ++ wd.drop (j + 1)] ++ [wd.take j ++ [43] ++ wd.drop j]) ++ Ts [[32] ++ wd, wd ++ [32], wd.take 1 ++ [49] ++ cutN wd (some 1) (some 3), wd.take 2 ++ [10], wd.take 1 ++ [63]])) N = some (.lst (Ts (([[], [ls[0]], (List.replicate 5 ls).flatten.take 10, wd.take j ++ [u] ++ wd.drop (j + 1)] ++ [wd.take j ++ [43] ++ wd.drop j]) ++ [[32] ++ wd, wd ++ [32], wd.take 1 ++ [49] ++ cutN wd (some 1) (some 3), wd.take 2 ++ [10], wd.take 1 ++ [63]]))) := upd_same
    have s6 := s5.trans sN
    generalize upd H5 N (HO.lst (Ts ([[], [ls[0]], (List.replicate 5 ls).flatten.take 10, wd.take j ++ [u] ++ wd.drop (j + 1)] ++ [wd.take j ++ [43] ++ wd.drop j]) ++ Ts [[32] ++ wd, wd ++ [32], wd.take 1 ++ [49] ++ cutN wd (some 1) (some 3), wd.take 2 ++ [10], wd.take 1 ++ [63]])) = H6 at sN eN s6 ⊢
    obtain ⟨x, hx, hxm⟩ := at_modA (xs := Ts (([[], [ls[0]], (List.replicate 5 ls).flatten.take 10, wd.take j ++ [u] ++ wd.drop (j + 1)] ++ [wd.take j ++ [43] ++ wd.drop j]) ++ [[32] ++ wd, wd ++ [32], wd.take 1 ++ [49] ++ cutN wd (some 1) (some 3), wd.take 2 ++ [10], wd.take 1 ++ [63]])) (n := 10) rfl (by decide) ds[10]
    obtain ⟨t, ht, rfl⟩ := List.mem_map.mp hxm
    refine ⟨_, rfl, _, rfl, _, _, rfl, rfl, (by show (0 : Int) < 10; decide), N, _, _, .str (S t), rfl, rfl, SqL.of eN, hx, ?_⟩
    have tk : ∀ n, (wd.take n).length ≤ wd.length := fun n => by rw [List.length_take]; omega
    have dr : ∀ n, (wd.drop n).length ≤ wd.length := fun n => by rw [List.length_drop]; omega
    have tj := tk j
    have t1 := tk 1
    have t2 := tk 2
    have d1 := dr (j + 1)
    have d2 := dr j
    simp only [List.mem_append, List.mem_cons, List.not_mem_nil, or_false] at ht
    have fin : t.length ≤ 100 ∧ wordB t = false := by
      rcases ht with ((h | h | h | h) | h) | h | h | h | h | h <;> subst h
      · exact ⟨by simp, nw_l (by simp)⟩
      · exact ⟨by simp, nw_l (by simp)⟩
      · exact ⟨by rw [List.length_take]; omega, nw_l (by rw [List.length_take, l5]; omega)⟩
      · exact ⟨by rw [List.length_append, List.length_append, List.length_singleton]; omega, nw_c (c := u) (by simp) (by omega)⟩
      · exact ⟨by rw [List.length_append, List.length_append, List.length_singleton]; omega, nw_c (c := 43) (by simp) (by decide)⟩
      · exact ⟨by rw [List.length_append, List.length_singleton]; omega, nw_c (c := 32) (by simp) (by decide)⟩
      · exact ⟨by rw [List.length_append, List.length_singleton]; omega, nw_c (c := 32) (by simp) (by decide)⟩
      · exact ⟨by rw [List.length_append, List.length_append, List.length_singleton]; omega, nw_c (c := 49) (by simp) (by decide)⟩
      · exact ⟨by rw [List.length_append, List.length_singleton]; omega, nw_c (c := 10) (by simp) (by decide)⟩
      · exact ⟨by rw [List.length_append, List.length_singleton]; omega, nw_c (c := 63) (by simp) (by decide)⟩
    exact q t _ s6 fin.1 fin.2

end
end My
end

section
set_option Elab.async false
set_option linter.all false
set_option maxRecDepth 100000
set_option maxHeartbeats 2000000
namespace My
open PySem L2
section
variable {P : Program} {w : World} {K : PySem.W.Frag} {mg : Str → Option Value} {base : Heap}
theorem srt_uniq {a b : List (List Nat)} (p : a.Perm b) (h1 : Rise a) (h2 : Rise b) : a = b :=
  p.eq_of_pairwise (le := fun x y => decide (y < x) = false) (fun x y _ _ z1 z2 => List.le_antisymm (List.not_lt.mp (of_decide_eq_false z1)) (List.not_lt.mp (of_decide_eq_false z2))) h1 h2
theorem HasDs.of6 {H : Hp} : ∀ {ls : List (List Nat)}, (∀ l ∈ ls, Word l) → HasDs K H 0 (ls.map Dt.str) (Ts ls)
  | [], _ => .nil
  | l :: ls, h => .cons (.str l fun c hc => by have := ((h l List.mem_cons_self).az c hc).2; omega) (HasDs.of6 fun l' hl' => h l' (List.mem_cons_of_mem _ hl'))
theorem passFT {X : Cx} : PassesS (CXE X.prog X.w) X (fun _ _ _ => False) (fun _ => True) := fun _ _ _ _ _ _ _ _ ⟨_, _, _, _, _, _, _, z⟩ => z.elim
theorem nd_take {ws : List (List Nat)} {i : Nat} {l : List Nat} (nd : ws.Nodup) (h : ws[i]? = some l) : l ∉ ws.take i := fun hm => by
  obtain ⟨k, hk, e⟩ := List.mem_iff_getElem.mp hm
  rw [List.length_take] at hk
  rw [List.getElem_take] at e
  obtain ⟨hi, e2⟩ := List.getElem?_eq_some_iff.mp h
  exact List.pairwise_iff_getElem.mp nd k i (by omega) hi (by omega) (e.trans e2.symm)
structure Refs (K : PySem.W.Frag) (Cs : List Addr) (CN CT CW : Addr) : Prop where
  iN : ExcIs K CN
  iT : ExcIs K CT
  iW : ExcIs K CW
  vN : PySem.W.kitOne K (.ref CN) (.type "ValueError") = some true
  vT : PySem.W.kitOne K (.ref CT) (.type "ValueError") = some true
  vW : PySem.W.kitOne K (.ref CW) (.type "ValueError") = some true
  kN : ∀ i D, Cs[i]? = some D → PySem.W.kitOne K (.ref CN) (.ref D) = some (decide (i = 0))
  kT : ∀ i D, Cs[i]? = some D → PySem.W.kitOne K (.ref CT) (.ref D) = some (decide (i = 1))
  kW : ∀ i D, Cs[i]? = some D → PySem.W.kitOne K (.ref CW) (.ref D) = some (decide (i = 2))
  hd : PySem.W.hasDictIn K CW = true
  nw : PySem.W.findIn K (.ref CW) "word" = some none
theorem ok_law {f C CN CT CW f0 f1 f2 f3 : Addr} {Cs : List Addr} {fd fd0 fd1 fd2 fd3 : FuncData} (F : Fun K "law" "law" s_law f fd) (n_range : mg "range" = none) (n_isinstance : mg "isinstance" = none) (n_str : mg "str" = none) (mg_Book : mg "Book" = some (.ref C)) (T_Book : BookCls K C) (M_Book : Mk K C f0) (R : Refs K Cs CN CT CW)
    (G_Book : FnOk P w K mg base (CXE P w) 3 f0 fd0 ["self", "words"] (spInitX K C CN)) (b_Book : Binds K fd0 ["self", "words"] [])
    (m_Book_take_out : Meth K C "take_out" f1) (G_Book_take_out : FnOk P w K mg base (CXE P w) 3 f1 fd1 ["self", "word"] (spTakeX C CN CW)) (b_Book_take_out : Binds K fd1 ["self", "word"] [])
    (m_Book_words : Meth K C "words" f2) (G_Book_words : FnOk P w K mg base CX0 1 f2 fd2 ["self"] (spWords C)) (b_Book_words : Binds K fd2 ["self"] [])
    (m_Book_has : Meth K C "has" f3) (G_Book_has : FnOk P w K mg base CX0 1 f3 fd3 ["self", "text"] (spHas C)) (b_Book_has : Binds K fd3 ["self", "text"] [])
    (D_letters : Def P w K mg base "_law_letters" 4 ["_law_script", "_law_k"] (spLet K)) (D_book : Def P w K mg base "_law_book" 5 ["_law_script", "_law_start", "_law_most", "_law_letters_here"] (spBk K)) (D_no_word : Def P w K mg base "_law_no_word" 4 ["_law_script", "_law_place", "_law_letters_here"] (spNoW K))
    (D_word : Def P w K mg base "_law_word" 4 ["_law_letters_here", "_law_script", "_law_k"] (spWord K)) (D_which : Def P w K mg base "_law_which" 1 ["_law_error"] (spWhich K Cs)) (D_told : Def P w K mg base "_law_told" 6 ["_law_book_here", "_law_way", "_law_word_here"] (spToldB C CN CT CW)) : FnOk P w K mg base CX0 8 f fd ["_law_script"] (spLaw K) := by
  refine F.qok sc_law (fun vs H Q E h => ?_) (fun cdv A outer s H vs Q E hr h => ?_)
  · obtain ⟨a, ns, rfl, _⟩ := h
    rfl
  · obtain ⟨a, ns, rfl, hS, hn, q⟩ := h
    refine ⟨_, (qss_cons (qs_set (i := 1) sc_law.nd rfl (Or.inl rfl) (qe_own D_letters (hr.mono (by decide)) rfl (qa_cons (qv 0) (qa_cons qe_int qa_nil)))) (qss_cons (qs_set (i := 2) sc_law.nd rfl (Or.inl rfl) (qe_own D_book (hr.mono (by decide)) rfl (qa_cons (qv 0) (qa_cons qe_int (qa_cons qe_int (qa_cons (qv 1) qa_nil)))))) (qss_cons (qs_set (i := 3) sc_law.nd rfl (Or.inl rfl) (qe_makeS M_Book G_Book (hr.mono (by decide)) rfl mg_Book b_Book passFT (qa_cons (qv 2) qa_nil))) (qss_cons (qs_set (i := 4) sc_law.nd rfl (Or.inl rfl) (qe_meth0 (qv 3) T_Book.cl m_Book_words G_Book_words (hr.mono (by decide)) b_Book_words .nil pass0)) (qss_cons (qs_for PassesOwn.never rfl (qi_range2 (by rfl) n_range (qa_cons qe_int (qa_cons qe_int qa_nil))) (qg_name (i := 5) sc_law.nd rfl (Or.inl rfl)) (qss_cons (qs_set (i := 6) sc_law.nd rfl (Or.inl rfl) (qe_own D_no_word (hr.mono (by decide)) rfl (qa_cons (qv 0) (qa_cons (qv 5) (qa_cons (qv 1) qa_nil))))) (qss_one (qs_for PassesOwn.never rfl (qi_range1 (by rfl) n_range (qa_cons qe_int qa_nil)) (qg_name (i := 7) sc_law.nd rfl (Or.inl rfl)) (qss_one (qs_if (QW.qt (qw_or (qt_cmpR op_ne (qe_own D_which (hr.mono (by decide)) rfl (qa_cons (qe_own D_told (hr.mono (by decide)) rfl (qa_cons (qv 3) (qa_cons (qv 7) (qa_cons (qv 6) qa_nil)))) qa_nil)) qe_int (nomark _)) (qw_or1 (qt_cmpR (op_neD hr.units) (qe_meth0 (qv 3) T_Book.cl m_Book_words G_Book_words (hr.mono (by decide)) b_Book_words .nil pass0) (qv 4) (nomark _))))) (qss_one (qs_ret qe_bl)) qss_nil)))))) (qss_cons (qs_set (i := 8) sc_law.nd rfl (Or.inl rfl) (qe_own D_word (hr.mono (by decide)) rfl (qa_cons (qv 1) (qa_cons (qv 0) (qa_cons qe_int qa_nil))))) (qss_cons (qs_cut (qs_if (qt_cmpR op_notIn_seq (qv 8) (qv 2) rfl) (qss_cons (qs_set (i := 9) sc_law.nd rfl (Or.inl rfl) (qe_own D_told (hr.mono (by decide)) rfl (qa_cons (qv 3) (qa_cons qe_int (qa_cons (qv 8) qa_nil))))) (qss_one (qs_if (QW.qt (qw_or (qt_cmpR op_ne (qe_own D_which (hr.mono (by decide)) rfl (qa_cons (qv 9) qa_nil)) qe_int (nomark _)) (qw_or (qt_not (qt_val (qe_callB call_isinst (by rfl) n_isinstance PyProof.Rows.boot_isinstance (qa_cons (qe_fldX (qv 9) rfl) (qa_cons (qe_bltn (v := .ty "str") (by rfl) n_str PyProof.Rows.boot_str rfl) qa_nil))))) (qw_or (qt_cmpR (op_neD hr.units) (qe_fldX (qv 9) rfl) (qv 8) (nomark _)) (qw_or1 (qt_cmpR (op_neD hr.units) (qe_meth0 (qv 3) T_Book.cl m_Book_words G_Book_words (hr.mono (by decide)) b_Book_words .nil pass0) (qv 4) (nomark _))))))) (qss_one (qs_ret qe_bl)) qss_nil))) qss_nil)) (qss_cons (qs_for PassesOwn.never rfl (qi_list (qv 2)) (qg_name (i := 6) sc_law.nd rfl (Or.inl rfl)) (qss_one (qs_if (QW.qt (qw_or (qt_cmpR op_ne (qe_own D_which (hr.mono (by decide)) rfl (qa_cons (qe_own D_told (hr.mono (by decide)) rfl (qa_cons (qv 3) (qa_cons qe_int (qa_cons (qv 6) qa_nil)))) qa_nil)) qe_int (nomark _)) (qw_or1 (qt_cmpR (op_neD hr.units) (qe_meth0 (qv 3) T_Book.cl m_Book_words G_Book_words (hr.mono (by decide)) b_Book_words .nil pass0) (qv 4) (nomark _))))) (qss_one (qs_ret qe_bl)) qss_nil))) (qss_cons (qs_for PassesOwn.never rfl (qi_list (qv 2)) (qg_name (i := 6) sc_law.nd rfl (Or.inl rfl)) (qss_cons (qs_expr (qe_methS (qv 3) T_Book.cl m_Book_take_out G_Book_take_out (hr.mono (by decide)) b_Book_take_out passFT (qa_cons (qv 6) qa_nil))) (qss_cons (qs_set (i := 9) sc_law.nd rfl (Or.inl rfl) (qe_own D_told (hr.mono (by decide)) rfl (qa_cons (qv 3) (qa_cons qe_int (qa_cons (qv 6) qa_nil))))) (qss_one (qs_if (QW.qt (qw_or (qt_cmpR op_ne (qe_own D_which (hr.mono (by decide)) rfl (qa_cons (qv 9) qa_nil)) qe_int (nomark _)) (qw_or (qt_cmpR (op_neD hr.units) (qe_fldX (qv 9) rfl) (qv 6) (nomark _)) (qw_or1 (qt_val (qe_meth (qv 3) T_Book.cl m_Book_has G_Book_has (hr.mono (by decide)) b_Book_has .nil pass0 (qa_cons (qv 6) qa_nil))))))) (qss_one (qs_ret qe_bl)) qss_nil))))) (qss_one (qs_ret (qe_cmpR (op_eqD hr.units) (qe_meth0 (qv 3) T_Book.cl m_Book_words G_Book_words (hr.mono (by decide)) b_Book_words .nil pass0) (qe_tup qa_nil) (nomark _))))))))))))), ?_⟩
    refine ⟨_, rfl, a, ns, 0, rfl, hS, by decide, fun ls H1 s1 hA => ?_⟩
    refine ⟨_, rfl, _, rfl, a, ns, 5, 40, ls, rfl, s1.seq hS, by omega, by decide, by decide, hA, fun L ws H2 s2 eL nd wd lw => ?_⟩
    refine ⟨True.intro, _, rfl, fun x dx nx ndx nex => ?_⟩
    have s23 : Same H2 (upd (upd H2 dx (HO.own x)) x (HO.ins C dx [])) := fun b o e => by rw [upd_ne (ne_of_none e nx), upd_ne (ne_of_none e ndx)]; exact e
    have wB : ∀ l ∈ ws, wordB l = true := fun l hl => wordB_iff.mpr (wd l hl)
    refine ⟨x, dx, L, ws, rfl, upd_same, SqL.of (s23 _ _ eL), fun l hl => by have := (wd l hl).hi; omega, by omega, fun ⟨l, hl, e⟩ => (by rw [wB l hl] at e; cases e), fun _ d bs H3 nd3 BA bm bl kp => ⟨rfl, ?_⟩⟩
    have s24 : Same H2 H3 := fun b o e => kp b o (s23 b o e) (ne_of_none e nx)
    have bl64 : bs.length < 64 := by omega
    obtain ⟨dx3, hx3⟩ := BA.ob
    refine ⟨_, rfl, x, dx3, _, rfl, hx3, rfl, x, d, bs, rfl, BA, bl64, fun t us H4 s4 nt et pm rs => ?_⟩
    have uw : ∀ l ∈ us, Word l := fun l hl => BA.az l (pm.mem_iff.mp hl)
    have BAm : ∀ H5, Same H4 H5 → BookAt C H5 x d bs := fun H5 s5 => ⟨⟨dx3, s5 _ _ (s4 _ _ hx3)⟩, s5 _ _ (s4 _ _ BA.dc), BA.nd, BA.az⟩
    have bx : ∀ H5, Same H4 H5 → H5 x = some (.ins C dx3 [("held", .ref d)]) := fun H5 s5 => s5 _ _ (s4 _ _ hx3)
    have s04 : Same H H4 := s1.trans (s2.trans (s24.trans s4))
    refine ⟨1, 4, rfl, ⟨by decide, by decide, by decide, by decide⟩, ?_⟩
    refine for_range (lo := 1) (fun i σ H5 => ∃ v5 v6 v7 : Option V, σ = [some (.ref a), some (.str (S ls)), some (.ref L), some (.ref x), some (.ref t), v5, v6, v7, none, none] ∧ Same H4 H5) ⟨none, none, none, rfl, Same.refl _⟩ ?_ ?_
    · rintro i σ H5 hi ⟨v5, v6, v7, rfl, s5⟩
      refine ⟨_, rfl, _, rfl, _, rfl, a, ns, 1 + i, ls, rfl, (s04.trans s5).seq hS, by omega, hA, fun l H6 s6 hl hw => ?_⟩
      have s46 := s5.trans s6
      refine ⟨3, rfl, by decide, by decide, ?_⟩
      refine for_range (lo := 0) (fun i2 σ H7 => ∃ v7 : Option V, σ = [some (.ref a), some (.str (S ls)), some (.ref L), some (.ref x), some (.ref t), some (.int (1 + (i : Int))), some (.str (S l)), v7, none, none] ∧ Same H4 H7) ⟨v7, rfl, s46⟩ ?_ ?_
      · rintro i2 σ H7 hi2 ⟨w7, rfl, s7⟩
        have hi3 : i2 < 3 := by simpa using hi2
        refine ⟨_, rfl, _, rfl, _, rfl, x, d, bs, 0 + (i2 : Int), l, rfl, BAm _ s7, hl, bl64, .inl ⟨hw, by omega, fun e H8 s8 he => ?_⟩⟩
        refine ⟨e, CN, none, 0, rfl, he, True.intro, R.iN, R.vN, by decide, R.kN, fun H9 s9 => ?_⟩
        have s49 := s7.trans (s8.trans s9)
        refine ⟨rfl, _, rfl, iteNS rfl ?_⟩
        refine ⟨_, rfl, x, dx3, _, rfl, bx _ s49, rfl, x, d, bs, rfl, BAm _ s49, bl64, fun t2 us2 H10 s10 nt2 et2 pm2 rs2 => ?_⟩
        have eu : us2 = us := srt_uniq (pm2.trans pm.symm) rs2 rs
        subst eu
        have s410 := s49.trans s10
        refine ⟨_, rfl, 1, _, _, by decide, .tup (SqT.of et2) (HasDs.of6 uw), .tup (SqT.of (s410 _ _ et)) (HasDs.of6 uw), _, rfl, ?_⟩
        simp only [if_true, decide_true, Bool.not_true]
        refine iteF ⟨_, rfl, s410⟩
      · rintro σ H7 ⟨w7, rfl, s7⟩
        exact ⟨_, _, _, rfl, s7⟩
    · rintro σ H5 ⟨v5, v6, v7, rfl, s5⟩
      refine ⟨_, rfl, _, rfl, a, ns, 4, ls, rfl, (s04.trans s5).seq hS, by decide, hA, fun aw H6 s6 hw => ?_⟩
      have s46 := s5.trans s6
      have awz : ∀ c ∈ aw, c < 128 := fun c hc => by have := (hw.az c hc).2; omega
      refine ⟨fun σ' H' => ∃ v9 : Option V, σ' = [some (.ref a), some (.str (S ls)), some (.ref L), some (.ref x), some (.ref t), v5, v6, v7, some (.str (S aw)), v9] ∧ Same H4 H', ?_, ?_⟩
      · refine ⟨_, rfl, _, rfl, L, Ts ws, rfl, .inl (SqL.of (s46 _ _ (s4 _ _ (s24 _ _ eL)))), rfl, flat_ts ws, _, rfl, ?_⟩
        rw [inV_ts]
        by_cases hm : aw ∈ ws
        · rw [decide_eq_true hm]
          exact iteF ⟨_, rfl, s46⟩
        · rw [decide_eq_false hm]
          refine iteT ⟨_, rfl, _, rfl, x, d, bs, 1, aw, rfl, BAm _ s46, by have := hw.hi; omega, bl64, .inr (.inr ⟨rfl, wordB_iff.mpr hw, fun z => hm ((bm aw).mp z), fun e dxe H7 s7 he hde => ?_⟩)⟩
          refine ⟨_, rfl, e, CW, some dxe, 2, rfl, he, ⟨_, hde⟩, R.iW, R.vW, by decide, R.kW, fun H8 s8 => ⟨rfl, _, rfl, iteNS rfl ?_⟩⟩
          have he8 := s8 _ _ he
          have hde8 := s8 _ _ hde
          refine ⟨_, rfl, e, CW, dxe, _, _, rfl, he8, hde8, R.iW, R.hd, R.nw, rfl, _, _, _, true, rfl, .str _, (by kernel_rfl), _, rfl, iteF ?_⟩
          refine ⟨_, rfl, e, CW, dxe, _, _, rfl, he8, hde8, R.iW, R.hd, R.nw, rfl, _, rfl, 1, .str aw, .str aw, by decide, .str _ awz, .str _ awz, _, rfl, ?_⟩
          simp only [if_true, decide_true, Bool.not_true]
          have s49 := s46.trans (s7.trans s8)
          refine iteF ⟨_, rfl, x, dx3, _, rfl, bx _ s49, rfl, x, d, bs, rfl, BAm _ s49, bl64, fun t2 us2 H10 s10 nt2 et2 pm2 rs2 => ?_⟩
          have eu : us2 = us := srt_uniq (pm2.trans pm.symm) rs2 rs
          subst eu
          have s410 := s49.trans s10
          refine ⟨_, rfl, 1, _, _, by decide, .tup (SqT.of et2) (HasDs.of6 uw), .tup (SqT.of (s410 _ _ et)) (HasDs.of6 uw), _, rfl, ?_⟩
          simp only [if_true, decide_true, Bool.not_true]
          exact iteF ⟨_, rfl, s410⟩
      · rintro σ' H' ⟨v9, rfl, s7⟩
        have eL4 : H4 L = some (.lst (Ts ws)) := s4 _ _ (s24 _ _ eL)
        refine ⟨_, rfl, L, rfl, ⟨_, SqL.of (s7 _ _ eL4)⟩, for_list (K := K) (a := L) (xs := Ts ws) (fun i σ H5 => ∃ v6 : Option V, σ = [some (.ref a), some (.str (S ls)), some (.ref L), some (.ref x), some (.ref t), v5, v6, v7, some (.str (S aw)), v9] ∧ Same H4 H5) ⟨_, rfl, s7⟩ (fun i σ H5 _ ⟨_, _, e⟩ => SqL.of (e _ _ eL4)) ?_ ?_⟩
        · rintro i y σ H5 hi ⟨w6, rfl, s5⟩
          rw [List.getElem?_map] at hi
          obtain ⟨l, hl2, e⟩ := Option.map_eq_some_iff.mp hi
          subst e
          have hlm := List.mem_of_getElem? hl2
          have hlw := wd l hlm
          refine ⟨_, rfl, _, rfl, x, d, bs, 0, l, rfl, BAm _ s5, by have := hlw.hi; omega, bl64, .inr (.inl ⟨rfl, wB l hlm, (bm l).mpr hlm, fun e H8 s8 he => ?_⟩)⟩
          refine ⟨e, CT, none, 1, rfl, he, True.intro, R.iT, R.vT, by decide, R.kT, fun H9 s9 => ⟨rfl, _, rfl, iteNS rfl ?_⟩⟩
          have s49 := s5.trans (s8.trans s9)
          refine ⟨_, rfl, x, dx3, _, rfl, bx _ s49, rfl, x, d, bs, rfl, BAm _ s49, bl64, fun t2 us2 H10 s10 nt2 et2 pm2 rs2 => ?_⟩
          have eu : us2 = us := srt_uniq (pm2.trans pm.symm) rs2 rs
          subst eu
          have s410 := s49.trans s10
          refine ⟨_, rfl, 1, _, _, by decide, .tup (SqT.of et2) (HasDs.of6 uw), .tup (SqT.of (s410 _ _ et)) (HasDs.of6 uw), _, rfl, ?_⟩
          simp only [if_true, decide_true, Bool.not_true]
          exact iteF ⟨_, rfl, s410⟩
        · rintro σ H5 ⟨w6, rfl, s5⟩
          have nLd : L ≠ d := fun z => by rw [z, (s4 _ _ BA.dc)] at eL4; cases eL4
          have nxd : x ≠ d := fun z => by have h1 := s4 _ _ hx3; rw [z, (s4 _ _ BA.dc)] at h1; cases h1
          refine ⟨_, rfl, L, rfl, ⟨_, SqL.of (s5 _ _ eL4)⟩, for_list (K := K) (a := L) (xs := Ts ws) (fun i σ H6 => ∃ (v6 v9 : Option V) (cs : List (List Nat)), σ = [some (.ref a), some (.str (S ls)), some (.ref L), some (.ref x), some (.ref t), v5, v6, v7, some (.str (S aw)), v9] ∧ (∀ b o, H4 b = some o → b ≠ d → H6 b = some o) ∧ BookAt C H6 x d cs ∧ (∀ y, y ∈ cs ↔ y ∈ ws ∧ y ∉ ws.take i) ∧ cs.length < 64)
            ⟨_, _, bs, rfl, fun b o e _ => s5 _ _ e, BAm _ s5, fun y => by rw [bm y]; simp, bl64⟩ (fun i σ H6 _ ⟨_, _, _, _, k, _⟩ => SqL.of (k _ _ eL4 nLd)) ?_ ?_⟩
          · rintro i y σ H6 hi ⟨w6, w9, cs, rfl, kd, B6, hcs, c64⟩
            rw [List.getElem?_map] at hi
            obtain ⟨l, hl2, e⟩ := Option.map_eq_some_iff.mp hi
            subst e
            have hlm := List.mem_of_getElem? hl2
            have hlw := wd l hlm
            have hl9 : l.length ≤ 100 := by have := hlw.hi; omega
            have lz : ∀ c ∈ l, c < 128 := fun c hc => by have := (hlw.az c hc).2; omega
            have hlc : l ∈ cs := (hcs l).mpr ⟨hlm, nd_take nd hl2⟩
            obtain ⟨dx6, hx6⟩ := B6.ob
            refine ⟨True.intro, _, rfl, x, dx6, _, rfl, hx6, rfl, _, rfl, x, d, cs, l, rfl, B6, hl9, fun e => (by rw [wB l hlm] at e; cases e), fun _ e => absurd hlc e, fun _ _ H7 B7 k7 => ?_⟩
            have nlf : l ∉ cs.filter fun x => decide (x ≠ l) := fun z => by have := (List.mem_filter.mp z).2; simp at this
            have f64 : (cs.filter fun x => decide (x ≠ l)).length < 64 := Nat.lt_of_le_of_lt (List.length_filter_le _ _) c64
            refine ⟨_, rfl, _, rfl, x, d, cs.filter fun x => decide (x ≠ l), 1, l, rfl, B7, hl9, f64, .inr (.inr ⟨rfl, wB l hlm, nlf, fun e dxe H8 s8 he hde => ?_⟩)⟩
            refine ⟨_, rfl, e, CW, some dxe, 2, rfl, he, ⟨_, hde⟩, R.iW, R.vW, by decide, R.kW, fun H9 s9 => ⟨rfl, _, rfl, iteNS rfl ?_⟩⟩
            have he9 := s9 _ _ he
            have hde9 := s9 _ _ hde
            refine ⟨_, rfl, e, CW, dxe, _, _, rfl, he9, hde9, R.iW, R.hd, R.nw, rfl, _, rfl, 1, .str l, .str l, by decide, .str _ lz, .str _ lz, _, rfl, ?_⟩
            simp only [if_true, decide_true, Bool.not_true]
            have s89 := s8.trans s9
            obtain ⟨dx7, hx7⟩ := B7.ob
            have B9 : BookAt C H9 x d (cs.filter fun x => decide (x ≠ l)) := ⟨⟨dx7, s89 _ _ hx7⟩, s89 _ _ B7.dc, B7.nd, B7.az⟩
            refine iteF ⟨_, rfl, x, dx7, _, rfl, s89 _ _ hx7, rfl, _, rfl, x, d, _, l, rfl, B9, _, rfl, ?_⟩
            rw [decide_eq_false nlf]
            refine iteF ⟨_, _, _, rfl, fun b o e hb => s89 _ _ (k7 b o (kd b o e hb) hb), B9, fun y => ?_, f64⟩
            rw [List.mem_filter, hcs, List.take_add_one, hl2]
            simp [and_assoc]
          · rintro σ H6 ⟨w6, w9, cs, rfl, kd, B6, hcs, c64⟩
            have cnil : cs = [] := by
              rw [List.length_map] at hcs
              cases cs with
              | nil => rfl
              | cons y r => have := (hcs y).mp (by simp); rw [List.take_length] at this; exact absurd this.1 this.2
            subst cnil
            obtain ⟨dx6, hx6⟩ := B6.ob
            refine ⟨_, rfl, x, dx6, _, rfl, hx6, rfl, x, d, [], rfl, B6, c64, fun t2 us2 H10 s10 nt2 et2 pm2 rs2 => ?_⟩
            have : us2 = [] := pm2.eq_nil
            subst this
            refine ⟨by show 0 ≤ sizeLine; decide, fun Z hZ => ⟨1, .tup [], .tup [], by decide, .tup (SqT.of (Same.upd hZ _ _ et2)) .nil, .tup (SqT.of upd_same) .nil, ?_⟩⟩
            simp only [decide_true]
            exact q _

end
end My
end

set_option Elab.async false
set_option linter.all false
set_option maxRecDepth 100000
set_option maxHeartbeats 2000000
namespace My
open PySem L2
section
variable {P : Program} {w : World} {K : PySem.W.Frag} {mg : Str → Option Value} {base : Heap}
structure BookFacts (K : PySem.W.Frag) (mg : Str → Option Value) (C f0 f1 f2 f3 f4 : Addr) (fd0 fd1 fd2 fd3 fd4 : FuncData) : Prop where
  T : BookCls K C
  mgC : mg "Book" = some (.ref C)
  M : Mk K C f0
  F0 : Fun K "__init__" "Book.__init__" s_Book_init f0 fd0
  b0 : Binds K fd0 ["self", "words"] []
  F1 : Fun K "put_in" "Book.put_in" s_Book_put_in f1 fd1
  b1 : Binds K fd1 ["self", "word"] []
  m1 : Meth K C "put_in" f1
  F2 : Fun K "take_out" "Book.take_out" s_Book_take_out f2 fd2
  b2 : Binds K fd2 ["self", "word"] []
  m2 : Meth K C "take_out" f2
  F3 : Fun K "words" "Book.words" s_Book_words f3 fd3
  b3 : Binds K fd3 ["self"] []
  m3 : Meth K C "words" f3
  F4 : Fun K "has" "Book.has" s_Book_has f4 fd4
  b4 : Binds K fd4 ["self", "text"] []
  m4 : Meth K C "has" f4
theorem Book_mk {h : Heap} {C f0 f1 f2 f3 f4 : Addr} (X : K.In h) (G : h.Ns mainGlobals mg)
    {od0 an0 od1 an1 od2 an2 od3 an3 od4 an4 : Option Addr} {sl0 sl1 sl2 sl3 sl4 : Array (Option Value)} {oc0 kV0 dc0 pm0 cd0 ct0 oc1 kV1 dc1 pm1 cd1 ct1 oc2 kV2 dc2 pm2 cd2 ct2 oc3 kV3 dc3 pm3 cd3 ct3 oc4 kV4 dc4 pm4 cd4 ct4 : Value}
    (aC : PySem.W.nsIn K mainGlobals "Book" = some (some (.ref C)))
    (a0 : PySem.W.findIn K (.ref C) "__init__" = some (some (.ref f0))) (i0 : PySem.W.isFn K (.ref f0) = true) (l0 : K.lookup f0 = some ⟨oc0, od0, .func (PySem.W.fnOf "__init__" "Book.__init__" (defArgs s_Book_init) (defBody s_Book_init) (defScope s_Book_init) .none kV0 dc0 pm0 an0 cd0 ct0), sl0⟩) (c0 : PySem.W.codeIn K cd0 "Book.__init__" = true) (k0 : PySem.W.keepIn K (.ref f0) = true)
    (a1 : PySem.W.findIn K (.ref C) "put_in" = some (some (.ref f1))) (i1 : PySem.W.isFn K (.ref f1) = true) (l1 : K.lookup f1 = some ⟨oc1, od1, .func (PySem.W.fnOf "put_in" "Book.put_in" (defArgs s_Book_put_in) (defBody s_Book_put_in) (defScope s_Book_put_in) .none kV1 dc1 pm1 an1 cd1 ct1), sl1⟩) (c1 : PySem.W.codeIn K cd1 "Book.put_in" = true) (k1 : PySem.W.keepIn K (.ref f1) = true)
    (a2 : PySem.W.findIn K (.ref C) "take_out" = some (some (.ref f2))) (i2 : PySem.W.isFn K (.ref f2) = true) (l2 : K.lookup f2 = some ⟨oc2, od2, .func (PySem.W.fnOf "take_out" "Book.take_out" (defArgs s_Book_take_out) (defBody s_Book_take_out) (defScope s_Book_take_out) .none kV2 dc2 pm2 an2 cd2 ct2), sl2⟩) (c2 : PySem.W.codeIn K cd2 "Book.take_out" = true) (k2 : PySem.W.keepIn K (.ref f2) = true)
    (a3 : PySem.W.findIn K (.ref C) "words" = some (some (.ref f3))) (i3 : PySem.W.isFn K (.ref f3) = true) (l3 : K.lookup f3 = some ⟨oc3, od3, .func (PySem.W.fnOf "words" "Book.words" (defArgs s_Book_words) (defBody s_Book_words) (defScope s_Book_words) .none kV3 dc3 pm3 an3 cd3 ct3), sl3⟩) (c3 : PySem.W.codeIn K cd3 "Book.words" = true) (k3 : PySem.W.keepIn K (.ref f3) = true)
    (a4 : PySem.W.findIn K (.ref C) "has" = some (some (.ref f4))) (i4 : PySem.W.isFn K (.ref f4) = true) (l4 : K.lookup f4 = some ⟨oc4, od4, .func (PySem.W.fnOf "has" "Book.has" (defArgs s_Book_has) (defBody s_Book_has) (defScope s_Book_has) .none kV4 dc4 pm4 an4 cd4 ct4), sl4⟩) (c4 : PySem.W.codeIn K cd4 "Book.has" = true) (k4 : PySem.W.keepIn K (.ref f4) = true)
    (pg : PySem.W.plainGet K C Str.empty = true) (hd : PySem.W.hasDictIn K C = true) (po : PySem.W.plainOver K C = true) (sa : PySem.W.findIn K (.ref C) "__setattr__" = some (some (.builtin "object.__setattr__"))) (mk : PySem.W.makesIn K C = true) (kc : PySem.W.keepIn K (.ref C) = true) (nf0 : PySem.W.findIn K (.ref C) "held" = some none) : ∃ C f0 f1 f2 f3 f4 fd0 fd1 fd2 fd3 fd4, BookFacts K mg C f0 f1 f2 f3 f4 fd0 fd1 fd2 fd3 fd4 := by
  have F0 := fun_mk (st := s_Book_init) l0 c0 k0
  have F1 := fun_mk (st := s_Book_put_in) l1 c1 k1
  have F2 := fun_mk (st := s_Book_take_out) l2 c2 k2
  have F3 := fun_mk (st := s_Book_words) l3 c3 k3
  have F4 := fun_mk (st := s_Book_has) l4 c4 k4
  exact ⟨C, f0, f1, f2, f3, f4, _, _, _, _, _, ⟨⟨pg, hd, po, sa⟩, nf0⟩, PySem.W.mg_of X G aC, ⟨mk, a0, i0, kc⟩, F0, F0.binds (ps := ["self", "words"]) (fun _ _ _ _ _ _ us hl => match us, hl with | [_, _], _ => rfl), F1, F1.binds (ps := ["self", "word"]) (fun _ _ _ _ _ _ us hl => match us, hl with | [_, _], _ => rfl), ⟨a1, i1, k1⟩, F2, F2.binds (ps := ["self", "word"]) (fun _ _ _ _ _ _ us hl => match us, hl with | [_, _], _ => rfl), ⟨a2, i2, k2⟩, F3, F3.binds (ps := ["self"]) (fun _ _ _ _ _ _ us hl => match us, hl with | [_], _ => rfl), ⟨a3, i3, k3⟩, F4, F4.binds (ps := ["self", "text"]) (fun _ _ _ _ _ _ us hl => match us, hl with | [_, _], _ => rfl), ⟨a4, i4, k4⟩⟩
structure Err6 (K : PySem.W.Frag) (mg : Str → Option Value) (C_NoText C_Twice C_NoWord C_NoBoard C_NoLaying C_Taken C_Crooked C_Gap C_Apart C_Lacking C_TooFew C_NoDeed C_Over C_NoBack C_NoRow CR f0 : Addr) (fd0 : FuncData) : Prop where
  m_NoText : mg "NoText" = some (.ref C_NoText)
  m_Twice : mg "Twice" = some (.ref C_Twice)
  m_NoWord : mg "NoWord" = some (.ref C_NoWord)
  m_NoBoard : mg "NoBoard" = some (.ref C_NoBoard)
  m_NoLaying : mg "NoLaying" = some (.ref C_NoLaying)
  m_Taken : mg "Taken" = some (.ref C_Taken)
  m_Crooked : mg "Crooked" = some (.ref C_Crooked)
  m_Gap : mg "Gap" = some (.ref C_Gap)
  m_Apart : mg "Apart" = some (.ref C_Apart)
  m_Lacking : mg "Lacking" = some (.ref C_Lacking)
  m_TooFew : mg "TooFew" = some (.ref C_TooFew)
  m_NoDeed : mg "NoDeed" = some (.ref C_NoDeed)
  m_Over : mg "Over" = some (.ref C_Over)
  m_NoBack : mg "NoBack" = some (.ref C_NoBack)
  m_NoRow : mg "NoRow" = some (.ref C_NoRow)
  mR : mg "RackError" = some (.ref CR)
  xN : PySem.W.excIn K C_NoText vErr "ValueError.__new__" = true
  xT : PySem.W.excIn K C_Twice vErr "ValueError.__new__" = true
  eN : PySem.W.exmOne K (.ref C_NoText) (.ref CR) = some true
  eT : PySem.W.exmOne K (.ref C_Twice) (.ref CR) = some true
  eW : PySem.W.exmOne K (.ref C_NoWord) (.ref CR) = some true
  W : XCls K mg "NoWord" C_NoWord f0 ["word"]
  I : InitOf K CR
  F : Fun K "__init__" "NoWord.__init__" s_NoWord_init f0 fd0
  b : Binds K fd0 ["self", "word"] []
  R : Refs K [C_NoText, C_Twice, C_NoWord, C_NoBoard, C_NoLaying, C_Taken, C_Crooked, C_Gap, C_Apart, C_Lacking, C_TooFew, C_NoDeed, C_Over, C_NoBack, C_NoRow] C_NoText C_Twice C_NoWord
theorem all_kit {C : Addr} {Cs : List Addr} {j : Nat} (h : (Cs.zipIdx.all fun p => PySem.W.kitOne K (.ref C) (.ref p.1) == some (decide (p.2 = j))) = true) : ∀ i D, Cs[i]? = some D → PySem.W.kitOne K (.ref C) (.ref D) = some (decide (i = j)) := fun i D e =>
  beq_iff_eq.mp (List.all_eq_true.mp h (D, i) (List.mem_zipIdx_iff_getElem?.mpr e))
theorem err6_mk {h : Heap} {C_NoText C_Twice C_NoWord C_NoBoard C_NoLaying C_Taken C_Crooked C_Gap C_Apart C_Lacking C_TooFew C_NoDeed C_Over C_NoBack C_NoRow CR f0 : Addr} (X : K.In h) (G : h.Ns mainGlobals mg)
    {od0 an0 : Option Addr} {sl0 : Array (Option Value)} {oc0 kV0 dc0 pm0 cd0 ct0 : Value}
    (a_NoText : PySem.W.nsIn K mainGlobals "NoText" = some (some (.ref C_NoText)))
    (a_Twice : PySem.W.nsIn K mainGlobals "Twice" = some (some (.ref C_Twice)))
    (a_NoWord : PySem.W.nsIn K mainGlobals "NoWord" = some (some (.ref C_NoWord)))
    (a_NoBoard : PySem.W.nsIn K mainGlobals "NoBoard" = some (some (.ref C_NoBoard)))
    (a_NoLaying : PySem.W.nsIn K mainGlobals "NoLaying" = some (some (.ref C_NoLaying)))
    (a_Taken : PySem.W.nsIn K mainGlobals "Taken" = some (some (.ref C_Taken)))
    (a_Crooked : PySem.W.nsIn K mainGlobals "Crooked" = some (some (.ref C_Crooked)))
    (a_Gap : PySem.W.nsIn K mainGlobals "Gap" = some (some (.ref C_Gap)))
    (a_Apart : PySem.W.nsIn K mainGlobals "Apart" = some (some (.ref C_Apart)))
    (a_Lacking : PySem.W.nsIn K mainGlobals "Lacking" = some (some (.ref C_Lacking)))
    (a_TooFew : PySem.W.nsIn K mainGlobals "TooFew" = some (some (.ref C_TooFew)))
    (a_NoDeed : PySem.W.nsIn K mainGlobals "NoDeed" = some (some (.ref C_NoDeed)))
    (a_Over : PySem.W.nsIn K mainGlobals "Over" = some (some (.ref C_Over)))
    (a_NoBack : PySem.W.nsIn K mainGlobals "NoBack" = some (some (.ref C_NoBack)))
    (a_NoRow : PySem.W.nsIn K mainGlobals "NoRow" = some (some (.ref C_NoRow)))
    (aR : PySem.W.nsIn K mainGlobals "RackError" = some (some (.ref CR)))
    (xN : PySem.W.excIn K C_NoText vErr "ValueError.__new__" = true) (xT : PySem.W.excIn K C_Twice vErr "ValueError.__new__" = true) (eN : PySem.W.exmOne K (.ref C_NoText) (.ref CR) = some true) (eT : PySem.W.exmOne K (.ref C_Twice) (.ref CR) = some true) (eW : PySem.W.exmOne K (.ref C_NoWord) (.ref CR) = some true)
    (fi : PySem.W.findIn K (.ref C_NoWord) "__init__" = some (some (.ref f0))) (i0 : PySem.W.isFn K (.ref f0) = true) (l0 : K.lookup f0 = some ⟨oc0, od0, .func (PySem.W.fnOf "__init__" "NoWord.__init__" (defArgs s_NoWord_init) (defBody s_NoWord_init) (defScope s_NoWord_init) .none kV0 dc0 pm0 an0 cd0 ct0), sl0⟩) (c0 : PySem.W.codeIn K cd0 "NoWord.__init__" = true) (k0 : PySem.W.keepIn K (.ref f0) = true)
    (ini : iniIn K C_NoWord f0 = true) (kp : PySem.W.keepIn K (.ref C_NoWord) = true)
    (ln : ((PySem.W.clsIn K C_NoWord).any fun cd => cd.hasDict && errLine cd.mro) = true) (sa : PySem.W.findIn K (.ref C_NoWord) "__setattr__" = some (some (.builtin "object.__setattr__")))
    (hn : PySem.W.specialIn K (.builtin "object.__class__") "__get__" = some (some (.builtin "getset_descriptor.__get__"))) (ht : PySem.W.takesIn K (.builtin "object.__class__") = some true)
    (clN : (PySem.W.clsIn K C_NoText).isSome = true) (gaN : PySem.W.findIn K (.ref C_NoText) "__getattribute__" = some (some (.builtin "BaseException.__getattribute__"))) (gxN : PySem.W.findIn K (.ref C_NoText) "__getattr__" = some none) (haN : PySem.W.findIn K (.ref C_NoText) "__class__" = some (some (.builtin "object.__class__"))) (hmN : PySem.W.mroIn K C_NoText (.type "object") = some true) (hbN : PySem.W.mroIn K C_NoText (.type "BaseException") = some true) (vN : PySem.W.kitOne K (.ref C_NoText) (.type "ValueError") = some true)
    (clT : (PySem.W.clsIn K C_Twice).isSome = true) (gaT : PySem.W.findIn K (.ref C_Twice) "__getattribute__" = some (some (.builtin "BaseException.__getattribute__"))) (gxT : PySem.W.findIn K (.ref C_Twice) "__getattr__" = some none) (haT : PySem.W.findIn K (.ref C_Twice) "__class__" = some (some (.builtin "object.__class__"))) (hmT : PySem.W.mroIn K C_Twice (.type "object") = some true) (hbT : PySem.W.mroIn K C_Twice (.type "BaseException") = some true) (vT : PySem.W.kitOne K (.ref C_Twice) (.type "ValueError") = some true)
    (clW : (PySem.W.clsIn K C_NoWord).isSome = true) (gaW : PySem.W.findIn K (.ref C_NoWord) "__getattribute__" = some (some (.builtin "BaseException.__getattribute__"))) (gxW : PySem.W.findIn K (.ref C_NoWord) "__getattr__" = some none) (haW : PySem.W.findIn K (.ref C_NoWord) "__class__" = some (some (.builtin "object.__class__"))) (hmW : PySem.W.mroIn K C_NoWord (.type "object") = some true) (hbW : PySem.W.mroIn K C_NoWord (.type "BaseException") = some true) (vW : PySem.W.kitOne K (.ref C_NoWord) (.type "ValueError") = some true)
    (qN : (([C_NoText, C_Twice, C_NoWord, C_NoBoard, C_NoLaying, C_Taken, C_Crooked, C_Gap, C_Apart, C_Lacking, C_TooFew, C_NoDeed, C_Over, C_NoBack, C_NoRow] : List Addr).zipIdx.all fun p => PySem.W.kitOne K (.ref C_NoText) (.ref p.1) == some (decide (p.2 = 0))) = true)
    (qT : (([C_NoText, C_Twice, C_NoWord, C_NoBoard, C_NoLaying, C_Taken, C_Crooked, C_Gap, C_Apart, C_Lacking, C_TooFew, C_NoDeed, C_Over, C_NoBack, C_NoRow] : List Addr).zipIdx.all fun p => PySem.W.kitOne K (.ref C_Twice) (.ref p.1) == some (decide (p.2 = 1))) = true)
    (qW : (([C_NoText, C_Twice, C_NoWord, C_NoBoard, C_NoLaying, C_Taken, C_Crooked, C_Gap, C_Apart, C_Lacking, C_TooFew, C_NoDeed, C_Over, C_NoBack, C_NoRow] : List Addr).zipIdx.all fun p => PySem.W.kitOne K (.ref C_NoWord) (.ref p.1) == some (decide (p.2 = 2))) = true)
    (hd : PySem.W.hasDictIn K C_NoWord = true) (nw : PySem.W.findIn K (.ref C_NoWord) "word" = some none)
    (g2 : PySem.W.specialIn K (.ref CR) "__getattribute__" = some (some (.builtin "type.__getattribute__"))) (rd : PySem.W.readsIn K CR (.type "type") = true) (fc : PySem.W.findCls K (.ref CR) (.type "type") "__init__" = some (.val (.builtin "ValueError.__init__")))
    : ∃ C_NoText C_Twice C_NoWord C_NoBoard C_NoLaying C_Taken C_Crooked C_Gap C_Apart C_Lacking C_TooFew C_NoDeed C_Over C_NoBack C_NoRow CR f0 fd0, Err6 K mg C_NoText C_Twice C_NoWord C_NoBoard C_NoLaying C_Taken C_Crooked C_Gap C_Apart C_Lacking C_TooFew C_NoDeed C_Over C_NoBack C_NoRow CR f0 fd0 := by
  have F0 := fun_mk (st := s_NoWord_init) l0 c0 k0
  refine ⟨C_NoText, C_Twice, C_NoWord, C_NoBoard, C_NoLaying, C_Taken, C_Crooked, C_Gap, C_Apart, C_Lacking, C_TooFew, C_NoDeed, C_Over, C_NoBack, C_NoRow, CR, f0, _, PySem.W.mg_of X G a_NoText, PySem.W.mg_of X G a_Twice, PySem.W.mg_of X G a_NoWord, PySem.W.mg_of X G a_NoBoard, PySem.W.mg_of X G a_NoLaying, PySem.W.mg_of X G a_Taken, PySem.W.mg_of X G a_Crooked, PySem.W.mg_of X G a_Gap, PySem.W.mg_of X G a_Apart, PySem.W.mg_of X G a_Lacking, PySem.W.mg_of X G a_TooFew, PySem.W.mg_of X G a_NoDeed, PySem.W.mg_of X G a_Over, PySem.W.mg_of X G a_NoBack, PySem.W.mg_of X G a_NoRow, PySem.W.mg_of X G aR, xN, xT, eN, eT, eW, ⟨PySem.W.mg_of X G a_NoWord, ⟨ini, i0, kp⟩, ⟨ln, hmW, sa⟩, ⟨clW, gaW, gxW, haW, hn, ht, hmW, hbW⟩, hd, fun g hg => ?_⟩, ⟨g2, rd, fc⟩, F0, F0.binds (ps := ["self", "word"]) (fun _ _ _ _ _ _ us hl => match us, hl with | [_, _], _ => rfl), ⟨⟨clN, gaN, gxN, haN, hn, ht, hmN, hbN⟩, ⟨clT, gaT, gxT, haT, hn, ht, hmT, hbT⟩, ⟨clW, gaW, gxW, haW, hn, ht, hmW, hbW⟩, vN, vT, vW, all_kit qN, all_kit qT, all_kit qW, hd, nw⟩⟩
  rw [List.mem_singleton.mp hg]; exact nw
theorem law_all (n_len : mg "len" = none) (n_range : mg "range" = none) (n_list : mg "list" = none) (n_sorted : mg "sorted" = none) (n_tuple : mg "tuple" = none) (n_str : mg "str" = none) (n_all : mg "all" = none) (n_min : mg "min" = none) (n_isinstance : mg "isinstance" = none) (n_ValueError : mg "ValueError" = none)
    (d_is_word : DefAt K mg "is_word" s_is_word ["text"]) (d_check_word : DefAt K mg "check_word" s_check_word ["text"]) (d_cell_at : DefAt K mg "_law_cell_at" s_cell_at ["_law_script", "_law_k"]) (d_next : DefAt K mg "_law_next" s_next ["_law_x"]) (d_other : DefAt K mg "_law_other" s_other ["_law_x"]) (d_number : DefAt K mg "_law_number" s_number ["_law_script", "_law_k"]) (d_digits : DefAt K mg "_law_digits" s_digits ["_law_script", "_law_k", "_law_base", "_law_many"]) (d_letters : DefAt K mg "_law_letters" s_letters ["_law_script", "_law_k"]) (d_word_of : DefAt K mg "_law_word_of" s_word_of ["_law_row", "_law_letters_here"]) (d_word : DefAt K mg "_law_word" s_word ["_law_letters_here", "_law_script", "_law_k"]) (d_mixed : DefAt K mg "_law_mixed" s_mixed ["_law_cell", "_law_k", "_law_many"]) (d_rows_of : DefAt K mg "_law_rows_of" s_rows_of ["_law_script", "_law_start", "_law_most"]) (d_book : DefAt K mg "_law_book" s_book ["_law_script", "_law_start", "_law_most", "_law_letters_here"]) (d_which : DefAt K mg "_law_which" s_which ["_law_error"]) (d_no_word : DefAt K mg "_law_no_word" s_no_word ["_law_script", "_law_place", "_law_letters_here"]) (d_told : DefAt K mg "_law_told" s_told ["_law_book_here", "_law_way", "_law_word_here"]) {C_Book fBook0 fBook1 fBook2 fBook3 fBook4 : Addr} {fdBook0 fdBook1 fdBook2 fdBook3 fdBook4 : FuncData} (B_Book : BookFacts K mg C_Book fBook0 fBook1 fBook2 fBook3 fBook4 fdBook0 fdBook1 fdBook2 fdBook3 fdBook4) {C_NoText C_Twice C_NoWord C_NoBoard C_NoLaying C_Taken C_Crooked C_Gap C_Apart C_Lacking C_TooFew C_NoDeed C_Over C_NoBack C_NoRow CR f0 : Addr} {fd0 : FuncData} (R : Err6 K mg C_NoText C_Twice C_NoWord C_NoBoard C_NoLaying C_Taken C_Crooked C_Gap C_Apart C_Lacking C_TooFew C_NoDeed C_Over C_NoBack C_NoRow CR f0 fd0)
    {f : Addr} {fd : FuncData} (F : Fun K "law" "law" s_law f fd) : FnOk P w K mg base CX0 20 f fd ["_law_script"] (spLaw K) := by
  have p1 := ok_is_wordG (P := P) (w := w) (base := base) d_is_word n_len n_all
  have p2 := ok_check_wordX d_check_word R.m_NoText R.xN p1
  have g0 := ok_initX B_Book.F0 B_Book.T p2
  have gw := ok_noword (P := P) (w := w) (base := base) R.F R.mR R.I R.W
  have g1 := ok_put_inX B_Book.F1 B_Book.T R.m_Twice R.xT p2
  have g2 := ok_take_outX B_Book.F2 B_Book.T R.W gw R.b p2
  have g3 := ok_words (P := P) (w := w) (base := base) B_Book.F3 B_Book.T n_sorted n_tuple
  have g4 := ok_has (mg := mg) (P := P) (w := w) (base := base) B_Book.F4 B_Book.T
  have l1 := ok_which (P := P) (w := w) (base := base) d_which n_isinstance n_ValueError R.m_NoText R.m_Twice R.m_NoWord R.m_NoBoard R.m_NoLaying R.m_Taken R.m_Crooked R.m_Gap R.m_Apart R.m_Lacking R.m_TooFew R.m_NoDeed R.m_Over R.m_NoBack R.m_NoRow
  have l2 := ok_toldB d_told n_list R.mR B_Book.T B_Book.mgC B_Book.M R.eN R.eT R.eW g0 B_Book.b0 B_Book.m1 g1 B_Book.b1 B_Book.m2 g2 B_Book.b2 B_Book.m3 g3 B_Book.b3
  have c1 := ok_cell (P := P) (w := w) (base := base) d_cell_at n_len
  have c2 := ok_next (P := P) (w := w) (base := base) d_next
  have c3 := ok_other (P := P) (w := w) (base := base) d_other
  have c4 := ok_number d_number c1 c2 c3
  have c5 := ok_digits d_digits n_range c1 c2 c3 c4
  have c6 := ok_letters d_letters n_sorted c5
  have c7 := ok_word_of (P := P) (w := w) (base := base) d_word_of n_len
  have c8 := ok_word d_word c5 c7
  have c9 := ok_mixed d_mixed n_range c2 c3
  have r1 := ok_rows_of d_rows_of n_len n_range n_min c1 c9 c5
  have r2 := ok_book d_book r1 c7
  have r3 := ok_no_word d_no_word n_len c5 c7
  exact (ok_law F n_range n_isinstance n_str B_Book.mgC B_Book.T B_Book.M R.R g0 B_Book.b0 B_Book.m2 g2 B_Book.b2 B_Book.m3 g3 B_Book.b3 B_Book.m4 g4 B_Book.b4 c6 r2 r3 c8 l1 l2).mono (by decide)
end
end My
def PySem.W.Fast.tw9301513569631093149 : Nat := 0
def PySem.W.Fast.tw2365250506512672879 : Nat := 0
def PySem.W.Fast.tw17769523760227976151 : Nat := 0
def PySem.W.Fast.tw11748478035394391214 : Nat := 0
def PySem.W.Fast.tw60364623985387093 : Nat := 0
def PySem.W.Fast.tw12519958607929112525 : Nat := 0
def PySem.W.Fast.tw1354079998802513513 : Nat := 0
def PySem.W.Fast.tw307640043974428342 : Nat := 0
def PySem.W.Fast.tw16145740995248515617 : Nat := 0
def PySem.W.Fast.tw6768777127947003898 : Nat := 0
def PySem.W.Fast.tw6684923130282396548 : Nat := 0
def PySem.W.Fast.tw1580068067340784884 : Nat := 0
def PySem.W.Fast.tw689928356597984240 : Nat := 0
def PySem.W.Fast.tw6808567170810426461 : Nat := 0
def PySem.W.Fast.tw171088167027244622 : Nat := 0
def PySem.W.Fast.tw7100321523844358539 : Nat := 0
def PySem.W.Fast.tw9734872904629053582 : Nat := 0
def PySem.W.Fast.tw8409630664550863729 : Nat := 0
def PySem.W.Fast.tw13506693466272199426 : Nat := 0
def PySem.W.Fast.tw4228050018104400567 : Nat := 0
open PySem PySem.W PyProof.Rows
set_option maxRecDepth 100000 in
set_option maxHeartbeats 0 in
theorem PySem.Challenge.cw_letterrack_k06_what_a_book_refuses_holds : PySem.Challenge.rw_letterrack_k06_what_a_book_refuses.Holds := by
  w_on; o_law; k_head; (case hw => w_witness2)
  k_fill
  refine L2.walkLaw (x := "_law_script") (l := PySem.Challenge.rw_letterrack_k06_what_a_book_refuses) rfl rfl (fun w h Y => PySem.W.kIn_of Y) ?F
  case F =>
    intro w mg fa h KX G hmg
    have n_len : mg "len" = none := by
      refine' PySem.W.mg_none_of KX G ?z
      (case z => k_is)
    have n_range : mg "range" = none := by
      refine' PySem.W.mg_none_of KX G ?z
      (case z => k_is)
    have n_list : mg "list" = none := by
      refine' PySem.W.mg_none_of KX G ?z
      (case z => k_is)
    have n_sorted : mg "sorted" = none := by
      refine' PySem.W.mg_none_of KX G ?z
      (case z => k_is)
    have n_tuple : mg "tuple" = none := by
      refine' PySem.W.mg_none_of KX G ?z
      (case z => k_is)
    have n_str : mg "str" = none := by
      refine' PySem.W.mg_none_of KX G ?z
      (case z => k_is)
    have n_all : mg "all" = none := by
      refine' PySem.W.mg_none_of KX G ?z
      (case z => k_is)
    have n_min : mg "min" = none := by
      refine' PySem.W.mg_none_of KX G ?z
      (case z => k_is)
    have n_isinstance : mg "isinstance" = none := by
      refine' PySem.W.mg_none_of KX G ?z
      (case z => k_is)
    have n_ValueError : mg "ValueError" = none := by
      refine' PySem.W.mg_none_of KX G ?z
      (case z => k_is)
    have d_is_word : L2.DefAt (L2.KOf KX) mg "is_word" My.s_is_word ["text"] := by
      dsimp only [L2.KOf]
      refine' L2.defat_mk KX G ?a ?l ?c ?k ?b
      (case a => k_is); (case l => k_is); (case c => k_is); (case k => k_is)
      (case b => exact fun _ _ _ _ _ _ us hl => match us, hl with | [_], _ => rfl)
    have d_check_word : L2.DefAt (L2.KOf KX) mg "check_word" My.s_check_word ["text"] := by
      dsimp only [L2.KOf]
      refine' L2.defat_mk KX G ?a ?l ?c ?k ?b
      (case a => k_is); (case l => k_is); (case c => k_is); (case k => k_is)
      (case b => exact fun _ _ _ _ _ _ us hl => match us, hl with | [_], _ => rfl)
    have d_cell_at : L2.DefAt (L2.KOf KX) mg "_law_cell_at" My.s_cell_at ["_law_script", "_law_k"] := by
      dsimp only [L2.KOf]
      refine' L2.defat_mk KX G ?a ?l ?c ?k ?b
      (case a => k_is); (case l => k_is); (case c => k_is); (case k => k_is)
      (case b => exact fun _ _ _ _ _ _ us hl => match us, hl with | [_, _], _ => rfl)
    have d_next : L2.DefAt (L2.KOf KX) mg "_law_next" My.s_next ["_law_x"] := by
      dsimp only [L2.KOf]
      refine' L2.defat_mk KX G ?a ?l ?c ?k ?b
      (case a => k_is); (case l => k_is); (case c => k_is); (case k => k_is)
      (case b => exact fun _ _ _ _ _ _ us hl => match us, hl with | [_], _ => rfl)
    have d_other : L2.DefAt (L2.KOf KX) mg "_law_other" My.s_other ["_law_x"] := by
      dsimp only [L2.KOf]
      refine' L2.defat_mk KX G ?a ?l ?c ?k ?b
      (case a => k_is); (case l => k_is); (case c => k_is); (case k => k_is)
      (case b => exact fun _ _ _ _ _ _ us hl => match us, hl with | [_], _ => rfl)
    have d_number : L2.DefAt (L2.KOf KX) mg "_law_number" My.s_number ["_law_script", "_law_k"] := by
      dsimp only [L2.KOf]
      refine' L2.defat_mk KX G ?a ?l ?c ?k ?b
      (case a => k_is); (case l => k_is); (case c => k_is); (case k => k_is)
      (case b => exact fun _ _ _ _ _ _ us hl => match us, hl with | [_, _], _ => rfl)
    have d_digits : L2.DefAt (L2.KOf KX) mg "_law_digits" My.s_digits ["_law_script", "_law_k", "_law_base", "_law_many"] := by
      dsimp only [L2.KOf]
      refine' L2.defat_mk KX G ?a ?l ?c ?k ?b
      (case a => k_is); (case l => k_is); (case c => k_is); (case k => k_is)
      (case b => exact fun _ _ _ _ _ _ us hl => match us, hl with | [_, _, _, _], _ => rfl)
    have d_letters : L2.DefAt (L2.KOf KX) mg "_law_letters" My.s_letters ["_law_script", "_law_k"] := by
      dsimp only [L2.KOf]
      refine' L2.defat_mk KX G ?a ?l ?c ?k ?b
      (case a => k_is); (case l => k_is); (case c => k_is); (case k => k_is)
      (case b => exact fun _ _ _ _ _ _ us hl => match us, hl with | [_, _], _ => rfl)
    have d_word_of : L2.DefAt (L2.KOf KX) mg "_law_word_of" My.s_word_of ["_law_row", "_law_letters_here"] := by
      dsimp only [L2.KOf]
      refine' L2.defat_mk KX G ?a ?l ?c ?k ?b
      (case a => k_is); (case l => k_is); (case c => k_is); (case k => k_is)
      (case b => exact fun _ _ _ _ _ _ us hl => match us, hl with | [_, _], _ => rfl)
    have d_word : L2.DefAt (L2.KOf KX) mg "_law_word" My.s_word ["_law_letters_here", "_law_script", "_law_k"] := by
      dsimp only [L2.KOf]
      refine' L2.defat_mk KX G ?a ?l ?c ?k ?b
      (case a => k_is); (case l => k_is); (case c => k_is); (case k => k_is)
      (case b => exact fun _ _ _ _ _ _ us hl => match us, hl with | [_, _, _], _ => rfl)
    have d_mixed : L2.DefAt (L2.KOf KX) mg "_law_mixed" My.s_mixed ["_law_cell", "_law_k", "_law_many"] := by
      dsimp only [L2.KOf]
      refine' L2.defat_mk KX G ?a ?l ?c ?k ?b
      (case a => k_is); (case l => k_is); (case c => k_is); (case k => k_is)
      (case b => exact fun _ _ _ _ _ _ us hl => match us, hl with | [_, _, _], _ => rfl)
    have d_rows_of : L2.DefAt (L2.KOf KX) mg "_law_rows_of" My.s_rows_of ["_law_script", "_law_start", "_law_most"] := by
      dsimp only [L2.KOf]
      refine' L2.defat_mk KX G ?a ?l ?c ?k ?b
      (case a => k_is); (case l => k_is); (case c => k_is); (case k => k_is)
      (case b => exact fun _ _ _ _ _ _ us hl => match us, hl with | [_, _, _], _ => rfl)
    have d_book : L2.DefAt (L2.KOf KX) mg "_law_book" My.s_book ["_law_script", "_law_start", "_law_most", "_law_letters_here"] := by
      dsimp only [L2.KOf]
      refine' L2.defat_mk KX G ?a ?l ?c ?k ?b
      (case a => k_is); (case l => k_is); (case c => k_is); (case k => k_is)
      (case b => exact fun _ _ _ _ _ _ us hl => match us, hl with | [_, _, _, _], _ => rfl)
    have d_which : L2.DefAt (L2.KOf KX) mg "_law_which" My.s_which ["_law_error"] := by
      dsimp only [L2.KOf]
      refine' L2.defat_mk KX G ?a ?l ?c ?k ?b
      (case a => k_is); (case l => k_is); (case c => k_is); (case k => k_is)
      (case b => exact fun _ _ _ _ _ _ us hl => match us, hl with | [_], _ => rfl)
    have d_no_word : L2.DefAt (L2.KOf KX) mg "_law_no_word" My.s_no_word ["_law_script", "_law_place", "_law_letters_here"] := by
      dsimp only [L2.KOf]
      refine' L2.defat_mk KX G ?a ?l ?c ?k ?b
      (case a => k_is); (case l => k_is); (case c => k_is); (case k => k_is)
      (case b => exact fun _ _ _ _ _ _ us hl => match us, hl with | [_, _, _], _ => rfl)
    have d_told : L2.DefAt (L2.KOf KX) mg "_law_told" My.s_told ["_law_book_here", "_law_way", "_law_word_here"] := by
      dsimp only [L2.KOf]
      refine' L2.defat_mk KX G ?a ?l ?c ?k ?b
      (case a => k_is); (case l => k_is); (case c => k_is); (case k => k_is)
      (case b => exact fun _ _ _ _ _ _ us hl => match us, hl with | [_, _, _], _ => rfl)
    have xbf_Book : ∃ C f0 f1 f2 f3 f4 fd0 fd1 fd2 fd3 fd4, My.BookFacts (L2.KOf KX) mg C f0 f1 f2 f3 f4 fd0 fd1 fd2 fd3 fd4 := by
      dsimp only [L2.KOf]
      refine' My.Book_mk KX G ?aC ?a0 ?i0 ?l0 ?c0 ?k0 ?a1 ?i1 ?l1 ?c1 ?k1 ?a2 ?i2 ?l2 ?c2 ?k2 ?a3 ?i3 ?l3 ?c3 ?k3 ?a4 ?i4 ?l4 ?c4 ?k4 ?pg ?hd ?po ?sa ?mk ?kc ?nf0
      (case aC => k_is)
      (case a0 => k_is)
      (case i0 => k_is)
      (case l0 => k_is)
      (case c0 => k_is)
      (case k0 => k_is)
      (case a1 => k_is)
      (case i1 => k_is)
      (case l1 => k_is)
      (case c1 => k_is)
      (case k1 => k_is)
      (case a2 => k_is)
      (case i2 => k_is)
      (case l2 => k_is)
      (case c2 => k_is)
      (case k2 => k_is)
      (case a3 => k_is)
      (case i3 => k_is)
      (case l3 => k_is)
      (case c3 => k_is)
      (case k3 => k_is)
      (case a4 => k_is)
      (case i4 => k_is)
      (case l4 => k_is)
      (case c4 => k_is)
      (case k4 => k_is)
      (case pg => k_is)
      (case hd => k_is)
      (case po => k_is)
      (case sa => k_is)
      (case mk => k_is)
      (case kc => k_is)
      (case nf0 => k_is)
    obtain ⟨_, _, _, _, _, _, _, _, _, _, _, bf_Book⟩ := xbf_Book
    have xer : ∃ C_NoText C_Twice C_NoWord C_NoBoard C_NoLaying C_Taken C_Crooked C_Gap C_Apart C_Lacking C_TooFew C_NoDeed C_Over C_NoBack C_NoRow CR f0 fd0, My.Err6 (L2.KOf KX) mg C_NoText C_Twice C_NoWord C_NoBoard C_NoLaying C_Taken C_Crooked C_Gap C_Apart C_Lacking C_TooFew C_NoDeed C_Over C_NoBack C_NoRow CR f0 fd0 := by
      dsimp only [L2.KOf]
      refine' My.err6_mk KX G ?a_NoText ?a_Twice ?a_NoWord ?a_NoBoard ?a_NoLaying ?a_Taken ?a_Crooked ?a_Gap ?a_Apart ?a_Lacking ?a_TooFew ?a_NoDeed ?a_Over ?a_NoBack ?a_NoRow ?aR ?xN ?xT ?eN ?eT ?eW ?fi ?i0 ?l0 ?c0 ?k0 ?ini ?kp ?ln ?sa ?hn ?ht ?clN ?gaN ?gxN ?haN ?hmN ?hbN ?vN ?clT ?gaT ?gxT ?haT ?hmT ?hbT ?vT ?clW ?gaW ?gxW ?haW ?hmW ?hbW ?vW ?qN ?qT ?qW ?hd ?nw ?g2 ?rd ?fc
      (case a_NoText => k_is)
      (case a_Twice => k_is)
      (case a_NoWord => k_is)
      (case a_NoBoard => k_is)
      (case a_NoLaying => k_is)
      (case a_Taken => k_is)
      (case a_Crooked => k_is)
      (case a_Gap => k_is)
      (case a_Apart => k_is)
      (case a_Lacking => k_is)
      (case a_TooFew => k_is)
      (case a_NoDeed => k_is)
      (case a_Over => k_is)
      (case a_NoBack => k_is)
      (case a_NoRow => k_is)
      (case aR => k_is)
      (case xN => k_exc)
      (case xT => k_exc)
      (case eN => kernel_rfl)
      (case eT => kernel_rfl)
      (case eW => kernel_rfl)
      (case fi => k_is)
      (case i0 => k_is)
      (case l0 => k_is)
      (case c0 => k_is)
      (case k0 => k_is)
      (case ini => kernel_rfl)
      (case kp => k_is)
      (case ln => kernel_rfl)
      (case sa => k_is)
      (case hn => k_is)
      (case ht => k_is)
      (case clN => kernel_rfl)
      (case gaN => k_is)
      (case gxN => k_is)
      (case haN => k_is)
      (case hmN => k_is)
      (case hbN => k_is)
      (case vN => kernel_rfl)
      (case clT => kernel_rfl)
      (case gaT => k_is)
      (case gxT => k_is)
      (case haT => k_is)
      (case hmT => k_is)
      (case hbT => k_is)
      (case vT => kernel_rfl)
      (case clW => kernel_rfl)
      (case gaW => k_is)
      (case gxW => k_is)
      (case haW => k_is)
      (case hmW => k_is)
      (case hbW => k_is)
      (case vW => kernel_rfl)
      (case qN => kernel_rfl)
      (case qT => kernel_rfl)
      (case qW => kernel_rfl)
      (case hd => k_is)
      (case nw => k_is)
      (case g2 => k_is)
      (case rd => k_is)
      (case fc => k_is)
    obtain ⟨_, _, _, _, _, _, _, _, _, _, _, _, _, _, _, _, _, _, er⟩ := xer
    have lw : ∃ fd : FuncData, L2.Fun (L2.KOf KX) "law" "law" My.s_law fa fd ∧ ∀ (s : Shared) (v : Value), BindsTo s fd ⟨[v], []⟩ [("_law_script", v)] := by
      dsimp only [L2.KOf]
      refine' L2.law_at KX G hmg ?a ?l ?c ?k ?b
      (case a => k_is); (case l => k_is); (case c => k_is); (case k => k_is)
      (case b => exact fun _ _ _ _ _ _ _ => rfl)
    obtain ⟨fd, F, hb⟩ := lw
    exact ⟨fd, hb, fun base _ _ => My.law_all n_len n_range n_list n_sorted n_tuple n_str n_all n_min n_isinstance n_ValueError d_is_word d_check_word d_cell_at d_next d_other d_number d_digits d_letters d_word_of d_word d_mixed d_rows_of d_book d_which d_no_word d_told bf_Book er F⟩
