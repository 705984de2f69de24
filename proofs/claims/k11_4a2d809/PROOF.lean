import PyProof.Rows.All
import Wide.All
import OpenK.AllK
import Wide.FinOn
import Lean
import PyProof.EqAt
import PyProof.EqKinds
import PyProof.TupleCall
import KE.KRevIter
import PyProof.JoinWalk
import PyProof.CollectIter
import KE.KDictSum
import KE.KSortTup
import OpenK.KRaise
import PyProof.StationsW
import OpenK.KOwn
import KE.KTryMore
import KE.KIsNot
import PyProof.NsDelKeeps
import KE.KIsAll
import PyProof.ExcArgs
import PyProof.ListMulRoad
import PyProof.Rows.SeqMore
import PyProof.FactsAll.tuple_2
import PyProof.ExcInit
import OpenK.KCls
import PySem.Challenge.RW_letterrack_k11_what_is_left
section
set_option Elab.async false
set_option linter.all false
set_option maxRecDepth 100000
namespace L2
open PySem PySem.Spec PyProof.Rows

abbrev Key := Sum Int Str
def keyIs : Key → Value → Bool
  | .inl k, v => Value.isInt k v
  | .inr x, v => Value.isStrOf x v
def keyH (w : World) : Key → Int
  | .inl k => hashInt k
  | .inr x => hashStr w x
theorem keyIs_shape : ∀ {k : Key} {v : Value}, keyIs k v = true → (∃ i t, k = Sum.inl i ∧ v = Value.int i t) ∨ (∃ x t, k = Sum.inr x ∧ v = Value.str x t)
  | .inl i, v, h => by
    obtain ⟨t, e⟩ := Value.isInt_shape (k := i) (v := v) h
    exact .inl ⟨i, t, rfl, e⟩
  | .inr x, v, h => by
    obtain ⟨t, e⟩ := Value.isStrOf_shape (x := x) (v := v) h
    exact .inr ⟨x, t, rfl, e⟩
theorem key_ll (a b : Int) : decide ((Sum.inl a : Key) = Sum.inl b) = (a == b) := by
  by_cases e : a = b
  · subst e; simp
  · have h : ¬ (Sum.inl a : Key) = Sum.inl b := fun q => e (Sum.inl.inj q)
    rw [decide_eq_false h]
    exact (beq_eq_false_iff_ne.mpr e).symm
theorem key_rr (a b : Str) : decide ((Sum.inr a : Key) = Sum.inr b) = decide (a = b) := by
  by_cases e : a = b
  · subst e; simp
  · have h : ¬ (Sum.inr a : Key) = Sum.inr b := fun q => e (Sum.inr.inj q)
    rw [decide_eq_false h, decide_eq_false e]
theorem key_lr (a : Int) (b : Str) : decide ((Sum.inl a : Key) = Sum.inr b) = false := decide_eq_false (fun q => nomatch q)
theorem key_rl (a : Str) (b : Int) : decide ((Sum.inr a : Key) = Sum.inl b) = false := decide_eq_false (fun q => nomatch q)

def mixKind (prog : Program) (w : World) : PySem.KeyKind prog w Key where
  is := keyIs
  hash := keyH w
  inj := fun v a b ha hb => by
    rcases keyIs_shape ha with ⟨i, t, rfl, rfl⟩ | ⟨x, t, rfl, rfl⟩
    · rcases keyIs_shape hb with ⟨j, u, rfl, e⟩ | ⟨y, u, rfl, e⟩
      · injection e with e1 _; rw [e1]
      · exact nomatch e
    · rcases keyIs_shape hb with ⟨j, u, rfl, e⟩ | ⟨y, u, rfl, e⟩
      · exact nomatch e
      · injection e with e1 _; rw [e1]
  byValue := fun k v h => by
    rcases keyIs_shape h with ⟨i, t, rfl, rfl⟩ | ⟨x, t, rfl, rfl⟩ <;> rfl
  pyHash := fun hv h => by
    rcases keyIs_shape hv with ⟨i, t, rfl, rfl⟩ | ⟨x, t, rfl, rfl⟩
    · exact wpAny_pyHash_int h
    · exact wpAny_pyHash_str h
  eqBool := fun hu hv h => by
    rcases keyIs_shape hu with ⟨i, t, rfl, rfl⟩ | ⟨x, t, rfl, rfl⟩
    · rcases keyIs_shape hv with ⟨j, u, rfl, rfl⟩ | ⟨y, u, rfl, rfl⟩
      · rw [key_ll] at h; exact wpAny_eqBool_int h
      · rw [key_lr] at h; exact SeqAt.EqAt.int_str i t y u _ _ _ _ h
    · rcases keyIs_shape hv with ⟨j, u, rfl, rfl⟩ | ⟨y, u, rfl, rfl⟩
      · rw [key_rl] at h; exact SeqAt.EqAt.str_int x t j u _ _ _ _ h
      · rw [key_rr] at h; exact wpAny_eqBool_str h
  «strs» := fun k x t v h => by
    rcases keyIs_shape h with ⟨i, u, rfl, e⟩ | ⟨y, u, rfl, e⟩
    · exact nomatch e
    · injection e with e1 _
      subst e1
      cases v <;> rfl

end L2

namespace L2
open PySem PySem.Spec PyProof.Rows

inductive V where
  | non | bl (b : Bool) | int (i : Int) | str (x : Str) | byt (b : Array UInt8) | flt (b : UInt64) | ref (a : Addr) | ty (n : String)
  deriving DecidableEq

def RelV : V → Value → Prop
  | .non, u => u = Value.none
  | .bl b, u => u = Value.bool b
  | .int i, u => ∃ t, u = Value.int i t
  | .str x, u => ∃ t, u = Value.str x t
  | .byt b, u => ∃ t, u = Value.bytes b t
  | .flt b, u => ∃ t, u = Value.float b t
  | .ref a, u => u = Value.ref a
  | .ty n, u => u = Value.type n

abbrev Vals : List V → List Value → Prop := Paired RelV
theorem Vals.length {xs : List V} {us : List Value} (r : Vals xs us) : xs.length = us.length := Paired.length r
theorem Vals.get : ∀ {xs : List V} {us : List Value} {i : Nat} {x : V}, Vals xs us → xs[i]? = some x → ∃ u, us[i]? = some u ∧ RelV x u
  | _, _, _, _, .nil, e => by simp at e
  | _, _, 0, _, .cons r _, e => by simp at e; subst e; exact ⟨_, rfl, r⟩
  | _, _, i + 1, x, .cons _ t, e => by
    obtain ⟨u, h1, h2⟩ := Vals.get (i := i) (x := x) t (by simpa using e)
    exact ⟨u, by simpa using h1, h2⟩
theorem Vals.append : ∀ {xs ys : List V} {us ws : List Value}, Vals xs us → Vals ys ws → Vals (xs ++ ys) (us ++ ws)
  | _, _, _, _, .nil, s => s
  | _, _, _, _, .cons r t, s => .cons r (Vals.append t s)
theorem Vals.take : ∀ {xs : List V} {us : List Value} (n : Nat), Vals xs us → Vals (xs.take n) (us.take n)
  | _, _, 0, _ => .nil
  | _, _, _ + 1, .nil => .nil
  | _, _, n + 1, .cons r t => .cons r (Vals.take n t)
theorem Vals.drop : ∀ {xs : List V} {us : List Value} (n : Nat), Vals xs us → Vals (xs.drop n) (us.drop n)
  | _, _, 0, r => r
  | _, _, _ + 1, .nil => .nil
  | _, _, n + 1, .cons _ t => Vals.drop n t
def RelO : Option V → Option Value → Prop
  | some v, some u => RelV v u
  | none, none => True
  | _, _ => False
def KV {κ : Type} : List (κ × V) → List (κ × Value) → Prop := Paired fun (p : κ × V) (q : κ × Value) => p.1 = q.1 ∧ RelV p.2 q.2

def kV : Key → V
  | .inl i => .int i
  | .inr x => .str x

inductive HO where
  /-- a list -/
  | lst (xs : List V)
  /-- a tuple (never changes) -/
  | tup (xs : List V)
  /-- a dict whose keys are ints and texts; one whose keys are tuples of ints and texts (the empty one is both) -/
  | dK (kvs : List (Key × V)) | dT (kvs : List (List Key × V))
  /-- a set of ints: its members, its size -/
  | set (S : Int → Bool) (n : Nat)
  /-- an instance of the class at C, its dict at dx, its attributes -/
  | ins (C dx : Addr) (fs : List (Str × V))
  /-- the dict of the instance at x -/
  | own (x : Addr)
  /-- the dict of an exception -/
  | xd (fs : List (Str × V))
  /-- a bound method, f of x -/
  | met (f x : Addr)
  /-- a range object lo, lo + 1, .. below hi -/
  | rng (lo hi : Int)
  /-- a thing that is known to the object (the script; a dict while a loop walks it): read, never written while it is so -/
  | frz (o : Obj) (u : HO)
  /-- a code object's table -/
  | tbl (ps : Array Value)
  /-- any other thing, by what is true of its one object (a def of one's own: SetO a S n := HO.ext fun h => ..) -/
  | ext (φ : Heap → Prop)

abbrev Hp := Addr → Option HO
def upd (H : Hp) (a : Addr) (o : HO) : Hp := fun b => if b = a then some o else H b
theorem upd_same {H : Hp} {a : Addr} {o : HO} : upd H a o a = some o := by unfold upd; rw [if_pos rfl]
theorem upd_ne {H : Hp} {a b : Addr} {o : HO} (h : b ≠ a) : upd H a o b = H b := by unfold upd; rw [if_neg h]
theorem ne_of_none {H : Hp} {a b : Addr} {o : HO} (h : H a = some o) (h' : H b = none) : a ≠ b := by
  intro e; subst e; rw [h] at h'; cases h'

section
variable (P : Program) (w : World)
def ObjOk (H : Hp) (h : Heap) (a : Addr) : HO → Prop
  | .lst xs => xs.length ≤ sizeLine ∧ ∃ (its : List Value) (n : Nat), Vals xs its ∧ h.get? a = some { cls := .type "list", data := .seq its.toArray n }
  | .tup xs => xs.length ≤ sizeLine ∧ ∃ its : List Value, Vals xs its ∧ IsTup h a its.toArray
  | .dK kvs => kvs.length ≤ sizeLine ∧ (a == sysModules) = false ∧ ∃ vs, KV kvs vs ∧ h.DictOf (mixKind P w) a vs
  | .dT kvs => kvs.length ≤ sizeLine ∧ (a == sysModules) = false ∧ ∃ xs : List (List Key × Addr × Value),
      Paired (fun (p : List Key × V) (q : List Key × Addr × Value) => p.1 = q.1 ∧ H q.2.1 = some (.tup (p.1.map kV)) ∧ RelV p.2 q.2.2) kvs xs ∧
      ∃ o es ep, h.get? a = some o ∧ o.ExactDict ∧ o.data = .dict es ep ∧ es.toList = xs.map (entryOfKey (tupleKind (mixKind P w))) ∧ (xs.map (·.1)).Nodup
  | .set S n => h.SetOf (intKind P w) a S n
  | .ins C dx fs => H dx = some (.own a) ∧ fs.length ≤ 1000 ∧ dx ≠ a ∧ h.get? a = some (PySem.W.instObj C dx) ∧
      ∃ mA, h.Ns1 dx mA ∧ (∀ f, RelO (fs.lookup f) (mA f)) ∧ PySem.Within mA (fs.map (·.1))
  | .own _ => ∃ o, h.get? a = some o
  | .xd fs => ∃ mA, h.Ns1 a mA ∧ ∀ f, RelO (fs.lookup f) (mA f)
  | .rng lo hi => ∃ t u v, h.get? a = some { cls := .type "range", data := .fields #[.int lo t, .int hi u, .int 1 v] }
  | .frz o u => h.get? a = some o ∧ ObjOk H h a u
  | .tbl ps => h.get? a = some { cls := .none, data := .fields ps }
  | .met f x => h.get? a = some (PySem.W.methodObj (.ref f) (.ref x))
  | .ext φ => φ h ∧ (∃ o, h.get? a = some o) ∧ ∀ h1 h2 : Heap, φ h1 → (∀ o, h1.get? a = some o → h2.get? a = some o) → φ h2
def HOk (H : Hp) (h : Heap) : Prop := ∀ a o, H a = some o → ObjOk P w H h a o
end

section
variable {P : Program} {w : World} {H H' : Hp} {h h' : Heap} {a : Addr} {o : HO}
theorem ObjOk.lt (x : ObjOk P w H h a o) : a < h.objs.size := by
  cases o with
  | lst xs => obtain ⟨_, _, _, _, e⟩ := x; exact Heap.lt_size e
  | tup xs => obtain ⟨_, _, _, p⟩ := x; exact p.lt
  | dK kvs => obtain ⟨_, _, _, _, o, _, _, e, _⟩ := x; exact Heap.lt_size e
  | dT kvs => obtain ⟨_, _, _, _, o, _, _, e, _⟩ := x; exact Heap.lt_size e
  | set S n => obtain ⟨o, _, _, _, e, _⟩ := x; exact Heap.lt_size e
  | ins C dx fs => obtain ⟨_, _, _, e, _⟩ := x; exact Heap.lt_size e
  | own y => obtain ⟨_, e⟩ := x; exact Heap.lt_size e
  | xd fs => obtain ⟨_, ⟨_, _, _, e, _⟩, _⟩ := x; exact Heap.lt_size e
  | rng lo hi => obtain ⟨_, _, _, e⟩ := x; exact Heap.lt_size e
  | frz ob u => obtain ⟨e, _⟩ := x; exact Heap.lt_size e
  | tbl ps => exact Heap.lt_size (show h.get? a = some _ from x)
  | met f y => exact Heap.lt_size (show h.get? a = some _ from x)
  | ext φ => obtain ⟨_, ⟨_, e⟩, _⟩ := x; exact Heap.lt_size e
theorem Paired.mapP {α β : Type} {F G : α → β → Prop} : ∀ {l₁ : List α} {l₂ : List β}, Paired F l₁ l₂ → (∀ a b, F a b → G a b) → Paired G l₁ l₂
  | _, _, .nil, _ => .nil
  | _, _, .cons r t, f => .cons (f _ _ r) (Paired.mapP t f)
theorem ObjOk.stay (x : ObjOk P w H h a o) (k : ∀ b u, (b = a ∨ H b = some (.own a)) → h.get? b = some u → h'.get? b = some u)
    (ho : ∀ b, H b = some (.own a) → H' b = some (.own a)) (ht : ∀ b xs, H b = some (.tup xs) → H' b = some (.tup xs)) : ObjOk P w H' h' a o := by
  induction o with
  | lst xs => obtain ⟨z, its, n, r, e⟩ := x; exact ⟨z, its, n, r, k _ _ (.inl rfl) e⟩
  | tup xs => obtain ⟨z, its, r, ob, e, c⟩ := x; exact ⟨z, its, r, ob, k _ _ (.inl rfl) e, c⟩
  | dK kvs => obtain ⟨z, y, vs, r, ob, es, ep, e, c⟩ := x; exact ⟨z, y, vs, r, ob, es, ep, k _ _ (.inl rfl) e, c⟩
  | dT kvs =>
    obtain ⟨z, y, xs, r, ob, es, ep, e, c⟩ := x
    exact ⟨z, y, xs, Paired.mapP r fun p q z => ⟨z.1, ht _ _ z.2.1, z.2.2⟩, ob, es, ep, k _ _ (.inl rfl) e, c⟩
  | set S n => obtain ⟨ob, es, ep, t, e, c⟩ := x; exact ⟨ob, es, ep, t, k _ _ (.inl rfl) e, c⟩
  | ins C dx fs =>
    obtain ⟨d, z, ne, e, mA, ⟨od, es, ep, e2, c⟩, r⟩ := x
    exact ⟨ho _ d, z, ne, k _ _ (.inl rfl) e, mA, ⟨od, es, ep, k _ _ (.inr d) e2, c⟩, r⟩
  | own y => obtain ⟨ob, e⟩ := x; exact ⟨ob, k _ _ (.inl rfl) e⟩
  | xd fs => obtain ⟨mA, ⟨od, es, ep, e, c⟩, r⟩ := x; exact ⟨mA, ⟨od, es, ep, k _ _ (.inl rfl) e, c⟩, r⟩
  | rng lo hi => obtain ⟨t, u, v, e⟩ := x; exact ⟨t, u, v, k _ _ (.inl rfl) e⟩
  | frz ob u ih => obtain ⟨e, q⟩ := x; exact ⟨k _ _ (.inl rfl) e, ih q⟩
  | tbl ps =>
    have e : h.get? a = some { cls := .none, data := .fields ps } := x
    show h'.get? a = some { cls := .none, data := .fields ps }
    exact k a _ (.inl rfl) e
  | met f y =>
    have e : h.get? a = some (PySem.W.methodObj (.ref f) (.ref y)) := x
    show h'.get? a = some (PySem.W.methodObj (.ref f) (.ref y))
    exact k a _ (.inl rfl) e
  | ext φ => obtain ⟨p, ⟨o, e⟩, st⟩ := x; exact ⟨st _ _ p fun o q => k _ _ (.inl rfl) q, ⟨o, k _ _ (.inl rfl) e⟩, st⟩
theorem HOk.lt (x : HOk P w H h) (e : H a = some o) : a < h.objs.size := (x a o e).lt
theorem HOk.fresh (x : HOk P w H h) (e : h.objs.size ≤ a) : H a = none := by
  cases q : H a with
  | none => rfl
  | some u => exact absurd (Nat.lt_of_lt_of_le (x.lt q) e) (Nat.lt_irrefl _)
theorem HOk.kept (x : HOk P w H h) (k : ∀ b u, h.get? b = some u → h'.get? b = some u) : HOk P w H h' := fun a o e =>
  (x a o e).stay (fun b u _ q => k b u q) (fun _ q => q) fun _ _ q => q
theorem HOk.laid (x : HOk P w H h) (k : ∀ b u, h.get? b = some u → h'.get? b = some u) (hp : h.objs.size ≤ a) (new : ObjOk P w (upd H a o) h' a o) : HOk P w (upd H a o) h' := fun b u e => by
  have hn := x.fresh hp
  by_cases hb : b = a
  · subst hb; rw [upd_same] at e; cases e; exact new
  · rw [upd_ne hb] at e
    exact (x b u e).stay (fun c v _ q => k c v q) (fun c q => by rw [upd_ne (ne_of_none q hn)]; exact q) fun c xs q => by rw [upd_ne (ne_of_none q hn)]; exact q
end

def Rd (H : Hp) (a : Addr) (u : HO) : Prop := H a = some u ∨ ∃ o, H a = some (.frz o u)
theorem Rd.ok {P : Program} {w : World} {H : Hp} {h : Heap} {a : Addr} {u : HO} (r : Rd H a u) (x : HOk P w H h) : ObjOk P w H h a u := by
  rcases r with r | ⟨o, r⟩
  · exact x a u r
  · obtain ⟨_, q⟩ := x a _ r
    exact q
def Mut : Option HO → Prop
  | some (.lst _) => True
  | some (.dK _) => True
  | some (.dT _) => True
  | some (.set _ _) => True
  | some (.ins _ _ _) => True
  | some (.ext _) => True
  | _ => False
section
variable {P : Program} {w : World} {H : Hp} {h h' : Heap} {x e : Addr} {o' : HO}
theorem HOk.write (ok : HOk P w H h) (mu : Mut (H x)) (he : e = x ∨ H e = some (.own x)) (k : ∀ b u, b ≠ e → h.get? b = some u → h'.get? b = some u) (heo : ∃ u, h'.get? e = some u)
    (new : ObjOk P w (upd H x o') h' x o') : HOk P w (upd H x o') h' := fun b u q => by
  have nown : ∀ c y, H c = some (.own y) → c ≠ x := fun c y r z => by subst z; rw [r] at mu; exact mu
  have ntup : ∀ c xs, H c = some (.tup xs) → c ≠ x := fun c xs r z => by subst z; rw [r] at mu; exact mu
  by_cases hb : b = x
  · subst hb; rw [upd_same] at q; cases q; exact new
  · rw [upd_ne hb] at q
    by_cases hbe : b = e
    · have q' : H b = some (.own x) := by
        rcases he with z | z
        · exact absurd (hbe.trans z) hb
        · rw [hbe]; exact z
      rw [q] at q'; cases q'
      obtain ⟨v, hv⟩ := heo
      exact ⟨v, by rw [hbe]; exact hv⟩
    · refine (ok b u q).stay (fun c v hc r => k c v ?_ r) (fun c r => by rw [upd_ne (nown c b r)]; exact r) fun c xs r => by rw [upd_ne (ntup c xs r)]; exact r
      rcases hc with rfl | hc
      · exact hbe
      · rintro rfl
        rcases he with z | z
        · exact nown c b hc z
        · rw [hc] at z; cases z; exact hb rfl
end

structure Un (fs ex : List Addr) (H H' : Hp) (h h' : Heap) : Prop where
  keep : ∀ b o, h.get? b = some o → H b = none → b ∉ fs → b ∉ ex → h'.get? b = some o
  slot : ∀ b o, h.get? b = some o → H b = none → b ∈ fs → b ∉ ex → ∃ sl, h'.get? b = some { o with slots := sl }
  free : ∀ b o, h.get? b = some o → H b = none → b ∉ ex → H' b = none
  there : ∀ b o, h.get? b = some o → b ∉ ex → ∃ o', h'.get? b = some o'
  tups : ∀ b xs, H b = some (.tup xs) → H' b = some (.tup xs)
  frzs : ∀ b o u, H b = some (.frz o u) → H' b = some (.frz o u)
  tbls : ∀ b ps, H b = some (.tbl ps) → ∃ more, H' b = some (.tbl (ps ++ more))
section
variable {fs fs' ex ex' : List Addr} {H H1 H2 : Hp} {h h1 h2 h' : Heap} {a x e : Addr} {o : HO}
theorem Un.any (u : Un fs ex H H1 h h1) {b : Addr} {ob : Obj} (q : h.get? b = some ob) (n : H b = none) (hx : b ∉ ex) : ∃ sl, h1.get? b = some { ob with slots := sl } := by
  by_cases hb : b ∈ fs
  · exact u.slot b ob q n hb hx
  · exact ⟨ob.slots, u.keep b ob q n hb hx⟩
theorem Un.kept (k : ∀ b u, h.get? b = some u → h'.get? b = some u) : Un fs ex H H h h' :=
  ⟨fun b ob q _ _ _ => k b ob q, fun b ob q _ _ _ => ⟨ob.slots, k b ob q⟩, fun _ _ _ n _ => n, fun b ob q _ => ⟨ob, k b ob q⟩, fun _ _ q => q, fun _ _ _ q => q, fun _ ps q => ⟨#[], by rw [q]; simp⟩⟩
theorem Un.refl : Un fs ex H H h h := Un.kept fun _ _ q => q
theorem Un.laid (k : ∀ b u, h.get? b = some u → h'.get? b = some u) (hp : h.objs.size ≤ a) (hn : H a = none) : Un fs ex H (upd H a o) h h' where
  keep := fun b u q _ _ _ => k b u q
  slot := fun b u q _ _ _ => ⟨u.slots, k b u q⟩
  free := fun b u q n _ => by rw [upd_ne (Nat.ne_of_lt (Nat.lt_of_lt_of_le (Heap.lt_size q) hp))]; exact n
  there := fun b u q _ => ⟨u, k b u q⟩
  tups := fun b xs q => by rw [upd_ne (ne_of_none q hn)]; exact q
  frzs := fun b u xs q => by rw [upd_ne (ne_of_none q hn)]; exact q
  tbls := fun b ps q => ⟨#[], by rw [upd_ne (ne_of_none q hn), q]; simp⟩
theorem Un.write (mu : Mut (H x)) (he : e = x ∨ H e = some (.own x)) (k : ∀ b u, b ≠ e → h.get? b = some u → h'.get? b = some u) (heo : ∃ u, h'.get? e = some u) : Un fs ex H (upd H x o) h h' := by
  have hx : ∀ b, H b = none → b ≠ x := fun b n z => by subst z; rw [n] at mu; exact mu
  have hb : ∀ b, H b = none → b ≠ e := fun b n z => by
    subst z
    rcases he with r | r
    · exact hx b n r
    · rw [n] at r; cases r
  have hm : ∀ b u, H b = some u → ¬ Mut (some u) → b ≠ x := fun b u q nm z => by subst z; rw [q] at mu; exact nm mu
  refine ⟨fun b u q n _ _ => k b u (hb b n) q, fun b u q n _ _ => ⟨u.slots, k b u (hb b n) q⟩, fun b u q n _ => by rw [upd_ne (hx b n)]; exact n, fun b u q _ => ?_,
    fun b xs q => by rw [upd_ne (hm b _ q fun z => z)]; exact q, fun b u xs q => by rw [upd_ne (hm b _ q fun z => z)]; exact q, fun b ps q => ⟨#[], by rw [upd_ne (hm b _ q fun z => z), q]; simp⟩⟩
  by_cases hbe : b = e
  · subst hbe; exact heo
  · exact ⟨u, k b u hbe q⟩
end

def trk (h : Heap) (H : Hp) : List Addr := (List.range h.objs.size).filter fun a => (H a).isSome
def hidT (h : Heap) (H : Hp) : Heap := PySem.W.hideAll h (trk h H)
theorem hidT_size (h : Heap) (H : Hp) : (hidT h H).objs.size = h.objs.size := PySem.W.hideAll_size _ _
theorem hidT_get {h : Heap} {H : Hp} {b : Addr} {o : Obj} (e : h.get? b = some o) (n : H b = none) : (hidT h H).get? b = some o :=
  PySem.W.hideAll_get _ e fun hm => by
    have q : (H b).isSome = true := (List.mem_filter.mp hm).2
    rw [n] at q; simp at q
theorem of_hidT {h : Heap} {H : Hp} {b : Addr} {o : Obj} (e : (hidT h H).get? b = some o) : h.get? b = some o ∧ H b = none := by
  have e' : h.get? b = some o := PySem.W.of_hideAll (trk h H) e
  refine ⟨e', ?_⟩
  cases q : H b with
  | none => rfl
  | some x =>
    have hm : b ∈ trk h H := List.mem_filter.mpr ⟨List.mem_range.mpr (Heap.lt_size e'), by simp [q]⟩
    have z : (hidT h H).get? b = none := PySem.W.hideAll_none (trk h H) hm
    rw [z] at e; cases e

end L2

namespace L2
open PySem PySem.Spec PyProof.Rows

structure Mod (K : PySem.W.Frag) (mg : Str → Option Value) (base : Heap) : Prop where
  kin : K.In base
  glob : base.Ns mainGlobals mg
  blt : ∃ mb, base.Ns builtinsNs mb ∧ ∀ x : Str, x ≠ "__name__" → mb x = bootBuiltins x
  nolimit : base.NoLimit

structure Cx where
  prog : Program
  w : World
  K : PySem.W.Frag
  mg : Str → Option Value
  base : Heap
  A : Around
  N : List Str
  s₀ : Shared
  H₀ : Hp
  env : Env
  outer : List Env
  stack : List Env
  ex : List Addr
  fn : Str → Bool
  calm : Bool
  pn : List (Addr × Obj)
  xe : Value → Shared → Prop
def frs (l : List Env) : List Addr := l.filterMap (·.frame)
abbrev Cx.fs (X : Cx) : List Addr := frs X.outer

def Vis (sc : Scope) (x : Str) : Prop := sc.names.lookup x = some .local ∨ sc.names.lookup x = some .cell ∨ sc.names.lookup x = some .free
def Loc (sc : Scope) (x : Str) : Prop := sc.names.lookup x = some .local ∨ sc.names.lookup x = some .cell
def Look (env : Env) (h : Heap) (m : Str → Option Value) (x : Str) (u : Value) : Prop :=
  (env.kindOf x = some .local ∧ m x = some u) ∨ ((env.kindOf x = some .cell ∨ env.kindOf x = some .free) ∧ ∃ c, env.cells.lookup x = some c ∧ h.IsCell c (some u))

structure Cx.Ok (X : Cx) : Prop where
  mod : Mod X.K X.mg X.base
  kind : X.env.scope.kind = .function
  glob : X.env.globals = mainGlobals
  blt : X.env.builtins = builtinsNs
  above : X.s₀.heap.objs.size ≤ X.env.locals
  inj : ∀ x y c, X.env.cells.lookup x = some c → X.env.cells.lookup y = some c → x = y
  has : ∀ x, (X.env.kindOf x = some .cell ∨ X.env.kindOf x = some .free) → ∃ c, X.env.cells.lookup x = some c
  cab : ∀ x c, X.fn x = true → X.env.cells.lookup x = some c → X.s₀.heap.objs.size ≤ c
  hd : X.calm = true → X.A.handled = none
  frames : X.A.frames = some X.stack
  stk : X.stack = X.outer ∨ (X.stack = X.env :: X.outer ∧ X.env.frame = some X.env.locals)
  exf : ∀ b ∈ X.ex, b ≠ X.env.locals ∧ ∀ x c, X.env.cells.lookup x = some c → c ≠ b
  bs : ∀ b o, X.base.get? b = some o → X.s₀.heap.get? b = some o ∧ X.H₀ b = none
  bsz : X.base.objs.size ≤ X.s₀.heap.objs.size
  noex : ∀ b o, X.base.get? b = some o → b ∉ X.ex
  exfs : ∀ b ∈ X.ex, b ∉ X.fs
  funs : X.s₀.heap.FunFrames X.base X.outer
  frf : ∀ b ∈ X.fs, X.H₀ b = none

structure Inv (X : Cx) (pins : List (Addr × Obj)) (σ : List (Option V)) (H : Hp) (s : Shared) : Prop where
  ok : X.Ok
  os : s.os = X.s₀.os
  bare : AllBare s.gens
  base : Un X.fs X.ex X.H₀ H X.s₀.heap s.heap
  loc : ∃ m, s.heap.Ns X.env.locals m ∧ ∀ (i : Nat) (x : Str) (v : V), X.N[i]? = some x → σ[i]? = some (some v) → Vis X.env.scope x → ∃ u, RelV v u ∧ Look X.env s.heap m x u
  cell : ∀ x c, X.env.cells.lookup x = some c → ∃ v, s.heap.IsCell c v
  free : H X.env.locals = none
  freeC : ∀ x c, X.env.cells.lookup x = some c → H c = none
  pin : ∀ p ∈ X.pn ++ pins, s.heap.get? p.1 = some p.2 ∧ H p.1 = none ∧ p.1 ≠ X.env.locals ∧ p.1 ∉ X.fs ∧ ∀ v, p.2.data ≠ .cell v
  hok : HOk X.prog X.w H s.heap
  len : σ.length = X.N.length

section
variable {X : Cx} {pins : List (Addr × Obj)} {σ : List (Option V)} {H H' : Hp} {s : Shared} {h' : Heap}

theorem Cx.Ok.nofr (ok : X.Ok) {b : Addr} {o : Obj} (e : X.base.get? b = some o) : b ∉ X.fs := fun hb => by
  have := (ok.funs.mem hb).1
  rw [e] at this; cases this
theorem Inv.bs (I : Inv X pins σ H s) : ∀ b o, X.base.get? b = some o → s.heap.get? b = some o ∧ H b = none := fun b o e =>
  ⟨I.base.keep b o (I.ok.bs b o e).1 (I.ok.bs b o e).2 (I.ok.nofr e) (I.ok.noex b o e), I.base.free b o (I.ok.bs b o e).1 (I.ok.bs b o e).2 (I.ok.noex b o e)⟩
theorem Inv.bk (I : Inv X pins σ H s) : ∀ b o, X.base.get? b = some o → s.heap.get? b = some o := fun b o e => (I.bs b o e).1
theorem Inv.mod (I : Inv X pins σ H s) : Mod X.K X.mg X.base := I.ok.mod
theorem Inv.kIn (I : Inv X pins σ H s) : X.K.In s.heap := I.ok.mod.kin.keeps I.bk
theorem Inv.lt (I : Inv X pins σ H s) : X.env.locals < s.heap.objs.size := let ⟨_, hn, _⟩ := I.loc; hn.lt
theorem Inv.sz (I : Inv X pins σ H s) : X.s₀.heap.objs.size ≤ s.heap.objs.size := Nat.le_trans I.ok.above (Nat.le_of_lt I.lt)
theorem Inv.nofs (I : Inv X pins σ H s) {a : Addr} (h : s.heap.objs.size ≤ a) : a ∉ X.fs := fun hb => by
  obtain ⟨_, o, ho, _⟩ := I.ok.funs.mem hb
  exact absurd (Nat.lt_of_lt_of_le (Heap.lt_size ho) (Nat.le_trans I.sz h)) (Nat.lt_irrefl _)
theorem Inv.cne (I : Inv X pins σ H s) : ∀ x c, X.env.cells.lookup x = some c → c ≠ X.env.locals := fun x c e z => by
  obtain ⟨v, o, ho, hd⟩ := I.cell x c e
  obtain ⟨m, ⟨o', es, ep, ho', hd', _⟩, _⟩ := I.loc
  rw [z, ho'] at ho; cases ho; rw [hd'] at hd; cases hd
theorem Inv.funs (I : Inv X pins σ H s) : s.heap.FunFrames X.base X.outer := by
  have all : ∀ (l : List Env), (∀ b ∈ frs l, b ∈ X.fs) → X.s₀.heap.FunFrames X.base l → s.heap.FunFrames X.base l := by
    intro l
    induction l with
    | nil => intro _ _; trivial
    | cons env r ih =>
      intro hs hl
      obtain ⟨hk, ⟨L, o, hf, hn, ho, hd⟩, hr⟩ := hl
      have hL : L ∈ X.fs := hs L (by unfold frs; rw [List.filterMap_cons, hf]; exact List.mem_cons_self)
      obtain ⟨sl, e⟩ := I.base.slot L o ho (I.ok.frf L hL) hL fun z => I.ok.exfs L z hL
      exact ⟨hk, ⟨L, _, hf, hn, e, hd⟩, ih (fun b hb => hs b (by unfold frs; rw [List.filterMap_cons, hf]; exact List.mem_cons_of_mem _ hb)) hr⟩
  exact all X.outer (fun _ hb => hb) I.ok.funs

theorem Inv.stack (I : Inv X pins σ H s) : s.heap.FunFrames X.base X.stack := by
  rcases I.ok.stk with e | ⟨e, hf⟩
  · rw [e]; exact I.funs
  · rw [e]
    obtain ⟨m, hn, _⟩ := I.loc
    refine .cons (by rw [I.ok.kind]; decide) hf hn ?_ I.funs
    exact Heap.get?_none_of_le (Nat.le_trans I.ok.bsz I.ok.above)
theorem Inv.stkSub (I : Inv X pins σ H s) : ∀ b ∈ frs X.stack, b ∈ X.env.locals :: X.fs := fun b hb => by
  rcases I.ok.stk with e | ⟨e, hf⟩
  · rw [e] at hb; exact List.mem_cons_of_mem _ hb
  · rw [e] at hb
    unfold frs at hb
    rw [List.filterMap_cons, hf] at hb
    exact hb
theorem Inv.stkFree (I : Inv X pins σ H s) : ∀ b ∈ frs X.stack, H b = none := fun b hb => by
  rcases List.mem_cons.mp (I.stkSub b hb) with e | hb
  · rw [e]; exact I.free
  · obtain ⟨_, o, ho, _⟩ := I.ok.funs.mem hb
    exact I.base.free b o ho (I.ok.frf b hb) fun z => I.ok.exfs b z hb

theorem Inv.step {g' : Array GenState} {t' : Nat} {d' : Drawn} {ch : List Addr} (I : Inv X pins σ H s)
    (hch : ∀ b ∈ ch, (b ∈ X.ex ∨ X.s₀.heap.objs.size ≤ b) ∧ b ≠ X.env.locals ∧ (∀ x c, X.env.cells.lookup x = some c → c ≠ b) ∧ ∀ p ∈ X.pn ++ pins, p.1 ≠ b)
    (keep : ∀ b o, b ≠ X.env.locals → b ∉ X.fs → b ∉ ch → s.heap.get? b = some o → H b = none → h'.get? b = some o)
    (slot : ∀ b o, b ≠ X.env.locals → b ∈ X.fs → b ∉ ch → s.heap.get? b = some o → H b = none → ∃ sl, h'.get? b = some { o with slots := sl }) (free : ∀ b o, b ∉ ch → s.heap.get? b = some o → H b = none → H' b = none)
    (there : ∀ b o, b ∉ ch → s.heap.get? b = some o → ∃ o', h'.get? b = some o')
    (tups : ∀ b xs, H b = some (.tup xs) → H' b = some (.tup xs)) (frzs : ∀ b o u, H b = some (.frz o u) → H' b = some (.frz o u)) (tbls : ∀ b ps, H b = some (.tbl ps) → ∃ more, H' b = some (.tbl (ps ++ more)))
    (ns : ∀ m, s.heap.Ns X.env.locals m → h'.Ns X.env.locals m) (hok : HOk X.prog X.w H' h') (hg : AllBare g') :
    Inv X pins σ H' { s with heap := h', gens := g', drawn := d', toks := t' } := by
  have neL : ∀ b o, X.s₀.heap.get? b = some o → b ≠ X.env.locals := fun b o e => Nat.ne_of_lt (Nat.lt_of_lt_of_le (Heap.lt_size e) I.ok.above)
  have neC : ∀ b o, X.s₀.heap.get? b = some o → b ∉ X.ex → b ∉ ch := fun b o e hx hb => by
    rcases (hch b hb).1 with z | z
    · exact hx z
    · exact absurd (Nat.lt_of_lt_of_le (Heap.lt_size e) z) (Nat.lt_irrefl _)
  have cellK : ∀ x c, X.env.cells.lookup x = some c → ∀ v, s.heap.IsCell c v → h'.IsCell c v := fun x c e v ⟨o, ho, hd⟩ => by
    have nch : c ∉ ch := fun z => (hch c z).2.2.1 x c e rfl
    by_cases hc : c ∈ X.fs
    · obtain ⟨sl, q⟩ := slot c o (I.cne x c e) hc nch ho (I.freeC x c e)
      exact ⟨_, q, hd⟩
    · exact ⟨o, keep c o (I.cne x c e) hc nch ho (I.freeC x c e), hd⟩
  refine ⟨I.ok, I.os, hg, ⟨fun b o e n hb hx => ?_, fun b o e n hb hx => ?_, fun b o e n hx => ?_, fun b o e hx => ?_, fun b xs e => tups b xs (I.base.tups b xs e), fun b o xs e => frzs b o xs (I.base.frzs b o xs e), fun b ps e => ?_⟩, ?_, fun x c e => ?_, ?_, fun x c e => ?_, fun p hp => ?_, hok, I.len⟩
  · exact keep b o (neL b o e) hb (neC b o e hx) (I.base.keep b o e n hb hx) (I.base.free b o e n hx)
  · obtain ⟨sl, e1⟩ := I.base.slot b o e n hb hx
    obtain ⟨sl', e2⟩ := slot b _ (neL b o e) hb (neC b o e hx) e1 (I.base.free b o e n hx)
    exact ⟨sl', e2⟩
  · obtain ⟨o', e1⟩ := I.base.there b o e hx
    exact free b o' (neC b o e hx) e1 (I.base.free b o e n hx)
  · obtain ⟨o', e1⟩ := I.base.there b o e hx
    exact there b o' (neC b o e hx) e1
  · obtain ⟨m1, e1⟩ := I.base.tbls b ps e
    obtain ⟨m2, e2⟩ := tbls b _ e1
    exact ⟨m1 ++ m2, by rw [e2, Array.append_assoc]⟩
  · obtain ⟨m, hn, hl⟩ := I.loc
    refine ⟨m, ns m hn, fun i x v e1 e2 e3 => ?_⟩
    obtain ⟨u, r, l⟩ := hl i x v e1 e2 e3
    refine ⟨u, r, ?_⟩
    rcases l with l | ⟨k, c, e, z⟩
    · exact .inl l
    · exact .inr ⟨k, c, e, cellK x c e _ z⟩
  · obtain ⟨v, z⟩ := I.cell x c e
    exact ⟨v, cellK x c e v z⟩
  · obtain ⟨m, ⟨o, _, _, ho, _⟩, _⟩ := I.loc
    exact free _ o (fun z => (hch _ z).2.1 rfl) ho I.free
  · obtain ⟨v, o, ho, hd⟩ := I.cell x c e
    exact free c o (fun z => (hch c z).2.2.1 x c e rfl) ho (I.freeC x c e)
  · obtain ⟨e, n, ne, nf, d⟩ := I.pin p hp
    have nch : p.1 ∉ ch := fun z => (hch p.1 z).2.2.2 p hp rfl
    exact ⟨keep p.1 p.2 ne nf nch e n, free p.1 p.2 nch e n, ne, nf, d⟩
theorem Inv.un {t' : Nat} (I : Inv X pins σ H s) (u : Un X.fs [] H H' s.heap h') (hok : HOk X.prog X.w H' h') : Inv X pins σ H' { s with heap := h', toks := t' } := by
  obtain ⟨m, ⟨o, es, ep, ho, r⟩, _⟩ := id I.loc
  obtain ⟨sl, hL⟩ := u.any ho I.free (by simp)
  exact I.step (g' := s.gens) (d' := s.drawn) (ch := []) (fun _ z => nomatch z) (fun b o _ hb _ e n => u.keep b o e n hb (by simp)) (fun b o _ hb _ e n => u.slot b o e n hb (by simp)) (fun b o _ e n => u.free b o e n (by simp)) (fun b o _ e => u.there b o e (by simp)) u.tups u.frzs u.tbls (fun m' hm => by
    obtain ⟨o', es', ep', ho', r'⟩ := hm
    rw [ho] at ho'; cases ho'
    exact ⟨_, es', ep', hL, r'⟩) hok I.bare
theorem Inv.call {g' : Array GenState} {t' : Nat} {d' : Drawn} {ch : List Addr} (I : Inv X pins σ H s) (u : Un (frs X.stack) ch H H' s.heap h') (hok : HOk X.prog X.w H' h') (hg : AllBare g')
    (hch : ∀ b ∈ ch, (b ∈ X.ex ∨ X.s₀.heap.objs.size ≤ b) ∧ b ≠ X.env.locals ∧ (∀ x c, X.env.cells.lookup x = some c → c ≠ b) ∧ ∀ p ∈ X.pn ++ pins, p.1 ≠ b) :
    Inv X pins σ H' { s with heap := h', gens := g', drawn := d', toks := t' } := by
  obtain ⟨m, ⟨o, es, ep, ho, r⟩, _⟩ := id I.loc
  obtain ⟨sl, hL⟩ := u.any ho I.free fun z => (hch _ z).2.1 rfl
  exact I.step (ch := ch) hch (fun b o hL hb hc e n => u.keep b o e n (fun z => (List.mem_cons.mp (I.stkSub b z)).elim hL hb) hc) (fun b o _ _ hc e n => u.any e n hc) (fun b o hc e n => u.free b o e n hc) (fun b o hc e => u.there b o e hc) u.tups u.frzs u.tbls (fun m' hm => by
    obtain ⟨o', es', ep', ho', r'⟩ := hm
    rw [ho] at ho'; cases ho'
    exact ⟨_, es', ep', hL, r'⟩) hok hg
theorem Inv.turned {t' : Nat} {it : Addr} (I : Inv X pins σ H s) (k : ∀ b o, b ≠ it → s.heap.get? b = some o → h'.get? b = some o) (hn : H it = none) (hL : it ≠ X.env.locals)
    (h1 : it ∈ X.ex ∨ X.s₀.heap.objs.size ≤ it) (h2 : ∀ x c, X.env.cells.lookup x = some c → c ≠ it) (h3 : ∀ p ∈ X.pn ++ pins, p.1 ≠ it) : Inv X pins σ H { s with heap := h', toks := t' } := by
  have nit : ∀ b u, H b = some u → b ≠ it := fun b u e z => by rw [z, hn] at e; cases e
  refine I.step (g' := s.gens) (d' := s.drawn) (ch := [it]) (fun b hb => ?_) (fun b o _ _ hc e _ => k b o (fun z => hc (by simp [z])) e) (fun b o _ _ hc e _ => ⟨o.slots, k b o (fun z => hc (by simp [z])) e⟩) (fun _ _ _ _ n => n)
    (fun b o hc e => ⟨o, k b o (fun z => hc (by simp [z])) e⟩) (fun _ _ e => e) (fun _ _ _ e => e) (fun b ps e => ⟨#[], by rw [e]; simp⟩) (fun m hm => ?_) (fun b u e => ?_) I.bare
  · have e : b = it := by simpa using hb
    subst e
    exact ⟨h1, hL, h2, h3⟩
  · obtain ⟨o, es, ep, ho, r⟩ := hm
    exact ⟨o, es, ep, k _ o (Ne.symm hL) ho, r⟩
  · refine (I.hok b u e).stay (fun c v hc q => k c v ?_ q) (fun _ q => q) fun _ _ q => q
    rcases hc with z | z
    · rw [z]; exact nit b u e
    · exact nit c _ z
theorem Inv.tok (I : Inv X pins σ H s) (t : Nat) : Inv X pins σ H { s with toks := t } := I.un (h' := s.heap) (t' := t) Un.refl I.hok
theorem Inv.kept {t' : Nat} (I : Inv X pins σ H s) (k : ∀ b u, s.heap.get? b = some u → h'.get? b = some u) : Inv X pins σ H { s with heap := h', toks := t' } := I.un (Un.kept k) (I.hok.kept k)
theorem Inv.laid {a : Addr} {o : HO} {t' : Nat} (I : Inv X pins σ H s) (k : ∀ b u, s.heap.get? b = some u → h'.get? b = some u) (hp : s.heap.objs.size ≤ a) (new : ObjOk X.prog X.w (upd H a o) h' a o) :
    Inv X pins σ (upd H a o) { s with heap := h', toks := t' } := I.un (Un.laid k hp (I.hok.fresh hp)) (I.hok.laid k hp new)
theorem Inv.write {x e : Addr} {o : HO} {t' : Nat} (I : Inv X pins σ H s) (mu : Mut (H x)) (he : e = x ∨ H e = some (.own x)) (k : ∀ b u, b ≠ e → s.heap.get? b = some u → h'.get? b = some u) (heo : ∃ u, h'.get? e = some u)
    (new : ObjOk X.prog X.w (upd H x o) h' x o) : Inv X pins σ (upd H x o) { s with heap := h', toks := t' } := I.un (Un.write mu he k heo) (I.hok.write mu he k heo new)
theorem Inv.pins_of {pins' : List (Addr × Obj)} (I : Inv X pins σ H s) (h : ∀ p ∈ pins', s.heap.get? p.1 = some p.2 ∧ H p.1 = none ∧ p.1 ≠ X.env.locals ∧ p.1 ∉ X.fs ∧ ∀ v, p.2.data ≠ .cell v) : Inv X pins' σ H s :=
  ⟨I.ok, I.os, I.bare, I.base, I.loc, I.cell, I.free, I.freeC, fun p hp => (List.mem_append.mp hp).elim (fun z => I.pin p (List.mem_append_left _ z)) (h p), I.hok, I.len⟩

theorem nodup_ix {N : List Str} (hN : N.Nodup) {i j : Nat} {x : Str} (a : N[i]? = some x) (b : N[j]? = some x) : i = j := by
  obtain ⟨h1, e1⟩ := List.getElem?_eq_some_iff.mp a
  obtain ⟨h2, e2⟩ := List.getElem?_eq_some_iff.mp b
  exact (List.getElem_inj hN).mp (e1.trans e2.symm)

theorem store_ok2 {M : Model} {A : Around} {E : Value → Shared → Prop} {i : Nat} {x : Str} {v : V} {u : Value} {Q : Unit → Shared → Prop} (I : Inv X pins σ H s) (hN : X.N.Nodup) (hi : X.N[i]? = some x) (hx : Loc X.env.scope x) (r : RelV v u)
    (h : ∀ s', Inv X pins (σ.set i (some v)) H s' → (∃ a, Heap.SameBut a s.heap s'.heap ∧ (a = X.env.locals ∨ X.env.cells.lookup x = some a)) → Q () s') (hf : X.fn x = true ∨ X.env.scope.names.lookup x = some .local := by first | exact .inl rfl | exact .inr rfl | assumption) : wpAny M A (storeName X.env x u) Q E s := by
  obtain ⟨m, hn, hl⟩ := id I.loc
  have hcls : (X.env.scope.kind == .class || (X.env.scope.kind == .module && X.env.locals != X.env.globals)) = false := by rw [I.ok.kind]; rfl
  have hiσ : i < σ.length := by rw [I.len]; exact (List.getElem?_eq_some_iff.mp hi).1
  have cne := I.cne
  have tracked : ∀ {a : Addr} {h' : Heap}, (∃ o, s.heap.get? a = some o ∧ H a = none) → Heap.SameBut a s.heap h' → HOk X.prog X.w H h' := fun {a h'} ha hs b ob e => by
    obtain ⟨_, _, hfree⟩ := ha
    refine (I.hok b ob e).stay (fun c w' hc q => (hs.2 c ?_).trans q) (fun _ q => q) fun _ _ q => q
    rintro rfl
    rcases hc with rfl | hc
    · rw [hfree] at e; cases e
    · rw [hfree] at hc; cases hc
  rcases hx with hk | hk
  · refine wpAny_storeName_local hk hn (fun h' hn' hs => ?_) hcls
    obtain ⟨oL, _, _, hoL, _⟩ := id hn
    refine h _ ⟨I.ok, I.os, I.bare, ⟨fun b o e n hb hx => ?_, fun b o e n hb hx => ?_, I.base.free, fun b o e hx => ?_, I.base.tups, I.base.frzs, I.base.tbls⟩, ⟨_, hn', fun j y v' e1 e2 e3 => ?_⟩, fun y c e => ?_, I.free, I.freeC, fun p hp => ?_, tracked ⟨oL, hoL, I.free⟩ hs, by simpa using I.len⟩ ⟨_, hs, .inl rfl⟩
    · exact (hs.2 b (Nat.ne_of_lt (Nat.lt_of_lt_of_le (Heap.lt_size e) I.ok.above))).trans (I.base.keep b o e n hb hx)
    · obtain ⟨sl, e1⟩ := I.base.slot b o e n hb hx
      exact ⟨sl, (hs.2 b (Nat.ne_of_lt (Nat.lt_of_lt_of_le (Heap.lt_size e) I.ok.above))).trans e1⟩
    · obtain ⟨o', e1⟩ := I.base.there b o e hx
      exact ⟨o', (hs.2 b (Nat.ne_of_lt (Nat.lt_of_lt_of_le (Heap.lt_size e) I.ok.above))).trans e1⟩
    · by_cases hj : j = i
      · subst hj
        rw [hi] at e1; cases e1
        rw [List.getElem?_set_self hiσ] at e2
        cases e2
        exact ⟨u, r, .inl ⟨hk, by simp⟩⟩
      · rw [List.getElem?_set_ne (Ne.symm hj)] at e2
        obtain ⟨u', r', q⟩ := hl j y v' e1 e2 e3
        refine ⟨u', r', ?_⟩
        rcases q with ⟨k, e⟩ | ⟨k, c, e, z⟩
        · refine .inl ⟨k, ?_⟩
          have : y ≠ x := fun e => hj (nodup_ix hN e1 (e ▸ hi))
          simp [this, e]
        · exact .inr ⟨k, c, e, z.sameBut hs (cne y c e)⟩
    · obtain ⟨w', z⟩ := I.cell y c e
      exact ⟨w', z.sameBut hs (cne y c e)⟩
    · obtain ⟨e, n, ne, nf, d⟩ := I.pin p hp
      exact ⟨(hs.2 p.1 ne).trans e, n, ne, nf, d⟩
  · have hfn : X.fn x = true := by
      rcases hf with z | z
      · exact z
      · rw [z] at hk; cases hk
    obtain ⟨c, hc⟩ := I.ok.has x (.inl hk)
    obtain ⟨w', z⟩ := I.cell x c hc
    refine wpAny_storeName_cell I.ok.kind hk hc z (fun h' hc' hs => ?_)
    obtain ⟨oc, hoc, hocd⟩ := id z
    refine h { s with heap := h' } ⟨I.ok, I.os, I.bare, ⟨fun b o e n hb hx => ?_, fun b o e n hb hx => ?_, I.base.free, fun b o e hx => ?_, I.base.tups, I.base.frzs, I.base.tbls⟩, ⟨m, hn.sameBut hs (Ne.symm (cne x c hc)), fun j y v' e1 e2 e3 => ?_⟩, fun y c' e => ?_, I.free, I.freeC, fun p hp => ?_, tracked ⟨oc, hoc, I.freeC x c hc⟩ hs, by simpa using I.len⟩ ⟨c, hs, .inr hc⟩
    · exact (hs.2 b (Nat.ne_of_lt (Nat.lt_of_lt_of_le (Heap.lt_size e) (I.ok.cab x c hfn hc)))).trans (I.base.keep b o e n hb hx)
    · obtain ⟨sl, e1⟩ := I.base.slot b o e n hb hx
      exact ⟨sl, (hs.2 b (Nat.ne_of_lt (Nat.lt_of_lt_of_le (Heap.lt_size e) (I.ok.cab x c hfn hc)))).trans e1⟩
    · obtain ⟨o', e1⟩ := I.base.there b o e hx
      exact ⟨o', (hs.2 b (Nat.ne_of_lt (Nat.lt_of_lt_of_le (Heap.lt_size e) (I.ok.cab x c hfn hc)))).trans e1⟩
    · by_cases hj : j = i
      · subst hj
        rw [hi] at e1; cases e1
        rw [List.getElem?_set_self hiσ] at e2
        cases e2
        exact ⟨u, r, .inr ⟨.inl hk, c, hc, hc'⟩⟩
      · rw [List.getElem?_set_ne (Ne.symm hj)] at e2
        obtain ⟨u', r', q⟩ := hl j y v' e1 e2 e3
        refine ⟨u', r', ?_⟩
        rcases q with q | ⟨k, c', e, z'⟩
        · exact .inl q
        · refine .inr ⟨k, c', e, z'.sameBut hs ?_⟩
          rintro rfl
          exact hj (nodup_ix hN e1 (I.ok.inj _ _ _ e hc ▸ hi))
    · by_cases hcc : c' = c
      · subst hcc; exact ⟨_, hc'⟩
      · obtain ⟨w2, z2⟩ := I.cell y c' e
        exact ⟨w2, z2.sameBut hs hcc⟩
    · obtain ⟨e, n, ne, nf, d⟩ := I.pin p hp
      refine ⟨(hs.2 p.1 ?_).trans e, n, ne, nf, d⟩
      intro q
      rw [q, hoc] at e
      have q' : oc = p.2 := Option.some.inj e
      exact d w' (by rw [← q']; exact hocd)
theorem store_ok {M : Model} {A : Around} {E : Value → Shared → Prop} {i : Nat} {x : Str} {v : V} {u : Value} {Q : Unit → Shared → Prop} (I : Inv X pins σ H s) (hN : X.N.Nodup) (hi : X.N[i]? = some x) (hx : Loc X.env.scope x) (r : RelV v u)
    (h : ∀ s', Inv X pins (σ.set i (some v)) H s' → Q () s') (hf : X.fn x = true ∨ X.env.scope.names.lookup x = some .local := by first | exact .inl rfl | exact .inr rfl | assumption) : wpAny M A (storeName X.env x u) Q E s :=
  store_ok2 I hN hi hx r (fun s' I' _ => h s' I') hf
theorem Inv.call' {s' : Shared} {ch : List Addr} (I : Inv X pins σ H s) (ho : s'.os = s.os) (u : Un (frs X.stack) ch H H' s.heap s'.heap) (hok : HOk X.prog X.w H' s'.heap) (hg : AllBare s'.gens)
    (hch : ∀ b ∈ ch, (b ∈ X.ex ∨ X.s₀.heap.objs.size ≤ b) ∧ b ≠ X.env.locals ∧ (∀ x c, X.env.cells.lookup x = some c → c ≠ b) ∧ ∀ p ∈ X.pn ++ pins, p.1 ≠ b) : Inv X pins σ H' s' := by
  obtain ⟨h', g', d', t', o'⟩ := s'
  have e : o' = s.os := ho
  subst e
  exact I.call (g' := g') (t' := t') (d' := d') u hok hg hch
end

abbrev XK := Value → Option Addr → Hp → Prop
abbrev St := List (Option V)
abbrev VK := V → Hp → Prop
abbrev TE := St → Hp → VK → Prop
abbrev TT := St → Hp → (Bool → Hp → Prop) → Prop
abbrev TA := St → Hp → (List V → Hp → Prop) → Prop
structure Ends where
  nx : St → Hp → Prop
  rt : VK
  bk : St → Hp → Prop := fun _ _ => False
  ct : St → Hp → Prop := fun _ _ => False
abbrev TS := Ends → St → Hp → Prop

def EP (X : Cx) (pins : List (Addr × Obj)) (σ : St) (Q : VK) (u : Value) (s' : Shared) : Prop := ∃ v H', Inv X pins σ H' s' ∧ RelV v u ∧ Q v H'
def TP (X : Cx) (pins : List (Addr × Obj)) (σ : St) (Q : Bool → Hp → Prop) (b : Bool) (s' : Shared) : Prop := ∃ H', Inv X pins σ H' s' ∧ Q b H'
def AP (X : Cx) (pins : List (Addr × Obj)) (σ : St) (Q : List V → Hp → Prop) (us : List Value) (s' : Shared) : Prop := ∃ vs H', Inv X pins σ H' s' ∧ Vals vs us ∧ Q vs H'
def SP (X : Cx) (pins : List (Addr × Obj)) (D : Ends) (f : Flow) (s' : Shared) : Prop :=
  match f with
  | .next => ∃ σ' H', Inv X pins σ' H' s' ∧ D.nx σ' H'
  | .brk => ∃ σ' H', Inv X pins σ' H' s' ∧ D.bk σ' H'
  | .cont => ∃ σ' H', Inv X pins σ' H' s' ∧ D.ct σ' H'
  | .ret u => ∃ v σ' H', Inv X pins σ' H' s' ∧ RelV v u ∧ D.rt v H'

def PE (X : Cx) (e : Expr) (t : TE) : Prop :=
  ∀ (pins : List (Addr × Obj)) (s : Shared) (σ : St) (H : Hp) (Q : VK), Inv X pins σ H s → t σ H Q → wpAny (model X.prog X.w) X.A (eval e X.env) (EP X pins σ Q) X.xe s
def PT (X : Cx) (e : Expr) (t : TT) : Prop :=
  ∀ (pins : List (Addr × Obj)) (s : Shared) (σ : St) (H : Hp) (Q : Bool → Hp → Prop), Inv X pins σ H s → t σ H Q → wpAny (model X.prog X.w) X.A (isTrue e X.env (eval e X.env)) (TP X pins σ Q) X.xe s
def PW (X : Cx) (e : Expr) (t : TT) : Prop :=
  ∀ (whole : Sem Value) (pins : List (Addr × Obj)) (s : Shared) (σ : St) (H : Hp) (Q : Bool → Hp → Prop), Inv X pins σ H s → t σ H Q → wpAny (model X.prog X.w) X.A (isTrue e X.env whole) (TP X pins σ Q) X.xe s
theorem PW.pt {X : Cx} {e : Expr} {t : TT} (h : PW X e t) : PT X e t := h _
def PA (X : Cx) (es : List Expr) (t : TA) : Prop :=
  ∀ (pos : Pos) (pins : List (Addr × Obj)) (s : Shared) (σ : St) (H : Hp) (Q : List V → Hp → Prop), Inv X pins σ H s → t σ H Q → wpAny (model X.prog X.w) X.A (spliced (backTo pos (starEach es X.env))) (AP X pins σ Q) X.xe s
def PS (X : Cx) (st : Stmt) (t : TS) : Prop :=
  ∀ (pins : List (Addr × Obj)) (s : Shared) (σ : St) (H : Hp) (D : Ends), Inv X pins σ H s → t D σ H → wpAny (model X.prog X.w) X.A (exec st X.env) (SP X pins D) X.xe s
def PSs (X : Cx) (st : List Stmt) (t : TS) : Prop :=
  ∀ (pins : List (Addr × Obj)) (s : Shared) (σ : St) (H : Hp) (D : Ends), Inv X pins σ H s → t D σ H → wpAny (model X.prog X.w) X.A (execs st X.env) (SP X pins D) X.xe s
theorem thn {α : Type} {t : Sem α} {Q Q' : α → Shared → Prop} {M : Model} {A : Around} {E : Value → Shared → Prop} {s : Shared} (h : wpAny M A t Q E s) (hQ : ∀ a s, Q a s → Q' a s) : wpAny M A t Q' E s := wpAny_mono h hQ fun _ _ x => x
end L2

namespace L2
open PySem PySem.Spec PyProof.Rows
section
variable {X : Cx}

def tVar (i : Nat) : TE := fun σ H Q => ∃ v, σ[i]? = some (some v) ∧ Q v H
def tC (v : V) : TE := fun _ H Q => Q v H
theorem pe_var {i : Nat} {x : Str} {pos : Pos} (hN : X.N[i]? = some x) (hv : Vis X.env.scope x) (hd : (x == ("__debug__" : Str)) = false := by decide) (hcd : (x == ("__classdict__" : Str)) = false := by decide) : PE X (.Name x pos) (tVar i) := by
  intro pins s σ H Q I h
  obtain ⟨v, e, h⟩ := h
  obtain ⟨m, hn, hl⟩ := I.loc
  obtain ⟨u, r, l⟩ := hl i x v hN e hv
  have fin : EP X pins σ Q u s := ⟨v, H, I, r, h⟩
  rcases l with ⟨hk, hm⟩ | ⟨hk, c, hc, hcell⟩
  · exact wpAny_Name (wpAny_loadName_local I.ok.kind hk hn hm fin) hd
  · rcases hk with hk | hk
    · exact wpAny_Name (wpAny_loadName_cell I.ok.kind hk hc hcell fin) hd
    · exact wpAny_Name (wpAny_loadName_free I.ok.kind hk hc hcell fin hcd) hd
theorem pe_int {i j pos} : PE X (.Constant (.int i) j pos) (tC (.int i)) := fun _ _ _ H _ I h => wpAny_Constant_int ⟨.int i, H, I.tok _, ⟨_, rfl⟩, h⟩
theorem pe_bl {b j pos} : PE X (.Constant (.bool b) j pos) (tC (.bl b)) := fun _ _ _ H _ I h => Constant_bool ⟨.bl b, H, I, rfl, h⟩
theorem pe_non {j pos} : PE X (.Constant .none j pos) (tC .non) := fun _ _ _ H _ I h => Constant_none ⟨.non, H, I, rfl, h⟩
theorem pe_str {x j pos} : PE X (.Constant (.str x) j pos) (tC (.str x)) := fun _ _ _ H _ I h => Calls.Constant_str ⟨.str x, H, I.tok _, ⟨_, rfl⟩, h⟩

def Gl (X : Cx) (x : Str) : Prop := X.env.kindOf x = some .globalImplicit
theorem ld_glob {E : Value → Shared → Prop} {pins : List (Addr × Obj)} {s : Shared} {σ : St} {H : Hp} {x : Str} {u : Value} {pos : Pos} {Q : Value → Shared → Prop} (I : Inv X pins σ H s) (hg : Gl X x) (hm : X.mg x = some u) (h : Q u s)
    (hd : (x == ("__debug__" : Str)) = false := by decide) : wpAny (model X.prog X.w) X.A (eval (.Name x pos) X.env) Q E s :=
  Calls.Name_function_global I.ok.kind hg (Calls.loadGlobal_global (by rw [I.ok.glob]; exact I.mod.glob.keeps I.bk) hm h) hd
theorem ld_blt {E : Value → Shared → Prop} {pins : List (Addr × Obj)} {s : Shared} {σ : St} {H : Hp} {x : Str} {u : Value} {pos : Pos} {Q : Value → Shared → Prop} (I : Inv X pins σ H s) (hg : Gl X x) (hm : X.mg x = none) (hv : bootBuiltins x = some u) (h : Q u s)
    (hn : x ≠ "__name__" := by decide) (hd : (x == ("__debug__" : Str)) = false := by decide) : wpAny (model X.prog X.w) X.A (eval (.Name x pos) X.env) Q E s := by
  obtain ⟨mb, h1, h2⟩ := I.mod.blt
  exact Calls.Name_function_global I.ok.kind hg (Calls.loadGlobal_builtin (by rw [I.ok.glob]; exact I.mod.glob.keeps I.bk) hm (by rw [I.ok.blt]; exact h1.keeps I.bk) ((h2 x hn).trans hv) h) hd
theorem pe_glob {x : Str} {v : V} {u : Value} {pos : Pos} (hg : Gl X x) (hm : X.mg x = some u) (r : RelV v u) (hd : (x == ("__debug__" : Str)) = false := by decide) : PE X (.Name x pos) (tC v) :=
  fun _ _ _ H _ I h => ld_glob I hg hm ⟨v, H, I, r, h⟩ hd
theorem pe_bltn {x : Str} {v : V} {u : Value} {pos : Pos} (hg : Gl X x) (hm : X.mg x = none) (hv : bootBuiltins x = some u) (r : RelV v u) (hn : x ≠ "__name__" := by decide) (hd : (x == ("__debug__" : Str)) = false := by decide) : PE X (.Name x pos) (tC v) :=
  fun _ _ _ H _ I h => ld_blt I hg hm hv ⟨v, H, I, r, h⟩ hn hd

variable {a b : Expr} {ta tb : TE} {pos : Pos}
def PC (X : Cx) (op : CmpOp) (a b : Expr) (t : TE) : Prop :=
  ∀ (pins : List (Addr × Obj)) (s : Shared) (σ : St) (H : Hp) (Q : VK), Inv X pins σ H s → t σ H Q →
    wpAny (model X.prog X.w) X.A (eval a X.env) (fun v s₁ => wpAny (model X.prog X.w) X.A (eval b X.env) (fun u s₂ => wpAny (model X.prog X.w) X.A (compareOp op v u) (EP X pins σ Q) X.xe s₂) X.xe s₁) X.xe s
def tB (t : TE) : TT := fun σ H Q => t σ H fun x H1 => ∃ c, x = .bl c ∧ Q c H1
theorem pt_val {e : Expr} {t : TE} (h : PE X e t) (he : ∀ whole, isTrue e X.env whole = (do let v ← whole; standAt e.pos; holding [v] (truthy v)) := by intro _; rfl) : PT X e (tB t) := by
  intro pins s σ H Q I hw
  refine isTrue_plain (thn (h pins s σ H _ I hw) fun v s1 ⟨x, H1, I1, r1, q1⟩ => ?_) (he _)
  obtain ⟨d, rfl, q⟩ := q1
  cases r1
  exact wpAny_truthy_bool ⟨H1, I1, q⟩

variable {tA tB' : TT} {rest : List Expr}
def tAnd (t u : TT) : TT := fun σ H Q => t σ H fun c H1 => if c = true then u σ H1 Q else Q false H1
def tOr (t u : TT) : TT := fun σ H Q => t σ H fun c H1 => if c = true then Q true H1 else u σ H1 Q
def tNot (t : TT) : TT := fun σ H Q => t σ H fun c H1 => Q (!c) H1
theorem pw_and1 (ha : PT X a tA) : PW X (.BoolOp .And [a] pos) tA := by
  intro wh pins s σ H Q I h
  refine isTrue_and (thn (ha pins s σ H Q I h) fun c s1 e => ?_)
  cases c with
  | true => exact isTrue_and_nil e
  | false => exact e
theorem pw_or1 (ha : PT X a tA) : PW X (.BoolOp .Or [a] pos) tA := by
  intro wh pins s σ H Q I h
  refine isTrue_or (thn (ha pins s σ H Q I h) fun c s1 e => ?_)
  cases c with
  | false => exact isTrue_or_nil e
  | true => exact e
theorem pw_and (ha : PT X a tA) (hb : PW X (.BoolOp .And (b :: rest) pos) tB') : PW X (.BoolOp .And (a :: b :: rest) pos) (tAnd tA tB') := by
  intro wh pins s σ H Q I h
  refine isTrue_and (thn (ha pins s σ H _ I h) fun c s1 ⟨H1, I1, q1⟩ => ?_)
  cases c with
  | true => exact hb wh pins s1 σ H1 Q I1 q1
  | false => exact ⟨H1, I1, q1⟩
theorem pw_or (ha : PT X a tA) (hb : PW X (.BoolOp .Or (b :: rest) pos) tB') : PW X (.BoolOp .Or (a :: b :: rest) pos) (tOr tA tB') := by
  intro wh pins s σ H Q I h
  refine isTrue_or (thn (ha pins s σ H _ I h) fun c s1 ⟨H1, I1, q1⟩ => ?_)
  cases c with
  | true => exact ⟨H1, I1, q1⟩
  | false => exact hb wh pins s1 σ H1 Q I1 q1
theorem pt_not (ha : PT X a tA) : PT X (.UnaryOp .Not a pos) (tNot tA) := by
  intro pins s σ H Q I h
  exact isTrue_not (ha pins s σ H (fun c H1 => Q (!c) H1) I h)
def tIf (t : TT) (ta tb : TE) : TE := fun σ H Q => t σ H fun c H1 => if c = true then ta σ H1 Q else tb σ H1 Q
theorem pe_ifExp {c : Expr} (hc : PT X c tA) (ha : PE X a ta) (hb : PE X b tb) : PE X (.IfExp c a b pos) (tIf tA ta tb) := by
  intro pins s σ H Q I h
  refine wpAny_IfExp (thn (hc pins s σ H _ I h) fun d s1 ⟨H1, I1, q1⟩ => ?_)
  cases d with
  | true => exact ha pins s1 σ H1 Q I1 q1
  | false => exact hb pins s1 σ H1 Q I1 q1
end
end L2

namespace L2
open PySem PySem.Spec PyProof.Rows

def SqL (K : PySem.W.Frag) (H : Hp) (a : Addr) (xs : List V) : Prop :=
  Rd H a (.lst xs) ∨
    ∃ (o : Obj) (its : Array Value) (n : Nat), K.lookup a = some o ∧ o.cls = .type "list" ∧ o.dict = none ∧ o.data = .seq its n ∧ its.size ≤ sizeLine ∧ Vals xs its.toList
def SqT (K : PySem.W.Frag) (H : Hp) (a : Addr) (xs : List V) : Prop :=
  Rd H a (.tup xs) ∨
    ∃ (o : Obj) (its : Array Value) (n : Nat), K.lookup a = some o ∧ o.cls = .type "tuple" ∧ o.data = .seq its n ∧ its.size ≤ sizeLine ∧ Vals xs its.toList
def absV : Value → Option V
  | .none => some .non
  | .bool b => some (.bl b)
  | .int i _ => some (.int i)
  | .str x _ => some (.str x)
  | .bytes b _ => some (.byt b)
  | .float b _ => some (.flt b)
  | .ref a => some (.ref a)
  | .type n => some (.ty n)
  | _ => none
theorem RelV.abs {x : V} {u : Value} (r : RelV x u) : absV u = some x := by
  cases x with
  | non => cases r; rfl
  | bl _ => cases r; rfl
  | int _ => obtain ⟨t, rfl⟩ := r; rfl
  | str _ => obtain ⟨t, rfl⟩ := r; rfl
  | byt _ => obtain ⟨t, rfl⟩ := r; rfl
  | flt _ => obtain ⟨t, rfl⟩ := r; rfl
  | ref _ => cases r; rfl
  | ty _ => cases r; rfl
theorem RelV.inj {x y : V} {u : Value} (r : RelV x u) (q : RelV y u) : x = y := Option.some.inj (r.abs.symm.trans q.abs)
theorem Vals.inj : ∀ {xs ys : List V} {us : List Value}, Vals xs us → Vals ys us → xs = ys
  | _, _, _, .nil, .nil => rfl
  | _, _, _, .cons r t, .cons r' t' => by rw [r.inj r', Vals.inj t t']
section
variable {X : Cx} {pins : List (Addr × Obj)} {σ : St} {H : Hp} {s : Shared} {a : Addr} {xs ys : List V}
theorem SqL.of {K : PySem.W.Frag} (h : H a = some (.lst xs)) : SqL K H a xs := .inl (.inl h)
theorem Inv.list (I : Inv X pins σ H s) (h : SqL X.K H a xs) : ∃ its : List Value, Vals xs its ∧ PlainL s.heap a its.toArray ∧ xs.length ≤ sizeLine := by
  rcases h with h | ⟨o, its, n, hk, hc, hd, hs, hz, r⟩
  · obtain ⟨z, its, n, r, e⟩ := h.ok I.hok
    exact ⟨its, r, ⟨_, n, e, rfl, rfl, rfl⟩, z⟩
  · refine ⟨its.toList, r, ⟨o, n, I.kIn a o hk, hc, hd, by simpa using hs⟩, ?_⟩
    have e := r.length
    simp only [Array.length_toList] at e
    omega
theorem Inv.tuple (I : Inv X pins σ H s) (h : SqT X.K H a xs) : ∃ its : List Value, Vals xs its ∧ IsTup s.heap a its.toArray ∧ xs.length ≤ sizeLine := by
  rcases h with h | ⟨o, its, n, hk, hc, hs, hz, r⟩
  · obtain ⟨z, its, r, p⟩ := h.ok I.hok
    exact ⟨its, r, p, z⟩
  · refine ⟨its.toList, r, ⟨o, I.kIn a o hk, hc, n, by simpa using hs⟩, ?_⟩
    have e := r.length
    simp only [Array.length_toList] at e
    omega
theorem Inv.list_inj (I : Inv X pins σ H s) (h : SqL X.K H a xs) (h' : SqL X.K H a ys) : xs = ys := by
  obtain ⟨its, r, ⟨o, n, e, _, _, d⟩, _⟩ := I.list h
  obtain ⟨its', r', ⟨o', n', e', _, _, d'⟩, _⟩ := I.list h'
  rw [e] at e'; cases e'
  rw [d] at d'
  injection d' with d1 _
  have : its = its' := by simpa using congrArg Array.toList d1
  subst this
  exact r.inj r'
end

abbrev Cx.wish (X : Cx) (E : Value → Shared → Prop) : Cx := { X with xe := E }
abbrev Cx.nox (X : Cx) : Cx := X.wish fun _ _ => False
theorem Cx.Ok.wish {X : Cx} (ok : X.Ok) (E : Value → Shared → Prop) : (X.wish E).Ok :=
  ⟨ok.mod, ok.kind, ok.glob, ok.blt, ok.above, ok.inj, ok.has, ok.cab, ok.hd, ok.frames, ok.stk, ok.exf, ok.bs, ok.bsz, ok.noex, ok.exfs, ok.funs, ok.frf⟩
theorem Cx.Ok.unwish {X : Cx} {E : Value → Shared → Prop} (ok : (X.wish E).Ok) : X.Ok :=
  ⟨ok.mod, ok.kind, ok.glob, ok.blt, ok.above, ok.inj, ok.has, ok.cab, ok.hd, ok.frames, ok.stk, ok.exf, ok.bs, ok.bsz, ok.noex, ok.exfs, ok.funs, ok.frf⟩
section
variable {X : Cx} {pins : List (Addr × Obj)} {σ : St} {H : Hp} {s : Shared} {E : Value → Shared → Prop}
theorem Inv.wish (I : Inv X pins σ H s) (E : Value → Shared → Prop) : Inv (X.wish E) pins σ H s := ⟨I.ok.wish E, I.os, I.bare, I.base, I.loc, I.cell, I.free, I.freeC, I.pin, I.hok, I.len⟩
theorem Inv.unwish (I : Inv (X.wish E) pins σ H s) : Inv X pins σ H s := ⟨I.ok.unwish, I.os, I.bare, I.base, I.loc, I.cell, I.free, I.freeC, I.pin, I.hok, I.len⟩
theorem SP.unwish {D : Ends} {f : Flow} {s' : Shared} (h : SP (X.wish E) pins D f s') : SP X pins D f s' := by
  cases f with
  | next => obtain ⟨σ', H', I, q⟩ := h; exact ⟨σ', H', I.unwish, q⟩
  | brk => obtain ⟨σ', H', I, q⟩ := h; exact ⟨σ', H', I.unwish, q⟩
  | cont => obtain ⟨σ', H', I, q⟩ := h; exact ⟨σ', H', I.unwish, q⟩
  | ret u => obtain ⟨v, σ', H', I, r, q⟩ := h; exact ⟨v, σ', H', I.unwish, r, q⟩
theorem PSs.nox {st : List Stmt} {t : TS} (h : PSs X.nox st t) : PSs X st t := fun pins s σ H D I hw =>
  wpAny_mono (h pins s σ H D (I.wish _) hw) (fun _ _ q => q.unwish) fun _ _ z => False.elim z
end

section
variable {X : Cx} {st : Stmt} {rest : List Stmt} {t u : TS} {e : Expr} {te : TE} {pos : Pos}
def tNext : TS := fun D σ H => D.nx σ H
def tSeq (t u : TS) : TS := fun D σ H => t { D with nx := u D } σ H
theorem pss_nil : PSs X [] tNext := fun _ _ σ H _ I h => wpAny_execs_nil ⟨σ, H, I, h⟩
theorem pss_cons (h1 : PS X st t) (h2 : PSs X rest u) : PSs X (st :: rest) (tSeq t u) := by
  intro pins s σ H D I h
  refine wpAny_execs_cons (thn (h1 pins s σ H { D with nx := u D } I h) fun f s1 q => ?_)
  cases f with
  | next =>
    obtain ⟨σ', H', I', q⟩ := q
    exact h2 pins s1 σ' H' D I' q
  | ret v => exact q
  | brk => exact q
  | cont => exact q
theorem pss_one (h1 : PS X st t) : PSs X [st] t := by
  intro pins s σ H D I h
  refine wpAny_execs_cons (thn (h1 pins s σ H D I h) fun f s1 q => ?_)
  cases f with
  | next => exact wpAny_execs_nil q
  | ret v => exact q
  | brk => exact q
  | cont => exact q
theorem Inv.quiet {pins : List (Addr × Obj)} {σ : St} {H : Hp} {s : Shared} (I : Inv X pins σ H s) : interactive X.env = false := by simp [interactive, I.ok.kind]
def tDrop (te : TE) : TS := fun D σ H => te σ H fun _ H1 => D.nx σ H1
theorem ps_expr (he : PE X e te) (hs : swapsWith e none pos.line X.env = pure false := by rfl) : PS X (.Expr e pos) (tDrop te) := by
  intro pins s σ H D I h
  exact wpAny_Expr_any (thn (he pins s σ H _ I h) fun v s1 ⟨x, H1, I1, r1, q1⟩ => ⟨σ, H1, I1, q1⟩) I.quiet hs
def tRet (te : TE) : TS := fun D σ H => te σ H D.rt
theorem ps_ret (he : PE X e te) : PS X (.Return (some e) pos) (tRet te) := by
  intro pins s σ H D I h
  exact wpAny_Return_some (thn (he pins s σ H _ I h) fun v s1 ⟨x, H1, I1, r1, q1⟩ => ⟨x, σ, H1, I1, r1, q1⟩)
def tIfS (c : TT) (t u : TS) : TS := fun D σ H => c σ H fun b H1 => if b = true then t D σ H1 else u D σ H1
theorem ps_if {c : Expr} {a b : List Stmt} {tc : TT} (hc : PT X c tc) (ha : PSs X a t) (hb : PSs X b u) : PS X (.If c a b pos) (tIfS tc t u) := by
  intro pins s σ H D I h
  refine wpAny_If (thn (hc pins s σ H _ I h) fun d s1 ⟨H1, I1, q1⟩ => ?_)
  cases d with
  | true => exact ha pins s1 σ H1 D I1 q1
  | false => exact hb pins s1 σ H1 D I1 q1
end

abbrev TG := V → St → Hp → (St → Hp → Prop) → Prop
abbrev TGs := List V → St → Hp → (St → Hp → Prop) → Prop
def PG (X : Cx) (target : Expr) (t : TG) : Prop :=
  ∀ (pins : List (Addr × Obj)) (s : Shared) (σ : St) (H : Hp) (v : V) (u : Value) (Q : St → Hp → Prop), Inv X pins σ H s → RelV v u → t v σ H Q →
    wpAny (model X.prog X.w) X.A (assign target X.env u) (fun _ s' => ∃ σ' H', Inv X pins σ' H' s' ∧ Q σ' H') X.xe s
def PGs (X : Cx) (ts : List Expr) (t : TGs) : Prop :=
  ∀ (pins : List (Addr × Obj)) (s : Shared) (σ : St) (H : Hp) (vs : List V) (us : List Value) (Q : St → Hp → Prop), Inv X pins σ H s → Vals vs us → t vs σ H Q →
    wpAny (model X.prog X.w) X.A (assignInOrder ((assignEach ts X.env).map (·.2)) us) (fun _ s' => ∃ σ' H', Inv X pins σ' H' s' ∧ Q σ' H') X.xe s
section
variable {X : Cx} {pos : Pos}
def gName (i : Nat) : TG := fun v σ H Q => Q (σ.set i (some v)) H
theorem pg_name {i : Nat} {x : Str} (hN : X.N.Nodup) (hi : X.N[i]? = some x) (hx : Loc X.env.scope x) (hf : X.fn x = true ∨ X.env.scope.names.lookup x = some .local := by first | exact .inl rfl | exact .inr rfl | assumption) : PG X (.Name x pos) (gName i) := by
  intro pins s σ H v u Q I r h
  exact wpAny_assign_Name (store_ok I hN hi hx r (fun s' I' => ⟨_, H, I', h⟩) hf)
def tAsg (te : TE) (g : TG) : TS := fun D σ H => te σ H fun x H1 => g x σ H1 D.nx
theorem ps_set {i : Nat} {x : Str} {e : Expr} {te : TE} {pos' : Pos} (hN : X.N.Nodup) (hi : X.N[i]? = some x) (hx : Loc X.env.scope x) (he : PE X e te) (hs : swapsWith e (some (.Name x pos')) pos.line X.env = pure false := by rfl) (hf : X.fn x = true ∨ X.env.scope.names.lookup x = some .local := by first | exact .inl rfl | exact .inr rfl | assumption) :
    PS X (.Assign [.Name x pos'] e pos) (tAsg te (gName i)) := by
  intro pins s σ H D I h
  refine wpAny_Assign_Name (thn (he pins s σ H _ I h) fun v s1 ⟨y, H1, I1, r1, q1⟩ => ?_) hs
  exact store_ok I1 hN hi hx r1 (fun s2 I2 => ⟨_, H1, I2, q1⟩) hf
end

section
variable {X : Cx} {pos : Pos}
end

structure It where
  go : Nat → Hp → Prop
  yld : Nat → Hp → V → Hp → Prop
  stop : Nat → Hp → Prop
def FpOk (X : Cx) (pins : List (Addr × Obj)) (H : Hp) (b : Addr) : Prop :=
  H b = none ∧ b ≠ X.env.locals ∧ b ∉ X.fs ∧ (b ∈ X.ex ∨ X.s₀.heap.objs.size ≤ b) ∧ (∀ x c, X.env.cells.lookup x = some c → c ≠ b) ∧ ∀ p ∈ X.pn ++ pins, p.1 ≠ b
theorem Inv.fpOk {X : Cx} {pins : List (Addr × Obj)} {σ : St} {H H' : Hp} {s : Shared} {b : Addr} (I : Inv X pins σ H s) (hb : s.heap.objs.size ≤ b) (hn : H' b = none) : FpOk X pins H' b := by
  refine ⟨hn, Nat.ne_of_gt (Nat.lt_of_lt_of_le I.lt hb), I.nofs hb, .inr (Nat.le_trans I.sz hb), fun x c e z => ?_, fun p hp z => ?_⟩
  · obtain ⟨v, q⟩ := I.cell x c e
    exact absurd (Nat.lt_of_lt_of_le q.lt (by rw [z]; exact hb)) (Nat.lt_irrefl _)
  · exact absurd (Nat.lt_of_lt_of_le (Heap.lt_size (I.pin p hp).1) (by rw [z]; exact hb)) (Nat.lt_irrefl _)
structure Turn (P : Program) (w : World) (K : PySem.W.Frag) (tg : Expr) (J : It) (fp : List Addr) (it : Addr) (tn : Nat → Heap → Prop) : Prop where
  mem : it ∈ fp
  obj : ∀ i h, tn i h → ∀ b ∈ fp, ∃ o, h.get? b = some o ∧ ∀ v, o.data ≠ .cell v
  keep : ∀ i h h', tn i h → (∀ b ∈ fp, ∀ o, h.get? b = some o → h'.get? b = some o) → tn i h'
  item : ∀ (X : Cx), X.prog = P → X.w = w → X.K = K → X.calm = true → ∀ (i : Nat) (pins : List (Addr × Obj)) (s : Shared) (σ : St) (H : Hp) (E : Value → Shared → Prop), Inv X pins σ H s → (∀ b ∈ fp, FpOk X pins H b) → tn i s.heap → J.go i H →
    wpAny (model P w) X.A (pyNext (.ref it)) (fun r s1 => ∃ u, r = some u ∧
      wpAny (model P w) X.A (letOwnedTupleGo tg (.ref it) u) (fun _ s2 => ∃ x H', Inv X pins σ H' s2 ∧ RelV x u ∧ J.yld i H x H' ∧ tn (i + 1) s2.heap ∧ ∀ b ∈ fp, H' b = none) E s1) E s
  done : ∀ (X : Cx), X.prog = P → X.w = w → X.K = K → X.calm = true → ∀ (i : Nat) (pins : List (Addr × Obj)) (s : Shared) (σ : St) (H : Hp) (E : Value → Shared → Prop), Inv X pins σ H s → (∀ b ∈ fp, FpOk X pins H b) → tn i s.heap → J.stop i H →
    wpAny (model P w) X.A (pyNext (.ref it)) (fun r s1 => r = none ∧ Inv X pins σ H s1) E s
  self : ∀ (A : Around) (i : Nat) (s : Shared) (Q : Value → Shared → Prop) (E : Value → Shared → Prop), tn i s.heap → Q (.ref it) s → wpAny (model P w) A (pyIter (.ref it)) Q E s
abbrev TI := St → Hp → (It → Hp → Prop) → Prop
def PIE (X : Cx) (pins : List (Addr × Obj)) (σ : St) (tg : Expr) (R : It → Hp → Prop) (itv : Value) (s2 : Shared) : Prop :=
  ∃ (it : Addr) (fp : List Addr) (tn : Nat → Heap → Prop) (J : It) (H' : Hp), itv = .ref it ∧ Inv X pins σ H' s2 ∧ Turn X.prog X.w X.K tg J fp it tn ∧ tn 0 s2.heap ∧ (∀ b ∈ fp, FpOk X pins H' b) ∧ R J H'
def PI (X : Cx) (tg iter : Expr) (wi : TI) : Prop :=
  ∀ (pins : List (Addr × Obj)) (s : Shared) (σ : St) (H : Hp) (R : It → Hp → Prop), Inv X pins σ H s → wi σ H R →
    wpAny (model X.prog X.w) X.A (eval iter X.env) (fun v s1 => wpAny (model X.prog X.w) X.A (pyIter v) (PIE X pins σ tg R) X.xe s1) X.xe s

theorem go_of {M : Model} {A : Around} {E : Value → Shared → Prop} {s : Shared} {tg : Expr} {it : Addr} {u : Value} {o : Obj} {n : String} {vs : Array Value} {Q : Unit → Shared → Prop} (ho : s.heap.get? it = some o) (hc : o.cls = .type n) (hd : o.data = .fields vs)
    (hn : ["enumerate", "zip", "dict_itemiterator", "dict_reverseitemiterator", "odict_iterator", "itertools.zip_longest", "itertools.pairwise"].contains n = false) (hQ : Q () s) : wpAny M A (letOwnedTupleGo tg (.ref it) u) Q E s := by
  unfold letOwnedTupleGo
  cases tg <;> first
    | exact wpAny_pure hQ
    | (cases u <;> first
        | exact wpAny_pure hQ
        | (refine wpAny_bind (wpAny_load ho ?_)
           rw [hc, hd]
           show wpAny M A (if (["enumerate", "zip", "dict_itemiterator", "dict_reverseitemiterator", "odict_iterator", "itertools.zip_longest", "itertools.pairwise"].contains n && vs[0]? == some (rawInt _)) = true then _ else _) Q E s
           rw [if_neg (by intro h; rw [hn, Bool.false_and] at h; cases h)]
           exact wpAny_pure hQ))

def Itl (K : PySem.W.Frag) (a : Addr) : It :=
  ⟨fun i H => ∃ xs x, SqL K H a xs ∧ xs[i]? = some x, fun i H x H' => H' = H ∧ ∀ xs, SqL K H a xs → xs[i]? = some x, fun i H => ∃ xs, SqL K H a xs ∧ xs.length ≤ i⟩
def Itr (lo : Int) (n : Nat) : It := ⟨fun i _ => i < n, fun i H x H' => H' = H ∧ x = .int (lo + i), fun i _ => n ≤ i⟩
theorem turn_list {P : Program} {w : World} {K : PySem.W.Frag} {tg : Expr} (a it : Addr) : Turn P w K tg (Itl K a) [it] it (fun i h => h.IsListIter it a i) where
  mem := by simp
  obj := fun i h st b hb => by
    have e : b = it := by simpa using hb
    subst e
    obtain ⟨o, e, c, d⟩ := st
    exact ⟨o, e, fun v z => by rw [d] at z; cases z⟩
  keep := fun i h h' st k => st.at fun o e => k it (by simp) o e
  item := by
    intro X hP hw hK hc i pins s σ H E I hf st hg
    subst hP hw hK
    obtain ⟨xs, x, hq, hx⟩ := hg
    obtain ⟨its, rv, p, hz⟩ := I.list hq
    obtain ⟨u, hu, ru⟩ := rv.get hx
    obtain ⟨f0, f1, f2, f3, f4, f5⟩ := hf it (by simp)
    refine wpAny_pyNext_list_item st p.isList (x := u) (by simpa using hu) fun h' st' sb => ?_
    have I1 : Inv X pins σ H { s with heap := h' } := I.turned (t' := s.toks) (fun b o hb e => (sb.2 b hb).trans e) f0 f1 f3 f4 f5
    obtain ⟨o, e, c, d⟩ := id st'
    exact ⟨u, rfl, go_of (s := { s with heap := h' }) e c d (by decide) ⟨x, H, I1, ru, ⟨rfl, fun ys hy => by rw [I.list_inj hy hq]; exact hx⟩, st', fun b hb => (hf b hb).1⟩⟩
  done := by
    intro X hP hw hK hc i pins s σ H E I hf st hg
    subst hP hw hK
    obtain ⟨xs, hq, hx⟩ := hg
    obtain ⟨its, rv, p, hz⟩ := I.list hq
    obtain ⟨f0, f1, f2, f3, f4, f5⟩ := hf it (by simp)
    have hl := rv.length
    exact wpAny_pyNext_list_end (I.ok.hd hc) st p.isList (by simp; omega) fun h' eb => ⟨rfl, I.turned (t' := s.toks) (fun b o hb e => eb b o hb e) f0 f1 f3 f4 f5⟩
  self := fun _ _ _ _ _ st h => wpAny_pyIter_listiter st h
theorem turn_range {P : Program} {w : World} {K : PySem.W.Frag} {tg : Expr} (it : Addr) (lo : Int) (n : Nat) : Turn P w K tg (Itr lo n) [it] it (fun i h => IsRangeIter h it (lo + (i : Nat) * 1) ((n : Int) - (i : Nat)) 1) where
  mem := by simp
  obj := fun i h st b hb => by
    have e : b = it := by simpa using hb
    subst e
    exact ⟨_, st, fun v z => by
      have z' : Data.fields _ = Data.cell v := z
      cases z'⟩
  keep := fun i h h' st k => k it (by simp) _ st
  item := by
    intro X hP hw hK hc i pins s σ H E I hf st hg
    subst hP hw hK
    obtain ⟨f0, f1, f2, f3, f4, f5⟩ := hf it (by simp)
    have W := Walks.range (prog := X.prog) (w := X.w) (I.ok.hd hc) it lo 1 n
    refine W.item i s _ _ hg st fun v h' tk hv st' kk => ?_
    obtain ⟨t, rfl⟩ := hv
    have I1 : Inv X pins σ H { s with heap := h', toks := tk } := I.turned (fun b o hb e => kk b o (by simpa using hb) e) f0 f1 f3 f4 f5
    refine ⟨_, rfl, go_of (s := { s with heap := h', toks := tk }) (n := "range_iterator") st' rfl rfl (by decide) ⟨.int (lo + i), H, I1, ⟨t, ?_⟩, ⟨rfl, rfl⟩, st', fun b hb => (hf b hb).1⟩⟩
    rw [Int.mul_one]
  done := by
    intro X hP hw hK hc i pins s σ H E I hf st hg
    subst hP hw hK
    obtain ⟨f0, f1, f2, f3, f4, f5⟩ := hf it (by simp)
    exact wpAny_pyNext_range_end (I.ok.hd hc) st (by have : n ≤ i := hg; omega) fun h' eb => ⟨rfl, I.turned (t' := s.toks) (fun b o hb e => eb b o hb e) f0 f1 f3 f4 f5⟩
  self := fun _ _ _ _ _ st h => wpAny_pyIter_rangeiter st h
end L2

namespace L2
open PySem PySem.Spec PyProof.Rows
section
variable {X : Cx} {tg : Expr}
def iList (K : PySem.W.Frag) (tl : TE) : TI := fun σ H R => tl σ H fun x H1 => ∃ a, x = .ref a ∧ (∃ xs, SqL K H1 a xs) ∧ R (Itl K a) H1
theorem pi_list {l : Expr} {tl : TE} (hl : PE X l tl) : PI X tg l (iList X.K tl) := by
  intro pins s σ H R I h
  refine thn (hl pins s σ H _ I h) fun v s1 ⟨x, H1, I1, r1, q1⟩ => ?_
  obtain ⟨a, e, ⟨xs, hq⟩, q⟩ := q1
  subst e
  cases r1
  obtain ⟨its, rv, p, hz⟩ := I1.list hq
  refine wpAny_pyIter_list p.isList ?_
  refine ⟨s1.heap.objs.size, [s1.heap.objs.size], _, _, H1, rfl, I1.kept (t' := s1.toks) fun b o e => Heap.get?_push_of_some _ e, turn_list a _, ⟨_, Heap.get?_push_size _ rfl, rfl, rfl⟩, fun b hb => ?_, q⟩
  have e : b = s1.heap.objs.size := by simpa using hb
  subst e
  exact I1.fpOk (Nat.le_refl _) (I1.hok.fresh (Nat.le_refl _))
theorem range_it {pins : List (Addr × Obj)} {σ : St} {H : Hp} {s : Shared} {R : It → Hp → Prop} {E : Value → Shared → Prop} {lo hi : Int} {t u v : Tok} {tk : Nat} (I : Inv X pins σ H s) (h1 : -(2 ^ 62) ≤ lo) (h2 : lo < 2 ^ 62) (h3 : -(2 ^ 62) ≤ hi) (h4 : hi < 2 ^ 62)
    (q : R (Itr lo (hi - lo).toNat) H) : wpAny (model X.prog X.w) X.A (pyIter (.ref s.heap.objs.size)) (PIE X pins σ tg R) E { s with heap := s.heap.push { cls := .type "range", data := .fields #[.int lo t, .int hi u, .int 1 v] }, toks := tk } := by
  refine wpAny_pyIter_range (IsRange.new ..) (small_one h1 h2 h3 h4) ?_
  have I1 : Inv X pins σ H { s with heap := s.heap.push { cls := .type "range", data := .fields #[.int lo t, .int hi u, .int 1 v] }, toks := tk } := I.kept fun b o e => Heap.get?_push_of_some _ e
  refine ⟨(s.heap.push { cls := .type "range", data := .fields #[.int lo t, .int hi u, .int 1 v] }).objs.size, [(s.heap.push { cls := .type "range", data := .fields #[.int lo t, .int hi u, .int 1 v] }).objs.size], _, _, H, rfl,
    I1.kept (t' := tk) fun b o e => Heap.get?_push_of_some _ e, turn_range _ lo (hi - lo).toNat, ?_, fun b hb => ?_, q⟩
  · have e1 : lo + ((0 : Nat) : Int) * 1 = lo := by simp
    have e2 : (((hi - lo).toNat : Nat) : Int) - ((0 : Nat) : Int) = Builtin.Range.rangeSize lo hi 1 := by rw [rangeSize_one]; split <;> omega
    show IsRangeIter _ _ (lo + ((0 : Nat) : Int) * 1) ((((hi - lo).toNat : Nat) : Int) - ((0 : Nat) : Int)) 1
    rw [e1, e2]
    exact Heap.get?_push_size _ rfl
  · have e : b = (s.heap.push { cls := .type "range", data := .fields #[.int lo t, .int hi u, .int 1 v] }).objs.size := by simpa using hb
    subst e
    exact I1.fpOk (Nat.le_refl _) (I1.hok.fresh (Nat.le_refl _))
def iRng1 (ta : TA) : TI := fun σ H R => ta σ H fun vs H1 => ∃ j : Int, vs = [.int j] ∧ -(2 ^ 62) ≤ j ∧ j < 2 ^ 62 ∧ R (Itr 0 j.toNat) H1
theorem pi_range1 {a : Expr} {ta : TA} {p pos : Pos} (hg : Gl X "range") (hm : X.mg "range" = none) (ha : PA X [a] ta) (hs : starEach [a] X.env = [(false, eval a X.env)] := by rfl) : PI X tg (.Call (.Name "range" p) [a] [] pos) (iRng1 ta) := by
  intro pins s σ H R I h
  refine Call_ (ld_blt I hg hm boot_range (PyProof.Rows.callWith_type1 (thn (ha pos pins s σ H _ I h) fun us s1 ⟨vs, H1, I1, r1, q1⟩ => ?_) hs rfl))
  obtain ⟨j, e, q1, q2, q⟩ := q1
  subst e
  cases r1 with
  | cons r rr =>
    cases rr
    obtain ⟨t, rfl⟩ := r
    exact call_range_1 (range_it I1 (by omega) (by omega) q1 q2 (by simpa using q))
def tFor (wi : TI) (g : TG) (tb : TS) : TS := fun D σ H => wi σ H fun J H1 => ∃ W : Nat → Nat → St → Hp → Prop, (∃ m, W 0 m σ H1) ∧ ∀ i m σ H, W i m σ H →
  (J.stop i H ∧ D.nx σ H) ∨ (J.go i H ∧ ∃ N : St → Hp → Prop, (∀ σ' H', N σ' H' → ∃ m', m' < m ∧ W (i + 1) m' σ' H') ∧ ∀ x H', J.yld i H x H' → g x σ H' fun σ2 H2 => tb { D with nx := N, ct := N, bk := D.nx } σ2 H2)
def pinsAt (fp : List Addr) (h : Heap) : List (Addr × Obj) := fp.filterMap fun b => (h.get? b).map fun o => (b, o)
theorem mem_pinsAt {fp : List Addr} {h : Heap} {b : Addr} {o : Obj} (hb : b ∈ fp) (e : h.get? b = some o) : (b, o) ∈ pinsAt fp h := List.mem_filterMap.mpr ⟨b, hb, by rw [e]; rfl⟩
theorem of_pinsAt {fp : List Addr} {h : Heap} {p : Addr × Obj} (hp : p ∈ pinsAt fp h) : p.1 ∈ fp ∧ h.get? p.1 = some p.2 := by
  obtain ⟨b, hb, e⟩ := List.mem_filterMap.mp hp
  cases q : h.get? b with
  | none => rw [q] at e; cases e
  | some o =>
    rw [q] at e
    have e' : (b, o) = p := Option.some.inj e
    subst e'
    exact ⟨hb, q⟩
theorem Inv.pinned {pins : List (Addr × Obj)} {σ : St} {H : Hp} {s : Shared} {fp : List Addr} (I : Inv X pins σ H s) (hf : ∀ b ∈ fp, FpOk X pins H b) (ho : ∀ b ∈ fp, ∃ o, s.heap.get? b = some o ∧ ∀ v, o.data ≠ .cell v) : Inv X (pins ++ pinsAt fp s.heap) σ H s :=
  I.pins_of fun p hp => (List.mem_append.mp hp).elim (fun z => I.pin p (List.mem_append_right _ z)) fun z => by
    obtain ⟨hb, e⟩ := of_pinsAt z
    obtain ⟨f0, f1, f2, _⟩ := hf p.1 hb
    obtain ⟨o, e', d⟩ := ho p.1 hb
    rw [e] at e'; cases e'
    exact ⟨e, f0, f1, f2, d⟩
theorem Inv.unpinned {pins pl : List (Addr × Obj)} {σ : St} {H : Hp} {s : Shared} (I : Inv X (pins ++ pl) σ H s) : Inv X pins σ H s := I.pins_of fun p hp => I.pin p (List.mem_append_right _ (List.mem_append_left _ hp))
theorem ps_for {iter : Expr} {body : List Stmt} {wi : TI} {g : TG} {tb : TS} {pos : Pos} (hp : PassesOwn (model X.prog X.w) X.A X.env X.xe) (hc : X.calm = true) (hi : PI X tg iter wi) (hg : PG X tg g) (hb : PSs X body tb)
    (hs : ∀ x, foldedSetIterable iter X.env x = pure x := by intro _; rfl) : PS X (.For tg iter body [] pos) (tFor wi g tb) := by
  intro pins s σ H D I h
  refine wpAny_For (thn (hi pins s σ H _ I h) fun v s1 h1 => thn h1 fun itv s2 h2 => ?_) hs
  obtain ⟨it, fp, tn, J, H2, e, I2, T, st2, f2, W, ⟨m0, w0⟩, turn⟩ := h2
  subst e
  -- what stays true of the iterator's objects through the loop
  have stat : ∀ {H' : Hp}, (∀ b ∈ fp, H' b = none) → ∀ b ∈ fp, FpOk X pins H' b := fun hn b hb => ⟨hn b hb, (f2 b hb).2⟩
  refine codeAny_forLoop_any (fun n s' => ∃ i σ' H', Inv X pins σ' H' s' ∧ tn i s'.heap ∧ (∀ b ∈ fp, H' b = none) ∧ W i n σ' H') ?_ m0 ⟨0, σ, H2, I2, st2, fun b hb => (f2 b hb).1, w0⟩
  rintro n s3 ⟨i, σ3, H3, I3, st3, fr3, w3⟩
  rcases turn i n σ3 H3 w3 with ⟨stop, qn⟩ | ⟨go, N, hN, step⟩
  · refine wpAny_passesOwn hp (thn (T.done X rfl rfl rfl hc i pins s3 σ3 H3 X.xe I3 (stat fr3) st3 stop) fun r s4 ⟨hr, I4⟩ => ?_)
    subst hr
    exact wpAny_execs_nil ⟨σ3, H3, I4, qn⟩
  · refine wpAny_passesOwn hp (thn (T.item X rfl rfl rfl hc i pins s3 σ3 H3 X.xe I3 (stat fr3) st3 go) fun r s4 ⟨u, hr, h4⟩ => ?_)
    subst hr
    refine wpAny_passesOwn hp (thn h4 fun _ s5 ⟨x, H5, I5, r5, y5, st5, fr5⟩ => ?_)
    have I5' := I5.pinned (stat fr5) (T.obj _ _ st5)
    refine wpAny_passesOwn hp (thn (hg _ s5 σ3 H5 x u _ I5' r5 (step x H5 y5)) fun _ s6 ⟨σ6, H6, I6, q6⟩ => ?_)
    refine wpAny_passesOwn hp (thn (hb _ s6 σ6 H6 _ I6 q6) fun f s7 q7 => ?_)
    have again : ∀ {σ7 : St} {H7 : Hp}, Inv X (pins ++ pinsAt fp s5.heap) σ7 H7 s7 → N σ7 H7 → ∃ m, m < n ∧ ∃ i σ' H', Inv X pins σ' H' s7 ∧ tn i s7.heap ∧ (∀ b ∈ fp, H' b = none) ∧ W i m σ' H' := fun {σ7 H7} I7 n7 => by
      obtain ⟨m', hm, w7⟩ := hN σ7 H7 n7
      refine ⟨m', hm, i + 1, σ7, H7, I7.unpinned, T.keep _ _ _ st5 fun b hb o e => (I7.pin (b, o) (List.mem_append_right _ (List.mem_append_right _ (mem_pinsAt hb e)))).1, fun b hb => ?_, w7⟩
      obtain ⟨o, e, d⟩ := T.obj _ _ st5 b hb
      exact (I7.pin (b, o) (List.mem_append_right _ (List.mem_append_right _ (mem_pinsAt hb e)))).2.1
    cases f with
    | next => obtain ⟨σ7, H7, I7, n7⟩ := q7; exact again I7 n7
    | cont => obtain ⟨σ7, H7, I7, n7⟩ := q7; exact again I7 n7
    | brk => obtain ⟨σ7, H7, I7, q7⟩ := q7; exact ⟨σ7, H7, I7.unpinned, q7⟩
    | ret v => obtain ⟨x7, σ7, H7, I7, r7, q7⟩ := q7; exact ⟨x7, σ7, H7, I7.unpinned, r7, q7⟩
end

theorem for_list {K : PySem.W.Frag} {a : Addr} {xs : List V} {g : TG} {tb : TS} {D : Ends} {σ : St} {H : Hp} (Pv : Nat → St → Hp → Prop) (h0 : Pv 0 σ H) (hl : ∀ i σ H, i ≤ xs.length → Pv i σ H → SqL K H a xs)
    (hs : ∀ i x σ H, xs[i]? = some x → Pv i σ H → g x σ H fun σ2 H2 => tb { D with nx := Pv (i + 1), ct := Pv (i + 1), bk := D.nx } σ2 H2) (hd : ∀ σ H, Pv xs.length σ H → D.nx σ H) :
    ∃ W : Nat → Nat → St → Hp → Prop, (∃ m, W 0 m σ H) ∧ ∀ i m σ H, W i m σ H →
      ((Itl K a).stop i H ∧ D.nx σ H) ∨ ((Itl K a).go i H ∧ ∃ N : St → Hp → Prop, (∀ σ' H', N σ' H' → ∃ m', m' < m ∧ W (i + 1) m' σ' H') ∧ ∀ x H', (Itl K a).yld i H x H' → g x σ H' fun σ2 H2 => tb { D with nx := N, ct := N, bk := D.nx } σ2 H2) := by
  refine ⟨fun i m σ H => m = xs.length - i ∧ i ≤ xs.length ∧ Pv i σ H, ⟨xs.length, by simp, Nat.zero_le _, h0⟩, ?_⟩
  rintro i m σ H ⟨rfl, hi, p⟩
  have q := hl i σ H hi p
  by_cases hlt : i < xs.length
  · refine .inr ⟨⟨xs, xs[i], q, by simp [hlt]⟩, Pv (i + 1), fun σ' H' p' => ⟨xs.length - (i + 1), by omega, rfl, hlt, p'⟩, fun x H' y => ?_⟩
    obtain ⟨e, y⟩ := y
    subst e
    exact hs i x σ _ (y xs q) p
  · have e : i = xs.length := by omega
    subst e
    exact .inl ⟨⟨xs, q, Nat.le_refl _⟩, hd σ H p⟩
theorem for_range {lo : Int} {n : Nat} {g : TG} {tb : TS} {D : Ends} {σ : St} {H : Hp} (Pv : Nat → St → Hp → Prop) (h0 : Pv 0 σ H)
    (hs : ∀ i σ H, i < n → Pv i σ H → g (.int (lo + i)) σ H fun σ2 H2 => tb { D with nx := Pv (i + 1), ct := Pv (i + 1), bk := D.nx } σ2 H2) (hd : ∀ σ H, Pv n σ H → D.nx σ H) :
    ∃ W : Nat → Nat → St → Hp → Prop, (∃ m, W 0 m σ H) ∧ ∀ i m σ H, W i m σ H →
      ((Itr lo n).stop i H ∧ D.nx σ H) ∨ ((Itr lo n).go i H ∧ ∃ N : St → Hp → Prop, (∀ σ' H', N σ' H' → ∃ m', m' < m ∧ W (i + 1) m' σ' H') ∧ ∀ x H', (Itr lo n).yld i H x H' → g x σ H' fun σ2 H2 => tb { D with nx := N, ct := N, bk := D.nx } σ2 H2) := by
  refine ⟨fun i m σ H => m = n - i ∧ i ≤ n ∧ Pv i σ H, ⟨n, by simp, Nat.zero_le _, h0⟩, ?_⟩
  rintro i m σ H ⟨rfl, hi, p⟩
  by_cases hlt : i < n
  · refine .inr ⟨hlt, Pv (i + 1), fun σ' H' p' => ⟨n - (i + 1), by omega, rfl, hlt, p'⟩, fun x H' y => ?_⟩
    obtain ⟨e, y⟩ := y
    subst e y
    exact hs i σ _ hlt p
  · have e : i = n := by omega
    subst e
    exact .inl ⟨Nat.le_refl _, hd σ H p⟩
end L2

namespace L2
open PySem PySem.Spec PyProof.Rows

abbrev R2 := V → V → Hp → VK → Prop
def OpR (X : Cx) (f : Value → Value → Sem Value) (r : R2) : Prop :=
  ∀ (pins : List (Addr × Obj)) (s : Shared) (σ : St) (H : Hp) (x y : V) (v u : Value) (Q : VK), Inv X pins σ H s → RelV x v → RelV y u → r x y H Q →
    wpAny (model X.prog X.w) X.A (f v u) (EP X pins σ Q) X.xe s
def UnR (X : Cx) (f : Value → Sem Value) (r : V → Hp → VK → Prop) : Prop :=
  ∀ (pins : List (Addr × Obj)) (s : Shared) (σ : St) (H : Hp) (x : V) (v : Value) (Q : VK), Inv X pins σ H s → RelV x v → r x H Q →
    wpAny (model X.prog X.w) X.A (f v) (EP X pins σ Q) X.xe s
def CallR (X : Cx) (f : Value) (r : List V → Hp → VK → Prop) : Prop :=
  ∀ (pins : List (Addr × Obj)) (s : Shared) (σ : St) (H : Hp) (xs : List V) (us : List Value) (Q : VK), Inv X pins σ H s → Vals xs us → r xs H Q →
    wpAny (model X.prog X.w) X.A (call f us) (EP X pins σ Q) X.xe s
def tOp (r : R2) (ta tb : TE) : TE := fun σ H Q => ta σ H fun x H1 => tb σ H1 fun y H2 => r x y H2 Q
def tUn (r : V → Hp → VK → Prop) (ta : TE) : TE := fun σ H Q => ta σ H fun x H1 => r x H1 Q
def rI (C : Int → Int → Prop) (g : Int → Int → V) : R2 := fun x y H Q => ∃ i j, x = .int i ∧ y = .int j ∧ C i j ∧ Q (g i j) H
def rI0 (g : Int → Int → V) : R2 := fun x y H Q => ∃ i j, x = .int i ∧ y = .int j ∧ Q (g i j) H
def rU (g : Int → V) : V → Hp → VK → Prop := fun x H Q => ∃ i, x = .int i ∧ Q (g i) H

section
variable {X : Cx} {a b c : Expr} {ta tb tc : TE} {pos : Pos}

theorem binT (ha : PE X a ta) (hb : PE X b tb) {pins : List (Addr × Obj)} {s : Shared} {σ : St} {H : Hp} {R : V → V → Hp → Prop} (I : Inv X pins σ H s)
    (h : ta σ H fun x H1 => tb σ H1 fun y H2 => R x y H2) {Q : Value → Shared → Prop} {f : Value → Value → Sem Value}
    (hf : ∀ v u s2 x y H2, Inv X pins σ H2 s2 → RelV x v → RelV y u → R x y H2 → wpAny (model X.prog X.w) X.A (f v u) Q X.xe s2) :
    wpAny (model X.prog X.w) X.A (eval a X.env) (fun v s₁ => wpAny (model X.prog X.w) X.A (eval b X.env) (fun u s₂ => wpAny (model X.prog X.w) X.A (f v u) Q X.xe s₂) X.xe s₁) X.xe s := by
  refine thn (ha pins s σ H _ I h) fun v s1 ⟨x, H1, I1, r1, q1⟩ => ?_
  refine thn (hb pins s1 σ H1 _ I1 q1) fun u s2 ⟨y, H2, I2, r2, q2⟩ => ?_
  exact hf v u s2 x y H2 I2 r1 r2 q2

theorem pe_op {op : Operator} {r : R2} (ho : OpR X (binaryOp op) r) (ha : PE X a ta) (hb : PE X b tb) : PE X (.BinOp a op b pos) (tOp r ta tb) := by
  intro pins s σ H Q I h
  exact wpAny_BinOp (binT ha hb I h fun v u s2 x y H2 I2 rx ry q => ho pins s2 σ H2 x y v u Q I2 rx ry q)
theorem pe_un {op : UnaryOp} {r : V → Hp → VK → Prop} (ho : UnR X (unaryOp op) r) (ha : PE X a ta) : PE X (.UnaryOp op a pos) (tUn r ta) := by
  intro pins s σ H Q I h
  exact UnaryOp_ (thn (ha pins s σ H _ I h) fun v s1 ⟨x, H1, I1, r1, q1⟩ => ho pins s1 σ H1 x v Q I1 r1 q1)
theorem opI {f : Value → Value → Sem Value} {C : Int → Int → Prop} {g : Int → Int → Int}
    (rule : ∀ (i j : Int) (t u : Tok) (s : Shared) (Q : Value → Shared → Prop) (E : Value → Shared → Prop), C i j → Q (.int (g i j) s.toks) { s with toks := s.toks + 1 } → wpAny (model X.prog X.w) X.A (f (.int i t) (.int j u)) Q E s) :
    OpR X f (rI C fun i j => .int (g i j)) := by
  intro pins s σ H x y v u Q I rx ry h
  obtain ⟨i, j, rfl, rfl, hc, q⟩ := h
  obtain ⟨t, rfl⟩ := rx
  obtain ⟨t', rfl⟩ := ry
  exact rule i j t t' s _ _ hc ⟨.int (g i j), H, I.tok _, ⟨_, rfl⟩, q⟩
theorem opI0 {f : Value → Value → Sem Value} {g : Int → Int → Int}
    (rule : ∀ (i j : Int) (t u : Tok) (s : Shared) (Q : Value → Shared → Prop) (E : Value → Shared → Prop), Q (.int (g i j) s.toks) { s with toks := s.toks + 1 } → wpAny (model X.prog X.w) X.A (f (.int i t) (.int j u)) Q E s) :
    OpR X f (rI0 fun i j => .int (g i j)) := by
  intro pins s σ H x y v u Q I rx ry h
  obtain ⟨i, j, rfl, rfl, q⟩ := h
  obtain ⟨t, rfl⟩ := rx
  obtain ⟨t', rfl⟩ := ry
  exact rule i j t t' s _ _ ⟨.int (g i j), H, I.tok _, ⟨_, rfl⟩, q⟩
theorem opB0 {f : Value → Value → Sem Value} {g : Int → Int → Bool}
    (rule : ∀ (i j : Int) (t u : Tok) (s : Shared) (Q : Value → Shared → Prop) (E : Value → Shared → Prop), Q (.bool (g i j)) s → wpAny (model X.prog X.w) X.A (f (.int i t) (.int j u)) Q E s) :
    OpR X f (rI0 fun i j => .bl (g i j)) := by
  intro pins s σ H x y v u Q I rx ry h
  obtain ⟨i, j, rfl, rfl, q⟩ := h
  obtain ⟨t, rfl⟩ := rx
  obtain ⟨t', rfl⟩ := ry
  exact rule i j t t' s _ _ ⟨.bl (g i j), H, I, rfl, q⟩

def CDiv (i j : Int) : Prop := 0 < j ∧ j < 1073741824
def CPow (i j : Int) : Prop := 0 ≤ j ∧ j ≤ 1000000 ∧ i.natAbs < 2 ^ 64
def CMul (i j : Int) : Prop := (-(2 ^ 64) < i ∧ i < 2 ^ 64) ∨ (-(2 ^ 64) < j ∧ j < 2 ^ 64)
theorem CMul.ok {i j : Int} (h : CMul i j) : IntMulOk i j := by
  rcases h with ⟨h1, h2⟩ | ⟨h1, h2⟩
  · exact .of_left (intBits_le_64 h1 h2)
  · exact .of_right (intBits_le_64 h1 h2)
theorem op_add : OpR X (binaryOp .Add) (rI0 fun i j => .int (i + j)) := opI0 fun _ _ _ _ _ _ _ q => add_int q
theorem op_mul : OpR X (binaryOp .Mult) (rI CMul fun i j => .int (i * j)) := opI fun _ _ _ _ _ _ _ hc q => mul_int q hc.ok
theorem op_fdiv : OpR X (binaryOp .FloorDiv) (rI CDiv fun i j => .int (i / j)) := opI fun i j _ _ _ _ _ hc q => by
  have h1 : (0 : Int) < j := hc.1
  have h2 : j < 1073741824 := hc.2
  exact floordiv_int (by omega) (by rw [Int.fdiv_eq_ediv_of_nonneg i (by omega)]; exact q) (.inl (PyProof.noPylong_small (by omega)))
theorem op_mod : OpR X (binaryOp .Mod) (rI (fun _ j => 0 < j) fun i j => .int (i % j)) := opI fun i j _ _ _ _ _ hc q => by
  have h1 : (0 : Int) < j := hc
  exact mod_int' (by omega) (by rw [Int.fmod_eq_emod_of_nonneg i (by omega)]; exact q)
theorem op_pow : OpR X (binaryOp .Pow) (rI CPow fun i j => .int (i ^ j.toNat)) := opI fun _ _ _ _ _ _ _ hc q => pow_int_small hc.1 hc.2.1 hc.2.2 q
theorem unI {f : Value → Sem Value} {g : Int → Int}
    (rule : ∀ (i : Int) (t : Tok) (s : Shared) (Q : Value → Shared → Prop) (E : Value → Shared → Prop), Q (.int (g i) s.toks) { s with toks := s.toks + 1 } → wpAny (model X.prog X.w) X.A (f (.int i t)) Q E s) :
    UnR X f (rU fun i => .int (g i)) := by
  intro pins s σ H x v Q I rx h
  obtain ⟨i, rfl, q⟩ := h
  obtain ⟨t, rfl⟩ := rx
  exact rule i t s _ _ ⟨.int (g i), H, I.tok _, ⟨_, rfl⟩, q⟩
theorem un_neg : UnR X (unaryOp .USub) (rU fun i => .int (-i)) := unI fun _ _ _ _ _ q => neg_int q
end

def scal : V → V → Bool
  | .non, .non => true | .non, .int _ => true | .int _, .non => true | .non, .bl _ => true | .bl _, .non => true | .non, .str _ => true | .str _, .non => true
  | .int _, .int _ => true | .bl _, .bl _ => true | .str _, .str _ => true | .byt _, .byt _ => true
  | .int _, .str _ => true | .str _, .int _ => true | .bl _, .str _ => true | .str _, .bl _ => true
  | _, _ => false
def rEq : R2 := fun x y H Q => scal x y = true ∧ Q (.bl (decide (x = y))) H
def rNe : R2 := fun x y H Q => scal x y = true ∧ Q (.bl (!decide (x = y))) H

theorem dec_int {i j : Int} : decide (V.int i = V.int j) = (i == j) := by
  rw [Bool.eq_iff_iff]
  simp
theorem dec_bl {i j : Bool} : decide (V.bl i = V.bl j) = (i == j) := by
  rw [Bool.eq_iff_iff]
  simp
theorem dec_str {i j : Str} : decide (V.str i = V.str j) = (i == j) := by
  rw [Bool.eq_iff_iff]
  simp
theorem dec_byt {i j : Array UInt8} : decide (V.byt i = V.byt j) = (i.toList == j.toList) := by
  rw [Bool.eq_iff_iff]
  cases i
  cases j
  simp

section
variable {X : Cx} {a b c : Expr} {ta tb tc : TE} {pos : Pos}
theorem fin_bl {pins : List (Addr × Obj)} {σ : St} {H : Hp} {s : Shared} {Q : VK} {k k' : Bool} (I : Inv X pins σ H s) (q : Q (.bl k) H) (e : k = k') : EP X pins σ Q (.bool k') s := by
  subst e
  exact ⟨.bl k, H, I, rfl, q⟩
theorem op_eq : OpR X (compareOp .Eq) rEq := by
  intro pins s σ H x y v u Q I rx ry h
  obtain ⟨hs, q⟩ := h
  cases x with
  | non =>
    cases rx
    cases y with
    | non => cases ry; exact PySem.EqNone.eq_none_none (fin_bl I q (by simp))
    | bl j => cases ry; exact PySem.EqNone.eq_none_bool (fin_bl I q (by simp))
    | int j => obtain ⟨t', rfl⟩ := ry; exact PySem.EqNone.eq_none_int (fin_bl I q (by simp))
    | str j => obtain ⟨t', rfl⟩ := ry; exact PySem.EqNone.eq_none_str (fin_bl I q (by simp))
    | _ => exact absurd (show false = true from hs) Bool.false_ne_true
  | bl i =>
    cases rx
    cases y with
    | non => cases ry; exact PySem.EqNone.eq_bool_none (fin_bl I q (by simp))
    | bl j => cases ry; exact eq_bool (fin_bl I q dec_bl)
    | str j => obtain ⟨t', rfl⟩ := ry; exact PySem.EqMixed.eq_bool_str (fin_bl I q (by simp))
    | _ => exact absurd (show false = true from hs) Bool.false_ne_true
  | int i =>
    obtain ⟨t, rfl⟩ := rx
    cases y with
    | non => cases ry; exact PySem.EqNone.eq_int_none (fin_bl I q (by simp))
    | int j => obtain ⟨t', rfl⟩ := ry; exact eq_int (fin_bl I q dec_int)
    | str j => obtain ⟨t', rfl⟩ := ry; exact PySem.EqMixed.eq_int_str (fin_bl I q (by simp))
    | _ => exact absurd (show false = true from hs) Bool.false_ne_true
  | str i =>
    obtain ⟨t, rfl⟩ := rx
    cases y with
    | non => cases ry; exact PySem.EqNone.eq_str_none (fin_bl I q (by simp))
    | bl j => cases ry; exact PySem.EqMixed.eq_str_bool (fin_bl I q (by simp))
    | int j => obtain ⟨t', rfl⟩ := ry; exact PySem.EqMixed.eq_str_int (fin_bl I q (by simp))
    | str j => obtain ⟨t', rfl⟩ := ry; exact eq_str (fin_bl I q dec_str)
    | _ => exact absurd (show false = true from hs) Bool.false_ne_true
  | byt i =>
    obtain ⟨t, rfl⟩ := rx
    cases y with
    | byt j => obtain ⟨t', rfl⟩ := ry; exact PySem.W.eq_bytes (fin_bl I q dec_byt)
    | _ => exact absurd (show false = true from hs) Bool.false_ne_true
  | _ => cases y <;> exact absurd (show false = true from hs) Bool.false_ne_true
theorem op_ne : OpR X (compareOp .NotEq) rNe := by
  intro pins s σ H x y v u Q I rx ry h
  obtain ⟨hs, q⟩ := h
  cases x with
  | non =>
    cases rx
    cases y with
    | non => cases ry; exact PySem.EqNone.ne_none_none (fin_bl I q (by simp))
    | bl j => cases ry; exact PySem.EqNone.ne_none_bool (fin_bl I q (by simp))
    | int j => obtain ⟨t', rfl⟩ := ry; exact PySem.EqNone.ne_none_int (fin_bl I q (by simp))
    | str j => obtain ⟨t', rfl⟩ := ry; exact PySem.EqNone.ne_none_str (fin_bl I q (by simp))
    | _ => exact absurd (show false = true from hs) Bool.false_ne_true
  | bl i =>
    cases rx
    cases y with
    | non => cases ry; exact PySem.EqNone.ne_bool_none (fin_bl I q (by simp))
    | bl j => cases ry; exact ne_bool (fin_bl I q (congrArg not dec_bl))
    | str j => obtain ⟨t', rfl⟩ := ry; exact PySem.EqMixed.ne_bool_str (fin_bl I q (by simp))
    | _ => exact absurd (show false = true from hs) Bool.false_ne_true
  | int i =>
    obtain ⟨t, rfl⟩ := rx
    cases y with
    | non => cases ry; exact PySem.EqNone.ne_int_none (fin_bl I q (by simp))
    | int j => obtain ⟨t', rfl⟩ := ry; exact ne_int (fin_bl I q (congrArg not dec_int))
    | str j => obtain ⟨t', rfl⟩ := ry; exact PySem.EqMixed.ne_int_str (fin_bl I q (by simp))
    | _ => exact absurd (show false = true from hs) Bool.false_ne_true
  | str i =>
    obtain ⟨t, rfl⟩ := rx
    cases y with
    | non => cases ry; exact PySem.EqNone.ne_str_none (fin_bl I q (by simp))
    | bl j => cases ry; exact PySem.EqMixed.ne_str_bool (fin_bl I q (by simp))
    | int j => obtain ⟨t', rfl⟩ := ry; exact PySem.EqMixed.ne_str_int (fin_bl I q (by simp))
    | str j => obtain ⟨t', rfl⟩ := ry; exact ne_str (fin_bl I q (congrArg not dec_str))
    | _ => exact absurd (show false = true from hs) Bool.false_ne_true
  | byt i =>
    obtain ⟨t, rfl⟩ := rx
    cases y with
    | byt j => obtain ⟨t', rfl⟩ := ry; exact PySem.W.ne_bytes (fin_bl I q (congrArg not dec_byt))
    | _ => exact absurd (show false = true from hs) Bool.false_ne_true
  | _ => cases y <;> exact absurd (show false = true from hs) Bool.false_ne_true

theorem op_lt : OpR X (compareOp .Lt) (rI0 fun i j => .bl (decide (i < j))) := opB0 fun _ _ _ _ _ _ _ q => lt_int q
theorem nomark (b : Expr) {op : CmpOp} (h : op ≠ .In := by decide) (h2 : op ≠ .NotIn := by decide) : behindInMarks op b = false := by
  have e1 : (op == CmpOp.In) = false := by cases op <;> first | rfl | exact absurd rfl h
  have e2 : (op == CmpOp.NotIn) = false := by cases op <;> first | rfl | exact absurd rfl h2
  cases b <;> simp [behindInMarks, e1, e2]
theorem pe_cmpR {op : CmpOp} {r : R2} (ho : OpR X (compareOp op) r) (ha : PE X a ta) (hb : PE X b tb) (hm : behindInMarks op b = false) : PE X (.Compare a [op] [b] pos) (tOp r ta tb) := by
  intro pins s σ H Q I h
  exact wpAny_Compare1 (binT ha hb I h fun v u s2 x y H2 I2 rx ry q => ho pins s2 σ H2 x y v u Q I2 rx ry q) hm
def tTest (t : TE) : TT := fun σ H Q => t σ H fun x H' => ∃ k, x = .bl k ∧ Q k H'
theorem pt_cmpR {op : CmpOp} {r : R2} (ho : OpR X (compareOp op) r) (ha : PE X a ta) (hb : PE X b tb) (hm : behindInMarks op b = false) : PT X (.Compare a [op] [b] pos) (tTest (tOp r ta tb)) := by
  intro pins s σ H Q I h
  refine wpAny_isTrue_Compare1 (thn (ha pins s σ H _ I h) fun v s1 ⟨x, H1, I1, r1, q1⟩ => thn (hb pins s1 σ H1 _ I1 q1) fun u s2 ⟨y, H2, I2, r2, q2⟩ =>
    thn (ho pins s2 σ H2 x y v u _ I2 r1 r2 q2) fun c s3 ⟨z, H3, I3, r3, k, e, q3⟩ => ?_) hm
  subst e
  cases r3
  exact wpAny_truthy_bool ⟨H3, I3, q3⟩
def tChain (r r' : R2) (ta tb tc : TE) : TE := fun σ H Q => ta σ H fun x H1 => tb σ H1 fun y H2 => r x y H2 fun z H3 => ∃ k, z = .bl k ∧
  (if k = true then tc σ H3 fun w' H4 => r' y w' H4 Q else Q (.bl false) H3)
theorem pt_chain {op op' : CmpOp} {r r' : R2} (ho : OpR X (compareOp op) r) (ho' : OpR X (compareOp op') r') (ha : PE X a ta) (hb : PE X b tb) (hc : PE X c tc)
    (hm : lastMarks [op, op'] [b, c] = false := by with_unfolding_all rfl) : PT X (.Compare a [op, op'] [b, c] pos) (tTest (tChain r r' ta tb tc)) := by
  intro pins s σ H Q I h
  refine isTrue_chain (thn (ha pins s σ H _ I h) fun v s1 ⟨x, H1, I1, r1, q1⟩ => test_link (thn (hb pins s1 σ H1 _ I1 q1) fun u s2 ⟨y, H2, I2, r2, q2⟩ =>
    thn (ho pins s2 σ H2 x y v u _ I2 r1 r2 q2) fun d s3 ⟨z, H3, I3, r3, k, e, q3⟩ => ?_)) hm
  subst e
  cases r3
  refine wpAny_truthy_bool ?_
  cases k with
  | false =>
    obtain ⟨k', e', q'⟩ := q3
    cases e'
    exact ite_ff ⟨H3, I3, q'⟩
  | true =>
    refine ite_tt (test_last (thn (hc pins s3 σ H3 _ I3 q3) fun w' s4 ⟨z', H4, I4, r4, q4⟩ => thn (ho' pins s4 σ H4 y z' u w' _ I4 r2 r4 q4) fun d' s5 ⟨z2, H5, I5, r5, k2, e2, q5⟩ => ?_))
    subst e2
    cases r5
    exact wpAny_truthy_bool ⟨H5, I5, q5⟩

theorem line63 : (sizeLine : Nat) < 2 ^ 63 := by rw [sizeLine_eq]; decide
theorem op_add_str : OpR X (binaryOp .Add) (fun x y H Q => ∃ i j, x = .str i ∧ y = .str j ∧ i.length + j.length ≤ sizeLine ∧ Q (.str (i ++ j)) H) := by
  intro pins s σ H x y v u Q I rx ry h
  obtain ⟨i, j, rfl, rfl, hz, q⟩ := h
  obtain ⟨t, rfl⟩ := rx
  obtain ⟨t', rfl⟩ := ry
  exact add_str (fun t' tk => ⟨.str (i ++ j), H, I.tok _, ⟨_, rfl⟩, q⟩) hz
theorem vals1 {x : V} {us : List Value} (r : Vals [x] us) : ∃ u, us = [u] ∧ RelV x u := by
  cases r with
  | cons r1 r2 => cases r2; exact ⟨_, rfl, r1⟩
theorem vals2 {x y : V} {us : List Value} (r : Vals [x, y] us) : ∃ u w', us = [u, w'] ∧ RelV x u ∧ RelV y w' := by
  cases r with
  | cons r1 r2 =>
    cases r2 with
    | cons r3 r4 => cases r4; exact ⟨_, _, rfl, r1, r3⟩
theorem call_int1 : CallR X (.type "int") (fun xs H Q => (∃ i, xs = [.int i] ∧ Q (.int i) H) ∨ ∃ k, xs = [.bl k] ∧ Q (.int (if k then 1 else 0)) H) := by
  intro pins s σ H xs us Q I r h
  rcases h with ⟨i, rfl, q⟩ | ⟨k, rfl, q⟩
  · obtain ⟨u, rfl, t, rfl⟩ := vals1 r
    exact call_int_int ⟨.int i, H, I, ⟨_, rfl⟩, q⟩
  · obtain ⟨u, rfl, r1⟩ := vals1 r
    cases r1
    exact call_int_bool ⟨.int (if k then 1 else 0), H, I.tok _, ⟨_, rfl⟩, q⟩
end
end L2

namespace L2
open PySem PySem.Spec PyProof.Rows

structure ObjM (h : Heap) (x dx C : Addr) (mA : Str → Option Value) : Prop where
  obj : h.get? x = some (PySem.W.instObj C dx)
  ns : h.Ns1 dx mA
  ne : dx ≠ x

theorem lookIn_ns {h : Heap} {dx : Addr} {mA : Str → Option Value} (n : h.Ns1 dx mA) : ∃ od, h.get? dx = some od ∧ ∀ name, PySem.W.lookIn name od = some (mA name) := by
  obtain ⟨o, es, ep, ho, hd, hk, _, hm⟩ := n
  refine ⟨o, ho, fun name => ?_⟩
  have e := hm name
  unfold nsFind findBy at e
  rw [← Array.find?_toList] at e
  unfold PySem.W.lookIn
  rw [hd]
  dsimp only
  split
  · rename_i y q
    rw [q] at e
    exact congrArg some e
  · rename_i q
    rw [q] at e
    have a : es.toList.any (·.refKey) = false := by
      rw [List.any_eq_false]
      intro y hy
      obtain ⟨z, t, hkey⟩ := hk y (Array.mem_toList_iff.mp hy)
      simp [DictEntry.refKey, hkey]
    have a' : ¬ es.toList.any (·.refKey) = true := by rw [a]; exact Bool.false_ne_true
    rw [if_neg a']
    exact congrArg some e

theorem ObjM.look {h : Heap} {x dx C : Addr} {mA : Str → Option Value} (I : ObjM h x dx C mA) : ∃ od, PySem.W.InstAt h x (PySem.W.instObj C dx) C (some od) ∧ ∀ name, PySem.W.lookIn name od = some (mA name) :=
  let ⟨od, ho, hl⟩ := lookIn_ns I.ns
  ⟨od, ⟨I.obj, rfl, rfl, ho⟩, hl⟩

section
variable {prog : Program} {w : World} {A : Around} {E : Value → Shared → Prop} {s : Shared} {K : PySem.W.Frag} {x dx C f : Addr} {mA : Str → Option Value} {name : Str} {v : Value}

end

def putF (f : Str) (v : V) : List (Str × V) → List (Str × V)
  | [] => [(f, v)]
  | (g, x) :: r => if g = f then (g, v) :: r else (g, x) :: putF f v r
theorem lookup_putF (f g : Str) (v : V) : ∀ fs : List (Str × V), (putF f v fs).lookup g = if g = f then some v else fs.lookup g
  | [] => by
    show List.lookup g [(f, v)] = _
    by_cases h : g = f
    · have hb : (g == f) = true := beq_iff_eq.mpr h
      simp only [List.lookup, hb, if_pos h]
    · have hb : (g == f) = false := beq_eq_false_iff_ne.mpr h
      simp only [List.lookup, hb, if_neg h]
  | (k, x) :: r => by
    have ih := lookup_putF f g v r
    rw [show putF f v ((k, x) :: r) = (if k = f then (k, v) :: r else (k, x) :: putF f v r) from rfl]
    by_cases hk : k = f
    · rw [if_pos hk]
      by_cases h : g = k
      · have hb : (g == k) = true := beq_iff_eq.mpr h
        simp only [List.lookup, hb, if_pos (h.trans hk)]
      · have hb : (g == k) = false := beq_eq_false_iff_ne.mpr h
        simp only [List.lookup, hb, if_neg (fun e : g = f => h (e.trans hk.symm))]
    · rw [if_neg hk]
      by_cases h : g = k
      · have hb : (g == k) = true := beq_iff_eq.mpr h
        simp only [List.lookup, hb, if_neg (fun e : g = f => hk (h.symm.trans e))]
      · have hb : (g == k) = false := beq_eq_false_iff_ne.mpr h
        simp only [List.lookup, hb]
        exact ih
theorem keys_putF (f : Str) (v : V) : ∀ fs : List (Str × V), f ∈ (putF f v fs).map (·.1) ∧ ∀ g, g ∈ fs.map (·.1) → g ∈ (putF f v fs).map (·.1)
  | [] => ⟨by simp [putF], fun g h => by simp at h⟩
  | (k, x) :: r => by
    obtain ⟨i1, i2⟩ := keys_putF f v r
    rw [show putF f v ((k, x) :: r) = (if k = f then (k, v) :: r else (k, x) :: putF f v r) from rfl]
    by_cases hk : k = f
    · rw [if_pos hk]
      subst hk
      exact ⟨by simp, fun g h => by simpa using h⟩
    · rw [if_neg hk]
      refine ⟨?_, fun g h => ?_⟩
      · rw [List.map_cons]
        exact List.mem_cons_of_mem _ i1
      · rw [List.map_cons] at h ⊢
        rcases List.mem_cons.mp h with e | e
        · exact List.mem_cons.mpr (.inl e)
        · exact List.mem_cons_of_mem _ (i2 g e)
theorem length_putF (f : Str) (v : V) : ∀ fs : List (Str × V), (putF f v fs).length ≤ fs.length + 1
  | [] => by simp [putF]
  | (k, x) :: r => by
    have ih := length_putF f v r
    rw [show putF f v ((k, x) :: r) = (if k = f then (k, v) :: r else (k, x) :: putF f v r) from rfl]
    by_cases hk : k = f
    · rw [if_pos hk, List.length_cons, List.length_cons]; omega
    · rw [if_neg hk, List.length_cons, List.length_cons]; omega

theorem RelO.some_of {v : V} {o : Option Value} (r : RelO (some v) o) : ∃ u, o = some u ∧ RelV v u := by
  cases o with
  | none => exact (show False from r).elim
  | some u => exact ⟨u, rfl, r⟩
theorem handed_of {v : V} {u : Value} (r : RelV v u) : PySem.W.handedIn u = true := by
  cases v with
  | non => cases (show u = Value.none from r); rfl
  | bl b => cases (show u = Value.bool b from r); rfl
  | int i => obtain ⟨t, e⟩ := (show ∃ t, u = Value.int i t from r); cases e; rfl
  | str x => obtain ⟨t, e⟩ := (show ∃ t, u = Value.str x t from r); cases e; rfl
  | byt b => obtain ⟨t, e⟩ := (show ∃ t, u = Value.bytes b t from r); cases e; rfl
  | flt b => obtain ⟨t, e⟩ := (show ∃ t, u = Value.float b t from r); cases e; rfl
  | ref a => cases (show u = Value.ref a from r); rfl
  | ty n => cases (show u = Value.type n from r); rfl

section
variable {P : Program} {w : World} {H H' : Hp} {h h' : Heap} {a C dx : Addr} {fs fs' : List (Str × V)}
theorem ins_get (hok : HOk P w H h) (e : H a = some (.ins C dx fs)) : ∃ mA, ObjM h a dx C mA ∧ (∀ f, RelO (fs.lookup f) (mA f)) ∧ PySem.Within mA (fs.map (·.1)) ∧ fs.length ≤ 1000 ∧ H dx = some (.own a) := by
  obtain ⟨d, z, ne, ob, mA, n, r, q⟩ := (show ObjOk P w H h a (.ins C dx fs) from hok a _ e)
  exact ⟨mA, ⟨ob, n, ne⟩, r, q, z, d⟩
end

structure Cls (K : PySem.W.Frag) (C : Addr) : Prop where
  pg : PySem.W.plainGet K C Str.empty = true
  hd : PySem.W.hasDictIn K C = true
  po : PySem.W.plainOver K C = true
  sa : PySem.W.findIn K (.ref C) "__setattr__" = some (some (.builtin "object.__setattr__"))
theorem Cls.get {K : PySem.W.Frag} {C : Addr} (c : Cls K C) (f : Str) : PySem.W.plainGet K C f = true := c.pg
structure Con (K : PySem.W.Frag) (C : Addr) (f : Str) (v : V) (u : Value) : Prop where
  at_ : PySem.W.findIn K (.ref C) f = some (some u)
  rel : RelV v u
  get : PySem.W.specialIn K u "__get__" = some none
  cp : PySem.W.copiedNames.contains f = false
structure Meth (K : PySem.W.Frag) (C : Addr) (m : Str) (f : Addr) : Prop where
  at_ : PySem.W.findIn K (.ref C) m = some (some (.ref f))
  fn : PySem.W.isFn K (.ref f) = true
  kp : PySem.W.keepIn K (.ref f) = true

section
variable {X : Cx} {pins : List (Addr × Obj)} {σ : St} {H : Hp} {s : Shared} {a C dx : Addr} {fs : List (Str × V)} {f : Str} {v : V} {A : Around} {E : Value → Shared → Prop}

theorem attr_of {prog : Program} {w : World} {env : Env} {e : Expr} {f : Str} {pos : Pos} {s : Shared} {Q : Value → Shared → Prop} (hb : attributeBase e f env (eval e env) = eval e env)
    (h : wpAny (model prog w) A (eval e env) (fun o s₁ => wpAny (model prog w) A (getAttr o f true) Q E s₁) E s) : wpAny (model prog w) A (eval (.Attribute e f pos) env) Q E s :=
  Attribute_any_ h (by rw [arm_eval_Attribute, hb])
end

section
variable {X : Cx} {o e value : Expr} {f : Str} {pos pos' tpos : Pos} {ta tv : TE}
end

section
variable {X : Cx} {pins : List (Addr × Obj)} {σ : St} {H : Hp} {s : Shared} {A : Around} {E : Value → Shared → Prop} {Q : Value → Shared → Prop} {c : Value} {b : Bool}
inductive TyOf (K : PySem.W.Frag) (H : Hp) : V → Value → Prop where
  | non : TyOf K H .non (.type "NoneType")
  | bl (x : Bool) : TyOf K H (.bl x) (.type "bool")
  | int (i : Int) : TyOf K H (.int i) (.type "int")
  | str (x : Str) : TyOf K H (.str x) (.type "str")
  | flt (x : UInt64) : TyOf K H (.flt x) (.type "float")
  | lst {a : Addr} {xs : List V} (e : H a = some (.lst xs)) : TyOf K H (.ref a) (.type "list")
  | frz {a : Addr} {o : Obj} {xs : List V} (e : H a = some (.frz o (.lst xs))) : TyOf K H (.ref a) (.type "list")
  | tup {a : Addr} {xs : List V} (e : H a = some (.tup xs)) : TyOf K H (.ref a) (.type "tuple")
  | dK {a : Addr} {kvs : List (Key × V)} (e : H a = some (.dK kvs)) : TyOf K H (.ref a) (.type "dict")
  | dT {a : Addr} {kvs : List (List Key × V)} (e : H a = some (.dT kvs)) : TyOf K H (.ref a) (.type "dict")
  | ins {a C dx : Addr} {fs : List (Str × V)} (e : H a = some (.ins C dx fs)) (cl : Cls K C) (ha : PySem.W.findIn K (.ref C) "__class__" = some (some (.builtin "object.__class__")))
      (hn : PySem.W.specialIn K (.builtin "object.__class__") "__get__" = some (some (.builtin "getset_descriptor.__get__"))) (htk : PySem.W.takesIn K (.builtin "object.__class__") = some true)
      (hm : PySem.W.mroIn K C (.type "object") = some true) : TyOf K H (.ref a) (.ref C)
theorem isinst_ok {x : V} {u t : Value} (I : Inv X pins σ H s) (rx : RelV x u) (ty : TyOf X.K H x t) (e : PySem.W.kitOne X.K t c = some b) (h : ∀ tk, Q (.bool b) { s with toks := tk }) :
    wpAny (model X.prog X.w) A (call (.builtin "isinstance") [u, c]) Q E s := by
  cases ty with
  | non => cases (show u = Value.none from rx); exact PySem.W.kia_one PySem.W.kitx_none I.kIn True.intro e (fun z => nomatch z) h
  | bl y => cases (show u = Value.bool y from rx); exact PySem.W.kia_one PySem.W.kitx_bool I.kIn True.intro e (fun z => nomatch z) h
  | int i => obtain ⟨t, q⟩ := (show ∃ t, u = Value.int i t from rx); cases q; exact PySem.W.kia_one PySem.W.kitx_int I.kIn True.intro e (fun z => nomatch z) h
  | str y => obtain ⟨t, q⟩ := (show ∃ t, u = Value.str y t from rx); cases q; exact PySem.W.kia_one PySem.W.kitx_str I.kIn True.intro e (fun z => nomatch z) h
  | flt y => obtain ⟨t, q⟩ := (show ∃ t, u = Value.float y t from rx); cases q; exact PySem.W.kia_one PySem.W.kitx_float I.kIn True.intro e (fun z => nomatch z) h
  | @lst a xs ea =>
    cases (show u = Value.ref a from rx)
    obtain ⟨_, _, n, _, h1⟩ := (show ObjOk X.prog X.w H s.heap a (.lst xs) from I.hok a _ ea)
    exact PySem.W.kia_one PySem.W.kitx_list I.kIn ⟨_, h1, rfl⟩ e (fun z => nomatch z) h
  | @frz a ob xs ea =>
    cases (show u = Value.ref a from rx)
    obtain ⟨_, _, _, n, _, h1⟩ := (show ObjOk X.prog X.w H s.heap a (.frz ob (.lst xs)) from I.hok a _ ea)
    exact PySem.W.kia_one PySem.W.kitx_list I.kIn ⟨_, h1, rfl⟩ e (fun z => nomatch z) h
  | @tup a xs ea =>
    cases (show u = Value.ref a from rx)
    obtain ⟨_, _, _, p⟩ := (show ObjOk X.prog X.w H s.heap a (.tup xs) from I.hok a _ ea)
    obtain ⟨o, h1, h2, _⟩ := p
    exact PySem.W.kia_one PySem.W.kitx_tuple I.kIn ⟨o, h1, h2⟩ e (fun z => nomatch z) h
  | @dK a kvs ea =>
    cases (show u = Value.ref a from rx)
    obtain ⟨_, _, vs, _, p⟩ := (show ObjOk X.prog X.w H s.heap a (.dK kvs) from I.hok a _ ea)
    obtain ⟨o, es, ep, h1, h2, _⟩ := p
    exact PySem.W.kia_one PySem.W.kitx_dict I.kIn ⟨o, h1, h2.1⟩ e (fun z => nomatch z) h
  | @dT a kvs ea =>
    cases (show u = Value.ref a from rx)
    obtain ⟨_, _, xs, _, o, es, ep, h1, h2, _⟩ := (show ObjOk X.prog X.w H s.heap a (.dT kvs) from I.hok a _ ea)
    exact PySem.W.kia_one PySem.W.kitx_dict I.kIn ⟨o, h1, h2.1⟩ e (fun z => nomatch z) h
  | @ins a C dx fs ea cl ha hn htk hm =>
    cases (show u = Value.ref a from rx)
    obtain ⟨mA, O, _⟩ := ins_get I.hok ea
    obtain ⟨od, J, _⟩ := O.look
    exact PySem.W.kia_one (PySem.W.kitx_own (cl.get _) cl.hd ha hn htk hm) I.kIn J e (fun z => nomatch z) h
end
end L2

namespace L2
open PySem PySem.Spec PyProof.Rows

structure Room (k : Nat) (A : Around) : Prop where
  hd : A.handled = none
  dp : A.depth + 3 * k + 5 < recursionLimit
  un : A.units + 16 * k + 200 < cLine
theorem Room.mono {j k : Nat} {A : Around} (r : Room k A) (h : j ≤ k) : Room j A := ⟨r.hd, by have := r.dp; omega, by have := r.un; omega⟩
theorem Room.deeper {k : Nat} {A : Around} (r : Room (k + 1) A) (env : Env) : Room k (A.deeper env) :=
  ⟨r.hd, by have := r.dp; show A.depth + 1 + 3 * k + 5 < _; omega, by have := r.un; show A.units + 3 + 16 * k + 200 < _; omega⟩
theorem make_depth {A : Around} {C : Addr} {us : List Value} {kw : List (Str × Value)} : (A.under (.builtin "type.__call__" ⟨.ref C :: us, kw⟩)).depth = A.depth + 1 := by
  first | rfl | simp [Around.under, Code.weight, Code.isCreation, Code.isGuard, Code.isCaller, Code.frames, Code.isFrame, guardIds]
theorem make_units {A : Around} {C : Addr} {us : List Value} {kw : List (Str × Value)} : (A.under (.builtin "type.__call__" ⟨.ref C :: us, kw⟩)).units = A.units + 1 := by
  first | rfl | simp [Around.under, Code.cUnits, Code.frames, Code.isFrame]
theorem Room.make {k : Nat} {A : Around} (r : Room (k + 1) A) (C : Addr) (us : List Value) (kw : List (Str × Value)) : Room k (A.under (.builtin "type.__call__" ⟨.ref C :: us, kw⟩)) :=
  ⟨r.hd, by have := r.dp; rw [make_depth]; omega, by have := r.un; rw [make_units]; omega⟩
theorem Room.depth {k : Nat} {A : Around} (r : Room k A) : A.depth < recursionLimit := by have := r.dp; omega
theorem Room.units {k : Nat} {A : Around} (r : Room k A) : A.units + 64 < cLine := by have := r.un; omega
def tNil : TA := fun _ H Q => Q [] H
def tCons (ta : TE) (tr : TA) : TA := fun σ H Q => ta σ H fun x H1 => tr σ H1 fun xs H2 => Q (x :: xs) H2
section
variable {X : Cx} {e : Expr} {es : List Expr} {te : TE} {t : TA} {pos : Pos}
theorem pa_nil : PA X [] tNil := fun _ _ _ _ H Q I h => Calls.spliced_nil ⟨[], H, I, .nil, h⟩
theorem pa_cons (ha : PE X e te) (hr : PA X es t) (hs : starEach (e :: es) X.env = (false, eval e X.env) :: starEach es X.env := by rfl) : PA X (e :: es) (tCons te t) := by
  intro pos pins s σ H Q I h
  rw [hs]
  show wpAny _ _ (spliced ((false, eval e X.env) :: backTo pos (starEach es X.env))) _ _ s
  refine Calls.spliced_cons (thn (ha pins s σ H _ I h) fun u s1 ⟨x, H1, I1, r1, q1⟩ => ?_)
  exact thn (hr pos pins s1 σ H1 _ I1 q1) fun us s2 ⟨xs, H2, I2, r2, q2⟩ => ⟨x :: xs, H2, I2, .cons r1 r2, q2⟩

def tLst (t : TA) : TE := fun σ H Q => t σ H fun xs H1 => xs.length ≤ sizeLine ∧ ∀ p, H1 p = none → Q (.ref p) (upd H1 p (.lst xs))
theorem pe_lst (h : PA X es t) : PE X (.List es pos) (tLst t) := by
  intro pins s σ H Q I hq
  refine wpAny_List_spliced (thn (h pos pins s σ H _ I hq) fun us s1 ⟨xs, H1, I1, r, z, q⟩ => ⟨by rw [← r.length]; exact z, ?_⟩)
  have hf : H1 s1.heap.objs.size = none := I1.hok.fresh (Nat.le_refl _)
  refine ⟨.ref s1.heap.objs.size, upd H1 s1.heap.objs.size (.lst xs), I1.laid (t' := s1.toks) (fun b u e => Heap.get?_push_of_some _ e) (Nat.le_refl _) ?_, rfl, q _ hf⟩
  exact ⟨z, us, 0, r, Heap.get?_push_size _ rfl⟩
end

abbrev Sp := List V → Hp → VK → XK → Prop
abbrev CXT := List Env → Hp → Shared → XK → Value → Shared → Prop

structure Env0 (P : Program) (w : World) (K : PySem.W.Frag) (mg : Str → Option Value) (base : Heap) (A : Around) (outer : List Env) (s : Shared) (H : Hp) : Prop where
  frames : A.frames = some outer
  mod : Mod K mg base
  bs : ∀ b o, base.get? b = some o → s.heap.get? b = some o ∧ H b = none
  bsz : base.objs.size ≤ s.heap.objs.size
  funs : s.heap.FunFrames base outer
  frf : ∀ b ∈ frs outer, H b = none
  hok : HOk P w H s.heap
  bare : AllBare s.gens
def CE (outer : List Env) (P : Program) (w : World) (H : Hp) (s : Shared) (Q : VK) (u : Value) (s' : Shared) : Prop :=
  ∃ v H', s'.os = s.os ∧ AllBare s'.gens ∧ Un (frs outer) [] H H' s.heap s'.heap ∧ HOk P w H' s'.heap ∧ RelV v u ∧ Q v H'
def CR (CX : CXT) (outer : List Env) (P : Program) (w : World) (H : Hp) (s : Shared) (Q : VK) (E : XK) (r : Result) (s' : Shared) : Prop :=
  match r with
  | .ok (.ret u) => CE outer P w H s Q u s'
  | .ok _ => False
  | .error e => CX outer H s E e s'
structure FnOk (P : Program) (w : World) (K : PySem.W.Frag) (mg : Str → Option Value) (base : Heap) (CX : CXT) (k : Nat) (f : Addr) (fd : FuncData) (ps : List Str) (sp : Sp) : Prop where
  len : ∀ vs H Q E, sp vs H Q E → vs.length = ps.length
  run : ∀ (A : Around) (outer : List Env) (s : Shared) (H : Hp) (args : Args) (us : List Value) (vs : List V) (Q : VK) (E : XK), Room k A → Env0 P w K mg base A outer s H → BindsTo s fd args (ps.zip us) → Vals vs us → sp vs H Q E →
    codeAny (model P w) A (.call (.ref f) args) (CR CX outer P w H s Q E) s
theorem FnOk.mono {P : Program} {w : World} {K : PySem.W.Frag} {mg : Str → Option Value} {base : Heap} {CX : CXT} {j k : Nat} {f : Addr} {fd : FuncData} {ps : List Str} {sp : Sp} (F : FnOk P w K mg base CX j f fd ps sp) (h : j ≤ k) :
    FnOk P w K mg base CX k f fd ps sp := ⟨F.len, fun A outer s H args us vs Q E hr => F.run A outer s H args us vs Q E (hr.mono h)⟩
theorem Env0.make {P : Program} {w : World} {K : PySem.W.Frag} {mg : Str → Option Value} {base : Heap} {A : Around} {outer : List Env} {s : Shared} {H : Hp} (e : Env0 P w K mg base A outer s H) (C : Addr) (us : List Value) (kw : List (Str × Value)) :
    Env0 P w K mg base (A.under (.builtin "type.__call__" ⟨.ref C :: us, kw⟩)) outer s H := ⟨by first | exact e.frames | (simpa [Around.under, Code.envs, Code.isFrame, pushEnvs] using e.frames), e.mod, e.bs, e.bsz, e.funs, e.frf, e.hok, e.bare⟩
section
variable {X : Cx} {pins : List (Addr × Obj)} {σ : St} {H : Hp} {s s' : Shared}
theorem Inv.env0 (I : Inv X pins σ H s) : Env0 X.prog X.w X.K X.mg X.base X.A X.stack s H :=
  ⟨I.ok.frames, I.ok.mod, I.bs, Nat.le_trans I.ok.bsz I.sz, I.stack, I.stkFree, I.hok, I.bare⟩
theorem Inv.after {Q : VK} {u : Value} (I : Inv X pins σ H s) (h : CE X.stack X.prog X.w H s Q u s') : EP X pins σ Q u s' := by
  obtain ⟨v, H', os, bare, un, hok, r, q⟩ := h
  obtain ⟨hh, g, d, t, os'⟩ := s'
  obtain rfl : os' = s.os := os
  exact ⟨v, H', I.call (h' := hh) (g' := g) (d' := d) (t' := t) (ch := []) un hok bare (fun b z => absurd z (by simp)), r, q⟩
end

def tCall (sp : Sp) (dvs : List V) (E : XK) (t : TA) : TE := fun σ H Q => t σ H fun vs H1 => sp (vs ++ dvs) H1 Q E
def Binds (K : PySem.W.Frag) (fd : FuncData) (ps : List Str) (ds : List Value) : Prop :=
  ∀ (s : Shared) (us : List Value), K.In s.heap → (us ++ ds).length = ps.length → BindsTo s fd ⟨us, []⟩ (ps.zip (us ++ ds))
theorem Binds.all {K : PySem.W.Frag} {fd : FuncData} {ps : List Str} (h : ∀ us : List Value, us.length = ps.length → bindArgs fd ⟨us, []⟩ = pure (ps.zip us)) : Binds K fd ps [] := fun s us _ hl => by
  rw [List.append_nil] at hl ⊢
  exact .of_eq (h us hl)

def Passes (CX : CXT) (X : Cx) (E : XK) : Prop := ∀ (pins : List (Addr × Obj)) (σ : St) (H : Hp) (s : Shared) (e : Value) (s' : Shared), Inv X pins σ H s → CX X.stack H s E e s' → X.xe e s'

section
variable {X : Cx} {CX : CXT} {k : Nat} {f C : Addr} {fd : FuncData} {ps : List Str} {sp : Sp} {dvs : List V} {ds : List Value} {E : XK} {x m : Str} {p pos apos : Pos} {e o : Expr} {es : List Expr} {ta : TE} {t : TA}

theorem run_fn {pins : List (Addr × Obj)} {σ : St} {H : Hp} {s : Shared} {Q : VK} {us : List Value} {vs : List V} (F : FnOk X.prog X.w X.K X.mg X.base CX k f fd ps sp) (hr : Room k X.A) (hb : Binds X.K fd ps ds) (hd : Vals dvs ds) (hx : Passes CX X E)
    (I : Inv X pins σ H s) (r : Vals vs us) (h : sp (vs ++ dvs) H Q E) : wpAny (model X.prog X.w) X.A (call (.ref f) us) (EP X pins σ Q) X.xe s := by
  have r2 : Vals (vs ++ dvs) (us ++ ds) := r.append hd
  have hl : (us ++ ds).length = ps.length := by rw [← r2.length]; exact F.len _ _ _ _ h
  refine wpAny_call (codeAny_mono (F.run X.A X.stack s H ⟨us, []⟩ (us ++ ds) (vs ++ dvs) Q E hr I.env0 (hb s us I.kIn hl) r2 h) fun r s' hq => ?_)
  cases r with
  | error e => exact hx pins σ H s e s' I hq
  | ok fl =>
    cases fl with
    | ret u => exact I.after hq
    | next => exact False.elim hq
    | brk => exact False.elim hq
    | cont => exact False.elim hq

theorem pe_call (F : FnOk X.prog X.w X.K X.mg X.base CX k f fd ps sp) (hr : Room k X.A) (hg : Gl X x) (hm : X.mg x = some (.ref f)) (hk : PySem.W.keepIn X.K (.ref f) = true) (hb : Binds X.K fd ps ds) (hd : Vals dvs ds) (hx : Passes CX X E)
    (ha : PA X (e :: es) t) (hdb : (x == ("__debug__" : Str)) = false := by decide) (he : starEach (e :: es) X.env = (false, eval e X.env) :: starEach es X.env := by rfl) (hpl : (backTo pos (starEach es X.env)).any (·.1) = false := by rfl) :
    PE X (.Call (.Name x p) (e :: es) [] pos) (tCall sp dvs E t) := by
  intro pins s σ H Q I h
  refine wpAny_Call_Name_kw (ld_glob I hg hm ?_ hdb)
  refine PySem.W.callWith_K (h₀ := X.base) I.ok.mod.kin hk (thn (ha pos pins s σ H _ I h) fun us s1 ⟨vs, H1, I1, r, q⟩ => ⟨I1.kIn, ?_⟩) he hpl
  exact run_fn F hr hb hd hx I1 r q
structure Mk (K : PySem.W.Frag) (C f : Addr) : Prop where
  makes : PySem.W.makesIn K C = true
  init : PySem.W.findIn K (.ref C) "__init__" = some (some (.ref f))
  fn : PySem.W.isFn K (.ref f) = true
  kp : PySem.W.keepIn K (.ref C) = true

end

section
variable {X : Cx} {CX : CXT} {k : Nat} {f C : Addr} {fd : FuncData} {ps ks : List Str} {sp : Sp} {E : XK} {x m : Str} {p pos apos kpos : Pos} {e o : Expr} {es : List Expr} {kws : List Keyword} {te ta : TE} {t tk : TA} {nm : Option Str}
structure KBinds (K : PySem.W.Frag) (fd : FuncData) (ps ks : List Str) (g : List Value → List Value → List Value) (gV : List V → List V → List V) : Prop where
  to : ∀ (s : Shared) (us ws : List Value), K.In s.heap → (g us ws).length = ps.length → BindsTo s fd ⟨us, ks.zip ws⟩ (ps.zip (g us ws))
  rel : ∀ {vs : List V} {us : List Value} {zs : List V} {ws : List Value}, Vals vs us → Vals zs ws → Vals (gV vs zs) (g us ws)
variable {g : List Value → List Value → List Value} {gV : List V → List V → List V}
end

structure FnScope (N P : List Str) (sc : Scope) : Prop where
  kind : sc.kind = .function
  co : sc.isCoroutine = false
  gen : sc.isGenerator = false
  nd : N.Nodup
  pre : N.take P.length = P
  par : ∀ x ∈ P, sc.names.lookup x = some .local ∨ sc.names.lookup x = some .cell
  nofree : ∀ y ∈ sc.names, y.2 ≠ .free

theorem bindL_out {kindOf : Str → Option NameKind} {x : Str} : ∀ {binds : List (Str × Value)} {m : Str → Option Value}, (∀ v, (x, v) ∉ binds) → bindL kindOf binds m x = m x
  | [], _, _ => rfl
  | (n, v) :: r, m, h => by
    unfold bindL
    rw [bindL_out fun w hw => h w (List.mem_cons_of_mem _ hw)]
    split
    · have : x ≠ n := by rintro rfl; exact h v List.mem_cons_self
      simp [this]
    · rfl
theorem bindC_out {kindOf : Str → Option NameKind} {x : Str} : ∀ {binds : List (Str × Value)} {m : Str → Option Value}, (∀ v, (x, v) ∉ binds) → bindC kindOf binds m x = m x
  | [], _, _ => rfl
  | (n, v) :: r, m, h => by
    unfold bindC
    rw [bindC_out fun w hw => h w (List.mem_cons_of_mem _ hw)]
    split
    · rfl
    · have : x ≠ n := by rintro rfl; exact h v List.mem_cons_self
      simp [this]
theorem bindL_get {kindOf : Str → Option NameKind} {x : Str} {v : Value} : ∀ {P : List Str} {vs : List Value} {i : Nat} {m : Str → Option Value}, P.Nodup → P[i]? = some x → vs[i]? = some v → kindOf x = some .local →
    bindL kindOf (P.zip vs) m x = some v
  | [], _, _, _, _, h, _, _ => by simp at h
  | _ :: _, [], _, _, _, _, h, _ => by simp at h
  | p :: P, w :: vs, 0, m, nd, h1, h2, hk => by
    simp at h1 h2; subst h1; subst h2
    show bindL kindOf ((p, w) :: P.zip vs) m p = _
    unfold bindL
    rw [bindL_out fun v hv => (List.nodup_cons.mp nd).1 (List.of_mem_zip hv).1, if_pos hk]
    simp
  | p :: P, w :: vs, i + 1, m, nd, h1, h2, hk => by
    show bindL kindOf ((p, w) :: P.zip vs) m x = _
    unfold bindL
    exact bindL_get (i := i) (List.nodup_cons.mp nd).2 (by simpa using h1) (by simpa using h2) hk
theorem bindC_get {kindOf : Str → Option NameKind} {x : Str} {v : Value} : ∀ {P : List Str} {vs : List Value} {i : Nat} {m : Str → Option Value}, P.Nodup → P[i]? = some x → vs[i]? = some v → kindOf x ≠ some .local →
    bindC kindOf (P.zip vs) m x = some v
  | [], _, _, _, _, h, _, _ => by simp at h
  | _ :: _, [], _, _, _, _, h, _ => by simp at h
  | p :: P, w :: vs, 0, m, nd, h1, h2, hk => by
    simp at h1 h2; subst h1; subst h2
    show bindC kindOf ((p, w) :: P.zip vs) m p = _
    unfold bindC
    rw [bindC_out fun v hv => (List.nodup_cons.mp nd).1 (List.of_mem_zip hv).1, if_neg hk]
    simp
  | p :: P, w :: vs, i + 1, m, nd, h1, h2, hk => by
    show bindC kindOf ((p, w) :: P.zip vs) m x = _
    unfold bindC
    exact bindC_get (i := i) (List.nodup_cons.mp nd).2 (by simpa using h1) (by simpa using h2) hk

def start (N : List Str) (vs : List V) : St := vs.map some ++ List.replicate (N.length - vs.length) none

def cxOf (CX : CXT) (P : Program) (w : World) (K : PySem.W.Frag) (mg : Str → Option Value) (base : Heap) (N : List Str) (qual : Str) (scope : Scope) (f : Addr) (cd : Value) (A : Around) (outer : List Env) (s : Shared) (H : Hp) (E : XK) : Cx where
  prog := P
  w := w
  K := K
  mg := mg
  base := base
  A := A.deeper (envOfC qual scope s.heap.objs.size f cd)
  N := N
  s₀ := s
  H₀ := H
  env := envOfC qual scope s.heap.objs.size f cd
  outer := outer
  stack := envOfC qual scope s.heap.objs.size f cd :: outer
  ex := []
  calm := true
  fn := fun _ => true
  pn := []
  xe := fun e s' => wpAny (model P w) (A.deeper (envOfC qual scope s.heap.objs.size f cd)) (leaving (envOfC qual scope s.heap.objs.size f cd) e) (fun _ s'' => CX outer H s E e s'') (fun e' s'' => CX outer H s E e' s'') s'

theorem cell_has {sc : Scope} {n : Nat} {x : Str} (h : sc.names.lookup x = some .cell) : ∃ c, (cellsFrom n sc.names []).lookup x = some c := by
  have q := PySem.W.cellsFrom_some sc.names n [] (.inl h)
  exact Option.isSome_iff_exists.mp q

theorem inv_start {CX : CXT} {P : Program} {w : World} {K : PySem.W.Frag} {mg : Str → Option Value} {base : Heap} {N ps : List Str} {qual : Str} {scope : Scope} {f : Addr} {cd : Value} {A : Around} {outer : List Env} {s s1 : Shared} {H : Hp} {E : XK} {us : List Value} {vs : List V}
    (S : FnScope N ps scope) (hd : A.handled = none) (e0 : Env0 P w K mg base A outer s H) (hl : vs.length = ps.length) (r : Vals vs us)
    (x : InCallC s s.heap.objs.size (bindL (envOfC qual scope s.heap.objs.size f cd).kindOf (ps.zip us) fun _ => none) (cellsFrom (s.heap.objs.size + 1) scope.names []) (bindC (envOfC qual scope s.heap.objs.size f cd).kindOf (ps.zip us) fun _ => none) s1) :
    Inv (cxOf CX P w K mg base N qual scope f cd A outer s H E) [] (start N vs) H s1 := by
  have hpl : ps.length ≤ N.length := by have := congrArg List.length S.pre; rw [List.length_take] at this; omega
  obtain ⟨h1, tk, rfl, hk⟩ := x.done
  have noA : ∀ b : Addr, b ∉ (cxOf CX P w K mg base N qual scope f cd A outer s H E).ex := fun b z => absurd (show b ∈ ([] : List Addr) from z) (by simp)
  refine ⟨⟨e0.mod, S.kind, rfl, rfl, Nat.le_refl _, fun y z c h1 h2 => ?_, fun y hy => ?_, fun y c _ h => ?_, fun _ => hd, Around.frames_deeper e0.frames, .inr ⟨rfl, rfl⟩, fun b z => absurd z (noA b), e0.bs, e0.bsz, fun b _ _ => noA b, fun b z => absurd z (noA b), e0.funs, e0.frf⟩,
    rfl, e0.bare, Un.kept hk, ⟨_, x.toInCall.ns, fun i y v h1 h2 h3 => ?_⟩, fun y c h => ⟨_, x.cell y c h⟩, e0.hok.fresh (Nat.le_refl _), fun y c h => ?_, fun p hp => absurd (show p ∈ ([] : List (Addr × Obj)) from hp) (by simp), e0.hok.kept hk, ?_⟩
  · exact name_of_addr x.apart (PySem.mem_of_lookup h1) (PySem.mem_of_lookup h2)
  · have hy : scope.names.lookup y = some .cell ∨ scope.names.lookup y = some .free := hy
    rcases hy with hy | hy
    · exact cell_has hy
    · exact absurd rfl (S.nofree _ (PySem.mem_of_lookup hy))
  · exact Nat.le_of_lt (x.above y c (PySem.mem_of_lookup h))
  · have hi : i < vs.length := by
      unfold start at h2
      by_cases hi : i < vs.length
      · exact hi
      · rw [List.getElem?_append_right (by simpa using hi)] at h2
        rw [List.getElem?_replicate] at h2
        split at h2 <;> cases h2
    have ha : vs[i]? = some v := by
      unfold start at h2
      rw [List.getElem?_append_left (by simpa using hi), List.getElem?_map] at h2
      cases e : vs[i]? with
      | none => rw [e] at h2; cases h2
      | some a => rw [e] at h2; cases h2; rfl
    obtain ⟨u, hu, rv⟩ := r.get ha
    have hp : ps[i]? = some y := by
      rw [← S.pre, List.getElem?_take_of_lt (by omega)]; exact h1
    have ndP : ps.Nodup := by rw [← S.pre]; exact S.nd.sublist (List.take_sublist _ _)
    refine ⟨u, rv, ?_⟩
    rcases S.par y (List.mem_of_getElem? hp) with k | k
    · exact .inl ⟨k, bindL_get ndP hp hu k⟩
    · obtain ⟨c, e⟩ := cell_has (n := s.heap.objs.size + 1) k
      refine .inr ⟨.inl k, c, e, ?_⟩
      have q := x.cell y c e
      rw [bindC_get ndP hp hu (by show scope.names.lookup y ≠ _; rw [k]; decide)] at q
      exact q
  · exact e0.hok.fresh (Nat.le_of_lt (x.above y c (PySem.mem_of_lookup h)))
  · unfold start
    show _ = N.length
    rw [List.length_append, List.length_map, List.length_replicate]
    omega

theorem fn_of {CX : CXT} {P : Program} {w : World} {K : PySem.W.Frag} {mg : Str → Option Value} {base : Heap} {k : Nat} {f : Addr} {name qual : Str} {params : Arguments} {body : List Stmt} {scope : Scope} {dV kV doc pm cdv ct oc : Value} {an od : Option Addr}
    {osl : Array (Option Value)} {N ps : List Str} {sp : Sp} (lk : K.lookup f = some ⟨oc, od, .func (PySem.W.fnOf name qual params body scope dV kV doc pm an cdv ct), osl⟩) (hcd : PySem.W.codeIn K cdv qual = true) (S : FnScope N ps scope)
    (len : ∀ vs H Q E, sp vs H Q E → vs.length = ps.length)
    (hbody : ∀ (A : Around) (outer : List Env) (s : Shared) (H : Hp) (vs : List V) (Q : VK) (E : XK), Room k (A.deeper (envOfC qual scope s.heap.objs.size f cdv)) → sp vs H Q E →
      ∃ t, PSs (cxOf CX P w K mg base N qual scope f cdv A outer s H E) body t ∧ t { nx := fun _ H' => Q .non H', rt := Q } (start N vs) H) :
    FnOk P w K mg base CX (k + 1) f (PySem.W.fnOf name qual params body scope dV kV doc pm an cdv ct) ps sp := by
  refine ⟨len, fun A outer s H args us vs Q E hr e0 hb r hsp => ?_⟩
  have hl := len _ _ _ _ hsp
  have KX : K.In s.heap := e0.mod.kin.keeps fun b o e => (e0.bs b o e).1
  have lim : s.heap.NoLimit := e0.mod.nolimit.keeps fun b o e => (e0.bs b o e).1
  have hkind : ∀ y ∈ ps.zip us, scope.names.lookup y.1 = some .local ∨ (scope.names.lookup y.1 = some .cell ∧ ((cellsFrom (s.heap.objs.size + 1) scope.names []).lookup y.1).isSome = true) := fun ⟨n, v⟩ hy => by
    rcases S.par n (List.of_mem_zip hy).1 with q | q
    · exact .inl q
    · exact .inr ⟨q, PySem.W.cellsFrom_some _ _ _ (.inl q)⟩
  refine codeAny_call_function hr.depth (KX _ _ lk) rfl S.co S.gen rfl (PySem.W.codeRec_of KX hcd) (hb _ _ _ _ ?_)
  refine wpAny_newFunctionEnv_cells S.kind hkind fun env he s1 x => ?_
  subst he
  refine ⟨lim.keeps x.toInCall.keep, codeAny_func ?_⟩
  obtain ⟨t, ht, hq⟩ := hbody A outer s H vs Q E (hr.deeper _) hsp
  have I : Inv (cxOf CX P w K mg base N qual scope f cdv A outer s H E) [] (start N vs) H s1 := inv_start S hr.hd e0 hl r x
  refine wpAny_mono (ht [] s1 (start N vs) H _ I hq) (fun fl s' hs => ?_) fun e s' hs => hs
  have fin : ∀ {σ' : St} {H' : Hp} {v : V} {u : Value}, Inv (cxOf CX P w K mg base N qual scope f cdv A outer s H E) [] σ' H' s' → RelV v u → Q v H' → CE outer P w H s Q u s' :=
    fun {σ' H' v u} J rv q => ⟨v, H', J.os, J.bare, J.base, J.hok, rv, q⟩
  cases fl with
  | ret u =>
    obtain ⟨v, σ', H', J, rv, q⟩ := hs
    exact fin J rv q
  | next =>
    obtain ⟨σ', H', J, q⟩ := hs
    exact fin (v := V.non) (u := Value.none) J rfl q
  | brk =>
    obtain ⟨_, _, _, q⟩ := hs
    exact False.elim q
  | cont =>
    obtain ⟨_, _, _, q⟩ := hs
    exact False.elim q
end L2

namespace L2
open PySem PySem.Spec PyProof.Rows
section
variable {X : Cx} {x : Str} {p pos : Pos} {e : Expr} {es : List Expr} {t : TA} {id T : String} {r : List V → Hp → VK → Prop}

def tCB (r : List V → Hp → VK → Prop) (t : TA) : TE := fun σ H Q => t σ H fun vs H1 => r vs H1 Q
theorem pe_callB (hc : CallR X (.builtin id) r) (hg : Gl X x) (hm : X.mg x = none) (hv : bootBuiltins x = some (.builtin id)) (ha : PA X (e :: es) t) (hn : x ≠ "__name__" := by decide) (hdb : (x == ("__debug__" : Str)) = false := by decide)
    (he : starEach (e :: es) X.env = (false, eval e X.env) :: starEach es X.env := by rfl) (hpl : (backTo pos (starEach es X.env)).any (·.1) = false := by rfl) : PE X (.Call (.Name x p) (e :: es) [] pos) (tCB r t) := by
  intro pins s σ H Q I h
  refine wpAny_Call_Name_kw (ld_blt I hg hm hv ?_ hn hdb)
  exact PyProof.Rows.callWith_builtin1 (thn (ha pos pins s σ H _ I h) fun us s1 ⟨vs, H1, I1, r1, q1⟩ => hc pins s1 σ H1 vs us Q I1 r1 q1) he hpl
theorem pe_callTy (hc : CallR X (.type T) r) (hg : Gl X x) (hm : X.mg x = none) (hv : bootBuiltins x = some (.type T)) (ha : PA X (e :: es) t) (hn : x ≠ "__name__" := by decide) (hdb : (x == ("__debug__" : Str)) = false := by decide)
    (he : starEach (e :: es) X.env = (false, eval e X.env) :: starEach es X.env := by rfl) (hpl : (backTo pos (starEach es X.env)).any (·.1) = false := by rfl) : PE X (.Call (.Name x p) (e :: es) [] pos) (tCB r t) := by
  intro pins s σ H Q I h
  refine wpAny_Call_Name_kw (ld_blt I hg hm hv ?_ hn hdb)
  exact PyProof.Rows.callWith_type1 (thn (ha pos pins s σ H _ I h) fun us s1 ⟨vs, H1, I1, r1, q1⟩ => hc pins s1 σ H1 vs us Q I1 r1 q1) he hpl
end
end L2

namespace HT
open PySem PyProof.Rows

section
open PySem.SeqAt
open PySem.AutoSeq1 (wpAny_loadPart')
open PySem.MeetsSeq PySem.MeetsSeq2 PySem.MeetsSeq3

end

section
variable {prog : Program} {w : World} {A : Around} {E : Value → Shared → Prop} {s : Shared}

def sIx (n d : Nat) : Option Int → Nat
  | none => d
  | some v => if v < 0 then (v + (n : Int)).toNat else min v.toNat n
theorem sIx_nat (n d k : Nat) : sIx n d (some (k : Int)) = min k n := by
  show (if (k : Int) < 0 then ((k : Int) + (n : Int)).toNat else min (k : Int).toNat n) = min k n
  rw [if_neg (by omega), Int.toNat_natCast]
end
end HT

namespace L2
open PySem PySem.Spec PyProof.Rows

abbrev TO := St → Hp → (Option Int → Hp → Prop) → Prop
def PO (X : Cx) (e : Option Expr) (t : TO) : Prop :=
  ∀ (pins : List (Addr × Obj)) (s : Shared) (σ : St) (H : Hp) (Q : Option Int → Hp → Prop), Inv X pins σ H s → t σ H Q →
    wpAny (model X.prog X.w) X.A (evalPart e X.env) (fun u s' => ∃ o H', Inv X pins σ H' s' ∧ IsPart u o ∧ Q o H') X.xe s
def tNoPart : TO := fun _ H Q => Q none H
def tPart (t : TE) : TO := fun σ H Q => t σ H fun x H1 => ∃ i, x = .int i ∧ Q (some i) H1

section
variable {X : Cx} {e : Expr} {te : TE} {lo hi : Option Expr} {tl th : TO} {pos p2 : Pos}

theorem po_none : PO X none tNoPart := by
  intro pins s σ H Q I h
  rw [evalPart_none]
  exact wpAny_pure ⟨none, H, I, .none, h⟩
theorem po_some (h : PE X e te) : PO X (some e) (tPart te) := by
  intro pins s σ H Q I hw
  rw [evalPart_some]
  refine thn (h pins s σ H _ I hw) fun u s1 ⟨x, H1, I1, r1, q1⟩ => ?_
  obtain ⟨i, rfl, q⟩ := q1
  obtain ⟨t, rfl⟩ := r1
  exact ⟨some i, H1, I1, .int i t, q⟩

def SlR (X : Cx) (r : V → Option Int → Option Int → Hp → VK → Prop) : Prop :=
  ∀ (pins : List (Addr × Obj)) (s : Shared) (σ : St) (H : Hp) (x : V) (v vl vu : Value) (lo hi : Option Int) (sl : Addr) (Q : VK), Inv X pins σ H s → RelV x v → s.heap.IsSliceOf sl vl vu .none → IsPart vl lo → IsPart vu hi → r x lo hi H Q →
    ∃ T id, typeLookup (.type T) "__getitem__" = pure (some (.builtin id)) ∧ s.TypeIs v T ∧ wpAny (model X.prog X.w) X.A (getItem v (.ref sl)) (EP X pins σ Q) X.xe s
def tSl (r : V → Option Int → Option Int → Hp → VK → Prop) (te : TE) (tl th : TO) : TE := fun σ H Q => te σ H fun x H1 => tl σ H1 fun l H2 => th σ H2 fun u H3 => r x l u H3 Q
theorem pe_slice {r : V → Option Int → Option Int → Hp → VK → Prop} (hr : SlR X r) (he : PE X e te) (hl : PO X lo tl) (hu : PO X hi th) : PE X (.Subscript e (.Slice lo hi none p2) pos) (tSl r te tl th) := by
  intro pins s σ H Q I h
  refine Subscript_ (thn (he pins s σ H _ I h) fun v s1 ⟨x, H1, I1, r1, q1⟩ => ?_)
  refine wpAny_Slice (thn (hl pins s1 σ H1 _ I1 q1) fun vl s2 ⟨l, H2, I2, pl, q2⟩ => thn (hu pins s2 σ H2 _ I2 q2) fun vu s3 ⟨u, H3, I3, pu, q3⟩ => ?_)
  rw [evalPart_none]
  refine wpAny_pure ?_
  have I4 : Inv X pins σ H3 { s3 with heap := s3.heap.push { cls := .type "slice", data := .fields #[vl, vu, .none] } } := I3.kept (t' := s3.toks) fun b ob q => Heap.get?_push_of_some _ q
  obtain ⟨T, id, hT, ht, hg⟩ := hr pins { s3 with heap := s3.heap.push { cls := .type "slice", data := .fields #[vl, vu, .none] } } σ H3 x v vl vu l u s3.heap.objs.size Q I4 r1 (Heap.IsSliceOf.new ..) pl pu q3
  show wpAny (model X.prog X.w) X.A (subscriptTail e (.Slice lo hi none p2) v (.ref s3.heap.objs.size)) (EP X pins σ Q) X.xe { s3 with heap := s3.heap.push { cls := .type "slice", data := .fields #[vl, vu, .none] } }
  exact tail_any (ops := [.ref s3.heap.objs.size, v]) ht hT hg (by with_unfolding_all rfl)

def cutV (xs : List V) (lo hi : Option Int) : List V := (xs.drop (HT.sIx xs.length 0 lo)).take (HT.sIx xs.length xs.length hi - HT.sIx xs.length 0 lo)
theorem cutV_length (xs : List V) (lo hi : Option Int) : (cutV xs lo hi).length ≤ xs.length := by
  unfold cutV
  rw [List.length_take, List.length_drop]
  omega
end
end L2

namespace L2
open PySem PySem.Spec PyProof.Rows

def ixN (n : Nat) (i : Int) : Option Nat := if 0 ≤ i then (if i < n then some i.toNat else none) else if -(n : Int) ≤ i then some (i + n).toNat else none
def atI {α : Type} (xs : List α) (i : Int) : Option α := (ixN xs.length i).bind fun j => xs[j]?
theorem ixN_seq {n : Nat} {i : Int} {j : Nat} (h : ixN n i = some j) : seqIndex? i n = some j ∧ j < n ∧ -(n : Int) ≤ i ∧ i < n := by
  unfold ixN at h
  by_cases h0 : 0 ≤ i
  · rw [if_pos h0] at h
    by_cases h1 : i < n
    · rw [if_pos h1] at h
      have e : i.toNat = j := Option.some.inj h
      exact ⟨by rw [seqIndex_of h0 h1, e], by omega, by omega, h1⟩
    · rw [if_neg h1] at h; cases h
  · rw [if_neg h0] at h
    by_cases h1 : -(n : Int) ≤ i
    · rw [if_pos h1] at h
      have e : (i + n).toNat = j := Option.some.inj h
      exact ⟨by rw [seqIndex_neg (by omega) h1, e], by omega, h1, by omega⟩
    · rw [if_neg h1] at h; cases h
theorem atI_get {α : Type} {xs : List α} {i : Int} {v : α} (h : atI xs i = some v) : ∃ j, seqIndex? i xs.length = some j ∧ xs[j]? = some v ∧ j < xs.length ∧ -(xs.length : Int) ≤ i ∧ i < xs.length := by
  unfold atI at h
  cases e : ixN xs.length i with
  | none => rw [e] at h; cases h
  | some j =>
    rw [e] at h
    obtain ⟨h1, h2, h3, h4⟩ := ixN_seq e
    exact ⟨j, h1, h, h2, h3, h4⟩
theorem atI_nat {α : Type} {xs : List α} {j : Nat} {v : α} (h : xs[j]? = some v) : atI xs (j : Int) = some v := by
  have hj : j < xs.length := (List.getElem?_eq_some_iff.mp h).1
  have e : ixN xs.length (j : Int) = some j := by
    unfold ixN
    rw [if_pos (by omega), if_pos (by omega)]; simp
  unfold atI; rw [e]; exact h
def PlainIx (b : Expr) : Prop := ∀ o i, subscripted b false o i = operate [o, i] (getItem o i)
def IxR (X : Cx) (r : R2) : Prop :=
  ∀ (value slice : Expr) (pins : List (Addr × Obj)) (s : Shared) (σ : St) (H : Hp) (x y : V) (v u : Value) (Q : VK), Inv X pins σ H s → RelV x v → RelV y u → r x y H Q →
    subscripted slice false v u = operate [v, u] (getItem v u) → wpAny (model X.prog X.w) X.A (subscriptTail value slice v u) (EP X pins σ Q) X.xe s
def MtR (X : Cx) (id : String) (r : V → List V → Hp → VK → Prop) : Prop :=
  ∀ (pins : List (Addr × Obj)) (s : Shared) (σ : St) (H : Hp) (x : V) (xs : List V) (v : Value) (us : List Value) (Q : VK), Inv X pins σ H s → RelV x v → Vals xs us → r x xs H Q →
    wpAny (model X.prog X.w) X.A (call (.builtin id) (v :: us)) (EP X pins σ Q) X.xe s
section
variable {X : Cx} {a b : Expr} {ta tb : TE} {pos : Pos}
theorem pe_ix {r : R2} (hr : IxR X r) (ha : PE X a ta) (hb : PE X b tb) (hs : PlainIx b) : PE X (.Subscript a b pos) (tOp r ta tb) := by
  intro pins s σ H Q I h
  exact Subscript_ (binT ha hb I h fun v u s2 x y H2 I2 rx ry q => hr a b pins s2 σ H2 x y v u Q I2 rx ry q (hs _ _))

def rIxL (K : PySem.W.Frag) : R2 := fun x y H Q => ∃ p xs i v, x = .ref p ∧ y = .int i ∧ SqL K H p xs ∧ atI xs i = some v ∧ Q v H
def rIxS : R2 := fun x y H Q => ∃ z i c, x = .str z ∧ y = .int i ∧ z.length ≤ sizeLine ∧ atI z.cps.toList i = some c ∧ Q (.str ⟨#[c]⟩) H
theorem ix_list : IxR X (rIxL X.K) := by
  intro value slice pins s σ H x y v u Q I rx ry h hs
  obtain ⟨p, xs, i, z, rfl, rfl, hq, he, q⟩ := h
  cases rx
  obtain ⟨t, rfl⟩ := ry
  obtain ⟨its, r, pl, hz⟩ := I.list hq
  obtain ⟨j, h1, h2, h3, h4, h5⟩ := atI_get he
  obtain ⟨w, ew, rw'⟩ := r.get h2
  have hl := r.length
  have hn := line63
  have fin : EP X pins σ Q w s := ⟨z, H, I, rw', q⟩
  by_cases h0 : 0 ≤ i
  · have hj : i.toNat = j := by
      rw [seqIndex_of h0 h5] at h1
      exact Option.some.inj h1
    exact item_listR pl.isList h0 (by omega) (by rw [hj]; simpa using ew) fin hs
  · have hj : (i + (its.toArray.size : Int)).toNat = j := by
      rw [seqIndex_neg (by omega) h4] at h1
      rw [List.size_toArray, ← hl]
      exact Option.some.inj h1
    exact subscriptTail_builtinR (x := w) pl.isList.typeIs slot_list_getitem.lookup
      (wpAny_getItem_list_neg (Q := fun r s' => r = w ∧ EP X pins σ Q r s') pl.isList (by omega) (by rw [List.size_toArray] <;> omega) (by omega) (by rw [hj]; simpa using ew) ⟨rfl, fin⟩) hs
theorem ix_str : IxR X rIxS := by
  intro value slice pins s σ H x y v u Q I rx ry h hs
  obtain ⟨z, i, c, rfl, rfl, hz, he, q⟩ := h
  obtain ⟨t, rfl⟩ := rx
  obtain ⟨t', rfl⟩ := ry
  obtain ⟨j, h1, h2, h3, h4, h5⟩ := atI_get he
  have hl : z.cps.toList.length = z.length := by simp [Str.length]
  rw [hl] at h1 h4 h5
  have hn := line63
  exact tail_any (typeIs_str s z t) slot_str_getitem.lookup (getItem_str (c := c) (by
    have e1 : decide (i < -(2 ^ 63 : Int)) = false := decide_eq_false (by omega)
    have e2 : decide (i ≥ 2 ^ 63) = false := decide_eq_false (by omega)
    rw [e1, e2, Bool.or_false]) (by rw [h1]; simpa using h2) ⟨.str ⟨#[c]⟩, H, I.tok _, ⟨_, rfl⟩, q⟩) hs
theorem slice_bounds (lo hi : Option Int) (n : Nat) : (sliceBounds lo hi none n).1 = ((HT.sIx n 0 lo : Nat) : Int) ∧ (sliceBounds lo hi none n).2.1 = ((HT.sIx n n hi : Nat) : Int) ∧ (sliceBounds lo hi none n).2.2 = 1 := by
  refine ⟨?_, ?_, rfl⟩
  · cases lo with
    | none => simp [sliceBounds, HT.sIx]
    | some i =>
      simp only [sliceBounds, HT.sIx, Option.getD_none, show (1 : Int) > 0 by decide, if_true]
      by_cases h : i < 0
      · simp only [h, if_true] <;> omega
      · simp only [h, if_false] <;> omega
  · cases hi with
    | none => simp [sliceBounds, HT.sIx]
    | some i =>
      simp only [sliceBounds, HT.sIx, Option.getD_none, show (1 : Int) > 0 by decide, if_true]
      by_cases h : i < 0
      · simp only [h, if_true] <;> omega
      · simp only [h, if_false] <;> omega
theorem slicePick_cut (its : List Value) (lo hi : Option Int) : slicePick its.toArray lo hi none = ((its.drop (HT.sIx its.length 0 lo)).take (HT.sIx its.length its.length hi - HT.sIx its.length 0 lo)).toArray := by
  obtain ⟨h1, h2, h3⟩ := slice_bounds lo hi its.toArray.size
  unfold slicePick
  rw [h1, h2, h3]
  simp only [sliceRange_one, pick_run, List.size_toArray] <;> rfl
def rSlL (K : PySem.W.Frag) : V → Option Int → Option Int → Hp → VK → Prop := fun x lo hi H Q => ∃ a xs, x = .ref a ∧ SqL K H a xs ∧ ∀ p, H p = none → Q (.ref p) (upd H p (.lst (cutV xs lo hi)))
theorem sl_list : SlR X (rSlL X.K) := by
  intro pins s σ H x v vl vu lo hi sl Q I rx hs pl pu h
  obtain ⟨a, xs, rfl, hx, q⟩ := h
  cases rx
  obtain ⟨its, r, ht, hz⟩ := I.list hx
  have hlen := r.length
  refine ⟨"list", _, slot_list_getitem.lookup, ht.isList.typeIs, ?_⟩
  refine wpAny_getItem_list_slice ht.isList hs pl pu .none (by simp) ?_ (by rw [List.size_toArray] <;> omega)
  rw [slicePick_cut, ← hlen]
  refine ⟨.ref s.heap.objs.size, _, I.laid (t' := s.toks) (o := .lst (cutV xs lo hi)) (fun b ob q => Heap.get?_push_of_some _ q) (Nat.le_refl _) ?_, rfl, q _ (I.hok.fresh (Nat.le_refl _))⟩
  exact ⟨Nat.le_trans (cutV_length xs lo hi) hz, _, 0, (r.drop (HT.sIx xs.length 0 lo)).take (HT.sIx xs.length xs.length hi - HT.sIx xs.length 0 lo), Heap.get?_push_size _ rfl⟩

def flatV : V → Bool
  | .non => true
  | .bl _ => true
  | .int _ => true
  | .str _ => true
  | _ => false
def eqV : V → V → Bool
  | .non, .non => true
  | .bl a, .bl b => a == b
  | .bl a, .int b => (if a then 1 else 0) == b
  | .int a, .bl b => a == (if b then 1 else 0)
  | .int a, .int b => a == b
  | .str a, .str b => a == b
  | _, _ => false
theorem eqAt_V {A : Around} {s : Shared} {y x : V} {u v : Value} (ry : RelV y u) (rx : RelV x v) (fy : flatV y = true) (fx : flatV x = true) : SeqAt.EqAt A s u v (eqV y x) := by
  cases y with
  | non =>
    cases ry
    cases x with
    | non => cases rx; exact SeqAt.EqAt.same _
    | bl b => cases rx; exact SeqAt.EqAt.none_bool b
    | int b => obtain ⟨t, rfl⟩ := rx; exact SeqAt.EqAt.none_int b t
    | str b => obtain ⟨t, rfl⟩ := rx; exact SeqAt.EqAt.none_str b t
    | _ => exact absurd (show false = true from fx) Bool.false_ne_true
  | bl a =>
    cases ry
    cases x with
    | non => cases rx; exact SeqAt.EqAt.bool_none a
    | bl b => cases rx; exact SeqAt.EqAt.bool_bool a b
    | int b => obtain ⟨t, rfl⟩ := rx; exact SeqAt.EqAt.bool_int a b t
    | str b => obtain ⟨t, rfl⟩ := rx; exact SeqAt.EqAt.bool_str a b t
    | _ => exact absurd (show false = true from fx) Bool.false_ne_true
  | int a =>
    obtain ⟨t', rfl⟩ := ry
    cases x with
    | non => cases rx; exact SeqAt.EqAt.int_none a t'
    | bl b => cases rx; exact SeqAt.EqAt.int_bool a t' b
    | int b => obtain ⟨t, rfl⟩ := rx; exact SeqAt.EqAt.int_int a t' b t
    | str b => obtain ⟨t, rfl⟩ := rx; exact SeqAt.EqAt.int_str a t' b t
    | _ => exact absurd (show false = true from fx) Bool.false_ne_true
  | str a =>
    obtain ⟨t', rfl⟩ := ry
    cases x with
    | non => cases rx; exact SeqAt.EqAt.str_none a t'
    | bl b => cases rx; exact SeqAt.EqAt.str_bool a t' b
    | int b => obtain ⟨t, rfl⟩ := rx; exact SeqAt.EqAt.str_int a t' b t
    | str b => obtain ⟨t, rfl⟩ := rx; exact SeqAt.EqAt.str_str a t' b t
    | _ => exact absurd (show false = true from fx) Bool.false_ne_true
  | _ => exact absurd (show false = true from fy) Bool.false_ne_true
def eqU (x : V) (u : Value) : Bool := match u with
  | .none => eqV .non x
  | .bool b => eqV (.bl b) x
  | .int i _ => eqV (.int i) x
  | .str z _ => eqV (.str z) x
  | _ => false
theorem eqU_of {x y : V} {u : Value} (r : RelV y u) (f : flatV y = true) : eqU x u = eqV y x := by
  cases y with
  | non => cases r; rfl
  | bl b => cases r; rfl
  | int i => obtain ⟨t, rfl⟩ := r; rfl
  | str z => obtain ⟨t, rfl⟩ := r; rfl
  | _ => exact absurd (show false = true from f) Bool.false_ne_true
theorem any_eqU {x : V} : ∀ {xs : List V} {us : List Value}, Vals xs us → xs.all flatV = true → us.any (eqU x) = xs.any fun y => eqV y x
  | _, _, .nil, _ => rfl
  | y :: xs, u :: us, .cons r t, f => by
    rw [List.all_cons, Bool.and_eq_true] at f
    rw [List.any_cons, List.any_cons, eqU_of r f.1, any_eqU t f.2]
theorem mem_eqAt {A : Around} {s : Shared} {x : V} {v : Value} (rx : RelV x v) (fx : flatV x = true) : ∀ {xs : List V} {us : List Value}, Vals xs us → xs.all flatV = true → ∀ u ∈ us, SeqAt.EqAt A s u v (eqU x u)
  | _, _, .nil, _ => fun u hu => by cases hu
  | y :: xs, u :: us, .cons r t, f => fun u' hu => by
    rw [List.all_cons, Bool.and_eq_true] at f
    rcases List.mem_cons.mp hu with rfl | hu
    · rw [eqU_of r f.1]; exact eqAt_V r rx f.1 fx
    · exact mem_eqAt rx fx t f.2 u' hu
def inV (x : V) (xs : List V) : Bool := xs.any fun y => eqV y x
def rIn (K : PySem.W.Frag) (neg : Bool) : R2 := fun x y H Q => ∃ p xs, y = .ref p ∧ (SqL K H p xs ∨ SqT K H p xs) ∧ flatV x = true ∧ xs.all flatV = true ∧ Q (.bl (if neg then !inV x xs else inV x xs)) H
theorem op_notIn_seq : OpR X (compareOp .NotIn) (rIn X.K true) := by
  intro pins s σ H x y v u Q I rx ry h
  obtain ⟨p, xs, rfl, hq, fx, fs, q⟩ := h
  cases ry
  rcases hq with hq | hq
  · obtain ⟨its, r, pl, hz⟩ := I.list hq
    refine SeqAt.notIn_listAt (eqU x) pl.isList (fun w hw => mem_eqAt rx fx r fs w (by simpa using hw)) ⟨.bl _, H, I, rfl, ?_⟩
    rw [show its.toArray.any (eqU x) = its.any (eqU x) by simp, any_eqU r fs]
    exact q
  · obtain ⟨its, r, pl, hz⟩ := I.tuple hq
    refine SeqAt.notIn_tupleAt (eqU x) pl (fun w hw => mem_eqAt rx fx r fs w (by simpa using hw)) ⟨.bl _, H, I, rfl, ?_⟩
    rw [show its.toArray.any (eqU x) = its.any (eqU x) by simp, any_eqU r fs]
    exact q
theorem call_len_seq : CallR X (.builtin "len") (fun xs H Q => ∃ p ys, xs = [.ref p] ∧ (SqL X.K H p ys ∨ SqT X.K H p ys) ∧ Q (.int ys.length) H) := by
  intro pins s σ H xs us Q I r h
  obtain ⟨p, ys, rfl, hq, q⟩ := h
  obtain ⟨u, rfl, rx⟩ := vals1 r
  cases rx
  have hn := line63
  rcases hq with hq | hq
  · obtain ⟨its, r', pl, hz⟩ := I.list hq
    have hlen := r'.length
    exact Calls.call_len_list pl.isList (by simp only [List.size_toArray] <;> omega) ⟨.int ys.length, H, I.tok _, ⟨s.toks + 1, by rw [List.size_toArray, hlen]⟩, q⟩
  · obtain ⟨its, r', pl, hz⟩ := I.tuple hq
    have hlen := r'.length
    exact len_tuple pl (by simp only [List.size_toArray] <;> omega) ⟨.int ys.length, H, I.tok _, ⟨s.toks + 1, by rw [List.size_toArray, hlen]⟩, q⟩
theorem call_len_str : CallR X (.builtin "len") (fun xs H Q => ∃ z, xs = [.str z] ∧ z.length ≤ sizeLine ∧ Q (.int z.length) H) := by
  intro pins s σ H xs us Q I r h
  obtain ⟨z, rfl, hz, q⟩ := h
  obtain ⟨u, rfl, t, rfl⟩ := vals1 r
  have hn := line63
  exact len_str (by omega) ⟨.int z.length, H, I.tok _, ⟨_, rfl⟩, q⟩
def tyV (K : PySem.W.Frag) (T : String) (x : V) (H : Hp) : Prop := match x with
  | .str _ => T = "str"
  | .int _ => T = "int"
  | .ref p => (T = "list" ∧ ∃ xs, SqL K H p xs) ∨ (T = "tuple" ∧ ∃ o, K.lookup p = some o ∧ o.cls = .type "tuple" ∧ o.dict = none) ∨
      (T = "dict" ∧ ((∃ kvs, H p = some (.dK kvs)) ∨ ∃ kvs, H p = some (.dT kvs))) ∨ (T = "set" ∧ ∃ S n, H p = some (.set S n))
  | _ => False
theorem tyV_is {pins : List (Addr × Obj)} {σ : St} {H : Hp} {s : Shared} {T : String} {x : V} {v : Value} (I : Inv X pins σ H s) (r : RelV x v) (ty : tyV X.K T x H) :
    s.TypeIs v T ∧ ∀ a, v = .ref a → ∃ ob, s.heap.get? a = some ob ∧ ob.dict = none := by
  cases x with
  | str z =>
    obtain ⟨t, rfl⟩ := r
    cases (show T = "str" from ty)
    exact ⟨typeIs_str s z t, fun _ e => nomatch e⟩
  | int i =>
    obtain ⟨t, rfl⟩ := r
    cases (show T = "int" from ty)
    exact ⟨typeIs_int s i t, fun _ e => nomatch e⟩
  | ref p =>
    cases r
    rcases ty with ⟨rfl, xs, hq⟩ | ⟨rfl, o, hk, hc, hd⟩ | ⟨rfl, hk⟩ | ⟨rfl, S, n, hk⟩
    · obtain ⟨its, _, pl, _⟩ := I.list hq
      refine ⟨pl.isList.typeIs, fun a e => ?_⟩
      cases e
      obtain ⟨o, n, e, c, hd, _⟩ := pl
      exact ⟨o, e, hd⟩
    · refine ⟨⟨o, I.kIn p o hk, hc⟩, fun a e => ?_⟩
      cases e
      exact ⟨o, I.kIn _ o hk, hd⟩
    · have z : ∃ o, s.heap.get? p = some o ∧ o.ExactDict := by
        rcases hk with ⟨kvs, hk⟩ | ⟨kvs, hk⟩
        · obtain ⟨_, _, _, _, o, _, _, e, ex, _⟩ := I.hok p _ hk
          exact ⟨o, e, ex⟩
        · obtain ⟨_, _, _, _, o, _, _, e, ex, _⟩ := I.hok p _ hk
          exact ⟨o, e, ex⟩
      obtain ⟨o, e, ex⟩ := z
      refine ⟨⟨o, e, ex.1⟩, fun a e2 => ?_⟩
      cases e2
      exact ⟨o, e, ex.2.1⟩
    · obtain ⟨o, _, _, _, e, ex, _⟩ := I.hok p _ hk
      refine ⟨⟨o, e, ex.1⟩, fun a e2 => ?_⟩
      cases e2
      exact ⟨o, e, ex.2.1⟩
  | _ => exact False.elim ty
def tBM0 (K : PySem.W.Frag) (T : String) (r : V → List V → Hp → VK → Prop) (to : TE) : TE := fun σ H Q => to σ H fun x H1 => tyV K T x H1 ∧ r x [] H1 Q
def tBM (K : PySem.W.Frag) (T : String) (r : V → List V → Hp → VK → Prop) (to : TE) (t : TA) : TE := fun σ H Q => to σ H fun x H1 => tyV K T x H1 ∧ t σ H1 fun xs H2 => r x xs H2 Q
variable {o e : Expr} {es : List Expr} {to : TE} {t : TA} {name : Str} {apos cpos : Pos} {T id : String} {r : V → List V → Hp → VK → Prop}
theorem pe_bm0 (pa : PlainAttrs T) (slot : Slot T name id) (hty : typeOf (.builtin id) = pure (.type "method_descriptor")) (hm : MtR X id r) (ho : PE X o to)
    (hbase : attributeBase o name X.env (eval o X.env) = eval o X.env := by rfl) (hline : (apos.endLine == cpos.line) = true := by rfl) : PE X (.Call (.Attribute o name apos) [] [] cpos) (tBM0 X.K T r to) := by
  intro pins s σ H Q I h
  refine wpAny_Call_method0_late hbase hline (thn (ho pins s σ H _ I h) fun v s1 ⟨x, H1, I1, r1, ty, q1⟩ => ?_)
  obtain ⟨h1, h2⟩ := tyV_is I1 r1 ty
  exact ⟨T, id, pa, slot, hty, h1, h2, Calls.callWith_builtin rfl (PySem.evalArgs_none (hm pins s1 σ H1 x [] v [] Q I1 r1 .nil q1))⟩
theorem pe_bm (pa : PlainAttrs T) (slot : Slot T name id) (hty : typeOf (.builtin id) = pure (.type "method_descriptor")) (hm : MtR X id r) (ho : PE X o to) (ha : PA X (e :: es) t)
    (hbase : attributeBase o name X.env (eval o X.env) = eval o X.env := by rfl)
    (hfew : ((backTo cpos (starEach (e :: es) X.env)).all (fun x => !x.1) && (backToKw cpos (keywordEach [] X.env)).all (fun x => x.1.isSome)
      && decide ((e :: es).length + ([] : List Keyword).length + (if ([] : List Keyword).isEmpty then 0 else 1) < 30)) = true := by rfl)
    (hline : (apos.endLine == cpos.line) = true := by rfl) (hs : starEach (e :: es) X.env = (false, eval e X.env) :: starEach es X.env := by rfl) (hplain : (backTo cpos (starEach es X.env)).any (·.1) = false := by rfl) :
    PE X (.Call (.Attribute o name apos) (e :: es) [] cpos) (tBM X.K T r to t) := by
  intro pins s σ H Q I h
  refine wpAny_Call_method_late hbase hfew hline rfl (thn (ho pins s σ H _ I h) fun v s1 ⟨x, H1, I1, r1, ty, q1⟩ => ?_)
  obtain ⟨h1, h2⟩ := tyV_is I1 r1 ty
  refine ⟨T, id, pa, slot, hty, h1, h2, ?_⟩
  have hA := ha cpos pins s1 σ H1 _ I1 q1
  rw [hs] at hA ⊢
  refine Calls.callWith_builtin (by show (false || (backTo cpos (starEach es X.env)).any (·.1)) = false; rw [hplain] <;> rfl) (Calls.evalArgs_plain ?_)
  exact thn hA fun us s2 ⟨vs, H2, I2, r2, q2⟩ => hm pins s2 σ H2 x vs v us Q I2 r1 r2 q2
end
end L2

namespace L2
open PySem PySem.Spec PyProof.Rows

def MtM (X : Cx) (id : String) (r : V → List V → Hp → VK → Prop) : Prop :=
  ∀ (pins : List (Addr × Obj)) (s : Shared) (σ : St) (H : Hp) (x : V) (xs : List V) (v : Value) (us : List Value) (Q : VK), Inv X pins σ H s → RelV x v → Vals xs us → r x xs H Q →
    wpAny (model X.prog X.w) X.A (call (.builtin id) (v :: us)) (EP X pins σ Q) X.xe s

theorem Vals.one : ∀ {x : V} {us : List Value}, Vals [x] us → ∃ u, us = [u] ∧ RelV x u
  | _, _, .cons r .nil => ⟨_, rfl, r⟩
theorem Vals.zero : ∀ {us : List Value}, Vals [] us → us = []
  | _, .nil => rfl
theorem Vals.eraseIdx : ∀ {xs : List V} {us : List Value} (i : Nat), Vals xs us → Vals (xs.eraseIdx i) (us.eraseIdx i)
  | _, _, _, .nil => .nil
  | _, _, 0, .cons _ t => t
  | _, _, i + 1, .cons r t => .cons r (Vals.eraseIdx i t)
theorem len_erase {α : Type} : ∀ (l : List α) (i : Nat), (l.eraseIdx i).length ≤ l.length
  | [], _ => Nat.le_refl _
  | _ :: _, 0 => Nat.le_succ _
  | _ :: r, i + 1 => Nat.succ_le_succ (len_erase r i)
section
variable {X : Cx} {pins : List (Addr × Obj)} {σ : St} {H : Hp} {s : Shared} {l b : Addr} {xs ys zs : List V}

theorem Inv.lset {its its' : List Value} {n : Nat} {f : Array Value → Array Value} {t' : Nat} (I : Inv X pins σ H s) (hH : H l = some (.lst xs))
    (e : s.heap.get? l = some { cls := .type "list", data := .seq its.toArray n }) (hf : f its.toArray = its'.toArray) (hv : Vals ys its') (hz : ys.length ≤ sizeLine) :
    Inv X pins σ (upd H l (.lst ys)) { s with heap := s.heap.update l (Obj.mapSeq f), toks := t' } := by
  have q := PySem.IsL.update e f
  rw [hf] at q
  refine I.write (x := l) (e := l) (by rw [hH]; exact trivial) (.inl rfl) (fun b' u hb hu => (Heap.get?_update_other s.heap (Obj.mapSeq f) (Ne.symm hb)).trans hu) ⟨_, q⟩ ?_
  exact ⟨hz, its', _, hv, q⟩
theorem Inv.lnew {its : List Value} {t' : Nat} (I : Inv X pins σ H s) (hv : Vals ys its) (hz : ys.length ≤ sizeLine) :
    Inv X pins σ (upd H s.heap.objs.size (.lst ys)) { s with heap := s.heap.push { cls := .type "list", data := .seq its.toArray }, toks := t' } :=
  I.laid (fun _ _ q => Heap.get?_push_of_some _ q) (Nat.le_refl _) ⟨hz, its, 0, hv, Heap.get?_push_size _ rfl⟩
theorem Inv.fresh (I : Inv X pins σ H s) : H s.heap.objs.size = none := I.hok.fresh (Nat.le_refl _)
theorem Inv.lstM (I : Inv X pins σ H s) (hH : H l = some (.lst xs)) : xs.length ≤ sizeLine ∧ ∃ (its : List Value) (n : Nat), Vals xs its ∧ xs.length = its.length ∧ s.heap.get? l = some { cls := .type "list", data := .seq its.toArray n } := by
  obtain ⟨z, its, n, r, e⟩ := I.hok l _ hH
  exact ⟨z, its, n, r, r.length, e⟩

end

section
variable {X : Cx}

def rAppend : V → List V → Hp → VK → Prop := fun x vs H Q => ∃ l xs y, x = .ref l ∧ vs = [y] ∧ H l = some (.lst xs) ∧ xs.length < sizeLine ∧ Q .non (upd H l (.lst (xs ++ [y])))
theorem mt_append : MtM X "list.append" rAppend := by
  intro pins s σ H x vs v us Q I rx rv h
  obtain ⟨l, xs, y, rfl, rfl, hH, hz, q⟩ := h
  cases rx
  obtain ⟨u, rfl, ru⟩ := rv.one
  obtain ⟨z, its, n, r, hl, e⟩ := I.lstM hH
  refine call_meets F.slot_list_append ⟨_, e, rfl⟩ F.entry_list_append (F.args_list_append_2 _ _) (PySem.list_append l its.toArray n u (by rw [List.size_toArray]; omega)) ⟨e, ?_⟩
  refine ⟨.non, _, I.lset (its' := its ++ [u]) hH e (by simp) (r.append (.cons ru .nil)) ?_, rfl, q⟩
  rw [List.length_append, List.length_singleton]
  omega

def rPopAt : V → List V → Hp → VK → Prop := fun x vs H Q => ∃ l xs i k y, x = .ref l ∧ vs = [.int i] ∧ H l = some (.lst xs) ∧ -(2 ^ 63) ≤ i ∧ i < 2 ^ 63 ∧ seqIndex? i xs.length = some k ∧ xs[k]? = some y ∧ Q y (upd H l (.lst (xs.eraseIdx k)))
theorem mt_popAt : MtM X "list.pop" rPopAt := by
  intro pins s σ H x vs v us Q I rx rv h
  obtain ⟨l, xs, i, k, y, rfl, rfl, hH, h1, h2, hk, hy, q⟩ := h
  cases rx
  obtain ⟨u, rfl, ru⟩ := rv.one
  obtain ⟨t, rfl⟩ := ru
  obtain ⟨z, its, n, r, hl, e⟩ := I.lstM hH
  obtain ⟨w, hw, rw'⟩ := r.get hy
  refine call_meets F.slot_list_pop ⟨_, e, rfl⟩ F.entry_list_pop (F.args_list_pop_2 _ _)
    (MeetsSeq.list_pop_at l its.toArray n i t k w (fitsIndex_both h1 h2) (by rw [List.size_toArray, ← hl]; exact hk) (by rw [← Array.getElem?_toList]; exact hw) (by rw [List.size_toArray]; omega)) ⟨e, ?_⟩
  refine ⟨y, _, I.lset (its' := its.eraseIdx k) hH e ?_ (r.eraseIdx k) ?_, rw', q⟩
  · show its.toArray.eraseIdxIfInBounds k = (its.eraseIdx k).toArray
    rw [List.eraseIdxIfInBounds_toArray]
  · have := len_erase xs k
    omega

def rCat : R2 := fun x y H Q => ∃ l b xs zs, x = .ref l ∧ y = .ref b ∧ H l = some (.lst xs) ∧ H b = some (.lst zs) ∧ xs.length + zs.length ≤ sizeLine ∧ ∀ p, H p = none → Q (.ref p) (upd H p (.lst (xs ++ zs)))
theorem op_cat : OpR X (binaryOp .Add) rCat := by
  intro pins s σ H x y v u Q I rx ry h
  obtain ⟨l, b, xs, zs, rfl, rfl, hH, hB, hz, q⟩ := h
  cases rx
  cases ry
  obtain ⟨z, its, n, r, hl, e⟩ := I.lstM hH
  obtain ⟨z2, its2, n2, r2, hl2, e2⟩ := I.lstM hB
  refine PySem.P.add_list e e2 ?_ (by rw [List.size_toArray, List.size_toArray]; omega)
  have ea : its.toArray ++ its2.toArray = (its ++ its2).toArray := by simp
  rw [ea]
  exact ⟨.ref _, _, I.lnew (t' := s.toks) (r.append r2) (by rw [List.length_append]; omega), rfl, q _ I.fresh⟩
end

section
variable {prog : Program} {w : World} {A : Around} {E : Value → Shared → Prop} {s : Shared}
end

section
variable {X : Cx}
end
end L2

namespace L2
open PySem PySem.Spec PyProof.Rows

section
variable {κ : Type} [DecidableEq κ]
end


section
variable {P : Program} {w : World} {H : Hp} {h : Heap} {a : Addr}
end

section
variable {X : Cx} {pins : List (Addr × Obj)} {σ : St} {H : Hp} {s : Shared} {a : Addr} {y v : V} {u r : Value} {o : Option V} {A : Around} {E : Value → Shared → Prop}

end

section
variable {X : Cx} {pins : List (Addr × Obj)} {σ : St} {H : Hp} {s : Shared} {a : Addr} {kvs : List (Key × V)} {k : Key} {u : Value} {A : Around} {E : Value → Shared → Prop}
end


section
variable {X : Cx} {o i e value : Expr} {pos pos' tpos : Pos} {td ty tv : TE}
end


section
variable {X : Cx} {pos : Pos}
end

structure M1 (X : Cx) (o : Expr) (m : Str) (apos : Pos) (e : Expr) (cpos : Pos) : Prop where
  base : attributeBase o m X.env (eval o X.env) = eval o X.env
  few : ((backTo cpos (starEach [e] X.env)).all (fun x => !x.1) && (backToKw cpos (keywordEach [] X.env)).all (fun x => x.1.isSome)
    && decide (([e] : List Expr).length + ([] : List Keyword).length + (if ([] : List Keyword).isEmpty then 0 else 1) < 30)) = true
  line : (apos.endLine == cpos.line) = true
  trees : backTo cpos (starEach [e] X.env) = [(false, eval e X.env)]
structure M2 (X : Cx) (o : Expr) (m : Str) (apos : Pos) (e f : Expr) (cpos : Pos) : Prop where
  base : attributeBase o m X.env (eval o X.env) = eval o X.env
  few : ((backTo cpos (starEach [e, f] X.env)).all (fun x => !x.1) && (backToKw cpos (keywordEach [] X.env)).all (fun x => x.1.isSome)
    && decide (([e, f] : List Expr).length + ([] : List Keyword).length + (if ([] : List Keyword).isEmpty then 0 else 1) < 30)) = true
  line : (apos.endLine == cpos.line) = true
  trees : backTo cpos (starEach [e, f] X.env) = [(false, eval e X.env), (false, eval f X.env)]

section
variable {X : Cx} {pins : List (Addr × Obj)} {σ : St} {H : Hp} {s : Shared} {a : Addr} {y d : V} {u r : Value} {o : Option V} {A : Around} {E : Value → Shared → Prop}
end

section
variable {X : Cx} {o e f : Expr} {apos cpos : Pos} {td ty tx : TE}
end

section
variable {X : Cx} {pins : List (Addr × Obj)} {σ : St} {H : Hp} {s : Shared} {a : Addr} {kvs : List (Key × V)} {A : Around} {E : Value → Shared → Prop}
end


section
variable {X : Cx} {pins : List (Addr × Obj)} {σ : St} {H : Hp} {s : Shared} {a : Addr} {y : V} {u : Value} {A : Around} {E : Value → Shared → Prop}
end
end L2


namespace Att
open PySem PySem.W PySem.Calls PyProof.Rows

theorem ints_of_wellAll {P : Params} {h : Heap} : ∀ (ns : List Int) (vs : List Value), WellAll P h vs (ns.map WData.int) → IntsAre vs ns := by
  intro ns
  induction ns with
  | nil =>
    intro vs w
    rw [List.map_nil] at w
    cases w
    exact .nil
  | cons n ns ih =>
    intro vs w
    rw [List.map_cons] at w
    cases w with
    | cons a b =>
      cases a
      exact .cons _ _ (ih _ b)

theorem script_of {l : OpenLaw} {n : Nat} (hn : l.most = some n) {P : Params} {h : Heap} {args : List WData} {vals : List Value}
    (hpre : l.row.toRowW.claim.pre args = true) (hwl : WellAll P h vals args) :
    ∃ a vs ns, vals = [Value.ref a] ∧ args = [WData.list (ns.map WData.int)] ∧ h.get? a = some { cls := .type "list", data := .seq vs.toArray } ∧ IntsAre vs ns ∧ ns.length ≤ n := by
  have hsh : WShape.hasAll [] args [.list .int] = true := (pre_splitW hpre).1
  have hc : l.pre.holds [] { args := args } = true := (pre_splitW hpre).2
  obtain ⟨d, r, rfl, h1, h2⟩ := hasAllW_cons hsh
  obtain rfl := hasAllW_nil h2
  obtain ⟨xs, rfl, h3⟩ := hasW_list h1
  obtain ⟨ns, rfl⟩ := items_int h3
  have hlen : ns.length ≤ n := by
    unfold OpenLaw.pre at hc
    have h4 : (WTm.not (.lt (.lit (.int (n : Int))) (.len (.arg 0)))).holds [] { args := [.list (ns.map .int)] } = true := by
      have h4 := (holds_andW hc).1
      rw [hn] at h4
      exact h4
    have h5 := condW_of h4 (w_not (w_lt w_lit (w_len_list (w_arg rfl))))
    rw [List.length_map] at h5
    refine Nat.le_of_not_lt fun q => ?_
    have q' : (n : Int) < ((ns.length : Nat) : Int) := by omega
    first
      | (rw [decide_eq_true q'] at h5; exact absurd h5 (by decide))
      | (simp at h5; omega)
  cases hwl with
  | cons w1 w2 =>
    cases w2
    cases w1 with
    | list ho hall => exact ⟨_, _, ns, rfl, rfl, ho, ints_of_wellAll ns _ hall, hlen⟩

theorem post_true (l : OpenLaw) (args : List WData) : l.row.toRowW.claim.post args (.bool true) args = true :=
  postW_of (r := l.row.toRowW) (X := (true == true))
    (show WShape.has [] (.bool true) .bool = true by first | rfl | decide | simp [WShape.has, WShape.arms, WShape.armsAll])
    (show (WTm.eq .res (.lit (.bool true))).value [] { args := args, res := some (.bool true), after := args } = some (.bool (true == true)) from w_eq_bool (w_res rfl) w_lit) rfl

theorem attach_call {l : OpenLaw} {n : Nat} {q : Program} {loose : List Str} {XP : (Str → Option Value) → Heap → Prop} {YP : World → Heap → Prop} {d : DefRec}
    (hn : l.most = some n) (hdf : d.params.defaults = [])
    (call : ∀ (w : World) (s₀ s₁ : Shared) (mg mb : Str → Option Value) (fa : Addr) (o : Obj) (pm cd doc : Value) (a : Addr) (vs : List Value) (ns : List Int),
      Ground q loose [] XP w s₀ mg mb s₁.heap → YP w s₁.heap →
      s₁.heap.get? fa = some o → o.data = .func (docDef d.name d.params d.body d.scope pm cd doc) → s₁.heap.CodeRec cd d.name → mg d.name = some (.ref fa) →
      s₁.heap.get? a = some { cls := .type "list", data := .seq vs.toArray } → IntsAre vs ns → ns.length ≤ n → s₁.gens = #[] →
      codeAny (model l.prog w) callerA (.call (.ref fa) ⟨[.ref a], []⟩) (fun r s' => r = .ok (.ret (.bool true)) ∧ OldK s₁.heap s'.heap ∧ s'.os = s₁.os ∧ AllBare s'.gens) s₁) :
    WalkO q loose XP YP l.row.toRowW d [] (fun f vs => PySem.call f vs) := by
  intro w s₀ s₁ mg mb G Y fa o pm cd doc dV kV ho hd hcd hD hmg hg args vals as hpre hlay hrd hwl hlo
  obtain rfl : dV = .none := Dflts.none hD hdf
  obtain rfl : kV = .none := Dflts.noKw hD
  obtain ⟨a, vs, ns, rfl, rfl, hobj, hints, hlen⟩ := script_of hn hpre hwl
  refine enter_call (codeAny_mono (call w s₀ s₁ mg mb fa o pm cd doc a vs ns G Y ho (fd_plain hd) hcd hmg hobj hints hlen hg) fun r s' hq => ?_)
  obtain ⟨rfl, h2, h3, h4⟩ := hq
  exact ⟨.inl ⟨.bool true, .bool true, [], rfl, fun _ => rfl, .bool true, post_true l _, fun _ => ⟨List.Pairwise.nil, fun _ hm => (nomatch hm)⟩⟩, h2, h3, h4⟩

section
variable {prog : Program} {w : World} {A : Around} {E : Value → Shared → Prop} {s : Shared} {K : Frag}

end
end Att

namespace L2
open PySem PySem.Spec PyProof.Rows

theorem vals_ints : ∀ {vs : List Value} {ns : List Int}, IntsAre vs ns → Vals (ns.map V.int) vs
  | _, _, .nil => .nil
  | _, _, .cons n t h => .cons ⟨t, rfl⟩ (vals_ints h)

def Only (H : Hp) : Prop := ∀ b, H b = none ∨ ∃ o xs, H b = some (.frz o (.lst xs))

theorem law_call {P : Program} {w : World} {K : PySem.W.Frag} {mg mb : Str → Option Value} {CX : CXT} {k : Nat} {fa a : Addr} {fd : FuncData} {x : Str} {sp : Sp} {s₁ : Shared} {vs : List Value} {ns : List Int}
    (KX : K.In s₁.heap) (hns : s₁.heap.Ns mainGlobals mg) (hb : s₁.heap.Ns builtinsNs mb) (hbb : ∀ x : Str, x ≠ "__name__" → mb x = bootBuiltins x) (hlim : s₁.heap.NoLimit) (hg : s₁.gens = #[])
    (ha : s₁.heap.get? a = some { cls := .type "list", data := .seq vs.toArray }) (hi : IntsAre vs ns) (hl : ns.length ≤ sizeLine) (hr : Room k callerA)
    (F : ∀ base : Heap, K.In base → base.Ns mainGlobals mg → FnOk P w K mg base CX k fa fd [x] sp) (hbind : ∀ (s : Shared) (u : Value), BindsTo s fd ⟨[u], []⟩ [(x, u)])
    (hsp : ∀ H : Hp, Only H → SqL K H a (ns.map V.int) → sp [.ref a] H (fun v _ => v = .bl true) fun _ _ _ => False)
    (hCX : ∀ H e s', CX [] H s₁ (fun _ _ _ => False) e s' → False) :
    codeAny (model P w) callerA (.call (.ref fa) ⟨[.ref a], []⟩) (fun r s' => r = .ok (.ret (.bool true)) ∧ OldK s₁.heap s'.heap ∧ s'.os = s₁.os ∧ AllBare s'.gens) s₁ := by
  have rv := vals_ints hi
  have lenV := hi.length
  -- from an abstract heap in which nothing but the script may be tracked
  have core : ∀ H : Hp, Only H → SqL K H a (ns.map V.int) → HOk P w H s₁.heap → (∀ b, H b ≠ none → b = a) → (H a ≠ none → K.lookup a = none) →
      codeAny (model P w) callerA (.call (.ref fa) ⟨[.ref a], []⟩) (fun r s' => r = .ok (.ret (.bool true)) ∧ OldK s₁.heap s'.heap ∧ s'.os = s₁.os ∧ AllBare s'.gens) s₁ := by
    intro H hO hS hok hA hK
    have base_of : ∀ {b : Addr} {o : Obj}, s₁.heap.get? b = some o → H b = none → (hidT s₁.heap H).get? b = some o := fun e n => hidT_get e n
    have noA : ∀ {b : Addr} {o : Obj} {es : Array DictEntry} {ep : Nat}, s₁.heap.get? b = some o → o.data = .dict es ep → H b = none := fun {b o es ep} e d => by
      cases q : H b with
      | none => rfl
      | some u =>
        have e' : b = a := hA b (by rw [q]; simp)
        subst e'
        rw [ha] at e; cases e
        have d' : Data.seq vs.toArray _ = Data.dict es ep := d
        cases d'
    have nsK : ∀ {b : Addr} {m : Str → Option Value}, s₁.heap.Ns b m → (hidT s₁.heap H).Ns b m := fun {b m} ⟨o, es, ep, e, d, r⟩ => ⟨o, es, ep, base_of e (noA e d), d, r⟩
    have hKb : K.In (hidT s₁.heap H) := fun b o e => base_of (KX b o e) (by
      cases q : H b with
      | none => rfl
      | some u =>
        have e' : b = a := hA b (by rw [q]; simp)
        subst e'
        rw [hK (by rw [q]; simp)] at e; cases e)
    have hM : Mod K mg (hidT s₁.heap H) := ⟨hKb, nsK hns, ⟨mb, nsK hb, hbb⟩, let ⟨mc, h1, h2⟩ := hlim; ⟨mc, nsK h1, h2⟩⟩
    have e0 : Env0 P w K mg (hidT s₁.heap H) callerA [] s₁ H := ⟨rfl, hM, fun b o e => of_hidT e, Nat.le_of_eq (hidT_size _ _), trivial, fun b hb => absurd (show b ∈ ([] : List Addr) from hb) (by simp), hok, .of_eq hg⟩
    refine codeAny_mono ((F _ hKb (nsK hns)).run callerA [] s₁ H ⟨[.ref a], []⟩ [.ref a] [.ref a] _ _ hr e0 (hbind s₁ (.ref a)) (.cons rfl .nil) (hsp H hO hS)) fun r s' h => ?_
    cases r with
    | error e => exact (hCX H e s' h).elim
    | ok fl =>
      cases fl with
      | next => exact False.elim h
      | brk => exact False.elim h
      | cont => exact False.elim h
      | ret u =>
        obtain ⟨v, H', os, bare, un, hok', r', q⟩ := h
        have q' : v = .bl true := q
        subst q'
        obtain rfl : u = Value.bool true := r'
        refine ⟨rfl, OldK.of_keep fun b o e => ?_, os, bare⟩
        cases q : H b with
        | none => exact un.keep b o e q (by intro z; exact absurd (show b ∈ ([] : List Addr) from z) (by simp)) (by simp)
        | some u =>
          rcases hO b with z | ⟨ob, xs, z⟩
          · rw [q] at z; cases z
          · have z2 := un.frzs b ob _ z
            obtain ⟨e1, _⟩ := hok b _ z
            obtain ⟨e2, _⟩ := hok' b _ z2
            rw [e] at e1; cases e1
            exact e2
  cases hk : K.lookup a with
  | some o =>
    -- the script is one of the module's own objects
    have e := KX a o hk
    rw [ha] at e
    cases e
    refine core (fun _ => none) (fun _ => .inl rfl) (.inr ⟨_, vs.toArray, _, hk, rfl, rfl, rfl, by rw [List.size_toArray, lenV]; exact hl, by simpa using rv⟩) (fun b u z => by have z' : (none : Option HO) = some u := z; cases z') (fun b z => absurd rfl z) fun z => absurd rfl z
  | none =>
    refine core (fun b => if b = a then some (.frz { cls := .type "list", data := .seq vs.toArray } (.lst (ns.map V.int))) else none) (fun b => ?_) (.inl (.inr ⟨{ cls := .type "list", data := .seq vs.toArray }, if_pos rfl⟩)) (fun b u z => ?_) (fun b z => ?_) fun _ => hk
    · by_cases hb : b = a
      · exact .inr ⟨_, _, if_pos hb⟩
      · exact .inl (if_neg hb)
    · by_cases hb : b = a
      · have z' := (if_pos hb).symm.trans z
        cases z'
        subst hb
        exact ⟨ha, by rw [List.length_map]; exact hl, vs, _, rv, ha⟩
      · have z' := (if_neg hb).symm.trans z
        cases z'
    · by_cases hb : b = a
      · exact hb
      · exact absurd (if_neg hb) z
end L2

namespace L2
open PySem PySem.Spec PyProof.Rows

abbrev KOf {K : PySem.W.Frag} {h : Heap} (_ : K.In h) : PySem.W.Frag := K

theorem walk_of {l : PySem.W.OpenLaw} {n k : Nat} {q : Program} {loose : List Str} {XP : (Str → Option Value) → Heap → Prop} {YP : World → Heap → Prop} {d : DefRec} {K : Params → PySem.W.Frag} {CX : World → CXT} {sp : World → Sp} {x : Str}
    (hn : l.most = some n) (hn2 : n ≤ sizeLine) (hdf : d.params.defaults = []) (hr : Room k callerA)
    (hY : ∀ (w : World) (h : Heap), YP w h → (K w.params).In h)
    (F : ∀ (w : World) (mg : Str → Option Value) (fa : Addr) (h : Heap), (K w.params).In h → h.Ns mainGlobals mg → mg d.name = some (.ref fa) →
      ∃ fd : FuncData, (∀ (s : Shared) (u : Value), BindsTo s fd ⟨[u], []⟩ [(x, u)]) ∧
        ∀ base : Heap, (K w.params).In base → base.Ns mainGlobals mg → FnOk l.prog w (K w.params) mg base (CX w) k fa fd [x] (sp w))
    (hsp : ∀ (w : World) (H : Hp) (a : Addr) (ns : List Int), ns.length ≤ n → Only H → SqL (K w.params) H a (ns.map V.int) → sp w [.ref a] H (fun v _ => v = .bl true) fun _ _ _ => False)
    (hCX : ∀ (w : World) (H : Hp) (s : Shared) (e : Value) (s' : Shared), CX w [] H s (fun _ _ _ => False) e s' → False) :
    PySem.W.WalkO q loose XP YP l.row.toRowW d [] (fun f vs => PySem.call f vs) := by
  refine Att.attach_call hn hdf fun w s₀ s₁ mg mb fa o pm cd doc a vs ns G Y ho hd hcd hmg hobj hints hlen hg => ?_
  have KX := hY w _ Y
  obtain ⟨fd, hb, hF⟩ := F w mg fa _ KX G.T.g hmg
  exact law_call KX G.T.g G.T.b G.T.builtins G.T.nolimit hg hobj hints (Nat.le_trans hlen hn2) hr hF hb (fun H hO hS => hsp w H a ns hlen hO hS) fun H e s' => hCX w H s₁ e s'
end L2


namespace L2
open PySem PySem.Spec PyProof.Rows

def inClass (s : Stmt) (j : Nat) : Stmt := match s with
  | .ClassDef _ _ _ body _ _ _ _ _ _ _ => body.getD j (.Pass ⟨0, 0, 0, 0⟩)
  | _ => .Pass ⟨0, 0, 0, 0⟩
def defArgs (s : Stmt) : Arguments := match s with
  | .FunctionDef _ a _ _ _ _ _ _ _ _ => a
  | _ => { posonlyargs := [], args := [], vararg := none, kwonlyargs := [], kw_defaults := [], kwarg := none, defaults := [] }
def defBody (s : Stmt) : List Stmt := match s with
  | .FunctionDef _ _ b _ _ _ _ _ _ _ => b
  | _ => []
def defScope (s : Stmt) : Scope := match s with
  | .FunctionDef _ _ _ _ _ _ sc _ _ _ => sc
  | _ => { kind := .function, names := [], isGenerator := false, isCoroutine := false }

abbrev CX0 : CXT := fun _ _ _ _ _ _ => False
abbrev E0 : XK := fun _ _ _ => False
theorem pass0 {X : Cx} : Passes CX0 X E0 := fun _ _ _ _ _ _ _ h => h.elim

structure Fun (K : PySem.W.Frag) (x qual : Str) (st : Stmt) (f : Addr) (fd : FuncData) : Prop where
  ex : ∃ (oc : Value) (od : Option Addr) (kV doc pm : Value) (an : Option Addr) (cdv ct : Value) (osl : Array (Option Value)),
    fd = PySem.W.fnOf x qual (defArgs st) (defBody st) (defScope st) .none kV doc pm an cdv ct ∧ K.lookup f = some ⟨oc, od, .func fd, osl⟩ ∧ PySem.W.codeIn K cdv qual = true
  kp : PySem.W.keepIn K (.ref f) = true
section
variable {P : Program} {w : World} {K : PySem.W.Frag} {mg : Str → Option Value} {base : Heap}
theorem Fun.ok {x qual : Str} {st : Stmt} {f : Addr} {fd : FuncData} {N ps : List Str} {k : Nat} {sp : Sp} (F : Fun K x qual st f fd) (S : FnScope N ps (defScope st)) (len : ∀ vs H Q E, sp vs H Q E → vs.length = ps.length)
    (hbody : ∀ (cdv : Value) (A : Around) (outer : List Env) (s : Shared) (H : Hp) (vs : List V) (Q : VK) (E : XK), Room k (A.deeper (envOfC qual (defScope st) s.heap.objs.size f cdv)) → sp vs H Q E →
      ∃ t, PSs (cxOf CX0 P w K mg base N qual (defScope st) f cdv A outer s H E).nox (defBody st) t ∧ t { nx := fun _ H' => Q .non H', rt := Q } (start N vs) H) : FnOk P w K mg base CX0 (k + 1) f fd ps sp := by
  obtain ⟨oc, od, kV, doc, pm, an, cdv, ct, osl, rfl, lk, hcd⟩ := F.ex
  refine fn_of lk hcd S len fun A outer s H vs Q E hr hsp => ?_
  obtain ⟨t, h, q⟩ := hbody cdv A outer s H vs Q E hr hsp
  exact ⟨t, h.nox, q⟩
theorem Fun.binds {x qual : Str} {st : Stmt} {f : Addr} {fd : FuncData} {ps : List Str} (F : Fun K x qual st f fd)
    (h : ∀ (kV doc pm : Value) (an : Option Addr) (cdv ct : Value) (us : List Value), us.length = ps.length → bindArgs (PySem.W.fnOf x qual (defArgs st) (defBody st) (defScope st) .none kV doc pm an cdv ct) ⟨us, []⟩ = pure (ps.zip us)) : Binds K fd ps [] := by
  obtain ⟨oc, od, kV, doc, pm, an, cdv, ct, osl, rfl, lk, hcd⟩ := F.ex
  exact .all (h kV doc pm an cdv ct)
theorem fun_mk {x qual : Str} {st : Stmt} {f : Addr} {oc : Value} {od an : Option Addr} {osl : Array (Option Value)} {kV doc pm cdv ct : Value} (l : K.lookup f = some ⟨oc, od, .func (PySem.W.fnOf x qual (defArgs st) (defBody st) (defScope st) .none kV doc pm an cdv ct), osl⟩)
    (c : PySem.W.codeIn K cdv qual = true) (k : PySem.W.keepIn K (.ref f) = true) : Fun K x qual st f (PySem.W.fnOf x qual (defArgs st) (defBody st) (defScope st) .none kV doc pm an cdv ct) := ⟨⟨oc, od, kV, doc, pm, an, cdv, ct, osl, rfl, l, c⟩, k⟩
end
theorem small1000 {n : Nat} (h : n ≤ 1000) : n < sizeLine := Nat.lt_of_le_of_lt h (by decide)

section
variable {X : Cx}
theorem pv (i : Nat) {x : Str} {pos : Pos} (hN : X.N[i]? = some x := by rfl) (hv : Vis X.env.scope x := by first | exact Or.inl rfl | exact Or.inr (Or.inl rfl) | exact Or.inr (Or.inr rfl)) (hd : (x == ("__debug__" : Str)) = false := by decide)
    (hcd : (x == ("__classdict__" : Str)) = false := by decide) : PE X (.Name x pos) (tVar i) := pe_var hN hv hd hcd
end

theorem iteF {A B : Prop} (h : B) : if false = true then A else B := by
  rw [if_neg Bool.false_ne_true]
  exact h
theorem iteT {A B : Prop} (h : A) : if true = true then A else B := by
  rw [if_pos rfl]
  exact h
theorem ite2 {c A B : Prop} [Decidable c] (h1 : c → A) (h2 : ¬ c → B) : if c then A else B := by
  by_cases h : c
  · rw [if_pos h]
    exact h1 h
  · rw [if_neg h]
    exact h2 h
theorem iteNS {c A B : Prop} [Decidable c] (hc : c) (h : B) : if (!decide c) = true then A else B := by
  rw [decide_eq_true hc]
  exact iteF h

def Same (H H' : Hp) : Prop := ∀ b o, H b = some o → H' b = some o
theorem Same.refl (H : Hp) : Same H H := fun _ _ h => h
theorem Same.trans {H H1 H2 : Hp} (a : Same H H1) (b : Same H1 H2) : Same H H2 := fun c o h => b c o (a c o h)
theorem Same.free {H H' : Hp} (e : Same H H') {l : Addr} (h : H' l = Option.none) : H l = Option.none := by
  cases q : H l with
  | none => rfl
  | some o =>
    rw [e l o q] at h
    cases h
theorem Same.seq {K : PySem.W.Frag} {H H' : Hp} {a : Addr} {xs : List V} (e : Same H H') (h : SqL K H a xs) : SqL K H' a xs := by
  rcases h with (h | ⟨o, h⟩) | h
  · exact .inl (.inl (e _ _ h))
  · exact .inl (.inr ⟨o, e _ _ h⟩)
  · exact .inr h

end L2

namespace L2
open PySem PySem.Spec PyProof.Rows
section
variable {X : Cx}
end
section
variable {κ : Type} [DecidableEq κ]
end
end L2
end

section
set_option Elab.async false
set_option linter.all false
set_option maxRecDepth 100000
namespace L2
open PySem PySem.Spec PyProof.Rows

structure CompOk (X : Cx) (scope : Scope) (x : Str) : Prop where
  kind : scope.kind = .function
  ncell : ∀ y ∈ scope.names, y.2 ≠ .cell
  names : ∀ y ∈ scope.names, y.2 = .local → scope.names.lookup y.1 = some .local
  hx : scope.names.lookup x = some .local
  free : ∀ y ∈ scope.names, y.2 = .free → X.env.kindOf y.1 = some .cell ∨ X.env.kindOf y.1 = some .free
  out : ∀ y ∈ X.N, scope.names.lookup y ≠ some .local
  nd : X.N.Nodup

def PTs (X : Cx) (ifs : List Expr) (t : TT) : Prop :=
  ∀ (pins : List (Addr × Obj)) (s : Shared) (σ : St) (H : Hp) (Q : Bool → Hp → Prop), Inv X pins σ H s → t σ H Q →
    wpAny (model X.prog X.w) X.A (forIn ifs true fun c r => if r = true then do let ok ← isTrue c X.env (eval c X.env); pure (ForInStep.yield ok) else pure (ForInStep.yield r)) (TP X pins σ Q) X.xe s
end L2
namespace L2
open PySem PySem.Spec PyProof.Rows
end L2
end

section
set_option Elab.async false
set_option linter.all false
set_option maxRecDepth 100000
namespace L2
open PySem PySem.Spec PyProof.Rows

def S (l : List Nat) : Str := ⟨l.toArray⟩
theorem S_cps (l : List Nat) : (S l).cps.toList = l := rfl
theorem S_len (l : List Nat) : (S l).length = l.length := rfl
theorem S_inj {a b : List Nat} (h : S a = S b) : a = b := congrArg (fun s : Str => s.cps.toList) h
theorem S_of (z : Str) : S z.cps.toList = z := by cases z; rfl
theorem S_app (a b : List Nat) : S a ++ S b = S (a ++ b) := by
  show (⟨a.toArray ++ b.toArray⟩ : Str) = ⟨(a ++ b).toArray⟩
  simp
theorem S_dec (a b : List Nat) : decide (V.str (S a) = V.str (S b)) = decide (a = b) := by
  by_cases e : a = b
  · subst e; simp
  · rw [decide_eq_false e, decide_eq_false]
    intro z
    injection z with z
    exact e (S_inj z)

section
variable {X : Cx} {a b c e o : Expr} {ta tb tc te to : TE} {pos : Pos}

theorem pe_strS (l : List Nat) {x : Str} {j pos} (h : x = S l) : PE X (.Constant (.str x) j pos) (tC (.str (S l))) := by rw [h]; exact pe_str

def rAddS : R2 := fun x y H Q => ∃ i j, x = .str (S i) ∧ y = .str (S j) ∧ i.length + j.length ≤ sizeLine ∧ Q (.str (S (i ++ j))) H
theorem op_addS : OpR X (binaryOp .Add) rAddS := by
  intro pins s σ H x y v u Q I rx ry h
  obtain ⟨i, j, rfl, rfl, hz, q⟩ := h
  exact op_add_str pins s σ H _ _ v u Q I rx ry ⟨S i, S j, rfl, rfl, hz, by rw [S_app]; exact q⟩

def rIxS' : R2 := fun x y H Q => ∃ l i c, x = .str (S l) ∧ y = .int i ∧ l.length ≤ sizeLine ∧ atI l i = some c ∧ Q (.str (S [c])) H
theorem ix_S : IxR X rIxS' := by
  intro value slice pins s σ H x y v u Q I rx ry h hs
  obtain ⟨l, i, c, rfl, rfl, hz, hc, q⟩ := h
  exact ix_str value slice pins s σ H _ _ v u Q I rx ry ⟨S l, i, c, rfl, rfl, hz, hc, q⟩ hs

def rLenS : List V → Hp → VK → Prop := fun xs H Q => ∃ l, xs = [.str (S l)] ∧ l.length ≤ sizeLine ∧ Q (.int l.length) H
theorem call_lenS : CallR X (.builtin "len") rLenS := by
  intro pins s σ H xs us Q I r h
  obtain ⟨l, rfl, hz, q⟩ := h
  exact call_len_str pins s σ H _ us Q I r ⟨S l, rfl, hz, q⟩

def rEqS : R2 := fun x y H Q => ∃ i j, x = .str (S i) ∧ y = .str (S j) ∧ Q (.bl (decide (i = j))) H
theorem op_eqS : OpR X (compareOp .Eq) rEqS := by
  intro pins s σ H x y v u Q I rx ry h
  obtain ⟨i, j, rfl, rfl, q⟩ := h
  exact op_eq pins s σ H _ _ v u Q I rx ry ⟨rfl, by rw [S_dec]; exact q⟩
def rNeS : R2 := fun x y H Q => ∃ i j, x = .str (S i) ∧ y = .str (S j) ∧ Q (.bl (!decide (i = j))) H
theorem op_neS : OpR X (compareOp .NotEq) rNeS := by
  intro pins s σ H x y v u Q I rx ry h
  obtain ⟨i, j, rfl, rfl, q⟩ := h
  exact op_ne pins s σ H _ _ v u Q I rx ry ⟨rfl, by rw [S_dec]; exact q⟩

abbrev Ts (ls : List (List Nat)) : List V := ls.map fun l => V.str (S l)
def rInst (K : PySem.W.Frag) : List V → Hp → VK → Prop := fun xs H Q => ∃ x n t b, xs = [x, .ty n] ∧ TyOf K H x t ∧ PySem.W.kitOne K t (.type n) = some b ∧ Q (.bl b) H
theorem call_isinst : CallR X (.builtin "isinstance") (rInst X.K) := by
  intro pins s σ H xs us Q I r h
  obtain ⟨x, n, t, b, rfl, ty, k, q⟩ := h
  obtain ⟨u, w', rfl, r1, r2⟩ := vals2 r
  cases r2
  exact isinst_ok I r1 ty k fun tk => ⟨.bl b, H, I.tok tk, rfl, q⟩

theorem joinNil (ls : List (List Nat)) : Txt.join (S []) (ls.map S) = S ls.flatten := by
  unfold Txt.join Builtin.Str.glued
  have key : ∀ (ls : List (List Nat)) (acc : Array Nat), ((ls.map S).foldl (fun acc p => acc ++ (S []).cps ++ p.cps) acc).toList = acc.toList ++ ls.flatten := by
    intro ls
    induction ls with
    | nil => intro acc; simp
    | cons l r ih => intro acc; rw [List.map_cons, List.foldl_cons, ih]; simp [S]
  unfold S
  congr 1
  apply Array.toList_inj.mp
  cases ls with
  | nil => rfl
  | cons l r =>
    have := key r (S l).cps
    have e : (List.map S (l :: r)).drop 1 = List.map S r := rfl
    show (((List.map S (l :: r)).drop 1).foldl _ (S l).cps).toList = _
    rw [e]
    exact this.trans (by simp [S])
def rJoin (K : PySem.W.Frag) : V → List V → Hp → VK → Prop := fun x vs H Q => ∃ p ls, x = .str (S []) ∧ vs = [.ref p] ∧ SqL K H p (Ts ls) ∧ ls.flatten.length ≤ 1000 ∧ Q (.str (S ls.flatten)) H
theorem strs_of : ∀ {ls : List (List Nat)} {us : List Value}, Vals (Ts ls) us → StrsAre us (ls.map S)
  | [], _, .nil => .nil
  | l :: r, _, .cons q t => by
    obtain ⟨t', rfl⟩ := q
    exact .cons (S l) t' (strs_of t)
theorem sum_len (ls : List (List Nat)) : ((ls.map S).map (·.length)).sum = ls.flatten.length := by
  induction ls with
  | nil => rfl
  | cons l r ih => rw [List.map_cons, List.map_cons, List.sum_cons, ih, List.flatten_cons, List.length_append, S_len]
theorem mt_join : MtR X "str.join" (rJoin X.K) := by
  intro pins s σ H x vs v us Q I rx rv h
  obtain ⟨p, ls, rfl, rfl, hq, hz, q⟩ := h
  obtain ⟨t, rfl⟩ := rx
  obtain ⟨u, rfl, ru⟩ := vals1 rv
  cases ru
  obtain ⟨its, r, pl, _⟩ := I.list hq
  refine join_list pl.isList (ys := ls.map S) (by simpa using strs_of r) ?_ fun t' k => ?_
  · rw [sum_len]; show _ + _ * 0 ≤ _; omega
  · exact ⟨.str (S ls.flatten), H, I.tok k, ⟨t', congrArg (fun z => Value.str z t') (joinNil ls)⟩, q⟩
end
end L2
end

section
set_option Elab.async false
set_option linter.all false
set_option maxRecDepth 100000
namespace L2
open PySem PySem.Spec PyProof.Rows

structure DefAt (K : PySem.W.Frag) (mg : Str → Option Value) (name : Str) (st : Stmt) (ps : List Str) : Prop where
  ex : ∃ f fd, Fun K name name st f fd ∧ Binds K fd ps [] ∧ mg name = some (.ref f)
structure Def (P : Program) (w : World) (K : PySem.W.Frag) (mg : Str → Option Value) (base : Heap) (name : Str) (k : Nat) (ps : List Str) (sp : Sp) : Prop where
  ex : ∃ f fd, FnOk P w K mg base CX0 k f fd ps sp ∧ Binds K fd ps [] ∧ mg name = some (.ref f) ∧ PySem.W.keepIn K (.ref f) = true
theorem DefAt.ok {P : Program} {w : World} {K : PySem.W.Frag} {mg : Str → Option Value} {base : Heap} {name : Str} {st : Stmt} {N ps : List Str} {k : Nat} {sp : Sp} (D : DefAt K mg name st ps) (S : FnScope N ps (defScope st)) (len : ∀ vs H Q E, sp vs H Q E → vs.length = ps.length)
    (hbody : ∀ (f : Addr) (cdv : Value) (A : Around) (outer : List Env) (s : Shared) (H : Hp) (vs : List V) (Q : VK) (E : XK), Room k (A.deeper (envOfC name (defScope st) s.heap.objs.size f cdv)) → sp vs H Q E →
      ∃ t, PSs (cxOf CX0 P w K mg base N name (defScope st) f cdv A outer s H E).nox (defBody st) t ∧ t { nx := fun _ H' => Q .non H', rt := Q } (start N vs) H) : Def P w K mg base name (k + 1) ps sp := by
  obtain ⟨f, fd, F, b, g⟩ := D.ex
  exact ⟨f, fd, F.ok S len (hbody f), b, g, F.kp⟩
section
variable {X : Cx} {x : Str} {p pos : Pos} {e : Expr} {es : List Expr} {t : TA}
theorem pe_own {k : Nat} {ps : List Str} {sp : Sp} (D : Def X.prog X.w X.K X.mg X.base x k ps sp) (hr : Room k X.A) (hg : Gl X x) (ha : PA X (e :: es) t) (hdb : (x == ("__debug__" : Str)) = false := by decide)
    (hs : starEach (e :: es) X.env = (false, eval e X.env) :: starEach es X.env := by rfl) (hpl : (backTo pos (starEach es X.env)).any (·.1) = false := by rfl) :
    PE X (.Call (.Name x p) (e :: es) [] pos) (tCall sp [] E0 t) := by
  obtain ⟨f, fd, G, b, g, kp⟩ := D.ex
  exact pe_call G hr hg g kp b .nil pass0 ha hdb hs hpl
end
theorem Same.upd {H : Hp} {p : Addr} {o : HO} (h : H p = none) : Same H (upd H p o) := fun b o' e => by rw [upd_ne (ne_of_none e h)]; exact e
theorem Same.upd' {H H' : Hp} {p : Addr} {o : HO} (s : Same H H') (h : H p = none) : Same H (L2.upd H' p o) := fun b o' e => by rw [upd_ne (ne_of_none e h)]; exact s b o' e
end L2
namespace L2
open PySem PySem.Spec PyProof.Rows
section
variable {X : Cx} {e : Expr} {es : List Expr} {te : TE} {t : TA}
end
end L2
namespace L2
open PySem PySem.Spec PyProof.Rows
end L2
namespace L2
open PySem PySem.Spec PyProof.Rows
theorem defat_mk {K : PySem.W.Frag} {h : Heap} {mg : Str → Option Value} {name : Str} {st : Stmt} {ps : List Str} {f : Addr} {oc : Value} {od an : Option Addr} {osl : Array (Option Value)} {kV doc pm cdv ct : Value} (X : K.In h) (G : h.Ns mainGlobals mg)
    (a : PySem.W.nsIn K mainGlobals name = some (some (.ref f))) (l : K.lookup f = some ⟨oc, od, .func (PySem.W.fnOf name name (defArgs st) (defBody st) (defScope st) .none kV doc pm an cdv ct), osl⟩)
    (c : PySem.W.codeIn K cdv name = true) (k : PySem.W.keepIn K (.ref f) = true)
    (hb : ∀ (kV doc pm : Value) (an : Option Addr) (cdv ct : Value) (us : List Value), us.length = ps.length → bindArgs (PySem.W.fnOf name name (defArgs st) (defBody st) (defScope st) .none kV doc pm an cdv ct) ⟨us, []⟩ = pure (ps.zip us)) : DefAt K mg name st ps :=
  ⟨f, _, fun_mk l c k, (fun_mk l c k).binds hb, PySem.W.mg_of X G a⟩
theorem law_at {K : PySem.W.Frag} {h : Heap} {mg : Str → Option Value} {st : Stmt} {x : Str} {f fa : Addr} {oc : Value} {od an : Option Addr} {osl : Array (Option Value)} {kV doc pm cdv ct : Value} (X : K.In h) (G : h.Ns mainGlobals mg) (hfa : mg "law" = some (.ref fa))
    (a : PySem.W.nsIn K mainGlobals "law" = some (some (.ref f))) (l : K.lookup f = some ⟨oc, od, .func (PySem.W.fnOf "law" "law" (defArgs st) (defBody st) (defScope st) .none kV doc pm an cdv ct), osl⟩)
    (c : PySem.W.codeIn K cdv "law" = true) (k : PySem.W.keepIn K (.ref f) = true)
    (hb : ∀ (kV doc pm : Value) (an : Option Addr) (cdv ct v : Value), bindArgs (PySem.W.fnOf "law" "law" (defArgs st) (defBody st) (defScope st) .none kV doc pm an cdv ct) ⟨[v], []⟩ = pure [(x, v)]) :
    ∃ fd : FuncData, Fun K "law" "law" st fa fd ∧ ∀ (s : Shared) (v : Value), BindsTo s fd ⟨[v], []⟩ [(x, v)] := by
  have e := hfa.symm.trans (PySem.W.mg_of X G a)
  cases e
  exact ⟨_, fun_mk l c k, fun s v => .of_eq (hb kV doc pm an cdv ct v)⟩
def spLaw (K : PySem.W.Frag) : Sp := fun vs H Q _ => ∃ (a : Addr) (ns : List Int), vs = [.ref a] ∧ SqL K H a (ns.map V.int) ∧ ns.length ≤ 63 ∧ ∀ H', Q (.bl true) H'
theorem walkLaw {x : Str} {l : PySem.W.OpenLaw} {q : Program} {loose : List Str} {XP : (Str → Option Value) → Heap → Prop} {YP : World → Heap → Prop} {d : DefRec} {K : Params → PySem.W.Frag} (hn : l.most = some 63) (hdf : d.params.defaults = [])
    (hY : ∀ (w : World) (h : Heap), YP w h → (K w.params).In h)
    (F : ∀ (w : World) (mg : Str → Option Value) (fa : Addr) (h : Heap), (K w.params).In h → h.Ns mainGlobals mg → mg d.name = some (.ref fa) →
      ∃ fd : FuncData, (∀ (s : Shared) (u : Value), BindsTo s fd ⟨[u], []⟩ [(x, u)]) ∧ ∀ base : Heap, (K w.params).In base → base.Ns mainGlobals mg → FnOk l.prog w (K w.params) mg base CX0 20 fa fd [x] (spLaw (K w.params))) :
    PySem.W.WalkO q loose XP YP l.row.toRowW d [] (fun f vs => PySem.call f vs) :=
  L2.walk_of (n := 63) (k := 20) (x := x) (CX := fun _ => CX0) (sp := fun w => spLaw (K w.params)) hn (by decide) hdf ⟨rfl, by decide, by decide⟩ hY F (fun _ _ a ns hl _ hS => ⟨a, ns, rfl, hS, hl, fun _ => rfl⟩) fun _ _ _ _ _ z => z
end L2
end

section
set_option Elab.async false
set_option linter.all false
set_option maxRecDepth 100000
namespace L2
open PySem PySem.Spec PyProof.Rows
namespace RV
section
variable {prog : Program} {w : World} {A : Around} {E : Value → Shared → Prop} {s : Shared}
end
end RV
end L2
end

section
set_option Elab.async false
set_option linter.all false
set_option maxRecDepth 100000
namespace L2
open PySem PySem.Spec PyProof.Rows
section
variable {X : Cx} {o e st : Expr} {to te tst : TE} {apos cpos rpos pos p p2 : Pos}
theorem fm_map {α β : Type} {f : α → Option β} {g : α → β} : ∀ l : List α, (∀ k ∈ l, f k = some (g k)) → l.filterMap f = l.map g
  | [], _ => rfl
  | a :: r, h => by
    rw [List.filterMap_cons, h a List.mem_cons_self, List.map_cons, fm_map r fun k hk => h k (List.mem_cons_of_mem _ hk)]
def tRevS (te tst : TE) : TE := fun σ H Q => te σ H fun x H1 => tst σ H1 fun y H2 => ∃ l, x = .str (S l) ∧ y = .int (-1) ∧ l.length ≤ sizeLine ∧ Q (.str (S l.reverse)) H2
theorem pe_revS (he : PE X e te) (hst : PE X st tst) : PE X (.Subscript e (.Slice none none (some st) p2) pos) (tRevS te tst) := by
  intro pins s σ H Q I h
  refine Subscript_ (thn (he pins s σ H _ I h) fun v s1 ⟨x, H1, I1, r1, q1⟩ => ?_)
  refine wpAny_Slice ?_
  rw [evalPart_none, evalPart_some]
  refine wpAny_pure (wpAny_pure (thn (hst pins s1 σ H1 _ I1 q1) fun vst s2 ⟨y, H2, I2, r2, l, ex, ey, hz, q⟩ => ?_))
  subst ex ey
  obtain ⟨t, rfl⟩ := r1
  obtain ⟨t2, rfl⟩ := r2
  have I4 : Inv X pins σ H2 { s2 with heap := s2.heap.push { cls := .type "slice", data := .fields #[.none, .none, .int (-1) t2] } } := I2.kept (t' := s2.toks) fun b ob z => Heap.get?_push_of_some _ z
  show wpAny (model X.prog X.w) X.A (subscriptTail e (.Slice none none (some st) p2) (.str (S l) t) (.ref s2.heap.objs.size)) (EP X pins σ Q) X.xe { s2 with heap := s2.heap.push { cls := .type "slice", data := .fields #[.none, .none, .int (-1) t2] } }
  refine tail_any (ops := [.ref s2.heap.objs.size, .str (S l) t]) (typeIs_str _ _ _) PySem.F.slot_str_getitem.lookup ?_ (by with_unfolding_all rfl)
  refine wpAny_getItem_str_slice (l := none) (u := none) (st := some (-1, t2)) ⟨_, Heap.get?_push_size _ rfl, rfl, rfl⟩ rfl ?_
  have ep : slicePicked (S l) none none (some (-1, t2)) = (List.range l.length).map fun k => l.length - 1 - k := picked_rev l.length
  have er : ((slicePicked (S l) none none (some (-1, t2))).filterMap ((S l).cps[·]?)) = l.reverse := by
    rw [ep]
    refine List.ext_getElem? fun j => ?_
    have hm : ((List.range l.length).map fun k => l.length - 1 - k).filterMap ((S l).cps[·]?) = (List.range l.length).map fun k => l.getD (l.length - 1 - k) 0 := by
      rw [List.filterMap_map]
      refine fm_map _ fun k hk => ?_
      have hk' := List.mem_range.mp hk
      show (l.toArray)[l.length - 1 - k]? = some (l.getD (l.length - 1 - k) 0)
      simp [List.getD, show l.length - 1 - k < l.length by omega]
    rw [hm, List.getElem?_map]
    by_cases hj : j < l.length
    · rw [List.getElem?_range hj, List.getElem?_reverse hj]
      simp [List.getD, show l.length - 1 - j < l.length by omega]
    · rw [List.getElem?_eq_none (by simpa using hj), List.getElem?_eq_none (by simpa using hj)]; rfl
  unfold sliceMade
  rw [if_neg (by simp)]
  rw [er]
  refine ⟨?_, .str (S l.reverse), H2, I4.tok _, ⟨_, rfl⟩, q⟩
  show l.reverse.toArray.size ≤ sizeLine
  simpa using hz
end
end L2
end

section
set_option Elab.async false
set_option linter.all false
set_option maxRecDepth 100000
namespace L2
open PySem PySem.Spec PyProof.Rows
structure QE (X : Cx) (e : Expr) (t : TE) : Prop where
  out : PE X e t
structure QT (X : Cx) (e : Expr) (t : TT) : Prop where
  out : PT X e t
structure QW (X : Cx) (e : Expr) (t : TT) : Prop where
  out : PW X e t
structure QA (X : Cx) (es : List Expr) (t : TA) : Prop where
  out : PA X es t
structure QS (X : Cx) (st : Stmt) (t : TS) : Prop where
  out : PS X st t
structure QSs (X : Cx) (st : List Stmt) (t : TS) : Prop where
  out : PSs X st t
structure QG (X : Cx) (e : Expr) (t : TG) : Prop where
  out : PG X e t
structure QGs (X : Cx) (es : List Expr) (t : TGs) : Prop where
  out : PGs X es t
structure QI (X : Cx) (tg iter : Expr) (wi : TI) : Prop where
  out : PI X tg iter wi
structure QO (X : Cx) (e : Option Expr) (t : TO) : Prop where
  out : PO X e t
structure QC (X : Cx) (op : CmpOp) (a b : Expr) (t : TE) : Prop where
  out : PC X op a b t
structure QTs (X : Cx) (ifs : List Expr) (t : TT) : Prop where
  out : PTs X ifs t
theorem QW.qt {X : Cx} {e : Expr} {t : TT} (h : QW X e t) : QT X e t := ⟨h.out.pt⟩
section
variable {X : Cx} {st : Stmt} {rest : List Stmt} {t u : TS} {e : Expr} {te : TE} {pos : Pos}
theorem qss_nil  : QSs X [] tNext :=
  ⟨pss_nil⟩
end
section
variable {X : Cx} {st : Stmt} {rest : List Stmt} {t u : TS} {e : Expr} {te : TE} {pos : Pos}
theorem qss_cons (h1 : QS X st t) (h2 : QSs X rest u) : QSs X (st :: rest) (tSeq t u) :=
  ⟨pss_cons h1.out h2.out⟩
end
section
variable {X : Cx} {st : Stmt} {rest : List Stmt} {t u : TS} {e : Expr} {te : TE} {pos : Pos}
theorem qss_one (h1 : QS X st t) : QSs X [st] t :=
  ⟨pss_one h1.out⟩
end
section
variable {X : Cx} {st : Stmt} {rest : List Stmt} {t u : TS} {e : Expr} {te : TE} {pos : Pos}
theorem qs_if {c : Expr} {a b : List Stmt} {tc : TT} (hc : QT X c tc) (ha : QSs X a t) (hb : QSs X b u) : QS X (.If c a b pos) (tIfS tc t u) :=
  ⟨ps_if hc.out ha.out hb.out⟩
end
section
variable {X : Cx} {st : Stmt} {rest : List Stmt} {t u : TS} {e : Expr} {te : TE} {pos : Pos}
theorem qs_ret (he : QE X e te) : QS X (.Return (some e) pos) (tRet te) :=
  ⟨ps_ret he.out⟩
end
section
variable {X : Cx} {st : Stmt} {rest : List Stmt} {t u : TS} {e : Expr} {te : TE} {pos : Pos}
end
section
variable {X : Cx} {st : Stmt} {rest : List Stmt} {t u : TS} {e : Expr} {te : TE} {pos : Pos}
theorem qs_expr (he : QE X e te) (hs : swapsWith e none pos.line X.env = pure false := by rfl) : QS X (.Expr e pos) (tDrop te) :=
  ⟨ps_expr he.out hs⟩
end
section
variable {X : Cx} {tg : Expr}
theorem qs_for {iter : Expr} {body : List Stmt} {wi : TI} {g : TG} {tb : TS} {pos : Pos} (hp : PassesOwn (model X.prog X.w) X.A X.env X.xe) (hc : X.calm = true) (hi : QI X tg iter wi) (hg : QG X tg g) (hb : QSs X body tb) (hs : ∀ x, foldedSetIterable iter X.env x = pure x := by intro _; rfl) : QS X (.For tg iter body [] pos) (tFor wi g tb) :=
  ⟨ps_for hp hc hi.out hg.out hb.out hs⟩
end
section
variable {X : Cx} {st : Stmt} {rest : List Stmt} {t u : TS} {e : Expr} {te : TE} {pos : Pos}
end
section
variable {X : Cx} {pos : Pos}
theorem qs_set {i : Nat} {x : Str} {e : Expr} {te : TE} {pos' : Pos} (hN : X.N.Nodup) (hi : X.N[i]? = some x) (hx : Loc X.env.scope x) (he : QE X e te) (hs : swapsWith e (some (.Name x pos')) pos.line X.env = pure false := by rfl) (hf : X.fn x = true ∨ X.env.scope.names.lookup x = some .local := by first | exact .inl rfl | exact .inr rfl | assumption) : QS X (.Assign [.Name x pos'] e pos) (tAsg te (gName i)) :=
  ⟨ps_set hN hi hx he.out hs hf⟩
end
section
variable {X : Cx} {st : Stmt} {rest : List Stmt} {t u : TS} {e : Expr} {te : TE} {pos : Pos}
end
section
variable {X : Cx} {st : Stmt} {rest : List Stmt} {t u : TS} {e : Expr} {te : TE} {pos : Pos}
end
section
variable {X : Cx} {st : Stmt} {rest : List Stmt} {t u : TS} {e : Expr} {te : TE} {pos : Pos}
end
section
variable {X : Cx} {o e value : Expr} {f : Str} {pos pos' tpos : Pos} {ta tv : TE}
end
section
variable {X : Cx} {pos : Pos}
end
section
variable {X : Cx} {pos : Pos}
theorem qg_name {i : Nat} {x : Str} (hN : X.N.Nodup) (hi : X.N[i]? = some x) (hx : Loc X.env.scope x) (hf : X.fn x = true ∨ X.env.scope.names.lookup x = some .local := by first | exact .inl rfl | exact .inr rfl | assumption) : QG X (.Name x pos) (gName i) :=
  ⟨pg_name hN hi hx hf⟩
end
section
variable {X : Cx} {pos : Pos}
end
section
variable {X : Cx} {pos : Pos}
end
section
variable {X : Cx} {pos : Pos}
end
section
variable {X : Cx} 
theorem qe_int {i j pos} : QE X (.Constant (.int i) j pos) (tC (.int i)) :=
  ⟨pe_int⟩
end
section
variable {X : Cx} 
theorem qe_bl {b j pos} : QE X (.Constant (.bool b) j pos) (tC (.bl b)) :=
  ⟨pe_bl⟩
end
section
variable {X : Cx} 
theorem qe_non {j pos} : QE X (.Constant .none j pos) (tC .non) :=
  ⟨pe_non⟩
end
section
variable {X : Cx} {a b c : Expr} {ta tb tc : TE} {pos : Pos}
theorem qe_op {op : Operator} {r : R2} (ho : OpR X (binaryOp op) r) (ha : QE X a ta) (hb : QE X b tb) : QE X (.BinOp a op b pos) (tOp r ta tb) :=
  ⟨pe_op ho ha.out hb.out⟩
end
section
variable {X : Cx} {a b c : Expr} {ta tb tc : TE} {pos : Pos}
theorem qe_un {op : UnaryOp} {r : V → Hp → VK → Prop} (ho : UnR X (unaryOp op) r) (ha : QE X a ta) : QE X (.UnaryOp op a pos) (tUn r ta) :=
  ⟨pe_un ho ha.out⟩
end
section
variable {X : Cx} {a b c : Expr} {ta tb tc : TE} {pos : Pos}
theorem qe_cmpR {op : CmpOp} {r : R2} (ho : OpR X (compareOp op) r) (ha : QE X a ta) (hb : QE X b tb) (hm : behindInMarks op b = false) : QE X (.Compare a [op] [b] pos) (tOp r ta tb) :=
  ⟨pe_cmpR ho ha.out hb.out hm⟩
end
section
variable {X : Cx} {a b c : Expr} {ta tb tc : TE} {pos : Pos}
theorem qt_cmpR {op : CmpOp} {r : R2} (ho : OpR X (compareOp op) r) (ha : QE X a ta) (hb : QE X b tb) (hm : behindInMarks op b = false) : QT X (.Compare a [op] [b] pos) (tTest (tOp r ta tb)) :=
  ⟨pt_cmpR ho ha.out hb.out hm⟩
end
section
variable {X : Cx} {a b c : Expr} {ta tb tc : TE} {pos : Pos}
end
section
variable {X : Cx} {a b c : Expr} {ta tb tc : TE} {pos : Pos}
theorem qt_chain {op op' : CmpOp} {r r' : R2} (ho : OpR X (compareOp op) r) (ho' : OpR X (compareOp op') r') (ha : QE X a ta) (hb : QE X b tb) (hc : QE X c tc) (hm : lastMarks [op, op'] [b, c] = false := by with_unfolding_all rfl) : QT X (.Compare a [op, op'] [b, c] pos) (tTest (tChain r r' ta tb tc)) :=
  ⟨pt_chain ho ho' ha.out hb.out hc.out hm⟩
end
section
variable {X : Cx} {a b : Expr} {ta tb : TE} {pos : Pos} {tA tB' : TT} {rest : List Expr}
theorem qt_val {e : Expr} {t : TE} (h : QE X e t) (he : ∀ whole, isTrue e X.env whole = (do let v ← whole; standAt e.pos; holding [v] (truthy v)) := by intro _; rfl) : QT X e (tB t) :=
  ⟨pt_val h.out he⟩
end
section
variable {X : Cx} {a b c : Expr} {ta tb tc : TE} {pos : Pos}
end
section
variable {X : Cx} {a b : Expr} {ta tb : TE} {pos : Pos} {tA tB' : TT} {rest : List Expr}
theorem qt_not (ha : QT X a tA) : QT X (.UnaryOp .Not a pos) (tNot tA) :=
  ⟨pt_not ha.out⟩
end
section
variable {X : Cx} {a b : Expr} {ta tb : TE} {pos : Pos} {tA tB' : TT} {rest : List Expr}
theorem qw_and (ha : QT X a tA) (hb : QW X (.BoolOp .And (b :: rest) pos) tB') : QW X (.BoolOp .And (a :: b :: rest) pos) (tAnd tA tB') :=
  ⟨pw_and ha.out hb.out⟩
end
section
variable {X : Cx} {a b : Expr} {ta tb : TE} {pos : Pos} {tA tB' : TT} {rest : List Expr}
theorem qw_and1 (ha : QT X a tA) : QW X (.BoolOp .And [a] pos) tA :=
  ⟨pw_and1 ha.out⟩
end
section
variable {X : Cx} {a b : Expr} {ta tb : TE} {pos : Pos} {tA tB' : TT} {rest : List Expr}
theorem qw_or (ha : QT X a tA) (hb : QW X (.BoolOp .Or (b :: rest) pos) tB') : QW X (.BoolOp .Or (a :: b :: rest) pos) (tOr tA tB') :=
  ⟨pw_or ha.out hb.out⟩
end
section
variable {X : Cx} {a b : Expr} {ta tb : TE} {pos : Pos} {tA tB' : TT} {rest : List Expr}
theorem qw_or1 (ha : QT X a tA) : QW X (.BoolOp .Or [a] pos) tA :=
  ⟨pw_or1 ha.out⟩
end
section
variable {X : Cx} {a b : Expr} {ta tb : TE} {pos : Pos} {tA tB' : TT} {rest : List Expr}
end
section
variable {X : Cx} {a b : Expr} {ta tb : TE} {pos : Pos} {tA tB' : TT} {rest : List Expr}
end
section
variable {X : Cx} {a b : Expr} {ta tb : TE} {pos : Pos} {tA tB' : TT} {rest : List Expr}
end
section
variable {X : Cx} {a b : Expr} {ta tb : TE} {pos : Pos} {tA tB' : TT} {rest : List Expr}
end
section
variable {X : Cx} {a b : Expr} {ta tb : TE} {pos : Pos} {tA tB' : TT} {rest : List Expr}
theorem qe_ifExp {c : Expr} (hc : QT X c tA) (ha : QE X a ta) (hb : QE X b tb) : QE X (.IfExp c a b pos) (tIf tA ta tb) :=
  ⟨pe_ifExp hc.out ha.out hb.out⟩
end
section
variable {X : Cx} {a b c : Expr} {ta tb tc : TE} {pos : Pos}
theorem qe_ix {r : R2} (hr : IxR X r) (ha : QE X a ta) (hb : QE X b tb) (hs : PlainIx b) : QE X (.Subscript a b pos) (tOp r ta tb) :=
  ⟨pe_ix hr ha.out hb.out hs⟩
end
section
variable {X : Cx} {e : Expr} {te : TE} {lo hi : Option Expr} {tl th : TO} {pos p2 : Pos}
theorem qe_slice {r : V → Option Int → Option Int → Hp → VK → Prop} (hr : SlR X r) (he : QE X e te) (hl : QO X lo tl) (hu : QO X hi th) : QE X (.Subscript e (.Slice lo hi none p2) pos) (tSl r te tl th) :=
  ⟨pe_slice hr he.out hl.out hu.out⟩
end
section
variable {X : Cx} {e : Expr} {te : TE} {lo hi : Option Expr} {tl th : TO} {pos p2 : Pos}
theorem qo_none  : QO X none tNoPart :=
  ⟨po_none⟩
end
section
variable {X : Cx} {e : Expr} {te : TE} {lo hi : Option Expr} {tl th : TO} {pos p2 : Pos}
theorem qo_some (h : QE X e te) : QO X (some e) (tPart te) :=
  ⟨po_some h.out⟩
end
section
variable {X : Cx} {e : Expr} {es : List Expr} {te : TE} {t : TA} {pos : Pos}
theorem qe_lst (h : QA X es t) : QE X (.List es pos) (tLst t) :=
  ⟨pe_lst h.out⟩
end
section
variable {X : Cx} {e : Expr} {es : List Expr} {te : TE} {t : TA} {pos : Pos}
end
section
variable {X : Cx} {e : Expr} {es : List Expr} {te : TE} {t : TA} {pos : Pos}
theorem qa_nil  : QA X [] tNil :=
  ⟨pa_nil⟩
end
section
variable {X : Cx} {e : Expr} {es : List Expr} {te : TE} {t : TA} {pos : Pos}
theorem qa_cons (ha : QE X e te) (hr : QA X es t) (hs : starEach (e :: es) X.env = (false, eval e X.env) :: starEach es X.env := by rfl) : QA X (e :: es) (tCons te t) :=
  ⟨pa_cons ha.out hr.out hs⟩
end
section
variable {X : Cx} {x : Str} {p pos : Pos} {e : Expr} {es : List Expr} {t : TA} {id T : String} {r : List V → Hp → VK → Prop}
theorem qe_callB (hc : CallR X (.builtin id) r) (hg : Gl X x) (hm : X.mg x = none) (hv : bootBuiltins x = some (.builtin id)) (ha : QA X (e :: es) t) (hn : x ≠ "__name__" := by decide) (hdb : (x == ("__debug__" : Str)) = false := by decide) (he : starEach (e :: es) X.env = (false, eval e X.env) :: starEach es X.env := by rfl) (hpl : (backTo pos (starEach es X.env)).any (·.1) = false := by rfl) : QE X (.Call (.Name x p) (e :: es) [] pos) (tCB r t) :=
  ⟨pe_callB hc hg hm hv ha.out hn hdb he hpl⟩
end
section
variable {X : Cx} {x : Str} {p pos : Pos} {e : Expr} {es : List Expr} {t : TA} {id T : String} {r : List V → Hp → VK → Prop}
theorem qe_callTy (hc : CallR X (.type T) r) (hg : Gl X x) (hm : X.mg x = none) (hv : bootBuiltins x = some (.type T)) (ha : QA X (e :: es) t) (hn : x ≠ "__name__" := by decide) (hdb : (x == ("__debug__" : Str)) = false := by decide) (he : starEach (e :: es) X.env = (false, eval e X.env) :: starEach es X.env := by rfl) (hpl : (backTo pos (starEach es X.env)).any (·.1) = false := by rfl) : QE X (.Call (.Name x p) (e :: es) [] pos) (tCB r t) :=
  ⟨pe_callTy hc hg hm hv ha.out hn hdb he hpl⟩
end
section
variable {X : Cx} {x : Str} {p pos : Pos} {e : Expr} {es : List Expr} {t : TA} {id T : String} {r : List V → Hp → VK → Prop}
end
section
variable {X : Cx} {o e : Expr} {es : List Expr} {to : TE} {t : TA} {name : Str} {apos cpos : Pos} {T id : String} {r : V → List V → Hp → VK → Prop}
theorem qe_bm (pa : PlainAttrs T) (slot : Slot T name id) (hty : typeOf (.builtin id) = pure (.type "method_descriptor")) (hm : MtR X id r) (ho : QE X o to) (ha : QA X (e :: es) t) (hbase : attributeBase o name X.env (eval o X.env) = eval o X.env := by rfl) (hfew : ((backTo cpos (starEach (e :: es) X.env)).all (fun x => !x.1) && (backToKw cpos (keywordEach [] X.env)).all (fun x => x.1.isSome)
      && decide ((e :: es).length + ([] : List Keyword).length + (if ([] : List Keyword).isEmpty then 0 else 1) < 30)) = true := by rfl) (hline : (apos.endLine == cpos.line) = true := by rfl) (hs : starEach (e :: es) X.env = (false, eval e X.env) :: starEach es X.env := by rfl) (hplain : (backTo cpos (starEach es X.env)).any (·.1) = false := by rfl) : QE X (.Call (.Attribute o name apos) (e :: es) [] cpos) (tBM X.K T r to t) :=
  ⟨pe_bm pa slot hty hm ho.out ha.out hbase hfew hline hs hplain⟩
end
section
variable {X : Cx} {o e : Expr} {es : List Expr} {to : TE} {t : TA} {name : Str} {apos cpos : Pos} {T id : String} {r : V → List V → Hp → VK → Prop}
theorem qe_bm0 (pa : PlainAttrs T) (slot : Slot T name id) (hty : typeOf (.builtin id) = pure (.type "method_descriptor")) (hm : MtR X id r) (ho : QE X o to) (hbase : attributeBase o name X.env (eval o X.env) = eval o X.env := by rfl) (hline : (apos.endLine == cpos.line) = true := by rfl) : QE X (.Call (.Attribute o name apos) [] [] cpos) (tBM0 X.K T r to) :=
  ⟨pe_bm0 pa slot hty hm ho.out hbase hline⟩
end
section
variable {X : Cx} 
theorem qe_bltn {x : Str} {v : V} {u : Value} {pos : Pos} (hg : Gl X x) (hm : X.mg x = none) (hv : bootBuiltins x = some u) (r : RelV v u) (hn : x ≠ "__name__" := by decide) (hd : (x == ("__debug__" : Str)) = false := by decide) : QE X (.Name x pos) (tC v) :=
  ⟨pe_bltn hg hm hv r hn hd⟩
end
section
variable {X : Cx} 
theorem qe_glob {x : Str} {v : V} {u : Value} {pos : Pos} (hg : Gl X x) (hm : X.mg x = some u) (r : RelV v u) (hd : (x == ("__debug__" : Str)) = false := by decide) : QE X (.Name x pos) (tC v) :=
  ⟨pe_glob hg hm r hd⟩
end
section
variable {X : Cx} {tg : Expr}
theorem qi_list {l : Expr} {tl : TE} (hl : QE X l tl) : QI X tg l (iList X.K tl) :=
  ⟨pi_list hl.out⟩
end
section
variable {X : Cx} {tg : Expr}
end
section
variable {X : Cx} {tg : Expr}
theorem qi_range1 {a : Expr} {ta : TA} {p pos : Pos} (hg : Gl X "range") (hm : X.mg "range" = none) (ha : QA X [a] ta) (hs : starEach [a] X.env = [(false, eval a X.env)] := by rfl) : QI X tg (.Call (.Name "range" p) [a] [] pos) (iRng1 ta) :=
  ⟨pi_range1 hg hm ha.out hs⟩
end
section
variable {X : Cx} {tg : Expr}
end
section
variable {X : Cx} {o e value : Expr} {f : Str} {pos pos' tpos : Pos} {ta tv : TE}
end
section
variable {X : Cx} {CX : CXT} {k : Nat} {f C : Addr} {fd : FuncData} {ps : List Str} {sp : Sp} {dvs : List V} {ds : List Value} {E : XK} {x m : Str} {p pos apos : Pos} {e o : Expr} {es : List Expr} {ta : TE} {t : TA}
end
section
variable {X : Cx} {CX : CXT} {k : Nat} {f C : Addr} {fd : FuncData} {ps : List Str} {sp : Sp} {dvs : List V} {ds : List Value} {E : XK} {x m : Str} {p pos apos : Pos} {e o : Expr} {es : List Expr} {ta : TE} {t : TA}
end
section
variable {X : Cx} {CX : CXT} {k : Nat} {f C : Addr} {fd : FuncData} {ps : List Str} {sp : Sp} {dvs : List V} {ds : List Value} {E : XK} {x m : Str} {p pos apos : Pos} {e o : Expr} {es : List Expr} {ta : TE} {t : TA}
end
section
variable {X : Cx} {CX : CXT} {k : Nat} {f C : Addr} {fd : FuncData} {ps : List Str} {sp : Sp} {dvs : List V} {ds : List Value} {E : XK} {x m : Str} {p pos apos : Pos} {e o : Expr} {es : List Expr} {ta : TE} {t : TA}
end
section
variable {X : Cx} {o i value : Expr} {td ty tv : TE} {pos pos' : Pos}
end
section
variable {X : Cx} {o i value : Expr} {td ty tv : TE} {pos pos' : Pos}
end
section
variable {X : Cx} {o i value : Expr} {td ty tv : TE} {pos pos' : Pos}
end
section
variable {X : Cx} {o e : Expr} {td ty : TE} {apos cpos : Pos}
end
section
variable {X : Cx} {o i value : Expr} {td ty tv : TE} {pos pos' : Pos}
end
section
variable {X : Cx} {a b : Expr} {ta tb : TE} {pos : Pos} {tA tB' : TT} {rest : List Expr}
end
section
variable {X : Cx} {a b : Expr} {ta tb : TE} {pos : Pos} {tA tB' : TT} {rest : List Expr}
end
section
variable {X : Cx} 
theorem qv (i : Nat) {x : Str} {pos : Pos} (hN : X.N[i]? = some x := by rfl) (hv : Vis X.env.scope x := by first | exact Or.inl rfl | exact Or.inr (Or.inl rfl) | exact Or.inr (Or.inr rfl)) (hd : (x == ("__debug__" : Str)) = false := by decide) (hcd : (x == ("__classdict__" : Str)) = false := by decide) : QE X (.Name x pos) (tVar i) :=
  ⟨pv i hN hv hd hcd⟩
end
section
variable {X : Cx} 
end
section
variable {X : Cx} 
end
section
variable {X : Cx} 
theorem qe_strS (l : List Nat) {x : Str} {j pos} (h : x = S l) : QE X (.Constant (.str x) j pos) (tC (.str (S l))) :=
  ⟨pe_strS l h⟩
end
section
variable {X : Cx} {e : Expr} {es : List Expr} {te : TE} {t : TA} {pos : Pos}
end
section
variable {X : Cx} {x : Str} {p pos : Pos} {e : Expr} {es : List Expr} {t : TA}
theorem qe_own {k : Nat} {ps : List Str} {sp : Sp} (D : Def X.prog X.w X.K X.mg X.base x k ps sp) (hr : Room k X.A) (hg : Gl X x) (ha : QA X (e :: es) t) (hdb : (x == ("__debug__" : Str)) = false := by decide) (hs : starEach (e :: es) X.env = (false, eval e X.env) :: starEach es X.env := by rfl) (hpl : (backTo pos (starEach es X.env)).any (·.1) = false := by rfl) : QE X (.Call (.Name x p) (e :: es) [] pos) (tCall sp [] E0 t) :=
  ⟨pe_own D hr hg ha.out hdb hs hpl⟩
end
section
variable {X : Cx} {o e st : Expr} {to te tst : TE} {apos cpos rpos pos p p2 : Pos}
end
section
variable {X : Cx} {o e st : Expr} {to te tst : TE} {apos cpos rpos pos p p2 : Pos}
theorem qe_revS (he : QE X e te) (hst : QE X st tst) : QE X (.Subscript e (.Slice none none (some st) p2) pos) (tRevS te tst) :=
  ⟨pe_revS he.out hst.out⟩
end
theorem DefAt.qok {P : Program} {w : World} {K : PySem.W.Frag} {mg : Str → Option Value} {base : Heap} {name : Str} {st : Stmt} {N ps : List Str} {k : Nat} {sp : Sp} (D : DefAt K mg name st ps) (S : FnScope N ps (defScope st)) (len : ∀ vs H Q E, sp vs H Q E → vs.length = ps.length)
    (hbody : ∀ (f : Addr) (cdv : Value) (A : Around) (outer : List Env) (s : Shared) (H : Hp) (vs : List V) (Q : VK) (E : XK), Room k (A.deeper (envOfC name (defScope st) s.heap.objs.size f cdv)) → sp vs H Q E →
      ∃ t, QSs (cxOf CX0 P w K mg base N name (defScope st) f cdv A outer s H E).nox (defBody st) t ∧ t { nx := fun _ H' => Q .non H', rt := Q } (start N vs) H) : Def P w K mg base name (k + 1) ps sp :=
  D.ok S len fun f cdv A outer s H vs Q E hr h => let ⟨t, a, b⟩ := hbody f cdv A outer s H vs Q E hr h; ⟨t, a.out, b⟩
theorem Fun.qok {P : Program} {w : World} {K : PySem.W.Frag} {mg : Str → Option Value} {base : Heap} {x qual : Str} {st : Stmt} {f : Addr} {fd : FuncData} {N ps : List Str} {k : Nat} {sp : Sp} (F : Fun K x qual st f fd) (S : FnScope N ps (defScope st)) (len : ∀ vs H Q E, sp vs H Q E → vs.length = ps.length)
    (hbody : ∀ (cdv : Value) (A : Around) (outer : List Env) (s : Shared) (H : Hp) (vs : List V) (Q : VK) (E : XK), Room k (A.deeper (envOfC qual (defScope st) s.heap.objs.size f cdv)) → sp vs H Q E →
      ∃ t, QSs (cxOf CX0 P w K mg base N qual (defScope st) f cdv A outer s H E).nox (defBody st) t ∧ t { nx := fun _ H' => Q .non H', rt := Q } (start N vs) H) : FnOk P w K mg base CX0 (k + 1) f fd ps sp :=
  F.ok S len fun cdv A outer s H vs Q E hr h => let ⟨t, a, b⟩ := hbody cdv A outer s H vs Q E hr h; ⟨t, a.out, b⟩
end L2
end

section
set_option Elab.async false
set_option linter.all false
set_option maxRecDepth 100000
namespace L2
open PySem PySem.Spec PyProof.Rows
section
variable {prog : Program} {w : World} {A : Around} {E : Value → Shared → Prop} {s : Shared}
theorem sorted_any {v : Value} {Q : Value → Shared → Prop} (hcol : wpAny (model prog w) A.in1 (collect v) (fun vs s1 => ∃ ss, StrsAre vs ss ∧ vs.length < 64 ∧
      ∀ (h' : Heap) (vs' : List Value) (ss' : List Str) (e : Nat), (∀ b o, s1.heap.get? b = some o → h'.get? b = some o) → h'.get? s1.heap.objs.size = some (seqObj "list" vs'.toArray e) → StrsAre vs' ss' → ss'.Perm ss → sortedS ss' = true →
        Q (.ref s1.heap.objs.size) { s1 with heap := h' }) E s) : wpAny (model prog w) A (call (.builtin "sorted") [v]) Q E s := by
  refine Calls.call_function_entry kind_sorted plain_sorted entry_sorted (args_sorted1 _) ?_
  unfold Builtin.«sorted»
  refine wpAny_bind (m := checkCount "sorted" 1 1 _) (wpAny_pure ?_)
  refine wpAny_bind (thn hcol fun vs s1 ⟨ss, hS, h64, h⟩ => ?_)
  refine wpAny_bind (wpAny_newList ?_)
  have hoL : (s1.heap.push (seqObj "list" vs.toArray 0)).get? s1.heap.objs.size = some (seqObj "list" vs.toArray 0) := Heap.get?_push_size _ rfl
  refine wpAny_bind (wpAny_holding (wpAny_call_entry slot_list_sort (s := { s1 with heap := s1.heap.push (seqObj "list" vs.toArray 0) }) ⟨_, hoL, rfl⟩ entry_list_sort
    (list_sort_treeK (s := { s1 with heap := s1.heap.push (seqObj "list" vs.toArray 0) }) strKind_oneLt hoL hS.keysOf (fun v₁ v₂ rest e => keyKind_strs (by rw [← e]; exact hS)) h64 fun st' hp hs => ⟨_, rfl, ?_⟩) (args_list_sort _)))
  obtain ⟨ss', h1, h2, h3⟩ := sorted_out_str hS hp hs
  obtain ⟨e, he⟩ := sortedHeap_at (vs := vs) (out := (arrOf st').map (·.2)) hoL
  refine wpAny_pure ⟨_, rfl, h _ ((arrOf st').map (·.2)).toList ss' e (fun b o z => ?_) (by rw [Array.toArray_toList]; exact he) h1 h2 h3⟩
  have hb : b < s1.heap.objs.size := Heap.lt_size z
  rw [sortedHeap_old (Nat.ne_of_lt hb) (by rw [Heap.size_push]; exact Nat.lt_succ_of_lt hb)]
  exact Heap.get?_push_of_some _ z
end
theorem signs_of {x : Str} {vs : Array Value} (h : ItemsOf (SignAt x) vs x.cps.size) : StrsAre vs.toList (x.cps.toList.map fun c => (⟨#[c]⟩ : Str)) := by
  have key : ∀ (l : List Value) (m : List Nat), l.length = m.length → (∀ (j : Nat) v, l[j]? = some v → ∃ c u, m[j]? = some c ∧ v = .str ⟨#[c]⟩ u) → StrsAre l (m.map fun c => (⟨#[c]⟩ : Str)) := by
    intro l
    induction l with
    | nil =>
      intro m hl _
      cases m with
      | nil => exact .nil
      | cons c r => simp at hl
    | cons a r ih =>
      intro m hl hv
      cases m with
      | nil => simp at hl
      | cons c m =>
        obtain ⟨c', u, e, rfl⟩ := hv 0 a rfl
        have e' : c = c' := by simpa using e
        subst e'
        exact .cons _ u (ih m (by simpa using hl) fun j v hj => hv (j + 1) v hj)
  refine key _ _ (by simpa using h.1) fun j v hj => ?_
  obtain ⟨c, u, e1, e2⟩ := h.2 j v (by simpa using hj)
  exact ⟨c, u, by simpa using e1, e2⟩
section
variable {X : Cx}
theorem vals_of_strs : ∀ {ss : List Str} {us : List Value}, StrsAre us ss → Vals (ss.map V.str) us
  | _, _, .nil => .nil
  | _, _, .cons x t r => .cons ⟨t, rfl⟩ (vals_of_strs r)
end
end L2
end

section
set_option Elab.async false
set_option linter.all false
set_option maxRecDepth 100000
namespace L2
open PySem PySem.Spec PyProof.Rows
def Its (l : List Nat) : It := ⟨fun i _ => i < l.length, fun i H x H' => H' = H ∧ ∃ c, l[i]? = some c ∧ x = .str (S [c]), fun i _ => l.length ≤ i⟩
theorem turn_str {P : Program} {w : World} {K : PySem.W.Frag} {tg : Expr} {ty : String} (hty : ty = "str_ascii_iterator" ∨ ty = "str_iterator") (l : List Nat) (t : Tok) (it : Addr) :
    Turn P w K tg (Its l) [it] it (fun i h => i ≤ l.length ∧ h.IsStrIter it ty (S l) t i) where
  mem := by simp
  obj := fun i h st b hb => by
    have e : b = it := by simpa using hb
    subst e
    obtain ⟨_, o, e, c, d⟩ := st
    exact ⟨o, e, fun v z => by rw [d] at z; cases z⟩
  keep := fun i h h' st k => ⟨st.1, let ⟨o, ho, r⟩ := st.2; ⟨o, k it (by simp) o ho, r⟩⟩
  item := by
    intro X hP hw hK hc i pins s σ H E I hf st hg
    subst hP hw hK
    obtain ⟨f0, f1, f2, f3, f4, f5⟩ := hf it (by simp)
    have hg' : i < (S l).cps.size := hg
    have fin : ∀ (v : Value) (h' : Heap) (tk : Nat), SignAt (S l) i v → h'.IsStrIter it ty (S l) t (i + 1) → (∀ b o, b ∉ [it] → s.heap.get? b = some o → h'.get? b = some o) →
        ∃ u, some v = some u ∧ wpAny (model X.prog X.w) X.A (letOwnedTupleGo tg (.ref it) u) (fun _ s2 => ∃ x H', Inv X pins σ H' s2 ∧ RelV x u ∧ (Its l).yld i H x H' ∧ (i + 1 ≤ l.length ∧ s2.heap.IsStrIter it ty (S l) t (i + 1)) ∧ ∀ b ∈ [it], H' b = none) E { s with heap := h', toks := tk } := by
      intro v h' tk hv st' kk
      obtain ⟨c, u, hc', rfl⟩ := hv
      have I1 : Inv X pins σ H { s with heap := h', toks := tk } := I.turned (fun b o hb e => kk b o (by simpa using hb) e) f0 f1 f3 f4 f5
      obtain ⟨o, e, c2, d2⟩ := id st'
      refine ⟨_, rfl, go_of (s := { s with heap := h', toks := tk }) e c2 d2 (by rcases hty with rfl | rfl <;> decide) ⟨.str (S [c]), H, I1, ⟨u, rfl⟩, ⟨rfl, c, by simpa [S] using hc', rfl⟩, ⟨hg, st'⟩, fun b hb => (hf b hb).1⟩⟩
    rcases hty with rfl | rfl
    · exact (Walks.strAscii (prog := X.prog) (w := X.w) (I.ok.hd hc) it (S l) t).item i s _ _ hg' st.2 fun v h' tk hv st' kk => fin v h' tk hv st' kk
    · exact (Walks.strWide (prog := X.prog) (w := X.w) (I.ok.hd hc) it (S l) t).item i s _ _ hg' st.2 fun v h' tk hv st' kk => fin v h' tk hv st' kk
  done := by
    intro X hP hw hK hc i pins s σ H E I hf st hg
    subst hP hw hK
    obtain ⟨f0, f1, f2, f3, f4, f5⟩ := hf it (by simp)
    have hi : i = (S l).cps.size := Nat.le_antisymm st.1 hg
    have st' := st.2
    rw [hi] at st'
    rcases hty with rfl | rfl
    · exact (Walks.strAscii (prog := X.prog) (w := X.w) (I.ok.hd hc) it (S l) t).done s _ _ st' fun h' tk kk => ⟨rfl, I.turned (fun b o hb e => kk b o (by simpa using hb) e) f0 f1 f3 f4 f5⟩
    · exact (Walks.strWide (prog := X.prog) (w := X.w) (I.ok.hd hc) it (S l) t).done s _ _ st' fun h' tk kk => ⟨rfl, I.turned (fun b o hb e => kk b o (by simpa using hb) e) f0 f1 f3 f4 f5⟩
  self := fun A i s Q E st h => by
    rcases hty with rfl | rfl
    · exact wpAny_pyIter_striter_ascii st.2 h
    · exact wpAny_pyIter_striter_wide st.2 h
theorem nlt_trans {a b c : List Nat} (h1 : ¬ b < a) (h2 : ¬ c < b) : ¬ c < a := by
  have h1' : a ≤ b := h1
  have h2' : b ≤ c := h2
  exact List.le_trans h1' h2'
theorem rising_pw : ∀ (r : List Str) (p : Str), risingS p r = true → (∀ x ∈ r, ¬ x.cps.toList < p.cps.toList) ∧ (r.map fun y => y.cps.toList).Pairwise (fun a b => decide (b < a) = false)
  | [], _, _ => ⟨fun _ h => by simp at h, List.Pairwise.nil⟩
  | y :: r, p, h => by
    rw [risingS, Bool.and_eq_true] at h
    have h0 : ¬ y.cps.toList < p.cps.toList := by
      have := h.1
      simpa [ltCps_eq] using this
    obtain ⟨h1, h2⟩ := rising_pw r y h.2
    refine ⟨fun x hx => ?_, ?_⟩
    · rcases List.mem_cons.mp hx with e | e
      · rw [e]; exact h0
      · exact nlt_trans h0 (h1 x e)
    · rw [List.map_cons]
      refine List.Pairwise.cons (fun b hb => ?_) h2
      obtain ⟨x, hx, rfl⟩ := List.mem_map.mp hb
      exact decide_eq_false (h1 x hx)
theorem sorted_pw (ss : List Str) (h : sortedS ss = true) : (ss.map fun y => y.cps.toList).Pairwise (fun a b => decide (b < a) = false) := by
  cases ss with
  | nil => exact List.Pairwise.nil
  | cons x r =>
    obtain ⟨h1, h2⟩ := rising_pw r x h
    rw [List.map_cons]
    refine List.Pairwise.cons (fun b hb => ?_) h2
    obtain ⟨y, hy, rfl⟩ := List.mem_map.mp hb
    exact decide_eq_false (h1 y hy)
section
variable {X : Cx} {tg : Expr}
def iStr (tl : TE) : TI := fun σ H R => tl σ H fun x H1 => ∃ l, x = .str (S l) ∧ R (Its l) H1
theorem qi_str {l : Expr} {tl : TE} (hl : QE X l tl) : QI X tg l (iStr tl) := ⟨by
  intro pins s σ H R I h
  refine thn (hl.out pins s σ H _ I h) fun v s1 ⟨x, H1, I1, r1, q1⟩ => ?_
  obtain ⟨l, e, q⟩ := q1
  subst e
  obtain ⟨t, rfl⟩ := r1
  refine wpAny_pyIter_strU ?_
  have hty : strIterType (S l) = "str_ascii_iterator" ∨ strIterType (S l) = "str_iterator" := by unfold strIterType; split <;> simp
  refine ⟨s1.heap.objs.size, [s1.heap.objs.size], _, _, H1, rfl, I1.kept (t' := s1.toks) fun b o e => Heap.get?_push_of_some _ e, turn_str hty l t _, ⟨Nat.zero_le _, _, Heap.get?_push_size _ rfl, rfl, rfl⟩, fun b hb => ?_, q⟩
  have e : b = s1.heap.objs.size := by simpa using hb
  subst e
  exact I1.fpOk (Nat.le_refl _) (I1.hok.fresh (Nat.le_refl _))⟩
def rLeS : R2 := fun x y H Q => ∃ i j, x = .str (S i) ∧ y = .str (S j) ∧ Q (.bl (!decide (j < i))) H
theorem op_leS : OpR X (compareOp .LtE) rLeS := by
  intro pins s σ H x y v u Q I rx ry h
  obtain ⟨i, j, rfl, rfl, q⟩ := h
  obtain ⟨t, rfl⟩ := rx
  obtain ⟨t', rfl⟩ := ry
  exact PySem.P.le_str ⟨.bl _, H, I, rfl, q⟩
end
end L2
end

section
set_option Elab.async false
set_option linter.all false
set_option maxRecDepth 100000
namespace L2
open PySem PySem.Spec PyProof.Rows PySem.SeqAt PySem.MeetsSeq PySem.MeetsSeq3
open AutoSeq1 (wpAny_loadPart')
section
variable {X : Cx}
end
end L2
end

section
set_option Elab.async false
set_option linter.all false
set_option maxRecDepth 100000
namespace L2
open PySem PySem.Spec PyProof.Rows
section
variable {X : Cx}
def CDivB (i j : Int) : Prop := 0 < j ∧ j.natAbs.log2 < 9000
theorem op_fdivB : OpR X (binaryOp .FloorDiv) (rI CDivB fun i j => .int (i / j)) := opI fun i j _ _ _ _ _ hc q => by
  have e : i.fdiv j = i / j := Int.fdiv_eq_ediv_of_nonneg _ (Int.le_of_lt hc.1)
  rw [← e] at q
  exact floordiv_int (Int.ne_of_gt hc.1) q (.inl (PyProof.noPylong_of_log2 hc.2))
def rUpA : V → List V → Hp → VK → Prop := fun x vs H Q => ∃ l, x = .str (S l) ∧ vs = [] ∧ l.length ≤ 1000 ∧ (∀ c ∈ l, c < 128) ∧ Q (.str (S (l.map up1))) H
theorem mt_upA : MtR X "str.upper" rUpA := by
  intro pins s σ H x vs v us Q I rx rv h
  obtain ⟨l, rfl, rfl, hz, ha, q⟩ := h
  obtain ⟨t, rfl⟩ := rx
  have hus := rv.zero
  subst hus
  have hfit : Builtin.Str.tooLong (Txt.upper (S l)).length = false := fit_upper (by rw [S_len]; omega)
  refine call_gives F.slot_str_upper (typeIs_str s _ t) F.entry_str_upper (F.args_str_upper_1 _) (gives_str_upper (S l) t hfit) ⟨fit_le hfit, ?_⟩
  have e : Txt.upper (S l) = S (l.map up1) := by rw [upper_ascii (x := S l) ha]; simp [S]
  exact ⟨.str (S (l.map up1)), H, I.tok _, ⟨s.toks, congrArg (fun z => Value.str z s.toks) e⟩, q⟩
def rLoA : V → List V → Hp → VK → Prop := fun x vs H Q => ∃ l, x = .str (S l) ∧ vs = [] ∧ l.length ≤ 1000 ∧ (∀ c ∈ l, c < 128) ∧ Q (.str (S (l.map lo1))) H
theorem mt_loA : MtR X "str.lower" rLoA := by
  intro pins s σ H x vs v us Q I rx rv h
  obtain ⟨l, rfl, rfl, hz, ha, q⟩ := h
  obtain ⟨t, rfl⟩ := rx
  have hus := rv.zero
  subst hus
  have hfit : Builtin.Str.tooLong (Txt.lower (S l)).length = false := fit_lower (by rw [S_len]; omega)
  refine call_gives F.slot_str_lower (typeIs_str s _ t) F.entry_str_lower (F.args_str_lower_1 _) (gives_str_lower (S l) t hfit) ⟨fit_le hfit, ?_⟩
  have e : Txt.lower (S l) = S (l.map lo1) := by rw [lower_ascii (x := S l) ha]; simp [S]
  exact ⟨.str (S (l.map lo1)), H, I.tok _, ⟨s.toks, congrArg (fun z => Value.str z s.toks) e⟩, q⟩
end
theorem for_str {l : List Nat} {g : TG} {tb : TS} {D : Ends} {σ : St} {H : Hp} (Pv : Nat → St → Hp → Prop) (h0 : Pv 0 σ H)
    (hs : ∀ i c σ H, l[i]? = some c → Pv i σ H → g (.str (S [c])) σ H fun σ2 H2 => tb { D with nx := Pv (i + 1), ct := Pv (i + 1), bk := D.nx } σ2 H2) (hd : ∀ σ H, Pv l.length σ H → D.nx σ H) :
    ∃ W : Nat → Nat → St → Hp → Prop, (∃ m, W 0 m σ H) ∧ ∀ i m σ H, W i m σ H →
      ((Its l).stop i H ∧ D.nx σ H) ∨ ((Its l).go i H ∧ ∃ N : St → Hp → Prop, (∀ σ' H', N σ' H' → ∃ m', m' < m ∧ W (i + 1) m' σ' H') ∧ ∀ x H', (Its l).yld i H x H' → g x σ H' fun σ2 H2 => tb { D with nx := N, ct := N, bk := D.nx } σ2 H2) := by
  refine ⟨fun i m σ H => m = l.length - i ∧ i ≤ l.length ∧ Pv i σ H, ⟨l.length, by simp, Nat.zero_le _, h0⟩, ?_⟩
  rintro i m σ H ⟨rfl, hi, p⟩
  by_cases hlt : i < l.length
  · refine .inr ⟨hlt, Pv (i + 1), fun σ' H' p' => ⟨l.length - (i + 1), by omega, rfl, hlt, p'⟩, fun x H' y => ?_⟩
    obtain ⟨e, c, hc, e2⟩ := y
    subst e e2
    exact hs i c σ _ hc p
  · have e : i = l.length := by omega
    subst e
    exact .inl ⟨Nat.le_refl _, hd σ H p⟩
def AL : List Nat := (List.range 26).map (97 + ·)
theorem at_modA {α : Type} {xs : List α} {n : Nat} (hn : xs.length = n) (h : 0 < n) (c : Int) : ∃ v, atI xs (c % (n : Int)) = some v ∧ v ∈ xs := by
  have h0 : 0 ≤ c % (n : Int) := Int.emod_nonneg _ (by omega)
  have h1 : c % (n : Int) < n := Int.emod_lt_of_pos _ (by omega)
  obtain ⟨k, hk⟩ : ∃ k : Nat, c % (n : Int) = (k : Int) := ⟨(c % (n : Int)).toNat, by omega⟩
  rw [hk]
  have hl : k < xs.length := by omega
  exact ⟨xs[k], atI_nat (by simp [hl]), List.getElem_mem _⟩
end L2
end

section
set_option Elab.async false
set_option linter.all false
set_option maxRecDepth 100000
namespace L2
open PySem PySem.Spec PyProof.Rows
inductive Dt where
  | non | int (i : Int) | str (l : List Nat) | tup (ds : List Dt) | lst (ds : List Dt)
mutual
def toP : Dt → PyData
  | .non => .none
  | .int i => .int i
  | .str l => .str (S l)
  | .tup ds => .tuple (toPs ds)
  | .lst ds => .list (toPs ds)
def toPs : List Dt → List PyData
  | [] => []
  | d :: ds => toP d :: toPs ds
end
mutual
theorem eqv_D : ∀ d e : Dt, PyData.eqv (toP d) (toP e) = true ↔ d = e
  | .non, .non => by simp [toP, PyData.eqv]
  | .non, .int _ => by simp [toP, PyData.eqv]
  | .non, .str _ => by simp [toP, PyData.eqv]
  | .non, .tup _ => by simp [toP, PyData.eqv]
  | .non, .lst _ => by simp [toP, PyData.eqv]
  | .int _, .non => by simp [toP, PyData.eqv]
  | .int _, .int _ => by simp [toP, PyData.eqv]
  | .int _, .str _ => by simp [toP, PyData.eqv]
  | .int _, .tup _ => by simp [toP, PyData.eqv]
  | .int _, .lst _ => by simp [toP, PyData.eqv]
  | .str _, .non => by simp [toP, PyData.eqv]
  | .str _, .int _ => by simp [toP, PyData.eqv]
  | .str a, .str b => by
    simp only [toP, PyData.eqv, beq_iff_eq, Dt.str.injEq]
    exact ⟨S_inj, fun z => by rw [z]⟩
  | .str _, .tup _ => by simp [toP, PyData.eqv]
  | .str _, .lst _ => by simp [toP, PyData.eqv]
  | .tup _, .non => by simp [toP, PyData.eqv]
  | .tup _, .int _ => by simp [toP, PyData.eqv]
  | .tup _, .str _ => by simp [toP, PyData.eqv]
  | .tup ds, .tup es => by simp only [toP, PyData.eqv, Dt.tup.injEq]; exact eqv_Ds ds es
  | .tup _, .lst _ => by simp [toP, PyData.eqv]
  | .lst _, .non => by simp [toP, PyData.eqv]
  | .lst _, .int _ => by simp [toP, PyData.eqv]
  | .lst _, .str _ => by simp [toP, PyData.eqv]
  | .lst _, .tup _ => by simp [toP, PyData.eqv]
  | .lst ds, .lst es => by simp only [toP, PyData.eqv, Dt.lst.injEq]; exact eqv_Ds ds es
theorem eqv_Ds : ∀ ds es : List Dt, PyData.eqvAll (toPs ds) (toPs es) = true ↔ ds = es
  | [], [] => by simp [toPs, PyData.eqvAll]
  | [], _ :: _ => by simp [toPs, PyData.eqvAll]
  | _ :: _, [] => by simp [toPs, PyData.eqvAll]
  | d :: ds, e :: es => by
    simp only [toPs, PyData.eqvAll, Bool.and_eq_true, List.cons.injEq]
    rw [eqv_D d e, eqv_Ds ds es]
end
open Classical in
theorem eqv_dec (d e : Dt) : PyData.eqv (toP d) (toP e) = decide (d = e) := by
  by_cases h : d = e
  · rw [decide_eq_true h]; exact (eqv_D d e).mpr h
  · rw [decide_eq_false h]
    cases z : PyData.eqv (toP d) (toP e) with
    | false => rfl
    | true => exact absurd ((eqv_D d e).mp z) h
mutual
inductive HasD (K : PySem.W.Frag) (H : Hp) : Nat → Dt → V → Prop
  | non {n} : HasD K H n .non .non
  | int {n} (i : Int) : HasD K H n (.int i) (.int i)
  | str {n} (l : List Nat) (h : ∀ c ∈ l, c < 128) : HasD K H n (.str l) (.str (S l))
  | tup {n a ds xs} (h : SqT K H a xs) (hs : HasDs K H n ds xs) : HasD K H (n + 1) (.tup ds) (.ref a)
  | lst {n a ds xs} (h : SqL K H a xs) (hs : HasDs K H n ds xs) : HasD K H (n + 1) (.lst ds) (.ref a)
inductive HasDs (K : PySem.W.Frag) (H : Hp) : Nat → List Dt → List V → Prop
  | nil {n} : HasDs K H n [] []
  | cons {n d ds x xs} (h : HasD K H n d x) (hs : HasDs K H n ds xs) : HasDs K H n (d :: ds) (x :: xs)
end
theorem strOk_S {l : List Nat} (h : ∀ c ∈ l, c < 128) : PyData.strOk (S l) = true := by
  unfold PyData.strOk
  show l.toArray.all _ = true
  rw [Array.all_eq_true_iff_forall_mem]
  intro x hx
  have := h x (by simpa using hx)
  exact decide_eq_true (by omega)
mutual
theorem HasD.lay {K : PySem.W.Frag} {H : Hp} : ∀ {n : Nat} {d : Dt} {x : V}, HasD K H n d x → (toP d).canLay0 = true ∧ (toP d).depth ≤ n
  | _, _, _, .non => by simp [toP, PyData.canLay0, PyData.depth]
  | _, _, _, .int _ => by simp [toP, PyData.canLay0, PyData.depth]
  | _, _, _, .str l h => by simp only [toP, PyData.canLay0, PyData.depth]; exact ⟨strOk_S h, Nat.zero_le _⟩
  | _, _, _, .tup _ hs => by
    simp only [toP, PyData.canLay0, PyData.depth]
    have := hs.lay
    exact ⟨this.1, Nat.succ_le_succ this.2⟩
  | _, _, _, .lst _ hs => by
    simp only [toP, PyData.canLay0, PyData.depth]
    have := hs.lay
    exact ⟨this.1, Nat.succ_le_succ this.2⟩
theorem HasDs.lay {K : PySem.W.Frag} {H : Hp} : ∀ {n : Nat} {ds : List Dt} {xs : List V}, HasDs K H n ds xs → PyData.canLayAll0 (toPs ds) = true ∧ PyData.depthAll (toPs ds) ≤ n
  | _, _, _, .nil => by simp [toPs, PyData.canLayAll0, PyData.depthAll]
  | _, _, _, .cons h hs => by
    have a := h.lay
    have b := hs.lay
    simp only [toPs, PyData.canLayAll0, PyData.depthAll, Bool.and_eq_true]
    exact ⟨⟨a.1, b.1⟩, Nat.max_le.mpr ⟨a.2, b.2⟩⟩
end
mutual
theorem HasD.same {K : PySem.W.Frag} {H H' : Hp} (sm : Same H H') (st : ∀ a xs, SqT K H a xs → SqT K H' a xs) : ∀ {n : Nat} {d : Dt} {x : V}, HasD K H n d x → HasD K H' n d x
  | _, _, _, .non => .non
  | _, _, _, .int i => .int i
  | _, _, _, .str l h => .str l h
  | _, _, _, .tup h hs => .tup (st _ _ h) (hs.same sm st)
  | _, _, _, .lst h hs => .lst (sm.seq h) (hs.same sm st)
theorem HasDs.same {K : PySem.W.Frag} {H H' : Hp} (sm : Same H H') (st : ∀ a xs, SqT K H a xs → SqT K H' a xs) : ∀ {n : Nat} {ds : List Dt} {xs : List V}, HasDs K H n ds xs → HasDs K H' n ds xs
  | _, _, _, .nil => .nil
  | _, _, _, .cons h hs => .cons (h.same sm st) (hs.same sm st)
end
section
variable {X : Cx}
mutual
theorem HasD.reads {pins : List (Addr × Obj)} {σ : St} {H : Hp} {s : Shared} (I : Inv X pins σ H s) : ∀ {n : Nat} {d : Dt} {x : V} {u : Value}, HasD X.K H n d x → RelV x u → ∃ as, Reads s.heap u (toP d) as
  | _, _, _, u, .non, r => by cases r; exact ⟨[], by rw [toP]; exact .none⟩
  | _, _, _, u, .int i, r => by obtain ⟨t, rfl⟩ := r; exact ⟨[], by rw [toP]; exact .int i t⟩
  | _, _, _, u, .str l h, r => by obtain ⟨t, rfl⟩ := r; exact ⟨[], by rw [toP]; exact .str _ t⟩
  | _, _, _, u, .tup h hs, r => by
    cases r
    obtain ⟨its, rv, pl, _⟩ := I.tuple h
    obtain ⟨as, ra⟩ := hs.reads I rv
    obtain ⟨o, ho, hc, n, hd⟩ := pl
    exact ⟨as, by rw [toP]; exact .tuple ho hc hd (by simpa using ra)⟩
  | _, _, _, u, .lst h hs, r => by
    cases r
    obtain ⟨its, rv, pl, _⟩ := I.list h
    obtain ⟨as, ra⟩ := hs.reads I rv
    obtain ⟨o, ho, hc, n, hd⟩ := pl.isList
    exact ⟨_ :: as, by rw [toP]; exact .list ho hc hd (by simpa using ra)⟩
theorem HasDs.reads {pins : List (Addr × Obj)} {σ : St} {H : Hp} {s : Shared} (I : Inv X pins σ H s) : ∀ {n : Nat} {ds : List Dt} {xs : List V} {us : List Value}, HasDs X.K H n ds xs → Vals xs us → ∃ as, ReadsAll s.heap us (toPs ds) as
  | _, _, _, us, .nil, r => by cases r; exact ⟨[], by rw [toPs]; exact .nil⟩
  | _, _, _, us, .cons h hs, r => by
    cases r with
    | cons q t =>
      obtain ⟨as, a⟩ := h.reads I q
      obtain ⟨bs, b⟩ := hs.reads I t
      exact ⟨as ++ bs, by rw [toPs]; exact .cons a b⟩
end
theorem HasD.shaped {K : PySem.W.Frag} {H : Hp} {n : Nat} {d : Dt} {x : V} (h : HasD K H n d x) (hn : n ≤ 64) : SeqAt.shaped (toP d) = true := by
  unfold SeqAt.shaped
  rw [h.lay.1, decide_eq_true (Nat.le_trans h.lay.2 hn)]
  rfl
open Classical in
def rEqD (K : PySem.W.Frag) (neg : Bool) : R2 := fun x y H Q => ∃ n d e, n ≤ 64 ∧ HasD K H n d x ∧ HasD K H n e y ∧ Q (.bl (if neg then !decide (d = e) else decide (d = e))) H
theorem op_eqD (hu : X.A.units + 64 < cLine) : OpR X (compareOp .Eq) (rEqD X.K false) := by
  intro pins s σ H x y v u Q I rx ry h
  obtain ⟨n, d, e, hn, hd, he, q⟩ := h
  obtain ⟨as, ra⟩ := hd.reads I rx
  obtain ⟨bs, rb⟩ := he.reads I ry
  refine SeqAt.compareEq_shaped ra rb (hd.shaped hn) (he.shaped hn) hu ⟨.bl _, H, I, rfl, ?_⟩
  rw [eqv_dec]; exact q
theorem op_neD (hu : X.A.units + 64 < cLine) : OpR X (compareOp .NotEq) (rEqD X.K true) := by
  intro pins s σ H x y v u Q I rx ry h
  obtain ⟨n, d, e, hn, hd, he, q⟩ := h
  obtain ⟨as, ra⟩ := hd.reads I rx
  obtain ⟨bs, rb⟩ := he.reads I ry
  refine SeqAt.compareNe_shaped ra rb (hd.shaped hn) (he.shaped hn) hu ⟨.bl _, H, I, rfl, ?_⟩
  rw [eqv_dec]; exact q
variable {tg : Expr}
end
end L2
namespace L2
open PySem PySem.Spec PyProof.Rows
section
variable {X : Cx} {x : Str} {pos : Pos}
end
theorem boot_anyX : bootBuiltins "any" = some (.builtin "any") := by decide +kernel
end L2
namespace L2
open PySem PySem.Spec PyProof.Rows
section
variable {X : Cx}
end
end L2
end

section
set_option Elab.async false
set_option linter.all false
set_option maxRecDepth 100000
namespace L2
open PySem PySem.Spec PyProof.Rows
section
variable {X : Cx}
end
end L2
end

section
set_option Elab.async false
set_option linter.all false
set_option maxRecDepth 100000
namespace L2
open PySem PySem.Spec PyProof.Rows
structure CompG (X : Cx) (scope : Scope) (ns N2 : List Str) (f : St → St) : Prop where
  kind : scope.kind = .function
  ncell : ∀ y ∈ scope.names, y.2 ≠ .cell
  names : ∀ y ∈ scope.names, y.2 = .local → scope.names.lookup y.1 = some .local
  free : ∀ y ∈ scope.names, y.2 = .free → X.env.kindOf y.1 = some .cell ∨ X.env.kindOf y.1 = some .free
  lenf : ∀ σ : St, (f σ).length = σ.length
  lenN : N2.length = X.N.length
  out : ∀ (σ : St) (i : Nat) (y : Str) (v : V), N2[i]? = some y → (f σ)[i]? = some (some v) → X.N[i]? = some y ∧ σ[i]? = some (some v) ∧ scope.names.lookup y ≠ some .local
end L2
namespace L2
open PySem PySem.Spec PyProof.Rows
end L2
end

section
set_option Elab.async false
set_option linter.all false
set_option maxRecDepth 100000
namespace L2
open PySem PySem.Spec PyProof.Rows
section
variable {X : Cx}
def rRemove : V → List V → Hp → VK → Prop := fun x vs H Q => ∃ (l : Addr) (us : List (List Nat)) (w : List Nat), x = .ref l ∧ vs = [.str (S w)] ∧ H l = some (.lst (Ts us)) ∧ w ∈ us ∧ us.length ≤ 1000 ∧ Q .non (upd H l (.lst (Ts (us.erase w))))
def strEq (w : List Nat) (u : Value) : Bool := match u with
  | .str z _ => z.cps.toList == w
  | _ => false
theorem erase_idx {us : List (List Nat)} {w : List Nat} : us.erase w = us.eraseIdx (us.idxOf w) := by
  induction us with
  | nil => rfl
  | cons a r ih =>
    by_cases h : a = w
    · subst h; simp
    · rw [List.erase_cons_tail (by simpa using h), List.idxOf_cons, cond_eq_ite, if_neg (by simpa using h), List.eraseIdx_cons_succ, ih]
theorem mt_remove : MtM X "list.remove" rRemove := by
  intro pins s σ H x vs v us Q I rx rv h
  obtain ⟨l, ls, w, rfl, rfl, hH, hw, hz, q⟩ := h
  cases rx
  obtain ⟨u, rfl, ru⟩ := rv.one
  obtain ⟨t, rfl⟩ := ru
  obtain ⟨z, its, n, r, hl, e⟩ := I.lstM hH
  have hlen : its.length = ls.length := by rw [← hl, List.length_map]
  have hj : ls.idxOf w < ls.length := List.idxOf_lt_length_of_mem hw
  have get : ∀ (m : Nat) (hm : m < its.toArray.size), ∃ (tk : Tok) (hm' : m < ls.length), its.toArray[m] = .str (S ls[m]) tk := fun m hm => by
    have hm' : m < ls.length := by simp at hm; omega
    obtain ⟨u1, e1, s1⟩ := r.get (i := m) (x := .str (S ls[m])) (by simp [hm'])
    obtain ⟨tk, rfl⟩ := s1
    refine ⟨tk, hm', ?_⟩
    rw [List.getElem?_eq_getElem (by omega)] at e1
    simpa using e1
  refine call_meets F.slot_list_remove ⟨_, e, rfl⟩ F.entry_list_remove (F.args_list_remove_2 _ _) (PySem.MeetsSeq.list_remove l its.toArray n (.str (S w) t) (strEq w) (fun y hy => ?_) (ls.idxOf w) (by rw [List.size_toArray]; omega) ?_ (fun m hm hm2 => ?_) (by rw [List.size_toArray, hlen]; exact Nat.le_of_lt (small1000 hz))) ⟨e, ?_⟩
  · obtain ⟨m, hm, rfl⟩ := Array.mem_iff_getElem.mp hy
    obtain ⟨tk, _, e1⟩ := get m hm
    rw [e1]
    exact PySem.SeqRoads2.EqGives.str _ _ _ _
  · obtain ⟨tk, hm', e1⟩ := get (ls.idxOf w) (by rw [List.size_toArray]; omega)
    rw [e1]
    show (ls[ls.idxOf w] == w) = true
    rw [List.getElem_idxOf]
    simp
  · obtain ⟨tk, hm', e1⟩ := get m hm
    rw [e1]
    show (ls[m] == w) = false
    have := List.not_of_lt_findIdx (p := fun a => a == w) (xs := ls) (show m < ls.findIdx (fun a => a == w) from hm2)
    simpa using this
  · refine ⟨.non, _, I.lset (its' := its.eraseIdx (ls.idxOf w)) hH e ?_ ?_ ?_, rfl, q⟩
    · rw [Array.eraseIdxIfInBounds, dif_pos (by rw [List.size_toArray]; omega)]
      simp
    · rw [erase_idx]
      have hv := Vals.eraseIdx (ls.idxOf w) r
      have em : ∀ (xs : List (List Nat)) (i : Nat), Ts (xs.eraseIdx i) = (Ts xs).eraseIdx i := by
        intro xs
        induction xs with
        | nil => intro i; rfl
        | cons a r ih =>
          intro i
          cases i with
          | zero => rfl
          | succ i => rw [List.eraseIdx_cons_succ, Ts, List.map_cons, Ts, List.map_cons, List.eraseIdx_cons_succ]; congr 1; exact ih i
      rw [em]
      exact hv
    · rw [List.length_map]
      exact Nat.le_trans (List.length_erase_le ..) (Nat.le_of_lt (small1000 hz))
def rSortL (K : PySem.W.Frag) : List V → Hp → VK → Prop := fun xs H Q => ∃ (a : Addr) (ws : List (List Nat)), xs = [.ref a] ∧ SqL K H a (Ts ws) ∧ ws.length < 64 ∧ ∀ (p : Addr) (ws' : List (List Nat)), H p = none → ws'.Perm ws → ws'.Pairwise (fun a b => decide (b < a) = false) → Q (.ref p) (upd H p (.lst (Ts ws')))
theorem call_sortedL : CallR X (.builtin "sorted") (rSortL X.K) := by
  intro pins s σ H xs us Q I r h
  obtain ⟨a, ws, rfl, hS, h64, q⟩ := h
  obtain ⟨u, rfl, ru⟩ := vals1 r
  cases ru
  obtain ⟨its, rv, pl, _⟩ := I.list hS
  have hlen : its.length = ws.length := by have := rv.length; simpa using this.symm
  refine sorted_strs pl.isList (strs_of rv) (by omega) fun out ss' a1 a2 a3 => ?_
  obtain ⟨e, he⟩ := sortedAll_at s.heap its out
  have pm' : (ss'.map fun y => y.cps.toList).Perm ws := by
    have := a2.map fun y : Str => y.cps.toList
    rw [List.map_map] at this
    have e : ((fun y : Str => y.cps.toList) ∘ S) = id := rfl
    rw [e, List.map_id] at this
    exact this
  have hv : Vals (Ts (ss'.map fun y => y.cps.toList)) out.toList := by
    have := vals_of_strs a1
    have es : (ss'.map V.str) = Ts (ss'.map fun y => y.cps.toList) := by
      rw [Ts, List.map_map]
      exact List.map_congr_left fun y _ => by simp [Function.comp_def, S_of]
    rw [es] at this
    exact this
  have hl : (Ts (ss'.map fun y => y.cps.toList)).length ≤ sizeLine := by
    rw [List.length_map, pm'.length_eq]; exact Nat.le_of_lt (small1000 (by omega))
  refine ⟨.ref (s.heap.objs.size + 1), _, I.laid (o := .lst _) (t' := s.toks) (fun b o z => sortedAll_old z) (Nat.le_succ _) ⟨hl, out.toList, e, hv, by rw [Array.toArray_toList]; exact he⟩, rfl, q _ _ (I.hok.fresh (Nat.le_succ _)) pm' (sorted_pw ss' a3)⟩
def tCut (t : TS) : TS := fun D σ H => ∃ Iv : St → Hp → Prop, t { D with nx := Iv } σ H ∧ ∀ σ' H', Iv σ' H' → D.nx σ' H'
theorem qs_cut {st : Stmt} {t : TS} (h : QS X st t) : QS X st (tCut t) := ⟨fun pins s σ H D I ⟨Iv, a, b⟩ => by
  refine thn (h.out pins s σ H _ I a) fun f s' q => ?_
  cases f with
  | next => obtain ⟨σ7, H7, I7, n7⟩ := q; exact ⟨σ7, H7, I7, b _ _ n7⟩
  | cont => exact q
  | brk => exact q
  | ret v => exact q⟩
end
end L2
end

section
set_option Elab.async false
set_option linter.all false
set_option maxRecDepth 100000
namespace L2
open PySem PySem.Spec PyProof.Rows PySem.W
section
variable {n : Nat} {r : Nat → Nat}
structure PermA (n : Nat) (p : Array Nat) : Prop where
  sz : p.size = n
  pm : p.toList.Perm (List.range n)
end
end L2
end

section
set_option Elab.async false
set_option linter.all false
set_option maxRecDepth 100000
set_option maxHeartbeats 1000000
namespace L2
open PySem PySem.Spec PyProof.Rows PySem.W
section
variable {prog : Program} {w : World} {A : Around} {E : Value → Shared → Prop} {s : Shared}
end
section
variable {X : Cx}
end
end L2
end

section
set_option Elab.async false
set_option linter.all false
set_option maxRecDepth 100000
set_option maxHeartbeats 1000000
namespace L2
open PySem PySem.Spec PyProof.Rows PySem.W
section
variable {prog : Program} {w : World} {A : Around} {E : Value → Shared → Prop} {s : Shared} {d a : Addr} {g : Array DictEntry} {e i : Nat}
end
section
variable {X : Cx}
end
section
variable {X : Cx} {pos : Pos}
end
end L2
end

section
set_option Elab.async false
set_option linter.all false
set_option maxRecDepth 100000
set_option maxHeartbeats 1000000
namespace L2
open PySem PySem.Spec PyProof.Rows PySem.W
section
variable {prog : Program} {w : World} {A : Around} {E : Value → Shared → Prop} {s : Shared}
end
section
variable {X : Cx}
end
end L2
end

section
set_option Elab.async false
set_option linter.all false
set_option maxRecDepth 100000
set_option maxHeartbeats 1000000
namespace L2
open PySem PySem.Spec PyProof.Rows PySem.W
section
variable {X : Cx}
structure InstOk (K : PySem.W.Frag) (C : Addr) : Prop where
  ha : PySem.W.findIn K (.ref C) "__class__" = some (some (.builtin "object.__class__"))
  hn : PySem.W.specialIn K (.builtin "object.__class__") "__get__" = some (some (.builtin "getset_descriptor.__get__"))
  ht : PySem.W.takesIn K (.builtin "object.__class__") = some true
  hm : PySem.W.mroIn K C (.type "object") = some true
  ki : PySem.W.kitOne K (.ref C) (.ref C) = some true
def rListS : List V → Hp → VK → Prop := fun xs H Q => ∃ l : List Nat, xs = [.str (S l)] ∧ l.length ≤ 1000 ∧ ∀ p, H p = none → Q (.ref p) (upd H p (.lst (Ts (l.map fun c => [c]))))
theorem sign_vals : ∀ (l : List Nat) (us : List Value), us.length = l.length → (∀ (i c : Nat), l[i]? = some c → ∃ t, us[i]? = some (.str (S [c]) t)) → Vals (Ts (l.map fun c => [c])) us
  | [], [], _, _ => .nil
  | [], _ :: _, h, _ => by simp at h
  | _ :: _, [], h, _ => by simp at h
  | c :: l, u :: us, h, k => by
    obtain ⟨t, e⟩ := k 0 c rfl
    have e : u = .str (S [c]) t := Option.some.inj e
    exact .cons ⟨t, e⟩ (sign_vals l us (by simpa using h) fun i d hd => k (i + 1) d hd)
theorem call_listS (hc : X.calm = true) : CallR X (.type "list") rListS := by
  intro pins s σ H xs us Q I r h
  obtain ⟨l, rfl, hl, q⟩ := h
  obtain ⟨u, rfl, ru⟩ := vals1 r
  obtain ⟨t, rfl⟩ := ru
  have hz : l.length ≤ sizeLine := Nat.le_of_lt (small1000 (by omega))
  refine call_list_str (I.ok.hd hc) (S l) t (fun h' tk acc c' hk hD hacc => ?_) (by show l.toArray.size ≤ _; simpa using hz)
  have hsz : acc.size = l.length := by rw [hacc.1]; show l.toArray.size = _; simp
  refine ⟨.ref s.heap.objs.size, _, I.laid (o := .lst (Ts (l.map fun c => [c]))) (t' := tk) hk (Nat.le_refl _) ⟨by rw [List.length_map, List.length_map]; exact hz, acc.toList, c', ?_, by simpa using hD⟩, rfl, q _ (I.hok.fresh (Nat.le_refl _))⟩
  refine sign_vals l acc.toList (by rw [Array.length_toList]; exact hsz) fun i c hc => ?_
  have hi : i < acc.size := by rw [hsz]; exact (List.getElem?_eq_some_iff.mp hc).1
  obtain ⟨c2, t2, e1, e2⟩ := hacc.2 i acc[i] (by simp [hi])
  have e1 : l.toArray[i]? = some c2 := e1
  rw [List.getElem?_toArray, hc] at e1
  have e1 := Option.some.inj e1
  exact ⟨t2, by rw [Array.getElem?_toList, Array.getElem?_eq_getElem hi, e2, e1]; rfl⟩
end
end L2
end

section
set_option Elab.async false
set_option linter.all false
set_option maxRecDepth 100000
set_option maxHeartbeats 1000000
namespace L2
open PySem PySem.Spec PyProof.Rows
end L2
end

section
set_option Elab.async false
set_option linter.all false
set_option maxRecDepth 100000
set_option maxHeartbeats 1000000
namespace L2
open PySem PySem.Spec PyProof.Rows
section
variable {M : Model} {A : Around} {E : Value → Shared → Prop} {s : Shared}
end
structure CompC (X : Cx) (scope : Scope) (xn : Str) (N2 : List Str) (f : St → St) : Prop where
  kind : scope.kind = .function
  one : ∀ y ∈ scope.names, y.2 = .cell → y.1 = xn
  cf : ∀ k acc, cellsFrom k scope.names acc = (xn, k) :: acc
  pc : ∀ h : Heap, pushCells h scope.names = h.push { cls := .type "cell", data := .cell none }
  names : ∀ y ∈ scope.names, y.2 = .local → scope.names.lookup y.1 = some .local
  free : ∀ y ∈ scope.names, y.2 = .free → X.env.kindOf y.1 = some .cell ∨ X.env.kindOf y.1 = some .free
  lenf : ∀ σ : St, (f σ).length = σ.length
  lenN : N2.length = X.N.length
  out : ∀ (σ : St) (i : Nat) (y : Str) (v : V), N2[i]? = some y → (f σ)[i]? = some (some v) → X.N[i]? = some y ∧ σ[i]? = some (some v) ∧ scope.names.lookup y ≠ some .local ∧ y ≠ xn
end L2
end

section
set_option Elab.async false
set_option linter.all false
set_option maxRecDepth 100000
namespace L2
open PySem PySem.Spec PyProof.Rows
section
variable {X : Cx}
def rCount : V → List V → Hp → VK → Prop := fun x vs H Q => ∃ (l : Addr) (us : List (List Nat)) (w : List Nat), x = .ref l ∧ vs = [.str (S w)] ∧ H l = some (.lst (Ts us)) ∧ Q (.int (us.count w : Nat)) H
theorem count_vals {w : List Nat} : ∀ {us : List (List Nat)} {its : List Value}, Vals (Ts us) its → its.countP (strEq w) = us.count w
  | [], _, .nil => rfl
  | u :: us, _, .cons ⟨t, rfl⟩ r => by
    rw [List.countP_cons, count_vals r, List.count_cons]
    rfl
theorem mt_count : MtM X "list.count" rCount := by
  intro pins s σ H x vs v us Q I rx rv h
  obtain ⟨l, ls, w, rfl, rfl, hH, q⟩ := h
  cases rx
  obtain ⟨u, rfl, ru⟩ := rv.one
  obtain ⟨t, rfl⟩ := ru
  obtain ⟨z, its, n, r, hl, e⟩ := I.lstM hH
  have hlen : its.length = ls.length := by rw [← hl, List.length_map]
  refine call_meets F.slot_list_count ⟨_, e, rfl⟩ F.entry_list_count (F.args_list_count_2 _ _) (SeqAt.list_countAt l its.toArray n _ _ (.str (S w) t) (strEq w)) ⟨e, fun y hy => ?_, ?_⟩
  · obtain ⟨m, hm, rfl⟩ := Array.mem_iff_getElem.mp hy
    have hm' : m < ls.length := by simp at hm; omega
    obtain ⟨u1, e1, s1⟩ := r.get (i := m) (x := .str (S ls[m])) (by simp [hm'])
    obtain ⟨tk, rfl⟩ := s1
    rw [List.getElem?_eq_getElem (by omega)] at e1
    have e2 : its.toArray[m] = .str (S ls[m]) tk := by simpa using e1
    rw [e2]
    exact (PySem.SeqRoads2.EqGives.str _ _ _ _).at _ _
  · exact ⟨.int (ls.count w : Nat), H, I.tok _, ⟨s.toks, by rw [← count_vals r]⟩, q⟩
def rCountS : V → List V → Hp → VK → Prop := fun x vs H Q => ∃ l w, x = .str (S l) ∧ vs = [.str (S w)] ∧ ∀ n : Nat, Q (.int n) H
theorem mt_countS : MtR X "str.count" rCountS := by
  intro pins s σ H x vs v us Q I rx rv h
  obtain ⟨l, w, rfl, rfl, q⟩ := h
  obtain ⟨t, rfl⟩ := rx
  obtain ⟨u, rfl, ru⟩ := rv.one
  obtain ⟨t', rfl⟩ := ru
  refine call_gives F.slot_str_count (typeIs_str s _ t) F.entry_str_count (F.args_str_count_2 _ _) (gives_str_count (S l) (S w) t t') ?_
  show EP X pins σ Q _ _
  exact ⟨.int (Builtin.Str.occurrences (S l) (S w) 0 (S l).length ((S l).length + 1)).length, H, I.tok _, ⟨s.toks, rfl⟩, q _⟩
end
end L2
end

section
set_option Elab.async false
set_option linter.all false
set_option maxRecDepth 100000
set_option maxHeartbeats 1000000
namespace L2
open PySem PySem.Spec PyProof.Rows PySem.W
section
variable {X : Cx}
end
end L2
end

section
set_option Elab.async false
set_option linter.all false
set_option maxRecDepth 100000
set_option maxHeartbeats 2000000
namespace L2
open PySem PySem.Spec PyProof.Rows PySem.W
open AutoSeq1 (wpAny_loadPart')
section
variable {prog : Program} {w : World} {A : Around} {E : Value → Shared → Prop} {s : Shared}
end
section
variable {X : Cx} {pins : List (Addr × Obj)} {σ : St} {H : Hp} {s : Shared} {h' : Heap}
end
section
variable {X : Cx} {elts : List Expr} {x1 : Nat} {tp : Pos}
end
section
variable {X : Cx}
end
end L2
end

section
set_option Elab.async false
set_option linter.all false
set_option maxRecDepth 100000
set_option maxHeartbeats 2000000
namespace L2
open PySem PySem.Spec PyProof.Rows PySem.W
structure ZA (z ti to u v a b : Addr) : Prop where
  q1 : ti ≠ z
  q2 : to ≠ z
  q3 : u ≠ z
  q4 : v ≠ z
  q5 : ti ≠ to
  q6 : ti ≠ u
  q7 : ti ≠ v
  q8 : to ≠ u
  q9 : to ≠ v
  p1 : u ≠ v
  p2 : a ≠ z
  p3 : a ≠ to
  p4 : a ≠ u
  p5 : a ≠ v
  p6 : b ≠ z
  p7 : b ≠ to
  p8 : b ≠ u
  p9 : b ≠ v
section
variable {prog : Program} {w : World} {A : Around} {E : Value → Shared → Prop} {s : Shared} {z ti to u v a b : Addr} {i : Nat} {f g : Array Value} {x y m n : Value}
end
section
variable {X : Cx} {pins : List (Addr × Obj)} {σ : St} {H : Hp} {s : Shared}
end
section
variable {X : Cx} {elts : List Expr} {x1 : Nat} {tp : Pos}
end
end L2
end

section
set_option Elab.async false
set_option linter.all false
set_option maxRecDepth 100000
set_option maxHeartbeats 2000000
namespace L2
open PySem PySem.Spec PyProof.Rows PySem.W
structure Fly (B : Heap) (l : List Env) (e : Addr) (cls : Value) (dd : Option Addr) (fl : Value) (h : Heap) : Prop where
  stays : B.StaysIn h
  new : B.get? e = none
  frames : h.FunFrames B l
  tr : ∃ oe vs T oT ts, h.get? e = some oe ∧ oe.cls = cls ∧ oe.dict = dd ∧ oe.data = .fields vs ∧ vs[1]? = some (.ref T) ∧ vs[2]? = some .none ∧ B.get? T = none ∧ T ≠ e ∧ h.get? T = some oT ∧ oT.data = .fields ts ∧ ts[3]? = some fl
theorem Fly.outer {B h : Heap} {env : Env} {l : List Env} {e : Addr} {cls fl : Value} {dd : Option Addr} (x : Fly B (env :: l) e cls dd fl h) : Fly B l e cls dd fl h := ⟨x.stays, x.new, x.frames.2.2, x.tr⟩
theorem dict_mapF (o : Obj) (f) : (o.mapFields f).dict = o.dict := by obtain ⟨c, d, dt, sl⟩ := o; cases dt <;> rfl
section
variable {M : Model} {A : Around} {E : Value → Shared → Prop} {s : Shared} {B : Heap} {env : Env} {outer l : List Env} {L e : Addr} {oe : Obj} {vs : Array Value} {head cls fl : Value} {dd : Option Addr} {hadNext : Bool} {Q : Unit → Shared → Prop}
theorem entry_made (hfr : A.frames = some (env :: outer)) (hl : s.heap.FunFrames B (env :: outer)) (hf : env.frame = some L) (he : s.heap.get? e = some oe) (kb : B.StaysIn s.heap) (en : B.get? e = none) (hd : oe.data = .fields vs) (hz : 1 < vs.size) (h2 : vs[2]? = some .none)
    (h : ∀ h', Fly B (env :: outer) e oe.cls oe.dict (rawInt L) h' → s.heap.UpToSlots h' → Q () { s with heap := h' }) :
    wpAny M A (do let a ← frameOf env; let pl ← entryPlaceOf L hadNext; let b ← EntryCells.newEntry head a .none (rawInt L) .none pl; setField (.ref e) 1 b) Q E s := by
  have out : e ∉ (env :: outer).filterMap (·.frame) := fun z => by
    obtain ⟨_, u, hu, nf⟩ := hl.mem z
    rw [he] at hu; cases hu; exact nf vs hd
  refine wpAny_bind (wpAny_frameOf_fun hfr hl hf fun g hg => wpAny_bind (wpAny_entryPlaceOf fun pl hpl => ?_))
  unfold EntryCells.newEntry newFields
  refine wpAny_bind (wpAny_newObj_type ?_ (hpl.sizeOk5 _ _ _ _ _))
  generalize hO : ({ cls := .type "traceback", dict := none, data := .fields ([head, .ref L, .none, rawInt L, .none] ++ (if pl.isEmpty then List.replicate 6 Value.none else pl)).toArray } : Obj) = O
  have hOd : ∃ ts, O.data = .fields ts ∧ ts[3]? = some (rawInt L) := ⟨_, by rw [← hO], by first | (simp; done) | (rcases hpl with rfl | ⟨_, _, _, _, _, _, _, rfl⟩ <;> simp)⟩
  have ge : g.get? e = some oe := (hg.2.1 e out).trans he
  have gB : B.StaysIn g := fun b o q => (hg.2.1 b fun z => by rw [(hl.mem z).1] at q; cases q).trans (kb b o q)
  have Te : g.objs.size ≠ e := Nat.ne_of_gt (Heap.lt_size ge)
  have pe : (g.push O).get? e = some oe := Heap.get?_push_of_some O ge
  obtain ⟨ts, hts, h3⟩ := hOd
  have pT : (g.push O).get? g.objs.size = some O := Heap.get?_push_size g (Obj.isFreed_of_fields hts)
  have mv : ∀ b o, b ≠ e → g.get? b = some o → ((g.push O).update e (Obj.mapFields (·.setIfInBounds 1 (Value.ref g.objs.size)))).get? b = some o := fun b o nb q =>
    (Heap.get?_update_other _ _ (Ne.symm nb)).trans (Heap.get?_push_of_some O q)
  have nr : ∀ b o, s.heap.get? b = some o → (∀ vs, o.data ≠ .fields vs) → b ≠ e := fun b o q nf z => by
    rw [z, he] at q; cases q; exact nf vs hd
  refine wpAny_setField pe hd hz (h _ ⟨fun b o q => mv b o (fun z => by rw [z, en] at q; cases q) (gB b o q), en, hl.of_keeps fun b o q nf => ?_, ?_⟩ fun b o q nf => ?_)
  · obtain ⟨sl, z⟩ := hg.2.2 b o q
    exact ⟨_, mv b _ (nr b o q nf) z, rfl⟩
  · have dd := Obj.data_mapFields hd (·.setIfInBounds 1 (Value.ref g.objs.size))
    refine ⟨_, _, g.objs.size, O, ts, Heap.get?_update_self _ pe (Obj.isFreed_of_fields dd), Obj.cls_mapFields _ _, dict_mapF _ _, dd, by simp [hz], by rw [Array.getElem?_setIfInBounds_ne (by decide)]; exact h2, gB.fresh, Te, (Heap.get?_update_other _ _ (Ne.symm Te)).trans pT, hts, h3⟩
  · obtain ⟨sl, z⟩ := hg.2.2 b o q
    exact ⟨sl, mv b _ (nr b o q nf) z⟩
theorem flight_off (x : Fly B l e cls dd fl s.heap) (h : ∀ h', Fly B l e cls dd .none h' → s.heap.UpToSlots h' → Q () { s with heap := h' }) : wpAny M A (setFlight (.ref e) none) Q E s := by
  obtain ⟨st, en, fr, oe, vs, T, oT, ts, he, hc, hdd, hd, h1, h2, nT, Te, hT, hdT, h3⟩ := x
  have z3 : 3 < ts.size := (Array.getElem?_eq_some_iff.mp h3).1
  have mv : ∀ b, b ≠ T → (s.heap.update T (Obj.mapFields (·.setIfInBounds 3 ((none : Option Addr).elim Value.none fun f => rawInt f)))).get? b = s.heap.get? b := fun b nb => Heap.get?_update_other _ _ (Ne.symm nb)
  have nr : ∀ b o, s.heap.get? b = some o → (∀ vs, o.data ≠ .fields vs) → b ≠ T := fun b o q nf z => by
    rw [z, hT] at q; cases q; exact nf ts hdT
  unfold setFlight
  refine wpAny_bind (wpAny_field he hd h1 ?_)
  rw [if_pos (show (Value.ref T != Value.none) = true by simp)]
  refine wpAny_setField hT hdT z3 (h _ ⟨fun b o q => (mv b fun z => by rw [z, nT] at q; cases q).trans (st b o q), en, fr.of_keeps fun b o q nf => ⟨o, (mv b (nr b o q nf)).trans q, rfl⟩, ?_⟩ fun b o q nf => ⟨o.slots, (mv b (nr b o q nf)).trans q⟩)
  have d3 := Obj.data_mapFields hdT (·.setIfInBounds 3 ((none : Option Addr).elim Value.none fun f => rawInt f))
  exact ⟨oe, vs, T, _, _, (mv e (Ne.symm Te)).trans he, hc, hdd, hd, h1, h2, nT, Te, Heap.get?_update_self _ hT (Obj.isFreed_of_fields d3), d3, by simp [z3]⟩
theorem note_new (hfr : A.frames = some (env :: outer)) (hl : s.heap.FunFrames B (env :: outer)) (hf : env.frame = some L) (he : s.heap.get? e = some oe) (kb : B.StaysIn s.heap) (en : B.get? e = none) (hd : oe.data = .fields vs) (h1 : vs[1]? = some .none) (h2 : vs[2]? = some .none)
    (h : ∀ h', Fly B (env :: outer) e oe.cls oe.dict (rawInt L) h' → s.heap.UpToSlots h' → Q () { s with heap := h' }) : wpAny M A (noteFrame (.ref e) env) Q E s := by
  unfold noteFrame
  simp only [hf]
  refine wpAny_bind (wpAny_field he hd h1 ?_)
  rw [if_neg (by decide)]
  exact entry_made hfr hl hf he kb en hd (Array.getElem?_eq_some_iff.mp h1).1 h2 h
theorem note_on (hfr : A.frames = some (env :: outer)) (hf : env.frame = some L) (x : Fly B (env :: outer) e cls dd .none s.heap) (h : ∀ h', Fly B (env :: outer) e cls dd (rawInt L) h' → s.heap.UpToSlots h' → Q () { s with heap := h' }) : wpAny M A (noteFrame (.ref e) env) Q E s := by
  obtain ⟨st, en, fr, oe, vs, T, oT, ts, he, hc, hdd, hd, h1, h2, nT, Te, hT, hdT, h3⟩ := x
  subst hc hdd
  have mv : ∀ b, b ≠ T → (s.heap.update T (Obj.mapFields (·.setIfInBounds 3 Value.none))).get? b = s.heap.get? b := fun b nb => Heap.get?_update_other _ _ (Ne.symm nb)
  have nr : ∀ b o, s.heap.get? b = some o → (∀ vs, o.data ≠ .fields vs) → b ≠ T := fun b o q nf z => by
    rw [z, hT] at q; cases q; exact nf ts hdT
  unfold noteFrame
  simp only [hf]
  refine wpAny_bind (wpAny_field he hd h1 ?_)
  rw [if_pos (show (Value.ref T != Value.none) = true by simp)]
  refine wpAny_bind (wpAny_field hT hdT h3 ?_)
  rw [if_neg (show ¬ ((Value.none == rawInt L) = true) by simp [rawInt])]
  refine wpAny_bind (wpAny_setField hT hdT (Array.getElem?_eq_some_iff.mp h3).1 ?_)
  refine entry_made hfr (fr.of_keeps fun b o q nf => ⟨o, (mv b (nr b o q nf)).trans q, rfl⟩) hf ((mv e (Ne.symm Te)).trans he) (fun b o q => (mv b fun z => by rw [z, nT] at q; cases q).trans (st b o q)) en hd (Array.getElem?_eq_some_iff.mp h1).1 h2
    fun h' y k => h h' y fun b o q nf => k b o ((mv b (nr b o q nf)).trans q) nf
theorem leave_new (hfr : A.frames = some (env :: outer)) (hl : s.heap.FunFrames B (env :: outer)) (hf : env.frame = some L) (he : s.heap.get? e = some oe) (kb : B.StaysIn s.heap) (en : B.get? e = none) (hd : oe.data = .fields vs) (h1 : vs[1]? = some .none) (h2 : vs[2]? = some .none)
    (h : ∀ h', Fly B outer e oe.cls oe.dict .none h' → s.heap.UpToSlots h' → Q () { s with heap := h' }) : wpAny M A (leaving env (.ref e)) Q E s := by
  unfold leaving
  exact wpAny_bind (note_new hfr hl hf he kb en hd h1 h2 fun h1 x k => flight_off x fun h2 y k2 => h h2 y.outer (k.trans k2))
end
end L2
end

section
set_option Elab.async false
set_option linter.all false
set_option maxRecDepth 100000
set_option maxHeartbeats 2000000
namespace L2
open PySem PySem.Spec PyProof.Rows PySem.W
theorem ObjOk.there {P : Program} {w : World} {H : Hp} {h : Heap} {a : Addr} {o : HO} (x : ObjOk P w H h a o) : ∃ u, h.get? a = some u := by
  cases o with
  | lst xs => obtain ⟨_, _, _, _, e⟩ := x; exact ⟨_, e⟩
  | tup xs => obtain ⟨_, _, _, _, e, _⟩ := x; exact ⟨_, e⟩
  | dK kvs => obtain ⟨_, _, _, _, o, _, _, e, _⟩ := x; exact ⟨_, e⟩
  | dT kvs => obtain ⟨_, _, _, _, o, _, _, e, _⟩ := x; exact ⟨_, e⟩
  | set S n => obtain ⟨o, _, _, _, e, _⟩ := x; exact ⟨_, e⟩
  | ins C dx fs => obtain ⟨_, _, _, e, _⟩ := x; exact ⟨_, e⟩
  | own y => exact x
  | xd fs => obtain ⟨_, ⟨_, _, _, e, _⟩, _⟩ := x; exact ⟨_, e⟩
  | rng lo hi => obtain ⟨_, _, _, e⟩ := x; exact ⟨_, e⟩
  | frz ob u => obtain ⟨e, _⟩ := x; exact ⟨_, e⟩
  | tbl ps => exact ⟨_, (show h.get? a = some _ from x)⟩
  | met f y => exact ⟨_, (show h.get? a = some _ from x)⟩
  | ext φ => obtain ⟨_, e, _⟩ := x; exact e
structure ExB (P : Program) (w : World) (outer : List Env) (H : Hp) (s : Shared) (a : Addr) (cls : Value) (dd : Option Addr) (H' : Hp) (s' : Shared) (B : Heap) : Prop where
  os : s'.os = s.os
  bare : AllBare s'.gens
  un : Un (frs outer) [] H H' s.heap s'.heap
  hok : HOk P w H' s'.heap
  fly : Fly B outer a cls dd .none s'.heap
  na : H' a = none
  trk : ∀ b u, H' b = some u → ∃ o, B.get? b = some o
  kp : ∀ b o, s.heap.get? b = some o → b ∉ frs outer → H b = none → B.get? b = some o
  th : ∀ b o, s.heap.get? b = some o → b ∉ frs outer → ∃ o', B.get? b = some o'
def CXE (P : Program) (w : World) : CXT := fun outer H s E e s' => ∃ (a : Addr) (cls : Value) (dd : Option Addr) (H' : Hp) (B : Heap), e = .ref a ∧ ExB P w outer H s a cls dd H' s' B ∧ E cls dd H'
section
variable {X : Cx} {pins : List (Addr × Obj)} {σ : St} {H1 H' : Hp} {s1 s2 : Shared} {e : Addr} {oe : Obj} {vs : Array Value} {Q : Unit → Shared → Prop} {E : Value → Shared → Prop} {cls : Value} {dd : Option Addr} {B : Heap}
theorem Inv.nst (I : Inv X pins σ H1 s1) {b : Addr} {o : Obj} (q : X.s₀.heap.get? b = some o) (nb : b ∉ frs X.outer) : b ∉ frs X.stack := fun z => by
  rcases List.mem_cons.mp (I.stkSub b z) with z | z
  · exact absurd (Nat.lt_of_lt_of_le (Heap.lt_size q) I.ok.above) (by rw [z]; exact Nat.lt_irrefl _)
  · exact nb z
theorem Inv.osub (I : Inv X pins σ H1 s1) {b : Addr} (z : b ∈ frs X.outer) : b ∈ frs X.stack := by
  rcases I.ok.stk with e | ⟨e, hf⟩
  · rw [e]; exact z
  · rw [e]; unfold frs; rw [List.filterMap_cons, hf]; exact List.mem_cons_of_mem _ z
theorem Inv.raised (I : Inv X pins σ H1 s1) (hst : X.stack = X.env :: X.outer) (hf : X.env.frame = some X.env.locals) (hex : X.ex = []) (he : s1.heap.get? e = some oe) (hd : oe.data = .fields vs) (h1 : vs[1]? = some .none) (h2 : vs[2]? = some .none) (ne : H1 e = none)
    (en : ∀ b o, X.s₀.heap.get? b = some o → b ≠ e) (q : ∀ s2 B, ExB X.prog X.w X.outer X.H₀ X.s₀ e oe.cls oe.dict H1 s2 B → Q () s2) : wpAny (model X.prog X.w) X.A (leaving X.env (.ref e)) Q E s1 := by
  have hfr : X.A.frames = some (X.env :: X.outer) := by rw [← hst]; exact I.ok.frames
  have hl : s1.heap.FunFrames (hideAll s1.heap (e :: frs X.stack)) (X.env :: X.outer) := by
    rw [← hst]
    exact funFrames_hide I.stack fun env he b hb => List.mem_cons_of_mem _ (List.mem_filterMap.mpr ⟨env, he, hb⟩)
  have nex : ∀ b : Addr, b ∉ X.ex := fun b => by rw [hex]; simp
  refine leave_new hfr hl hf he (fun b o z => of_hideAll _ z) (hideAll_none _ (.head _)) hd h1 h2 fun h' x k => q _ (hideAll s1.heap (e :: frs X.stack)) ?_
  have kB : ∀ b o, s1.heap.get? b = some o → b ≠ e → b ∉ frs X.stack → (hideAll s1.heap (e :: frs X.stack)).get? b = some o := fun b o z n1 n2 => hideAll_get _ z fun m => by
    rcases List.mem_cons.mp m with m | m
    · exact n1 m
    · exact n2 m
  have kF : ∀ b o, s1.heap.get? b = some o → b ∈ frs X.stack → ∃ sl, h'.get? b = some { o with slots := sl } := fun b o z m => by
    obtain ⟨_, u, hu, nf⟩ := I.stack.mem m
    rw [z] at hu; cases hu
    exact k b _ z nf
  have kT : ∀ b u, H1 b = some u → ∀ o, s1.heap.get? b = some o → (hideAll s1.heap (e :: frs X.stack)).get? b = some o := fun b u t o z => kB b o z (fun m => by rw [m, ne] at t; cases t) fun m => by rw [I.stkFree b m] at t; cases t
  refine ⟨I.os, I.bare, ⟨fun b o z n hb _ => ?_, fun b o z n hb _ => ?_, fun b o z n _ => I.base.free b o z n (nex b), fun b o z _ => ?_, I.base.tups, I.base.frzs, I.base.tbls⟩, fun b o t => ?_, x, ne, fun b u t => ?_, fun b o z hb n => ?_, fun b o z hb => ?_⟩
  · exact x.stays b o (kB b o (I.base.keep b o z n hb (nex b)) (en b o z) (I.nst z hb))
  · obtain ⟨sl, e1⟩ := I.base.slot b o z n hb (nex b)
    obtain ⟨sl2, e2⟩ := kF b _ e1 (I.osub hb)
    exact ⟨sl2, e2⟩
  · obtain ⟨o1, e1⟩ := I.base.there b o z (nex b)
    by_cases m : b ∈ frs X.stack
    · obtain ⟨sl2, e2⟩ := kF b _ e1 m
      exact ⟨_, e2⟩
    · exact ⟨o1, x.stays b o1 (kB b o1 e1 (en b o z) m)⟩
  · refine (I.hok b o t).stay (fun c u hc z => x.stays c u ?_) (fun _ r => r) fun _ _ r => r
    rcases hc with rfl | hc
    · exact kT c _ t u z
    · exact kT c _ hc u z
  · obtain ⟨o, z⟩ := (I.hok b u t).there
    exact ⟨o, kT b u t o z⟩
  · exact kB b o (I.base.keep b o z n hb (nex b)) (en b o z) (I.nst z hb)
  · obtain ⟨o1, e1⟩ := I.base.there b o z (nex b)
    exact ⟨o1, kB b o1 e1 (en b o z) (I.nst z hb)⟩
end
end L2
end

section
set_option Elab.async false
set_option linter.all false
set_option maxRecDepth 100000
set_option maxHeartbeats 2000000
namespace L2
open PySem PySem.Spec PyProof.Rows PySem.W
def Lets (X : Cx) (E : XK) : Prop := ∀ (pins : List (Addr × Obj)) (σ : St) (H : Hp) (s : Shared) (e : Addr) (oe : Obj) (vs : Array Value), Inv X pins σ H s → s.heap.get? e = some oe → oe.data = .fields vs → vs[1]? = some .none → vs[2]? = some .none → H e = none →
  (∀ b o, X.s₀.heap.get? b = some o → b ≠ e) → E oe.cls oe.dict H → X.xe (.ref e) s
section
variable {P : Program} {w : World} {K : PySem.W.Frag} {mg : Str → Option Value} {base : Heap} {N : List Str} {qual : Str} {scope : Scope} {f : Addr} {cd : Value} {A : Around} {outer : List Env} {s : Shared} {H : Hp} {E : XK}
theorem lets_cx : Lets (cxOf (CXE P w) P w K mg base N qual scope f cd A outer s H E) E := fun pins σ H1 s1 e oe vs I he hd h1 h2 ne en q =>
  I.raised rfl rfl rfl he hd h1 h2 ne en fun s2 B x => ⟨e, _, _, _, B, rfl, x, q⟩
end
structure DefX (P : Program) (w : World) (K : PySem.W.Frag) (mg : Str → Option Value) (base : Heap) (name : Str) (k : Nat) (ps : List Str) (sp : Sp) : Prop where
  ex : ∃ f fd, FnOk P w K mg base (CXE P w) k f fd ps sp ∧ Binds K fd ps [] ∧ mg name = some (.ref f) ∧ PySem.W.keepIn K (.ref f) = true
theorem Fun.qokX {P : Program} {w : World} {K : PySem.W.Frag} {mg : Str → Option Value} {base : Heap} {x qual : Str} {st : Stmt} {f : Addr} {fd : FuncData} {N ps : List Str} {k : Nat} {sp : Sp} (F : Fun K x qual st f fd) (S : FnScope N ps (defScope st)) (len : ∀ vs H Q E, sp vs H Q E → vs.length = ps.length)
    (hbody : ∀ (cdv : Value) (A : Around) (outer : List Env) (s : Shared) (H : Hp) (vs : List V) (Q : VK) (E : XK), Room k (A.deeper (envOfC qual (defScope st) s.heap.objs.size f cdv)) → sp vs H Q E →
      ∃ t, QSs (cxOf (CXE P w) P w K mg base N qual (defScope st) f cdv A outer s H E) (defBody st) t ∧ t { nx := fun _ H' => Q .non H', rt := Q } (start N vs) H) : FnOk P w K mg base (CXE P w) (k + 1) f fd ps sp := by
  obtain ⟨oc, od, kV, doc, pm, an, cdv, ct, osl, rfl, lk, hcd⟩ := F.ex
  refine fn_of lk hcd S len fun A outer s H vs Q E hr hsp => ?_
  obtain ⟨t, h, q⟩ := hbody cdv A outer s H vs Q E hr hsp
  exact ⟨t, h.out, q⟩
theorem DefAt.qokX {P : Program} {w : World} {K : PySem.W.Frag} {mg : Str → Option Value} {base : Heap} {name : Str} {st : Stmt} {N ps : List Str} {k : Nat} {sp : Sp} (D : DefAt K mg name st ps) (S : FnScope N ps (defScope st)) (len : ∀ vs H Q E, sp vs H Q E → vs.length = ps.length)
    (hbody : ∀ (f : Addr) (cdv : Value) (A : Around) (outer : List Env) (s : Shared) (H : Hp) (vs : List V) (Q : VK) (E : XK), Room k (A.deeper (envOfC name (defScope st) s.heap.objs.size f cdv)) → sp vs H Q E →
      ∃ t, QSs (cxOf (CXE P w) P w K mg base N name (defScope st) f cdv A outer s H E) (defBody st) t ∧ t { nx := fun _ H' => Q .non H', rt := Q } (start N vs) H) : DefX P w K mg base name (k + 1) ps sp := by
  obtain ⟨f, fd, F, b, g⟩ := D.ex
  exact ⟨f, fd, F.qokX S len (hbody f), b, g, F.kp⟩
def PassesS (CX : CXT) (X : Cx) (E : XK) (S : St → Prop) : Prop := ∀ (pins : List (Addr × Obj)) (σ : St) (H : Hp) (s : Shared) (e : Value) (s' : Shared), Inv X pins σ H s → S σ → CX X.stack H s E e s' → X.xe e s'
def tCallS (sp : Sp) (E : XK) (S : St → Prop) (t : TA) : TE := fun σ H Q => S σ ∧ t σ H fun vs H1 => sp vs H1 Q E
section
variable {X : Cx} {CX : CXT} {k : Nat} {f C : Addr} {fd : FuncData} {ps : List Str} {sp : Sp} {E : XK} {S : St → Prop} {x : Str} {p pos : Pos} {e : Expr} {es : List Expr} {t : TA}
theorem qe_ownS (D : DefX X.prog X.w X.K X.mg X.base x k ps sp) (hr : Room k X.A) (hg : Gl X x) (hx : PassesS (CXE X.prog X.w) X E S) (ha : QA X (e :: es) t) (hdb : (x == ("__debug__" : Str)) = false := by decide)
    (hs : starEach (e :: es) X.env = (false, eval e X.env) :: starEach es X.env := by rfl) (hpl : (backTo pos (starEach es X.env)).any (·.1) = false := by rfl) :
    QE X (.Call (.Name x p) (e :: es) [] pos) (tCallS sp E S t) := ⟨by
  obtain ⟨f, fd, F, hb, hm, hk⟩ := D.ex
  intro pins s σ H Q I h
  obtain ⟨hS, h⟩ := h
  refine wpAny_Call_Name_kw (ld_glob I hg hm ?_ hdb)
  refine PySem.W.callWith_K (h₀ := X.base) I.ok.mod.kin hk (thn (ha.out pos pins s σ H _ I h) fun us s1 ⟨vs, H1, I1, r, q⟩ => ⟨I1.kIn, ?_⟩) hs hpl
  have hl : us.length = ps.length := by rw [← r.length]; exact F.len _ _ _ _ q
  have hB := hb s1 us I1.kIn (by rw [List.append_nil]; exact hl)
  rw [List.append_nil] at hB
  refine wpAny_call (codeAny_mono (F.run X.A X.stack s1 H1 ⟨us, []⟩ us vs Q E hr I1.env0 hB r q) fun r s' hq => ?_)
  cases r with
  | error e => exact hx pins σ H1 s1 e s' I1 hS hq
  | ok fl =>
    cases fl with
    | ret u => exact I1.after hq
    | next => exact False.elim hq
    | brk => exact False.elim hq
    | cont => exact False.elim hq⟩
end
abbrev vErr : List Value := [.type "ValueError", .type "Exception", .type "BaseException", .type "object"]
section
variable {X : Cx} {C : Addr} {E : XK} {x : Str} {np cpos pos : Pos} {e : Expr} {es : List Expr} {t : TA}
end
end L2
end

section
set_option Elab.async false
set_option linter.all false
set_option maxRecDepth 100000
set_option maxHeartbeats 2000000
namespace L2
open PySem PySem.Spec PyProof.Rows PySem.W
def ExcO (a : Addr) (cls : Value) (dd : Option Addr) : Heap → Prop := fun h => ∃ oe vs, h.get? a = some oe ∧ oe.cls = cls ∧ oe.dict = dd ∧ oe.data = .fields vs ∧ vs[2]? = some .none
section
variable {X : Cx} {pins : List (Addr × Obj)} {σ : St} {H H' : Hp} {s s' : Shared} {a : Addr} {cls fl : Value} {dd : Option Addr} {B h3 : Heap}
theorem Inv.caught (I : Inv X pins σ H s) (x : ExB X.prog X.w X.stack H s a cls dd H' s' B) (y : Fly B X.stack a cls dd fl h3) (k : s'.heap.UpToSlots h3) : Inv X pins σ (upd H' a (.ext (ExcO a cls dd))) { s' with heap := h3 } := by
  have n0 : ∀ b : Addr, b ∉ ([] : List Addr) := fun b => by simp
  obtain ⟨oe, vs, T, oT, ts, he, hc, hdd, hd, _, h2, _⟩ := y.tr
  have kF : ∀ b o, s.heap.get? b = some o → b ∈ frs X.stack → (∃ sl, h3.get? b = some { o with slots := sl }) ∧ ∀ vs, o.data ≠ .fields vs := fun b o z m => by
    obtain ⟨_, u, hu, nf⟩ := I.stack.mem m
    rw [z] at hu; cases hu
    obtain ⟨sl2, e2⟩ := x.un.slot b _ z (I.stkFree b m) m (n0 b)
    obtain ⟨sl3, e3⟩ := k b _ e2 nf
    exact ⟨⟨sl3, e3⟩, nf⟩
  have na : ∀ b o, s.heap.get? b = some o → b ≠ a := fun b o z m => by
    by_cases hb : b ∈ frs X.stack
    · obtain ⟨⟨sl, e3⟩, nf⟩ := kF b o z hb
      rw [m, he] at e3
      cases e3
      exact nf vs hd
    · obtain ⟨o', e'⟩ := x.th b o z hb
      rw [m, y.new] at e'; cases e'
  have nt : ∀ b u, H' b = some u → b ≠ a := fun b u z m => by rw [m, x.na] at z; cases z
  have kT : ∀ c u v, H' c = some v → s'.heap.get? c = some u → h3.get? c = some u := fun c u v t z => by
    obtain ⟨o', hB⟩ := x.trk c v t
    have := x.fly.stays c o' hB
    rw [z] at this; cases this
    exact y.stays c u hB
  refine I.call' (s' := { s' with heap := h3 }) (ch := []) x.os ⟨fun b o z n hb _ => y.stays b o (x.kp b o z hb n), fun b o z n hb _ => (kF b o z hb).1, fun b o z n _ => ?_, fun b o z _ => ?_, fun b xs t => ?_, fun b o u t => ?_, fun b ps t => ?_⟩ (fun b o t => ?_) x.bare fun b z => absurd z (by simp)
  · rw [upd_ne (na b o z)]
    exact x.un.free b o z n (n0 b)
  · by_cases m : b ∈ frs X.stack
    · obtain ⟨⟨sl, e3⟩, _⟩ := kF b o z m
      exact ⟨_, e3⟩
    · obtain ⟨o', e1⟩ := x.th b o z m
      exact ⟨o', y.stays b o' e1⟩
  · have t' := x.un.tups b xs t
    rw [upd_ne (nt b _ t')]; exact t'
  · have t' := x.un.frzs b o u t
    rw [upd_ne (nt b _ t')]; exact t'
  · obtain ⟨more, t'⟩ := x.un.tbls b ps t
    exact ⟨more, by rw [upd_ne (nt b _ t')]; exact t'⟩
  · by_cases hb : b = a
    · subst hb
      rw [upd_same] at t
      cases t
      exact ⟨⟨oe, vs, he, hc, hdd, hd, h2⟩, ⟨oe, he⟩, fun h h' ⟨oe, vs, e1, e2, e3, e4⟩ q => ⟨oe, vs, q oe e1, e2, e3, e4⟩⟩
    · rw [upd_ne hb] at t
      refine (x.hok b o t).stay (fun c u hc z => ?_) (fun c r => by rw [upd_ne (nt c _ r)]; exact r) fun c xs r => by rw [upd_ne (nt c _ r)]; exact r
      rcases hc with rfl | hc
      · exact kT c u _ t z
      · exact kT c u _ hc z
theorem Inv.unbound {i : Nat} {n : Str} {m : Str → Option Value} {v : Option Value} {h' : Heap} (I : Inv X pins σ H s) (hN : X.N.Nodup) (hi : X.N[i]? = some n) (hk : X.env.kindOf n = some .local)
    (hm : s.heap.Ns X.env.locals m) (hn : h'.Ns X.env.locals (fun y => if y = n then v else m y)) (hs : Heap.SameBut X.env.locals s.heap h') : Inv X pins (σ.set i none) H { s with heap := h', toks := s.toks + 1 } := by
  have ab : ∀ b o, X.s₀.heap.get? b = some o → b ≠ X.env.locals := fun b o e => Nat.ne_of_lt (Nat.lt_of_lt_of_le (Heap.lt_size e) I.ok.above)
  obtain ⟨m1, hm1, hl⟩ := I.loc
  have em : m1 = m := by
    obtain ⟨o1, es1, ep1, g1, d1, _, f1⟩ := hm1
    obtain ⟨o2, es2, ep2, g2, d2, _, f2⟩ := hm
    rw [g1] at g2; cases g2
    rw [d1] at d2; cases d2
    funext y; rw [← f1 y, ← f2 y]
  subst em
  refine ⟨I.ok, I.os, I.bare, ⟨fun b o e n hb hx => (hs.2 b (ab b o e)).trans (I.base.keep b o e n hb hx), fun b o e n hb hx => ?_, I.base.free, fun b o e hx => ?_, I.base.tups, I.base.frzs, I.base.tbls⟩, ⟨_, hn, fun j y v' e1 e2 e3 => ?_⟩, fun y c e => ?_, I.free, I.freeC, fun p hp => ?_, fun b ob e => ?_, by simpa using I.len⟩
  · obtain ⟨sl, e1⟩ := I.base.slot b o e n hb hx
    exact ⟨sl, (hs.2 b (ab b o e)).trans e1⟩
  · obtain ⟨o', e1⟩ := I.base.there b o e hx
    exact ⟨o', (hs.2 b (ab b o e)).trans e1⟩
  · have hj : j ≠ i := fun z => by
      subst z
      rw [List.getElem?_set] at e2
      simp only [if_true] at e2
      split at e2 <;> simp at e2
    rw [List.getElem?_set_ne (Ne.symm hj)] at e2
    obtain ⟨u, r, l⟩ := hl j y v' e1 e2 e3
    refine ⟨u, r, ?_⟩
    have yn : y ≠ n := fun z => hj (nodup_ix hN e1 (z ▸ hi))
    rcases l with ⟨a1, a2⟩ | ⟨a1, c, a2, a3⟩
    · exact .inl ⟨a1, by simp [yn, a2]⟩
    · exact .inr ⟨a1, c, a2, a3.sameBut hs (I.cne y c a2)⟩
  · obtain ⟨w', z⟩ := I.cell y c e
    exact ⟨w', z.sameBut hs (I.cne y c e)⟩
  · obtain ⟨e, n, ne, nf, d⟩ := I.pin p hp
    exact ⟨(hs.2 p.1 ne).trans e, n, ne, nf, d⟩
  · refine (I.hok b ob e).stay (fun c w' hc q => (hs.2 c ?_).trans q) (fun _ q => q) fun _ _ q => q
    rintro rfl
    rcases hc with rfl | hc
    · rw [I.free] at e; cases e
    · rw [I.free] at hc; cases hc
end
abbrev Cx.tried (X : Cx) (pn : List (Addr × Obj)) (xe : Value → Shared → Prop) : Cx := { X with pn := pn, xe := xe }
abbrev Cx.held (X : Cx) (a : Addr) : Cx := { X with A := X.A.mark (some (.ref a)), calm := false, xe := fun _ _ => False }
section
variable {X : Cx} {pins pins' pn : List (Addr × Obj)} {σ : St} {H : Hp} {s : Shared} {xe : Value → Shared → Prop} {a : Addr}
theorem Inv.tried (I : Inv X pins σ H s) (xe : Value → Shared → Prop) : Inv (X.tried (X.pn ++ pins) xe) [] σ H s :=
  ⟨⟨I.ok.mod, I.ok.kind, I.ok.glob, I.ok.blt, I.ok.above, I.ok.inj, I.ok.has, I.ok.cab, I.ok.hd, I.ok.frames, I.ok.stk, I.ok.exf, I.ok.bs, I.ok.bsz, I.ok.noex, I.ok.exfs, I.ok.funs, I.ok.frf⟩, I.os, I.bare, I.base, I.loc, I.cell, I.free, I.freeC, fun p hp => I.pin p (by simpa using hp), I.hok, I.len⟩
theorem Inv.untried (I : Inv (X.tried (X.pn ++ pins) xe) pins' σ H s) : Inv X pins σ H s :=
  ⟨⟨I.ok.mod, I.ok.kind, I.ok.glob, I.ok.blt, I.ok.above, I.ok.inj, I.ok.has, I.ok.cab, I.ok.hd, I.ok.frames, I.ok.stk, I.ok.exf, I.ok.bs, I.ok.bsz, I.ok.noex, I.ok.exfs, I.ok.funs, I.ok.frf⟩, I.os, I.bare, I.base, I.loc, I.cell, I.free, I.freeC, fun p hp => I.pin p (List.mem_append_left _ hp), I.hok, I.len⟩
theorem SP.untried {D : Ends} {f : Flow} (h : SP (X.tried (X.pn ++ pins) xe) pins' D f s) : SP X pins D f s := by
  cases f with
  | next => obtain ⟨σ', H', I, q⟩ := h; exact ⟨σ', H', I.untried, q⟩
  | brk => obtain ⟨σ', H', I, q⟩ := h; exact ⟨σ', H', I.untried, q⟩
  | cont => obtain ⟨σ', H', I, q⟩ := h; exact ⟨σ', H', I.untried, q⟩
  | ret u => obtain ⟨v, σ', H', I, r, q⟩ := h; exact ⟨v, σ', H', I.untried, r, q⟩
theorem Inv.held (I : Inv X pins σ H s) (a : Addr) : Inv (X.held a) pins σ H s :=
  ⟨⟨I.ok.mod, I.ok.kind, I.ok.glob, I.ok.blt, I.ok.above, I.ok.inj, I.ok.has, I.ok.cab, (fun z => nomatch z), I.ok.frames, I.ok.stk, I.ok.exf, I.ok.bs, I.ok.bsz, I.ok.noex, I.ok.exfs, I.ok.funs, I.ok.frf⟩, I.os, I.bare, I.base, I.loc, I.cell, I.free, I.freeC, I.pin, I.hok, I.len⟩
theorem Inv.unheld (I : Inv (X.held a) pins σ H s) (ok : X.Ok) : Inv X pins σ H s := ⟨ok, I.os, I.bare, I.base, I.loc, I.cell, I.free, I.freeC, I.pin, I.hok, I.len⟩
end
def unb (i : Nat) (D : Ends) : Ends := { nx := fun σ H => D.nx (σ.set i none) H, rt := D.rt, bk := fun σ H => D.bk (σ.set i none) H, ct := fun σ H => D.ct (σ.set i none) H }
def tTryA (K : PySem.W.Frag) (C : Addr) (i : Nat) (tb : XK → St → TS) (th : Addr → TS) : TS := fun D σ H => ∃ E : XK, tb E σ D σ H ∧ ∀ (a : Addr) (cls : Value) (dd : Option Addr) (H' : Hp), E cls dd H' → H' a = none →
  exmOne K cls (.ref C) = some true ∧ th a (unb i D) (σ.set i (some (.ref a))) (upd H' a (.ext (ExcO a cls dd)))
section
variable {X : Cx} {C : Addr} {x n : Str} {np hpos pos : Pos} {body suite : List Stmt} {b0 : Stmt} {i : Nat} {tb : XK → St → TS} {th : TS} {thA : Addr → TS}
theorem qs_tryA (hst : X.stack = X.env :: X.outer) (hf : X.env.frame = some X.env.locals) (hg : Gl X x) (hm : X.mg x = some (.ref C)) (hN : X.N.Nodup) (hi : X.N[i]? = some n) (hk : X.env.scope.names.lookup n = some .local)
    (hb : ∀ (pn : List (Addr × Obj)) (xe : Value → Shared → Prop) (E : XK) (σ0 : St), PassesOwn (model X.prog X.w) X.A X.env xe → PassesS (CXE X.prog X.w) (X.tried pn xe) E (· = σ0) → QSs (X.tried pn xe) body (tb E σ0))
    (hh : ∀ a, QSs (X.held a) (b0 :: suite) (thA a)) (hdb : (x == ("__debug__" : Str)) = false := by decide) :
    QS X (.Try body [.ExceptHandler (some (.Name x np)) (some n) (b0 :: suite) hpos] [] [] pos) (tTryA X.K C i tb thA) := ⟨by
  intro pins s σ H D I h
  obtain ⟨E, hbody, hcatch⟩ := h
  have hp : PassesOwn (model X.prog X.w) X.A X.env (fun e s₁ => wpAny (model X.prog X.w) X.A (noteFrame e X.env) (fun _ s₂ => wpAny (model X.prog X.w) X.A (setFlight e none) (fun _ s₃ => wpAny (model X.prog X.w) X.A (handleBy e X.env [.ExceptHandler (some (.Name x np)) (some n) (b0 :: suite) hpos]) (SP X pins D) X.xe s₃) X.xe s₂) X.xe s₁) := PassesOwn.looking
  have hP : PassesS (CXE X.prog X.w) (X.tried (X.pn ++ pins) (fun e s₁ => wpAny (model X.prog X.w) X.A (noteFrame e X.env) (fun _ s₂ => wpAny (model X.prog X.w) X.A (setFlight e none) (fun _ s₃ => wpAny (model X.prog X.w) X.A (handleBy e X.env [.ExceptHandler (some (.Name x np)) (some n) (b0 :: suite) hpos]) (SP X pins D) X.xe s₃) X.xe s₂) X.xe s₁)) E (· = σ) := by
    intro pins' σ' H1 s1 e s2 I1 hσ hq
    obtain ⟨a, cls, dd, H', B, ea, ex, q⟩ := hq
    subst ea
    have J := I1.untried
    have hσ : σ' = σ := hσ
    subst hσ
    have fl : Fly B (X.env :: X.outer) a cls dd .none s2.heap := by rw [← hst]; exact ex.fly
    have hfr : X.A.frames = some (X.env :: X.outer) := by rw [← hst]; exact J.ok.frames
    obtain ⟨hmt, hsu⟩ := hcatch a cls dd H' q ex.na
    refine note_on hfr hf fl fun h1 y1 k1 => flight_off y1 fun h2 y2 k2 => ?_
    have I2 := J.caught ex (by rw [hst]; exact y2) (k1.trans k2)
    refine wpAny_handleBy_cons (codeAny_handlers_test (ld_glob (X := X.held a) (I2.held a) hg hm ?_ hdb)) (by intro q; cases q)
    have LT : Looks (model X.prog X.w) h2 (typeOf (.ref a)) cls := by
      obtain ⟨oe, _, _, _, _, he, hc, _⟩ := y2.tr
      exact hc ▸ (Looks.ld he).andThen .now
    refine (exm_one (K := X.K) I2.kIn LT hmt).here ?_
    refine codeAny_handlers_suite_as (flight_off y2 fun h3 y3 k3 => ?_)
    have I3 := J.caught ex (by rw [hst]; exact y3) ((k1.trans k2).trans k3)
    refine store_ok (X := X.held a) (I3.held a) hN hi (.inl hk) (v := .ref a) rfl (fun s4 I4 => ?_) (.inr hk)
    refine wpAny_mono ((hh a).out pins s4 _ _ (unb i D) I4 hsu) (fun f s5 hs => ?_) fun _ _ z => z.elim
    have hcls : (X.env.scope.kind == .class || (X.env.scope.kind == .module && X.env.locals != X.env.globals)) = false := by rw [J.ok.kind]; rfl
    have fin : ∀ {σ5 : St} {H5 : Hp} {Q : Unit → Shared → Prop}, Inv (X.held a) pins σ5 H5 s5 → (∀ s6, Inv X pins (σ5.set i none) H5 s6 → Q () s6) → wpAny (model X.prog X.w) X.A (do bindName X.env n .none; unbindBehindTheSuite X.env n hpos) Q X.xe s5 := fun I5 hQ => by
      have I5' := I5.unheld J.ok
      obtain ⟨m, hm5, _⟩ := id I5'.loc
      exact wpAny_nameGoes_keeps hk hm5 hcls fun h' v hn hs => hQ _ (I5'.unbound hN hi hk hm5 hn hs)
    cases f with
    | next => obtain ⟨σ5, H5, I5, q5⟩ := hs; exact fin I5 fun s6 I6 => ⟨_, _, I6, q5⟩
    | brk => obtain ⟨σ5, H5, I5, q5⟩ := hs; exact fin I5 fun s6 I6 => ⟨_, _, I6, q5⟩
    | cont => obtain ⟨σ5, H5, I5, q5⟩ := hs; exact fin I5 fun s6 I6 => ⟨_, _, I6, q5⟩
    | ret u => obtain ⟨v, σ5, H5, I5, r5, q5⟩ := hs; exact fin I5 fun s6 I6 => ⟨v, _, _, I6, r5, q5⟩
  refine wpAny_Try_except (wpAny_mono ((hb _ _ E σ hp hP).out [] s σ H D (I.tried _) hbody) (fun f s1 hs => ?_) fun e s1 z => z)
  have hs := hs.untried
  cases f with
  | next =>
    obtain ⟨σ', H', I', q⟩ := hs
    exact (qss_nil (X := X)).out pins s1 σ' H' D I' q
  | brk => exact hs
  | cont => exact hs
  | ret u => exact hs⟩
end
end L2
end

section
set_option Elab.async false
set_option linter.all false
set_option maxRecDepth 100000
set_option maxHeartbeats 2000000
namespace L2
open PySem PySem.Spec PyProof.Rows PySem.W
structure ExcIs (K : PySem.W.Frag) (C : Addr) : Prop where
  cl : (clsIn K C).isSome = true
  ga : findIn K (.ref C) "__getattribute__" = some (some (.builtin "BaseException.__getattribute__"))
  gx : findIn K (.ref C) "__getattr__" = some none
  ha : findIn K (.ref C) "__class__" = some (some (.builtin "object.__class__"))
  hn : specialIn K (.builtin "object.__class__") "__get__" = some (some (.builtin "getset_descriptor.__get__"))
  ht : takesIn K (.builtin "object.__class__") = some true
  hm : mroIn K C (.type "object") = some true
  hb : mroIn K C (.type "BaseException") = some true
section
variable {prog : Program} {w : World} {A : Around} {E : Value → Shared → Prop} {s : Shared} {K : PySem.W.Frag} {x C : Addr} {ox : Obj} {odo : Option Obj}
theorem exc_find (T : ExcIs K C) : findObj K C odo "__class__" = some (.bind (.builtin "getset_descriptor.__get__") (.builtin "object.__class__")) := by
  obtain ⟨cd, hc⟩ := Option.isSome_iff_exists.mp T.cl
  unfold findObj
  rw [hc, Option.bind_some, T.ha, Option.bind_some]
  simp [T.hn, T.ht]
theorem exc_entry {tk : Tok} {Q : Fin → Shared → Prop} (T : ExcIs K C) (X : K.In s.heap) (I : InstAt s.heap x ox C odo) (h : Q (.done (.ret (.ref C))) s) :
    wpAny (model prog w) A (Builtin.«object.__getattribute__» ⟨[.ref x, .str "__class__" tk], []⟩) Q E s := by
  obtain ⟨hh, g, d, t, os⟩ := s
  have L0 := I.type (M := model prog w)
  have L1 := looks_find (M := model prog w) X I (exc_find T)
  unfold Builtin.«object.__getattribute__»
  repeat (first | with_reducible refine wpAny_call (class_get X I T.hm ?_) | lk)
  exact h
theorem exc_class {Q : Option Value → Shared → Prop} (T : ExcIs K C) (X : K.In s.heap) (I : InstAt s.heap x ox C odo) (h : Q (some (.ref C)) { s with toks := s.toks + 1 }) : wpAny (model prog w) A (getAttr? (.ref x) "__class__") Q E s := by
  obtain ⟨hh, g, d, t, os⟩ := s
  have L0 := I.type (M := model prog w)
  have L1 := looks_findIn (M := model prog w) X T.ga
  have L2 := looks_findIn (M := model prog w) X T.gx
  unfold getAttr? getAttrBy? getAttrBy
  refine wpAny_bind (wpAny_mkText (wpAny_bind (wpAny_attempt (wpAny_holding (wpAny_bind (L0.at (wpAny_bind (L1.at ?_))))))))
  show wpAny _ _ (getAttrByItsOwn _ _ _ _ _ _) _ _ _
  unfold getAttrByItsOwn hookBefore
  rw [if_pos (show onTheHeap (Value.ref C) = true from rfl)]
  refine wpAny_bind (L2.at (wpAny_bind (wpAny_attempt (wpAny_holding ?_))))
  unfold callGetattribute boundAndCalled
  rw [if_neg (by decide)]
  have f3 := PySem.F.excAttr_ValueError.ga.bind (.ref x)
  rw [f3]
  refine wpAny_bind (wpAny_pure ?_)
  refine wpAny_call (codeAny_call_builtin PySem.F.excAttr_ValueError.ga.plain F.entry_bexc_ga ?_)
  have hk : builtinKind "BaseException.__getattribute__" = some .slot := by decide +kernel
  have hsp : splitId "BaseException.__getattribute__" = some ("BaseException", "__getattribute__") := by decide +kernel
  have Lb := looks_mroIn (M := model prog w) X T.hb
  have hargs := F.args_bexc_ga (.ref x) (.str "__class__" t)
  simp only [checkBuiltinCall, hk, hsp]
  refine wpAny_bind ?_
  unfold isInstance
  refine wpAny_bind (L0.at (Lb.at ?_))
  repeat (first | refine exc_entry (x := x) T X I ?_ | assumption | wp_step)
theorem kitx_exc {y : Addr} (T : ExcIs K C) : KitX K (.ref y) (.ref C) (fun h => ∃ ox odo, InstAt h y ox C odo) where
  ty := fun _ _ _ ⟨_, _, I⟩ => I.type
  it := fun _ _ X _ => by
    obtain ⟨cd, hc⟩ := Option.isSome_iff_exists.mp T.cl
    unfold clsIn at hc
    split at hc
    · next ho =>
      intro A' Q' E' s' k q
      unfold isType loadHead
      exact wpAny_bind (wpAny_loadPart (k _ _ (X _ _ ho)) (wpAny_pure q))
    · cases hc
  ne := fun h tp dd its n sl X htp => by
    refine Bool.eq_false_iff.mpr fun q => ?_
    have e : C = tp := Value.ref.inj (beq_iff_eq.mp q)
    subst e
    obtain ⟨cd, hc⟩ := Option.isSome_iff_exists.mp T.cl
    unfold clsIn at hc
    split at hc
    · next ho =>
      have z := (X _ _ ho).symm.trans htp
      cases z
    · cases hc
  ca := fun X ⟨_, _, I⟩ k => exc_class T X I k
end
def DictKn (H : Hp) : Option Addr → Prop
  | none => True
  | some d => ∃ o, H d = some o
def rInstX (K : PySem.W.Frag) : List V → Hp → VK → Prop := fun xs H Q => ∃ (a C : Addr) (c : V) (u : Value) (dd : Option Addr) (b : Bool), xs = [.ref a, c] ∧ ((∃ D, c = .ref D ∧ u = .ref D) ∨ ∃ n, c = .ty n ∧ u = .type n) ∧ H a = some (.ext (ExcO a (.ref C) dd)) ∧ DictKn H dd ∧ ExcIs K C ∧ kitOne K (.ref C) u = some b ∧ Q (.bl b) H
section
variable {X : Cx}
theorem call_isinstX (hc : True := True.intro) : CallR X (.builtin "isinstance") (rInstX X.K) := by
  intro pins s σ H xs us Q I r h
  obtain ⟨a, C, c, u, dd, b, rfl, ru, ha, hd, T, k, q⟩ := h
  obtain ⟨u1, w', rfl, r1, r2⟩ := vals2 r
  obtain rfl : u1 = Value.ref a := r1
  have eu : w' = u := by
    rcases ru with ⟨D, rfl, rfl⟩ | ⟨n, rfl, rfl⟩
    · exact r2
    · exact r2
  subst eu
  obtain ⟨⟨oe, vs, e1, e2, e3, e4, _⟩, _, _⟩ := (show ObjOk X.prog X.w H s.heap a (.ext (ExcO a (.ref C) dd)) from I.hok a _ ha)
  have hI : ∃ ox odo, InstAt s.heap a ox C odo := by
    cases dd with
    | none => exact ⟨oe, none, e1, e2, by unfold notCls; rw [e4], by rw [e3]; trivial⟩
    | some d =>
      obtain ⟨o1, hfs⟩ := hd
      obtain ⟨o, ho⟩ := (I.hok d _ hfs).there
      exact ⟨oe, some o, e1, e2, by unfold notCls; rw [e4], by rw [e3]; exact ho⟩
  exact kia_one (kitx_exc T) I.kIn hI k (fun z => nomatch z) fun tk => ⟨.bl b, H, I.tok tk, rfl, q⟩
end
end L2
end

section
set_option Elab.async false
set_option linter.all false
set_option maxRecDepth 100000
set_option maxHeartbeats 2000000
namespace L2
open PySem PySem.Spec PyProof.Rows PySem.W
theorem boot_ValueError : bootBuiltins "ValueError" = some (.type "ValueError") := by decide +kernel
section
variable {X : Cx}
theorem call_isinstXK (K : PySem.W.Frag) (h : X.K = K := by rfl) : CallR X (.builtin "isinstance") (rInstX K) := by subst h; exact call_isinstX
end
end L2
end

section
set_option Elab.async false
set_option linter.all false
set_option maxRecDepth 100000
set_option maxHeartbeats 2000000
namespace HT
open PySem PySem.Spec PyProof.Rows
section
variable {prog : Program} {w : World} {A : Around} {E : Value → Shared → Prop} {s : Shared}
end
end HT
namespace L2
open PySem PySem.Spec PyProof.Rows PySem.W
section
variable {X : Cx}
end
end L2
end

section
set_option Elab.async false
set_option linter.all false
set_option maxRecDepth 100000
set_option maxHeartbeats 2000000
namespace L2
open PySem PySem.Spec PyProof.Rows PySem.W
def iniIn (K : Frag) (C fI : Addr) : Bool := match K.lookup C with
  | some ⟨.type "type", _, .cls cd, sl⟩ => (match cd.mro, sl.toList with
    | .ref D :: tl, [_, _, _, _, some (.builtin n), _] => (D == C) && (n == "ValueError.__new__") && (!cd.hasDel) && (cd.hasDict && (tailIn K vErr tl && (nsOkIn K cd.ns && (nsIn K cd.ns "__init__" == some (some (.ref fI))))))
    | _, _ => false)
  | _ => false
theorem nsAt {K : Frag} {h : Heap} {N : Addr} {m : Str → Option Value} {n : Str} {v : Value} (X : K.In h) (G : h.Ns N m) (e : nsIn K N n = some (some v)) : m n = some v := by
  obtain ⟨o, es, ep, ho, hd, _, hf⟩ := G
  unfold nsIn at e
  split at e
  · next c0 d0 es0 n0 sl0 q =>
    have z := X _ _ q
    rw [ho] at z
    cases z
    cases hd
    split at e
    · next en he =>
      cases e
      rw [← hf]
      unfold nsFind findBy
      rw [← Array.find?_toList, he]
      rfl
    · split at e <;> cases e
  · cases e
theorem ini_obj {K : Frag} {h : Heap} {C fI : Addr} (X : K.In h) (q : iniIn K C fI = true) :
    ∃ bm N nm q bs sn sub ab col dd k0 k1 k2 k3 k5 mN, h.get? C = some (excClassObj nm q C N bs bm true sn sub ab col dd k0 k1 k2 k3 k5 "ValueError.__new__") ∧ h.Ns N mN ∧ mN "__init__" = some (.ref fI) ∧ OwnTail h vErr bm := by
  unfold iniIn at q
  split at q
  · next dd cd sl ho =>
    split at q
    · next D tl k0 k1 k2 k3 n k5 hm hs =>
      rw [Bool.and_eq_true, Bool.and_eq_true, Bool.and_eq_true, Bool.and_eq_true, Bool.and_eq_true, Bool.and_eq_true, beq_iff_eq, beq_iff_eq, beq_iff_eq, Bool.not_eq_true'] at q
      obtain ⟨⟨⟨e1, e2⟩, e3⟩, e4, ht, hok, hi⟩ := q
      subst e1 e2
      obtain ⟨nm, bs, mro, ns, qn, hd, sn, sub, ab, col, del⟩ := cd
      dsimp only at hm e3 e4 hok hi
      subst hm e3 e4
      obtain ⟨sll⟩ := sl
      dsimp only at hs
      subst hs
      exact ⟨tl, ns, nm, qn, bs, sn, sub, ab, col, dd, k0, k1, k2, k3, k5, _, X _ _ ho, .of_isNs (isNs_of_in X hok), nsAt X (.of_isNs (isNs_of_in X hok)) hi, tail_of_in X ht⟩
    · cases q
  · cases q
section
variable {prog : Program} {w : World} {A : Around} {E : Value → Shared → Prop} {h : Heap} {g : Array GenState} {d : Drawn} {t : Nat} {os : OsState}
variable {nm q : Str} {C N fI : Addr} {bs bm : List Value} {sn : List Str} {sub : List Value} {ab : Bool} {col : Option Bool} {dd : Option Addr} {k0 k1 k2 k3 k5 : Option Value} {oI : Obj} {mN : Str → Option Value} {rest : List Value}
abbrev newArgs (rest : List Value) : Obj := { cls := .type "tuple", data := .seq rest.toArray }
abbrev newExc (C a : Addr) : Obj := { cls := .ref C, data := .fields #[.ref a, .none, .none, .none, .bool false, .none] }
theorem typecall_ini {Q : Fin → Shared → Prop} (T : OwnTail h vErr bm) (hC : h.get? C = some (excClassObj nm q C N bs bm true sn sub ab col dd k0 k1 k2 k3 k5 "ValueError.__new__")) (hn : h.Ns N mN) (hi : mN "__init__" = some (.ref fI))
    (hf : h.get? fI = some oI) (hfc : oI.cls = .type "function") (hz : rest.length ≤ sizeLine)
    (hq : wpAny (model prog w) A (call (.ref fI) (.ref (h.objs.size + 1) :: rest)) (fun r s' => r = .none ∧ Q (.done (.ret (.ref (h.objs.size + 1)))) s') E ⟨(h.push (newArgs rest)).push (newExc C h.objs.size), g, d, t, os⟩) :
    wpAny (model prog w) A (Builtin.«type.__call__» ⟨.ref C :: rest, []⟩) Q E ⟨h, g, d, t, os⟩ := by
  have FB := PySem.F.excBase_ValueError
  repeat (first | with_reducible refine wpAny_loadPart_at hC ?_ | with_reducible refine wpAny_madeBy_exc hC ?_ | wp_step)
  refine codeAny_call_builtin_code (Code.quiet_builtin _ FB.quiet) (wpAny_check_new_subT FB T hC (codeAny_exc_new_subT FB T hC ?_ hz))
  show wpAny _ _ _ _ _ _
  have up : ∀ b o, h.get? b = some o → ((h.push (newArgs rest)).push (newExc C h.objs.size)).get? b = some o := fun b o z => Heap.get?_push_of_some _ (Heap.get?_push_of_some _ z)
  have eC := up _ _ hC
  have eF := up _ _ hf
  have eN := hn.keeps up
  have eT := T.keeps up
  have eX : ((h.push (newArgs rest)).push (newExc C h.objs.size)).get? (h.objs.size + 1) = some (newExc C h.objs.size) := by heap_get
  have inC : (Value.ref C :: bm).contains (.ref C) = true := by simp
  unfold isInstance
  repeat (first | with_reducible refine wpAny_loadPart_at eX ?_ | (with_reducible refine wpAny_isSubtype_exc eC ?_; rw [inC]) | wp_step)
  show wpAny _ _ (typeLookup (.ref C) "__init__") _ _ _
  refine wpAny_typeLookup_tail eC eN eT FB.mroIs FB.init.lookup ?_
  rw [hi]
  refine wpAny_holding (wpAny_bind ?_)
  unfold bindSpecial
  refine wpAny_bind (wpAny_typeOf (T := "function") ⟨_, eF, hfc⟩ ?_)
  rw [if_pos (by decide)]
  refine wpAny_pure (wpAny_bind (wpAny_mono hq (fun r s' z => ?_) fun _ _ y => y))
  obtain ⟨rfl, z⟩ := z
  wp_walk
  exact z
theorem call_ini {Q : Value → Shared → Prop} (T : OwnTail h vErr bm) (hC : h.get? C = some (excClassObj nm q C N bs bm true sn sub ab col dd k0 k1 k2 k3 k5 "ValueError.__new__")) (hn : h.Ns N mN) (hi : mN "__init__" = some (.ref fI))
    (hf : h.get? fI = some oI) (hfc : oI.cls = .type "function") (hz : rest.length ≤ sizeLine)
    (hq : wpAny (model prog w) (A.under (.builtin "type.__call__" ⟨.ref C :: rest, []⟩)) (call (.ref fI) (.ref (h.objs.size + 1) :: rest)) (fun r s' => r = .none ∧ Q (.ref (h.objs.size + 1)) s') E ⟨(h.push (newArgs rest)).push (newExc C h.objs.size), g, d, t, os⟩) :
    wpAny (model prog w) A (call (.ref C) rest) Q E ⟨h, g, d, t, os⟩ := by
  have f1 := tc_lookup
  have f2 := tc_bind (.ref C)
  have tyC : (⟨h, g, d, t, os⟩ : Shared).TypeIs (.ref C) "type" := ⟨_, hC, rfl⟩
  refine wpAny_call (codeAny_of_tree ?_)
  show wpAny _ _ (callAny (.ref C) _) _ _ _
  repeat (any_goals (first | assumption | with_reducible refine wpAny_loadPart_at hC ?_ | wp_step))
  exact ⟨rfl, codeAny_call_builtin_at (Code.quiet_builtin _ (by decide +kernel)) entry_typeCall (wpAny_check_type_call_sub hC (typecall_ini T hC hn hi hf hfc hz hq))⟩
end
section
variable {M : Model} {A : Around} {E : Value → Shared → Prop} {s : Shared} {env : Env} {x : Sem Value} {Q : Flow → Shared → Prop}
variable {nm q : Str} {C N : Addr} {bs bm : List Value} {hdct : Bool} {sn : List Str} {sub : List Value} {ab : Bool} {col : Option Bool} {dd : Option Addr} {k0 k1 k2 k3 k5 : Option Value} {newId : String}
theorem raise_obj (hb : bm.contains (.type "BaseException") = true) (hh : A.handled = none)
    (hx : wpAny M A x (fun v s1 => ∃ e oe vs, v = .ref e ∧ s1.heap.get? C = some (excClassObj nm q C N bs bm hdct sn sub ab col dd k0 k1 k2 k3 k5 newId) ∧ s1.heap.get? e = some oe ∧ oe.cls = .ref C ∧ oe.data = .fields vs ∧ vs[1]? = some .none ∧ E (.ref e) s1) E s) :
    wpAny M A (raiseStmt env (some x) none) Q E s := by
  have inB : (Value.ref C :: bm).contains (.type "BaseException") = true := by rw [List.contains_cons, hb, Bool.or_true]
  unfold raiseStmt
  refine wpAny_bind (wpAny_mono hx (fun v s1 z => ?_) fun _ _ y => y)
  obtain ⟨e, oe, vs, rfl, hC, he, hc, hd, h1, hE⟩ := z
  obtain ⟨oc, od, oda, osl⟩ := oe
  dsimp only at hc hd
  subst hc hd
  obtain ⟨hp, g, d, tk, os⟩ := s1
  repeat (first | with_reducible refine wpAny_loadPart_at he ?_ | with_reducible refine wpAny_loadPart_at hC ?_ | (with_reducible refine wpAny_isSubtype_exc hC ?_; rw [inB]) | wp_step)
  rw [h1]
  refine wpAny_pure ?_
  rw [if_neg (by decide)]
  exact wpAny_pure (wpAny_raiseNew_none hh hE)
end
def ExcN (a : Addr) (cls : Value) (dd : Option Addr) : Heap → Prop := fun h => ∃ oe vs, h.get? a = some oe ∧ oe.cls = cls ∧ oe.dict = dd ∧ oe.data = .fields vs ∧ vs[1]? = some .none ∧ vs[2]? = some .none ∧ dd ≠ some a
theorem ExcN.at {a : Addr} {cls : Value} {dd : Option Addr} {h h' : Heap} (x : ExcN a cls dd h) (k : ∀ o, h.get? a = some o → h'.get? a = some o) : ExcN a cls dd h' := let ⟨oe, vs, e, r⟩ := x; ⟨oe, vs, k oe e, r⟩
theorem ExcN.ok {P : Program} {w : World} {H : Hp} {h : Heap} {a : Addr} {cls : Value} {dd : Option Addr} (x : ExcN a cls dd h) : ObjOk P w H h a (.ext (ExcN a cls dd)) := ⟨x, let ⟨oe, _, e, _⟩ := x; ⟨oe, e⟩, fun _ _ y k => y.at k⟩
def drop (H : Hp) (a : Addr) : Hp := fun b => if b = a then none else H b
theorem drop_same {H : Hp} {a : Addr} : drop H a a = none := by unfold drop; rw [if_pos rfl]
theorem drop_ne {H : Hp} {a b : Addr} (h : b ≠ a) : drop H a b = H b := by unfold drop; rw [if_neg h]
section
variable {X : Cx} {pins : List (Addr × Obj)} {σ : St} {H : Hp} {s : Shared} {a : Addr} {φ : Heap → Prop}
theorem Inv.drop (I : Inv X pins σ H s) (ha : H a = some (.ext φ)) (nst : ∀ b o, X.s₀.heap.get? b = some o → b ≠ a) : Inv X pins σ (L2.drop H a) s := by
  have ne : ∀ b u, H b = some u → (∀ φ, u ≠ .ext φ) → b ≠ a := fun b u e n z => by rw [z, ha] at e; cases e; exact n φ rfl
  refine ⟨I.ok, I.os, I.bare, ⟨I.base.keep, I.base.slot, fun b o e n hx => ?_, I.base.there, fun b xs e => ?_, fun b o u e => ?_, fun b ps e => ?_⟩, I.loc, I.cell, ?_, fun x c e => ?_, fun p hp => ?_, fun b o e => ?_, I.len⟩
  · by_cases hb : b = a
    · rw [hb]; exact drop_same
    · rw [drop_ne hb]; exact I.base.free b o e n hx
  · have z := I.base.tups b xs e
    rw [drop_ne (ne b _ z fun φ => by simp)]; exact z
  · have z := I.base.frzs b o u e
    rw [drop_ne (ne b _ z fun φ => by simp)]; exact z
  · obtain ⟨more, z⟩ := I.base.tbls b ps e
    exact ⟨more, by rw [drop_ne (ne b _ z fun φ => by simp)]; exact z⟩
  · by_cases hb : X.env.locals = a
    · rw [hb]; exact drop_same
    · rw [drop_ne hb]; exact I.free
  · by_cases hb : c = a
    · rw [hb]; exact drop_same
    · rw [drop_ne hb]; exact I.freeC x c e
  · obtain ⟨e1, e2, e3⟩ := I.pin p hp
    refine ⟨e1, ?_, e3⟩
    by_cases hb : p.1 = a
    · rw [hb]; exact drop_same
    · rw [drop_ne hb]; exact e2
  · by_cases hb : b = a
    · rw [hb, drop_same] at e; cases e
    · rw [drop_ne hb] at e
      refine (I.hok b o e).stay (fun c u _ z => z) (fun c r => ?_) fun c xs r => ?_
      · rw [drop_ne (ne c _ r fun φ => by simp)]; exact r
      · rw [drop_ne (ne c _ r fun φ => by simp)]; exact r
end
structure MkX (K : Frag) (C f : Addr) : Prop where
  ini : iniIn K C f = true
  fn : PySem.W.isFn K (.ref f) = true
  kp : PySem.W.keepIn K (.ref C) = true
def tRaiseI (C : Addr) (sp : Sp) (E : XK) (t : TA) : TS := fun _ σ H => t σ H fun vs H1 => vs.length ≤ sizeLine ∧ ∀ a, H1 a = none → sp (.ref a :: vs) (upd H1 a (.ext (ExcN a (.ref C) none))) (fun v H2 => v = .non ∧ ∃ dd, H2 a = some (.ext (ExcN a (.ref C) dd)) ∧ E (.ref C) dd (drop H2 a)) E0
section
variable {X : Cx} {k : Nat} {f C : Addr} {fd : FuncData} {ps : List Str} {sp : Sp} {x : Str} {p pos cpos : Pos} {e : Expr} {es : List Expr} {t : TA} {E : XK}
theorem exc_run {pins : List (Addr × Obj)} {s : Shared} {σ : St} {H : Hp} {G : Addr → Hp → Prop} (M : MkX X.K C f) (F : FnOk X.prog X.w X.K X.mg X.base CX0 k f fd ps sp) (hr : Room (k + 1) X.A) (hg : Gl X x) (hm : X.mg x = some (.ref C)) (hb : Binds X.K fd ps []) (ha : QA X (e :: es) t)
    (I : Inv X pins σ H s) (h : t σ H fun vs H1 => vs.length ≤ sizeLine ∧ ∀ a, H1 a = none → sp (.ref a :: vs) (upd H1 a (.ext (ExcN a (.ref C) none))) (fun v H2 => v = .non ∧ G a H2) E0)
    (hdb : (x == ("__debug__" : Str)) = false) (hs : starEach (e :: es) X.env = (false, eval e X.env) :: starEach es X.env) (hpl : (backTo cpos (starEach es X.env)).any (·.1) = false) :
    wpAny (model X.prog X.w) X.A (eval (.Call (.Name x p) (e :: es) [] cpos) X.env) (fun v s' => ∃ a H2, v = .ref a ∧ Inv X pins σ H2 s' ∧ X.s₀.heap.objs.size ≤ a ∧ G a H2) X.xe s := by
  refine wpAny_Call_Name_kw (ld_glob I hg hm ?_ hdb)
  refine PySem.W.callWith_K (h₀ := X.base) I.ok.mod.kin M.kp (thn (ha.out cpos pins s σ H _ I h) fun us s1 ⟨vs, H1, I1, r, hz, q⟩ => ⟨I1.kIn, ?_⟩) hs hpl
  obtain ⟨bm, N, nm, qn, bs, sn, sub, ab, col, dd, k0, k1, k2, k3, k5, mN, cC, cN, ci, T⟩ := ini_obj I1.kIn M.ini
  obtain ⟨oI, hoI, hcI⟩ : ∃ oI, s1.heap.get? f = some oI ∧ oI.cls = .type "function" := by
    have z : (X.K.lookup f).map (·.cls) = some (.type "function") := beq_iff_eq.mp M.fn
    cases y : X.K.lookup f with
    | none => rw [y] at z; cases z
    | some of => rw [y] at z; exact ⟨of, I1.kIn _ _ y, Option.some.inj z⟩
  have hsz0 : X.s₀.heap.objs.size ≤ s1.heap.objs.size + 1 := Nat.le_succ_of_le I1.sz
  obtain ⟨hh, g, d, tk, os⟩ := s1
  have I2 : Inv X pins σ H1 ⟨hh.push (newArgs us), g, d, tk, os⟩ := I1.kept (t' := tk) fun b u z => Heap.get?_push_of_some _ z
  have hsz : (hh.push (newArgs us)).objs.size = hh.objs.size + 1 := Heap.size_push _ _
  have eX : ((hh.push (newArgs us)).push (newExc C hh.objs.size)).get? (hh.objs.size + 1) = some (newExc C hh.objs.size) := by heap_get
  have I3 : Inv X pins σ (upd H1 (hh.objs.size + 1) (.ext (ExcN (hh.objs.size + 1) (.ref C) none))) ⟨(hh.push (newArgs us)).push (newExc C hh.objs.size), g, d, tk, os⟩ :=
    I2.laid (t' := tk) (fun b u z => Heap.get?_push_of_some _ z) (Nat.le_of_eq hsz) (ExcN.ok ⟨_, _, eX, rfl, rfl, rfl, rfl, rfl, by simp⟩)
  have hq := q (hh.objs.size + 1) (I2.hok.fresh (Nat.le_of_eq hsz))
  have r2 : Vals (V.ref (hh.objs.size + 1) :: vs) (Value.ref (hh.objs.size + 1) :: us) := .cons rfl r
  have hl : (Value.ref (hh.objs.size + 1) :: us).length = ps.length := by rw [← r2.length]; exact F.len _ _ _ _ hq
  have hB := hb ⟨(hh.push (newArgs us)).push (newExc C hh.objs.size), g, d, tk, os⟩ (Value.ref (hh.objs.size + 1) :: us) I3.kIn (by rw [List.append_nil]; exact hl)
  rw [List.append_nil] at hB
  refine call_ini T cC cN ci hoI hcI (by show us.length ≤ sizeLine; rw [← r.length]; exact hz) (wpAny_call (codeAny_mono (F.run _ X.stack _ _ ⟨Value.ref (hh.objs.size + 1) :: us, []⟩ (Value.ref (hh.objs.size + 1) :: us) _ _ E0 (hr.make C us []) (I3.env0.make C us []) hB r2 hq) fun r s' hq' => ?_))
  cases r with
  | error e => exact False.elim hq'
  | ok fl =>
    cases fl with
    | ret u =>
      obtain ⟨v, H', I4, rv, ev, q3⟩ := I3.after hq'
      subst ev
      exact ⟨rv, _, H', rfl, I4, hsz0, q3⟩
    | next => exact False.elim hq'
    | brk => exact False.elim hq'
    | cont => exact False.elim hq'
theorem qs_raiseI (hl : Lets X E) (hc : X.calm = true) (M : MkX X.K C f) (F : FnOk X.prog X.w X.K X.mg X.base CX0 k f fd ps sp) (hr : Room (k + 1) X.A) (hg : Gl X x) (hm : X.mg x = some (.ref C)) (hb : Binds X.K fd ps []) (ha : QA X (e :: es) t)
    (hdb : (x == ("__debug__" : Str)) = false := by decide) (hs : starEach (e :: es) X.env = (false, eval e X.env) :: starEach es X.env := by rfl) (hpl : (backTo cpos (starEach es X.env)).any (·.1) = false := by rfl) :
    QS X (.Raise (some (.Call (.Name x p) (e :: es) [] cpos)) none pos) (tRaiseI C sp E t) := ⟨by
  intro pins s σ H D I h
  have run := exc_run (p := p) M F hr hg hm hb ha I h hdb hs hpl
  obtain ⟨bm, N, nm, qn, bs, sn, sub, ab, col, dd, k0, k1, k2, k3, k5, mN, cC, cN, ci, T⟩ := ini_obj I.ok.mod.kin M.ini
  rw [arm_exec_Raise]
  refine wpAny_bind (wpAny_standAt (raise_obj (C := C) (nm := nm) (q := qn) (N := N) (bs := bs) (bm := bm) (hdct := true) (sn := sn) (sub := sub) (ab := ab) (col := col) (dd := dd) (k0 := k0) (k1 := k1) (k2 := k2) (k3 := k3) (k5 := k5) (newId := "ValueError.__new__")
    (T.hasType PySem.F.excBase_ValueError.hasBase) (I.ok.hd hc) (wpAny_bind (wpAny_mono run (fun v s1 z => wpAny_bind (wpAny_standAt (wpAny_pure ?_))) fun _ _ y => y))))
  obtain ⟨a, H2, rfl, I2, ha2, dd2, hd2, hE⟩ := z
  obtain ⟨⟨oe, vs, he, h1, h2, h3, h4, h42, _⟩, _⟩ := I2.hok a _ hd2
  have nst : ∀ b o, X.s₀.heap.get? b = some o → b ≠ a := fun b o z y => absurd (Heap.lt_size z) (by rw [y]; exact Nat.not_lt.mpr ha2)
  have I3 := I2.drop hd2 nst
  refine ⟨a, oe, vs, rfl, I2.bk _ _ cC, he, h1, h3, h4, hl pins σ _ _ a oe vs I3 he h3 h4 h42 drop_same nst ?_⟩
  rw [h1, h2]; exact hE⟩
end
section
variable {prog : Program} {w : World} {A : Around} {E : Value → Shared → Prop} {h : Heap} {g : Array GenState} {d : Drawn} {t : Nat} {os : OsState}
variable {nm q : Str} {C N a : Addr} {bs bm : List Value} {sn : List Str} {sub : List Value} {ab : Bool} {col : Option Bool} {dd : Option Addr} {k0 k1 k2 k3 k5 : Option Value} {mN : Str → Option Value} {rest : List Value} {Q : Value → Shared → Prop} {oe : Obj} {vs : Array Value}
theorem init_call (T : OwnTail h vErr bm) (hC : h.get? C = some (excClassObj nm q C N bs bm true sn sub ab col dd k0 k1 k2 k3 k5 "ValueError.__new__")) (he : h.get? a = some oe) (hc : oe.cls = .ref C) (hd : oe.data = .fields vs) (hz : 0 < vs.size) (hr : rest.length ≤ sizeLine)
    (hq : Q .none ⟨(h.push (newArgs rest)).update a (Obj.mapFields (·.setIfInBounds 0 (.ref h.objs.size))), g, d, t, os⟩) :
    wpAny (model prog w) A (call (.builtin "ValueError.__init__") (.ref a :: rest)) Q E ⟨h, g, d, t, os⟩ := by
  have FB := PySem.F.excBase_ValueError
  obtain ⟨oc, od, oda, osl⟩ := oe
  dsimp only at hc hd
  subst hc hd
  refine wpAny_call (codeAny_call_builtin FB.init.plain FB.initEntry (wpAny_check_init_subT FB T hC he rfl ?_))
  have he1 : (h.push (newArgs rest)).get? a = some ⟨.ref C, od, .fields vs, osl⟩ := Heap.get?_push_of_some _ he
  unfold Builtin.«BaseException.__init__»
  repeat (first | with_reducible refine wpAny_loadPart_at he1 ?_ | wp_step)
  obtain ⟨v0, e0⟩ : ∃ v0, vs[0]? = some v0 := ⟨_, Array.getElem?_eq_getElem hz⟩
  rw [e0]
  refine wpAny_pure (wpAny_bind (wpAny_setField he1 rfl hz ?_))
  cases v0 <;> first | exact wpAny_letGo (wpAny_pure hq) | exact wpAny_pure (wpAny_pure hq)
end
def errLine : List Value → Bool
  | .ref _ :: r => errLine r
  | l => l == vErr
theorem errLine_pass (self : Value) : ∀ {l : List Value}, errLine l = true → refuseLoop self "__setattr__" l = pure ()
  | .ref _ :: r, e => (refuseLoop_ref self "__setattr__" _ r).trans (errLine_pass self (l := r) e)
  | [], e => by cases e
  | .type n :: r, e => by rw [beq_iff_eq.mp (show (Value.type n :: r == vErr) = true from e)]; exact PySem.F.store_ValueError.passes self
  | .none :: r, e => by cases (beq_iff_eq.mp (show (Value.none :: r == vErr) = true from e))
  | .bool b :: r, e => by cases (beq_iff_eq.mp (show (Value.bool b :: r == vErr) = true from e))
  | .int i t :: r, e => by cases (beq_iff_eq.mp (show (Value.int i t :: r == vErr) = true from e))
  | .float i t :: r, e => by cases (beq_iff_eq.mp (show (Value.float i t :: r == vErr) = true from e))
  | .str i t :: r, e => by cases (beq_iff_eq.mp (show (Value.str i t :: r == vErr) = true from e))
  | .bytes i t :: r, e => by cases (beq_iff_eq.mp (show (Value.bytes i t :: r == vErr) = true from e))
  | .builtin n :: r, e => by cases (beq_iff_eq.mp (show (Value.builtin n :: r == vErr) = true from e))
structure ErrCls (K : Frag) (C : Addr) : Prop where
  ln : ((clsIn K C).any fun cd => cd.hasDict && errLine cd.mro) = true
  ob : mroIn K C (.type "object") = some true
  sa : findIn K (.ref C) "__setattr__" = some (some (.builtin "object.__setattr__"))
section
open Builtin Builtin.ObjectAttr
variable {prog : Program} {w : World} {A : Around} {E : Value → Shared → Prop} {s : Shared} {K : Frag} {x C : Addr} {ox : Obj} {od : Option Obj} {name : Str} {v : Value}
theorem setX_open {Q : Unit → Shared → Prop} (X : K.In s.heap) (T : ErrCls K C) (hn : findIn K (.ref C) name = some none) (I : InstAt s.heap x ox C od)
    (h : wpAny (model prog w) A.in1 (storeInOwnDict (.ref x) (.ref C) (.str name s.toks) name v false) (fun fin s' => match fin with | .done (.ret _) => Q () s' | _ => False) (fun _ _ => False) { s with toks := s.toks + 1 }) :
    wpAny (model prog w) A (setAttr (.ref x) name v) Q E s := by
  have SF := PySem.F.store_ValueError
  obtain ⟨cd, hc, ho⟩ := any_some T.ln
  rw [Bool.and_eq_true] at ho
  have L0 := I.type (M := model prog w)
  have Lm : Looks (model prog w) s.heap (mroOf (.ref C)) cd.mro := (looks_clsIn X hc).andThen .now
  have Li : Looks (model prog w) s.heap (isInstance (.ref x) (.type "object")) true := L0.andThen (looks_mroIn X T.ob)
  have Ln := looks_findIn (M := model prog w) X hn
  obtain ⟨hh, g, d, t, os⟩ := s
  unfold setAttr
  refine wpAny_bind (wpAny_mkText (wpAny_bind (wpAny_bind (wpAny_bind (L0.at ((looks_findIn X T.sa).at (wpAny_holding (wpAny_bind ?_))))))))
  rw [SF.slot.bind (.ref x)]
  refine wpAny_pure (wpAny_bind (wpAny_call (codeAny_call_builtin SF.slot.plain SF.entry (@check_slot (model prog w) _ _ _ "object.__setattr__" "object" "__setattr__" (.ref x) [.str name t, v] [] _ SF.kind SF.split Li (SF.args (.ref x) (.str name t) v) ?_))))
  show wpAny (model prog w) A.in1 (Builtin.«object.__setattr__» ⟨[.ref x, .str name t, v], []⟩) _ _ _
  rw [osa_eq, refuse_eq]
  refine wpAny_bind (wpAny_bind (L0.at (wpAny_bind (Lm.at ?_))))
  rw [errLine_pass _ ho.2]
  refine wpAny_pure (wpAny_bind (L0.at (wpAny_bind (Ln.at (wpAny_bind (wpAny_pure ?_))))))
  refine wpAny_mono h (fun fin s' z => ?_) fun _ _ z => z.elim
  cases fin with
  | done f => cases f with
    | ret u => exact wpAny_pure (wpAny_pure z)
    | next => exact z.elim
    | brk => exact z.elim
    | cont => exact z.elim
  | again c => exact z.elim
end
section
open Builtin Builtin.ObjectAttr
variable {prog : Program} {w : World} {A : Around} {E : Value → Shared → Prop} {h : Heap} {g : Array GenState} {d : Drawn} {t : Nat} {os : OsState} {K : Frag} {x C dx : Addr} {vs : Array Value} {sl : Array (Option Value)} {name : Str} {v : Value} {Q : Fin → Shared → Prop} {b : Bool} {tk : Tok}
theorem storeX_new (X : K.In h) (T : ErrCls K C) (hx : h.get? x = some ⟨.ref C, none, .fields vs, sl⟩)
    (hq : ∀ h' t', h'.Ns1 h.objs.size (fun y => if y = name then some v else none) → h'.get? x = some ⟨.ref C, some h.objs.size, .fields vs, sl⟩ → (∀ c o, c ≠ x → h.get? c = some o → h'.get? c = some o) → Q (.done (.ret .none)) ⟨h', g, d, t', os⟩) :
    wpAny (model prog w) A (storeInOwnDict (.ref x) (.ref C) (.str name tk) name v b) Q E ⟨h, g, d, t, os⟩ := by
  obtain ⟨cd, hc, ho⟩ := any_some T.ln
  rw [Bool.and_eq_true] at ho
  have xs : x ≠ h.objs.size := Nat.ne_of_lt (Heap.lt_size hx)
  refine wpAny_bind (wpAny_pure (wpAny_bind (wpAny_bind (wpAny_loadPart hx (wpAny_bind ((looks_clsIn X hc).here ?_))))))
  rw [ho.1]
  have hx1 : (h.push { cls := .type "dict", data := .dict #[] }).get? x = some ⟨.ref C, none, .fields vs, sl⟩ := Heap.get?_push_of_some _ hx
  refine wpAny_bind (wpAny_alloc' ?_)
  refine wpAny_bind (wpAny_update' hx1 ?_)
  refine wpAny_pure ?_
  generalize e1 : ((h.push { cls := .type "dict", data := .dict #[] }).update x fun o => { cls := o.cls, dict := some h.objs.size, data := o.data, slots := o.slots }) = h1
  have g1 : h1.get? h.objs.size = some { cls := .type "dict", data := .dict #[] } := by rw [← e1]; exact (Heap.get?_update_ne _ _ _ _ xs.symm).trans (Heap.get?_push_at rfl rfl)
  have g2 : h1.get? x = some ⟨.ref C, some h.objs.size, .fields vs, sl⟩ := by rw [← e1]; exact Heap.get?_update_self _ hx1 rfl
  have g3 : ∀ c o, c ≠ x → h.get? c = some o → h1.get? c = some o := fun c o n z => by rw [← e1]; exact (Heap.get?_update_ne _ _ _ _ n).trans (Heap.get?_push_of_some _ z)
  have n1 : h1.Ns h.objs.size (fun _ => none) := ⟨_, #[], _, g1, rfl, (fun e he => absurd he (by simp)), fun _ => rfl⟩
  show wpAny _ _ (storeInDict h.objs.size (.str name tk) name v) _ _ _
  unfold storeInDict newKeyGuard
  refine wpAny_bind (wpAny_pure (wpAny_bind (wpAny_nsSet1 (Heap.Ns1.of_empty n1) fun h2 n2 k2 => ?_)))
  obtain ⟨oD, esD, epD, hoD, hdD, hcD⟩ := n2.count (PySem.Within.cons name v PySem.Within.nil)
  refine wpAny_bind (wpAny_lookBehind hoD (by rw [hdD]; exact pastItsLine_dict (Nat.le_trans hcD (by rw [List.length_cons, List.length_nil, sizeLine_eq]; omega))) (wpAny_pure ?_))
  exact hq h2 _ n2 ((k2.2 x xs).trans g2) fun c o n z => (k2.2 c (Nat.ne_of_lt (Heap.lt_size z))).trans (g3 c o n z)
theorem storeX_more {mA : Str → Option Value} {ns : List Str} (X : K.In h) (T : ErrCls K C) (hx : h.get? x = some ⟨.ref C, some dx, .fields vs, sl⟩) (hn : h.Ns1 dx mA) (hw : PySem.Within mA ns) (hl : ns.length ≤ 100)
    (hq : ∀ h' t', h'.Ns1 dx (fun y => if y = name then some v else mA y) → (∀ c o, c ≠ dx → h.get? c = some o → h'.get? c = some o) → Q (.done (.ret .none)) ⟨h', g, d, t', os⟩) :
    wpAny (model prog w) A (storeInOwnDict (.ref x) (.ref C) (.str name tk) name v b) Q E ⟨h, g, d, t, os⟩ := by
  obtain ⟨cd, hc, ho⟩ := any_some T.ln
  rw [Bool.and_eq_true] at ho
  refine wpAny_bind (wpAny_pure (wpAny_bind (wpAny_bind (wpAny_loadPart hx (wpAny_bind ((looks_clsIn X hc).here ?_))))))
  rw [ho.1]
  refine wpAny_pure ?_
  show wpAny _ _ (storeInDict dx (.str name tk) name v) _ _ _
  unfold storeInDict newKeyGuard
  refine wpAny_bind (wpAny_pure (wpAny_bind (wpAny_nsSet1 hn fun h2 n2 k2 => ?_)))
  obtain ⟨oD, esD, epD, hoD, hdD, hcD⟩ := n2.count (PySem.Within.cons name v hw)
  refine wpAny_bind (wpAny_lookBehind hoD (by rw [hdD]; exact pastItsLine_dict (Nat.le_trans hcD (by rw [List.length_cons, sizeLine_eq]; omega))) (wpAny_pure ?_))
  exact hq h2 _ n2 fun c o n z => (k2.2 c n).trans z
end
def XD (a : Addr) (fs : List (Str × V)) : Heap → Prop := fun h => ∃ mA, h.Ns1 a mA ∧ (∀ f, RelO (fs.lookup f) (mA f)) ∧ PySem.Within mA (fs.map (·.1)) ∧ fs.length ≤ 50
theorem XD.at {a : Addr} {fs : List (Str × V)} {h h' : Heap} (x : XD a fs h) (k : ∀ o, h.get? a = some o → h'.get? a = some o) : XD a fs h' := let ⟨mA, n, r⟩ := x; ⟨mA, n.at k, r⟩
theorem XD.ok {P : Program} {w : World} {H : Hp} {h : Heap} {a : Addr} {fs : List (Str × V)} (x : XD a fs h) : ObjOk P w H h a (.ext (XD a fs)) := ⟨x, let ⟨_, ⟨o, _, _, e, _⟩, _⟩ := x; ⟨o, e⟩, fun _ _ y k => y.at k⟩
def sFldX (K : Frag) (ta tv : TE) (f : Str) : TS := fun D σ H => tv σ H fun y H1 => ta σ H1 fun x H2 => ∃ a C dd, x = .ref a ∧ H2 a = some (.ext (ExcN a (.ref C) dd)) ∧ ErrCls K C ∧ findIn K (.ref C) f = some none ∧
  ((dd = none ∧ ∀ dx, dx ≠ a → H2 dx = none → D.nx σ (upd (upd H2 dx (.ext (XD dx [(f, y)]))) a (.ext (ExcN a (.ref C) (some dx))))) ∨
   ∃ dx fs, dd = some dx ∧ H2 dx = some (.ext (XD dx fs)) ∧ fs.length < 50 ∧ D.nx σ (upd H2 dx (.ext (XD dx (putF f y fs)))))
section
variable {X : Cx} {o value : Expr} {f : Str} {pos pos' : Pos} {ta tv : TE}
theorem qs_fldX (ha : QE X o ta) (hv : QE X value tv) (hs : swapsWith value (some (.Attribute o f pos')) pos.line X.env = pure false) : QS X (.Assign [.Attribute o f pos'] value pos) (sFldX X.K ta tv f) := ⟨by
  intro pins s σ H D I h
  refine plainObj_wpAny_Assign_Attribute (thn (hv.out pins s σ H _ I h) fun u s1 ⟨y, H1, I1, ry, q⟩ => thn (ha.out pins s1 σ H1 _ I1 q) fun ov s2 ⟨x, H2, I2, rx, a, C, dd, ex, ea, T, hn, q2⟩ => ?_) hs
  subst ex
  obtain rfl : ov = Value.ref a := rx
  obtain ⟨⟨oe, vs, he, h1, h2, h3, h4, h42, h5⟩, _⟩ := I2.hok a _ ea
  obtain ⟨oc, od, oda, osl⟩ := oe
  dsimp only at h1 h2 h3
  subst h1 h2 h3
  have hk : X.K.In s2.heap := I2.kIn
  obtain ⟨hh, g, d, t, os⟩ := s2
  rcases q2 with ⟨rfl, q2⟩ | ⟨dx, fs, rfl, hdx, hl, q2⟩
  · refine setX_open hk T hn (od := none) ⟨he, rfl, rfl, True.intro⟩ (storeX_new hk T he fun h' t' n' e' k' => ?_)
    have xs : a ≠ hh.objs.size := Nat.ne_of_lt (Heap.lt_size he)
    have nN : H2 hh.objs.size = none := I2.hok.fresh (Nat.le_refl _)
    have na : ∀ b, H2 b = none → b ≠ a := fun b n z => by rw [z, ea] at n; cases n
    have ne : ∀ b w, H2 b = some w → (∀ φ, w ≠ .ext φ) → b ≠ a ∧ b ≠ hh.objs.size := fun b w e n => ⟨fun z => by rw [z, ea] at e; cases e; exact n _ rfl, fun z => by rw [z, nN] at e; cases e⟩
    have up : ∀ b, b ≠ a → b ≠ hh.objs.size → upd (upd H2 hh.objs.size (.ext (XD hh.objs.size [(f, y)]))) a (.ext (ExcN a (.ref C) (some hh.objs.size))) b = H2 b := fun b n1 n2 => by rw [upd_ne n1, upd_ne n2]
    have lt : ∀ b o, hh.get? b = some o → b ≠ hh.objs.size := fun b o z => Nat.ne_of_lt (Heap.lt_size z)
    have hD : XD hh.objs.size [(f, y)] h' := ⟨_, n', fun g' => by
        show RelO (List.lookup g' [(f, y)]) (if g' = f then some u else none)
        by_cases q : g' = f
        · rw [if_pos q, q]; simp only [List.lookup, beq_self_eq_true]; exact ry
        · rw [if_neg q]
          have : (g' == f) = false := beq_false_of_ne q
          simp only [List.lookup, this]; trivial, fun g' hg => by
        by_cases q : g' = f
        · rw [q]; simp
        · exact absurd (show (if g' = f then some u else none) = none by rw [if_neg q]) hg, by show 1 ≤ 50; decide⟩
    have I3 : Inv X pins σ (upd (upd H2 hh.objs.size (.ext (XD hh.objs.size [(f, y)]))) a (.ext (ExcN a (.ref C) (some hh.objs.size)))) ⟨h', g, d, t', os⟩ := I2.un (t' := t')
      ⟨fun b o z n _ _ => k' b o (na b n) z, fun b o z n _ _ => ⟨o.slots, k' b o (na b n) z⟩, fun b o z n _ => (up b (na b n) (lt b o z)).trans n, fun b o z _ => by
        by_cases hb : b = a
        · exact ⟨_, by rw [hb]; exact e'⟩
        · exact ⟨o, k' b o hb z⟩, fun b xs e => by
        obtain ⟨n1, n2⟩ := ne b _ e fun φ => by simp
        exact (up b n1 n2).trans e, fun b o xs e => by
        obtain ⟨n1, n2⟩ := ne b _ e fun φ => by simp
        exact (up b n1 n2).trans e, fun b ps e => by
        obtain ⟨n1, n2⟩ := ne b _ e fun φ => by simp
        exact ⟨#[], by rw [up b n1 n2, e]; simp⟩⟩ fun b o e => by
      by_cases hb : b = a
      · subst hb
        rw [upd_same] at e
        cases e
        exact ExcN.ok ⟨_, _, e', rfl, rfl, rfl, h4, h42, fun z => xs (Option.some.inj z).symm⟩
      · rw [upd_ne hb] at e
        by_cases hn : b = hh.objs.size
        · subst hn
          rw [upd_same] at e
          cases e
          exact hD.ok
        · rw [upd_ne hn] at e
          refine (I2.hok b o e).stay (fun c w hc z => k' c w (fun y => ?_) z) (fun c r => ?_) fun c xs r => ?_
          · rcases hc with hc | hc
            · exact hb (hc.symm.trans y)
            · rw [y, ea] at hc; cases hc
          · obtain ⟨n1, n2⟩ := ne c _ r fun φ => by simp
            exact (up c n1 n2).trans r
          · obtain ⟨n1, n2⟩ := ne c _ r fun φ => by simp
            exact (up c n1 n2).trans r
    exact ⟨σ, _, I3, q2 _ xs.symm nN⟩
  · obtain ⟨⟨mA, nA, rA, wA, lA⟩, ⟨od, hod⟩, _⟩ := I2.hok dx _ hdx
    refine setX_open hk T hn (od := some od) ⟨he, rfl, rfl, hod⟩ (storeX_more (ns := fs.map (·.1)) hk T he nA wA (by rw [List.length_map]; omega) fun h' t' n' k' => ?_)
    have I3 : Inv X pins σ (upd H2 dx (.ext (XD dx (putF f y fs)))) ⟨h', g, d, t', os⟩ := I2.write (t' := t') (e := dx) (by rw [hdx]; trivial) (.inl rfl) (fun b o n z => k' b o n z) (let ⟨o, _, _, e, _⟩ := n'; ⟨o, e⟩)
      (XD.ok ⟨_, n', fun g' => ?_, fun g' hg => ?_, ?_⟩)
    · exact ⟨σ, _, I3, q2⟩
    · show RelO ((putF f y fs).lookup g') (if g' = f then some u else mA g')
      rw [lookup_putF]
      by_cases q : g' = f
      · rw [if_pos q, if_pos q]; exact ry
      · rw [if_neg q, if_neg q]; exact rA g'
    · by_cases q : g' = f
      · rw [q]; exact (keys_putF f y fs).1
      · refine (keys_putF f y fs).2 g' (wA g' fun z => hg ?_)
        show (if g' = f then some u else mA g') = none
        rw [if_neg q]; exact z
    · have := length_putF f y fs; omega⟩
end
structure InitOf (K : Frag) (R : Addr) : Prop where
  ga : specialIn K (.ref R) "__getattribute__" = some (some (.builtin "type.__getattribute__"))
  rd : readsIn K R (.type "type") = true
  fc : findCls K (.ref R) (.type "type") "__init__" = some (.val (.builtin "ValueError.__init__"))
def tExcInit (K : Frag) (t : TA) : TE := fun σ H Q => t σ H fun vs H1 => ∃ a C f dd rest, vs = .ref a :: rest ∧ H1 a = some (.ext (ExcN a (.ref C) dd)) ∧ iniIn K C f = true ∧ rest.length ≤ sizeLine ∧ Q .non H1
section
variable {X : Cx} {R : Addr} {x : Str} {np apos pos : Pos} {e : Expr} {es : List Expr} {t : TA}
theorem qe_excInit {pl : Sem Bool} (hg : Gl X x) (hm : X.mg x = some (.ref R)) (F : InitOf X.K R) (ha : QA X (e :: es) t) (hdb : (x == ("__debug__" : Str)) = false := by decide)
    (hs : starEach (e :: es) X.env = (false, eval e X.env) :: starEach es X.env := by rfl) (hpl : (backTo pos (starEach es X.env)).any (·.1) = false := by rfl)
    (ht : eval (.Call (.Attribute (.Name x np) "__init__" apos) (e :: es) [] pos) X.env = (do
      let ov ← eval (.Name x np) X.env
      standAt apos.atName
      let (f, first) ← holding [ov] (getMethod ov "__init__" pl)
      callWith pos f first (backTo pos (starEach (e :: es) X.env)) (backToKw pos (keywordEach [] X.env))) := by rfl) :
    QE X (.Call (.Attribute (.Name x np) "__init__" apos) (e :: es) [] pos) (tExcInit X.K t) := ⟨by
  intro pins s σ H Q I h
  refine methodCall_KW (pl := pl) (ld_glob I hg hm ?_ hdb) ht
  refine method_cls I.kIn F.ga (cls_value I.kIn F.rd F.fc rfl ?_)
  have I0 := I.tok (s.toks + 1)
  refine PyProof.Rows.callWith_builtin1 (thn (ha.out pos pins _ σ H _ I0 h) fun us s1 ⟨vs, H1, I1, r1, a, C, f, dd, rest, ev, hE, hC, hz, q⟩ => ?_) hs hpl
  subst ev
  obtain ⟨bm, N, nm, qn, bs, sn, sub, ab, col, dd', k0, k1, k2, k3, k5, mN, cC, cN, ci, T⟩ := ini_obj I1.kIn hC
  obtain ⟨⟨oe, ws, he, h1, h2, h3, h4, h42, h5⟩, _⟩ := I1.hok a _ hE
  obtain ⟨u, us', rfl, ra, rr⟩ : ∃ u us', us = u :: us' ∧ RelV (.ref a) u ∧ Vals rest us' := by
    cases r1 with
    | cons ra rr => exact ⟨_, _, rfl, ra, rr⟩
  obtain rfl : u = Value.ref a := ra
  obtain ⟨hh, g, d, tk, os⟩ := s1
  have hsz : 0 < ws.size := Nat.lt_of_le_of_lt (Nat.zero_le 1) (Array.getElem?_eq_some_iff.mp h4).1
  refine init_call T cC he h1 h3 hsz (by rw [← rr.length]; exact hz) ?_
  have e1 : (hh.push (newArgs us')).get? a = some oe := Heap.get?_push_of_some _ he
  have I2 : Inv X pins σ H1 ⟨hh.push (newArgs us'), g, d, tk, os⟩ := I1.kept (t' := tk) fun b u z => Heap.get?_push_of_some _ z
  have dd2 := Obj.data_mapFields h3 (·.setIfInBounds 0 (Value.ref hh.objs.size))
  have e2 : ((hh.push (newArgs us')).update a (Obj.mapFields (·.setIfInBounds 0 (.ref hh.objs.size)))).get? a = some (oe.mapFields (·.setIfInBounds 0 (.ref hh.objs.size))) := Heap.get?_update_self _ e1 (Obj.isFreed_of_fields dd2)
  have I3 : Inv X pins σ (upd H1 a (.ext (ExcN a (.ref C) dd))) ⟨(hh.push (newArgs us')).update a (Obj.mapFields (·.setIfInBounds 0 (.ref hh.objs.size))), g, d, tk, os⟩ := I2.write (t' := tk) (e := a) (by rw [hE]; trivial) (.inl rfl)
    (fun b u n z => (Heap.get?_update_other _ _ (Ne.symm n)).trans z) ⟨_, e2⟩ (ExcN.ok ⟨_, _, e2, (Obj.cls_mapFields _ _).trans h1, (dict_mapF _ _).trans h2, dd2, by rw [Array.getElem?_setIfInBounds_ne (by decide)]; exact h4, by rw [Array.getElem?_setIfInBounds_ne (by decide)]; exact h42, h5⟩)
  rw [show upd H1 a (.ext (ExcN a (.ref C) dd)) = H1 from funext fun b => by
    by_cases hb : b = a
    · rw [hb, upd_same, hE]
    · rw [upd_ne hb]] at I3
  exact ⟨.non, H1, I3, rfl, q⟩⟩
end
def tFldX (K : Frag) (ta : TE) (f : Str) : TE := fun σ H Q => ta σ H fun x H1 => ∃ a C dx fs v, x = .ref a ∧ H1 a = some (.ext (ExcO a (.ref C) (some dx))) ∧ H1 dx = some (.ext (XD dx fs)) ∧ ExcIs K C ∧ hasDictIn K C = true ∧ findIn K (.ref C) f = some none ∧ fs.lookup f = some v ∧ Q v H1
section
variable {prog : Program} {w : World} {A : Around} {E : Value → Shared → Prop} {s : Shared} {K : Frag} {x C : Addr} {ox : Obj} {od : Obj} {name : Str} {v : Value}
theorem getX_entry {tk : Tok} {Q : Fin → Shared → Prop} (X : K.In s.heap) (I : InstAt s.heap x ox C (some od)) (hf : findObj K C (some od) name = some (.value v)) (h : Q (.done (.ret v)) s) :
    wpAny (model prog w) A (Builtin.«object.__getattribute__» ⟨[.ref x, .str name tk], []⟩) Q E s := by
  obtain ⟨hh, g, d, t, os⟩ := s
  have L0 := I.type (M := model prog w)
  have L1 := looks_find (M := model prog w) X I hf
  unfold Builtin.«object.__getattribute__»
  repeat (first | lk)
  exact h
theorem getX {expr : Bool} {Q : Value → Shared → Prop} (T : ExcIs K C) (X : K.In s.heap) (I : InstAt s.heap x ox C (some od)) (hf : findObj K C (some od) name = some (.value v)) (hv : handedIn v = true) (h : Q v { s with toks := s.toks + 1 }) :
    wpAny (model prog w) A (getAttr (.ref x) name expr) Q E s := by
  obtain ⟨hh, g, d, t, os⟩ := s
  have L0 := I.type (M := model prog w)
  have L1 := looks_findIn (M := model prog w) X T.ga
  have L2 := looks_findIn (M := model prog w) X T.gx
  unfold getAttr getAttrBy
  refine wpAny_bind (wpAny_mkText (wpAny_holding (wpAny_bind (L0.at (wpAny_bind (L1.at ?_))))))
  show wpAny _ _ (getAttrByItsOwn _ _ _ _ _ _) _ _ _
  unfold getAttrByItsOwn hookBefore
  rw [if_pos (show onTheHeap (Value.ref C) = true from rfl)]
  refine wpAny_bind (L2.at (wpAny_bind (wpAny_attempt (wpAny_holding ?_))))
  unfold callGetattribute boundAndCalled
  rw [if_neg (by simp [onTheHeap])]
  have f3 := PySem.F.excAttr_ValueError.ga.bind (.ref x)
  rw [f3]
  refine wpAny_bind (wpAny_pure ?_)
  refine wpAny_call (codeAny_call_builtin PySem.F.excAttr_ValueError.ga.plain F.entry_bexc_ga ?_)
  have hk : builtinKind "BaseException.__getattribute__" = some .slot := by decide +kernel
  have hsp : splitId "BaseException.__getattribute__" = some ("BaseException", "__getattribute__") := by decide +kernel
  have Lb := looks_mroIn (M := model prog w) X T.hb
  have hargs := F.args_bexc_ga (.ref x) (.str name t)
  simp only [checkBuiltinCall, hk, hsp]
  refine wpAny_bind ?_
  unfold isInstance
  refine wpAny_bind (L0.at (Lb.at ?_))
  repeat (first | refine getX_entry (x := x) X I hf ?_ | assumption | wp_step)
  exact handed_on hv h
end
section
variable {X : Cx} {e : Expr} {f : Str} {pos : Pos} {ta : TE}
theorem qe_fldX (he : QE X e ta) (hb : attributeBase e f X.env (eval e X.env) = eval e X.env) : QE X (.Attribute e f pos) (tFldX X.K ta f) := ⟨by
  intro pins s σ H Q I h
  refine attr_of hb (thn (he.out pins s σ H _ I h) fun u s1 ⟨x, H1, I1, rx, a, C, dx, fs, v, ex, ea, ed, T, hd, hn, hl, q⟩ => ?_)
  subst ex
  obtain rfl : u = Value.ref a := rx
  obtain ⟨⟨oe, vs, e1, e2, e3, e4, _⟩, _⟩ := I1.hok a _ ea
  obtain ⟨⟨mA, nA, rA, wA, lA⟩, _⟩ := I1.hok dx _ ed
  obtain ⟨od, ho, hlk⟩ := lookIn_ns nA
  obtain ⟨u, hu, ru⟩ := RelO.some_of (v := v) (o := mA f) (by rw [← hl]; exact rA f)
  have J : InstAt s1.heap a oe C (some od) := ⟨e1, e2, by unfold notCls; rw [e4], by rw [e3]; exact ho⟩
  exact getX T I1.kIn J (findObj_own hd hn rfl (by rw [hlk, hu])) (handed_of ru) ⟨v, H1, I1.tok _, ru, q⟩⟩
end
section
variable {X : Cx} {e : Expr} {f : Str} {pos : Pos} {ta : TE}
theorem qe_fldXK (K : Frag) (he : QE X e ta) (hb : attributeBase e f X.env (eval e X.env) = eval e X.env) (h : X.K = K := by rfl) : QE X (.Attribute e f pos) (tFldX K ta f) := by subst h; exact qe_fldX he hb
end
theorem drop_new {H : Hp} {a dx : Addr} {o p q : HO} (na : H a = none) (ne : dx ≠ a) (nd : upd H a o dx = none) : Same H (drop (upd (upd (upd H a o) dx p) a q) a) ∧ drop (upd (upd (upd H a o) dx p) a q) a dx = some p := by
  rw [upd_ne ne] at nd
  refine ⟨fun b u e => ?_, ?_⟩
  · have h1 : b ≠ a := ne_of_none e na
    have h2 : b ≠ dx := ne_of_none e nd
    rw [drop_ne h1, upd_ne h1, upd_ne h2, upd_ne h1]; exact e
  · rw [drop_ne ne, upd_ne ne, upd_same]
structure XCls (K : Frag) (mg : Str → Option Value) (name : Str) (C f : Addr) (fs : List Str) : Prop where
  mgC : mg name = some (.ref C)
  M : MkX K C f
  T : ErrCls K C
  is : ExcIs K C
  hd : hasDictIn K C = true
  no : ∀ g ∈ fs, findIn K (.ref C) g = some none
def spIni1 (C : Addr) (nm : Str) : Sp := fun vs H Q _ => ∃ (a : Addr) (v : V), vs = [.ref a, v] ∧ H a = some (.ext (ExcN a (.ref C) none)) ∧ ∀ dx, dx ≠ a → H dx = none → Q .non (upd (upd H dx (.ext (XD dx [(nm, v)]))) a (.ext (ExcN a (.ref C) (some dx))))
end L2
end

section
set_option Elab.async false
set_option linter.all false
set_option maxRecDepth 100000
set_option maxHeartbeats 2000000
namespace L2
open PySem PySem.Spec PyProof.Rows PySem.W
def Bare2 (e : Addr) (h : Heap) : Prop := ∃ oe ws, h.get? e = some oe ∧ oe.data = .fields ws ∧ ws[2]? = some .none
theorem entry_unchain : entryFor table "proto.unchain" = some Builtin.«proto.unchain» := entryFor_of_tree (by kernel_rfl)
section
variable {prog : Program} {w : World} {A : Around} {E : Value → Shared → Prop} {s : Shared}
theorem stop_held {g2 : Heap} {O oe : Obj} {vs ws : Array Value} {e : Addr} {Q : Fin → Shared → Prop} (e2 : g2.get? e = some oe) (dE : oe.data = .fields ws) (h2 : ws[2]? = some .none) (dO : O.data = .fields vs) (z2 : 2 < vs.size)
    (hq : E (.ref g2.objs.size) { s with heap := (g2.push O).update g2.objs.size (Obj.mapFields (·.setIfInBounds 2 (.ref e))) }) :
    wpAny (model prog w) A (if (Value.ref e != Value.ref g2.objs.size) = true then do
        let _ ← holding [Value.ref g2.objs.size] (runValue (Code.builtin "proto.unchain" { pos := [Value.ref g2.objs.size, Value.ref e, Value.ref e, Value.bool false] }))
        updateField g2.objs.size 2 (Value.ref e)
        throw (Value.ref g2.objs.size)
      else throw (Value.ref g2.objs.size)) Q E { s with heap := g2.push O } := by
  have ne2 : e ≠ g2.objs.size := Nat.ne_of_lt (Heap.lt_size e2)
  have e3 : (g2.push O).get? e = some oe := Heap.get?_push_of_some _ e2
  have eN : (g2.push O).get? g2.objs.size = some O := Heap.get?_push_size _ (Obj.isFreed_of_fields dO)
  rw [if_pos (by simp [ne2])]
  refine wpAny_bind (wpAny_holding (wpAny_runValue (codeAny_builtin entry_unchain ?_)))
  unfold Builtin.«proto.unchain»
  refine wpAny_bind (m := field (.ref e) 2) (wpAny_field e3 dE h2 ?_)
  rw [if_pos (show (Value.none == Value.none) = true from rfl)]
  refine wpAny_pure ?_
  refine wpAny_bind (m := updateField g2.objs.size 2 (Value.ref e)) ?_
  unfold updateField
  refine wpAny_bind (wpAny_load eN ?_)
  rw [dO]
  dsimp only
  rw [if_pos z2]
  exact wpAny_update eN (wpAny_throw hq)
theorem listEnd_held {it l e : Addr} {i : Nat} {items : Array Value} {Q : Option Value → Shared → Prop} (hh : A.handled = some (.ref e)) (he : Bare2 e s.heap) (hne : e ≠ it) (hit : s.heap.IsListIter it l i) (hl : s.heap.IsList l items) (hx : items[i]? = none)
    (hQ : ∀ h', Heap.ExtBut it s.heap h' → Q none { s with heap := h' }) : wpAny (model prog w) A (pyNext (.ref it)) Q E s := by
  obtain ⟨oi, eI, cI, dI⟩ := id hit
  obtain ⟨oL, eL, _, nL, dL⟩ := hl
  obtain ⟨oe, ws, eE, dE, h2⟩ := he
  unfold pyNext
  refine wpAny_bind (wpAny_attempt (wpAny_callSpecial?_slot (name := Str.ofString "__next__") hit.typeIs slot_listiter_next (wpAny_call_entry slot_listiter_next hit.typeIs entry_listiter_next ?_ (args_listiter_next _))))
  refine wpAny_bind (m := field (.ref it) 0) (wpAny_field eI dI (x := .ref l) rfl ?_)
  refine (show wpAny _ _ (if (Value.ref l == Value.none) = true then _ else _) _ _ s from ?_)
  rw [if_neg (by simp : ¬ ((Value.ref l == Value.none) = true))]
  refine wpAny_bind (m := field (.ref it) 1) (wpAny_field eI dI (x := .int i 0) rfl ?_)
  refine wpAny_bind (m := seqItems? (.ref l)) (wpAny_seqItems eL dL ?_)
  simp only [hx, Int.toNat_natCast]
  refine wpAny_bind (wpAny_rule (wpAny_bind (wpAny_setField eI dI (by simp) (wpAny_bind (m := PySem.newExc (.type "StopIteration") []) ?_))))
  simp only [PySem.newExc, newTuple]
  refine wpAny_bind (wpAny_newObj_type (wpAny_bind (m := firstArgMember _ _) (wpAny_of_eq (a := Value.none) (by first | rfl | (simp only [firstArgMember]; rfl)) (wpAny_newObj_type ?_ (by size_fits)))) (by size_fits))
  simp only [raiseNew]
  refine wpAny_bind (wpAny_handled ?_)
  rw [show A.in1.handled = some (.ref e) from hh]
  have le : ∀ b u, b ≠ it → s.heap.get? b = some u → ((s.heap.update it (Obj.mapFields fun x => x.setIfInBounds 0 Value.none)).push { cls := Value.type "tuple", data := Data.seq #[] }).get? b = some u := fun b u n z => Heap.get?_push_of_some _ ((Heap.get?_update_other _ _ (Ne.symm n)).trans z)
  have x2 : Heap.ExtBut it s.heap ((s.heap.update it (Obj.mapFields fun x => x.setIfInBounds 0 Value.none)).push { cls := Value.type "tuple", data := Data.seq #[] }) := (Heap.SameBut.update ..).extBut.push _
  generalize (s.heap.update it (Obj.mapFields fun x => x.setIfInBounds 0 Value.none)).push { cls := Value.type "tuple", data := Data.seq #[] } = g2 at le x2 ⊢
  have e2 := le e oe hne eE
  have ne2 : e ≠ g2.objs.size := Nat.ne_of_lt (Heap.lt_size e2)
  dsimp only
  refine stop_held e2 dE h2 rfl (by simp; omega) ?_
  refine wpAny_bind (wpAny_isInstance (T := "StopIteration") (b := true) ⟨_, Heap.get?_update_self _ (Heap.get?_push_size _ rfl) rfl, rfl⟩ isSubtype_stop ?_)
  exact wpAny_pure (hQ _ fun b u n z => (Heap.get?_update_other _ _ (Nat.ne_of_gt (Heap.lt_size (le b u n z)))).trans (Heap.get?_push_of_some _ (le b u n z)))
theorem walks_held {e it ax : Addr} (hh : A.handled = some (.ref e)) (h1 : ax ≠ it) (h2 : e ≠ it) (items : Array Value) :
    Walks prog w A it [it, ax, e] [it] items.size (fun i v => items[i]? = some v) (fun i h => (h.IsListIter it ax i ∧ h.IsList ax items) ∧ Bare2 e h) where
  sub := fun b hb => by simp at hb; simp [hb]
  frame := fun _ _ _ st hk => ⟨⟨st.1.1.at fun o z => hk it (by simp) o z, st.1.2.at fun o z => hk ax (by simp) o z⟩, let ⟨oe, ws, z, r⟩ := st.2; ⟨oe, ws, hk e (by simp) oe z, r⟩⟩
  item := fun i s Q E hi st hQ => by
    have hx : items[i]? = some items[i] := Array.getElem?_eq_getElem hi
    refine wpAny_pyNext_list_item st.1.1 st.1.2 hx fun h' hit' hs' => hQ _ h' s.toks hx ⟨⟨hit', st.1.2.extBut hs'.extBut h1⟩, ?_⟩ fun b o hb z => hs'.extBut b o (fun y => hb (by simp [y])) z
    obtain ⟨oe, ws, z, r⟩ := st.2
    exact ⟨oe, ws, hs'.extBut e oe h2 z, r⟩
  done := fun s Q E st hQ => listEnd_held hh st.2 h2 st.1.1 st.1.2 (by simp) fun h' he' => hQ h' s.toks fun b o hb z => he' b o (fun y => hb (by simp [y])) z
  self := fun _ _ _ _ st hQ => wpAny_pyIter_listiter st.1.1 hQ
end
def rAnyH (K : Frag) (a : Addr) : List V → Hp → VK → Prop := fun xs H Q => ∃ (p : Addr) (bs : List Bool) (cls : Value) (dd : Option Addr), xs = [.ref p] ∧ SqL K H p (bs.map V.bl) ∧ H a = some (.ext (ExcO a cls dd)) ∧ Q (.bl (bs.any id)) H
section
variable {X : Cx}
theorem call_anyH (K : Frag) (a : Addr) (hc : X.A.handled = some (.ref a)) (hK : X.K = K := by rfl) : CallR X (.builtin "any") (rAnyH K a) := by
  intro pins s σ H xs us Q I r h
  subst hK
  obtain ⟨p, bs, cls, dd, rfl, hq, he, q⟩ := h
  obtain ⟨u, rfl, ru⟩ := vals1 r
  cases ru
  obtain ⟨its, rv, pl, hz⟩ := I.list hq
  have hne : p ≠ s.heap.objs.size := by
    obtain ⟨o, ho, _⟩ := pl.isList
    exact Nat.ne_of_lt (Heap.lt_size ho)
  obtain ⟨⟨oe, ws, h1, h2, h3, h4, h5⟩, _⟩ := I.hok a _ he
  have hae : a ≠ s.heap.objs.size := Nat.ne_of_lt (Heap.lt_size h1)
  have hb : ∀ (i : Nat) (v : Value), its[i]? = some v → v = .bool (bs.getD i false) := fun i v hv => by
    have hlen := rv.length
    have hi : i < bs.length := by have := (List.getElem?_eq_some_iff.mp hv).1; simp at hlen; omega
    obtain ⟨u, hu, ru⟩ := rv.get (i := i) (x := .bl bs[i]) (by simp [hi])
    rw [hv] at hu; cases hu
    cases ru
    simp [List.getD, hi]
  refine call_any_walk (wpAny_pyIter_list pl.isList ?_)
  refine ⟨s.heap.objs.size, _, _, _, _, _, fun i => bs.getD i false, rfl, walks_held (A := X.A.in1) (e := a) hc hne hae its.toArray, ⟨⟨⟨_, Heap.get?_push_size _ rfl, rfl, rfl⟩, pl.isList.at fun o e => Heap.get?_push_of_some _ e⟩, oe, ws, Heap.get?_push_of_some _ h1, h4, h5⟩, ?_, fun h' tk kk => ?_⟩
  · intro i v s' Q' E' hv hq'
    have e := hb i v (by simpa using hv)
    subst e
    exact wpAny_truthy_bool hq'
  · have I1 : Inv X pins σ H { s with heap := h', toks := tk } := I.kept fun b o e => kk b o (by
      intro hm
      have : b = s.heap.objs.size := by simpa using hm
      subst this
      exact absurd (Heap.lt_size e) (Nat.lt_irrefl _)) (Heap.get?_push_of_some _ e)
    refine ⟨.bl (bs.any id), H, I1, ?_, q⟩
    show Value.bool _ = Value.bool _
    have hlen : its.toArray.size = bs.length := by have := rv.length; simp at this; simp [this]
    rw [hlen]
    congr 1
    have key : ∀ bs : List Bool, (List.range bs.length).any (fun i => bs.getD i false) = bs.any id := fun bs => by
      rw [Bool.eq_iff_iff, List.any_eq_true, List.any_eq_true]
      constructor
      · rintro ⟨i, hi, h⟩
        have hi' := List.mem_range.mp hi
        exact ⟨bs[i], List.getElem_mem _, by simpa [List.getD, hi'] using h⟩
      · rintro ⟨x, hx, h⟩
        obtain ⟨i, hi, rfl⟩ := List.mem_iff_getElem.mp hx
        exact ⟨i, List.mem_range.mpr hi, by simpa [List.getD, hi] using h⟩
    exact key bs
end
def rSortSP : List V → Hp → VK → Prop := fun xs H Q => ∃ l, xs = [.str (S l)] ∧ l.length < 64 ∧ ∀ (p : Addr) (ls' : List Nat), H p = none → ls'.Perm l → (ls'.map fun c => [c]).Pairwise (fun a b => decide (b < a) = false) → Q (.ref p) (upd H p (.lst (Ts (ls'.map fun c => [c]))))
section
variable {X : Cx}
theorem call_sortedSP (hc : X.calm = true) : CallR X (.builtin "sorted") rSortSP := by
  intro pins s σ H xs us Q I r h
  obtain ⟨l, rfl, h64, q⟩ := h
  obtain ⟨u, rfl, ru⟩ := vals1 r
  obtain ⟨t, rfl⟩ := ru
  have hz : (S l).cps.size ≤ sizeLine := by show l.length ≤ sizeLine; exact Nat.le_of_lt (small1000 (by omega))
  refine sorted_any (wpAny_collect_str (A := X.A.in1) (I.ok.hd hc) (S l) t (fun s1 acc k1 k2 k3 k4 hacc => ?_) hz)
  have hS := signs_of hacc
  refine ⟨_, hS, ?_, fun h' vs' ss' e kk he hS' pm srt => ?_⟩
  · rw [Array.length_toList, hacc.1]; exact h64
  have I1 : Inv X pins σ H s1 := by
    have I5 := I.kept (h' := s1.heap) (t' := s1.toks) k1
    obtain ⟨h', g', d', t'', o'⟩ := s1
    simp only at k2 k3 k4
    subst k2 k3 k4
    exact I5
  -- the letters behind
  have pm' : (ss'.map fun y => y.cps.toList.headD 0).Perm l := by
    have := pm.map fun y : Str => y.cps.toList.headD 0
    rw [List.map_map] at this
    have e : ((fun y : Str => y.cps.toList.headD 0) ∘ fun c => (⟨#[c]⟩ : Str)) = id := rfl
    rw [e, List.map_id, S_cps] at this
    exact this
  have es : ss' = (ss'.map fun y => y.cps.toList.headD 0).map fun c => (⟨#[c]⟩ : Str) := by
    rw [List.map_map]
    refine (List.map_id _).symm.trans (List.map_congr_left fun y hy => ?_)
    obtain ⟨c, _, rfl⟩ := List.mem_map.mp (pm.mem_iff.mp hy)
    rfl
  have hn : H s1.heap.objs.size = none := I1.fresh
  have hv : Vals (Ts ((ss'.map fun y => y.cps.toList.headD 0).map fun c => [c])) vs' := by
    have := vals_of_strs hS'
    rw [es] at this
    simpa [Ts, S, Function.comp_def] using this
  have hl : (Ts ((ss'.map fun y => y.cps.toList.headD 0).map fun c => [c])).length ≤ sizeLine := by
    rw [List.length_map, List.length_map, pm'.length_eq]; exact Nat.le_of_lt (small1000 (by omega))
  refine ⟨.ref s1.heap.objs.size, _, I1.laid (o := .lst _) (t' := s1.toks) kk (Nat.le_refl _) ⟨hl, vs', e, hv, he⟩, rfl, q _ _ hn pm' ?_⟩
  have pw := sorted_pw ss' srt
  rw [es, List.map_map] at pw
  exact pw
end
end L2
end

section
set_option Elab.async false
set_option linter.all false
set_option maxRecDepth 100000
set_option maxHeartbeats 4000000
namespace My
open PySem L2
def top (i : Nat) : Stmt := PySem.Challenge.pw_letterrack_k11_what_is_left.main.body.getD i (.Pass ⟨0, 0, 0, 0⟩)
abbrev s_Lacking_init : Stmt := inClass (top 5) 0
theorem sc_Lacking_init : FnScope ["self", "tile"] ["self", "tile"] (defScope s_Lacking_init) := ⟨rfl, rfl, rfl, by decide +kernel, rfl, by decide +kernel, by decide +kernel⟩
abbrev s_tile_of : Stmt := top 9
theorem sc_tile_of : FnScope ["sign"] ["sign"] (defScope s_tile_of) := ⟨rfl, rfl, rfl, by decide +kernel, rfl, by decide +kernel, by decide +kernel⟩
abbrev s_left_of : Stmt := top 10
theorem sc_left_of : FnScope ["rack", "signs", "tiles", "sign", "tile"] ["rack", "signs"] (defScope s_left_of) := ⟨rfl, rfl, rfl, by decide +kernel, rfl, by decide +kernel, by decide +kernel⟩
abbrev s_cell_at : Stmt := top 12
theorem sc_cell_at : FnScope ["_law_script", "_law_k"] ["_law_script", "_law_k"] (defScope s_cell_at) := ⟨rfl, rfl, rfl, by decide +kernel, rfl, by decide +kernel, by decide +kernel⟩
abbrev s_stream : Stmt := top 13
theorem sc_stream : FnScope ["_law_cell", "_law_many", "_law_found", "_law_number", "_law_k"] ["_law_cell", "_law_many"] (defScope s_stream) := ⟨rfl, rfl, rfl, by decide +kernel, rfl, by decide +kernel, by decide +kernel⟩
abbrev s_letters : Stmt := top 14
theorem sc_letters : FnScope ["_law_cell", "_law_letters_here", "_law_found", "_law_k"] ["_law_cell"] (defScope s_letters) := ⟨rfl, rfl, rfl, by decide +kernel, rfl, by decide +kernel, by decide +kernel⟩
abbrev s_rack : Stmt := top 15
theorem sc_rack : FnScope ["_law_script", "_law_letters_here", "_law_rack_here", "_law_cell"] ["_law_script", "_law_letters_here"] (defScope s_rack) := ⟨rfl, rfl, rfl, by decide +kernel, rfl, by decide +kernel, by decide +kernel⟩
abbrev s_signs : Stmt := top 16
theorem sc_signs : FnScope ["_law_cell", "_law_rack_here", "_law_letters_here", "_law_numbers", "_law_order", "_law_signs_here", "_law_k", "_law_number", "_law_sign", "_law_tile"] ["_law_cell", "_law_rack_here", "_law_letters_here"] (defScope s_signs) := ⟨rfl, rfl, rfl, by decide +kernel, rfl, by decide +kernel, by decide +kernel⟩
abbrev s_due : Stmt := top 17
theorem sc_due : FnScope ["_law_rack_here", "_law_signs_here", "_law_left", "_law_sign", "_law_tile"] ["_law_rack_here", "_law_signs_here"] (defScope s_due) := ⟨rfl, rfl, rfl, by decide +kernel, rfl, by decide +kernel, by decide +kernel⟩
abbrev s_told : Stmt := top 18
theorem sc_told : FnScope ["_law_rack_here", "_law_signs_here", "_law_found", "e", "_law_some"] ["_law_rack_here", "_law_signs_here"] (defScope s_told) := ⟨rfl, rfl, rfl, by decide +kernel, rfl, by decide +kernel, by decide +kernel⟩
abbrev s_law : Stmt := top 19
theorem sc_law : FnScope ["_law_script", "_law_letters_here", "_law_rack_here", "_law_cell", "_law_signs_here", "_law_due_here", "_law_one", "_law_found"] ["_law_script"] (defScope s_law) := ⟨rfl, rfl, rfl, by decide +kernel, rfl, by decide +kernel, by decide +kernel⟩
-- DEFS NoWord_init|NoWord.__init__|self,word Gap_init|Gap.__init__|self,row,column Lacking_init|Lacking.__init__|self,tile tile_of|tile_of|sign left_of|left_of|rack,signs cell_at|_law_cell_at|_law_script,_law_k stream|_law_stream|_law_cell,_law_many letters|_law_letters|_law_cell rack|_law_rack|_law_script,_law_letters_here signs|_law_signs|_law_cell,_law_rack_here,_law_letters_here due|_law_due|_law_rack_here,_law_signs_here told|_law_told|_law_rack_here,_law_signs_here law|law|_law_script

section
variable {P : Program} {w : World} {K : PySem.W.Frag} {mg : Str → Option Value} {base : Heap}
def isLet (c : Nat) : Prop := 97 ≤ c ∧ c ≤ 122
structure Alph (ls : List Nat) : Prop where
  lo : 2 ≤ ls.length
  hi : ls.length ≤ 26
  az : ∀ c ∈ ls, isLet c
def spCell (K : PySem.W.Frag) : Sp := fun vs H Q _ => ∃ (a : Addr) (ns : List Int) (k : Nat), vs = [.ref a, .int k] ∧ SqL K H a (ns.map V.int) ∧ ∀ v : Int, Q (.int v) H
theorem ok_cell_at (D : DefAt K mg "_law_cell_at" s_cell_at ["_law_script", "_law_k"]) (hlen : mg "len" = none) : Def P w K mg base "_law_cell_at" 1 ["_law_script", "_law_k"] (spCell K) := by
  refine D.qok sc_cell_at (fun vs H Q E h => ?_) (fun f cdv A outer s H vs Q E hr h => ?_)
  · obtain ⟨a, ns, k, rfl, _⟩ := h
    rfl
  · obtain ⟨a, ns, k, rfl, hS, q⟩ := h
    refine ⟨_, qss_cons (qs_if (qt_cmpR op_lt (qv 1) (qe_callB call_len_seq (by rfl) hlen PySem.boot_len (qa_cons (qv 0) qa_nil)) (nomark _)) (qss_one (qs_ret (qe_ix ix_list (qv 0) (qv 1) (fun _ _ => rfl)))) qss_nil) (qss_one (qs_ret qe_int)), ?_⟩
    refine ⟨_, rfl, _, rfl, a, _, rfl, .inl hS, _, _, rfl, rfl, _, rfl, ?_⟩
    refine ite2 (fun hc => ?_) (fun _ => ?_)
    · have hk : k < ns.length := by
        have := of_decide_eq_true hc
        rw [List.length_map] at this
        omega
      exact ⟨_, rfl, _, rfl, a, _, _, .int ns[k], rfl, rfl, hS, atI_nat (by simp [hk]), q _⟩
    · exact q _
def spStream : Sp := fun vs H Q _ => ∃ (c : Int) (m : Nat), vs = [.int c, .int m] ∧ m ≤ 100 ∧ ∀ (p : Addr) (ds : List Int) (H' : Hp), Same H H' → H p = none → H' p = some (.lst (ds.map V.int)) → ds.length = m → Q (.ref p) H'
theorem ok_stream (D : DefAt K mg "_law_stream" s_stream ["_law_cell", "_law_many"]) (n_range : mg "range" = none) : Def P w K mg base "_law_stream" 1 ["_law_cell", "_law_many"] spStream := by
  refine D.qok sc_stream (fun vs H Q E h => ?_) (fun f cdv A outer s H vs Q E hr h => ?_)
  · obtain ⟨c, m, rfl, _⟩ := h
    rfl
  · obtain ⟨c, m, rfl, hm, q⟩ := h
    refine ⟨_, (qss_cons (qs_set (i := 2) sc_stream.nd rfl (Or.inl rfl) (qe_lst qa_nil)) (qss_cons (qs_set (i := 3) sc_stream.nd rfl (Or.inl rfl) (qe_op op_fdiv (qv 0) qe_int)) (qss_cons (qs_if (qt_cmpR op_eq (qe_op op_mod (qv 0) qe_int) qe_int (nomark _)) (qss_cons (qs_for PassesOwn.never rfl (qi_range1 (by rfl) n_range (qa_cons (qv 1) qa_nil)) (qg_name (i := 4) sc_stream.nd rfl (Or.inl rfl)) (qss_cons (qs_expr (qe_bm PySem.F.plainAttrs_list PySem.F.slot_list_append PySem.F.type_list_append mt_append (qv 2) (qa_cons (qe_op op_mod (qv 3) (qe_op op_pow qe_int qe_int)) qa_nil))) (qss_one (qs_set (i := 3) sc_stream.nd rfl (Or.inl rfl) (qe_op op_fdivB (qv 3) (qe_op op_pow qe_int qe_int)))))) (qss_one (qs_ret (qv 2)))) qss_nil) (qss_cons (qs_set (i := 3) sc_stream.nd rfl (Or.inl rfl) (qe_op op_mod (qv 3) qe_int)) (qss_cons (qs_for PassesOwn.never rfl (qi_range1 (by rfl) n_range (qa_cons (qe_op op_add (qv 1) qe_int) qa_nil)) (qg_name (i := 4) sc_stream.nd rfl (Or.inl rfl)) (qss_cons (qs_set (i := 3) sc_stream.nd rfl (Or.inl rfl) (qe_op op_mod (qe_op op_add (qe_op op_add (qe_op op_add (qe_op op_mul (qv 3) (qv 3)) (qe_op op_mul qe_int (qv 3))) (qe_op op_mul qe_int (qv 4))) qe_int) qe_int)) (qss_one (qs_expr (qe_bm PySem.F.plainAttrs_list PySem.F.slot_list_append PySem.F.type_list_append mt_append (qv 2) (qa_cons (qe_op op_add (qe_op op_mul (qe_op op_mod (qe_op op_mul (qv 3) qe_int) qe_int) qe_int) (qe_op op_mod (qv 3) qe_int)) qa_nil)))))) (qss_one (qs_ret (qe_slice sl_list (qv 2) (qo_some qe_int) qo_none)))))))), ?_⟩
    refine ⟨by show 0 ≤ sizeLine; decide, fun p hp => ?_⟩
    refine ⟨_, rfl, _, _, rfl, rfl, ⟨by decide, by decide⟩, ?_⟩
    refine ⟨_, rfl, _, _, rfl, rfl, (by show (0 : Int) < 2; decide), rfl, _, rfl, ?_⟩
    refine ite2 (fun _ => ?_) (fun _ => ?_)
    · refine ⟨_, rfl, _, rfl, by omega, by omega, ?_⟩
      rw [Int.toNat_natCast]
      refine for_range (n := m) (lo := 0) (fun i σ H2 => ∃ (n : Int) (kv : Option V) (ds : List Int), σ = [some (.int c), some (.int m), some (.ref p), some (.int n), kv] ∧ Same H H2 ∧ H2 p = some (.lst (ds.map V.int)) ∧ ds.length = i)
        ⟨_, none, [], rfl, Same.upd hp, upd_same, rfl⟩ ?_ ?_
      · rintro i σ H2 hi ⟨n, kv, ds, rfl, sm, hp2, hl⟩
        refine ⟨_, rfl, .inl ⟨rfl, _, SqL.of hp2⟩, _, rfl, _, _, rfl, rfl, ⟨by decide, by decide, by decide⟩, _, _, rfl, rfl, (by show (0 : Int) < 10 ^ 20; decide), ?_⟩
        refine ⟨p, _, _, rfl, rfl, hp2, by rw [List.length_map, hl]; exact small1000 (by omega), ?_⟩
        refine ⟨_, rfl, _, _, rfl, rfl, ⟨by decide, by decide, by decide⟩, _, _, rfl, rfl, ⟨by show (0 : Int) < 10 ^ 20; decide, by decide +kernel⟩, ?_⟩
        exact ⟨_, _, ds ++ [n % (10 : Int) ^ (20 : Int).toNat], rfl, sm.upd' hp, by rw [upd_same]; simp, by simp [hl]⟩
      · rintro σ H2 ⟨n, kv, ds, rfl, sm, hp2, hl⟩
        exact ⟨_, rfl, q p ds H2 sm hp hp2 hl⟩
    · refine ⟨_, rfl, _, _, rfl, rfl, (by show (0 : Int) < 2305843009213693951; decide), ?_⟩
      refine ⟨_, rfl, _, _, rfl, rfl, _, rfl, by omega, by omega, ?_⟩
      have em : ((m : Int) + 1).toNat = m + 1 := by omega
      rw [em]
      refine for_range (n := m + 1) (lo := 0) (fun i σ H2 => ∃ (n : Int) (kv : Option V) (ds : List Int), σ = [some (.int c), some (.int m), some (.ref p), some (.int n), kv] ∧ Same H H2 ∧ H2 p = some (.lst (ds.map V.int)) ∧ ds.length = i ∧ 0 ≤ n ∧ n < 2305843009213693951)
        ⟨_, none, [], rfl, Same.upd hp, upd_same, rfl, Int.emod_nonneg _ (by decide), Int.emod_lt_of_pos _ (by decide)⟩ ?_ ?_
      · rintro i σ H2 hi ⟨n, kv, ds, rfl, sm, hp2, hl, n0, n1⟩
        refine ⟨_, rfl, _, rfl, _, _, rfl, rfl, .inl ⟨by omega, by omega⟩, _, rfl, _, _, rfl, rfl, .inl ⟨by decide, by decide⟩, _, _, rfl, rfl, _, rfl, _, _, rfl, rfl, .inl ⟨by decide, by decide⟩, _, _, rfl, rfl, _, _, rfl, rfl, _, _, rfl, rfl, (by show (0 : Int) < 2305843009213693951; decide), ?_⟩
        refine ⟨_, rfl, .inl ⟨rfl, _, SqL.of hp2⟩, ?_⟩
        refine ⟨_, rfl, _, _, rfl, rfl, .inr ⟨by decide, by decide⟩, _, _, rfl, rfl, (by show (0 : Int) < 2147483629; decide), _, _, rfl, rfl, .inr ⟨by decide, by decide⟩, _, rfl, _, _, rfl, rfl, (by show (0 : Int) < 2147483587; decide), _, _, rfl, rfl, ?_⟩
        refine ⟨p, _, _, rfl, rfl, hp2, by rw [List.length_map, hl]; exact small1000 (by omega), ?_⟩
        exact ⟨_, _, ds ++ [_], rfl, sm.upd' hp, by rw [upd_same]; simp; rfl, by simp [hl], Int.emod_nonneg _ (by decide), Int.emod_lt_of_pos _ (by decide)⟩
      · rintro σ H2 ⟨n, kv, ds, rfl, sm, hp2, hl, n0, n1⟩
        refine ⟨_, rfl, _, rfl, p, _, rfl, SqL.of hp2, fun t ht => ?_⟩
        have e : cutV (ds.map V.int) (some 1) none = (ds.drop 1).map V.int := by
          unfold cutV
          have e1 : HT.sIx (ds.map V.int).length 0 (some 1) = min 1 (ds.map V.int).length := HT.sIx_nat _ _ 1
          rw [e1, List.length_map, hl]
          show List.take (m + 1 - min 1 (m + 1)) (List.drop (min 1 (m + 1)) (ds.map V.int)) = _
          rw [show min 1 (m + 1) = 1 by omega, List.take_of_length_le (by rw [List.length_drop, List.length_map]; omega), List.map_drop]
        rw [e]
        exact q t (ds.drop 1) _ (sm.upd' (sm.free ht)) (sm.free ht) upd_same (by rw [List.length_drop]; omega)
theorem AL_az : ∀ c ∈ AL, isLet c := fun c hc => by
  obtain ⟨k, hk, rfl⟩ := List.mem_map.mp hc
  have := List.mem_range.mp hk
  exact ⟨by omega, by omega⟩
def spLetC : Sp := fun vs H Q _ => ∃ c : Int, vs = [.int c] ∧ ∀ ls : List Nat, Alph ls → Q (.str (S ls)) H
theorem ok_letters (D : DefAt K mg "_law_letters" s_letters ["_law_cell"]) (n_range : mg "range" = none) : Def P w K mg base "_law_letters" 1 ["_law_cell"] spLetC := by
  refine D.qok sc_letters (fun vs H Q E h => ?_) (fun f cdv A outer s H vs Q E hr h => ?_)
  · obtain ⟨c, rfl, _⟩ := h
    rfl
  · obtain ⟨c, rfl, q⟩ := h
    refine ⟨_, (qss_cons (qs_set (i := 1) sc_letters.nd rfl (Or.inl rfl) (qe_strS AL (by decide +kernel))) (qss_cons (qs_if (qt_cmpR op_eq (qe_op op_mod (qv 0) qe_int) qe_int (nomark _)) (qss_one (qs_ret (qv 1))) qss_nil) (qss_cons (qs_set (i := 2) sc_letters.nd rfl (Or.inl rfl) (qe_strS [] (by decide +kernel))) (qss_cons (qs_for PassesOwn.never rfl (qi_range1 (by rfl) n_range (qa_cons (qe_op op_add qe_int (qe_op op_mod (qe_op op_fdiv (qv 0) qe_int) qe_int)) qa_nil)) (qg_name (i := 3) sc_letters.nd rfl (Or.inl rfl)) (qss_one (qs_set (i := 2) sc_letters.nd rfl (Or.inl rfl) (qe_op op_addS (qv 2) (qe_ix ix_S (qv 1) (qe_op op_mod (qe_op op_add (qe_op op_fdiv (qv 0) qe_int) (qe_op op_mul (qv 3) (qe_op op_add qe_int (qe_op op_mod (qe_op op_fdiv (qv 0) qe_int) qe_int)))) qe_int) (fun _ _ => rfl)))))) (qss_one (qs_ret (qv 2))))))), ?_⟩
    refine ⟨_, rfl, _, _, rfl, rfl, (by show (0 : Int) < 8; decide), rfl, _, rfl, ?_⟩
    refine ite2 (fun _ => ?_) (fun _ => ?_)
    · exact ⟨_, rfl, q AL ⟨by decide, by decide, AL_az⟩⟩
    · have d0 := Int.emod_nonneg (c / 8) (show (3 : Int) ≠ 0 by decide)
      have d1 := Int.emod_lt_of_pos (c / 8) (show (0 : Int) < 3 by decide)
      refine ⟨_, rfl, _, _, rfl, rfl, ⟨by decide, by decide⟩, _, _, rfl, rfl, (by show (0 : Int) < 3; decide), _, _, rfl, rfl, _, rfl, by omega, by omega, ?_⟩
      refine for_range (lo := 0) (fun i σ H2 => H2 = H ∧ ∃ (kv : Option V) (ls : List Nat), σ = [some (.int c), some (.str (S AL)), some (.str (S ls)), kv] ∧ ls.length = i ∧ ∀ c ∈ ls, isLet c) ⟨rfl, none, [], rfl, rfl, fun c h => by simp at h⟩ ?_ ?_
      · rintro i σ H2 hi ⟨rfl, kv, ls, rfl, hl, ha⟩
        obtain ⟨x, hx, hm⟩ := at_modA (xs := AL) (n := 26) (by decide) (by decide) (c / 24 + (0 + (i : Int)) * (1 + c / 624 % 8))
        refine ⟨_, rfl, _, rfl, _, rfl, _, _, rfl, rfl, ⟨by decide, by decide⟩, _, rfl, _, rfl, _, _, rfl, rfl, ⟨by decide, by decide⟩, _, _, rfl, rfl, (by show (0 : Int) < 8; decide), _, _, rfl, rfl, _, _, rfl, rfl, .inl ⟨by omega, by omega⟩, _, _, rfl, rfl, _, _, rfl, rfl, (by show (0 : Int) < 26; decide), ?_⟩
        refine ⟨AL, _, x, rfl, rfl, by decide, hx, ls, [x], rfl, rfl, ?_, ?_⟩
        · exact Nat.le_of_lt (small1000 (by show ls.length + 1 ≤ 1000; omega))
        · refine ⟨rfl, _, ls ++ [x], rfl, by simp [hl], fun y hy => ?_⟩
          rcases List.mem_append.mp hy with z | z
          · exact ha y z
          · rw [List.mem_singleton.mp z]; exact AL_az x hm
      · rintro σ H2 ⟨rfl, kv, ls, rfl, hl, ha⟩
        exact ⟨_, rfl, q ls ⟨by omega, by omega, ha⟩⟩

end
end My
end

section
set_option Elab.async false
set_option linter.all false
set_option maxRecDepth 100000
set_option maxHeartbeats 2000000
namespace My
open PySem L2
section
variable {P : Program} {w : World} {K : PySem.W.Frag} {mg : Str → Option Value} {base : Heap}
def tileF (c : Nat) : Nat := if 65 ≤ c ∧ c ≤ 90 then 63 else c
def rkC (c : Nat) : Prop := isLet c ∨ c = 63
def spRack (K : PySem.W.Frag) : Sp := fun vs H Q _ => ∃ (a : Addr) (ns : List Int) (ls : List Nat), vs = [.ref a, .str (S ls)] ∧ SqL K H a (ns.map V.int) ∧ ns.length ≤ 63 ∧ Alph ls ∧ ∀ (l : List Nat) (H' : Hp), Same H H' → l.length ≤ 63 → (∀ c ∈ l, rkC c) → Q (.str (S l)) H'
theorem ok_rack (D : DefAt K mg "_law_rack" s_rack ["_law_script", "_law_letters_here"]) (n_len : mg "len" = none) (D_cell_at : Def P w K mg base "_law_cell_at" 1 ["_law_script", "_law_k"] (spCell K)) : Def P w K mg base "_law_rack" 2 ["_law_script", "_law_letters_here"] (spRack K) := by
  refine D.qok sc_rack (fun vs H Q E h => ?_) (fun f cdv A outer s H vs Q E hr h => ?_)
  · obtain ⟨a, ns, ls, rfl, _⟩ := h
    rfl
  · obtain ⟨a, ns, ls, rfl, hS, hn, hA, q⟩ := h
    have hl1 := hA.lo
    have hl2 := hA.hi
    refine ⟨_, (qss_cons (qs_set (i := 2) sc_rack.nd rfl (Or.inl rfl) (qe_strS [] (by decide +kernel))) (qss_cons (qs_for PassesOwn.never rfl (qi_list (qe_slice sl_list (qv 0) (qo_some qe_int) (qo_some (qe_op op_add qe_int (qe_op op_mod (qe_own D_cell_at (hr.mono (by decide)) rfl (qa_cons (qv 0) (qa_cons qe_int qa_nil))) qe_int))))) (qg_name (i := 3) sc_rack.nd rfl (Or.inl rfl)) (qss_one (qs_if (QW.qt (qw_and (qt_cmpR op_eq (qe_op op_mod (qv 3) qe_int) qe_int (nomark _)) (qw_and1 (qt_cmpR op_lt (qe_bm PySem.F.plainAttrs_str PySem.F.slot_str_count PySem.F.type_str_count mt_countS (qv 2) (qa_cons (qe_strS [63] (by decide +kernel)) qa_nil)) qe_int (nomark _))))) (qss_one (qs_set (i := 2) sc_rack.nd rfl (Or.inl rfl) (qe_op op_addS (qv 2) (qe_strS [63] (by decide +kernel))))) (qss_one (qs_set (i := 2) sc_rack.nd rfl (Or.inl rfl) (qe_op op_addS (qv 2) (qe_ix ix_S (qv 1) (qe_op op_mod (qe_op op_fdiv (qv 3) qe_int) (qe_callB call_lenS (by rfl) n_len PySem.boot_len (qa_cons (qv 1) qa_nil))) (fun _ _ => rfl)))))))) (qss_one (qs_ret (qv 2))))), ?_⟩
    refine ⟨_, rfl, _, rfl, _, rfl, a, ns, 2, rfl, hS, fun v => ⟨_, _, rfl, rfl, (by show (0 : Int) < 8; decide), _, _, rfl, rfl, _, rfl, a, _, rfl, hS, fun L hL => ?_⟩⟩
    obtain ⟨ms, ems, hml⟩ : ∃ ms : List Int, cutV (ns.map V.int) (some 3) (some (3 + v % 8)) = ms.map V.int ∧ ms.length ≤ ns.length := by
      refine ⟨_, by unfold cutV; rw [← List.map_drop, ← List.map_take], ?_⟩
      rw [List.length_take, List.length_drop]
      omega
    rw [ems]
    have s1 : Same H (upd H L (.lst (ms.map V.int))) := Same.upd hL
    refine ⟨L, rfl, ⟨_, SqL.of upd_same⟩, for_list (K := K) (a := L) (xs := ms.map V.int) (fun i σ H2 => H2 = upd H L (.lst (ms.map V.int)) ∧ ∃ (v3 : Option V) (l : List Nat), σ = [some (.ref a), some (.str (S ls)), some (.str (S l)), v3] ∧ l.length = i ∧ ∀ c ∈ l, rkC c) ⟨rfl, none, [], rfl, rfl, fun c h => by simp at h⟩ (fun i σ H2 _ ⟨e, _⟩ => e ▸ SqL.of upd_same) ?_ ?_⟩
    · rintro i x σ H2 hx ⟨rfl, v3, l, rfl, hl, hc⟩
      rw [List.getElem?_map] at hx
      obtain ⟨c, hc'⟩ : ∃ c, ms[i]? = some c := by
        cases z : ms[i]? with
        | none => rw [z] at hx; cases hx
        | some c => exact ⟨c, rfl⟩
      have hi : i < ms.length := (List.getElem?_eq_some_iff.mp hc').1
      rw [hc'] at hx
      have hx : V.int c = x := Option.some.inj hx
      subst hx
      obtain ⟨y, hy, hm⟩ := at_modA (xs := ls) (n := ls.length) rfl (by omega) (c / 4)
      have hz : ls.length ≤ sizeLine := Nat.le_of_lt (small1000 (by omega))
      have add : ∀ (d : Nat), rkC d → (∃ (v3 : Option V) (l' : List Nat), ([some (.ref a), some (.str (S ls)), some (.str (S (l ++ [d]))), some (.int c)] : St) = [some (.ref a), some (.str (S ls)), some (.str (S l')), v3] ∧ l'.length = i + 1 ∧ ∀ c ∈ l', rkC c) := fun d hd =>
        ⟨_, l ++ [d], rfl, by simp [hl], fun e he => by
          rcases List.mem_append.mp he with z | z
          · exact hc e z
          · rw [List.mem_singleton.mp z]; exact hd⟩
      refine ⟨_, rfl, _, _, rfl, rfl, (by show (0 : Int) < 4; decide), rfl, _, rfl, ?_⟩
      refine ite2 (fun _ => ?_) (fun _ => ?_)
      · refine ⟨_, rfl, rfl, l, [63], rfl, rfl, fun n => ⟨_, _, rfl, rfl, _, rfl, ?_⟩⟩
        refine ite2 (fun _ => ?_) (fun _ => ?_)
        · exact ⟨_, rfl, l, [63], rfl, rfl, Nat.le_of_lt (small1000 (by show l.length + 1 ≤ 1000; omega)), rfl, add 63 (.inr rfl)⟩
        · exact ⟨_, rfl, _, rfl, _, rfl, _, _, rfl, rfl, ⟨by decide, by decide⟩, _, rfl, ls, rfl, hz, _, _, rfl, rfl, (by show (0 : Int) < (ls.length : Int); omega), ls, _, y, rfl, rfl, hz, hy, l, [y], rfl, rfl, Nat.le_of_lt (small1000 (by show l.length + 1 ≤ 1000; omega)), rfl, add y (.inl (hA.az y hm))⟩
      · exact ⟨_, rfl, _, rfl, _, rfl, _, _, rfl, rfl, ⟨by decide, by decide⟩, _, rfl, ls, rfl, hz, _, _, rfl, rfl, (by show (0 : Int) < (ls.length : Int); omega), ls, _, y, rfl, rfl, hz, hy, l, [y], rfl, rfl, Nat.le_of_lt (small1000 (by show l.length + 1 ≤ 1000; omega)), rfl, add y (.inl (hA.az y hm))⟩
    · rintro σ H2 ⟨rfl, v3, l, rfl, hl, hc⟩
      rw [List.length_map] at hl
      exact ⟨_, rfl, q l _ s1 (by omega) hc⟩

end
end My
end

section
set_option Elab.async false
set_option linter.all false
set_option maxRecDepth 100000
set_option maxHeartbeats 2000000
namespace My
open PySem L2
section
variable {P : Program} {w : World} {K : PySem.W.Frag} {mg : Str → Option Value} {base : Heap}
def sgN (c : Nat) : Prop := isLet c ∨ (65 ≤ c ∧ c ≤ 90)
theorem sgN.lt {c : Nat} (h : sgN c) : c < 128 := by
  rcases h with h | h
  · have := h.2; omega
  · omega
def goF (left : List (List Nat)) : List Nat → Sum Nat (List (List Nat))
  | [] => .inr left
  | c :: cs => if [tileF c] ∈ left then goF (left.erase [tileF c]) cs else .inl (tileF c)
def spDue : Sp := fun vs H Q _ => ∃ (rack signs : List Nat), vs = [.str (S rack), .str (S signs)] ∧ rack.length ≤ 63 ∧ signs.length ≤ 63 ∧ (∀ c ∈ signs, sgN c) ∧
  ((∃ t, goF (rack.map fun c => [c]) signs = .inl t ∧ ∀ (p : Addr) (H' : Hp), Same H H' → H' p = some (.lst [.str (S [t])]) → Q (.ref p) H') ∨
   (∃ left, goF (rack.map fun c => [c]) signs = .inr left ∧ ∀ (ws : List (List Nat)) (H' : Hp), Same H H' → ws.Perm left → ws.Pairwise (fun a b => decide (b < a) = false) → Q (.str (S ws.flatten)) H'))
theorem lo_tile {c : Nat} (h : sgN c) : (([c].map PyProof.Rows.lo1 = [c]) → tileF c = c) ∧ (¬ ([c].map PyProof.Rows.lo1 = [c]) → tileF c = 63) := by
  unfold tileF PyProof.Rows.lo1
  rw [List.map_singleton]
  rcases h with h | h
  · have h1 := h.1
    have h2 := h.2
    rw [if_neg (by omega), if_neg (by omega)]
    exact ⟨fun _ => rfl, fun z => absurd rfl z⟩
  · rw [if_pos h, if_pos h]
    exact ⟨fun z => by injection z with z; omega, fun _ => rfl⟩
theorem one_len : ∀ {us : List (List Nat)}, (∀ l ∈ us, l.length = 1) → us.flatten.length = us.length
  | [], _ => rfl
  | u :: us, h => by
    rw [List.flatten_cons, List.length_append, one_len fun l hl => h l (List.mem_cons_of_mem _ hl), h u List.mem_cons_self, List.length_cons]
    omega
theorem ok_due (D : DefAt K mg "_law_due" s_due ["_law_rack_here", "_law_signs_here"]) (n_list : mg "list" = none) (n_sorted : mg "sorted" = none) : Def P w K mg base "_law_due" 1 ["_law_rack_here", "_law_signs_here"] spDue := by
  refine D.qok sc_due (fun vs H Q E h => ?_) (fun f cdv A outer s H vs Q E hr h => ?_)
  · obtain ⟨rack, signs, rfl, _⟩ := h
    rfl
  · obtain ⟨rack, signs, rfl, hr63, hs63, hsg, q⟩ := h
    refine ⟨_, (qss_cons (qs_set (i := 2) sc_due.nd rfl (Or.inl rfl) (qe_callTy (call_listS rfl) (by rfl) n_list PyProof.Rows.boot_list (qa_cons (qv 0) qa_nil))) (qss_cons (qs_for PassesOwn.never rfl (qi_str (qv 1)) (qg_name (i := 3) sc_due.nd rfl (Or.inl rfl)) (qss_cons (qs_set (i := 4) sc_due.nd rfl (Or.inl rfl) (qv 3)) (qss_cons (qs_cut (qs_if (qt_cmpR op_neS (qe_bm0 PySem.F.plainAttrs_str PySem.F.slot_str_lower PySem.F.type_str_lower mt_loA (qv 3)) (qv 3) (nomark _)) (qss_one (qs_set (i := 4) sc_due.nd rfl (Or.inl rfl) (qe_strS [63] (by decide +kernel)))) qss_nil)) (qss_cons (qs_if (qt_cmpR op_eq (qe_bm PySem.F.plainAttrs_list PySem.F.slot_list_count PySem.F.type_list_count mt_count (qv 2) (qa_cons (qv 4) qa_nil)) qe_int (nomark _)) (qss_one (qs_ret (qe_lst (qa_cons (qv 4) qa_nil)))) qss_nil) (qss_one (qs_expr (qe_bm PySem.F.plainAttrs_list PySem.F.slot_list_remove PySem.F.type_list_remove mt_remove (qv 2) (qa_cons (qv 4) qa_nil)))))))) (qss_one (qs_ret (qe_bm PySem.F.plainAttrs_str PySem.F.slot_str_join PySem.F.type_str_join mt_join (qe_strS [] (by decide +kernel)) (qa_cons (qe_callB call_sortedL (by rfl) n_sorted PyProof.Rows.boot_sorted (qa_cons (qv 2) qa_nil)) qa_nil)))))), ?_⟩
    refine ⟨_, rfl, rack, rfl, by omega, fun L hL => ?_⟩
    have s1 : Same H (upd H L (.lst (Ts (rack.map fun c => [c])))) := Same.upd hL
    refine ⟨_, rfl, signs, rfl, ?_⟩
    refine for_str (fun i σ H2 => ∃ (v3 v4 : Option V) (us : List (List Nat)), σ = [some (.str (S rack)), some (.str (S signs)), some (.ref L), v3, v4] ∧ Same H H2 ∧ H2 L = some (.lst (Ts us)) ∧ us.length ≤ 63 ∧ (∀ l ∈ us, l.length = 1) ∧ goF (rack.map fun c => [c]) signs = goF us (signs.drop i))
      ⟨none, none, rack.map fun c => [c], rfl, s1, upd_same, by rw [List.length_map]; exact hr63, fun l hl => by obtain ⟨c, _, rfl⟩ := List.mem_map.mp hl; rfl, by rw [List.drop_zero]⟩ ?_ ?_
    · rintro i c σ H2 hc ⟨v3, v4, us, rfl, sm, hL2, hul, hu1, hgo⟩
      have hcs := hsg c (List.mem_of_getElem? hc)
      have hi : i < signs.length := (List.getElem?_eq_some_iff.mp hc).1
      have hdrop : signs.drop i = c :: signs.drop (i + 1) := by
        rw [List.drop_eq_getElem_cons hi]
        rw [List.getElem?_eq_getElem hi] at hc
        rw [Option.some.inj hc]
      obtain ⟨t1, t2⟩ := lo_tile hcs
      refine ⟨_, rfl, ?_⟩
      refine ⟨fun σ' H' => H' = H2 ∧ σ' = [some (.str (S rack)), some (.str (S signs)), some (.ref L), some (.str (S [c])), some (.str (S [tileF c]))], ?_, ?_⟩
      · refine ⟨_, rfl, rfl, [c], rfl, rfl, by show 1 ≤ 1000; decide, fun d hd => by rw [List.mem_singleton.mp hd]; exact hcs.lt, _, rfl, _, _, rfl, rfl, _, rfl, ?_⟩
        by_cases z : [c].map PyProof.Rows.lo1 = [c]
        · refine iteNS z ⟨rfl, ?_⟩
          rw [t1 z]; rfl
        · rw [decide_eq_false z]
          refine iteT ⟨rfl, ?_⟩
          rw [t2 z]; rfl
      · rintro σ' H' ⟨rfl, rfl⟩
        refine ⟨_, rfl, .inl ⟨rfl, _, SqL.of hL2⟩, _, rfl, L, us, [tileF c], rfl, rfl, hL2, rfl, _, rfl, ?_⟩
        rw [hdrop] at hgo
        by_cases hm : [tileF c] ∈ us
        · have hcnt : ¬ (V.int ((us.count [tileF c] : Nat) : Int) = V.int 0) := fun z => by
            injection z with z
            have := List.count_pos_iff.mpr hm
            omega
          rw [decide_eq_false hcnt]
          refine iteF ⟨_, rfl, .inl ⟨rfl, _, SqL.of hL2⟩, _, rfl, L, us, [tileF c], rfl, rfl, hL2, hm, by omega, ?_⟩
          refine ⟨_, _, us.erase [tileF c], rfl, sm.upd' hL, upd_same, ?_, fun l hl => hu1 l (List.mem_of_mem_erase hl), ?_⟩
          · have := (List.erase_sublist (a := [tileF c]) (l := us)).length_le; omega
          · rw [hgo]; show (if _ then _ else _) = _; rw [if_pos hm]
        · have hcnt : V.int ((us.count [tileF c] : Nat) : Int) = V.int 0 := by rw [List.count_eq_zero.mpr hm]; rfl
          rw [decide_eq_true hcnt]
          refine iteT ⟨_, rfl, by show 1 ≤ sizeLine; decide, fun p hp => ?_⟩
          have e : goF (rack.map fun c => [c]) signs = .inl (tileF c) := by rw [hgo]; show (if _ then _ else _) = _; rw [if_neg hm]
          rcases q with ⟨t, et, q⟩ | ⟨left, et, _⟩
          · rw [e] at et
            injection et with et
            subst et
            exact q p _ (sm.upd' (sm.free hp)) upd_same
          · rw [e] at et; cases et
    · rintro σ H2 ⟨v3, v4, us, rfl, sm, hL2, hul, hu1, hgo⟩
      rw [List.drop_length] at hgo
      refine ⟨rfl, _, rfl, L, us, rfl, SqL.of hL2, by omega, fun p ws hp pm pw => ?_⟩
      refine ⟨p, ws, rfl, rfl, SqL.of upd_same, ?_, ?_⟩
      · rw [one_len fun l hl => hu1 l (pm.mem_iff.mp hl), pm.length_eq]; omega
      · rcases q with ⟨t, et, _⟩ | ⟨left, et, q⟩
        · rw [hgo] at et; cases et
        · rw [hgo] at et
          have et : us = left := by injection et
          subst et
          exact q ws _ (sm.upd' (sm.free hp)) pm pw

end
end My
end

section
set_option Elab.async false
set_option linter.all false
set_option maxRecDepth 100000
set_option maxHeartbeats 2000000
namespace My
open PySem L2
section
variable {P : Program} {w : World} {K : PySem.W.Frag} {mg : Str → Option Value} {base : Heap}
def spTile : Sp := fun vs H Q _ => ∃ c : Nat, vs = [.str (S [c])] ∧ c < 128 ∧ Q (.str (S [tileF c])) H
theorem le1 (a b : Nat) : (!decide ([b] < [a])) = decide (a ≤ b) := by
  by_cases h : a ≤ b
  · rw [decide_eq_true h, decide_eq_false (by simp [List.cons_lt_cons_iff]; omega)]; rfl
  · rw [decide_eq_false h, decide_eq_true (by simp [List.cons_lt_cons_iff]; omega)]; rfl
theorem ok_tile_of (D : DefAt K mg "tile_of" s_tile_of ["sign"]) : Def P w K mg base "tile_of" 1 ["sign"] spTile := by
  refine D.qok sc_tile_of (fun vs H Q E h => ?_) (fun f cdv A outer s H vs Q E hr h => ?_)
  · obtain ⟨c, rfl, _⟩ := h
    rfl
  · obtain ⟨c, rfl, hc, q⟩ := h
    refine ⟨_, (qss_one (qs_ret (qe_ifExp (qt_chain op_leS op_leS (qe_strS [65] (by decide +kernel)) (qv 0) (qe_strS [90] (by decide +kernel))) (qe_strS [63] (by decide +kernel)) (qv 0)))), ?_⟩
    refine ⟨_, rfl, [65], [c], rfl, rfl, ?_⟩
    rw [le1]
    unfold tileF at q
    by_cases h1 : 65 ≤ c
    · rw [decide_eq_true h1]
      refine ⟨_, rfl, iteT ⟨[c], [90], rfl, rfl, ?_⟩⟩
      rw [le1]
      by_cases h2 : c ≤ 90
      · rw [if_pos ⟨h1, h2⟩] at q
        rw [decide_eq_true h2]
        exact ⟨_, rfl, iteT q⟩
      · rw [if_neg fun z => h2 z.2] at q
        rw [decide_eq_false h2]
        exact ⟨_, rfl, iteF ⟨_, rfl, q⟩⟩
    · rw [if_neg fun z => h1 z.1] at q
      rw [decide_eq_false h1]
      exact ⟨_, rfl, iteF ⟨_, rfl, iteF ⟨_, rfl, q⟩⟩⟩

end
end My
end

section
set_option Elab.async false
set_option linter.all false
set_option maxRecDepth 100000
set_option maxHeartbeats 2000000
namespace My
open PySem L2
section
variable {P : Program} {w : World} {K : PySem.W.Frag} {mg : Str → Option Value} {base : Heap}
theorem inV_ts (x : List Nat) (ws : List (List Nat)) : inV (.str (S x)) (Ts ws) = decide (x ∈ ws) := by
  unfold inV
  induction ws with
  | nil => simp [Ts]
  | cons y ws ih =>
    have e : eqV (.str (S y)) (.str (S x)) = decide (y = x) := by
      show decide (S y = S x) = _
      by_cases h : y = x
      · rw [h]; simp
      · have h2 : S y ≠ S x := fun e => h (S_inj e)
        simp [h, h2]
    show (eqV (.str (S y)) (.str (S x)) || (Ts ws).any _) = _
    rw [e, ih]
    by_cases h : y = x
    · simp [h]
    · have h2 : ¬ x = y := fun e => h e.symm
      simp [h, h2]
theorem flat_ts (ws : List (List Nat)) : (Ts ws).all flatV = true := by rw [List.all_eq_true]; intro x hx; obtain ⟨l, _, rfl⟩ := List.mem_map.mp hx; rfl
theorem ok_lacking {f C R : Addr} {fd : FuncData} (F : Fun K "__init__" "Lacking.__init__" s_Lacking_init f fd) (mg_RackError : mg "RackError" = some (.ref R)) (I_RackError : InitOf K R) (T : XCls K mg "Lacking" C f ["tile"]) : FnOk P w K mg base CX0 1 f fd ["self", "tile"] (spIni1 C "tile") := by
  refine F.qok sc_Lacking_init (fun vs H Q E h => ?_) (fun cdv A outer s H vs Q E hr h => ?_)
  · obtain ⟨a, v, rfl, _⟩ := h
    rfl
  · obtain ⟨a, v, rfl, ha, q⟩ := h
    refine ⟨_, (qss_cons (qs_expr (qe_excInit (by rfl) mg_RackError I_RackError (qa_cons (qv 0) (qa_cons (qv 1) qa_nil)))) (qss_one (qs_fldX (qv 0) (qv 1) rfl))), ?_⟩
    refine ⟨_, rfl, _, rfl, a, C, f, none, [v], rfl, ha, T.M.ini, by show 1 ≤ sizeLine; decide, ?_⟩
    exact ⟨_, rfl, _, rfl, a, C, none, rfl, ha, T.T, T.no _ (by simp), .inl ⟨rfl, fun dx ne nd => q dx ne nd⟩⟩
def spLeft (C : Addr) : Sp := fun vs H Q E => ∃ (rack signs : List Nat), vs = [.str (S rack), .str (S signs)] ∧ rack.length ≤ 63 ∧ signs.length ≤ 63 ∧ (∀ c ∈ signs, sgN c) ∧
  (∀ t, goF (rack.map fun c => [c]) signs = .inl t → ∀ (dx : Addr) (H' : Hp), Same H H' → H' dx = some (.ext (XD dx [("tile", .str (S [t]))])) → E (.ref C) (some dx) H') ∧
  (∀ left, goF (rack.map fun c => [c]) signs = .inr left → ∀ (ws : List (List Nat)) (H' : Hp), Same H H' → ws.Perm left → ws.Pairwise (fun a b => decide (b < a) = false) → Q (.str (S ws.flatten)) H')
theorem ok_left_of {C f0 : Addr} {fd0 : FuncData} (D : DefAt K mg "left_of" s_left_of ["rack", "signs"]) (n_list : mg "list" = none) (n_sorted : mg "sorted" = none) (T : XCls K mg "Lacking" C f0 ["tile"]) (G_Lacking : FnOk P w K mg base CX0 1 f0 fd0 ["self", "tile"] (spIni1 C "tile")) (b_Lacking : Binds K fd0 ["self", "tile"] [])
    (D_tile_of : Def P w K mg base "tile_of" 1 ["sign"] spTile) : DefX P w K mg base "left_of" 3 ["rack", "signs"] (spLeft C) := by
  refine D.qokX sc_left_of (fun vs H Q E h => ?_) (fun f cdv A outer s H vs Q E hr h => ?_)
  · obtain ⟨rack, signs, rfl, _⟩ := h
    rfl
  · obtain ⟨rack, signs, rfl, hr63, hs63, hsg, qE, q⟩ := h
    have M_Lacking := T.M
    have mg_Lacking := T.mgC
    refine ⟨_, (qss_cons (qs_set (i := 2) sc_left_of.nd rfl (Or.inl rfl) (qe_callTy (call_listS rfl) (by rfl) n_list PyProof.Rows.boot_list (qa_cons (qv 0) qa_nil))) (qss_cons (qs_for PassesOwn.leaving rfl (qi_str (qv 1)) (qg_name (i := 3) sc_left_of.nd rfl (Or.inl rfl)) (qss_cons (qs_set (i := 4) sc_left_of.nd rfl (Or.inl rfl) (qe_own D_tile_of (hr.mono (by decide)) rfl (qa_cons (qv 3) qa_nil))) (qss_cons (qs_if (qt_cmpR op_notIn_seq (qv 4) (qv 2) rfl) (qss_one (qs_raiseI lets_cx rfl M_Lacking G_Lacking (hr.mono (by decide)) (by rfl) mg_Lacking b_Lacking (qa_cons (qv 4) qa_nil))) qss_nil) (qss_one (qs_expr (qe_bm PySem.F.plainAttrs_list PySem.F.slot_list_remove PySem.F.type_list_remove mt_remove (qv 2) (qa_cons (qv 4) qa_nil))))))) (qss_one (qs_ret (qe_bm PySem.F.plainAttrs_str PySem.F.slot_str_join PySem.F.type_str_join mt_join (qe_strS [] (by decide +kernel)) (qa_cons (qe_callB call_sortedL (by rfl) n_sorted PyProof.Rows.boot_sorted (qa_cons (qv 2) qa_nil)) qa_nil)))))), ?_⟩
    refine ⟨_, rfl, rack, rfl, by omega, fun L hL => ?_⟩
    have s1 : Same H (upd H L (.lst (Ts (rack.map fun c => [c])))) := Same.upd hL
    refine ⟨_, rfl, signs, rfl, ?_⟩
    refine for_str (fun i σ H2 => ∃ (v3 v4 : Option V) (us : List (List Nat)), σ = [some (.str (S rack)), some (.str (S signs)), some (.ref L), v3, v4] ∧ Same H H2 ∧ H2 L = some (.lst (Ts us)) ∧ us.length ≤ 63 ∧ (∀ l ∈ us, l.length = 1) ∧ goF (rack.map fun c => [c]) signs = goF us (signs.drop i))
      ⟨none, none, rack.map fun c => [c], rfl, s1, upd_same, by rw [List.length_map]; exact hr63, fun l hl => by obtain ⟨c, _, rfl⟩ := List.mem_map.mp hl; rfl, by rw [List.drop_zero]⟩ ?_ ?_
    · rintro i c σ H2 hc ⟨v3, v4, us, rfl, sm, hL2, hul, hu1, hgo⟩
      have hcs := hsg c (List.mem_of_getElem? hc)
      have hi : i < signs.length := (List.getElem?_eq_some_iff.mp hc).1
      have hdrop : signs.drop i = c :: signs.drop (i + 1) := by
        rw [List.drop_eq_getElem_cons hi]
        rw [List.getElem?_eq_getElem hi] at hc
        rw [Option.some.inj hc]
      rw [hdrop] at hgo
      refine ⟨_, rfl, c, rfl, hcs.lt, ?_⟩
      refine ⟨_, rfl, _, rfl, L, Ts us, rfl, .inl (SqL.of hL2), rfl, flat_ts us, ?_⟩
      rw [inV_ts]
      by_cases hm : [tileF c] ∈ us
      · rw [decide_eq_true hm]
        refine ⟨_, rfl, iteF ⟨_, rfl, .inl ⟨rfl, _, SqL.of hL2⟩, _, rfl, L, us, [tileF c], rfl, rfl, hL2, hm, by omega, ?_⟩⟩
        refine ⟨_, _, us.erase [tileF c], rfl, sm.upd' hL, upd_same, ?_, fun l hl => hu1 l (List.mem_of_mem_erase hl), ?_⟩
        · have := (List.erase_sublist (a := [tileF c]) (l := us)).length_le; omega
        · rw [hgo]; show (if _ then _ else _) = _; rw [if_pos hm]
      · rw [decide_eq_false hm]
        have e : goF (rack.map fun c => [c]) signs = .inl (tileF c) := by rw [hgo]; show (if _ then _ else _) = _; rw [if_neg hm]
        refine ⟨_, rfl, iteT ⟨_, rfl, by show 1 ≤ sizeLine; decide, fun a na => ⟨a, _, rfl, upd_same, fun dx ne nd => ⟨rfl, some dx, upd_same, ?_⟩⟩⟩⟩
        obtain ⟨k1, k2⟩ := drop_new (q := .ext (ExcN a (.ref C) (some dx))) (p := .ext (XD dx [("tile", .str (S [tileF c]))])) na ne nd
        exact qE _ e dx _ (sm.trans k1) k2
    · rintro σ H2 ⟨v3, v4, us, rfl, sm, hL2, hul, hu1, hgo⟩
      rw [List.drop_length] at hgo
      refine ⟨rfl, _, rfl, L, us, rfl, SqL.of hL2, by omega, fun p ws hp pm pw => ?_⟩
      refine ⟨p, ws, rfl, rfl, SqL.of upd_same, ?_, ?_⟩
      · rw [one_len fun l hl => hu1 l (pm.mem_iff.mp hl), pm.length_eq]; omega
      · exact q us hgo ws _ (sm.upd' (sm.free hp)) pm pw

end
end My
end

section
set_option Elab.async false
set_option linter.all false
set_option maxRecDepth 100000
set_option maxHeartbeats 2000000
namespace My
open PySem L2
section
variable {P : Program} {w : World} {K : PySem.W.Frag} {mg : Str → Option Value} {base : Heap}
theorem era_map {α β : Type} (f : α → β) : ∀ (l : List α) (j : Nat), (l.map f).eraseIdx j = (l.eraseIdx j).map f
  | [], _ => rfl
  | _ :: _, 0 => rfl
  | a :: l, j + 1 => congrArg (f a :: ·) (era_map f l j)
def spSigns : Sp := fun vs H Q _ => ∃ (c : Int) (rack ls : List Nat), vs = [.int c, .str (S rack), .str (S ls)] ∧ rack.length ≤ 63 ∧ (∀ c ∈ rack, rkC c) ∧ Alph ls ∧ ∀ (l : List Nat) (H' : Hp), Same H H' → l.length ≤ 63 → (∀ c ∈ l, sgN c) → Q (.str (S l)) H'
theorem up_sg {c : Nat} (h : sgN c) : ∃ d, [c].map PyProof.Rows.up1 = [d] ∧ sgN d ∧ 65 ≤ d ∧ d ≤ 90 := by
  unfold PyProof.Rows.up1
  rw [List.map_singleton]
  rcases h with h | h
  · have h1 := h.1
    have h2 := h.2
    refine ⟨_, rfl, ?_⟩
    rw [if_pos ⟨by omega, by omega⟩]
    exact ⟨.inr ⟨by omega, by omega⟩, by omega, by omega⟩
  · refine ⟨_, rfl, ?_⟩
    rw [if_neg (by omega)]
    exact ⟨.inr h, h.1, h.2⟩
theorem rkC.lt {c : Nat} (h : rkC c) : c < 128 := by
  rcases h with h | h
  · have := h.2; omega
  · omega
theorem HasDs.of1 {H : Hp} : ∀ {ls : List (List Nat)}, (∀ l ∈ ls, ∀ c ∈ l, c < 128) → HasDs K H 0 (ls.map Dt.str) (Ts ls)
  | [], _ => .nil
  | l :: ls, h => .cons (.str l (h l List.mem_cons_self)) (HasDs.of1 fun l' hl' => h l' (List.mem_cons_of_mem _ hl'))
theorem ok_signs (D : DefAt K mg "_law_signs" s_signs ["_law_cell", "_law_rack_here", "_law_letters_here"]) (n_list : mg "list" = none) (n_len : mg "len" = none) (n_range : mg "range" = none) (n_int : mg "int" = none) (D_stream : Def P w K mg base "_law_stream" 1 ["_law_cell", "_law_many"] spStream) : Def P w K mg base "_law_signs" 2 ["_law_cell", "_law_rack_here", "_law_letters_here"] spSigns := by
  refine D.qok sc_signs (fun vs H Q E h => ?_) (fun f cdv A outer s H vs Q E hr h => ?_)
  · obtain ⟨c, rack, ls, rfl, _⟩ := h
    rfl
  · obtain ⟨cell, rack, ls, rfl, hr63, hrk, hA, q⟩ := h
    have hl1 := hA.lo
    have hl2 := hA.hi
    have hz : ls.length ≤ sizeLine := Nat.le_of_lt (small1000 (by omega))
    refine ⟨_, (qss_cons (qs_set (i := 3) sc_signs.nd rfl (Or.inl rfl) (qe_own D_stream (hr.mono (by decide)) rfl (qa_cons (qv 0) (qa_cons qe_int qa_nil)))) (qss_cons (qs_set (i := 4) sc_signs.nd rfl (Or.inl rfl) (qe_callTy (call_listS rfl) (by rfl) n_list PyProof.Rows.boot_list (qa_cons (qv 1) qa_nil))) (qss_cons (qs_set (i := 5) sc_signs.nd rfl (Or.inl rfl) (qe_strS [] (by decide +kernel))) (qss_cons (qs_for PassesOwn.never rfl (qi_range1 (by rfl) n_range (qa_cons (qe_op op_mod (qe_ix ix_list (qv 3) qe_int (fun _ _ => rfl)) qe_int) qa_nil)) (qg_name (i := 6) sc_signs.nd rfl (Or.inl rfl)) (qss_cons (qs_set (i := 7) sc_signs.nd rfl (Or.inl rfl) (qe_ix ix_list (qv 3) (qv 6) (fun _ _ => rfl))) (qss_cons (qs_set (i := 8) sc_signs.nd rfl (Or.inl rfl) (qe_ix ix_S (qv 2) (qe_op op_mod (qe_op op_fdiv (qv 7) qe_int) (qe_callB call_lenS (by rfl) n_len PySem.boot_len (qa_cons (qv 2) qa_nil))) (fun _ _ => rfl))) (qss_cons (qs_cut (qs_if (qt_cmpR op_eq (qe_op op_mod (qv 7) qe_int) qe_int (nomark _)) (qss_one (qs_set (i := 8) sc_signs.nd rfl (Or.inl rfl) (qe_bm0 PySem.F.plainAttrs_str PySem.F.slot_str_upper PySem.F.type_str_upper mt_upA (qv 8)))) qss_nil)) (qss_cons (qs_cut (qs_if (QW.qt (qw_and (qt_cmpR op_eq (qe_op op_mod (qv 0) qe_int) qe_int (nomark _)) (qw_and1 (qt_cmpR (op_neD hr.units) (qv 4) (qe_lst qa_nil) (nomark _))))) (qss_cons (qs_set (i := 9) sc_signs.nd rfl (Or.inl rfl) (qe_bm PySem.F.plainAttrs_list PySem.F.slot_list_pop PySem.F.type_list_pop mt_popAt (qv 4) (qa_cons (qe_op op_mod (qe_op op_fdiv (qv 7) qe_int) (qe_callB call_len_seq (by rfl) n_len PySem.boot_len (qa_cons (qv 4) qa_nil))) qa_nil))) (qss_one (qs_set (i := 8) sc_signs.nd rfl (Or.inl rfl) (qe_ix ix_list (qe_lst (qa_cons (qv 9) (qa_cons (qe_bm0 PySem.F.plainAttrs_str PySem.F.slot_str_upper PySem.F.type_str_upper mt_upA (qv 8)) qa_nil))) (qe_callTy call_int1 (by rfl) n_int PyProof.Rows.boot_int (qa_cons (qe_cmpR op_eqS (qv 9) (qe_strS [63] (by decide +kernel)) (nomark _)) qa_nil)) (fun _ _ => rfl))))) qss_nil)) (qss_one (qs_set (i := 5) sc_signs.nd rfl (Or.inl rfl) (qe_op op_addS (qv 5) (qv 8))))))))) (qss_one (qs_ret (qv 5))))))), ?_⟩
    refine ⟨_, rfl, cell, 8, rfl, by decide, fun p ds H1 s1 np hp hd => ?_⟩
    refine ⟨_, rfl, rack, rfl, by omega, fun L hL => ?_⟩
    have s2 := s1.upd' (o := .lst (Ts (rack.map fun c => [c]))) (s1.free hL)
    have hp2 : upd H1 L (.lst (Ts (rack.map fun c => [c]))) p = some (.lst (ds.map V.int)) := by rw [upd_ne (ne_of_none hp hL)]; exact hp
    have hL2 : upd H1 L (.lst (Ts (rack.map fun c => [c]))) L = some (.lst (Ts (rack.map fun c => [c]))) := upd_same
    have npL : p ≠ L := ne_of_none hp hL
    have nL0 : H L = none := s1.free hL
    generalize upd H1 L (.lst (Ts (rack.map fun c => [c]))) = H2 at s2 hp2 hL2 ⊢
    have h7 : 7 < ds.length := by omega
    have m0 := Int.emod_nonneg (ds[7]) (show (8 : Int) ≠ 0 by decide)
    have m1 := Int.emod_lt_of_pos (ds[7]) (show (0 : Int) < 8 by decide)
    have at_ : ∀ k, (h : k < ds.length) → (ds.map V.int)[k]? = some (V.int ds[k]) := fun k h => by rw [List.getElem?_map, List.getElem?_eq_getElem h]; rfl
    refine ⟨_, rfl, p, _, _, .int ds[7], rfl, rfl, SqL.of hp2, atI_nat (j := 7) (at_ 7 h7), _, _, rfl, rfl, (by show (0 : Int) < 8; decide), ?_⟩
    refine ⟨_, rfl, by omega, by omega, ?_⟩
    refine for_range (lo := 0) (fun i σ H3 => ∃ (v6 v7 v8 v9 : Option V) (os l : List Nat), σ = [some (.int cell), some (.str (S rack)), some (.str (S ls)), some (.ref p), some (.ref L), some (.str (S l)), v6, v7, v8, v9] ∧ Same H H3 ∧ H3 p = some (.lst (ds.map V.int)) ∧ H3 L = some (.lst (Ts (os.map fun c => [c]))) ∧ os.length ≤ 63 ∧ (∀ c ∈ os, rkC c) ∧ l.length = i ∧ ∀ c ∈ l, sgN c)
      ⟨none, none, none, none, rack, [], rfl, s2, hp2, hL2, hr63, hrk, rfl, fun c h => by simp at h⟩ ?_ ?_
    · rintro i σ H3 hi ⟨v6, v7, v8, v9, os, l, rfl, s3, hp3, hL3, ho63, hok, hl, hsg⟩
      have hi8 : i < ds.length := by omega
      obtain ⟨y, hy, hym⟩ := at_modA (xs := ls) (n := ls.length) rfl (by omega) (ds[i] / 8)
      have hysg : sgN y := .inl (hA.az y hym)
      refine ⟨_, rfl, _, rfl, p, _, _, .int ds[i], rfl, rfl, SqL.of hp3, ?_, ?_⟩
      · rw [show (0 : Int) + (i : Int) = (i : Int) by omega]; exact atI_nat (at_ i hi8)
      refine ⟨_, rfl, _, rfl, _, _, rfl, rfl, ⟨by decide, by decide⟩, _, rfl, ls, rfl, hz, _, _, rfl, rfl, (by show (0 : Int) < (ls.length : Int); omega), ls, _, y, rfl, rfl, hz, hy, ?_⟩
      -- the sign, great or not
      refine ⟨fun σ' H' => H' = H3 ∧ ∃ z, sgN z ∧ σ' = [some (.int cell), some (.str (S rack)), some (.str (S ls)), some (.ref p), some (.ref L), some (.str (S l)), some (.int (0 + (i : Int))), some (.int ds[i]), some (.str (S [z])), v9], ?_, ?_⟩
      · refine ⟨_, rfl, _, _, rfl, rfl, (by show (0 : Int) < 3; decide), rfl, _, rfl, ?_⟩
        refine ite2 (fun _ => ?_) (fun _ => ?_)
        · obtain ⟨d, ed, hds, _⟩ := up_sg hysg
          refine ⟨_, rfl, rfl, [y], rfl, rfl, by show 1 ≤ 1000; decide, fun c hc => by rw [List.mem_singleton.mp hc]; exact hysg.lt, ?_⟩
          rw [ed]
          exact ⟨rfl, d, hds, rfl⟩
        · exact ⟨rfl, y, hysg, rfl⟩
      · rintro σ' H' ⟨rfl, z, hz1, rfl⟩
        refine ⟨fun σ'' H'' => ∃ (z2 : Nat) (os2 : List Nat) (w9 : Option V), sgN z2 ∧ σ'' = [some (.int cell), some (.str (S rack)), some (.str (S ls)), some (.ref p), some (.ref L), some (.str (S l)), some (.int (0 + (i : Int))), some (.int ds[i]), some (.str (S [z2])), w9] ∧ Same H H'' ∧ H'' p = some (.lst (ds.map V.int)) ∧ H'' L = some (.lst (Ts (os2.map fun c => [c]))) ∧ os2.length ≤ 63 ∧ (∀ c ∈ os2, rkC c), ?_, ?_⟩
        · refine ⟨_, rfl, _, _, rfl, rfl, (by show (0 : Int) < 2; decide), rfl, _, rfl, ?_⟩
          refine ite2 (fun _ => ?_) (fun _ => ⟨z, os, _, hz1, rfl, s3, hp3, hL3, ho63, hok⟩)
          refine ⟨_, rfl, by show 0 ≤ sizeLine; decide, fun A0 hA0 => ?_⟩
          have sA : Same H' (upd H' A0 (HO.lst [])) := Same.upd hA0
          have hA1 : upd H' A0 (HO.lst []) A0 = some (.lst (Ts [])) := upd_same
          have nA0 : A0 ≠ L := (ne_of_none hL3 hA0).symm
          have nAp : A0 ≠ p := (ne_of_none hp3 hA0).symm
          have s4 := s3.trans sA
          have hp4 := sA _ _ hp3
          have hL4 := sA _ _ hL3
          generalize upd H' A0 (HO.lst []) = H4 at sA hA1 s4 hp4 hL4 ⊢
          refine ⟨1, .lst ((os.map fun c => [c]).map Dt.str), .lst [], by decide, .lst (SqL.of hL4) (HasDs.of1 fun l hl c hc => ?_), .lst (SqL.of hA1) .nil, _, rfl, ?_⟩
          · obtain ⟨d, hd, rfl⟩ := List.mem_map.mp hl
            rw [List.mem_singleton.mp hc]; exact (hok d hd).lt
          refine ite2 (fun hne => ?_) (fun _ => ⟨z, os, _, hz1, rfl, s4, hp4, hL4, ho63, hok⟩)
          have hos : 0 < os.length := by
            cases os with
            | nil => simp at hne
            | cons a b => simp
          have lo : (Ts (os.map fun c => [c])).length = os.length := by rw [List.length_map, List.length_map]
          have j0 := Int.emod_nonneg (ds[i] / 64) (show (os.length : Int) ≠ 0 by omega)
          have j1 := Int.emod_lt_of_pos (ds[i] / 64) (show (0 : Int) < (os.length : Int) by omega)
          obtain ⟨j, ej⟩ : ∃ j : Nat, ds[i] / 64 % (os.length : Int) = j := ⟨(ds[i] / 64 % (os.length : Int)).toNat, by omega⟩
          have hj : j < os.length := by omega
          have hoj := hok _ (List.getElem_mem hj)
          refine ⟨_, rfl, .inl ⟨rfl, _, SqL.of hL4⟩, _, rfl, _, _, rfl, rfl, ⟨by decide, by decide⟩, _, rfl, L, _, rfl, .inl (SqL.of hL4), _, _, rfl, rfl, ?_, ?_⟩
          · rw [lo]; omega
          dsimp only
          rw [lo, ej]
          refine ⟨L, _, _, j, .str (S [os[j]]), rfl, rfl, hL4, by omega, by omega, ?_, ?_, ?_⟩
          · rw [lo]; exact (PySem.StrLaws.seqIndex_nonneg (by omega) (by omega)).trans (congrArg some (by omega))
          · rw [List.getElem?_map, List.getElem?_map, List.getElem?_eq_getElem hj]; rfl
          have eE : (Ts (os.map fun c => [c])).eraseIdx j = Ts ((os.eraseIdx j).map fun c => [c]) := by
            show ((os.map fun c => [c]).map fun l => V.str (S l)).eraseIdx j = _
            rw [era_map, era_map]
          rw [eE]
          have s5 : Same H (upd H4 L (.lst (Ts ((os.eraseIdx j).map fun c => [c])))) := s4.upd' nL0
          have hp5 : upd H4 L (.lst (Ts ((os.eraseIdx j).map fun c => [c]))) p = some (.lst (ds.map V.int)) := by rw [upd_ne npL]; exact hp4
          have hL5 : upd H4 L (.lst (Ts ((os.eraseIdx j).map fun c => [c]))) L = some (.lst (Ts ((os.eraseIdx j).map fun c => [c]))) := upd_same
          generalize upd H4 L (.lst (Ts ((os.eraseIdx j).map fun c => [c]))) = H5 at s5 hp5 hL5 ⊢
          obtain ⟨d, ed, hds, _⟩ := up_sg hz1
          refine ⟨_, rfl, _, rfl, rfl, [z], rfl, rfl, by show 1 ≤ 1000; decide, fun c hc => by rw [List.mem_singleton.mp hc]; exact hz1.lt, by show 2 ≤ sizeLine; decide, fun A1 hA1 => ?_⟩
          rw [ed]
          have sB : Same H5 (upd H5 A1 (HO.lst [.str (S [os[j]]), .str (S [d])])) := Same.upd hA1
          have hB : upd H5 A1 (HO.lst [.str (S [os[j]]), .str (S [d])]) A1 = some (.lst [.str (S [os[j]]), .str (S [d])]) := upd_same
          have s6 := s5.trans sB
          have hp6 := sB _ _ hp5
          have hL6 := sB _ _ hL5
          generalize upd H5 A1 (HO.lst [.str (S [os[j]]), .str (S [d])]) = H6 at sB hB s6 hp6 hL6 ⊢
          have fin : ∀ z2, sgN z2 → ∃ (z3 : Nat) (os2 : List Nat) (w9 : Option V), sgN z3 ∧ ([some (.int cell), some (.str (S rack)), some (.str (S ls)), some (.ref p), some (.ref L), some (.str (S l)), some (.int (0 + (i : Int))), some (.int ds[i]), some (.str (S [z2])), some (.str (S [os[j]]))] : St) = [some (.int cell), some (.str (S rack)), some (.str (S ls)), some (.ref p), some (.ref L), some (.str (S l)), some (.int (0 + (i : Int))), some (.int ds[i]), some (.str (S [z3])), w9] ∧ Same H H6 ∧ H6 p = some (.lst (ds.map V.int)) ∧ H6 L = some (.lst (Ts (os2.map fun c => [c]))) ∧ os2.length ≤ 63 ∧ (∀ c ∈ os2, rkC c) := fun z2 h2 =>
            ⟨z2, os.eraseIdx j, _, h2, rfl, s6, hp6, hL6, by rw [List.length_eraseIdx]; split <;> omega, fun c hc => hok c ((List.eraseIdx_sublist os j).subset hc)⟩
          refine ⟨_, rfl, [os[j]], [63], rfl, rfl, .inr ⟨_, rfl, ?_⟩⟩
          rcases hoj with h | h
          · have hn : ¬ ([os[j]] = [63]) := fun e => by injection e with e; have := h.1; omega
            rw [decide_eq_false hn]
            exact ⟨A1, _, _, .str (S [os[j]]), rfl, rfl, SqL.of hB, atI_nat (j := 0) rfl, fin _ (.inl h)⟩
          · rw [decide_eq_true (show [os[j]] = [63] by rw [h])]
            exact ⟨A1, _, _, .str (S [d]), rfl, rfl, SqL.of hB, atI_nat (j := 1) rfl, fin _ hds⟩
        · rintro σ'' H'' ⟨z2, os2, w9, hz2, rfl, s5, hp5, hL5, h63, hok2⟩
          refine ⟨_, rfl, _, rfl, l, [z2], rfl, rfl, Nat.le_of_lt (small1000 (by show l.length + 1 ≤ 1000; omega)), ?_⟩
          exact ⟨_, _, _, _, os2, l ++ [z2], rfl, s5, hp5, hL5, h63, hok2, by simp [hl], fun d hd => by
            rcases List.mem_append.mp hd with k | k
            · exact hsg d k
            · rw [List.mem_singleton.mp k]; exact hz2⟩
    · rintro σ H3 ⟨v6, v7, v8, v9, os, l, rfl, s3, hp3, hL3, ho63, hok, hl, hsg⟩
      exact ⟨_, rfl, q l _ s3 (by omega) hsg⟩

end
end My
end

section
set_option Elab.async false
set_option linter.all false
set_option maxRecDepth 100000
set_option maxHeartbeats 2000000
namespace My
open PySem L2
section
variable {P : Program} {w : World} {K : PySem.W.Frag} {mg : Str → Option Value} {base : Heap}
structure LErr (K : PySem.W.Frag) (mg : Str → Option Value) (C CR : Addr) : Prop where
  mgR : mg "RackError" = some (.ref CR)
  own : PySem.W.exmOne K (.ref C) (.ref C) = some true
  rk : PySem.W.kitOne K (.ref C) (.ref CR) = some true
  val : PySem.W.kitOne K (.ref C) (.type "ValueError") = some true
  o_Gap : ∃ D, mg "Gap" = some (.ref D) ∧ PySem.W.kitOne K (.ref C) (.ref D) = some false
  o_NoDeed : ∃ D, mg "NoDeed" = some (.ref D) ∧ PySem.W.kitOne K (.ref C) (.ref D) = some false
  o_NoLaying : ∃ D, mg "NoLaying" = some (.ref D) ∧ PySem.W.kitOne K (.ref C) (.ref D) = some false
  o_NoWord : ∃ D, mg "NoWord" = some (.ref D) ∧ PySem.W.kitOne K (.ref C) (.ref D) = some false
  o_TooFew : ∃ D, mg "TooFew" = some (.ref D) ∧ PySem.W.kitOne K (.ref C) (.ref D) = some false
def spTold : Sp := fun vs H Q _ => ∃ (rack signs : List Nat), vs = [.str (S rack), .str (S signs)] ∧ rack.length ≤ 63 ∧ signs.length ≤ 63 ∧ (∀ c ∈ signs, sgN c) ∧
  (∀ t, goF (rack.map fun c => [c]) signs = .inl t → ∀ (p : Addr) (H' : Hp), Same H H' → H' p = some (.lst [.str (S [t])]) → Q (.ref p) H') ∧
  (∀ left, goF (rack.map fun c => [c]) signs = .inr left → ∀ (ws : List (List Nat)) (H' : Hp), Same H H' → ws.Perm left → ws.Pairwise (fun a b => decide (b < a) = false) → Q (.str (S ws.flatten)) H')
theorem ok_told {C CR f0 : Addr} (D : DefAt K mg "_law_told" s_told ["_law_rack_here", "_law_signs_here"]) (n_isinstance : mg "isinstance" = none) (n_any : mg "any" = none) (n_ValueError : mg "ValueError" = none) (T : XCls K mg "Lacking" C f0 ["tile"]) (R : LErr K mg C CR)
    (D_left_of : DefX P w K mg base "left_of" 3 ["rack", "signs"] (spLeft C)) : Def P w K mg base "_law_told" 5 ["_law_rack_here", "_law_signs_here"] spTold := by
  refine D.qok sc_told (fun vs H Q E h => ?_) (fun f cdv A outer s H vs Q E hr h => ?_)
  · obtain ⟨rack, signs, rfl, _⟩ := h
    rfl
  · obtain ⟨rack, signs, rfl, hr63, hs63, hsg, qE, q⟩ := h
    have mg_Lacking := T.mgC
    have mg_RackError := R.mgR
    obtain ⟨C_Gap, mg_Gap, k_Gap⟩ := R.o_Gap
    obtain ⟨C_NoDeed, mg_NoDeed, k_NoDeed⟩ := R.o_NoDeed
    obtain ⟨C_NoLaying, mg_NoLaying, k_NoLaying⟩ := R.o_NoLaying
    obtain ⟨C_NoWord, mg_NoWord, k_NoWord⟩ := R.o_NoWord
    obtain ⟨C_TooFew, mg_TooFew, k_TooFew⟩ := R.o_TooFew
    refine ⟨_, (qss_cons (qs_set (i := 2) sc_told.nd rfl (Or.inl rfl) qe_non) (qss_cons (qs_tryA rfl rfl (by rfl) mg_Lacking sc_told.nd (i := 3) rfl (by rfl) (fun pn xe E0 σ0 hp hx => (qss_one (qs_set (i := 2) sc_told.nd rfl (Or.inl rfl) (qe_ownS D_left_of (hr.mono (by decide)) rfl hx (qa_cons (qv 0) (qa_cons (qv 1) qa_nil)))))) (fun ah => (qss_cons (qs_set (i := 4) sc_told.nd rfl (Or.inl rfl) (qe_lst (qa_cons (qe_callB (call_isinstXK K) (by rfl) n_isinstance PyProof.Rows.boot_isinstance (qa_cons (qv 3) (qa_cons (qe_glob (v := .ref _) (by rfl) mg_Gap rfl) qa_nil))) (qa_cons (qe_callB (call_isinstXK K) (by rfl) n_isinstance PyProof.Rows.boot_isinstance (qa_cons (qv 3) (qa_cons (qe_glob (v := .ref _) (by rfl) mg_NoDeed rfl) qa_nil))) (qa_cons (qe_callB (call_isinstXK K) (by rfl) n_isinstance PyProof.Rows.boot_isinstance (qa_cons (qv 3) (qa_cons (qe_glob (v := .ref _) (by rfl) mg_NoLaying rfl) qa_nil))) (qa_cons (qe_callB (call_isinstXK K) (by rfl) n_isinstance PyProof.Rows.boot_isinstance (qa_cons (qv 3) (qa_cons (qe_glob (v := .ref _) (by rfl) mg_NoWord rfl) qa_nil))) qa_nil)))))) (qss_one (qs_if (QW.qt (qw_and (qt_val (qe_callB (call_isinstXK K) (by rfl) n_isinstance PyProof.Rows.boot_isinstance (qa_cons (qv 3) (qa_cons (qe_glob (v := .ref _) (by rfl) mg_RackError rfl) qa_nil)))) (qw_and (qt_val (qe_callB (call_isinstXK K) (by rfl) n_isinstance PyProof.Rows.boot_isinstance (qa_cons (qv 3) (qa_cons (qe_bltn (v := .ty "ValueError") (by rfl) n_ValueError boot_ValueError rfl) qa_nil)))) (qw_and1 (qt_not (qt_val (qe_callB (call_anyH K ah rfl) (by rfl) n_any boot_anyX (qa_cons (qe_op op_cat (qv 4) (qe_lst (qa_cons (qe_callB (call_isinstXK K) (by rfl) n_isinstance PyProof.Rows.boot_isinstance (qa_cons (qv 3) (qa_cons (qe_glob (v := .ref _) (by rfl) mg_TooFew rfl) qa_nil))) qa_nil))) qa_nil)))))))) (qss_one (qs_set (i := 2) sc_told.nd rfl (Or.inl rfl) (qe_lst (qa_cons (qe_fldXK K (qv 3) rfl) qa_nil)))) qss_nil))))) (qss_one (qs_ret (qv 2))))), ?_⟩
    refine ⟨fun cls dd H' => ∃ t dx, cls = .ref C ∧ dd = some dx ∧ goF (rack.map fun c => [c]) signs = .inl t ∧ Same H H' ∧ H' dx = some (.ext (XD dx [("tile", .str (S [t]))])), ?_, ?_⟩
    · refine ⟨rfl, _, rfl, _, rfl, rack, signs, rfl, hr63, hs63, hsg, fun t et dx H' s' hd => ⟨t, dx, rfl, rfl, et, s', hd⟩, fun left el ws H' s' pm pw => ?_⟩
      exact ⟨_, rfl, q left el ws H' s' pm pw⟩
    · rintro a cls dd H' ⟨t, dx, rfl, rfl, et, s3, hd⟩ na
      refine ⟨R.own, ?_⟩
      have s4 : Same H' (upd H' a (HO.ext (ExcO a (.ref C) (some dx)))) := Same.upd na
      have ha : upd H' a (HO.ext (ExcO a (.ref C) (some dx))) a = some (.ext (ExcO a (.ref C) (some dx))) := upd_same
      have sH := s3.trans s4
      have hd4 := s4 _ _ hd
      generalize upd H' a (HO.ext (ExcO a (.ref C) (some dx))) = H4 at s4 ha sH hd4 ⊢
      refine ⟨_, rfl, a, C, .ref C_Gap, .ref C_Gap, some dx, false, rfl, .inl ⟨C_Gap, rfl, rfl⟩, ha, ⟨_, hd4⟩, T.is, k_Gap, _, rfl, a, C, .ref C_NoDeed, .ref C_NoDeed, some dx, false, rfl, .inl ⟨C_NoDeed, rfl, rfl⟩, ha, ⟨_, hd4⟩, T.is, k_NoDeed, _, rfl, a, C, .ref C_NoLaying, .ref C_NoLaying, some dx, false, rfl, .inl ⟨C_NoLaying, rfl, rfl⟩, ha, ⟨_, hd4⟩, T.is, k_NoLaying, _, rfl, a, C, .ref C_NoWord, .ref C_NoWord, some dx, false, rfl, .inl ⟨C_NoWord, rfl, rfl⟩, ha, ⟨_, hd4⟩, T.is, k_NoWord, by show 4 ≤ sizeLine; decide, fun L1 hL1 => ?_⟩
      have k5 : Same H4 (upd H4 L1 (HO.lst [V.bl false, V.bl false, V.bl false, V.bl false])) := Same.upd hL1
      have e1 : upd H4 L1 (HO.lst [V.bl false, V.bl false, V.bl false, V.bl false]) L1 = some (.lst [V.bl false, V.bl false, V.bl false, V.bl false]) := upd_same
      have ha5 := k5 _ _ ha
      have hd5 := k5 _ _ hd4
      have sH5 := sH.trans k5
      generalize upd H4 L1 (HO.lst [V.bl false, V.bl false, V.bl false, V.bl false]) = H5 at k5 e1 ha5 hd5 sH5 ⊢
      refine ⟨_, rfl, a, C, .ref CR, .ref CR, some dx, true, rfl, .inl ⟨CR, rfl, rfl⟩, ha5, ⟨_, hd5⟩, T.is, R.rk, _, rfl, iteT ?_⟩
      refine ⟨_, rfl, a, C, .ty "ValueError", .type "ValueError", some dx, true, rfl, .inr ⟨_, rfl, rfl⟩, ha5, ⟨_, hd5⟩, T.is, R.val, _, rfl, iteT ?_⟩
      refine ⟨_, rfl, _, rfl, a, C, .ref C_TooFew, .ref C_TooFew, some dx, false, rfl, .inl ⟨C_TooFew, rfl, rfl⟩, ha5, ⟨_, hd5⟩, T.is, k_TooFew, by show 1 ≤ sizeLine; decide, fun M1 hM1 => ?_⟩
      have j1 : Same H5 (upd H5 M1 (HO.lst [V.bl false])) := Same.upd hM1
      have f1 : upd H5 M1 (HO.lst [V.bl false]) M1 = some (.lst [V.bl false]) := upd_same
      refine ⟨L1, M1, _, _, rfl, rfl, j1 _ _ e1, f1, by show 4 + 1 ≤ sizeLine; decide, fun L3 hL3 => ?_⟩
      have i1 := j1.trans (Same.upd (o := HO.lst ([V.bl false, V.bl false, V.bl false, V.bl false] ++ [V.bl false])) hL3)
      have e3 : upd (upd H5 M1 (HO.lst [V.bl false])) L3 (HO.lst ([V.bl false, V.bl false, V.bl false, V.bl false] ++ [V.bl false])) L3 = some (.lst ([V.bl false, V.bl false, V.bl false, V.bl false] ++ [V.bl false])) := upd_same
      have ha7 := i1 _ _ ha5
      have hd7 := i1 _ _ hd5
      have sH7 := sH5.trans i1
      generalize upd (upd H5 M1 (HO.lst [V.bl false])) L3 (HO.lst ([V.bl false, V.bl false, V.bl false, V.bl false] ++ [V.bl false])) = H7 at i1 e3 ha7 hd7 sH7 ⊢
      refine ⟨L3, List.replicate 5 false, _, _, rfl, SqL.of e3, ha7, _, rfl, iteT ?_⟩
      refine ⟨_, rfl, a, C, dx, _, _, rfl, ha7, hd7, T.is, T.hd, T.no _ (by simp), rfl, by show 1 ≤ sizeLine; decide, fun p hp => ?_⟩
      exact ⟨_, rfl, qE t et p _ (sH7.upd' (sH7.free hp)) upd_same⟩

end
end My
end

section
set_option Elab.async false
set_option linter.all false
set_option maxRecDepth 100000
set_option maxHeartbeats 2000000
namespace My
open PySem L2
section
variable {P : Program} {w : World} {K : PySem.W.Frag} {mg : Str → Option Value} {base : Heap}
theorem goF_perm : ∀ (cs : List Nat) (us vs : List (List Nat)), us.Perm vs → (∃ t, goF us cs = .inl t ∧ goF vs cs = .inl t) ∨ ∃ l k, goF us cs = .inr l ∧ goF vs cs = .inr k ∧ l.Perm k
  | [], us, vs, h => .inr ⟨us, vs, rfl, rfl, h⟩
  | c :: cs, us, vs, h => by
    unfold goF
    by_cases hm : [tileF c] ∈ us
    · rw [if_pos hm, if_pos (h.mem_iff.mp hm)]
      exact goF_perm cs _ _ (h.erase _)
    · rw [if_neg hm, if_neg fun z => hm (h.mem_iff.mpr z)]
      exact .inl ⟨_, rfl, rfl⟩
theorem goF_sub : ∀ (cs : List Nat) (us l : List (List Nat)), goF us cs = .inr l → ∀ x ∈ l, x ∈ us
  | [], us, l, h, x, hx => by
    have : us = l := by unfold goF at h; injection h
    rw [this]; exact hx
  | c :: cs, us, l, h, x, hx => by
    unfold goF at h
    by_cases hm : [tileF c] ∈ us
    · rw [if_pos hm] at h
      exact List.mem_of_mem_erase (goF_sub cs _ l h x hx)
    · rw [if_neg hm] at h; cases h
theorem goF_tile : ∀ (cs : List Nat) (us : List (List Nat)) (t : Nat), goF us cs = .inl t → ∃ c ∈ cs, t = tileF c
  | [], us, t, h => by unfold goF at h; cases h
  | c :: cs, us, t, h => by
    unfold goF at h
    by_cases hm : [tileF c] ∈ us
    · rw [if_pos hm] at h
      obtain ⟨d, hd, e⟩ := goF_tile cs _ t h
      exact ⟨d, List.mem_cons_of_mem _ hd, e⟩
    · rw [if_neg hm] at h
      injection h with h
      exact ⟨c, List.mem_cons_self, h.symm⟩
theorem srt_uniq {a b : List (List Nat)} (p : a.Perm b) (h1 : a.Pairwise (fun x y => decide (y < x) = false)) (h2 : b.Pairwise (fun x y => decide (y < x) = false)) : a = b :=
  p.eq_of_pairwise (le := fun x y => decide (y < x) = false) (fun x y _ _ z1 z2 => List.le_antisymm (List.not_lt.mp (of_decide_eq_false z1)) (List.not_lt.mp (of_decide_eq_false z2))) h1 h2
theorem tile_lt {c : Nat} (h : sgN c) : tileF c < 128 := by
  unfold tileF
  split
  · decide
  · exact h.lt
theorem flat_lt {ws : List (List Nat)} {rack : List Nat} (hrk : ∀ c ∈ rack, rkC c) (h : ∀ x ∈ ws, x ∈ rack.map fun c => [c]) : ∀ c ∈ ws.flatten, c < 128 := fun c hc => by
  obtain ⟨l, hl, hcl⟩ := List.mem_flatten.mp hc
  obtain ⟨d, hd, rfl⟩ := List.mem_map.mp (h l hl)
  rw [List.mem_singleton.mp hcl]; exact (hrk d hd).lt
theorem ok_law {f : Addr} {fd : FuncData} (F : Fun K "law" "law" s_law f fd) (n_isinstance : mg "isinstance" = none) (n_str : mg "str" = none) (n_sorted : mg "sorted" = none)
    (D_cell_at : Def P w K mg base "_law_cell_at" 1 ["_law_script", "_law_k"] (spCell K)) (D_letters : Def P w K mg base "_law_letters" 1 ["_law_cell"] spLetC) (D_rack : Def P w K mg base "_law_rack" 2 ["_law_script", "_law_letters_here"] (spRack K))
    (D_signs : Def P w K mg base "_law_signs" 2 ["_law_cell", "_law_rack_here", "_law_letters_here"] spSigns) (D_due : Def P w K mg base "_law_due" 1 ["_law_rack_here", "_law_signs_here"] spDue) (D_told : Def P w K mg base "_law_told" 5 ["_law_rack_here", "_law_signs_here"] spTold) : FnOk P w K mg base CX0 7 f fd ["_law_script"] (spLaw K) := by
  refine F.qok sc_law (fun vs H Q E h => ?_) (fun cdv A outer s H vs Q E hr h => ?_)
  · obtain ⟨a, ns, rfl, _⟩ := h
    rfl
  · obtain ⟨a, ns, rfl, hS, hn, q⟩ := h
    refine ⟨_, (qss_cons (qs_set (i := 1) sc_law.nd rfl (Or.inl rfl) (qe_own D_letters (hr.mono (by decide)) rfl (qa_cons (qe_own D_cell_at (hr.mono (by decide)) rfl (qa_cons (qv 0) (qa_cons qe_int qa_nil))) qa_nil))) (qss_cons (qs_set (i := 2) sc_law.nd rfl (Or.inl rfl) (qe_own D_rack (hr.mono (by decide)) rfl (qa_cons (qv 0) (qa_cons (qv 1) qa_nil)))) (qss_cons (qs_for PassesOwn.never rfl (qi_list (qe_op op_cat (qe_lst (qa_cons qe_int qa_nil)) (qe_slice sl_list (qv 0) (qo_some qe_int) (qo_some qe_int)))) (qg_name (i := 3) sc_law.nd rfl (Or.inl rfl)) (qss_cons (qs_set (i := 4) sc_law.nd rfl (Or.inl rfl) (qe_own D_signs (hr.mono (by decide)) rfl (qa_cons (qv 3) (qa_cons (qv 2) (qa_cons (qv 1) qa_nil))))) (qss_cons (qs_set (i := 5) sc_law.nd rfl (Or.inl rfl) (qe_own D_due (hr.mono (by decide)) rfl (qa_cons (qv 2) (qa_cons (qv 4) qa_nil)))) (qss_one (qs_for PassesOwn.never rfl (qi_list (qe_lst (qa_cons (qv 2) (qa_cons (qe_revS (qv 2) (qe_un un_neg qe_int)) qa_nil)))) (qg_name (i := 6) sc_law.nd rfl (Or.inl rfl)) (qss_cons (qs_set (i := 7) sc_law.nd rfl (Or.inl rfl) (qe_own D_told (hr.mono (by decide)) rfl (qa_cons (qv 6) (qa_cons (qv 4) qa_nil)))) (qss_one (qs_if (QW.qt (qw_or (qt_cmpR op_ne (qe_callB call_isinst (by rfl) n_isinstance PyProof.Rows.boot_isinstance (qa_cons (qv 7) (qa_cons (qe_bltn (v := .ty "str") (by rfl) n_str PyProof.Rows.boot_str rfl) qa_nil))) (qe_callB call_isinst (by rfl) n_isinstance PyProof.Rows.boot_isinstance (qa_cons (qv 5) (qa_cons (qe_bltn (v := .ty "str") (by rfl) n_str PyProof.Rows.boot_str rfl) qa_nil))) (nomark _)) (qw_or1 (qt_cmpR (op_neD hr.units) (qv 7) (qv 5) (nomark _))))) (qss_one (qs_ret qe_bl)) qss_nil)))))))) (qss_one (qs_ret (qe_cmpR (op_eqD hr.units) (qe_own D_told (hr.mono (by decide)) rfl (qa_cons (qv 2) (qa_cons (qe_strS [] (by decide +kernel)) qa_nil))) (qe_bm PySem.F.plainAttrs_str PySem.F.slot_str_join PySem.F.type_str_join mt_join (qe_strS [] (by decide +kernel)) (qa_cons (qe_callB (call_sortedSP rfl) (by rfl) n_sorted PyProof.Rows.boot_sorted (qa_cons (qv 2) qa_nil)) qa_nil)) (nomark _))))))), ?_⟩
    refine ⟨_, rfl, a, ns, 0, rfl, hS, fun v0 => ⟨v0, rfl, fun ls hA => ?_⟩⟩
    refine ⟨_, rfl, _, rfl, a, ns, ls, rfl, hS, hn, hA, fun rack H1 s1 hr63 hrk => ?_⟩
    -- [0] + script[10:60]
    refine ⟨by show 1 ≤ sizeLine; decide, fun A0 hA0 => ?_⟩
    have sA : Same H1 (upd H1 A0 (HO.lst [.int 0])) := Same.upd hA0
    have eA : upd H1 A0 (HO.lst [.int 0]) A0 = some (.lst [.int 0]) := upd_same
    have s2 := s1.trans sA
    generalize upd H1 A0 (HO.lst [.int 0]) = H2 at sA eA s2 ⊢
    refine ⟨_, rfl, _, rfl, _, rfl, a, _, rfl, s2.seq hS, fun B0 hB0 => ?_⟩
    obtain ⟨ms, ems, hml⟩ : ∃ ms : List Int, cutV (ns.map V.int) (some 10) (some 60) = ms.map V.int ∧ ms.length ≤ ns.length := by
      refine ⟨_, by unfold cutV; rw [← List.map_drop, ← List.map_take], ?_⟩
      rw [List.length_take, List.length_drop]
      omega
    rw [ems]
    have sB : Same H2 (upd H2 B0 (HO.lst (ms.map V.int))) := Same.upd hB0
    have eB : upd H2 B0 (HO.lst (ms.map V.int)) B0 = some (.lst (ms.map V.int)) := upd_same
    have s3 := s2.trans sB
    have eA3 := sB _ _ eA
    generalize upd H2 B0 (HO.lst (ms.map V.int)) = H3 at sB eB s3 eA3 ⊢
    refine ⟨A0, B0, _, _, rfl, rfl, eA3, eB, Nat.le_of_lt (small1000 (by rw [List.length_map]; simp; omega)), fun L hL => ?_⟩
    have sL := s3.upd' (o := .lst ([V.int 0] ++ ms.map V.int)) (s3.free hL)
    have eL : upd H3 L (.lst ([V.int 0] ++ ms.map V.int)) L = some (.lst ((0 :: ms).map V.int)) := upd_same
    generalize upd H3 L (.lst ([V.int 0] ++ ms.map V.int)) = H4 at sL eL ⊢
    refine ⟨L, rfl, ⟨_, SqL.of eL⟩, for_list (K := K) (a := L) (xs := (0 :: ms).map V.int) (fun i σ H5 => ∃ v3 v4 v5 v6 v7 : Option V, σ = [some (.ref a), some (.str (S ls)), some (.str (S rack)), v3, v4, v5, v6, v7] ∧ Same H4 H5) ⟨none, none, none, none, none, rfl, Same.refl _⟩ (fun i σ H5 _ ⟨_, _, _, _, _, _, e⟩ => SqL.of (e _ _ eL)) ?_ ?_⟩
    · rintro i x σ H5 hx ⟨v3, v4, v5, v6, v7, rfl, s5⟩
      obtain ⟨c, rfl⟩ : ∃ c : Int, x = .int c := by
        obtain ⟨c, _, e⟩ := List.mem_map.mp (List.mem_of_getElem? hx)
        exact ⟨c, e.symm⟩
      refine ⟨_, rfl, _, rfl, _, rfl, c, rack, ls, rfl, hr63, hrk, hA, fun signs H6 s6 hs63 hsg => ?_⟩
      have s46 : Same H4 H6 := s5.trans s6
      cases eg : goF (rack.map fun c => [c]) signs with
      | inl t =>
        obtain ⟨c0, hc0, et⟩ := goF_tile _ _ _ eg
        have tlt : t < 128 := by rw [et]; exact tile_lt (hsg c0 hc0)
        refine ⟨_, rfl, _, rfl, rack, signs, rfl, hr63, hs63, hsg, .inl ⟨t, eg, fun p H7 s7 hp => ?_⟩⟩
        refine ⟨_, rfl, _, rfl, _, rfl, rack, rfl, rfl, Nat.le_of_lt (small1000 (by omega)), by show 2 ≤ sizeLine; decide, fun M hM => ?_⟩
        have sM : Same H7 (upd H7 M (HO.lst [.str (S rack), .str (S rack.reverse)])) := Same.upd hM
        have eM : upd H7 M (HO.lst [.str (S rack), .str (S rack.reverse)]) M = some (HO.lst [.str (S rack), .str (S rack.reverse)]) := upd_same
        have hp8 := sM _ _ hp
        have s48 := s46.trans (s7.trans sM)
        generalize upd H7 M (HO.lst [.str (S rack), .str (S rack.reverse)]) = H8 at sM eM hp8 s48 ⊢
        refine ⟨M, rfl, ⟨_, SqL.of eM⟩, for_list (K := K) (a := M) (xs := [.str (S rack), .str (S rack.reverse)]) (fun i σ H9 => ∃ v6 v7 : Option V, σ = [some (.ref a), some (.str (S ls)), some (.str (S rack)), some (.int c), some (.str (S signs)), some (.ref p), v6, v7] ∧ Same H8 H9) ⟨_, _, rfl, Same.refl _⟩ (fun i σ H9 _ ⟨_, _, _, e⟩ => SqL.of (e _ _ eM)) ?_ ?_⟩
        · rintro i2 y σ H9 hy ⟨w6, w7, rfl, s9⟩
          obtain ⟨one, rfl, hpm⟩ : ∃ one : List Nat, y = .str (S one) ∧ rack.Perm one := by
            have hm := List.mem_of_getElem? hy
            simp only [List.mem_cons, List.not_mem_nil, or_false] at hm
            rcases hm with z | z
            · exact ⟨rack, z, .refl _⟩
            · exact ⟨rack.reverse, z, (List.reverse_perm _).symm⟩
          have g1 : goF (one.map fun c => [c]) signs = .inl t := by
            rcases goF_perm signs _ _ (hpm.map fun c => [c]) with ⟨t2, h1, h2⟩ | ⟨l, k, h1, h2, _⟩
            · rw [eg] at h1; injection h1 with h1; rw [h2, h1]
            · rw [eg] at h1; cases h1
          refine ⟨_, rfl, _, rfl, one, signs, rfl, by rw [← hpm.length_eq]; exact hr63, hs63, hsg, fun t2 e2 p2 H10 s10 hp2 => ?_, fun left e2 => by rw [g1] at e2; cases e2⟩
          rw [g1] at e2
          injection e2 with e2
          subst e2
          have hp10 := s10 _ _ (s9 _ _ hp8)
          refine ⟨_, rfl, _, _, _, false, rfl, .lst hp2, (by kernel_rfl), _, rfl, _, _, _, false, rfl, .lst hp10, (by kernel_rfl), ?_⟩
          have h1 : HasD K H10 1 (.lst [.str [t]]) (.ref p2) := .lst (SqL.of hp2) (.cons (.str _ fun d hd => by rw [List.mem_singleton.mp hd]; exact tlt) .nil)
          have h2 : HasD K H10 1 (.lst [.str [t]]) (.ref p) := .lst (SqL.of hp10) (.cons (.str _ fun d hd => by rw [List.mem_singleton.mp hd]; exact tlt) .nil)
          refine ⟨rfl, _, rfl, ?_⟩
          simp only [decide_true, Bool.not_true]
          refine iteF ⟨_, rfl, _, rfl, 1, _, _, by decide, h1, h2, _, rfl, ?_⟩
          simp only [if_true, decide_true, Bool.not_true]
          refine iteF ⟨_, _, rfl, s9.trans s10⟩
        · rintro σ H9 ⟨w6, w7, rfl, s9⟩
          exact ⟨_, _, _, _, _, rfl, s48.trans s9⟩
      | inr left =>
        refine ⟨_, rfl, _, rfl, rack, signs, rfl, hr63, hs63, hsg, .inr ⟨left, eg, fun ws H7 s7 pm pw => ?_⟩⟩
        have wlt : ∀ c ∈ ws.flatten, c < 128 := flat_lt hrk fun x hx => goF_sub _ _ _ eg x (pm.mem_iff.mp hx)
        refine ⟨_, rfl, _, rfl, _, rfl, rack, rfl, rfl, Nat.le_of_lt (small1000 (by omega)), by show 2 ≤ sizeLine; decide, fun M hM => ?_⟩
        have sM : Same H7 (upd H7 M (HO.lst [.str (S rack), .str (S rack.reverse)])) := Same.upd hM
        have eM : upd H7 M (HO.lst [.str (S rack), .str (S rack.reverse)]) M = some (HO.lst [.str (S rack), .str (S rack.reverse)]) := upd_same
        have s48 := s46.trans (s7.trans sM)
        generalize upd H7 M (HO.lst [.str (S rack), .str (S rack.reverse)]) = H8 at sM eM s48 ⊢
        refine ⟨M, rfl, ⟨_, SqL.of eM⟩, for_list (K := K) (a := M) (xs := [.str (S rack), .str (S rack.reverse)]) (fun i σ H9 => ∃ v6 v7 : Option V, σ = [some (.ref a), some (.str (S ls)), some (.str (S rack)), some (.int c), some (.str (S signs)), some (.str (S ws.flatten)), v6, v7] ∧ Same H8 H9) ⟨_, _, rfl, Same.refl _⟩ (fun i σ H9 _ ⟨_, _, _, e⟩ => SqL.of (e _ _ eM)) ?_ ?_⟩
        · rintro i2 y σ H9 hy ⟨w6, w7, rfl, s9⟩
          obtain ⟨one, rfl, hpm⟩ : ∃ one : List Nat, y = .str (S one) ∧ rack.Perm one := by
            have hm := List.mem_of_getElem? hy
            simp only [List.mem_cons, List.not_mem_nil, or_false] at hm
            rcases hm with z | z
            · exact ⟨rack, z, .refl _⟩
            · exact ⟨rack.reverse, z, (List.reverse_perm _).symm⟩
          obtain ⟨k, g1, hlk⟩ : ∃ k, goF (one.map fun c => [c]) signs = .inr k ∧ left.Perm k := by
            rcases goF_perm signs _ _ (hpm.map fun c => [c]) with ⟨t2, h1, h2⟩ | ⟨l, k, h1, h2, h3⟩
            · rw [eg] at h1; cases h1
            · rw [eg] at h1
              have : left = l := by injection h1
              subst this
              exact ⟨k, h2, h3⟩
          refine ⟨_, rfl, _, rfl, one, signs, rfl, by rw [← hpm.length_eq]; exact hr63, hs63, hsg, fun t2 e2 => (by rw [g1] at e2; cases e2), fun k2 e2 us H10 s10 pm2 pw2 => ?_⟩
          rw [g1] at e2
          have : k = k2 := by injection e2
          subst this
          have eu : us = ws := srt_uniq (pm2.trans (hlk.symm.trans pm.symm)) pw2 pw
          subst eu
          refine ⟨_, rfl, _, _, _, true, rfl, .str _, (by kernel_rfl), _, rfl, _, _, _, true, rfl, .str _, (by kernel_rfl), ?_⟩
          refine ⟨rfl, _, rfl, ?_⟩
          simp only [decide_true, Bool.not_true]
          refine iteF ⟨_, rfl, _, rfl, 1, .str us.flatten, .str us.flatten, by decide, .str _ wlt, .str _ wlt, _, rfl, ?_⟩
          simp only [if_true, decide_true, Bool.not_true]
          refine iteF ⟨_, _, rfl, s9.trans s10⟩
        · rintro σ H9 ⟨w6, w7, rfl, s9⟩
          exact ⟨_, _, _, _, _, rfl, s48.trans s9⟩
    · rintro σ H5 ⟨v3, v4, v5, v6, v7, rfl, s5⟩
      refine ⟨_, rfl, rack, [], rfl, hr63, by show 0 ≤ 63; decide, fun c h => by simp at h, fun t et => ?_, fun left el ws H6 s6 pm pw => ?_⟩
      · unfold goF at et; cases et
      · have el : rack.map (fun c => [c]) = left := by unfold goF at el; injection el
        subst el
        refine ⟨rfl, _, rfl, rack, rfl, by omega, fun p ls' hp pm2 pw2 => ?_⟩
        have eu : ws = ls'.map fun c => [c] := srt_uniq (pm.trans (pm2.map fun c => [c]).symm) pw pw2
        subst eu
        have wlt : ∀ c ∈ (ls'.map fun c => [c]).flatten, c < 128 := flat_lt hrk fun x hx => pm.mem_iff.mp hx
        refine ⟨p, ls'.map fun c => [c], rfl, rfl, SqL.of upd_same, ?_, ?_⟩
        · rw [one_len fun l hl => by obtain ⟨d, _, rfl⟩ := List.mem_map.mp hl; rfl]
          rw [List.length_map, pm2.length_eq]; omega
        · refine ⟨1, .str _, .str _, by decide, .str _ wlt, .str _ wlt, ?_⟩
          simp only [decide_true]
          exact q _

end
end My
end

set_option Elab.async false
set_option linter.all false
set_option maxRecDepth 100000
set_option maxHeartbeats 2000000
namespace My
open PySem L2
section
variable {P : Program} {w : World} {K : PySem.W.Frag} {mg : Str → Option Value} {base : Heap}
structure LackFacts (K : PySem.W.Frag) (mg : Str → Option Value) (C CR f0 : Addr) (fd0 : FuncData) : Prop where
  T : XCls K mg "Lacking" C f0 ["tile"]
  E : LErr K mg C CR
  I : InitOf K CR
  F : Fun K "__init__" "Lacking.__init__" s_Lacking_init f0 fd0
  b : Binds K fd0 ["self", "tile"] []
theorem lack_mk {h : Heap} {C CR f0 C_Gap C_NoDeed C_NoLaying C_NoWord C_TooFew : Addr} (X : K.In h) (G : h.Ns mainGlobals mg)
    {od0 an0 : Option Addr} {sl0 : Array (Option Value)} {oc0 kV0 dc0 pm0 cd0 ct0 : Value}
    (aC : PySem.W.nsIn K mainGlobals "Lacking" = some (some (.ref C))) (aR : PySem.W.nsIn K mainGlobals "RackError" = some (some (.ref CR)))
    (a_Gap : PySem.W.nsIn K mainGlobals "Gap" = some (some (.ref C_Gap)))
    (a_NoDeed : PySem.W.nsIn K mainGlobals "NoDeed" = some (some (.ref C_NoDeed)))
    (a_NoLaying : PySem.W.nsIn K mainGlobals "NoLaying" = some (some (.ref C_NoLaying)))
    (a_NoWord : PySem.W.nsIn K mainGlobals "NoWord" = some (some (.ref C_NoWord)))
    (a_TooFew : PySem.W.nsIn K mainGlobals "TooFew" = some (some (.ref C_TooFew)))
    (fi : PySem.W.findIn K (.ref C) "__init__" = some (some (.ref f0))) (i0 : PySem.W.isFn K (.ref f0) = true) (l0 : K.lookup f0 = some ⟨oc0, od0, .func (PySem.W.fnOf "__init__" "Lacking.__init__" (defArgs s_Lacking_init) (defBody s_Lacking_init) (defScope s_Lacking_init) .none kV0 dc0 pm0 an0 cd0 ct0), sl0⟩) (c0 : PySem.W.codeIn K cd0 "Lacking.__init__" = true) (k0 : PySem.W.keepIn K (.ref f0) = true)
    (ini : iniIn K C f0 = true) (kp : PySem.W.keepIn K (.ref C) = true)
    (ln : ((PySem.W.clsIn K C).any fun cd => cd.hasDict && errLine cd.mro) = true) (sa : PySem.W.findIn K (.ref C) "__setattr__" = some (some (.builtin "object.__setattr__")))
    (cl : (PySem.W.clsIn K C).isSome = true)
    (ga : PySem.W.findIn K (.ref C) "__getattribute__" = some (some (.builtin "BaseException.__getattribute__"))) (gx : PySem.W.findIn K (.ref C) "__getattr__" = some none)
    (ha : PySem.W.findIn K (.ref C) "__class__" = some (some (.builtin "object.__class__"))) (hn : PySem.W.specialIn K (.builtin "object.__class__") "__get__" = some (some (.builtin "getset_descriptor.__get__")))
    (ht : PySem.W.takesIn K (.builtin "object.__class__") = some true) (hm : PySem.W.mroIn K C (.type "object") = some true) (hb : PySem.W.mroIn K C (.type "BaseException") = some true)
    (hd : PySem.W.hasDictIn K C = true) (nt : PySem.W.findIn K (.ref C) "tile" = some none)
    (own : PySem.W.exmOne K (.ref C) (.ref C) = some true) (rk : PySem.W.kitOne K (.ref C) (.ref CR) = some true) (val : PySem.W.kitOne K (.ref C) (.type "ValueError") = some true)
    (k_Gap : PySem.W.kitOne K (.ref C) (.ref C_Gap) = some false)
    (k_NoDeed : PySem.W.kitOne K (.ref C) (.ref C_NoDeed) = some false)
    (k_NoLaying : PySem.W.kitOne K (.ref C) (.ref C_NoLaying) = some false)
    (k_NoWord : PySem.W.kitOne K (.ref C) (.ref C_NoWord) = some false)
    (k_TooFew : PySem.W.kitOne K (.ref C) (.ref C_TooFew) = some false)
    (g2 : PySem.W.specialIn K (.ref CR) "__getattribute__" = some (some (.builtin "type.__getattribute__"))) (rd : PySem.W.readsIn K CR (.type "type") = true) (fc : PySem.W.findCls K (.ref CR) (.type "type") "__init__" = some (.val (.builtin "ValueError.__init__")))
    : ∃ C CR f0 fd0, LackFacts K mg C CR f0 fd0 := by
  have F0 := fun_mk (st := s_Lacking_init) l0 c0 k0
  refine ⟨C, CR, f0, _, ⟨PySem.W.mg_of X G aC, ⟨ini, i0, kp⟩, ⟨ln, hm, sa⟩, ⟨cl, ga, gx, ha, hn, ht, hm, hb⟩, hd, fun g hg => ?_⟩, ⟨PySem.W.mg_of X G aR, own, rk, val, ⟨_, PySem.W.mg_of X G a_Gap, k_Gap⟩, ⟨_, PySem.W.mg_of X G a_NoDeed, k_NoDeed⟩, ⟨_, PySem.W.mg_of X G a_NoLaying, k_NoLaying⟩, ⟨_, PySem.W.mg_of X G a_NoWord, k_NoWord⟩, ⟨_, PySem.W.mg_of X G a_TooFew, k_TooFew⟩⟩, ⟨g2, rd, fc⟩, F0, F0.binds (ps := ["self", "tile"]) (fun _ _ _ _ _ _ us hl => match us, hl with | [_, _], _ => rfl)⟩
  rw [List.mem_singleton.mp hg]; exact nt
theorem law_all (n_len : mg "len" = none) (n_range : mg "range" = none) (n_list : mg "list" = none) (n_sorted : mg "sorted" = none) (n_str : mg "str" = none) (n_int : mg "int" = none) (n_any : mg "any" = none) (n_isinstance : mg "isinstance" = none) (n_ValueError : mg "ValueError" = none)
    (d_tile_of : DefAt K mg "tile_of" s_tile_of ["sign"]) (d_left_of : DefAt K mg "left_of" s_left_of ["rack", "signs"]) (d_cell_at : DefAt K mg "_law_cell_at" s_cell_at ["_law_script", "_law_k"]) (d_stream : DefAt K mg "_law_stream" s_stream ["_law_cell", "_law_many"]) (d_letters : DefAt K mg "_law_letters" s_letters ["_law_cell"]) (d_rack : DefAt K mg "_law_rack" s_rack ["_law_script", "_law_letters_here"]) (d_signs : DefAt K mg "_law_signs" s_signs ["_law_cell", "_law_rack_here", "_law_letters_here"]) (d_due : DefAt K mg "_law_due" s_due ["_law_rack_here", "_law_signs_here"]) (d_told : DefAt K mg "_law_told" s_told ["_law_rack_here", "_law_signs_here"])  {C CR f0 : Addr} {fd0 : FuncData} (R : LackFacts K mg C CR f0 fd0)
    {f : Addr} {fd : FuncData} (F : Fun K "law" "law" s_law f fd) : FnOk P w K mg base CX0 20 f fd ["_law_script"] (spLaw K) := by
  have c1 := ok_cell_at (P := P) (w := w) (base := base) d_cell_at n_len
  have c2 := ok_stream (P := P) (w := w) (base := base) d_stream n_range
  have c3 := ok_letters (P := P) (w := w) (base := base) d_letters n_range
  have c4 := ok_rack d_rack n_len c1
  have c5 := ok_due (P := P) (w := w) (base := base) d_due n_list n_sorted
  have p1 := ok_tile_of (P := P) (w := w) (base := base) d_tile_of
  have g0 := ok_lacking (P := P) (w := w) (base := base) R.F R.E.mgR R.I R.T
  have p2 := ok_left_of d_left_of n_list n_sorted R.T g0 R.b p1
  have c6 := ok_signs d_signs n_list n_len n_range n_int c2
  have c7 := ok_told d_told n_isinstance n_any n_ValueError R.T R.E p2
  exact (ok_law F n_isinstance n_str n_sorted c1 c3 c4 c6 c5 c7).mono (by decide)
end
end My
open PySem PySem.W PyProof.Rows
set_option maxRecDepth 100000 in
set_option maxHeartbeats 0 in
theorem PySem.Challenge.cw_letterrack_k11_what_is_left_holds : PySem.Challenge.rw_letterrack_k11_what_is_left.Holds := by
  w_on; o_law; k_head; (case hw => w_witness2)
  k_fill
  refine L2.walkLaw (x := "_law_script") (l := PySem.Challenge.rw_letterrack_k11_what_is_left) rfl rfl (fun w h Y => PySem.W.kIn_of Y) ?F
  case F =>
    intro w mg fa h KX G hmg
    have n_len : mg "len" = none := by
      refine' PySem.W.mg_none_of KX G ?z
      (case z => k_is)
    have n_range : mg "range" = none := by
      refine' PySem.W.mg_none_of KX G ?z
      (case z => k_is)
    have n_list : mg "list" = none := by
      refine' PySem.W.mg_none_of KX G ?z
      (case z => k_is)
    have n_sorted : mg "sorted" = none := by
      refine' PySem.W.mg_none_of KX G ?z
      (case z => k_is)
    have n_str : mg "str" = none := by
      refine' PySem.W.mg_none_of KX G ?z
      (case z => k_is)
    have n_int : mg "int" = none := by
      refine' PySem.W.mg_none_of KX G ?z
      (case z => k_is)
    have n_any : mg "any" = none := by
      refine' PySem.W.mg_none_of KX G ?z
      (case z => k_is)
    have n_isinstance : mg "isinstance" = none := by
      refine' PySem.W.mg_none_of KX G ?z
      (case z => k_is)
    have n_ValueError : mg "ValueError" = none := by
      refine' PySem.W.mg_none_of KX G ?z
      (case z => k_is)
    have d_tile_of : L2.DefAt (L2.KOf KX) mg "tile_of" My.s_tile_of ["sign"] := by
      dsimp only [L2.KOf]
      refine' L2.defat_mk KX G ?a ?l ?c ?k ?b
      (case a => k_is); (case l => k_is); (case c => k_is); (case k => k_is)
      (case b => exact fun _ _ _ _ _ _ us hl => match us, hl with | [_], _ => rfl)
    have d_left_of : L2.DefAt (L2.KOf KX) mg "left_of" My.s_left_of ["rack", "signs"] := by
      dsimp only [L2.KOf]
      refine' L2.defat_mk KX G ?a ?l ?c ?k ?b
      (case a => k_is); (case l => k_is); (case c => k_is); (case k => k_is)
      (case b => exact fun _ _ _ _ _ _ us hl => match us, hl with | [_, _], _ => rfl)
    have d_cell_at : L2.DefAt (L2.KOf KX) mg "_law_cell_at" My.s_cell_at ["_law_script", "_law_k"] := by
      dsimp only [L2.KOf]
      refine' L2.defat_mk KX G ?a ?l ?c ?k ?b
      (case a => k_is); (case l => k_is); (case c => k_is); (case k => k_is)
      (case b => exact fun _ _ _ _ _ _ us hl => match us, hl with | [_, _], _ => rfl)
    have d_stream : L2.DefAt (L2.KOf KX) mg "_law_stream" My.s_stream ["_law_cell", "_law_many"] := by
      dsimp only [L2.KOf]
      refine' L2.defat_mk KX G ?a ?l ?c ?k ?b
      (case a => k_is); (case l => k_is); (case c => k_is); (case k => k_is)
      (case b => exact fun _ _ _ _ _ _ us hl => match us, hl with | [_, _], _ => rfl)
    have d_letters : L2.DefAt (L2.KOf KX) mg "_law_letters" My.s_letters ["_law_cell"] := by
      dsimp only [L2.KOf]
      refine' L2.defat_mk KX G ?a ?l ?c ?k ?b
      (case a => k_is); (case l => k_is); (case c => k_is); (case k => k_is)
      (case b => exact fun _ _ _ _ _ _ us hl => match us, hl with | [_], _ => rfl)
    have d_rack : L2.DefAt (L2.KOf KX) mg "_law_rack" My.s_rack ["_law_script", "_law_letters_here"] := by
      dsimp only [L2.KOf]
      refine' L2.defat_mk KX G ?a ?l ?c ?k ?b
      (case a => k_is); (case l => k_is); (case c => k_is); (case k => k_is)
      (case b => exact fun _ _ _ _ _ _ us hl => match us, hl with | [_, _], _ => rfl)
    have d_signs : L2.DefAt (L2.KOf KX) mg "_law_signs" My.s_signs ["_law_cell", "_law_rack_here", "_law_letters_here"] := by
      dsimp only [L2.KOf]
      refine' L2.defat_mk KX G ?a ?l ?c ?k ?b
      (case a => k_is); (case l => k_is); (case c => k_is); (case k => k_is)
      (case b => exact fun _ _ _ _ _ _ us hl => match us, hl with | [_, _, _], _ => rfl)
    have d_due : L2.DefAt (L2.KOf KX) mg "_law_due" My.s_due ["_law_rack_here", "_law_signs_here"] := by
      dsimp only [L2.KOf]
      refine' L2.defat_mk KX G ?a ?l ?c ?k ?b
      (case a => k_is); (case l => k_is); (case c => k_is); (case k => k_is)
      (case b => exact fun _ _ _ _ _ _ us hl => match us, hl with | [_, _], _ => rfl)
    have d_told : L2.DefAt (L2.KOf KX) mg "_law_told" My.s_told ["_law_rack_here", "_law_signs_here"] := by
      dsimp only [L2.KOf]
      refine' L2.defat_mk KX G ?a ?l ?c ?k ?b
      (case a => k_is); (case l => k_is); (case c => k_is); (case k => k_is)
      (case b => exact fun _ _ _ _ _ _ us hl => match us, hl with | [_, _], _ => rfl)
    have xer : ∃ C CR f0 fd0, My.LackFacts (L2.KOf KX) mg C CR f0 fd0 := by
      dsimp only [L2.KOf]
      refine' My.lack_mk KX G ?aC ?aR ?a_Gap ?a_NoDeed ?a_NoLaying ?a_NoWord ?a_TooFew ?fi ?i0 ?l0 ?c0 ?k0 ?ini ?kp ?ln ?sa ?cl ?ga ?gx ?ha ?hn ?ht ?hm ?hb ?hd ?nt ?own ?rk ?val ?k_Gap ?k_NoDeed ?k_NoLaying ?k_NoWord ?k_TooFew ?g2 ?rd ?fc
      (case aC => k_is)
      (case aR => k_is)
      (case a_Gap => k_is)
      (case a_NoDeed => k_is)
      (case a_NoLaying => k_is)
      (case a_NoWord => k_is)
      (case a_TooFew => k_is)
      (case fi => k_is)
      (case i0 => k_is)
      (case l0 => k_is)
      (case c0 => k_is)
      (case k0 => k_is)
      (case ini => kernel_rfl)
      (case kp => k_is)
      (case ln => kernel_rfl)
      (case sa => k_is)
      (case cl => kernel_rfl)
      (case ga => k_is)
      (case gx => k_is)
      (case ha => k_is)
      (case hn => k_is)
      (case ht => k_is)
      (case hm => k_is)
      (case hb => k_is)
      (case hd => k_is)
      (case nt => k_is)
      (case own => kernel_rfl)
      (case rk => kernel_rfl)
      (case val => kernel_rfl)
      (case k_Gap => kernel_rfl)
      (case k_NoDeed => kernel_rfl)
      (case k_NoLaying => kernel_rfl)
      (case k_NoWord => kernel_rfl)
      (case k_TooFew => kernel_rfl)
      (case g2 => k_is)
      (case rd => k_is)
      (case fc => k_is)
    obtain ⟨_, _, _, _, er⟩ := xer
    have lw : ∃ fd : FuncData, L2.Fun (L2.KOf KX) "law" "law" My.s_law fa fd ∧ ∀ (s : Shared) (v : Value), BindsTo s fd ⟨[v], []⟩ [("_law_script", v)] := by
      dsimp only [L2.KOf]
      refine' L2.law_at KX G hmg ?a ?l ?c ?k ?b
      (case a => k_is); (case l => k_is); (case c => k_is); (case k => k_is)
      (case b => exact fun _ _ _ _ _ _ _ => rfl)
    obtain ⟨fd, F, hb⟩ := lw
    exact ⟨fd, hb, fun base _ _ => My.law_all n_len n_range n_list n_sorted n_str n_int n_any n_isinstance n_ValueError d_tile_of d_left_of d_cell_at d_stream d_letters d_rack d_signs d_due d_told er F⟩
