import PyProof.Rows.All
import Wide.All
import OpenK.AllK
import Wide.FinOn
import Lean
import PyProof.EqAt
import PyProof.EqKinds
import PyProof.TupleCall
import PyProof.SetKind
import PyProof.SetNew
import PyProof.SetRoads
import PyProof.Walks
import PyProof.Rows.SetListFold
import PyProof.Seq
import PyProof.Rows.SortShell
import PyProof.TupleIter
import PyProof.CollectWalk
import PyProof.ReprRoads
import PyProof.EqLayable
import PyProof.ReprLen
import PyProof.WalkInts
import PyProof.SeqI3
import PyProof.ListMulRoad
import PyProof.ZipIter
import PyProof.EnumFor
import PyProof.EnumMake
import PyProof.Draws
import PyProof.Rows.ZipGen
import PyProof.LayNew
import PyProof.WalksMore
import PyProof.IsiTupleAll
import PySem.Challenge.RW_boxcover_k03_sizes_and_spots
section
set_option Elab.async false
set_option linter.all false
set_option maxRecDepth 100000
/-! THE HAND LAYER, for ints, bools, texts, own classes, LISTS and tuples (index, slices, in, append, pop ..), calls, loops. Paste it whole ahead of your own text; what your proof does not reach may be deleted. -/
namespace L2
open PySem PySem.Spec PyProof.Rows

/-- a key: an int or a str -/
abbrev Key := Sum Int Str
def keyIs : Key → Value → Bool
  | .inl k, v => Value.isInt k v
  | .inr x, v => Value.isStrOf x v
def keyH (w : World) : Key → Int
  | .inl k => hashInt k
  | .inr x => hashStr w x
theorem keyIs_shape : ∀ {k : Key} {v : Value}, keyIs k v = true → (∃ i t, k = Sum.inl i ∧ v = Value.int i t) ∨ (∃ x t, k = Sum.inr x ∧ v = Value.str x t)
  | .inl i, v, h => by
    obtain ⟨t, e⟩ := Value.isInt_shape (k := i) (v := v) h
    exact .inl ⟨i, t, rfl, e⟩
  | .inr x, v, h => by
    obtain ⟨t, e⟩ := Value.isStrOf_shape (x := x) (v := v) h
    exact .inr ⟨x, t, rfl, e⟩
theorem keyIs_int (i : Int) (t : Tok) : keyIs (.inl i) (.int i t) = true := by simp [keyIs, Value.isInt]
theorem keyIs_str (x : Str) (t : Tok) : keyIs (.inr x) (.str x t) = true := by simp [keyIs, Value.isStrOf]
theorem key_ll (a b : Int) : decide ((Sum.inl a : Key) = Sum.inl b) = (a == b) := by
  by_cases e : a = b
  · subst e; simp
  · have h : ¬ (Sum.inl a : Key) = Sum.inl b := fun q => e (Sum.inl.inj q)
    rw [decide_eq_false h]
    exact (beq_eq_false_iff_ne.mpr e).symm
theorem key_rr (a b : Str) : decide ((Sum.inr a : Key) = Sum.inr b) = decide (a = b) := by
  by_cases e : a = b
  · subst e; simp
  · have h : ¬ (Sum.inr a : Key) = Sum.inr b := fun q => e (Sum.inr.inj q)
    rw [decide_eq_false h, decide_eq_false e]
theorem key_lr (a : Int) (b : Str) : decide ((Sum.inl a : Key) = Sum.inr b) = false := decide_eq_false (fun q => nomatch q)
theorem key_rl (a : Str) (b : Int) : decide ((Sum.inr a : Key) = Sum.inl b) = false := decide_eq_false (fun q => nomatch q)

def mixKind (prog : Program) (w : World) : PySem.KeyKind prog w Key where
  is := keyIs
  hash := keyH w
  inj := fun v a b ha hb => by
    rcases keyIs_shape ha with ⟨i, t, rfl, rfl⟩ | ⟨x, t, rfl, rfl⟩
    · rcases keyIs_shape hb with ⟨j, u, rfl, e⟩ | ⟨y, u, rfl, e⟩
      · injection e with e1 _; rw [e1]
      · exact nomatch e
    · rcases keyIs_shape hb with ⟨j, u, rfl, e⟩ | ⟨y, u, rfl, e⟩
      · exact nomatch e
      · injection e with e1 _; rw [e1]
  byValue := fun k v h => by
    rcases keyIs_shape h with ⟨i, t, rfl, rfl⟩ | ⟨x, t, rfl, rfl⟩ <;> rfl
  pyHash := fun hv h => by
    rcases keyIs_shape hv with ⟨i, t, rfl, rfl⟩ | ⟨x, t, rfl, rfl⟩
    · exact wpAny_pyHash_int h
    · exact wpAny_pyHash_str h
  eqBool := fun hu hv h => by
    rcases keyIs_shape hu with ⟨i, t, rfl, rfl⟩ | ⟨x, t, rfl, rfl⟩
    · rcases keyIs_shape hv with ⟨j, u, rfl, rfl⟩ | ⟨y, u, rfl, rfl⟩
      · rw [key_ll] at h; exact wpAny_eqBool_int h
      · rw [key_lr] at h; exact SeqAt.EqAt.int_str i t y u _ _ _ _ h
    · rcases keyIs_shape hv with ⟨j, u, rfl, rfl⟩ | ⟨y, u, rfl, rfl⟩
      · rw [key_rl] at h; exact SeqAt.EqAt.str_int x t j u _ _ _ _ h
      · rw [key_rr] at h; exact wpAny_eqBool_str h
  «strs» := fun k x t v h => by
    rcases keyIs_shape h with ⟨i, u, rfl, e⟩ | ⟨y, u, rfl, e⟩
    · exact nomatch e
    · injection e with e1 _
      subst e1
      cases v <;> rfl

theorem mixKind_is (prog : Program) (w : World) (k : Key) (v : Value) : (mixKind prog w).is k v = keyIs k v := rfl
theorem mixKind_int (prog : Program) (w : World) (i : Int) (t : Tok) : (mixKind prog w).is (.inl i) (.int i t) = true := keyIs_int i t
theorem mixKind_str (prog : Program) (w : World) (x : Str) (t : Tok) : (mixKind prog w).is (.inr x) (.str x t) = true := keyIs_str x t
end L2

namespace L2
open PySem PySem.Spec PyProof.Rows

/-- a value, without the heap -/
inductive V where
  | non | bl (b : Bool) | int (i : Int) | str (x : Str) | byt (b : Array UInt8) | flt (b : UInt64) | ref (a : Addr) | ty (n : String)
  deriving DecidableEq

def RelV : V → Value → Prop
  | .non, u => u = Value.none
  | .bl b, u => u = Value.bool b
  | .int i, u => ∃ t, u = Value.int i t
  | .str x, u => ∃ t, u = Value.str x t
  | .byt b, u => ∃ t, u = Value.bytes b t
  | .flt b, u => ∃ t, u = Value.float b t
  | .ref a, u => u = Value.ref a
  | .ty n, u => u = Value.type n

abbrev Vals : List V → List Value → Prop := Paired RelV
theorem Vals.length {xs : List V} {us : List Value} (r : Vals xs us) : xs.length = us.length := Paired.length r
theorem Vals.get : ∀ {xs : List V} {us : List Value} {i : Nat} {x : V}, Vals xs us → xs[i]? = some x → ∃ u, us[i]? = some u ∧ RelV x u
  | _, _, _, _, .nil, e => by simp at e
  | _, _, 0, _, .cons r _, e => by simp at e; subst e; exact ⟨_, rfl, r⟩
  | _, _, i + 1, x, .cons _ t, e => by
    obtain ⟨u, h1, h2⟩ := Vals.get (i := i) (x := x) t (by simpa using e)
    exact ⟨u, by simpa using h1, h2⟩
theorem Vals.set {x : V} {u : Value} (r : RelV x u) : ∀ {xs : List V} {us : List Value} (i : Nat), Vals xs us → Vals (xs.set i x) (us.set i u)
  | _, _, _, .nil => .nil
  | _, _, 0, .cons _ t => .cons r t
  | _, _, i + 1, .cons q t => .cons q (Vals.set r i t)
theorem Vals.append : ∀ {xs ys : List V} {us ws : List Value}, Vals xs us → Vals ys ws → Vals (xs ++ ys) (us ++ ws)
  | _, _, _, _, .nil, s => s
  | _, _, _, _, .cons r t, s => .cons r (Vals.append t s)
theorem Vals.take : ∀ {xs : List V} {us : List Value} (n : Nat), Vals xs us → Vals (xs.take n) (us.take n)
  | _, _, 0, _ => .nil
  | _, _, _ + 1, .nil => .nil
  | _, _, n + 1, .cons r t => .cons r (Vals.take n t)
theorem Vals.drop : ∀ {xs : List V} {us : List Value} (n : Nat), Vals xs us → Vals (xs.drop n) (us.drop n)
  | _, _, 0, r => r
  | _, _, _ + 1, .nil => .nil
  | _, _, n + 1, .cons _ t => Vals.drop n t
theorem Vals.none_of : ∀ {xs : List V} {us : List Value} {i : Nat}, Vals xs us → xs[i]? = none → us[i]? = none := fun {xs us i} r e => by
  have h1 := r.length
  have h2 : xs.length ≤ i := List.getElem?_eq_none_iff.mp e
  exact List.getElem?_eq_none_iff.mpr (by omega)

def RelO : Option V → Option Value → Prop
  | some v, some u => RelV v u
  | none, none => True
  | _, _ => False
def KV {κ : Type} : List (κ × V) → List (κ × Value) → Prop := Paired fun (p : κ × V) (q : κ × Value) => p.1 = q.1 ∧ RelV p.2 q.2

/-- a key of a dict (00_mix): an int or a text -/
def kV : Key → V
  | .inl i => .int i
  | .inr x => .str x

/-- what stands at a tracked address -/
inductive HO where
  /-- a list -/
  | lst (xs : List V)
  /-- a tuple (never changes) -/
  | tup (xs : List V)
  /-- a dict whose keys are ints and texts; one whose keys are tuples of ints and texts (the empty one is both) -/
  | dK (kvs : List (Key × V)) | dT (kvs : List (List Key × V))
  /-- a set of ints: its members, its size -/
  | set (S : Int → Bool) (n : Nat)
  /-- an instance of the class at C, its dict at dx, its attributes -/
  | ins (C dx : Addr) (fs : List (Str × V))
  /-- the dict of the instance at x -/
  | own (x : Addr)
  /-- the dict of an exception -/
  | xd (fs : List (Str × V))
  /-- a bound method, f of x -/
  | met (f x : Addr)
  /-- a range object lo, lo + 1, .. below hi -/
  | rng (lo hi : Int)
  /-- a thing that is known to the object (the script; a dict while a loop walks it): read, never written while it is so -/
  | frz (o : Obj) (u : HO)
  /-- a code object's table -/
  | tbl (ps : Array Value)
  /-- any other thing, by what is true of its one object (a def of one's own: SetO a S n := HO.ext fun h => ..) -/
  | ext (φ : Heap → Prop)

abbrev Hp := Addr → Option HO
def upd (H : Hp) (a : Addr) (o : HO) : Hp := fun b => if b = a then some o else H b
theorem upd_same {H : Hp} {a : Addr} {o : HO} : upd H a o a = some o := by unfold upd; rw [if_pos rfl]
theorem upd_ne {H : Hp} {a b : Addr} {o : HO} (h : b ≠ a) : upd H a o b = H b := by unfold upd; rw [if_neg h]
theorem upd_upd {H : Hp} {a : Addr} {o u : HO} : upd (upd H a o) a u = upd H a u := by
  funext b; unfold upd; split <;> rfl
/-- two objects of different content stand apart -/
theorem ne_of {H : Hp} {a b : Addr} {o u : HO} (h : H a = some o) (h' : H b = some u) (d : o ≠ u) : a ≠ b := by
  intro e; subst e; rw [h] at h'; exact d (Option.some.inj h')
theorem ne_of_none {H : Hp} {a b : Addr} {o : HO} (h : H a = some o) (h' : H b = none) : a ≠ b := by
  intro e; subst e; rw [h] at h'; cases h'

section
variable (P : Program) (w : World)
def ObjOk (H : Hp) (h : Heap) (a : Addr) : HO → Prop
  | .lst xs => xs.length ≤ sizeLine ∧ ∃ (its : List Value) (n : Nat), Vals xs its ∧ h.get? a = some { cls := .type "list", data := .seq its.toArray n }
  | .tup xs => xs.length ≤ sizeLine ∧ ∃ its : List Value, Vals xs its ∧ IsTup h a its.toArray
  | .dK kvs => kvs.length ≤ sizeLine ∧ (a == sysModules) = false ∧ ∃ vs, KV kvs vs ∧ h.DictOf (mixKind P w) a vs
  | .dT kvs => kvs.length ≤ sizeLine ∧ (a == sysModules) = false ∧ ∃ xs : List (List Key × Addr × Value),
      Paired (fun (p : List Key × V) (q : List Key × Addr × Value) => p.1 = q.1 ∧ H q.2.1 = some (.tup (p.1.map kV)) ∧ RelV p.2 q.2.2) kvs xs ∧
      ∃ o es ep, h.get? a = some o ∧ o.ExactDict ∧ o.data = .dict es ep ∧ es.toList = xs.map (entryOfKey (tupleKind (mixKind P w))) ∧ (xs.map (·.1)).Nodup
  | .set S n => h.SetOf (intKind P w) a S n
  | .ins C dx fs => H dx = some (.own a) ∧ fs.length ≤ 1000 ∧ dx ≠ a ∧ h.get? a = some (PySem.W.instObj C dx) ∧
      ∃ mA, h.Ns1 dx mA ∧ (∀ f, RelO (fs.lookup f) (mA f)) ∧ PySem.Within mA (fs.map (·.1))
  | .own _ => ∃ o, h.get? a = some o
  | .xd fs => ∃ mA, h.Ns1 a mA ∧ ∀ f, RelO (fs.lookup f) (mA f)
  | .rng lo hi => ∃ t u v, h.get? a = some { cls := .type "range", data := .fields #[.int lo t, .int hi u, .int 1 v] }
  | .frz o u => h.get? a = some o ∧ ObjOk H h a u
  | .tbl ps => h.get? a = some { cls := .none, data := .fields ps }
  | .met f x => h.get? a = some (PySem.W.methodObj (.ref f) (.ref x))
  | .ext φ => φ h ∧ (∃ o, h.get? a = some o) ∧ ∀ h1 h2 : Heap, φ h1 → (∀ o, h1.get? a = some o → h2.get? a = some o) → φ h2
/-- the abstract heap is held -/
def HOk (H : Hp) (h : Heap) : Prop := ∀ a o, H a = some o → ObjOk P w H h a o
end

section
variable {P : Program} {w : World} {H H' : Hp} {h h' : Heap} {a : Addr} {o : HO}
theorem ObjOk.lt (x : ObjOk P w H h a o) : a < h.objs.size := by
  cases o with
  | lst xs => obtain ⟨_, _, _, _, e⟩ := x; exact Heap.lt_size e
  | tup xs => obtain ⟨_, _, _, p⟩ := x; exact p.lt
  | dK kvs => obtain ⟨_, _, _, _, o, _, _, e, _⟩ := x; exact Heap.lt_size e
  | dT kvs => obtain ⟨_, _, _, _, o, _, _, e, _⟩ := x; exact Heap.lt_size e
  | set S n => obtain ⟨o, _, _, _, e, _⟩ := x; exact Heap.lt_size e
  | ins C dx fs => obtain ⟨_, _, _, e, _⟩ := x; exact Heap.lt_size e
  | own y => obtain ⟨_, e⟩ := x; exact Heap.lt_size e
  | xd fs => obtain ⟨_, ⟨_, _, _, e, _⟩, _⟩ := x; exact Heap.lt_size e
  | rng lo hi => obtain ⟨_, _, _, e⟩ := x; exact Heap.lt_size e
  | frz ob u => obtain ⟨e, _⟩ := x; exact Heap.lt_size e
  | tbl ps => exact Heap.lt_size (show h.get? a = some _ from x)
  | met f y => exact Heap.lt_size (show h.get? a = some _ from x)
  | ext φ => obtain ⟨_, ⟨_, e⟩, _⟩ := x; exact Heap.lt_size e
theorem Paired.mapP {α β : Type} {F G : α → β → Prop} : ∀ {l₁ : List α} {l₂ : List β}, Paired F l₁ l₂ → (∀ a b, F a b → G a b) → Paired G l₁ l₂
  | _, _, .nil, _ => .nil
  | _, _, .cons r t, f => .cons (f _ _ r) (Paired.mapP t f)
theorem Paired.imp' {α β : Type} {F G : α → β → Prop} (f : ∀ a b, F a b → G a b) {l₁ : List α} {l₂ : List β} (r : Paired F l₁ l₂) : Paired G l₁ l₂ := Paired.mapP r f
/-- what an object's description leans on: its own object, its own dict, the tuples -/
theorem ObjOk.stay (x : ObjOk P w H h a o) (k : ∀ b u, (b = a ∨ H b = some (.own a)) → h.get? b = some u → h'.get? b = some u)
    (ho : ∀ b, H b = some (.own a) → H' b = some (.own a)) (ht : ∀ b xs, H b = some (.tup xs) → H' b = some (.tup xs)) : ObjOk P w H' h' a o := by
  induction o with
  | lst xs => obtain ⟨z, its, n, r, e⟩ := x; exact ⟨z, its, n, r, k _ _ (.inl rfl) e⟩
  | tup xs => obtain ⟨z, its, r, ob, e, c⟩ := x; exact ⟨z, its, r, ob, k _ _ (.inl rfl) e, c⟩
  | dK kvs => obtain ⟨z, y, vs, r, ob, es, ep, e, c⟩ := x; exact ⟨z, y, vs, r, ob, es, ep, k _ _ (.inl rfl) e, c⟩
  | dT kvs =>
    obtain ⟨z, y, xs, r, ob, es, ep, e, c⟩ := x
    exact ⟨z, y, xs, Paired.mapP r fun p q z => ⟨z.1, ht _ _ z.2.1, z.2.2⟩, ob, es, ep, k _ _ (.inl rfl) e, c⟩
  | set S n => obtain ⟨ob, es, ep, t, e, c⟩ := x; exact ⟨ob, es, ep, t, k _ _ (.inl rfl) e, c⟩
  | ins C dx fs =>
    obtain ⟨d, z, ne, e, mA, ⟨od, es, ep, e2, c⟩, r⟩ := x
    exact ⟨ho _ d, z, ne, k _ _ (.inl rfl) e, mA, ⟨od, es, ep, k _ _ (.inr d) e2, c⟩, r⟩
  | own y => obtain ⟨ob, e⟩ := x; exact ⟨ob, k _ _ (.inl rfl) e⟩
  | xd fs => obtain ⟨mA, ⟨od, es, ep, e, c⟩, r⟩ := x; exact ⟨mA, ⟨od, es, ep, k _ _ (.inl rfl) e, c⟩, r⟩
  | rng lo hi => obtain ⟨t, u, v, e⟩ := x; exact ⟨t, u, v, k _ _ (.inl rfl) e⟩
  | frz ob u ih => obtain ⟨e, q⟩ := x; exact ⟨k _ _ (.inl rfl) e, ih q⟩
  | tbl ps =>
    have e : h.get? a = some { cls := .none, data := .fields ps } := x
    show h'.get? a = some { cls := .none, data := .fields ps }
    exact k a _ (.inl rfl) e
  | met f y =>
    have e : h.get? a = some (PySem.W.methodObj (.ref f) (.ref y)) := x
    show h'.get? a = some (PySem.W.methodObj (.ref f) (.ref y))
    exact k a _ (.inl rfl) e
  | ext φ => obtain ⟨p, ⟨o, e⟩, st⟩ := x; exact ⟨st _ _ p fun o q => k _ _ (.inl rfl) q, ⟨o, k _ _ (.inl rfl) e⟩, st⟩
theorem HOk.lt (x : HOk P w H h) (e : H a = some o) : a < h.objs.size := (x a o e).lt
theorem HOk.fresh (x : HOk P w H h) (e : h.objs.size ≤ a) : H a = none := by
  cases q : H a with
  | none => rfl
  | some u => exact absurd (Nat.lt_of_lt_of_le (x.lt q) e) (Nat.lt_irrefl _)
/-- every object of the heap is kept -/
theorem HOk.kept (x : HOk P w H h) (k : ∀ b u, h.get? b = some u → h'.get? b = some u) : HOk P w H h' := fun a o e =>
  (x a o e).stay (fun b u _ q => k b u q) (fun _ q => q) fun _ _ q => q
/-- a new object is laid and tracked -/
theorem HOk.laid (x : HOk P w H h) (k : ∀ b u, h.get? b = some u → h'.get? b = some u) (hp : h.objs.size ≤ a) (new : ObjOk P w (upd H a o) h' a o) : HOk P w (upd H a o) h' := fun b u e => by
  have hn := x.fresh hp
  by_cases hb : b = a
  · subst hb; rw [upd_same] at e; cases e; exact new
  · rw [upd_ne hb] at e
    exact (x b u e).stay (fun c v _ q => k c v q) (fun c q => by rw [upd_ne (ne_of_none q hn)]; exact q) fun c xs q => by rw [upd_ne (ne_of_none q hn)]; exact q
end

/-- what may be read as u: it is u, or a known u -/
def Rd (H : Hp) (a : Addr) (u : HO) : Prop := H a = some u ∨ ∃ o, H a = some (.frz o u)
theorem Rd.of {H : Hp} {a : Addr} {u : HO} (h : H a = some u) : Rd H a u := .inl h
theorem Rd.ok {P : Program} {w : World} {H : Hp} {h : Heap} {a : Addr} {u : HO} (r : Rd H a u) (x : HOk P w H h) : ObjOk P w H h a u := by
  rcases r with r | ⟨o, r⟩
  · exact x a u r
  · obtain ⟨_, q⟩ := x a _ r
    exact q
/-- what may be written -/
def Mut : Option HO → Prop
  | some (.lst _) => True
  | some (.dK _) => True
  | some (.dT _) => True
  | some (.set _ _) => True
  | some (.ins _ _ _) => True
  | some (.ext _) => True
  | _ => False
section
variable {P : Program} {w : World} {H : Hp} {h h' : Heap} {x e : Addr} {o' : HO}
/-- the object at e is changed: x itself, or the dict of the instance x -/
theorem HOk.write (ok : HOk P w H h) (mu : Mut (H x)) (he : e = x ∨ H e = some (.own x)) (k : ∀ b u, b ≠ e → h.get? b = some u → h'.get? b = some u) (heo : ∃ u, h'.get? e = some u)
    (new : ObjOk P w (upd H x o') h' x o') : HOk P w (upd H x o') h' := fun b u q => by
  have nown : ∀ c y, H c = some (.own y) → c ≠ x := fun c y r z => by subst z; rw [r] at mu; exact mu
  have ntup : ∀ c xs, H c = some (.tup xs) → c ≠ x := fun c xs r z => by subst z; rw [r] at mu; exact mu
  by_cases hb : b = x
  · subst hb; rw [upd_same] at q; cases q; exact new
  · rw [upd_ne hb] at q
    by_cases hbe : b = e
    · have q' : H b = some (.own x) := by
        rcases he with z | z
        · exact absurd (hbe.trans z) hb
        · rw [hbe]; exact z
      rw [q] at q'; cases q'
      obtain ⟨v, hv⟩ := heo
      exact ⟨v, by rw [hbe]; exact hv⟩
    · refine (ok b u q).stay (fun c v hc r => k c v ?_ r) (fun c r => by rw [upd_ne (nown c b r)]; exact r) fun c xs r => by rw [upd_ne (ntup c xs r)]; exact r
      rcases hc with rfl | hc
      · exact hbe
      · rintro rfl
        rcases he with z | z
        · exact nown c b hc z
        · rw [hc] at z; cases z; exact hb rfl
end

/-! ### kept unless tracked; of the frames at fs (the callers') the slots may change (an exception that passes writes there); of the records at ex (iterators) nothing is said -/
structure Un (fs ex : List Addr) (H H' : Hp) (h h' : Heap) : Prop where
  keep : ∀ b o, h.get? b = some o → H b = none → b ∉ fs → b ∉ ex → h'.get? b = some o
  slot : ∀ b o, h.get? b = some o → H b = none → b ∈ fs → b ∉ ex → ∃ sl, h'.get? b = some { o with slots := sl }
  free : ∀ b o, h.get? b = some o → H b = none → b ∉ ex → H' b = none
  there : ∀ b o, h.get? b = some o → b ∉ ex → ∃ o', h'.get? b = some o'
  tups : ∀ b xs, H b = some (.tup xs) → H' b = some (.tup xs)
  frzs : ∀ b o u, H b = some (.frz o u) → H' b = some (.frz o u)
  tbls : ∀ b ps, H b = some (.tbl ps) → ∃ more, H' b = some (.tbl (ps ++ more))
  sy : H sysModules = none → H' sysModules = none
section
variable {fs fs' ex ex' : List Addr} {H H1 H2 : Hp} {h h1 h2 h' : Heap} {a x e : Addr} {o : HO}
theorem Un.any (u : Un fs ex H H1 h h1) {b : Addr} {ob : Obj} (q : h.get? b = some ob) (n : H b = none) (hx : b ∉ ex) : ∃ sl, h1.get? b = some { ob with slots := sl } := by
  by_cases hb : b ∈ fs
  · exact u.slot b ob q n hb hx
  · exact ⟨ob.slots, u.keep b ob q n hb hx⟩
theorem Un.trans (a : Un fs ex H H1 h h1) (b : Un fs ex H1 H2 h1 h2) : Un fs ex H H2 h h2 where
  keep := fun c ob q n hc hx => b.keep c ob (a.keep c ob q n hc hx) (a.free c ob q n hx) hc hx
  slot := fun c ob q n hc hx => by
    obtain ⟨sl, e1⟩ := a.slot c ob q n hc hx
    obtain ⟨sl', e2⟩ := b.slot c _ e1 (a.free c ob q n hx) hc hx
    exact ⟨sl', e2⟩
  free := fun c ob q n hx => by
    obtain ⟨o', e1⟩ := a.there c ob q hx
    exact b.free c o' e1 (a.free c ob q n hx) hx
  there := fun c ob q hx => by
    obtain ⟨o', e1⟩ := a.there c ob q hx
    exact b.there c o' e1 hx
  tups := fun c xs q => b.tups c xs (a.tups c xs q)
  frzs := fun c ob xs q => b.frzs c ob xs (a.frzs c ob xs q)
  tbls := fun c ps q => by
    obtain ⟨m1, e1⟩ := a.tbls c ps q
    obtain ⟨m2, e2⟩ := b.tbls c _ e1
    exact ⟨m1 ++ m2, by rw [e2, Array.append_assoc]⟩
  sy := fun n => b.sy (a.sy n)
theorem Un.kept (k : ∀ b u, h.get? b = some u → h'.get? b = some u) : Un fs ex H H h h' :=
  ⟨fun b ob q _ _ _ => k b ob q, fun b ob q _ _ _ => ⟨ob.slots, k b ob q⟩, fun _ _ _ n _ => n, fun b ob q _ => ⟨ob, k b ob q⟩, fun _ _ q => q, fun _ _ _ q => q, fun _ ps q => ⟨#[], by rw [q]; simp⟩, id⟩
theorem Un.refl : Un fs ex H H h h := Un.kept fun _ _ q => q
theorem Un.laid (k : ∀ b u, h.get? b = some u → h'.get? b = some u) (hp : h.objs.size ≤ a) (hn : H a = none) (hsy : sysModules ≠ a) : Un fs ex H (upd H a o) h h' where
  sy := fun n => by rw [upd_ne hsy]; exact n
  keep := fun b u q _ _ _ => k b u q
  slot := fun b u q _ _ _ => ⟨u.slots, k b u q⟩
  free := fun b u q n _ => by rw [upd_ne (Nat.ne_of_lt (Nat.lt_of_lt_of_le (Heap.lt_size q) hp))]; exact n
  there := fun b u q _ => ⟨u, k b u q⟩
  tups := fun b xs q => by rw [upd_ne (ne_of_none q hn)]; exact q
  frzs := fun b u xs q => by rw [upd_ne (ne_of_none q hn)]; exact q
  tbls := fun b ps q => ⟨#[], by rw [upd_ne (ne_of_none q hn), q]; simp⟩
theorem Un.write (mu : Mut (H x)) (he : e = x ∨ H e = some (.own x)) (k : ∀ b u, b ≠ e → h.get? b = some u → h'.get? b = some u) (heo : ∃ u, h'.get? e = some u) : Un fs ex H (upd H x o) h h' := by
  have hx : ∀ b, H b = none → b ≠ x := fun b n z => by subst z; rw [n] at mu; exact mu
  have hb : ∀ b, H b = none → b ≠ e := fun b n z => by
    subst z
    rcases he with r | r
    · exact hx b n r
    · rw [n] at r; cases r
  have hm : ∀ b u, H b = some u → ¬ Mut (some u) → b ≠ x := fun b u q nm z => by subst z; rw [q] at mu; exact nm mu
  refine ⟨fun b u q n _ _ => k b u (hb b n) q, fun b u q n _ _ => ⟨u.slots, k b u (hb b n) q⟩, fun b u q n _ => by rw [upd_ne (hx b n)]; exact n, fun b u q _ => ?_,
    fun b xs q => by rw [upd_ne (hm b _ q fun z => z)]; exact q, fun b u xs q => by rw [upd_ne (hm b _ q fun z => z)]; exact q, fun b ps q => ⟨#[], by rw [upd_ne (hm b _ q fun z => z), q]; simp⟩, fun n => by rw [upd_ne (hx _ n)]; exact n⟩
  by_cases hbe : b = e
  · subst hbe; exact heo
  · exact ⟨u, k b u hbe q⟩
theorem Un.mono (u : Un fs ex H H1 h h1) (hs : ∀ b ∈ fs, b ∈ fs') (hx : ∀ b ∈ ex, b ∈ ex') : Un fs' ex' H H1 h h1 :=
  ⟨fun b ob q n hb he => u.keep b ob q n (fun z => hb (hs b z)) fun z => he (hx b z), fun _ _ q n _ he => u.any q n fun z => he (hx _ z), fun b ob q n he => u.free b ob q n fun z => he (hx b z), fun b ob q he => u.there b ob q fun z => he (hx b z), u.tups, u.frzs, u.tbls, u.sy⟩
end

/-! ### the heap without what is tracked -/
def trk (h : Heap) (H : Hp) : List Addr := (List.range h.objs.size).filter fun a => (H a).isSome
def hidT (h : Heap) (H : Hp) : Heap := PySem.W.hideAll h (trk h H)
theorem hidT_size (h : Heap) (H : Hp) : (hidT h H).objs.size = h.objs.size := PySem.W.hideAll_size _ _
theorem hidT_get {h : Heap} {H : Hp} {b : Addr} {o : Obj} (e : h.get? b = some o) (n : H b = none) : (hidT h H).get? b = some o :=
  PySem.W.hideAll_get _ e fun hm => by
    have q : (H b).isSome = true := (List.mem_filter.mp hm).2
    rw [n] at q; simp at q
theorem of_hidT {h : Heap} {H : Hp} {b : Addr} {o : Obj} (e : (hidT h H).get? b = some o) : h.get? b = some o ∧ H b = none := by
  have e' : h.get? b = some o := PySem.W.of_hideAll (trk h H) e
  refine ⟨e', ?_⟩
  cases q : H b with
  | none => rfl
  | some x =>
    have hm : b ∈ trk h H := List.mem_filter.mpr ⟨List.mem_range.mpr (Heap.lt_size e'), by simp [q]⟩
    have z : (hidT h H).get? b = none := PySem.W.hideAll_none (trk h H) hm
    rw [z] at e; cases e

/-! ### OpenK's ledger, filled with every new object but one -/
def allNews (g h : Heap) (L : Addr) : List (Addr × Obj) := (List.range h.objs.size).filterMap fun a => if a = L ∨ (g.get? a).isSome = true then none else (h.get? a).map fun o => (a, o)
theorem mem_allNews {g h : Heap} {L a : Addr} {o : Obj} (h1 : a ≠ L) (h2 : g.get? a = none) (h3 : h.get? a = some o) : (a, o) ∈ allNews g h L :=
  List.mem_filterMap.mpr ⟨a, List.mem_range.mpr (Heap.lt_size h3), by simp [h1, h2, h3]⟩
theorem of_mem_allNews {g h : Heap} {L : Addr} {p : Addr × Obj} (hp : p ∈ allNews g h L) : p.1 ≠ L ∧ g.get? p.1 = none ∧ h.get? p.1 = some p.2 := by
  obtain ⟨b, _, e⟩ := List.mem_filterMap.mp hp
  split at e
  · cases e
  · rename_i hn
    cases q : h.get? b with
    | none => rw [q] at e; simp at e
    | some u =>
      rw [q] at e
      simp only [Option.map_some, Option.some.injEq] at e
      subst e
      refine ⟨fun z => hn (.inl z), ?_, q⟩
      show g.get? b = none
      cases r : g.get? b with
      | none => rfl
      | some v => exact (hn (.inr (by simp [r]))).elim
def rest (g h : Heap) (L d : Addr) : List (Addr × Obj) := (allNews g h L).filter fun p => decide (p.1 ≠ d)
theorem rest_ne {g h : Heap} {L d : Addr} : ∀ p ∈ rest g h L d, p.1 ≠ d := fun p hp => of_decide_eq_true (List.mem_filter.mp hp).2
theorem mem_rest {g h : Heap} {L d a : Addr} {o : Obj} (h1 : a ≠ L) (h2 : g.get? a = none) (h3 : h.get? a = some o) (h4 : a ≠ d) : (a, o) ∈ rest g h L d :=
  List.mem_filter.mpr ⟨mem_allNews h1 h2 h3, decide_eq_true h4⟩
theorem news_all {g h : Heap} {L : Addr} : News g L h (allNews g h L) := fun p hp => let ⟨a, b, c⟩ := of_mem_allNews hp; ⟨c, a, b⟩
theorem news_at {g h : Heap} {L d : Addr} {o : Obj} (h1 : d ≠ L) (h2 : g.get? d = none) (h3 : h.get? d = some o) : News g L h ((d, o) :: rest g h L d) := fun p hp => by
  rcases List.mem_cons.mp hp with rfl | hp
  · exact ⟨h3, h1, h2⟩
  · exact news_all p (List.mem_filter.mp hp).1
/-- behind a rule that changed d alone: all else but the frame is kept -/
theorem kept_of_news {g h h' : Heap} {L d : Addr} {m : Str → Option Value} (k : ∀ b o, g.get? b = some o → h.get? b = some o) (F : Fr g L h' m) (N : News g L h' (rest g h L d)) :
    ∀ b o, b ≠ L → b ≠ d → h.get? b = some o → h'.get? b = some o := fun b o h1 h2 e => by
  cases q : g.get? b with
  | some u =>
    have := k b u q
    rw [e] at this; cases this
    exact F.keep b _ q
  | none => exact (N (b, o) (mem_rest h1 q e h2)).1
end L2

namespace L2
open PySem PySem.Spec PyProof.Rows

/-- the module's facts, over the base: the heap at the law's entry without what is tracked there -/
structure Mod (K : PySem.W.Frag) (mg : Str → Option Value) (base : Heap) : Prop where
  kin : K.In base
  glob : base.Ns mainGlobals mg
  blt : ∃ mb, base.Ns builtinsNs mb ∧ ∀ x : Str, x ≠ "__name__" → mb x = bootBuiltins x
  nolimit : base.NoLimit

/-- the context: a def's body (or a comprehension's block) running. base: fixed through the whole law; s₀, H₀: the entry; outer: the frames whose slots others may change (a def's callers); stack: all frames that run;
   ex: iterators that were made ahead of the entry and are walked here (a comprehension's); fn: the names whose cells were made at the entry (a def: all; a comprehension's block: its own); calm: not within an except suite; pn: pins that every state bears; xe: what is wanted of an exception that leaves the code -/
structure Cx where
  prog : Program
  w : World
  K : PySem.W.Frag
  mg : Str → Option Value
  base : Heap
  A : Around
  N : List Str
  s₀ : Shared
  H₀ : Hp
  env : Env
  outer : List Env
  stack : List Env
  ex : List Addr
  fn : Str → Bool
  calm : Bool
  pn : List (Addr × Obj)
  xe : Value → Shared → Prop
/-- the callers' frames -/
def frs (l : List Env) : List Addr := l.filterMap (·.frame)
abbrev Cx.fs (X : Cx) : List Addr := frs X.outer

def Vis (sc : Scope) (x : Str) : Prop := sc.names.lookup x = some .local ∨ sc.names.lookup x = some .cell ∨ sc.names.lookup x = some .free
def Loc (sc : Scope) (x : Str) : Prop := sc.names.lookup x = some .local ∨ sc.names.lookup x = some .cell
def Look (env : Env) (h : Heap) (m : Str → Option Value) (x : Str) (u : Value) : Prop :=
  (env.kindOf x = some .local ∧ m x = some u) ∨ ((env.kindOf x = some .cell ∨ env.kindOf x = some .free) ∧ ∃ c, env.cells.lookup x = some c ∧ h.IsCell c (some u))

structure Cx.Ok (X : Cx) : Prop where
  mod : Mod X.K X.mg X.base
  kind : X.env.scope.kind = .function
  glob : X.env.globals = mainGlobals
  blt : X.env.builtins = builtinsNs
  above : X.s₀.heap.objs.size ≤ X.env.locals
  inj : ∀ x y c, X.env.cells.lookup x = some c → X.env.cells.lookup y = some c → x = y
  has : ∀ x, (X.env.kindOf x = some .cell ∨ X.env.kindOf x = some .free) → ∃ c, X.env.cells.lookup x = some c
  cab : ∀ x c, X.fn x = true → X.env.cells.lookup x = some c → X.s₀.heap.objs.size ≤ c
  hd : X.calm = true → X.A.handled = none
  frames : X.A.frames = some X.stack
  stk : X.stack = X.outer ∨ (X.stack = X.env :: X.outer ∧ X.env.frame = some X.env.locals)
  exf : ∀ b ∈ X.ex, b ≠ X.env.locals ∧ ∀ x c, X.env.cells.lookup x = some c → c ≠ b
  bs : ∀ b o, X.base.get? b = some o → X.s₀.heap.get? b = some o ∧ X.H₀ b = none
  bsz : X.base.objs.size ≤ X.s₀.heap.objs.size
  noex : ∀ b o, X.base.get? b = some o → b ∉ X.ex
  exfs : ∀ b ∈ X.ex, b ∉ X.fs
  funs : X.s₀.heap.FunFrames X.base X.outer
  frf : ∀ b ∈ X.fs, X.H₀ b = none
  sy : X.H₀ sysModules = none

structure Inv (X : Cx) (pins : List (Addr × Obj)) (σ : List (Option V)) (H : Hp) (s : Shared) : Prop where
  ok : X.Ok
  os : s.os = X.s₀.os
  bare : AllBare s.gens
  base : Un X.fs X.ex X.H₀ H X.s₀.heap s.heap
  loc : ∃ m, s.heap.Ns X.env.locals m ∧ ∀ (i : Nat) (x : Str) (v : V), X.N[i]? = some x → σ[i]? = some (some v) → Vis X.env.scope x → ∃ u, RelV v u ∧ Look X.env s.heap m x u
  cell : ∀ x c, X.env.cells.lookup x = some c → ∃ v, s.heap.IsCell c v
  free : H X.env.locals = none
  freeC : ∀ x c, X.env.cells.lookup x = some c → H c = none
  pin : ∀ p ∈ X.pn ++ pins, s.heap.get? p.1 = some p.2 ∧ H p.1 = none ∧ p.1 ≠ X.env.locals ∧ p.1 ∉ X.fs ∧ ∀ v, p.2.data ≠ .cell v
  hok : HOk X.prog X.w H s.heap
  len : σ.length = X.N.length

section
variable {X : Cx} {pins : List (Addr × Obj)} {σ : List (Option V)} {H H' : Hp} {s : Shared} {h' : Heap}

theorem Cx.Ok.nofr (ok : X.Ok) {b : Addr} {o : Obj} (e : X.base.get? b = some o) : b ∉ X.fs := fun hb => by
  have := (ok.funs.mem hb).1
  rw [e] at this; cases this
theorem Inv.bs (I : Inv X pins σ H s) : ∀ b o, X.base.get? b = some o → s.heap.get? b = some o ∧ H b = none := fun b o e =>
  ⟨I.base.keep b o (I.ok.bs b o e).1 (I.ok.bs b o e).2 (I.ok.nofr e) (I.ok.noex b o e), I.base.free b o (I.ok.bs b o e).1 (I.ok.bs b o e).2 (I.ok.noex b o e)⟩
theorem Inv.bk (I : Inv X pins σ H s) : ∀ b o, X.base.get? b = some o → s.heap.get? b = some o := fun b o e => (I.bs b o e).1
theorem Inv.mod (I : Inv X pins σ H s) : Mod X.K X.mg X.base := I.ok.mod
theorem Inv.kIn (I : Inv X pins σ H s) : X.K.In s.heap := I.ok.mod.kin.keeps I.bk
theorem Inv.nolimit (I : Inv X pins σ H s) : s.heap.NoLimit := I.ok.mod.nolimit.keeps I.bk
/-- the frame over the base: for OpenK's rules (K.In X.base is I.mod.kin) -/
theorem Inv.fr (I : Inv X pins σ H s) : ∃ m, Fr X.base X.env.locals s.heap m :=
  let ⟨m, hn, _⟩ := I.loc
  ⟨m, hn, I.bk, Nat.le_trans I.ok.bsz I.ok.above⟩
theorem Inv.lt (I : Inv X pins σ H s) : X.env.locals < s.heap.objs.size := let ⟨_, hn, _⟩ := I.loc; hn.lt
theorem Inv.sz (I : Inv X pins σ H s) : X.s₀.heap.objs.size ≤ s.heap.objs.size := Nat.le_trans I.ok.above (Nat.le_of_lt I.lt)
theorem Inv.nofs (I : Inv X pins σ H s) {a : Addr} (h : s.heap.objs.size ≤ a) : a ∉ X.fs := fun hb => by
  obtain ⟨_, o, ho, _⟩ := I.ok.funs.mem hb
  exact absurd (Nat.lt_of_lt_of_le (Heap.lt_size ho) (Nat.le_trans I.sz h)) (Nat.lt_irrefl _)
theorem Inv.cne (I : Inv X pins σ H s) : ∀ x c, X.env.cells.lookup x = some c → c ≠ X.env.locals := fun x c e z => by
  obtain ⟨v, o, ho, hd⟩ := I.cell x c e
  obtain ⟨m, ⟨o', es, ep, ho', hd', _⟩, _⟩ := I.loc
  rw [z, ho'] at ho; cases ho; rw [hd'] at hd; cases hd
theorem Inv.funs (I : Inv X pins σ H s) : s.heap.FunFrames X.base X.outer := by
  have all : ∀ (l : List Env), (∀ b ∈ frs l, b ∈ X.fs) → X.s₀.heap.FunFrames X.base l → s.heap.FunFrames X.base l := by
    intro l
    induction l with
    | nil => intro _ _; trivial
    | cons env r ih =>
      intro hs hl
      obtain ⟨hk, ⟨L, o, hf, hn, ho, hd⟩, hr⟩ := hl
      have hL : L ∈ X.fs := hs L (by unfold frs; rw [List.filterMap_cons, hf]; exact List.mem_cons_self)
      obtain ⟨sl, e⟩ := I.base.slot L o ho (I.ok.frf L hL) hL fun z => I.ok.exfs L z hL
      exact ⟨hk, ⟨L, _, hf, hn, e, hd⟩, ih (fun b hb => hs b (by unfold frs; rw [List.filterMap_cons, hf]; exact List.mem_cons_of_mem _ hb)) hr⟩
  exact all X.outer (fun _ hb => hb) I.ok.funs

/-- the frames that run, for a call -/
theorem Inv.stack (I : Inv X pins σ H s) : s.heap.FunFrames X.base X.stack := by
  rcases I.ok.stk with e | ⟨e, hf⟩
  · rw [e]; exact I.funs
  · rw [e]
    obtain ⟨m, hn, _⟩ := I.loc
    refine .cons (by rw [I.ok.kind]; decide) hf hn ?_ I.funs
    exact Heap.get?_none_of_le (Nat.le_trans I.ok.bsz I.ok.above)
theorem Inv.stkSub (I : Inv X pins σ H s) : ∀ b ∈ frs X.stack, b ∈ X.env.locals :: X.fs := fun b hb => by
  rcases I.ok.stk with e | ⟨e, hf⟩
  · rw [e] at hb; exact List.mem_cons_of_mem _ hb
  · rw [e] at hb
    unfold frs at hb
    rw [List.filterMap_cons, hf] at hb
    exact hb
theorem Inv.stkFree (I : Inv X pins σ H s) : ∀ b ∈ frs X.stack, H b = none := fun b hb => by
  rcases List.mem_cons.mp (I.stkSub b hb) with e | hb
  · rw [e]; exact I.free
  · obtain ⟨_, o, ho, _⟩ := I.ok.funs.mem hb
    exact I.base.free b o ho (I.ok.frf b hb) fun z => I.ok.exfs b z hb

/-- THE STEP: the untracked objects but the frame and the records at ch are kept (the callers' frames up to slots), the frame's map is kept, the new abstract heap is held -/
theorem Inv.bigS (I : Inv X pins σ H s) : sysModules < s.heap.objs.size := by
  obtain ⟨o, _, _, e, _⟩ := I.ok.mod.glob
  exact Nat.lt_trans (by decide : (1 : Nat) < 3) (Heap.lt_size (I.bk _ _ e))
theorem Inv.sysN (I : Inv X pins σ H s) : H sysModules = none := I.base.sy I.ok.sy
theorem Inv.step {g' : Array GenState} {t' : Nat} {d' : Drawn} {ch : List Addr} (I : Inv X pins σ H s)
    (hch : ∀ b ∈ ch, (b ∈ X.ex ∨ X.s₀.heap.objs.size ≤ b) ∧ b ≠ X.env.locals ∧ (∀ x c, X.env.cells.lookup x = some c → c ≠ b) ∧ ∀ p ∈ X.pn ++ pins, p.1 ≠ b)
    (keep : ∀ b o, b ≠ X.env.locals → b ∉ X.fs → b ∉ ch → s.heap.get? b = some o → H b = none → h'.get? b = some o)
    (slot : ∀ b o, b ≠ X.env.locals → b ∈ X.fs → b ∉ ch → s.heap.get? b = some o → H b = none → ∃ sl, h'.get? b = some { o with slots := sl }) (free : ∀ b o, b ∉ ch → s.heap.get? b = some o → H b = none → H' b = none)
    (there : ∀ b o, b ∉ ch → s.heap.get? b = some o → ∃ o', h'.get? b = some o')
    (tups : ∀ b xs, H b = some (.tup xs) → H' b = some (.tup xs)) (frzs : ∀ b o u, H b = some (.frz o u) → H' b = some (.frz o u)) (tbls : ∀ b ps, H b = some (.tbl ps) → ∃ more, H' b = some (.tbl (ps ++ more)))
    (ns : ∀ m, s.heap.Ns X.env.locals m → h'.Ns X.env.locals m) (hok : HOk X.prog X.w H' h') (hg : AllBare g') (sy : H sysModules = none → H' sysModules = none) :
    Inv X pins σ H' { s with heap := h', gens := g', drawn := d', toks := t' } := by
  have neL : ∀ b o, X.s₀.heap.get? b = some o → b ≠ X.env.locals := fun b o e => Nat.ne_of_lt (Nat.lt_of_lt_of_le (Heap.lt_size e) I.ok.above)
  have neC : ∀ b o, X.s₀.heap.get? b = some o → b ∉ X.ex → b ∉ ch := fun b o e hx hb => by
    rcases (hch b hb).1 with z | z
    · exact hx z
    · exact absurd (Nat.lt_of_lt_of_le (Heap.lt_size e) z) (Nat.lt_irrefl _)
  have cellK : ∀ x c, X.env.cells.lookup x = some c → ∀ v, s.heap.IsCell c v → h'.IsCell c v := fun x c e v ⟨o, ho, hd⟩ => by
    have nch : c ∉ ch := fun z => (hch c z).2.2.1 x c e rfl
    by_cases hc : c ∈ X.fs
    · obtain ⟨sl, q⟩ := slot c o (I.cne x c e) hc nch ho (I.freeC x c e)
      exact ⟨_, q, hd⟩
    · exact ⟨o, keep c o (I.cne x c e) hc nch ho (I.freeC x c e), hd⟩
  refine ⟨I.ok, I.os, hg, ⟨fun b o e n hb hx => ?_, fun b o e n hb hx => ?_, fun b o e n hx => ?_, fun b o e hx => ?_, fun b xs e => tups b xs (I.base.tups b xs e), fun b o xs e => frzs b o xs (I.base.frzs b o xs e), fun b ps e => ?_, fun n => sy (I.base.sy n)⟩, ?_, fun x c e => ?_, ?_, fun x c e => ?_, fun p hp => ?_, hok, I.len⟩
  · exact keep b o (neL b o e) hb (neC b o e hx) (I.base.keep b o e n hb hx) (I.base.free b o e n hx)
  · obtain ⟨sl, e1⟩ := I.base.slot b o e n hb hx
    obtain ⟨sl', e2⟩ := slot b _ (neL b o e) hb (neC b o e hx) e1 (I.base.free b o e n hx)
    exact ⟨sl', e2⟩
  · obtain ⟨o', e1⟩ := I.base.there b o e hx
    exact free b o' (neC b o e hx) e1 (I.base.free b o e n hx)
  · obtain ⟨o', e1⟩ := I.base.there b o e hx
    exact there b o' (neC b o e hx) e1
  · obtain ⟨m1, e1⟩ := I.base.tbls b ps e
    obtain ⟨m2, e2⟩ := tbls b _ e1
    exact ⟨m1 ++ m2, by rw [e2, Array.append_assoc]⟩
  · obtain ⟨m, hn, hl⟩ := I.loc
    refine ⟨m, ns m hn, fun i x v e1 e2 e3 => ?_⟩
    obtain ⟨u, r, l⟩ := hl i x v e1 e2 e3
    refine ⟨u, r, ?_⟩
    rcases l with l | ⟨k, c, e, z⟩
    · exact .inl l
    · exact .inr ⟨k, c, e, cellK x c e _ z⟩
  · obtain ⟨v, z⟩ := I.cell x c e
    exact ⟨v, cellK x c e v z⟩
  · obtain ⟨m, ⟨o, _, _, ho, _⟩, _⟩ := I.loc
    exact free _ o (fun z => (hch _ z).2.1 rfl) ho I.free
  · obtain ⟨v, o, ho, hd⟩ := I.cell x c e
    exact free c o (fun z => (hch c z).2.2.1 x c e rfl) ho (I.freeC x c e)
  · obtain ⟨e, n, ne, nf, d⟩ := I.pin p hp
    have nch : p.1 ∉ ch := fun z => (hch p.1 z).2.2.2 p hp rfl
    exact ⟨keep p.1 p.2 ne nf nch e n, free p.1 p.2 nch e n, ne, nf, d⟩
/-- .. where the frame's own object is kept too -/
theorem Inv.un {t' : Nat} (I : Inv X pins σ H s) (u : Un X.fs [] H H' s.heap h') (hok : HOk X.prog X.w H' h') : Inv X pins σ H' { s with heap := h', toks := t' } := by
  obtain ⟨m, ⟨o, es, ep, ho, r⟩, _⟩ := id I.loc
  obtain ⟨sl, hL⟩ := u.any ho I.free (by simp)
  exact I.step (g' := s.gens) (d' := s.drawn) (ch := []) (fun _ z => nomatch z) (fun b o _ hb _ e n => u.keep b o e n hb (by simp)) (fun b o _ hb _ e n => u.slot b o e n hb (by simp)) (fun b o _ e n => u.free b o e n (by simp)) (fun b o _ e => u.there b o e (by simp)) u.tups u.frzs u.tbls (fun m' hm => by
    obtain ⟨o', es', ep', ho', r'⟩ := hm
    rw [ho] at ho'; cases ho'
    exact ⟨_, es', ep', hL, r'⟩) hok I.bare u.sy
/-- behind a call (or a comprehension's block): the slots of this frame may have changed too, the records at ch may have turned -/
theorem Inv.call {g' : Array GenState} {t' : Nat} {d' : Drawn} {ch : List Addr} (I : Inv X pins σ H s) (u : Un (frs X.stack) ch H H' s.heap h') (hok : HOk X.prog X.w H' h') (hg : AllBare g')
    (hch : ∀ b ∈ ch, (b ∈ X.ex ∨ X.s₀.heap.objs.size ≤ b) ∧ b ≠ X.env.locals ∧ (∀ x c, X.env.cells.lookup x = some c → c ≠ b) ∧ ∀ p ∈ X.pn ++ pins, p.1 ≠ b) :
    Inv X pins σ H' { s with heap := h', gens := g', drawn := d', toks := t' } := by
  obtain ⟨m, ⟨o, es, ep, ho, r⟩, _⟩ := id I.loc
  obtain ⟨sl, hL⟩ := u.any ho I.free fun z => (hch _ z).2.1 rfl
  exact I.step (ch := ch) hch (fun b o hL hb hc e n => u.keep b o e n (fun z => (List.mem_cons.mp (I.stkSub b z)).elim hL hb) hc) (fun b o _ _ hc e n => u.any e n hc) (fun b o hc e n => u.free b o e n hc) (fun b o hc e => u.there b o e hc) u.tups u.frzs u.tbls (fun m' hm => by
    obtain ⟨o', es', ep', ho', r'⟩ := hm
    rw [ho] at ho'; cases ho'
    exact ⟨_, es', ep', hL, r'⟩) hok hg u.sy
/-- an untracked record of ours (an iterator) has turned -/
theorem Inv.turned {t' : Nat} {it : Addr} (I : Inv X pins σ H s) (k : ∀ b o, b ≠ it → s.heap.get? b = some o → h'.get? b = some o) (hn : H it = none) (hL : it ≠ X.env.locals)
    (h1 : it ∈ X.ex ∨ X.s₀.heap.objs.size ≤ it) (h2 : ∀ x c, X.env.cells.lookup x = some c → c ≠ it) (h3 : ∀ p ∈ X.pn ++ pins, p.1 ≠ it) : Inv X pins σ H { s with heap := h', toks := t' } := by
  have nit : ∀ b u, H b = some u → b ≠ it := fun b u e z => by rw [z, hn] at e; cases e
  refine I.step (g' := s.gens) (d' := s.drawn) (ch := [it]) (fun b hb => ?_) (fun b o _ _ hc e _ => k b o (fun z => hc (by simp [z])) e) (fun b o _ _ hc e _ => ⟨o.slots, k b o (fun z => hc (by simp [z])) e⟩) (fun _ _ _ _ n => n)
    (fun b o hc e => ⟨o, k b o (fun z => hc (by simp [z])) e⟩) (fun _ _ e => e) (fun _ _ _ e => e) (fun b ps e => ⟨#[], by rw [e]; simp⟩) (fun m hm => ?_) (fun b u e => ?_) I.bare id
  · have e : b = it := by simpa using hb
    subst e
    exact ⟨h1, hL, h2, h3⟩
  · obtain ⟨o, es, ep, ho, r⟩ := hm
    exact ⟨o, es, ep, k _ o (Ne.symm hL) ho, r⟩
  · refine (I.hok b u e).stay (fun c v hc q => k c v ?_ q) (fun _ q => q) fun _ _ q => q
    rcases hc with z | z
    · rw [z]; exact nit b u e
    · exact nit c _ z
theorem Inv.tok (I : Inv X pins σ H s) (t : Nat) : Inv X pins σ H { s with toks := t } := I.un (h' := s.heap) (t' := t) Un.refl I.hok
/-- all objects kept -/
theorem Inv.kept {t' : Nat} (I : Inv X pins σ H s) (k : ∀ b u, s.heap.get? b = some u → h'.get? b = some u) : Inv X pins σ H { s with heap := h', toks := t' } := I.un (Un.kept k) (I.hok.kept k)
/-- a new object laid and tracked -/
theorem Inv.laid {a : Addr} {o : HO} {t' : Nat} (I : Inv X pins σ H s) (k : ∀ b u, s.heap.get? b = some u → h'.get? b = some u) (hp : s.heap.objs.size ≤ a) (new : ObjOk X.prog X.w (upd H a o) h' a o) :
    Inv X pins σ (upd H a o) { s with heap := h', toks := t' } := I.un (Un.laid k hp (I.hok.fresh hp) (Nat.ne_of_lt (Nat.lt_of_lt_of_le I.bigS hp))) (I.hok.laid k hp new)
/-- an object written -/
theorem Inv.write {x e : Addr} {o : HO} {t' : Nat} (I : Inv X pins σ H s) (mu : Mut (H x)) (he : e = x ∨ H e = some (.own x)) (k : ∀ b u, b ≠ e → s.heap.get? b = some u → h'.get? b = some u) (heo : ∃ u, h'.get? e = some u)
    (new : ObjOk X.prog X.w (upd H x o) h' x o) : Inv X pins σ (upd H x o) { s with heap := h', toks := t' } := I.un (Un.write mu he k heo) (I.hok.write mu he k heo new)
/-- forgetting slots, pins -/
theorem Inv.weak {σ' : List (Option V)} (I : Inv X pins σ H s) (hl : σ'.length = σ.length) (w : ∀ (i : Nat) v, σ'[i]? = some (some v) → σ[i]? = some (some v)) : Inv X pins σ' H s :=
  ⟨I.ok, I.os, I.bare, I.base, let ⟨m, hn, hl'⟩ := I.loc; ⟨m, hn, fun i x v e1 e2 e3 => hl' i x v e1 (w i v e2) e3⟩, I.cell, I.free, I.freeC, I.pin, I.hok, hl.trans I.len⟩
theorem Inv.pins_of {pins' : List (Addr × Obj)} (I : Inv X pins σ H s) (h : ∀ p ∈ pins', s.heap.get? p.1 = some p.2 ∧ H p.1 = none ∧ p.1 ≠ X.env.locals ∧ p.1 ∉ X.fs ∧ ∀ v, p.2.data ≠ .cell v) : Inv X pins' σ H s :=
  ⟨I.ok, I.os, I.bare, I.base, I.loc, I.cell, I.free, I.freeC, fun p hp => (List.mem_append.mp hp).elim (fun z => I.pin p (List.mem_append_left _ z)) (h p), I.hok, I.len⟩

theorem nodup_ix {N : List Str} (hN : N.Nodup) {i j : Nat} {x : Str} (a : N[i]? = some x) (b : N[j]? = some x) : i = j := by
  obtain ⟨h1, e1⟩ := List.getElem?_eq_some_iff.mp a
  obtain ⟨h2, e2⟩ := List.getElem?_eq_some_iff.mp b
  exact (List.getElem_inj hN).mp (e1.trans e2.symm)

/-- a name is stored; what changed -/
theorem store_ok2 {M : Model} {A : Around} {E : Value → Shared → Prop} {i : Nat} {x : Str} {v : V} {u : Value} {Q : Unit → Shared → Prop} (I : Inv X pins σ H s) (hN : X.N.Nodup) (hi : X.N[i]? = some x) (hx : Loc X.env.scope x) (r : RelV v u)
    (h : ∀ s', Inv X pins (σ.set i (some v)) H s' → (∃ a, Heap.SameBut a s.heap s'.heap ∧ (a = X.env.locals ∨ X.env.cells.lookup x = some a)) → Q () s') (hf : X.fn x = true ∨ X.env.scope.names.lookup x = some .local := by first | exact .inl rfl | exact .inr rfl | assumption) : wpAny M A (storeName X.env x u) Q E s := by
  obtain ⟨m, hn, hl⟩ := id I.loc
  have hcls : (X.env.scope.kind == .class || (X.env.scope.kind == .module && X.env.locals != X.env.globals)) = false := by rw [I.ok.kind]; rfl
  have hiσ : i < σ.length := by rw [I.len]; exact (List.getElem?_eq_some_iff.mp hi).1
  have cne := I.cne
  have tracked : ∀ {a : Addr} {h' : Heap}, (∃ o, s.heap.get? a = some o ∧ H a = none) → Heap.SameBut a s.heap h' → HOk X.prog X.w H h' := fun {a h'} ha hs b ob e => by
    obtain ⟨_, _, hfree⟩ := ha
    refine (I.hok b ob e).stay (fun c w' hc q => (hs.2 c ?_).trans q) (fun _ q => q) fun _ _ q => q
    rintro rfl
    rcases hc with rfl | hc
    · rw [hfree] at e; cases e
    · rw [hfree] at hc; cases hc
  rcases hx with hk | hk
  · refine wpAny_storeName_local hk hn (fun h' hn' hs => ?_) hcls
    obtain ⟨oL, _, _, hoL, _⟩ := id hn
    refine h _ ⟨I.ok, I.os, I.bare, ⟨fun b o e n hb hx => ?_, fun b o e n hb hx => ?_, I.base.free, fun b o e hx => ?_, I.base.tups, I.base.frzs, I.base.tbls, I.base.sy⟩, ⟨_, hn', fun j y v' e1 e2 e3 => ?_⟩, fun y c e => ?_, I.free, I.freeC, fun p hp => ?_, tracked ⟨oL, hoL, I.free⟩ hs, by simpa using I.len⟩ ⟨_, hs, .inl rfl⟩
    · exact (hs.2 b (Nat.ne_of_lt (Nat.lt_of_lt_of_le (Heap.lt_size e) I.ok.above))).trans (I.base.keep b o e n hb hx)
    · obtain ⟨sl, e1⟩ := I.base.slot b o e n hb hx
      exact ⟨sl, (hs.2 b (Nat.ne_of_lt (Nat.lt_of_lt_of_le (Heap.lt_size e) I.ok.above))).trans e1⟩
    · obtain ⟨o', e1⟩ := I.base.there b o e hx
      exact ⟨o', (hs.2 b (Nat.ne_of_lt (Nat.lt_of_lt_of_le (Heap.lt_size e) I.ok.above))).trans e1⟩
    · by_cases hj : j = i
      · subst hj
        rw [hi] at e1; cases e1
        rw [List.getElem?_set_self hiσ] at e2
        cases e2
        exact ⟨u, r, .inl ⟨hk, by simp⟩⟩
      · rw [List.getElem?_set_ne (Ne.symm hj)] at e2
        obtain ⟨u', r', q⟩ := hl j y v' e1 e2 e3
        refine ⟨u', r', ?_⟩
        rcases q with ⟨k, e⟩ | ⟨k, c, e, z⟩
        · refine .inl ⟨k, ?_⟩
          have : y ≠ x := fun e => hj (nodup_ix hN e1 (e ▸ hi))
          simp [this, e]
        · exact .inr ⟨k, c, e, z.sameBut hs (cne y c e)⟩
    · obtain ⟨w', z⟩ := I.cell y c e
      exact ⟨w', z.sameBut hs (cne y c e)⟩
    · obtain ⟨e, n, ne, nf, d⟩ := I.pin p hp
      exact ⟨(hs.2 p.1 ne).trans e, n, ne, nf, d⟩
  · have hfn : X.fn x = true := by
      rcases hf with z | z
      · exact z
      · rw [z] at hk; cases hk
    obtain ⟨c, hc⟩ := I.ok.has x (.inl hk)
    obtain ⟨w', z⟩ := I.cell x c hc
    refine wpAny_storeName_cell I.ok.kind hk hc z (fun h' hc' hs => ?_)
    obtain ⟨oc, hoc, hocd⟩ := id z
    refine h { s with heap := h' } ⟨I.ok, I.os, I.bare, ⟨fun b o e n hb hx => ?_, fun b o e n hb hx => ?_, I.base.free, fun b o e hx => ?_, I.base.tups, I.base.frzs, I.base.tbls, I.base.sy⟩, ⟨m, hn.sameBut hs (Ne.symm (cne x c hc)), fun j y v' e1 e2 e3 => ?_⟩, fun y c' e => ?_, I.free, I.freeC, fun p hp => ?_, tracked ⟨oc, hoc, I.freeC x c hc⟩ hs, by simpa using I.len⟩ ⟨c, hs, .inr hc⟩
    · exact (hs.2 b (Nat.ne_of_lt (Nat.lt_of_lt_of_le (Heap.lt_size e) (I.ok.cab x c hfn hc)))).trans (I.base.keep b o e n hb hx)
    · obtain ⟨sl, e1⟩ := I.base.slot b o e n hb hx
      exact ⟨sl, (hs.2 b (Nat.ne_of_lt (Nat.lt_of_lt_of_le (Heap.lt_size e) (I.ok.cab x c hfn hc)))).trans e1⟩
    · obtain ⟨o', e1⟩ := I.base.there b o e hx
      exact ⟨o', (hs.2 b (Nat.ne_of_lt (Nat.lt_of_lt_of_le (Heap.lt_size e) (I.ok.cab x c hfn hc)))).trans e1⟩
    · by_cases hj : j = i
      · subst hj
        rw [hi] at e1; cases e1
        rw [List.getElem?_set_self hiσ] at e2
        cases e2
        exact ⟨u, r, .inr ⟨.inl hk, c, hc, hc'⟩⟩
      · rw [List.getElem?_set_ne (Ne.symm hj)] at e2
        obtain ⟨u', r', q⟩ := hl j y v' e1 e2 e3
        refine ⟨u', r', ?_⟩
        rcases q with q | ⟨k, c', e, z'⟩
        · exact .inl q
        · refine .inr ⟨k, c', e, z'.sameBut hs ?_⟩
          rintro rfl
          exact hj (nodup_ix hN e1 (I.ok.inj _ _ _ e hc ▸ hi))
    · by_cases hcc : c' = c
      · subst hcc; exact ⟨_, hc'⟩
      · obtain ⟨w2, z2⟩ := I.cell y c' e
        exact ⟨w2, z2.sameBut hs hcc⟩
    · obtain ⟨e, n, ne, nf, d⟩ := I.pin p hp
      refine ⟨(hs.2 p.1 ?_).trans e, n, ne, nf, d⟩
      intro q
      rw [q, hoc] at e
      have q' : oc = p.2 := Option.some.inj e
      exact d w' (by rw [← q']; exact hocd)
theorem store_ok {M : Model} {A : Around} {E : Value → Shared → Prop} {i : Nat} {x : Str} {v : V} {u : Value} {Q : Unit → Shared → Prop} (I : Inv X pins σ H s) (hN : X.N.Nodup) (hi : X.N[i]? = some x) (hx : Loc X.env.scope x) (r : RelV v u)
    (h : ∀ s', Inv X pins (σ.set i (some v)) H s' → Q () s') (hf : X.fn x = true ∨ X.env.scope.names.lookup x = some .local := by first | exact .inl rfl | exact .inr rfl | assumption) : wpAny M A (storeName X.env x u) Q E s :=
  store_ok2 I hN hi hx r (fun s' I' _ => h s' I') hf
/-- behind a call or a block, the state as it is -/
theorem Inv.call' {s' : Shared} {ch : List Addr} (I : Inv X pins σ H s) (ho : s'.os = s.os) (u : Un (frs X.stack) ch H H' s.heap s'.heap) (hok : HOk X.prog X.w H' s'.heap) (hg : AllBare s'.gens)
    (hch : ∀ b ∈ ch, (b ∈ X.ex ∨ X.s₀.heap.objs.size ≤ b) ∧ b ≠ X.env.locals ∧ (∀ x c, X.env.cells.lookup x = some c → c ≠ b) ∧ ∀ p ∈ X.pn ++ pins, p.1 ≠ b) : Inv X pins σ H' s' := by
  obtain ⟨h', g', d', t', o'⟩ := s'
  have e : o' = s.os := ho
  subst e
  exact I.call (g' := g') (t' := t') (d' := d') u hok hg hch
end

/-! ### the judgements -/
/-- an exception: its class, its own dict's address (where it has one), the abstract heap behind it -/
abbrev XK := Value → Option Addr → Hp → Prop
abbrev St := List (Option V)
abbrev VK := V → Hp → Prop
/-- an expression's reading; a test's; an argument list's -/
abbrev TE := St → Hp → VK → Prop
abbrev TT := St → Hp → (Bool → Hp → Prop) → Prop
abbrev TA := St → Hp → (List V → Hp → Prop) → Prop
/-- what is wanted behind a statement -/
structure Ends where
  nx : St → Hp → Prop
  rt : VK
  bk : St → Hp → Prop := fun _ _ => False
  ct : St → Hp → Prop := fun _ _ => False
abbrev TS := Ends → St → Hp → Prop

def EP (X : Cx) (pins : List (Addr × Obj)) (σ : St) (Q : VK) (u : Value) (s' : Shared) : Prop := ∃ v H', Inv X pins σ H' s' ∧ RelV v u ∧ Q v H'
def TP (X : Cx) (pins : List (Addr × Obj)) (σ : St) (Q : Bool → Hp → Prop) (b : Bool) (s' : Shared) : Prop := ∃ H', Inv X pins σ H' s' ∧ Q b H'
def AP (X : Cx) (pins : List (Addr × Obj)) (σ : St) (Q : List V → Hp → Prop) (us : List Value) (s' : Shared) : Prop := ∃ vs H', Inv X pins σ H' s' ∧ Vals vs us ∧ Q vs H'
def SP (X : Cx) (pins : List (Addr × Obj)) (D : Ends) (f : Flow) (s' : Shared) : Prop :=
  match f with
  | .next => ∃ σ' H', Inv X pins σ' H' s' ∧ D.nx σ' H'
  | .brk => ∃ σ' H', Inv X pins σ' H' s' ∧ D.bk σ' H'
  | .cont => ∃ σ' H', Inv X pins σ' H' s' ∧ D.ct σ' H'
  | .ret u => ∃ v σ' H', Inv X pins σ' H' s' ∧ RelV v u ∧ D.rt v H'

def PE (X : Cx) (e : Expr) (t : TE) : Prop :=
  ∀ (pins : List (Addr × Obj)) (s : Shared) (σ : St) (H : Hp) (Q : VK), Inv X pins σ H s → t σ H Q → wpAny (model X.prog X.w) X.A (eval e X.env) (EP X pins σ Q) X.xe s
def PT (X : Cx) (e : Expr) (t : TT) : Prop :=
  ∀ (pins : List (Addr × Obj)) (s : Shared) (σ : St) (H : Hp) (Q : Bool → Hp → Prop), Inv X pins σ H s → t σ H Q → wpAny (model X.prog X.w) X.A (isTrue e X.env (eval e X.env)) (TP X pins σ Q) X.xe s
/-- a test whatever its 'whole' is (and, or) -/
def PW (X : Cx) (e : Expr) (t : TT) : Prop :=
  ∀ (whole : Sem Value) (pins : List (Addr × Obj)) (s : Shared) (σ : St) (H : Hp) (Q : Bool → Hp → Prop), Inv X pins σ H s → t σ H Q → wpAny (model X.prog X.w) X.A (isTrue e X.env whole) (TP X pins σ Q) X.xe s
theorem PW.pt {X : Cx} {e : Expr} {t : TT} (h : PW X e t) : PT X e t := h _
/-- an argument list (no star), from the left -/
def PA (X : Cx) (es : List Expr) (t : TA) : Prop :=
  ∀ (pos : Pos) (pins : List (Addr × Obj)) (s : Shared) (σ : St) (H : Hp) (Q : List V → Hp → Prop), Inv X pins σ H s → t σ H Q → wpAny (model X.prog X.w) X.A (spliced (backTo pos (starEach es X.env))) (AP X pins σ Q) X.xe s
def PS (X : Cx) (st : Stmt) (t : TS) : Prop :=
  ∀ (pins : List (Addr × Obj)) (s : Shared) (σ : St) (H : Hp) (D : Ends), Inv X pins σ H s → t D σ H → wpAny (model X.prog X.w) X.A (exec st X.env) (SP X pins D) X.xe s
def PSs (X : Cx) (st : List Stmt) (t : TS) : Prop :=
  ∀ (pins : List (Addr × Obj)) (s : Shared) (σ : St) (H : Hp) (D : Ends), Inv X pins σ H s → t D σ H → wpAny (model X.prog X.w) X.A (execs st X.env) (SP X pins D) X.xe s
/-- weaken the end -/
theorem thn {α : Type} {t : Sem α} {Q Q' : α → Shared → Prop} {M : Model} {A : Around} {E : Value → Shared → Prop} {s : Shared} (h : wpAny M A t Q E s) (hQ : ∀ a s, Q a s → Q' a s) : wpAny M A t Q' E s := wpAny_mono h hQ fun _ _ x => x
end L2

namespace L2
open PySem PySem.Spec PyProof.Rows
section
variable {X : Cx}

/-- two expressions in a row -/
theorem bin {a b : Expr} {ta tb : TE} (ha : PE X a ta) (hb : PE X b tb) {pins : List (Addr × Obj)} {s : Shared} {σ : St} {H : Hp} {R : V → V → Hp → Prop} (I : Inv X pins σ H s) (h : ta σ H fun x H1 => tb σ H1 fun y H2 => R x y H2)
    {α : Type} {Q : α → Shared → Prop} {f : Value → Value → Sem α}
    (hf : ∀ v u s2 x y H2, Inv X pins σ H2 s2 → RelV x v → RelV y u → R x y H2 → wpAny (model X.prog X.w) X.A (f v u) Q X.xe s2) :
    wpAny (model X.prog X.w) X.A (eval a X.env) (fun v s₁ => wpAny (model X.prog X.w) X.A (eval b X.env) (fun u s₂ => wpAny (model X.prog X.w) X.A (f v u) Q X.xe s₂) X.xe s₁) X.xe s := by
  refine thn (ha pins s σ H _ I h) fun v s1 ⟨x, H1, I1, r1, q1⟩ => ?_
  refine thn (hb pins s1 σ H1 _ I1 q1) fun u s2 ⟨y, H2, I2, r2, q2⟩ => ?_
  exact hf v u s2 x y H2 I2 r1 r2 q2

/-! ### names and constants -/
def tVar (i : Nat) : TE := fun σ H Q => ∃ v, σ[i]? = some (some v) ∧ Q v H
def tC (v : V) : TE := fun _ H Q => Q v H
theorem pe_var {i : Nat} {x : Str} {pos : Pos} (hN : X.N[i]? = some x) (hv : Vis X.env.scope x) (hd : (x == ("__debug__" : Str)) = false := by decide) (hcd : (x == ("__classdict__" : Str)) = false := by decide) : PE X (.Name x pos) (tVar i) := by
  intro pins s σ H Q I h
  obtain ⟨v, e, h⟩ := h
  obtain ⟨m, hn, hl⟩ := I.loc
  obtain ⟨u, r, l⟩ := hl i x v hN e hv
  have fin : EP X pins σ Q u s := ⟨v, H, I, r, h⟩
  rcases l with ⟨hk, hm⟩ | ⟨hk, c, hc, hcell⟩
  · exact wpAny_Name (wpAny_loadName_local I.ok.kind hk hn hm fin) hd
  · rcases hk with hk | hk
    · exact wpAny_Name (wpAny_loadName_cell I.ok.kind hk hc hcell fin) hd
    · exact wpAny_Name (wpAny_loadName_free I.ok.kind hk hc hcell fin hcd) hd
theorem pe_int {i j pos} : PE X (.Constant (.int i) j pos) (tC (.int i)) := fun _ _ _ H _ I h => wpAny_Constant_int ⟨.int i, H, I.tok _, ⟨_, rfl⟩, h⟩
theorem pe_bl {b j pos} : PE X (.Constant (.bool b) j pos) (tC (.bl b)) := fun _ _ _ H _ I h => Constant_bool ⟨.bl b, H, I, rfl, h⟩
theorem pe_non {j pos} : PE X (.Constant .none j pos) (tC .non) := fun _ _ _ H _ I h => Constant_none ⟨.non, H, I, rfl, h⟩
theorem pe_str {x j pos} : PE X (.Constant (.str x) j pos) (tC (.str x)) := fun _ _ _ H _ I h => Calls.Constant_str ⟨.str x, H, I.tok _, ⟨_, rfl⟩, h⟩

/-- a global name of the def -/
def Gl (X : Cx) (x : Str) : Prop := X.env.kindOf x = some .globalImplicit
theorem ld_glob {E : Value → Shared → Prop} {pins : List (Addr × Obj)} {s : Shared} {σ : St} {H : Hp} {x : Str} {u : Value} {pos : Pos} {Q : Value → Shared → Prop} (I : Inv X pins σ H s) (hg : Gl X x) (hm : X.mg x = some u) (h : Q u s)
    (hd : (x == ("__debug__" : Str)) = false := by decide) : wpAny (model X.prog X.w) X.A (eval (.Name x pos) X.env) Q E s :=
  Calls.Name_function_global I.ok.kind hg (Calls.loadGlobal_global (by rw [I.ok.glob]; exact I.mod.glob.keeps I.bk) hm h) hd
theorem ld_blt {E : Value → Shared → Prop} {pins : List (Addr × Obj)} {s : Shared} {σ : St} {H : Hp} {x : Str} {u : Value} {pos : Pos} {Q : Value → Shared → Prop} (I : Inv X pins σ H s) (hg : Gl X x) (hm : X.mg x = none) (hv : bootBuiltins x = some u) (h : Q u s)
    (hn : x ≠ "__name__" := by decide) (hd : (x == ("__debug__" : Str)) = false := by decide) : wpAny (model X.prog X.w) X.A (eval (.Name x pos) X.env) Q E s := by
  obtain ⟨mb, h1, h2⟩ := I.mod.blt
  exact Calls.Name_function_global I.ok.kind hg (Calls.loadGlobal_builtin (by rw [I.ok.glob]; exact I.mod.glob.keeps I.bk) hm (by rw [I.ok.blt]; exact h1.keeps I.bk) ((h2 x hn).trans hv) h) hd
/-- a module's constant, a class, a function, as a value -/
theorem pe_glob {x : Str} {v : V} {u : Value} {pos : Pos} (hg : Gl X x) (hm : X.mg x = some u) (r : RelV v u) (hd : (x == ("__debug__" : Str)) = false := by decide) : PE X (.Name x pos) (tC v) :=
  fun _ _ _ H _ I h => ld_glob I hg hm ⟨v, H, I, r, h⟩ hd
theorem pe_bltn {x : Str} {v : V} {u : Value} {pos : Pos} (hg : Gl X x) (hm : X.mg x = none) (hv : bootBuiltins x = some u) (r : RelV v u) (hn : x ≠ "__name__" := by decide) (hd : (x == ("__debug__" : Str)) = false := by decide) : PE X (.Name x pos) (tC v) :=
  fun _ _ _ H _ I h => ld_blt I hg hm hv ⟨v, H, I, r, h⟩ hn hd

/-! ### arithmetic -/
/-- two ints -/
def t2I (ta tb : TE) (k : Int → Int → Hp → Prop) : St → Hp → Prop := fun σ H => ta σ H fun x H1 => tb σ H1 fun y H2 => ∃ i j, x = .int i ∧ y = .int j ∧ k i j H2
def tAdd (ta tb : TE) : TE := fun σ H Q => t2I ta tb (fun i j H2 => Q (.int (i + j)) H2) σ H
def tSub (ta tb : TE) : TE := fun σ H Q => t2I ta tb (fun i j H2 => Q (.int (i - j)) H2) σ H
/-- the left factor below 2^64 -/
def tMul (ta tb : TE) : TE := fun σ H Q => t2I ta tb (fun i j H2 => (-(2 ^ 64) < i ∧ i < 2 ^ 64) ∧ Q (.int (i * j)) H2) σ H
variable {a b : Expr} {ta tb : TE} {pos : Pos}
theorem pe_add (ha : PE X a ta) (hb : PE X b tb) : PE X (.BinOp a .Add b pos) (tAdd ta tb) := by
  intro pins s σ H Q I h
  refine wpAny_BinOp (bin ha hb I h fun v u s2 x y H2 I2 rx ry q => ?_)
  obtain ⟨i, j, rfl, rfl, q⟩ := q
  obtain ⟨t, rfl⟩ := rx
  obtain ⟨t', rfl⟩ := ry
  exact add_int ⟨.int _, H2, I2.tok _, ⟨_, rfl⟩, q⟩
theorem pe_sub (ha : PE X a ta) (hb : PE X b tb) : PE X (.BinOp a .Sub b pos) (tSub ta tb) := by
  intro pins s σ H Q I h
  refine wpAny_BinOp (bin ha hb I h fun v u s2 x y H2 I2 rx ry q => ?_)
  obtain ⟨i, j, rfl, rfl, q⟩ := q
  obtain ⟨t, rfl⟩ := rx
  obtain ⟨t', rfl⟩ := ry
  exact sub_int ⟨.int _, H2, I2.tok _, ⟨_, rfl⟩, q⟩
theorem pe_mul (ha : PE X a ta) (hb : PE X b tb) : PE X (.BinOp a .Mult b pos) (tMul ta tb) := by
  intro pins s σ H Q I h
  refine wpAny_BinOp (bin ha hb I h fun v u s2 x y H2 I2 rx ry q => ?_)
  obtain ⟨i, j, rfl, rfl, ⟨q1, q2⟩, q⟩ := q
  obtain ⟨t, rfl⟩ := rx
  obtain ⟨t', rfl⟩ := ry
  exact mul_int ⟨.int _, H2, I2.tok _, ⟨_, rfl⟩, q⟩ (.of_left (intBits_le_64 q1 q2))

/-! ### comparisons -/
def PC (X : Cx) (op : CmpOp) (a b : Expr) (t : TE) : Prop :=
  ∀ (pins : List (Addr × Obj)) (s : Shared) (σ : St) (H : Hp) (Q : VK), Inv X pins σ H s → t σ H Q →
    wpAny (model X.prog X.w) X.A (eval a X.env) (fun v s₁ => wpAny (model X.prog X.w) X.A (eval b X.env) (fun u s₂ => wpAny (model X.prog X.w) X.A (compareOp op v u) (EP X pins σ Q) X.xe s₂) X.xe s₁) X.xe s
theorem nobehind (b : Expr) {op : CmpOp} (h : op ≠ .In) (h2 : op ≠ .NotIn) : behindInMarks op b = false := by
  have e1 : (op == CmpOp.In) = false := by cases op <;> first | rfl | exact absurd rfl h
  have e2 : (op == CmpOp.NotIn) = false := by cases op <;> first | rfl | exact absurd rfl h2
  cases b <;> simp [behindInMarks, e1, e2]
def tCmp (p : Int → Int → Bool) (ta tb : TE) : TE := fun σ H Q => t2I ta tb (fun i j H2 => Q (.bl (p i j)) H2) σ H
abbrev tLt : TE → TE → TE := tCmp fun i j => decide (i < j)
abbrev tLe : TE → TE → TE := tCmp fun i j => decide (i ≤ j)
abbrev tGt : TE → TE → TE := tCmp fun i j => decide (j < i)
abbrev tGe : TE → TE → TE := tCmp fun i j => decide (j ≤ i)
abbrev tEqI : TE → TE → TE := tCmp fun i j => decide (i = j)
abbrev tNeI : TE → TE → TE := tCmp fun i j => !decide (i = j)
/-- a comparison of two ints, by its rule -/
theorem pc_int {op : CmpOp} {p : Int → Int → Bool} (ha : PE X a ta) (hb : PE X b tb)
    (rule : ∀ (i j : Int) (t u : Tok) (Q : Value → Shared → Prop) (s : Shared), Q (.bool (p i j)) s → wpAny (model X.prog X.w) X.A (compareOp op (.int i t) (.int j u)) Q X.xe s) : PC X op a b (tCmp p ta tb) := by
  intro pins s σ H Q I h
  refine bin ha hb I h fun v u s2 x y H2 I2 rx ry q => ?_
  obtain ⟨i, j, rfl, rfl, q⟩ := q
  obtain ⟨t, rfl⟩ := rx
  obtain ⟨t', rfl⟩ := ry
  exact rule i j t t' _ s2 ⟨.bl _, H2, I2, rfl, q⟩
theorem pc_lt (ha : PE X a ta) (hb : PE X b tb) : PC X .Lt a b (tLt ta tb) := pc_int ha hb fun _ _ _ _ _ _ h => lt_int h
theorem pc_le (ha : PE X a ta) (hb : PE X b tb) : PC X .LtE a b (tLe ta tb) := pc_int ha hb fun _ _ _ _ _ _ h => le_int h
theorem pc_gt (ha : PE X a ta) (hb : PE X b tb) : PC X .Gt a b (tGt ta tb) := pc_int ha hb fun _ _ _ _ _ _ h => gt_int h
theorem pc_ge (ha : PE X a ta) (hb : PE X b tb) : PC X .GtE a b (tGe ta tb) := pc_int ha hb fun _ _ _ _ _ _ h => ge_int h
theorem pc_eqI (ha : PE X a ta) (hb : PE X b tb) : PC X .Eq a b (tEqI ta tb) := pc_int ha hb fun _ _ _ _ _ _ h => eq_int (by rw [Bool.beq_eq_decide_eq]; exact h)
theorem pc_neI (ha : PE X a ta) (hb : PE X b tb) : PC X .NotEq a b (tNeI ta tb) := pc_int ha hb fun _ _ _ _ _ _ h => ne_int (by rw [bne, Bool.beq_eq_decide_eq]; exact h)
/-- is None -/
def tIsN (ta : TE) : TE := fun σ H Q => ta σ H fun x H1 => Q (.bl (decide (x = .non))) H1
def tNotN (ta : TE) : TE := fun σ H Q => ta σ H fun x H1 => Q (.bl (!decide (x = .non))) H1
theorem RelV.none_iff {x : V} {v : Value} (r : RelV x v) : (v == Value.none) = decide (x = .non) := by
  cases x with
  | non => cases r; rfl
  | bl _ => cases r; rfl
  | int _ => obtain ⟨t, rfl⟩ := r; rfl
  | str _ => obtain ⟨t, rfl⟩ := r; rfl
  | byt _ => obtain ⟨t, rfl⟩ := r; rfl
  | flt _ => obtain ⟨t, rfl⟩ := r; rfl
  | ref _ => cases r; rfl
  | ty _ => cases r; rfl
theorem pc_isN {j pos'} (ha : PE X a ta) : PC X .Is a (.Constant .none j pos') (tIsN ta) := by
  intro pins s σ H Q I h
  refine thn (ha pins s σ H _ I h) fun v s1 ⟨x, H1, I1, r1, q1⟩ => ?_
  exact Constant_none (is_none_gen ⟨.bl _, H1, I1, by rw [r1.none_iff]; rfl, q1⟩)
theorem pc_notN {j pos'} (ha : PE X a ta) : PC X .IsNot a (.Constant .none j pos') (tNotN ta) := by
  intro pins s σ H Q I h
  refine thn (ha pins s σ H _ I h) fun v s1 ⟨x, H1, I1, r1, q1⟩ => ?_
  exact Constant_none (isnot_none_gen ⟨.bl _, H1, I1, by rw [r1.none_iff]; rfl, q1⟩)
/-- a comparison as a value, as a test -/
def tB (t : TE) : TT := fun σ H Q => t σ H fun x H1 => ∃ c, x = .bl c ∧ Q c H1
theorem pe_cmp {op : CmpOp} {t : TE} (h : PC X op a b t) (h1 : behindInMarks op b = false := by first | exact nobehind _ (by decide) (by decide) | rfl) : PE X (.Compare a [op] [b] pos) t := fun pins s σ H Q I hw => wpAny_Compare1 (h pins s σ H Q I hw) h1
theorem pt_cmp {op : CmpOp} {t : TE} (h : PC X op a b t) (h1 : behindInMarks op b = false := by first | exact nobehind _ (by decide) (by decide) | rfl) : PT X (.Compare a [op] [b] pos) (tB t) := by
  intro pins s σ H Q I hw
  refine wpAny_isTrue_Compare1 (thn (h pins s σ H _ I hw) fun v s1 h1 => thn h1 fun u s2 h2 => thn h2 fun c s3 ⟨x, H1, I1, r1, q1⟩ => ?_) h1
  obtain ⟨d, rfl, q⟩ := q1
  cases r1
  exact wpAny_truthy_bool ⟨H1, I1, q⟩
/-- an expression whose value is a bool, as a test -/
theorem pt_val {e : Expr} {t : TE} (h : PE X e t) (he : ∀ whole, isTrue e X.env whole = (do let v ← whole; standAt e.pos; holding [v] (truthy v)) := by intro _; rfl) : PT X e (tB t) := by
  intro pins s σ H Q I hw
  refine isTrue_plain (thn (h pins s σ H _ I hw) fun v s1 ⟨x, H1, I1, r1, q1⟩ => ?_) (he _)
  obtain ⟨d, rfl, q⟩ := q1
  cases r1
  exact wpAny_truthy_bool ⟨H1, I1, q⟩

/-! ### and, or, not -/
variable {tA tB' : TT} {rest : List Expr}
def tAnd (t u : TT) : TT := fun σ H Q => t σ H fun c H1 => if c = true then u σ H1 Q else Q false H1
def tOr (t u : TT) : TT := fun σ H Q => t σ H fun c H1 => if c = true then Q true H1 else u σ H1 Q
def tNot (t : TT) : TT := fun σ H Q => t σ H fun c H1 => Q (!c) H1
theorem pw_and1 (ha : PT X a tA) : PW X (.BoolOp .And [a] pos) tA := by
  intro wh pins s σ H Q I h
  refine isTrue_and (thn (ha pins s σ H Q I h) fun c s1 e => ?_)
  cases c with
  | true => exact isTrue_and_nil e
  | false => exact e
theorem pw_or1 (ha : PT X a tA) : PW X (.BoolOp .Or [a] pos) tA := by
  intro wh pins s σ H Q I h
  refine isTrue_or (thn (ha pins s σ H Q I h) fun c s1 e => ?_)
  cases c with
  | false => exact isTrue_or_nil e
  | true => exact e
theorem pw_and (ha : PT X a tA) (hb : PW X (.BoolOp .And (b :: rest) pos) tB') : PW X (.BoolOp .And (a :: b :: rest) pos) (tAnd tA tB') := by
  intro wh pins s σ H Q I h
  refine isTrue_and (thn (ha pins s σ H _ I h) fun c s1 ⟨H1, I1, q1⟩ => ?_)
  cases c with
  | true => exact hb wh pins s1 σ H1 Q I1 q1
  | false => exact ⟨H1, I1, q1⟩
theorem pw_or (ha : PT X a tA) (hb : PW X (.BoolOp .Or (b :: rest) pos) tB') : PW X (.BoolOp .Or (a :: b :: rest) pos) (tOr tA tB') := by
  intro wh pins s σ H Q I h
  refine isTrue_or (thn (ha pins s σ H _ I h) fun c s1 ⟨H1, I1, q1⟩ => ?_)
  cases c with
  | true => exact ⟨H1, I1, q1⟩
  | false => exact hb wh pins s1 σ H1 Q I1 q1
theorem pt_not (ha : PT X a tA) : PT X (.UnaryOp .Not a pos) (tNot tA) := by
  intro pins s σ H Q I h
  exact isTrue_not (ha pins s σ H (fun c H1 => Q (!c) H1) I h)
/-- .. as values (bools) -/
def tAndV (ta tb : TE) : TE := fun σ H Q => ta σ H fun x H1 => ∃ c, x = .bl c ∧ if c = true then tb σ H1 Q else Q (.bl false) H1
def tOrV (ta tb : TE) : TE := fun σ H Q => ta σ H fun x H1 => ∃ c, x = .bl c ∧ if c = true then Q (.bl true) H1 else tb σ H1 Q
def tNotV (ta : TE) : TE := fun σ H Q => ta σ H fun x H1 => ∃ c, x = .bl c ∧ Q (.bl (!c)) H1
theorem pe_one {op} {t : TE} (h : PE X a t) : PE X (.BoolOp op [a] pos) t := fun pins s σ H Q I hw => BoolOp_one (h pins s σ H Q I hw)
theorem pe_and (ha : PE X a ta) (hb : PE X (.BoolOp .And (b :: rest) pos) tb) : PE X (.BoolOp .And (a :: b :: rest) pos) (tAndV ta tb) := by
  intro pins s σ H Q I h
  refine BoolOp_and (thn (ha pins s σ H _ I h) fun v s1 ⟨x, H1, I1, r1, q1⟩ => ?_)
  obtain ⟨c, rfl, q1⟩ := q1
  cases r1
  refine wpAny_truthy_bool ?_
  cases c with
  | true => exact hb pins s1 σ H1 Q I1 q1
  | false => exact ⟨.bl false, H1, I1, rfl, q1⟩
theorem pe_or (ha : PE X a ta) (hb : PE X (.BoolOp .Or (b :: rest) pos) tb) : PE X (.BoolOp .Or (a :: b :: rest) pos) (tOrV ta tb) := by
  intro pins s σ H Q I h
  refine BoolOp_or (thn (ha pins s σ H _ I h) fun v s1 ⟨x, H1, I1, r1, q1⟩ => ?_)
  obtain ⟨c, rfl, q1⟩ := q1
  cases r1
  refine wpAny_truthy_bool ?_
  cases c with
  | false => exact hb pins s1 σ H1 Q I1 q1
  | true => exact ⟨.bl true, H1, I1, rfl, q1⟩
theorem pe_not (ha : PE X a ta) : PE X (.UnaryOp .Not a pos) (tNotV ta) := by
  intro pins s σ H Q I h
  refine UnaryOp_ (thn (ha pins s σ H _ I h) fun v s1 ⟨x, H1, I1, r1, q1⟩ => ?_)
  obtain ⟨c, rfl, q1⟩ := q1
  cases r1
  exact not_of (wpAny_truthy_bool ⟨.bl (!c), H1, I1, rfl, q1⟩)
/-- a if t else b -/
def tIf (t : TT) (ta tb : TE) : TE := fun σ H Q => t σ H fun c H1 => if c = true then ta σ H1 Q else tb σ H1 Q
theorem pe_ifExp {c : Expr} (hc : PT X c tA) (ha : PE X a ta) (hb : PE X b tb) : PE X (.IfExp c a b pos) (tIf tA ta tb) := by
  intro pins s σ H Q I h
  refine wpAny_IfExp (thn (hc pins s σ H _ I h) fun d s1 ⟨H1, I1, q1⟩ => ?_)
  cases d with
  | true => exact ha pins s1 σ H1 Q I1 q1
  | false => exact hb pins s1 σ H1 Q I1 q1
end
end L2

namespace L2
open PySem PySem.Spec PyProof.Rows

/-! ### a list, a tuple that is read: tracked, frozen, or an object of the module -/
def SqL (K : PySem.W.Frag) (H : Hp) (a : Addr) (xs : List V) : Prop :=
  Rd H a (.lst xs) ∨
    ∃ (o : Obj) (its : Array Value) (n : Nat), K.lookup a = some o ∧ o.cls = .type "list" ∧ o.dict = none ∧ o.data = .seq its n ∧ its.size ≤ sizeLine ∧ Vals xs its.toList
def SqT (K : PySem.W.Frag) (H : Hp) (a : Addr) (xs : List V) : Prop :=
  Rd H a (.tup xs) ∨
    ∃ (o : Obj) (its : Array Value) (n : Nat), K.lookup a = some o ∧ o.cls = .type "tuple" ∧ o.data = .seq its n ∧ its.size ≤ sizeLine ∧ Vals xs its.toList
def absV : Value → Option V
  | .none => some .non
  | .bool b => some (.bl b)
  | .int i _ => some (.int i)
  | .str x _ => some (.str x)
  | .bytes b _ => some (.byt b)
  | .float b _ => some (.flt b)
  | .ref a => some (.ref a)
  | .type n => some (.ty n)
  | _ => none
theorem RelV.abs {x : V} {u : Value} (r : RelV x u) : absV u = some x := by
  cases x with
  | non => cases r; rfl
  | bl _ => cases r; rfl
  | int _ => obtain ⟨t, rfl⟩ := r; rfl
  | str _ => obtain ⟨t, rfl⟩ := r; rfl
  | byt _ => obtain ⟨t, rfl⟩ := r; rfl
  | flt _ => obtain ⟨t, rfl⟩ := r; rfl
  | ref _ => cases r; rfl
  | ty _ => cases r; rfl
theorem RelV.inj {x y : V} {u : Value} (r : RelV x u) (q : RelV y u) : x = y := Option.some.inj (r.abs.symm.trans q.abs)
theorem Vals.inj : ∀ {xs ys : List V} {us : List Value}, Vals xs us → Vals ys us → xs = ys
  | _, _, _, .nil, .nil => rfl
  | _, _, _, .cons r t, .cons r' t' => by rw [r.inj r', Vals.inj t t']
section
variable {X : Cx} {pins : List (Addr × Obj)} {σ : St} {H : Hp} {s : Shared} {a : Addr} {xs ys : List V}
theorem SqL.of {K : PySem.W.Frag} (h : H a = some (.lst xs)) : SqL K H a xs := .inl (.inl h)
theorem SqT.of {K : PySem.W.Frag} (h : H a = some (.tup xs)) : SqT K H a xs := .inl (.inl h)
theorem Inv.list (I : Inv X pins σ H s) (h : SqL X.K H a xs) : ∃ its : List Value, Vals xs its ∧ PlainL s.heap a its.toArray ∧ xs.length ≤ sizeLine := by
  rcases h with h | ⟨o, its, n, hk, hc, hd, hs, hz, r⟩
  · obtain ⟨z, its, n, r, e⟩ := h.ok I.hok
    exact ⟨its, r, ⟨_, n, e, rfl, rfl, rfl⟩, z⟩
  · refine ⟨its.toList, r, ⟨o, n, I.kIn a o hk, hc, hd, by simpa using hs⟩, ?_⟩
    have e := r.length
    simp only [Array.length_toList] at e
    omega
theorem Inv.tuple (I : Inv X pins σ H s) (h : SqT X.K H a xs) : ∃ its : List Value, Vals xs its ∧ IsTup s.heap a its.toArray ∧ xs.length ≤ sizeLine := by
  rcases h with h | ⟨o, its, n, hk, hc, hs, hz, r⟩
  · obtain ⟨z, its, r, p⟩ := h.ok I.hok
    exact ⟨its, r, p, z⟩
  · refine ⟨its.toList, r, ⟨o, I.kIn a o hk, hc, n, by simpa using hs⟩, ?_⟩
    have e := r.length
    simp only [Array.length_toList] at e
    omega
theorem Inv.list_inj (I : Inv X pins σ H s) (h : SqL X.K H a xs) (h' : SqL X.K H a ys) : xs = ys := by
  obtain ⟨its, r, ⟨o, n, e, _, _, d⟩, _⟩ := I.list h
  obtain ⟨its', r', ⟨o', n', e', _, _, d'⟩, _⟩ := I.list h'
  rw [e] at e'; cases e'
  rw [d] at d'
  injection d' with d1 _
  have : its = its' := by simpa using congrArg Array.toList d1
  subst this
  exact r.inj r'
theorem Inv.tuple_inj (I : Inv X pins σ H s) (h : SqT X.K H a xs) (h' : SqT X.K H a ys) : xs = ys := by
  obtain ⟨its, r, ⟨o, e, _, n, d⟩, _⟩ := I.tuple h
  obtain ⟨its', r', ⟨o', e', _, n', d'⟩, _⟩ := I.tuple h'
  rw [e] at e'; cases e'
  rw [d] at d'
  injection d' with d1 _
  have : its = its' := by simpa using congrArg Array.toList d1
  subst this
  exact r.inj r'
end

/-! ### another wish about exceptions -/
abbrev Cx.wish (X : Cx) (E : Value → Shared → Prop) : Cx := { X with xe := E }
/-- no exception leaves -/
abbrev Cx.nox (X : Cx) : Cx := X.wish fun _ _ => False
theorem Cx.Ok.wish {X : Cx} (ok : X.Ok) (E : Value → Shared → Prop) : (X.wish E).Ok :=
  ⟨ok.mod, ok.kind, ok.glob, ok.blt, ok.above, ok.inj, ok.has, ok.cab, ok.hd, ok.frames, ok.stk, ok.exf, ok.bs, ok.bsz, ok.noex, ok.exfs, ok.funs, ok.frf, ok.sy⟩
theorem Cx.Ok.unwish {X : Cx} {E : Value → Shared → Prop} (ok : (X.wish E).Ok) : X.Ok :=
  ⟨ok.mod, ok.kind, ok.glob, ok.blt, ok.above, ok.inj, ok.has, ok.cab, ok.hd, ok.frames, ok.stk, ok.exf, ok.bs, ok.bsz, ok.noex, ok.exfs, ok.funs, ok.frf, ok.sy⟩
section
variable {X : Cx} {pins : List (Addr × Obj)} {σ : St} {H : Hp} {s : Shared} {E : Value → Shared → Prop}
theorem Inv.wish (I : Inv X pins σ H s) (E : Value → Shared → Prop) : Inv (X.wish E) pins σ H s := ⟨I.ok.wish E, I.os, I.bare, I.base, I.loc, I.cell, I.free, I.freeC, I.pin, I.hok, I.len⟩
theorem Inv.unwish (I : Inv (X.wish E) pins σ H s) : Inv X pins σ H s := ⟨I.ok.unwish, I.os, I.bare, I.base, I.loc, I.cell, I.free, I.freeC, I.pin, I.hok, I.len⟩
theorem SP.unwish {D : Ends} {f : Flow} {s' : Shared} (h : SP (X.wish E) pins D f s') : SP X pins D f s' := by
  cases f with
  | next => obtain ⟨σ', H', I, q⟩ := h; exact ⟨σ', H', I.unwish, q⟩
  | brk => obtain ⟨σ', H', I, q⟩ := h; exact ⟨σ', H', I.unwish, q⟩
  | cont => obtain ⟨σ', H', I, q⟩ := h; exact ⟨σ', H', I.unwish, q⟩
  | ret u => obtain ⟨v, σ', H', I, r, q⟩ := h; exact ⟨v, σ', H', I.unwish, r, q⟩
theorem PE.nox {e : Expr} {t : TE} (h : PE X.nox e t) : PE X e t := fun pins s σ H Q I hw =>
  wpAny_mono (h pins s σ H Q (I.wish _) hw) (fun _ _ ⟨v, H', I', r, q⟩ => ⟨v, H', I'.unwish, r, q⟩) fun _ _ z => False.elim z
theorem PT.nox {e : Expr} {t : TT} (h : PT X.nox e t) : PT X e t := fun pins s σ H Q I hw =>
  wpAny_mono (h pins s σ H Q (I.wish _) hw) (fun _ _ ⟨H', I', q⟩ => ⟨H', I'.unwish, q⟩) fun _ _ z => False.elim z
theorem PSs.nox {st : List Stmt} {t : TS} (h : PSs X.nox st t) : PSs X st t := fun pins s σ H D I hw =>
  wpAny_mono (h pins s σ H D (I.wish _) hw) (fun _ _ q => q.unwish) fun _ _ z => False.elim z
end

/-! ### blocks and small statements -/
section
variable {X : Cx} {st : Stmt} {rest : List Stmt} {t u : TS} {e : Expr} {te : TE} {pos : Pos}
def tNext : TS := fun D σ H => D.nx σ H
def tSeq (t u : TS) : TS := fun D σ H => t { D with nx := u D } σ H
theorem pss_nil : PSs X [] tNext := fun _ _ σ H _ I h => wpAny_execs_nil ⟨σ, H, I, h⟩
theorem pss_cons (h1 : PS X st t) (h2 : PSs X rest u) : PSs X (st :: rest) (tSeq t u) := by
  intro pins s σ H D I h
  refine wpAny_execs_cons (thn (h1 pins s σ H { D with nx := u D } I h) fun f s1 q => ?_)
  cases f with
  | next =>
    obtain ⟨σ', H', I', q⟩ := q
    exact h2 pins s1 σ' H' D I' q
  | ret v => exact q
  | brk => exact q
  | cont => exact q
theorem pss_one (h1 : PS X st t) : PSs X [st] t := by
  intro pins s σ H D I h
  refine wpAny_execs_cons (thn (h1 pins s σ H D I h) fun f s1 q => ?_)
  cases f with
  | next => exact wpAny_execs_nil q
  | ret v => exact q
  | brk => exact q
  | cont => exact q
def tBreak : TS := fun D σ H => D.bk σ H
def tCont : TS := fun D σ H => D.ct σ H
theorem ps_pass : PS X (.Pass pos) tNext := fun _ _ σ H _ I h => wpAny_Pass ⟨σ, H, I, h⟩
theorem ps_break : PS X (.Break pos) tBreak := fun _ _ σ H _ I h => wpAny_Break ⟨σ, H, I, h⟩
theorem ps_continue : PS X (.Continue pos) tCont := fun _ _ σ H _ I h => wpAny_Continue ⟨σ, H, I, h⟩
/-- in a def's body nothing is shown -/
theorem Inv.quiet {pins : List (Addr × Obj)} {σ : St} {H : Hp} {s : Shared} (I : Inv X pins σ H s) : interactive X.env = false := by simp [interactive, I.ok.kind]
/-- a docstring -/
theorem ps_doc {x j pos pos'} : PS X (.Expr (.Constant (.str x) j pos) pos') tNext := fun _ s σ H _ I h => wpAny_Expr (Calls.Constant_str (show SP X _ _ .next { s with toks := s.toks + 1 } from ⟨σ, H, I.tok _, h⟩)) I.quiet
/-- an expression whose value is dropped -/
def tDrop (te : TE) : TS := fun D σ H => te σ H fun _ H1 => D.nx σ H1
theorem ps_expr (he : PE X e te) (hs : swapsWith e none pos.line X.env = pure false := by rfl) : PS X (.Expr e pos) (tDrop te) := by
  intro pins s σ H D I h
  exact wpAny_Expr_any (thn (he pins s σ H _ I h) fun v s1 ⟨x, H1, I1, r1, q1⟩ => ⟨σ, H1, I1, q1⟩) I.quiet hs
def tRet (te : TE) : TS := fun D σ H => te σ H D.rt
theorem ps_ret (he : PE X e te) : PS X (.Return (some e) pos) (tRet te) := by
  intro pins s σ H D I h
  exact wpAny_Return_some (thn (he pins s σ H _ I h) fun v s1 ⟨x, H1, I1, r1, q1⟩ => ⟨x, σ, H1, I1, r1, q1⟩)
def tRetN : TS := fun D _ H => D.rt .non H
theorem ps_retN : PS X (.Return none pos) tRetN := fun _ _ σ H _ I h => wpAny_Return_none ⟨.non, σ, H, I, rfl, h⟩
def tIfS (c : TT) (t u : TS) : TS := fun D σ H => c σ H fun b H1 => if b = true then t D σ H1 else u D σ H1
theorem ps_if {c : Expr} {a b : List Stmt} {tc : TT} (hc : PT X c tc) (ha : PSs X a t) (hb : PSs X b u) : PS X (.If c a b pos) (tIfS tc t u) := by
  intro pins s σ H D I h
  refine wpAny_If (thn (hc pins s σ H _ I h) fun d s1 ⟨H1, I1, q1⟩ => ?_)
  cases d with
  | true => exact ha pins s1 σ H1 D I1 q1
  | false => exact hb pins s1 σ H1 D I1 q1
/-- code that the proof never comes to -/
def tNever : TS := fun _ _ _ => False
theorem ps_never : PS X st tNever := fun _ _ _ _ _ _ h => h.elim
theorem pss_never {sts : List Stmt} : PSs X sts tNever := fun _ _ _ _ _ _ h => h.elim
end

/-! ### targets -/
abbrev TG := V → St → Hp → (St → Hp → Prop) → Prop
abbrev TGs := List V → St → Hp → (St → Hp → Prop) → Prop
def PG (X : Cx) (target : Expr) (t : TG) : Prop :=
  ∀ (pins : List (Addr × Obj)) (s : Shared) (σ : St) (H : Hp) (v : V) (u : Value) (Q : St → Hp → Prop), Inv X pins σ H s → RelV v u → t v σ H Q →
    wpAny (model X.prog X.w) X.A (assign target X.env u) (fun _ s' => ∃ σ' H', Inv X pins σ' H' s' ∧ Q σ' H') X.xe s
/-- several targets, one after another -/
def PGs (X : Cx) (ts : List Expr) (t : TGs) : Prop :=
  ∀ (pins : List (Addr × Obj)) (s : Shared) (σ : St) (H : Hp) (vs : List V) (us : List Value) (Q : St → Hp → Prop), Inv X pins σ H s → Vals vs us → t vs σ H Q →
    wpAny (model X.prog X.w) X.A (assignInOrder ((assignEach ts X.env).map (·.2)) us) (fun _ s' => ∃ σ' H', Inv X pins σ' H' s' ∧ Q σ' H') X.xe s
/-- o[i] = v, by values -/
abbrev TSet := V → V → V → Hp → (Hp → Prop) → Prop
def PSet (X : Cx) (t : TSet) : Prop :=
  ∀ (pins : List (Addr × Obj)) (s : Shared) (σ : St) (H : Hp) (o i v : V) (ov iv u : Value) (Q : Hp → Prop), Inv X pins σ H s → RelV o ov → RelV i iv → RelV v u → t o i v H Q →
    wpAny (model X.prog X.w) X.A (setItem ov iv u) (fun _ s' => ∃ H', Inv X pins σ H' s' ∧ Q H') X.xe s
/-- a op= b, by values -/
abbrev TIp := V → V → Hp → VK → Prop
def PIp (X : Cx) (op : Operator) (t : TIp) : Prop :=
  ∀ (pins : List (Addr × Obj)) (s : Shared) (σ : St) (H : Hp) (x y : V) (v u : Value) (Q : VK), Inv X pins σ H s → RelV x v → RelV y u → t x y H Q →
    wpAny (model X.prog X.w) X.A (inplaceOp op v u) (EP X pins σ Q) X.xe s
section
variable {X : Cx} {pos : Pos}
def gName (i : Nat) : TG := fun v σ H Q => Q (σ.set i (some v)) H
theorem pg_name {i : Nat} {x : Str} (hN : X.N.Nodup) (hi : X.N[i]? = some x) (hx : Loc X.env.scope x) (hf : X.fn x = true ∨ X.env.scope.names.lookup x = some .local := by first | exact .inl rfl | exact .inr rfl | assumption) : PG X (.Name x pos) (gName i) := by
  intro pins s σ H v u Q I r h
  exact wpAny_assign_Name (store_ok I hN hi hx r (fun s' I' => ⟨_, H, I', h⟩) hf)
def gNil : TGs := fun vs σ H Q => vs = [] ∧ Q σ H
def gCons (t : TG) (u : TGs) : TGs := fun vs σ H Q => ∃ v r, vs = v :: r ∧ t v σ H fun σ' H' => u r σ' H' Q
theorem pgs_nil : PGs X [] gNil := by
  intro pins s σ H vs us Q I r h
  obtain ⟨e, h⟩ := h
  subst e
  cases r
  exact assignInOrder_nil ⟨σ, H, I, h⟩
theorem pgs_cons {e : Expr} {es : List Expr} {t : TG} {u : TGs} (h1 : PG X e t) (h2 : PGs X es u)
    (hs : (assignEach (e :: es) X.env).map (·.2) = assign e X.env :: (assignEach es X.env).map (·.2) := by rfl) : PGs X (e :: es) (gCons t u) := by
  intro pins s σ H vs us Q I r h
  obtain ⟨v, vr, e1, h⟩ := h
  subst e1
  cases r with
  | cons r rr =>
    rw [hs]
    refine assignInOrder_cons (thn (h1 pins s σ H _ _ _ I r h) fun _ s1 ⟨σ1, H1, I1, q1⟩ => ?_)
    exact h2 pins s1 σ1 H1 _ _ Q I1 rr q1
/-- (a, b, ..) = a tuple of that length -/
def gTup (K : PySem.W.Frag) (n : Nat) (t : TGs) : TG := fun v σ H Q => ∃ a xs, v = .ref a ∧ SqT K H a xs ∧ xs.length = n ∧ t xs σ H Q
theorem pg_tup {es : List Expr} {k : Nat} {t : TGs} {n : Nat} (hc : X.calm = true) (h : PGs X es t)
    (hn : (assignEach es X.env).length = n := by rfl) (hst : (assignEach es X.env).findIdx? (·.1) = none := by rfl) : PG X (.Tuple es k pos) (gTup X.K n t) := by
  intro pins s σ H v u Q I r hw
  obtain ⟨a, xs, e1, hq, hl, hw⟩ := hw
  subst e1
  cases r
  obtain ⟨its, rv, ht, hz⟩ := I.tuple hq
  refine assign_Tuple_tuple (I.ok.hd hc) ht (by simp [hn, ← hl, rv.length]) hst fun h' hx => ?_
  have I1 : Inv X pins σ H { s with heap := h' } := I.kept (t' := s.toks) fun b o e => hx b o (Nat.ne_of_lt (Heap.lt_size e)) e
  exact h pins _ σ H xs _ Q I1 (by simpa using rv) hw
/-- o[i] = .. -/
def gSub (to ti : TE) (t : TSet) : TG := fun v σ H Q => to σ H fun o H1 => ti σ H1 fun i H2 => t o i v H2 fun H3 => Q σ H3
theorem pg_sub {o i : Expr} {to ti : TE} {t : TSet} (ho : PE X o to) (hi : PE X i ti) (hs : PSet X t)
    (ha : ∀ v, assign (.Subscript o i pos) X.env v = (do
      let ov ← holding [v] (eval o X.env)
      let iv ← holding [v, ov] (eval i X.env)
      standAt pos
      holding [v, ov, iv] (setItem ov iv v)
      release [v, ov, iv] []) := by intro _; rfl) : PG X (.Subscript o i pos) (gSub to ti t) := by
  intro pins s σ H v u Q I r h
  rw [ha]
  refine wpAny_bind (wpAny_holding (thn (ho pins s σ H _ I h) fun ov s1 ⟨x, H1, I1, r1, q1⟩ => ?_))
  refine wpAny_bind (wpAny_holding (thn (hi pins s1 σ H1 _ I1 q1) fun iv s2 ⟨y, H2, I2, r2, q2⟩ => ?_))
  refine wpAny_bind (wpAny_standAt (wpAny_bind (wpAny_holding (thn (hs pins s2 σ H2 x y v ov iv u _ I2 r1 r2 r q2) fun _ s3 ⟨H3, I3, q3⟩ => ?_))))
  exact wpAny_release ⟨σ, H3, I3, q3⟩
/-- target = value -/
def tAsg (te : TE) (g : TG) : TS := fun D σ H => te σ H fun x H1 => g x σ H1 D.nx
theorem ps_asg {tg e : Expr} {te : TE} {g : TG} (he : PE X e te) (hg : PG X tg g) (hs : swapsWithSole [tg] e pos.line X.env = pure false := by rfl) (hw : swappedStores [tg] e X.env = pure none := by rfl)
    (h1 : (assignEach [tg] X.env).map (·.2) = [assign tg X.env] := by rfl) : PS X (.Assign [tg] e pos) (tAsg te g) := by
  intro pins s σ H D I h
  refine wpAny_Assign_stores (thn (he pins s σ H _ I h) fun v s1 ⟨x, H1, I1, r1, q1⟩ => ?_) hs hw
  rw [h1]
  exact thn (hg pins s1 σ H1 x v _ I1 r1 q1) fun _ s2 q => q
/-- name = value -/
theorem ps_set {i : Nat} {x : Str} {e : Expr} {te : TE} {pos' : Pos} (hN : X.N.Nodup) (hi : X.N[i]? = some x) (hx : Loc X.env.scope x) (he : PE X e te) (hs : swapsWith e (some (.Name x pos')) pos.line X.env = pure false := by rfl) (hf : X.fn x = true ∨ X.env.scope.names.lookup x = some .local := by first | exact .inl rfl | exact .inr rfl | assumption) :
    PS X (.Assign [.Name x pos'] e pos) (tAsg te (gName i)) := by
  intro pins s σ H D I h
  refine wpAny_Assign_Name (thn (he pins s σ H _ I h) fun v s1 ⟨y, H1, I1, r1, q1⟩ => ?_) hs
  exact store_ok I1 hN hi hx r1 (fun s2 I2 => ⟨_, H1, I2, q1⟩) hf
/-- a, b = x, y with plain local names: stored from the right; the pair itself is not tracked (the opening rows as in PyProof/Rows/TupAssign.lean:23) -/
def tPar (i j : Nat) (ta : TA) : TS := fun D σ H => ta σ H fun vs H1 => ∃ v w, vs = [v, w] ∧ D.nx ((σ.set i (some v)).set j (some w)) H1
theorem ps_par {i j : Nat} {x y : Str} {a b : Expr} {ta : TA} {px py pt : Pos} {kt k2 pt2} (hc : X.calm = true) (hN : X.N.Nodup) (hi : X.N[i]? = some x) (hj : X.N[j]? = some y) (hij : i ≠ j)
    (hx : X.env.scope.names.lookup x = some .local) (hy : X.env.scope.names.lookup y = some .local) (ha : PA X [a, b] ta)
    (hw : swappedStores [.Tuple [.Name x px, .Name y py] kt pt] (.Tuple [a, b] k2 pt2) X.env = pure (some [x, y]))
    (hs : swapsWithSole [.Tuple [.Name x px, .Name y py] kt pt] (.Tuple [a, b] k2 pt2) pos.line X.env = pure false := by rfl) :
    PS X (.Assign [.Tuple [.Name x px, .Name y py] kt pt] (.Tuple [a, b] k2 pt2) pos) (tPar i j ta) := by
  intro pins s σ H D I h
  rw [exec_Assign_arm]
  refine wpAny_bind (wpAny_standAt ?_)
  rw [hs]
  refine wpAny_bind (wpAny_pure ?_)
  rw [if_neg (by decide)]
  refine wpAny_bind (Tuple_ (thn (ha _ pins s σ H _ I h) fun us s1 ⟨vs, H1, I1, r1, q1⟩ => ?_))
  obtain ⟨v, w, e1, q1⟩ := q1
  subst e1
  obtain ⟨u1, u2, rfl, rv, rw'⟩ : ∃ u1 u2, us = [u1, u2] ∧ RelV v u1 ∧ RelV w u2 := by
    cases r1 with
    | cons p q =>
      cases q with
      | cons p' q' =>
        cases q'
        exact ⟨_, _, rfl, p, p'⟩
  refine wpAny_newObj_type ?_ (by show 2 ≤ sizeLine; decide)
  have I2 : Inv X pins σ H1 { s1 with heap := s1.heap.push { cls := .type "tuple", data := .seq [u1, u2].toArray } } := I1.kept (t' := s1.toks) fun b o e => Heap.get?_push_of_some _ e
  rw [hw]
  refine wpAny_bind (wpAny_pure ?_)
  show wpAny (model X.prog X.w) X.A (do rule "assign.swapped-stores"; let items ← unpackItems (.ref s1.heap.objs.size) 2 none; assignInOrder [fun v => bindName X.env y v, fun v => bindName X.env x v] items.reverse; pure Flow.next) _ _ _
  refine wpAny_bind (wpAny_rule (wpAny_bind (unpackItems_tuple (items := #[u1, u2]) (I.ok.hd hc) (IsTup.new s1.heap _) fun h' hx' => ?_)))
  have I3 := I2.kept (h' := h') (t' := s1.toks) fun b o e => hx' b o (Nat.ne_of_lt (Heap.lt_size e)) e
  show wpAny _ _ (assignInOrder [fun v => bindName X.env y v, fun v => bindName X.env x v] [u2, u1] >>= fun _ => pure Flow.next) _ _ _
  refine wpAny_bind (assignInOrder_cons (wpAny_bindName (store_ok I3 hN hj (.inl hy) rw' (fun s2 I4 => ?_) (.inr hy))))
  refine assignInOrder_cons (wpAny_bindName (store_ok I4 hN hi (.inl hx) rv (fun s3 I5 => assignInOrder_nil (wpAny_pure ?_)) (.inr hx)))
  rw [List.set_comm _ _ (Ne.symm hij)] at I5
  exact ⟨_, H1, I5, q1⟩
/-- name op= e -/
def tAug (i : Nat) (te : TE) (ti : TIp) : TS := fun D σ H => ∃ x, σ[i]? = some (some x) ∧ te σ H fun y H1 => ti x y H1 fun z H2 => D.nx (σ.set i (some z)) H2
theorem ps_aug {i : Nat} {x : Str} {e : Expr} {te : TE} {op : Operator} {ti : TIp} {pos' : Pos} (hN : X.N.Nodup) (hi : X.N[i]? = some x) (hx : Loc X.env.scope x) (he : PE X e te) (ho : PIp X op ti) (hf : X.fn x = true ∨ X.env.scope.names.lookup x = some .local := by first | exact .inl rfl | exact .inr rfl | assumption) :
    PS X (.AugAssign (.Name x pos') op e pos) (tAug i te ti) := by
  intro pins s σ H D I h
  obtain ⟨v, e1, h⟩ := h
  obtain ⟨m, hn, hl⟩ := I.loc
  have vis : Vis X.env.scope x := by rcases hx with k | k; exact .inl k; exact .inr (.inl k)
  obtain ⟨u, r, l⟩ := hl i x v hi e1 vis
  refine wpAny_AugAssign_Name ?_
  have go : wpAny (model X.prog X.w) X.A (eval e X.env) (fun w s₂ => wpAny (model X.prog X.w) X.A (inplaceOp op u w) (fun r s₃ => wpAny (model X.prog X.w) X.A (storeName X.env x r) (fun _ => SP X pins D .next) X.xe s₃) X.xe s₂) X.xe s := by
    refine thn (he pins s σ H _ I h) fun w s1 ⟨y, H1, I1, r1, q1⟩ => ?_
    refine thn (ho pins s1 σ H1 v y u w _ I1 r r1 q1) fun z s2 ⟨zv, H2, I2, r2, q2⟩ => ?_
    exact store_ok I2 hN hi hx r2 (fun s3 I3 => ⟨_, H2, I3, q2⟩) hf
  rcases l with ⟨hk, hm⟩ | ⟨hk, c, hc, hcell⟩
  · exact wpAny_loadName_local I.ok.kind hk hn hm go
  · rcases hk with hk | hk
    · exact wpAny_loadName_cell I.ok.kind hk hc hcell go
    · rcases hx with k | k
      · have : X.env.scope.names.lookup x = some .free := hk
        rw [k] at this; cases this
      · have : X.env.scope.names.lookup x = some .free := hk
        rw [k] at this; cases this
/-- o[i] op= e -/
def tAugS (to ti te : TE) (tget : V → V → Hp → VK → Prop) (tip : TIp) (tset : TSet) : TS := fun D σ H => to σ H fun o H1 => ti σ H1 fun i H2 => tget o i H2 fun x H3 => te σ H3 fun y H4 => tip x y H4 fun z H5 => tset o i z H5 fun H6 => D.nx σ H6
/-- o[i], by values -/
def PGet (X : Cx) (t : V → V → Hp → VK → Prop) : Prop :=
  ∀ (pins : List (Addr × Obj)) (s : Shared) (σ : St) (H : Hp) (o i : V) (ov iv : Value) (Q : VK), Inv X pins σ H s → RelV o ov → RelV i iv → t o i H Q →
    wpAny (model X.prog X.w) X.A (getItem ov iv) (EP X pins σ Q) X.xe s
theorem ps_augS {o i e : Expr} {to ti te : TE} {tget : V → V → Hp → VK → Prop} {tip : TIp} {tset : TSet} {op : Operator} {tpos : Pos} (ho : PE X o to) (hi : PE X i ti) (hg : PGet X tget) (he : PE X e te) (hp : PIp X op tip) (hs : PSet X tset)
    (ha : ∀ ov iv new, augStore i ov iv new = (do holding [new, ov, iv] (setItem ov iv new); release [new, ov, iv] []; pure .next) := by intros; rfl) : PS X (.AugAssign (.Subscript o i tpos) op e pos) (tAugS to ti te tget tip tset) := by
  intro pins s σ H D I h
  refine wpAny_AugAssign_SubscriptAny (thn (ho pins s σ H _ I h) fun ov s1 ⟨x1, H1, I1, r1, q1⟩ => ?_) ha
  refine thn (hi pins s1 σ H1 _ I1 q1) fun iv s2 ⟨x2, H2, I2, r2, q2⟩ => ?_
  refine thn (hg pins s2 σ H2 x1 x2 ov iv _ I2 r1 r2 q2) fun old s3 ⟨x3, H3, I3, r3, q3⟩ => ?_
  refine thn (he pins s3 σ H3 _ I3 q3) fun v s4 ⟨x4, H4, I4, r4, q4⟩ => ?_
  refine thn (hp pins s4 σ H4 x3 x4 old v _ I4 r3 r4 q4) fun new s5 ⟨x5, H5, I5, r5, q5⟩ => ?_
  exact thn (hs pins s5 σ H5 x1 x2 x5 ov iv new _ I5 r1 r2 r5 q5) fun _ s6 ⟨H6, I6, q6⟩ => ⟨σ, H6, I6, q6⟩
/-- ints -/
def ipI (f : Int → Int → Int) : TIp := fun x y H Q => ∃ i j, x = .int i ∧ y = .int j ∧ Q (.int (f i j)) H
theorem ip_add : PIp X .Add (ipI fun i j => i + j) := by
  intro pins s σ H x y v u Q I r1 r2 h
  obtain ⟨i, j, e1, e2, q⟩ := h
  subst e1; subst e2
  obtain ⟨t, rfl⟩ := r1
  obtain ⟨t', rfl⟩ := r2
  exact iadd_int ⟨.int _, H, I.tok _, ⟨_, rfl⟩, q⟩
theorem ip_sub : PIp X .Sub (ipI fun i j => i - j) := by
  intro pins s σ H x y v u Q I r1 r2 h
  obtain ⟨i, j, e1, e2, q⟩ := h
  subst e1; subst e2
  obtain ⟨t, rfl⟩ := r1
  obtain ⟨t', rfl⟩ := r2
  exact isub_int ⟨.int _, H, I.tok _, ⟨_, rfl⟩, q⟩
end

/-! ### while -/
section
variable {X : Cx} {pos : Pos}
/-- the invariant W with its measure -/
def tWhile (c : TT) (tb : TS) : TS := fun D σ H => ∃ W : Nat → St → Hp → Prop, (∃ m, W m σ H) ∧ ∀ m σ H, W m σ H →
  c σ H fun b H1 => if b = true then ∃ N : St → Hp → Prop, (∀ σ' H', N σ' H' → ∃ m', m' < m ∧ W m' σ' H') ∧ tb { D with nx := N, ct := N, bk := D.nx } σ H1 else D.nx σ H1
theorem ps_while {c : Expr} {body : List Stmt} {tc : TT} {tb : TS} (hp : PassesOwn (model X.prog X.w) X.A X.env X.xe) (hc : PT X c tc) (hb : PSs X body tb) : PS X (.While c body [] pos) (tWhile tc tb) := by
  intro pins s σ H D I h
  obtain ⟨W, ⟨m0, w0⟩, turn⟩ := h
  refine wpAny_While (codeAny_whileLoop (fun n s' => ∃ σ' H', Inv X pins σ' H' s' ∧ W n σ' H') ?_ m0 ⟨σ, H, I, w0⟩)
  rintro n s1 ⟨σ1, H1, I1, w1⟩
  refine wpAny_passesOwn hp (thn (hc pins s1 σ1 H1 _ I1 (turn n σ1 H1 w1)) fun b s2 ⟨H2, I2, q2⟩ => ?_)
  cases b with
  | true =>
    obtain ⟨N, hN, q2⟩ := q2
    rw [if_pos rfl]
    refine wpAny_passesOwn hp (thn (hb pins s2 σ1 H2 _ I2 q2) fun f s3 q3 => ?_)
    cases f with
    | next =>
      obtain ⟨σ3, H3, I3, n3⟩ := q3
      obtain ⟨m', hm, w3⟩ := hN σ3 H3 n3
      exact ⟨m', hm, σ3, H3, I3, w3⟩
    | cont =>
      obtain ⟨σ3, H3, I3, n3⟩ := q3
      obtain ⟨m', hm, w3⟩ := hN σ3 H3 n3
      exact ⟨m', hm, σ3, H3, I3, w3⟩
    | brk => exact q3
    | ret v => exact q3
  | false =>
    rw [if_neg Bool.false_ne_true]
    exact wpAny_execs_nil ⟨σ1, H2, I2, q2⟩
end

/-! ### what a loop or a comprehension walks -/
/-- at turn i: it yields x (the heap may grow), or it stops -/
structure It where
  go : Nat → Hp → Prop
  yld : Nat → Hp → V → Hp → Prop
  stop : Nat → Hp → Prop
/-- the iterator's own objects may turn: they are not the frame's, not pinned, younger than the entry (or a comprehension's own) -/
def FpOk (X : Cx) (pins : List (Addr × Obj)) (H : Hp) (b : Addr) : Prop :=
  H b = none ∧ b ≠ X.env.locals ∧ b ∉ X.fs ∧ (b ∈ X.ex ∨ X.s₀.heap.objs.size ≤ b) ∧ (∀ x c, X.env.cells.lookup x = some c → c ≠ b) ∧ ∀ p ∈ X.pn ++ pins, p.1 ≠ b
theorem Inv.fpOk {X : Cx} {pins : List (Addr × Obj)} {σ : St} {H H' : Hp} {s : Shared} {b : Addr} (I : Inv X pins σ H s) (hb : s.heap.objs.size ≤ b) (hn : H' b = none) : FpOk X pins H' b := by
  refine ⟨hn, Nat.ne_of_gt (Nat.lt_of_lt_of_le I.lt hb), I.nofs hb, .inr (Nat.le_trans I.sz hb), fun x c e z => ?_, fun p hp z => ?_⟩
  · obtain ⟨v, q⟩ := I.cell x c e
    exact absurd (Nat.lt_of_lt_of_le q.lt (by rw [z]; exact hb)) (Nat.lt_irrefl _)
  · exact absurd (Nat.lt_of_lt_of_le (Heap.lt_size (I.pin p hp).1) (by rw [z]; exact hb)) (Nat.lt_irrefl _)
structure Turn (P : Program) (w : World) (K : PySem.W.Frag) (tg : Expr) (J : It) (fp : List Addr) (it : Addr) (tn : Nat → Heap → Prop) : Prop where
  mem : it ∈ fp
  obj : ∀ i h, tn i h → ∀ b ∈ fp, ∃ o, h.get? b = some o ∧ ∀ v, o.data ≠ .cell v
  keep : ∀ i h h', tn i h → (∀ b ∈ fp, ∀ o, h.get? b = some o → h'.get? b = some o) → tn i h'
  item : ∀ (X : Cx), X.prog = P → X.w = w → X.K = K → X.calm = true → ∀ (i : Nat) (pins : List (Addr × Obj)) (s : Shared) (σ : St) (H : Hp) (E : Value → Shared → Prop), Inv X pins σ H s → (∀ b ∈ fp, FpOk X pins H b) → tn i s.heap → J.go i H →
    wpAny (model P w) X.A (pyNext (.ref it)) (fun r s1 => ∃ u, r = some u ∧
      wpAny (model P w) X.A (letOwnedTupleGo tg (.ref it) u) (fun _ s2 => ∃ x H', Inv X pins σ H' s2 ∧ RelV x u ∧ J.yld i H x H' ∧ tn (i + 1) s2.heap ∧ ∀ b ∈ fp, H' b = none) E s1) E s
  done : ∀ (X : Cx), X.prog = P → X.w = w → X.K = K → X.calm = true → ∀ (i : Nat) (pins : List (Addr × Obj)) (s : Shared) (σ : St) (H : Hp) (E : Value → Shared → Prop), Inv X pins σ H s → (∀ b ∈ fp, FpOk X pins H b) → tn i s.heap → J.stop i H →
    wpAny (model P w) X.A (pyNext (.ref it)) (fun r s1 => r = none ∧ Inv X pins σ H s1) E s
  self : ∀ (A : Around) (i : Nat) (s : Shared) (Q : Value → Shared → Prop) (E : Value → Shared → Prop), tn i s.heap → Q (.ref it) s → wpAny (model P w) A (pyIter (.ref it)) Q E s
abbrev TI := St → Hp → (It → Hp → Prop) → Prop
/-- an iterator has come -/
def PIE (X : Cx) (pins : List (Addr × Obj)) (σ : St) (tg : Expr) (R : It → Hp → Prop) (itv : Value) (s2 : Shared) : Prop :=
  ∃ (it : Addr) (fp : List Addr) (tn : Nat → Heap → Prop) (J : It) (H' : Hp), itv = .ref it ∧ Inv X pins σ H' s2 ∧ Turn X.prog X.w X.K tg J fp it tn ∧ tn 0 s2.heap ∧ (∀ b ∈ fp, FpOk X pins H' b) ∧ R J H'
def PI (X : Cx) (tg iter : Expr) (wi : TI) : Prop :=
  ∀ (pins : List (Addr × Obj)) (s : Shared) (σ : St) (H : Hp) (R : It → Hp → Prop), Inv X pins σ H s → wi σ H R →
    wpAny (model X.prog X.w) X.A (eval iter X.env) (fun v s1 => wpAny (model X.prog X.w) X.A (pyIter v) (PIE X pins σ tg R) X.xe s1) X.xe s

/-- the step ahead of the store is nothing for an iterator that keeps no tuple -/
theorem go_of {M : Model} {A : Around} {E : Value → Shared → Prop} {s : Shared} {tg : Expr} {it : Addr} {u : Value} {o : Obj} {n : String} {vs : Array Value} {Q : Unit → Shared → Prop} (ho : s.heap.get? it = some o) (hc : o.cls = .type n) (hd : o.data = .fields vs)
    (hn : ["enumerate", "zip", "dict_itemiterator", "dict_reverseitemiterator", "odict_iterator", "itertools.zip_longest", "itertools.pairwise"].contains n = false) (hQ : Q () s) : wpAny M A (letOwnedTupleGo tg (.ref it) u) Q E s := by
  unfold letOwnedTupleGo
  cases tg <;> first
    | exact wpAny_pure hQ
    | (cases u <;> first
        | exact wpAny_pure hQ
        | (refine wpAny_bind (wpAny_load ho ?_)
           rw [hc, hd]
           show wpAny M A (if (["enumerate", "zip", "dict_itemiterator", "dict_reverseitemiterator", "odict_iterator", "itertools.zip_longest", "itertools.pairwise"].contains n && vs[0]? == some (rawInt _)) = true then _ else _) Q E s
           rw [if_neg (by intro h; rw [hn, Bool.false_and] at h; cases h)]
           exact wpAny_pure hQ))

/-- the list at a, as it stands at each turn (a loop may append to it) -/
def Itl (K : PySem.W.Frag) (a : Addr) : It :=
  ⟨fun i H => ∃ xs x, SqL K H a xs ∧ xs[i]? = some x, fun i H x H' => H' = H ∧ ∀ xs, SqL K H a xs → xs[i]? = some x, fun i H => ∃ xs, SqL K H a xs ∧ xs.length ≤ i⟩
def Itt (K : PySem.W.Frag) (a : Addr) : It :=
  ⟨fun i H => ∃ xs x, SqT K H a xs ∧ xs[i]? = some x, fun i H x H' => H' = H ∧ ∀ xs, SqT K H a xs → xs[i]? = some x, fun i H => ∃ xs, SqT K H a xs ∧ xs.length ≤ i⟩
/-- lo, lo + 1, .. (n of them) -/
def Itr (lo : Int) (n : Nat) : It := ⟨fun i _ => i < n, fun i H x H' => H' = H ∧ x = .int (lo + i), fun i _ => n ≤ i⟩
theorem turn_list {P : Program} {w : World} {K : PySem.W.Frag} {tg : Expr} (a it : Addr) : Turn P w K tg (Itl K a) [it] it (fun i h => h.IsListIter it a i) where
  mem := by simp
  obj := fun i h st b hb => by
    have e : b = it := by simpa using hb
    subst e
    obtain ⟨o, e, c, d⟩ := st
    exact ⟨o, e, fun v z => by rw [d] at z; cases z⟩
  keep := fun i h h' st k => st.at fun o e => k it (by simp) o e
  item := by
    intro X hP hw hK hc i pins s σ H E I hf st hg
    subst hP hw hK
    obtain ⟨xs, x, hq, hx⟩ := hg
    obtain ⟨its, rv, p, hz⟩ := I.list hq
    obtain ⟨u, hu, ru⟩ := rv.get hx
    obtain ⟨f0, f1, f2, f3, f4, f5⟩ := hf it (by simp)
    refine wpAny_pyNext_list_item st p.isList (x := u) (by simpa using hu) fun h' st' sb => ?_
    have I1 : Inv X pins σ H { s with heap := h' } := I.turned (t' := s.toks) (fun b o hb e => (sb.2 b hb).trans e) f0 f1 f3 f4 f5
    obtain ⟨o, e, c, d⟩ := id st'
    exact ⟨u, rfl, go_of (s := { s with heap := h' }) e c d (by decide) ⟨x, H, I1, ru, ⟨rfl, fun ys hy => by rw [I.list_inj hy hq]; exact hx⟩, st', fun b hb => (hf b hb).1⟩⟩
  done := by
    intro X hP hw hK hc i pins s σ H E I hf st hg
    subst hP hw hK
    obtain ⟨xs, hq, hx⟩ := hg
    obtain ⟨its, rv, p, hz⟩ := I.list hq
    obtain ⟨f0, f1, f2, f3, f4, f5⟩ := hf it (by simp)
    have hl := rv.length
    exact wpAny_pyNext_list_end (I.ok.hd hc) st p.isList (by simp; omega) fun h' eb => ⟨rfl, I.turned (t' := s.toks) (fun b o hb e => eb b o hb e) f0 f1 f3 f4 f5⟩
  self := fun _ _ _ _ _ st h => wpAny_pyIter_listiter st h
theorem turn_tuple {P : Program} {w : World} {K : PySem.W.Frag} {tg : Expr} (a it : Addr) : Turn P w K tg (Itt K a) [it] it (fun i h => h.IsTupleIter it a i) where
  mem := by simp
  obj := fun i h st b hb => by
    have e : b = it := by simpa using hb
    subst e
    obtain ⟨o, e, c, d⟩ := st
    exact ⟨o, e, fun v z => by rw [d] at z; cases z⟩
  keep := fun i h h' st k => st.at fun o e => k it (by simp) o e
  item := by
    intro X hP hw hK hc i pins s σ H E I hf st hg
    subst hP hw hK
    obtain ⟨xs, x, hq, hx⟩ := hg
    obtain ⟨its, rv, p, hz⟩ := I.tuple hq
    obtain ⟨u, hu, ru⟩ := rv.get hx
    obtain ⟨f0, f1, f2, f3, f4, f5⟩ := hf it (by simp)
    refine wpAny_pyNext_tuple_item st (show s.heap.IsTuple a its.toArray from p) (x := u) (by simpa using hu) fun h' st' sb => ?_
    have I1 : Inv X pins σ H { s with heap := h' } := I.turned (t' := s.toks) (fun b o hb e => (sb.2 b hb).trans e) f0 f1 f3 f4 f5
    obtain ⟨o, e, c, d⟩ := id st'
    exact ⟨u, rfl, go_of (s := { s with heap := h' }) e c d (by decide) ⟨x, H, I1, ru, ⟨rfl, fun ys hy => by rw [I.tuple_inj hy hq]; exact hx⟩, st', fun b hb => (hf b hb).1⟩⟩
  done := by
    intro X hP hw hK hc i pins s σ H E I hf st hg
    subst hP hw hK
    obtain ⟨xs, hq, hx⟩ := hg
    obtain ⟨its, rv, p, hz⟩ := I.tuple hq
    obtain ⟨f0, f1, f2, f3, f4, f5⟩ := hf it (by simp)
    have hl := rv.length
    exact wpAny_pyNext_tuple_end (I.ok.hd hc) st (show s.heap.IsTuple a its.toArray from p) (by simp; omega) fun h' eb => ⟨rfl, I.turned (t' := s.toks) (fun b o hb e => eb b o hb e) f0 f1 f3 f4 f5⟩
  self := fun _ _ _ _ _ st h => wpAny_pyIter_tupleiter st h
theorem turn_range {P : Program} {w : World} {K : PySem.W.Frag} {tg : Expr} (it : Addr) (lo : Int) (n : Nat) : Turn P w K tg (Itr lo n) [it] it (fun i h => IsRangeIter h it (lo + (i : Nat) * 1) ((n : Int) - (i : Nat)) 1) where
  mem := by simp
  obj := fun i h st b hb => by
    have e : b = it := by simpa using hb
    subst e
    exact ⟨_, st, fun v z => by
      have z' : Data.fields _ = Data.cell v := z
      cases z'⟩
  keep := fun i h h' st k => k it (by simp) _ st
  item := by
    intro X hP hw hK hc i pins s σ H E I hf st hg
    subst hP hw hK
    obtain ⟨f0, f1, f2, f3, f4, f5⟩ := hf it (by simp)
    have W := Walks.range (prog := X.prog) (w := X.w) (I.ok.hd hc) it lo 1 n
    refine W.item i s _ _ hg st fun v h' tk hv st' kk => ?_
    obtain ⟨t, rfl⟩ := hv
    have I1 : Inv X pins σ H { s with heap := h', toks := tk } := I.turned (fun b o hb e => kk b o (by simpa using hb) e) f0 f1 f3 f4 f5
    refine ⟨_, rfl, go_of (s := { s with heap := h', toks := tk }) (n := "range_iterator") st' rfl rfl (by decide) ⟨.int (lo + i), H, I1, ⟨t, ?_⟩, ⟨rfl, rfl⟩, st', fun b hb => (hf b hb).1⟩⟩
    rw [Int.mul_one]
  done := by
    intro X hP hw hK hc i pins s σ H E I hf st hg
    subst hP hw hK
    obtain ⟨f0, f1, f2, f3, f4, f5⟩ := hf it (by simp)
    exact wpAny_pyNext_range_end (I.ok.hd hc) st (by have : n ≤ i := hg; omega) fun h' eb => ⟨rfl, I.turned (t' := s.toks) (fun b o hb e => eb b o hb e) f0 f1 f3 f4 f5⟩
  self := fun _ _ _ _ _ st h => wpAny_pyIter_rangeiter st h
end L2

namespace L2
open PySem PySem.Spec PyProof.Rows
section
variable {X : Cx} {tg : Expr}
def iList (K : PySem.W.Frag) (tl : TE) : TI := fun σ H R => tl σ H fun x H1 => ∃ a, x = .ref a ∧ (∃ xs, SqL K H1 a xs) ∧ R (Itl K a) H1
def iTup (K : PySem.W.Frag) (tl : TE) : TI := fun σ H R => tl σ H fun x H1 => ∃ a, x = .ref a ∧ (∃ xs, SqT K H1 a xs) ∧ R (Itt K a) H1
theorem pi_list {l : Expr} {tl : TE} (hl : PE X l tl) : PI X tg l (iList X.K tl) := by
  intro pins s σ H R I h
  refine thn (hl pins s σ H _ I h) fun v s1 ⟨x, H1, I1, r1, q1⟩ => ?_
  obtain ⟨a, e, ⟨xs, hq⟩, q⟩ := q1
  subst e
  cases r1
  obtain ⟨its, rv, p, hz⟩ := I1.list hq
  refine wpAny_pyIter_list p.isList ?_
  refine ⟨s1.heap.objs.size, [s1.heap.objs.size], _, _, H1, rfl, I1.kept (t' := s1.toks) fun b o e => Heap.get?_push_of_some _ e, turn_list a _, ⟨_, Heap.get?_push_size _ rfl, rfl, rfl⟩, fun b hb => ?_, q⟩
  have e : b = s1.heap.objs.size := by simpa using hb
  subst e
  exact I1.fpOk (Nat.le_refl _) (I1.hok.fresh (Nat.le_refl _))
theorem pi_tup {l : Expr} {tl : TE} (hl : PE X l tl) : PI X tg l (iTup X.K tl) := by
  intro pins s σ H R I h
  refine thn (hl pins s σ H _ I h) fun v s1 ⟨x, H1, I1, r1, q1⟩ => ?_
  obtain ⟨a, e, ⟨xs, hq⟩, q⟩ := q1
  subst e
  cases r1
  obtain ⟨its, rv, p, hz⟩ := I1.tuple hq
  refine wpAny_pyIter_tuple (show s1.heap.IsTuple a its.toArray from p) ?_
  refine ⟨s1.heap.objs.size, [s1.heap.objs.size], _, _, H1, rfl, I1.kept (t' := s1.toks) fun b o e => Heap.get?_push_of_some _ e, turn_tuple a _, ⟨_, Heap.get?_push_size _ rfl, rfl, rfl⟩, fun b hb => ?_, q⟩
  have e : b = s1.heap.objs.size := by simpa using hb
  subst e
  exact I1.fpOk (Nat.le_refl _) (I1.hok.fresh (Nat.le_refl _))
/-- a range object just made, walked -/
theorem range_it {pins : List (Addr × Obj)} {σ : St} {H : Hp} {s : Shared} {R : It → Hp → Prop} {E : Value → Shared → Prop} {lo hi : Int} {t u v : Tok} {tk : Nat} (I : Inv X pins σ H s) (h1 : -(2 ^ 62) ≤ lo) (h2 : lo < 2 ^ 62) (h3 : -(2 ^ 62) ≤ hi) (h4 : hi < 2 ^ 62)
    (q : R (Itr lo (hi - lo).toNat) H) : wpAny (model X.prog X.w) X.A (pyIter (.ref s.heap.objs.size)) (PIE X pins σ tg R) E { s with heap := s.heap.push { cls := .type "range", data := .fields #[.int lo t, .int hi u, .int 1 v] }, toks := tk } := by
  refine wpAny_pyIter_range (IsRange.new ..) (small_one h1 h2 h3 h4) ?_
  have I1 : Inv X pins σ H { s with heap := s.heap.push { cls := .type "range", data := .fields #[.int lo t, .int hi u, .int 1 v] }, toks := tk } := I.kept fun b o e => Heap.get?_push_of_some _ e
  refine ⟨(s.heap.push { cls := .type "range", data := .fields #[.int lo t, .int hi u, .int 1 v] }).objs.size, [(s.heap.push { cls := .type "range", data := .fields #[.int lo t, .int hi u, .int 1 v] }).objs.size], _, _, H, rfl,
    I1.kept (t' := tk) fun b o e => Heap.get?_push_of_some _ e, turn_range _ lo (hi - lo).toNat, ?_, fun b hb => ?_, q⟩
  · have e1 : lo + ((0 : Nat) : Int) * 1 = lo := by simp
    have e2 : (((hi - lo).toNat : Nat) : Int) - ((0 : Nat) : Int) = Builtin.Range.rangeSize lo hi 1 := by rw [rangeSize_one]; split <;> omega
    show IsRangeIter _ _ (lo + ((0 : Nat) : Int) * 1) ((((hi - lo).toNat : Nat) : Int) - ((0 : Nat) : Int)) 1
    rw [e1, e2]
    exact Heap.get?_push_size _ rfl
  · have e : b = (s.heap.push { cls := .type "range", data := .fields #[.int lo t, .int hi u, .int 1 v] }).objs.size := by simpa using hb
    subst e
    exact I1.fpOk (Nat.le_refl _) (I1.hok.fresh (Nat.le_refl _))
def iRng1 (ta : TA) : TI := fun σ H R => ta σ H fun vs H1 => ∃ j : Int, vs = [.int j] ∧ -(2 ^ 62) ≤ j ∧ j < 2 ^ 62 ∧ R (Itr 0 j.toNat) H1
def iRng2 (ta : TA) : TI := fun σ H R => ta σ H fun vs H1 => ∃ i j : Int, vs = [.int i, .int j] ∧ (-(2 ^ 62) ≤ i ∧ i < 2 ^ 62 ∧ -(2 ^ 62) ≤ j ∧ j < 2 ^ 62) ∧ R (Itr i (j - i).toNat) H1
theorem pi_range1 {a : Expr} {ta : TA} {p pos : Pos} (hg : Gl X "range") (hm : X.mg "range" = none) (ha : PA X [a] ta) (hs : starEach [a] X.env = [(false, eval a X.env)] := by rfl) : PI X tg (.Call (.Name "range" p) [a] [] pos) (iRng1 ta) := by
  intro pins s σ H R I h
  refine Call_ (ld_blt I hg hm boot_range (PyProof.Rows.callWith_type1 (thn (ha pos pins s σ H _ I h) fun us s1 ⟨vs, H1, I1, r1, q1⟩ => ?_) hs rfl))
  obtain ⟨j, e, q1, q2, q⟩ := q1
  subst e
  cases r1 with
  | cons r rr =>
    cases rr
    obtain ⟨t, rfl⟩ := r
    exact call_range_1 (range_it I1 (by omega) (by omega) q1 q2 (by simpa using q))
theorem pi_range2 {a b : Expr} {ta : TA} {p pos : Pos} (hg : Gl X "range") (hm : X.mg "range" = none) (ha : PA X [a, b] ta) (hs : starEach [a, b] X.env = [(false, eval a X.env), (false, eval b X.env)] := by rfl) (hs2 : starEach [b] X.env = [(false, eval b X.env)] := by rfl) :
    PI X tg (.Call (.Name "range" p) [a, b] [] pos) (iRng2 ta) := by
  intro pins s σ H R I h
  refine Call_ (ld_blt I hg hm boot_range (PyProof.Rows.callWith_type1 (thn (ha pos pins s σ H _ I h) fun us s1 ⟨vs, H1, I1, r1, q1⟩ => ?_) (by rw [hs, hs2]) (by rw [hs2]; rfl)))
  obtain ⟨i, j, e, ⟨q1, q2, q3, q4⟩, q⟩ := q1
  subst e
  cases r1 with
  | cons r rr =>
    cases rr with
    | cons r' rr =>
      cases rr
      obtain ⟨t, rfl⟩ := r
      obtain ⟨t', rfl⟩ := r'
      exact call_range_2 (range_it I1 q1 q2 q3 q4 q)

/-! ### for -/
/-- W: the invariant by the turn and a measure; N: what the body is to reach -/
def tFor (wi : TI) (g : TG) (tb : TS) : TS := fun D σ H => wi σ H fun J H1 => ∃ W : Nat → Nat → St → Hp → Prop, (∃ m, W 0 m σ H1) ∧ ∀ i m σ H, W i m σ H →
  (J.stop i H ∧ D.nx σ H) ∨ (J.go i H ∧ ∃ N : St → Hp → Prop, (∀ σ' H', N σ' H' → ∃ m', m' < m ∧ W (i + 1) m' σ' H') ∧ ∀ x H', J.yld i H x H' → g x σ H' fun σ2 H2 => tb { D with nx := N, ct := N, bk := D.nx } σ2 H2)
/-- the records at fp as they stand -/
def pinsAt (fp : List Addr) (h : Heap) : List (Addr × Obj) := fp.filterMap fun b => (h.get? b).map fun o => (b, o)
theorem mem_pinsAt {fp : List Addr} {h : Heap} {b : Addr} {o : Obj} (hb : b ∈ fp) (e : h.get? b = some o) : (b, o) ∈ pinsAt fp h := List.mem_filterMap.mpr ⟨b, hb, by rw [e]; rfl⟩
theorem of_pinsAt {fp : List Addr} {h : Heap} {p : Addr × Obj} (hp : p ∈ pinsAt fp h) : p.1 ∈ fp ∧ h.get? p.1 = some p.2 := by
  obtain ⟨b, hb, e⟩ := List.mem_filterMap.mp hp
  cases q : h.get? b with
  | none => rw [q] at e; cases e
  | some o =>
    rw [q] at e
    have e' : (b, o) = p := Option.some.inj e
    subst e'
    exact ⟨hb, q⟩
theorem Inv.pinned {pins : List (Addr × Obj)} {σ : St} {H : Hp} {s : Shared} {fp : List Addr} (I : Inv X pins σ H s) (hf : ∀ b ∈ fp, FpOk X pins H b) (ho : ∀ b ∈ fp, ∃ o, s.heap.get? b = some o ∧ ∀ v, o.data ≠ .cell v) : Inv X (pins ++ pinsAt fp s.heap) σ H s :=
  I.pins_of fun p hp => (List.mem_append.mp hp).elim (fun z => I.pin p (List.mem_append_right _ z)) fun z => by
    obtain ⟨hb, e⟩ := of_pinsAt z
    obtain ⟨f0, f1, f2, _⟩ := hf p.1 hb
    obtain ⟨o, e', d⟩ := ho p.1 hb
    rw [e] at e'; cases e'
    exact ⟨e, f0, f1, f2, d⟩
theorem Inv.unpinned {pins pl : List (Addr × Obj)} {σ : St} {H : Hp} {s : Shared} (I : Inv X (pins ++ pl) σ H s) : Inv X pins σ H s := I.pins_of fun p hp => I.pin p (List.mem_append_right _ (List.mem_append_left _ hp))
theorem ps_for {iter : Expr} {body : List Stmt} {wi : TI} {g : TG} {tb : TS} {pos : Pos} (hp : PassesOwn (model X.prog X.w) X.A X.env X.xe) (hc : X.calm = true) (hi : PI X tg iter wi) (hg : PG X tg g) (hb : PSs X body tb)
    (hs : ∀ x, foldedSetIterable iter X.env x = pure x := by intro _; rfl) : PS X (.For tg iter body [] pos) (tFor wi g tb) := by
  intro pins s σ H D I h
  refine wpAny_For (thn (hi pins s σ H _ I h) fun v s1 h1 => thn h1 fun itv s2 h2 => ?_) hs
  obtain ⟨it, fp, tn, J, H2, e, I2, T, st2, f2, W, ⟨m0, w0⟩, turn⟩ := h2
  subst e
  -- what stays true of the iterator's objects through the loop
  have stat : ∀ {H' : Hp}, (∀ b ∈ fp, H' b = none) → ∀ b ∈ fp, FpOk X pins H' b := fun hn b hb => ⟨hn b hb, (f2 b hb).2⟩
  refine codeAny_forLoop_any (fun n s' => ∃ i σ' H', Inv X pins σ' H' s' ∧ tn i s'.heap ∧ (∀ b ∈ fp, H' b = none) ∧ W i n σ' H') ?_ m0 ⟨0, σ, H2, I2, st2, fun b hb => (f2 b hb).1, w0⟩
  rintro n s3 ⟨i, σ3, H3, I3, st3, fr3, w3⟩
  rcases turn i n σ3 H3 w3 with ⟨stop, qn⟩ | ⟨go, N, hN, step⟩
  · refine wpAny_passesOwn hp (thn (T.done X rfl rfl rfl hc i pins s3 σ3 H3 X.xe I3 (stat fr3) st3 stop) fun r s4 ⟨hr, I4⟩ => ?_)
    subst hr
    exact wpAny_execs_nil ⟨σ3, H3, I4, qn⟩
  · refine wpAny_passesOwn hp (thn (T.item X rfl rfl rfl hc i pins s3 σ3 H3 X.xe I3 (stat fr3) st3 go) fun r s4 ⟨u, hr, h4⟩ => ?_)
    subst hr
    refine wpAny_passesOwn hp (thn h4 fun _ s5 ⟨x, H5, I5, r5, y5, st5, fr5⟩ => ?_)
    have I5' := I5.pinned (stat fr5) (T.obj _ _ st5)
    refine wpAny_passesOwn hp (thn (hg _ s5 σ3 H5 x u _ I5' r5 (step x H5 y5)) fun _ s6 ⟨σ6, H6, I6, q6⟩ => ?_)
    refine wpAny_passesOwn hp (thn (hb _ s6 σ6 H6 _ I6 q6) fun f s7 q7 => ?_)
    have again : ∀ {σ7 : St} {H7 : Hp}, Inv X (pins ++ pinsAt fp s5.heap) σ7 H7 s7 → N σ7 H7 → ∃ m, m < n ∧ ∃ i σ' H', Inv X pins σ' H' s7 ∧ tn i s7.heap ∧ (∀ b ∈ fp, H' b = none) ∧ W i m σ' H' := fun {σ7 H7} I7 n7 => by
      obtain ⟨m', hm, w7⟩ := hN σ7 H7 n7
      refine ⟨m', hm, i + 1, σ7, H7, I7.unpinned, T.keep _ _ _ st5 fun b hb o e => (I7.pin (b, o) (List.mem_append_right _ (List.mem_append_right _ (mem_pinsAt hb e)))).1, fun b hb => ?_, w7⟩
      obtain ⟨o, e, d⟩ := T.obj _ _ st5 b hb
      exact (I7.pin (b, o) (List.mem_append_right _ (List.mem_append_right _ (mem_pinsAt hb e)))).2.1
    cases f with
    | next => obtain ⟨σ7, H7, I7, n7⟩ := q7; exact again I7 n7
    | cont => obtain ⟨σ7, H7, I7, n7⟩ := q7; exact again I7 n7
    | brk => obtain ⟨σ7, H7, I7, q7⟩ := q7; exact ⟨σ7, H7, I7.unpinned, q7⟩
    | ret v => obtain ⟨x7, σ7, H7, I7, r7, q7⟩ := q7; exact ⟨x7, σ7, H7, I7.unpinned, r7, q7⟩
end

/-! ### the forms one uses -/
/-- over a list that the body leaves as it is -/
theorem for_list {K : PySem.W.Frag} {a : Addr} {xs : List V} {g : TG} {tb : TS} {D : Ends} {σ : St} {H : Hp} (Pv : Nat → St → Hp → Prop) (h0 : Pv 0 σ H) (hl : ∀ i σ H, i ≤ xs.length → Pv i σ H → SqL K H a xs)
    (hs : ∀ i x σ H, xs[i]? = some x → Pv i σ H → g x σ H fun σ2 H2 => tb { D with nx := Pv (i + 1), ct := Pv (i + 1), bk := D.nx } σ2 H2) (hd : ∀ σ H, Pv xs.length σ H → D.nx σ H) :
    ∃ W : Nat → Nat → St → Hp → Prop, (∃ m, W 0 m σ H) ∧ ∀ i m σ H, W i m σ H →
      ((Itl K a).stop i H ∧ D.nx σ H) ∨ ((Itl K a).go i H ∧ ∃ N : St → Hp → Prop, (∀ σ' H', N σ' H' → ∃ m', m' < m ∧ W (i + 1) m' σ' H') ∧ ∀ x H', (Itl K a).yld i H x H' → g x σ H' fun σ2 H2 => tb { D with nx := N, ct := N, bk := D.nx } σ2 H2) := by
  refine ⟨fun i m σ H => m = xs.length - i ∧ i ≤ xs.length ∧ Pv i σ H, ⟨xs.length, by simp, Nat.zero_le _, h0⟩, ?_⟩
  rintro i m σ H ⟨rfl, hi, p⟩
  have q := hl i σ H hi p
  by_cases hlt : i < xs.length
  · refine .inr ⟨⟨xs, xs[i], q, by simp [hlt]⟩, Pv (i + 1), fun σ' H' p' => ⟨xs.length - (i + 1), by omega, rfl, hlt, p'⟩, fun x H' y => ?_⟩
    obtain ⟨e, y⟩ := y
    subst e
    exact hs i x σ _ (y xs q) p
  · have e : i = xs.length := by omega
    subst e
    exact .inl ⟨⟨xs, q, Nat.le_refl _⟩, hd σ H p⟩
theorem for_tup {K : PySem.W.Frag} {a : Addr} {xs : List V} {g : TG} {tb : TS} {D : Ends} {σ : St} {H : Hp} (Pv : Nat → St → Hp → Prop) (h0 : Pv 0 σ H) (hl : ∀ i σ H, i ≤ xs.length → Pv i σ H → SqT K H a xs)
    (hs : ∀ i x σ H, xs[i]? = some x → Pv i σ H → g x σ H fun σ2 H2 => tb { D with nx := Pv (i + 1), ct := Pv (i + 1), bk := D.nx } σ2 H2) (hd : ∀ σ H, Pv xs.length σ H → D.nx σ H) :
    ∃ W : Nat → Nat → St → Hp → Prop, (∃ m, W 0 m σ H) ∧ ∀ i m σ H, W i m σ H →
      ((Itt K a).stop i H ∧ D.nx σ H) ∨ ((Itt K a).go i H ∧ ∃ N : St → Hp → Prop, (∀ σ' H', N σ' H' → ∃ m', m' < m ∧ W (i + 1) m' σ' H') ∧ ∀ x H', (Itt K a).yld i H x H' → g x σ H' fun σ2 H2 => tb { D with nx := N, ct := N, bk := D.nx } σ2 H2) := by
  refine ⟨fun i m σ H => m = xs.length - i ∧ i ≤ xs.length ∧ Pv i σ H, ⟨xs.length, by simp, Nat.zero_le _, h0⟩, ?_⟩
  rintro i m σ H ⟨rfl, hi, p⟩
  have q := hl i σ H hi p
  by_cases hlt : i < xs.length
  · refine .inr ⟨⟨xs, xs[i], q, by simp [hlt]⟩, Pv (i + 1), fun σ' H' p' => ⟨xs.length - (i + 1), by omega, rfl, hlt, p'⟩, fun x H' y => ?_⟩
    obtain ⟨e, y⟩ := y
    subst e
    exact hs i x σ _ (y xs q) p
  · have e : i = xs.length := by omega
    subst e
    exact .inl ⟨⟨xs, q, Nat.le_refl _⟩, hd σ H p⟩
theorem for_range {lo : Int} {n : Nat} {g : TG} {tb : TS} {D : Ends} {σ : St} {H : Hp} (Pv : Nat → St → Hp → Prop) (h0 : Pv 0 σ H)
    (hs : ∀ i σ H, i < n → Pv i σ H → g (.int (lo + i)) σ H fun σ2 H2 => tb { D with nx := Pv (i + 1), ct := Pv (i + 1), bk := D.nx } σ2 H2) (hd : ∀ σ H, Pv n σ H → D.nx σ H) :
    ∃ W : Nat → Nat → St → Hp → Prop, (∃ m, W 0 m σ H) ∧ ∀ i m σ H, W i m σ H →
      ((Itr lo n).stop i H ∧ D.nx σ H) ∨ ((Itr lo n).go i H ∧ ∃ N : St → Hp → Prop, (∀ σ' H', N σ' H' → ∃ m', m' < m ∧ W (i + 1) m' σ' H') ∧ ∀ x H', (Itr lo n).yld i H x H' → g x σ H' fun σ2 H2 => tb { D with nx := N, ct := N, bk := D.nx } σ2 H2) := by
  refine ⟨fun i m σ H => m = n - i ∧ i ≤ n ∧ Pv i σ H, ⟨n, by simp, Nat.zero_le _, h0⟩, ?_⟩
  rintro i m σ H ⟨rfl, hi, p⟩
  by_cases hlt : i < n
  · refine .inr ⟨hlt, Pv (i + 1), fun σ' H' p' => ⟨n - (i + 1), by omega, rfl, hlt, p'⟩, fun x H' y => ?_⟩
    obtain ⟨e, y⟩ := y
    subst e y
    exact hs i σ _ hlt p
  · have e : i = n := by omega
    subst e
    exact .inl ⟨Nat.le_refl _, hd σ H p⟩
/-- while, by a word and a measure of the state -/
theorem while_by {c : TT} {tb : TS} {D : Ends} {σ : St} {H : Hp} (Pv : St → Hp → Prop) (μ : St → Hp → Nat) (h0 : Pv σ H)
    (hs : ∀ σ H, Pv σ H → c σ H fun b H1 => if b = true then tb { D with nx := fun σ' H' => Pv σ' H' ∧ μ σ' H' < μ σ H, ct := fun σ' H' => Pv σ' H' ∧ μ σ' H' < μ σ H, bk := D.nx } σ H1 else D.nx σ H1)
    (mono : ∀ σ H Q Q', (∀ b H1, Q b H1 → Q' b H1) → c σ H Q → c σ H Q') : tWhile c tb D σ H := by
  refine ⟨fun m σ H => m = μ σ H ∧ Pv σ H, ⟨_, rfl, h0⟩, ?_⟩
  rintro m σ H ⟨rfl, p⟩
  refine mono σ H _ _ (fun b H1 q => ?_) (hs σ H p)
  cases b with
  | true => exact ⟨_, fun σ' H' ⟨p', l⟩ => ⟨_, l, rfl, p'⟩, q⟩
  | false => exact q
end L2

namespace L2
open PySem PySem.Spec PyProof.Rows

abbrev R2 := V → V → Hp → VK → Prop
/-- a two-place operation on values: f is binaryOp op, inplaceOp op or compareOp op -/
def OpR (X : Cx) (f : Value → Value → Sem Value) (r : R2) : Prop :=
  ∀ (pins : List (Addr × Obj)) (s : Shared) (σ : St) (H : Hp) (x y : V) (v u : Value) (Q : VK), Inv X pins σ H s → RelV x v → RelV y u → r x y H Q →
    wpAny (model X.prog X.w) X.A (f v u) (EP X pins σ Q) X.xe s
/-- a one-place operation -/
def UnR (X : Cx) (f : Value → Sem Value) (r : V → Hp → VK → Prop) : Prop :=
  ∀ (pins : List (Addr × Obj)) (s : Shared) (σ : St) (H : Hp) (x : V) (v : Value) (Q : VK), Inv X pins σ H s → RelV x v → r x H Q →
    wpAny (model X.prog X.w) X.A (f v) (EP X pins σ Q) X.xe s
/-- a call of a value that is known (a builtin, a type) with values -/
def CallR (X : Cx) (f : Value) (r : List V → Hp → VK → Prop) : Prop :=
  ∀ (pins : List (Addr × Obj)) (s : Shared) (σ : St) (H : Hp) (xs : List V) (us : List Value) (Q : VK), Inv X pins σ H s → Vals xs us → r xs H Q →
    wpAny (model X.prog X.w) X.A (call f us) (EP X pins σ Q) X.xe s
/-- a value's truth -/
def TruR (X : Cx) (r : V → Hp → (Bool → Hp → Prop) → Prop) : Prop :=
  ∀ (pins : List (Addr × Obj)) (s : Shared) (σ : St) (H : Hp) (x : V) (v : Value) (Q : Bool → Hp → Prop), Inv X pins σ H s → RelV x v → r x H Q →
    wpAny (model X.prog X.w) X.A (truthy v) (TP X pins σ Q) X.xe s

def tOp (r : R2) (ta tb : TE) : TE := fun σ H Q => ta σ H fun x H1 => tb σ H1 fun y H2 => r x y H2 Q
def tUn (r : V → Hp → VK → Prop) (ta : TE) : TE := fun σ H Q => ta σ H fun x H1 => r x H1 Q
/-- ints in, under C, and a value out -/
def rI (C : Int → Int → Prop) (g : Int → Int → V) : R2 := fun x y H Q => ∃ i j, x = .int i ∧ y = .int j ∧ C i j ∧ Q (g i j) H
def rI0 (g : Int → Int → V) : R2 := fun x y H Q => ∃ i j, x = .int i ∧ y = .int j ∧ Q (g i j) H
def rU (g : Int → V) : V → Hp → VK → Prop := fun x H Q => ∃ i, x = .int i ∧ Q (g i) H

section
variable {X : Cx} {a b c : Expr} {ta tb tc : TE} {pos : Pos}

theorem binT (ha : PE X a ta) (hb : PE X b tb) {pins : List (Addr × Obj)} {s : Shared} {σ : St} {H : Hp} {R : V → V → Hp → Prop} (I : Inv X pins σ H s)
    (h : ta σ H fun x H1 => tb σ H1 fun y H2 => R x y H2) {Q : Value → Shared → Prop} {f : Value → Value → Sem Value}
    (hf : ∀ v u s2 x y H2, Inv X pins σ H2 s2 → RelV x v → RelV y u → R x y H2 → wpAny (model X.prog X.w) X.A (f v u) Q X.xe s2) :
    wpAny (model X.prog X.w) X.A (eval a X.env) (fun v s₁ => wpAny (model X.prog X.w) X.A (eval b X.env) (fun u s₂ => wpAny (model X.prog X.w) X.A (f v u) Q X.xe s₂) X.xe s₁) X.xe s := by
  refine thn (ha pins s σ H _ I h) fun v s1 ⟨x, H1, I1, r1, q1⟩ => ?_
  refine thn (hb pins s1 σ H1 _ I1 q1) fun u s2 ⟨y, H2, I2, r2, q2⟩ => ?_
  exact hf v u s2 x y H2 I2 r1 r2 q2

theorem pe_op {op : Operator} {r : R2} (ho : OpR X (binaryOp op) r) (ha : PE X a ta) (hb : PE X b tb) : PE X (.BinOp a op b pos) (tOp r ta tb) := by
  intro pins s σ H Q I h
  exact wpAny_BinOp (binT ha hb I h fun v u s2 x y H2 I2 rx ry q => ho pins s2 σ H2 x y v u Q I2 rx ry q)
theorem pe_un {op : UnaryOp} {r : V → Hp → VK → Prop} (ho : UnR X (unaryOp op) r) (ha : PE X a ta) : PE X (.UnaryOp op a pos) (tUn r ta) := by
  intro pins s σ H Q I h
  exact UnaryOp_ (thn (ha pins s σ H _ I h) fun v s1 ⟨x, H1, I1, r1, q1⟩ => ho pins s1 σ H1 x v Q I1 r1 q1)
/-- a op= e at a name: the name's slot i -/
theorem augR {op : Operator} {r : R2} (ho : OpR X (inplaceOp op) r) {pins : List (Addr × Obj)} {s : Shared} {σ : St} {H : Hp} {x y : V} {v u : Value} {Q : VK} (I : Inv X pins σ H s)
    (rx : RelV x v) (ry : RelV y u) (q : r x y H Q) : wpAny (model X.prog X.w) X.A (inplaceOp op v u) (EP X pins σ Q) X.xe s := ho pins s σ H x y v u Q I rx ry q

/-! ### ints -/
theorem opI {f : Value → Value → Sem Value} {C : Int → Int → Prop} {g : Int → Int → Int}
    (rule : ∀ (i j : Int) (t u : Tok) (s : Shared) (Q : Value → Shared → Prop) (E : Value → Shared → Prop), C i j → Q (.int (g i j) s.toks) { s with toks := s.toks + 1 } → wpAny (model X.prog X.w) X.A (f (.int i t) (.int j u)) Q E s) :
    OpR X f (rI C fun i j => .int (g i j)) := by
  intro pins s σ H x y v u Q I rx ry h
  obtain ⟨i, j, rfl, rfl, hc, q⟩ := h
  obtain ⟨t, rfl⟩ := rx
  obtain ⟨t', rfl⟩ := ry
  exact rule i j t t' s _ _ hc ⟨.int (g i j), H, I.tok _, ⟨_, rfl⟩, q⟩
theorem opI0 {f : Value → Value → Sem Value} {g : Int → Int → Int}
    (rule : ∀ (i j : Int) (t u : Tok) (s : Shared) (Q : Value → Shared → Prop) (E : Value → Shared → Prop), Q (.int (g i j) s.toks) { s with toks := s.toks + 1 } → wpAny (model X.prog X.w) X.A (f (.int i t) (.int j u)) Q E s) :
    OpR X f (rI0 fun i j => .int (g i j)) := by
  intro pins s σ H x y v u Q I rx ry h
  obtain ⟨i, j, rfl, rfl, q⟩ := h
  obtain ⟨t, rfl⟩ := rx
  obtain ⟨t', rfl⟩ := ry
  exact rule i j t t' s _ _ ⟨.int (g i j), H, I.tok _, ⟨_, rfl⟩, q⟩
theorem opB0 {f : Value → Value → Sem Value} {g : Int → Int → Bool}
    (rule : ∀ (i j : Int) (t u : Tok) (s : Shared) (Q : Value → Shared → Prop) (E : Value → Shared → Prop), Q (.bool (g i j)) s → wpAny (model X.prog X.w) X.A (f (.int i t) (.int j u)) Q E s) :
    OpR X f (rI0 fun i j => .bl (g i j)) := by
  intro pins s σ H x y v u Q I rx ry h
  obtain ⟨i, j, rfl, rfl, q⟩ := h
  obtain ⟨t, rfl⟩ := rx
  obtain ⟨t', rfl⟩ := ry
  exact rule i j t t' s _ _ ⟨.bl (g i j), H, I, rfl, q⟩

def CDiv (i j : Int) : Prop := 0 < j ∧ j < 1073741824
def CDivN (i j : Int) : Prop := j ≠ 0 ∧ j.natAbs < 1073741824
def CPow (i j : Int) : Prop := 0 ≤ j ∧ j ≤ 1000000 ∧ i.natAbs < 2 ^ 64
def CMul (i j : Int) : Prop := (-(2 ^ 64) < i ∧ i < 2 ^ 64) ∨ (-(2 ^ 64) < j ∧ j < 2 ^ 64)
theorem CMul.ok {i j : Int} (h : CMul i j) : IntMulOk i j := by
  rcases h with ⟨h1, h2⟩ | ⟨h1, h2⟩
  · exact .of_left (intBits_le_64 h1 h2)
  · exact .of_right (intBits_le_64 h1 h2)
theorem two_pow_nn (k : Nat) : (0 : Int) ≤ 2 ^ k := by
  rw [two_pow_cast]
  exact Int.natCast_nonneg _

theorem op_add : OpR X (binaryOp .Add) (rI0 fun i j => .int (i + j)) := opI0 fun _ _ _ _ _ _ _ q => add_int q
theorem op_sub : OpR X (binaryOp .Sub) (rI0 fun i j => .int (i - j)) := opI0 fun _ _ _ _ _ _ _ q => sub_int q
theorem op_mul : OpR X (binaryOp .Mult) (rI CMul fun i j => .int (i * j)) := opI fun _ _ _ _ _ _ _ hc q => mul_int q hc.ok
/-- // by a positive divisor -/
theorem op_fdiv : OpR X (binaryOp .FloorDiv) (rI CDiv fun i j => .int (i / j)) := opI fun i j _ _ _ _ _ hc q => by
  have h1 : (0 : Int) < j := hc.1
  have h2 : j < 1073741824 := hc.2
  exact floordiv_int (by omega) (by rw [Int.fdiv_eq_ediv_of_nonneg i (by omega)]; exact q) (.inl (PyProof.noPylong_small (by omega)))
theorem op_fdivN : OpR X (binaryOp .FloorDiv) (rI CDivN fun i j => .int (i.fdiv j)) := opI fun _ _ _ _ _ _ _ hc q => floordiv_int hc.1 q (.inl (PyProof.noPylong_small hc.2))
/-- % by a positive divisor of any size -/
theorem op_mod : OpR X (binaryOp .Mod) (rI (fun _ j => 0 < j) fun i j => .int (i % j)) := opI fun i j _ _ _ _ _ hc q => by
  have h1 : (0 : Int) < j := hc
  exact mod_int' (by omega) (by rw [Int.fmod_eq_emod_of_nonneg i (by omega)]; exact q)
theorem op_modN : OpR X (binaryOp .Mod) (rI (fun _ j => j ≠ 0) fun i j => .int (i.fmod j)) := opI fun _ _ _ _ _ _ _ hc q => mod_int' hc q
theorem op_pow : OpR X (binaryOp .Pow) (rI CPow fun i j => .int (i ^ j.toNat)) := opI fun _ _ _ _ _ _ _ hc q => pow_int_small hc.1 hc.2.1 hc.2.2 q
theorem op_shl : OpR X (binaryOp .LShift) (rI CPow fun i j => .int (i * 2 ^ j.toNat)) := opI fun _ _ _ _ _ _ _ hc q => lshift_int_small hc.1 hc.2.1 hc.2.2 q
theorem op_shr : OpR X (binaryOp .RShift) (rI (fun _ j => 0 ≤ j) fun i j => .int (i / 2 ^ j.toNat)) := opI fun i j _ _ _ _ _ hc q =>
  rshift_int hc (by rw [Int.fdiv_eq_ediv_of_nonneg i (two_pow_nn _)]; exact q)
theorem op_and : OpR X (binaryOp .BitAnd) (rI0 fun i j => .int (Builtin.bitAnd i j)) := opI0 fun _ _ _ _ _ _ _ q => and_int q
theorem op_or : OpR X (binaryOp .BitOr) (rI0 fun i j => .int (Builtin.bitOr i j)) := opI0 fun _ _ _ _ _ _ _ q => or_int q
theorem op_xor : OpR X (binaryOp .BitXor) (rI0 fun i j => .int (Builtin.bitXor i j)) := opI0 fun _ _ _ _ _ _ _ q => xor_int q

theorem iop_add : OpR X (inplaceOp .Add) (rI0 fun i j => .int (i + j)) := opI0 fun _ _ _ _ _ _ _ q => iadd_int q
theorem iop_sub : OpR X (inplaceOp .Sub) (rI0 fun i j => .int (i - j)) := opI0 fun _ _ _ _ _ _ _ q => isub_int q
theorem iop_mul : OpR X (inplaceOp .Mult) (rI CMul fun i j => .int (i * j)) := opI fun _ _ _ _ _ _ _ hc q => imul_int q hc.ok
theorem iop_fdiv : OpR X (inplaceOp .FloorDiv) (rI CDiv fun i j => .int (i / j)) := opI fun i j _ _ _ _ _ hc q => by
  have h1 : (0 : Int) < j := hc.1
  have h2 : j < 1073741824 := hc.2
  exact ifloordiv_int (by omega) (by rw [Int.fdiv_eq_ediv_of_nonneg i (by omega)]; exact q) (.inl (PyProof.noPylong_small (by omega)))
theorem iop_mod : OpR X (inplaceOp .Mod) (rI (fun _ j => 0 < j) fun i j => .int (i % j)) := opI fun i j _ _ _ _ _ hc q => by
  have h1 : (0 : Int) < j := hc
  exact imod_int (by omega) (by rw [Int.fmod_eq_emod_of_nonneg i (by omega)]; exact q)
theorem iop_shl : OpR X (inplaceOp .LShift) (rI CPow fun i j => .int (i * 2 ^ j.toNat)) := opI fun _ _ _ _ _ _ _ hc q => ilshift_int_small hc.1 hc.2.1 hc.2.2 q
theorem iop_shr : OpR X (inplaceOp .RShift) (rI (fun _ j => 0 ≤ j) fun i j => .int (i / 2 ^ j.toNat)) := opI fun i j _ _ _ _ _ hc q =>
  irshift_int hc (by rw [Int.fdiv_eq_ediv_of_nonneg i (two_pow_nn _)]; exact q)
theorem iop_and : OpR X (inplaceOp .BitAnd) (rI0 fun i j => .int (Builtin.bitAnd i j)) := opI0 fun _ _ _ _ _ _ _ q => iand_int q
theorem iop_or : OpR X (inplaceOp .BitOr) (rI0 fun i j => .int (Builtin.bitOr i j)) := opI0 fun _ _ _ _ _ _ _ q => ior_int q
theorem iop_xor : OpR X (inplaceOp .BitXor) (rI0 fun i j => .int (Builtin.bitXor i j)) := opI0 fun _ _ _ _ _ _ _ q => ixor_int q

theorem unI {f : Value → Sem Value} {g : Int → Int}
    (rule : ∀ (i : Int) (t : Tok) (s : Shared) (Q : Value → Shared → Prop) (E : Value → Shared → Prop), Q (.int (g i) s.toks) { s with toks := s.toks + 1 } → wpAny (model X.prog X.w) X.A (f (.int i t)) Q E s) :
    UnR X f (rU fun i => .int (g i)) := by
  intro pins s σ H x v Q I rx h
  obtain ⟨i, rfl, q⟩ := h
  obtain ⟨t, rfl⟩ := rx
  exact rule i t s _ _ ⟨.int (g i), H, I.tok _, ⟨_, rfl⟩, q⟩
theorem un_neg : UnR X (unaryOp .USub) (rU fun i => .int (-i)) := unI fun _ _ _ _ _ q => neg_int q
theorem un_inv : UnR X (unaryOp .Invert) (rU fun i => .int (Builtin.bitNot i)) := unI fun _ _ _ _ _ q => invert_int q

/-! ### bools among ints: n += (a < b) -/
theorem op_add_ib : OpR X (binaryOp .Add) (fun x y H Q => ∃ i k, x = .int i ∧ y = .bl k ∧ Q (.int (i + b2i k)) H) := by
  intro pins s σ H x y v u Q I rx ry h
  obtain ⟨i, k, rfl, rfl, q⟩ := h
  obtain ⟨t, rfl⟩ := rx
  cases ry
  exact add_int_bool ⟨.int (i + b2i k), H, I.tok _, ⟨_, rfl⟩, q⟩
end

/-! ### comparisons -/
/-- the scalars that == tells apart as data does -/
def scal : V → V → Bool
  | .non, .non => true | .non, .int _ => true | .int _, .non => true | .non, .bl _ => true | .bl _, .non => true | .non, .str _ => true | .str _, .non => true
  | .int _, .int _ => true | .bl _, .bl _ => true | .str _, .str _ => true | .byt _, .byt _ => true
  | .int _, .str _ => true | .str _, .int _ => true | .bl _, .str _ => true | .str _, .bl _ => true
  | _, _ => false
def rEq : R2 := fun x y H Q => scal x y = true ∧ Q (.bl (decide (x = y))) H
def rNe : R2 := fun x y H Q => scal x y = true ∧ Q (.bl (!decide (x = y))) H

theorem dec_int {i j : Int} : decide (V.int i = V.int j) = (i == j) := by
  rw [Bool.eq_iff_iff]
  simp
theorem dec_bl {i j : Bool} : decide (V.bl i = V.bl j) = (i == j) := by
  rw [Bool.eq_iff_iff]
  simp
theorem dec_str {i j : Str} : decide (V.str i = V.str j) = (i == j) := by
  rw [Bool.eq_iff_iff]
  simp
theorem dec_byt {i j : Array UInt8} : decide (V.byt i = V.byt j) = (i.toList == j.toList) := by
  rw [Bool.eq_iff_iff]
  cases i
  cases j
  simp

section
variable {X : Cx} {a b c : Expr} {ta tb tc : TE} {pos : Pos}
theorem fin_bl {pins : List (Addr × Obj)} {σ : St} {H : Hp} {s : Shared} {Q : VK} {k k' : Bool} (I : Inv X pins σ H s) (q : Q (.bl k) H) (e : k = k') : EP X pins σ Q (.bool k') s := by
  subst e
  exact ⟨.bl k, H, I, rfl, q⟩
theorem op_eq : OpR X (compareOp .Eq) rEq := by
  intro pins s σ H x y v u Q I rx ry h
  obtain ⟨hs, q⟩ := h
  cases x with
  | non =>
    cases rx
    cases y with
    | non => cases ry; exact PySem.EqNone.eq_none_none (fin_bl I q (by simp))
    | bl j => cases ry; exact PySem.EqNone.eq_none_bool (fin_bl I q (by simp))
    | int j => obtain ⟨t', rfl⟩ := ry; exact PySem.EqNone.eq_none_int (fin_bl I q (by simp))
    | str j => obtain ⟨t', rfl⟩ := ry; exact PySem.EqNone.eq_none_str (fin_bl I q (by simp))
    | _ => exact absurd (show false = true from hs) Bool.false_ne_true
  | bl i =>
    cases rx
    cases y with
    | non => cases ry; exact PySem.EqNone.eq_bool_none (fin_bl I q (by simp))
    | bl j => cases ry; exact eq_bool (fin_bl I q dec_bl)
    | str j => obtain ⟨t', rfl⟩ := ry; exact PySem.EqMixed.eq_bool_str (fin_bl I q (by simp))
    | _ => exact absurd (show false = true from hs) Bool.false_ne_true
  | int i =>
    obtain ⟨t, rfl⟩ := rx
    cases y with
    | non => cases ry; exact PySem.EqNone.eq_int_none (fin_bl I q (by simp))
    | int j => obtain ⟨t', rfl⟩ := ry; exact eq_int (fin_bl I q dec_int)
    | str j => obtain ⟨t', rfl⟩ := ry; exact PySem.EqMixed.eq_int_str (fin_bl I q (by simp))
    | _ => exact absurd (show false = true from hs) Bool.false_ne_true
  | str i =>
    obtain ⟨t, rfl⟩ := rx
    cases y with
    | non => cases ry; exact PySem.EqNone.eq_str_none (fin_bl I q (by simp))
    | bl j => cases ry; exact PySem.EqMixed.eq_str_bool (fin_bl I q (by simp))
    | int j => obtain ⟨t', rfl⟩ := ry; exact PySem.EqMixed.eq_str_int (fin_bl I q (by simp))
    | str j => obtain ⟨t', rfl⟩ := ry; exact eq_str (fin_bl I q dec_str)
    | _ => exact absurd (show false = true from hs) Bool.false_ne_true
  | byt i =>
    obtain ⟨t, rfl⟩ := rx
    cases y with
    | byt j => obtain ⟨t', rfl⟩ := ry; exact PySem.W.eq_bytes (fin_bl I q dec_byt)
    | _ => exact absurd (show false = true from hs) Bool.false_ne_true
  | _ => cases y <;> exact absurd (show false = true from hs) Bool.false_ne_true
theorem op_ne : OpR X (compareOp .NotEq) rNe := by
  intro pins s σ H x y v u Q I rx ry h
  obtain ⟨hs, q⟩ := h
  cases x with
  | non =>
    cases rx
    cases y with
    | non => cases ry; exact PySem.EqNone.ne_none_none (fin_bl I q (by simp))
    | bl j => cases ry; exact PySem.EqNone.ne_none_bool (fin_bl I q (by simp))
    | int j => obtain ⟨t', rfl⟩ := ry; exact PySem.EqNone.ne_none_int (fin_bl I q (by simp))
    | str j => obtain ⟨t', rfl⟩ := ry; exact PySem.EqNone.ne_none_str (fin_bl I q (by simp))
    | _ => exact absurd (show false = true from hs) Bool.false_ne_true
  | bl i =>
    cases rx
    cases y with
    | non => cases ry; exact PySem.EqNone.ne_bool_none (fin_bl I q (by simp))
    | bl j => cases ry; exact ne_bool (fin_bl I q (congrArg not dec_bl))
    | str j => obtain ⟨t', rfl⟩ := ry; exact PySem.EqMixed.ne_bool_str (fin_bl I q (by simp))
    | _ => exact absurd (show false = true from hs) Bool.false_ne_true
  | int i =>
    obtain ⟨t, rfl⟩ := rx
    cases y with
    | non => cases ry; exact PySem.EqNone.ne_int_none (fin_bl I q (by simp))
    | int j => obtain ⟨t', rfl⟩ := ry; exact ne_int (fin_bl I q (congrArg not dec_int))
    | str j => obtain ⟨t', rfl⟩ := ry; exact PySem.EqMixed.ne_int_str (fin_bl I q (by simp))
    | _ => exact absurd (show false = true from hs) Bool.false_ne_true
  | str i =>
    obtain ⟨t, rfl⟩ := rx
    cases y with
    | non => cases ry; exact PySem.EqNone.ne_str_none (fin_bl I q (by simp))
    | bl j => cases ry; exact PySem.EqMixed.ne_str_bool (fin_bl I q (by simp))
    | int j => obtain ⟨t', rfl⟩ := ry; exact PySem.EqMixed.ne_str_int (fin_bl I q (by simp))
    | str j => obtain ⟨t', rfl⟩ := ry; exact ne_str (fin_bl I q (congrArg not dec_str))
    | _ => exact absurd (show false = true from hs) Bool.false_ne_true
  | byt i =>
    obtain ⟨t, rfl⟩ := rx
    cases y with
    | byt j => obtain ⟨t', rfl⟩ := ry; exact PySem.W.ne_bytes (fin_bl I q (congrArg not dec_byt))
    | _ => exact absurd (show false = true from hs) Bool.false_ne_true
  | _ => cases y <;> exact absurd (show false = true from hs) Bool.false_ne_true

theorem op_lt : OpR X (compareOp .Lt) (rI0 fun i j => .bl (decide (i < j))) := opB0 fun _ _ _ _ _ _ _ q => lt_int q
theorem op_le : OpR X (compareOp .LtE) (rI0 fun i j => .bl (decide (i ≤ j))) := opB0 fun _ _ _ _ _ _ _ q => le_int q
theorem op_gt : OpR X (compareOp .Gt) (rI0 fun i j => .bl (decide (j < i))) := opB0 fun _ _ _ _ _ _ _ q => gt_int q
theorem op_ge : OpR X (compareOp .GtE) (rI0 fun i j => .bl (decide (j ≤ i))) := opB0 fun _ _ _ _ _ _ _ q => ge_int q
theorem op_lt_str : OpR X (compareOp .Lt) (fun x y H Q => ∃ i j, x = .str i ∧ y = .str j ∧ Q (.bl (decide (i.cps.toList < j.cps.toList))) H) := by
  intro pins s σ H x y v u Q I rx ry h
  obtain ⟨i, j, rfl, rfl, q⟩ := h
  obtain ⟨t, rfl⟩ := rx
  obtain ⟨t', rfl⟩ := ry
  exact lt_str (fin_bl I q rfl)
/-- the one string within the other -/
theorem op_in_str : OpR X (compareOp .In) (fun x y H Q => ∃ i j, x = .str i ∧ y = .str j ∧ Q (.bl (!(Builtin.Str.occurrences j i 0 j.length 1).isEmpty)) H) := by
  intro pins s σ H x y v u Q I rx ry h
  obtain ⟨i, j, rfl, rfl, q⟩ := h
  obtain ⟨t, rfl⟩ := rx
  obtain ⟨t', rfl⟩ := ry
  exact in_str (fin_bl I q rfl)

/-- is None, is not None: the right side a value none -/
theorem op_isN : OpR X (compareOp .Is) (fun x y H Q => y = .non ∧ Q (.bl (decide (x = .non))) H) := by
  intro pins s σ H x y v u Q I rx ry h
  obtain ⟨rfl, q⟩ := h
  cases ry
  refine is_none_gen (fin_bl I q ?_)
  cases x <;> first
    | (cases rx; rfl)
    | (obtain ⟨t, rfl⟩ := rx; rfl)
theorem op_notN : OpR X (compareOp .IsNot) (fun x y H Q => y = .non ∧ Q (.bl (!decide (x = .non))) H) := by
  intro pins s σ H x y v u Q I rx ry h
  obtain ⟨rfl, q⟩ := h
  cases ry
  refine isnot_none_gen (fin_bl I q ?_)
  cases x <;> first
    | (cases rx; rfl)
    | (obtain ⟨t, rfl⟩ := rx; rfl)

theorem op_notin_str : OpR X (compareOp .NotIn) (fun x y H Q => ∃ i j, x = .str i ∧ y = .str j ∧ Q (.bl (!(!(Builtin.Str.occurrences j i 0 j.length 1).isEmpty))) H) := by
  intro pins s σ H x y v u Q I rx ry h
  obtain ⟨i, j, rfl, rfl, q⟩ := h
  obtain ⟨t, rfl⟩ := rx
  obtain ⟨t', rfl⟩ := ry
  exact notIn_str (fin_bl I q rfl)
/-- is, is not of two objects that are tracked lists or instances -/
def isObj : HO → Bool
  | .lst _ => true
  | .ins _ _ _ => true
  | _ => false
theorem obj_there {pins : List (Addr × Obj)} {s : Shared} {σ : St} {H : Hp} {a : Addr} {o : HO} (I : Inv X pins σ H s) (h : H a = some o) (p : isObj o = true) : ∃ ob, s.heap.get? a = some ob ∧ ob.cls ≠ .type "tuple" := by
  cases o with
  | lst xs =>
    obtain ⟨_, its, n, _, e⟩ : xs.length ≤ sizeLine ∧ ∃ (its : List Value) (n : Nat), Vals xs its ∧ s.heap.get? a = some { cls := .type "list", data := .seq its.toArray n } := I.hok a _ h
    exact ⟨_, e, (by show Value.type "list" ≠ .type "tuple"; decide +kernel)⟩
  | ins C dx fs =>
    have x := I.hok a _ h
    obtain ⟨_, _, _, e, _⟩ := x
    exact ⟨_, e, (by show Value.ref C ≠ .type "tuple"; exact fun z => by cases z)⟩
  | _ => exact absurd (show false = true from p) Bool.false_ne_true
theorem op_is_ref : OpR X (compareOp .Is) (fun x y H Q => ∃ a b oa ob, x = .ref a ∧ y = .ref b ∧ H a = some oa ∧ isObj oa = true ∧ H b = some ob ∧ isObj ob = true ∧ Q (.bl (decide (a = b))) H) := by
  intro pins s σ H x y v u Q I rx ry h
  obtain ⟨a, b, oa, ob, rfl, rfl, ha, pa, hb, pb, q⟩ := h
  cases rx
  cases ry
  obtain ⟨o1, e1, n1⟩ := obj_there I ha pa
  obtain ⟨o2, e2, _⟩ := obj_there I hb pb
  by_cases z : a = b
  · subst z
    exact wpAny_is_ref_self (fin_bl I q (by simp))
  · exact wpAny_is_ref_other z e1 e2 n1 (fin_bl I q (by simp [z]))
theorem op_isnot_ref : OpR X (compareOp .IsNot) (fun x y H Q => ∃ a b oa ob, x = .ref a ∧ y = .ref b ∧ H a = some oa ∧ isObj oa = true ∧ H b = some ob ∧ isObj ob = true ∧ Q (.bl (!decide (a = b))) H) := by
  intro pins s σ H x y v u Q I rx ry h
  obtain ⟨a, b, oa, ob, rfl, rfl, ha, pa, hb, pb, q⟩ := h
  cases rx
  cases ry
  obtain ⟨o1, e1, n1⟩ := obj_there I ha pa
  obtain ⟨o2, e2, _⟩ := obj_there I hb pb
  by_cases z : a = b
  · subst z
    exact wpAny_isNot_ref_self (fin_bl I q (by simp))
  · exact wpAny_isNot_ref_other z e1 e2 n1 (fin_bl I q (by simp [z]))

/-- two rules for one operation: by cases -/
theorem OpR.or {f : Value → Value → Sem Value} {r r' : R2} (h : OpR X f r) (h' : OpR X f r') : OpR X f (fun x y H Q => r x y H Q ∨ r' x y H Q) := by
  intro pins s σ H x y v u Q I rx ry q
  rcases q with q | q
  · exact h pins s σ H x y v u Q I rx ry q
  · exact h' pins s σ H x y v u Q I rx ry q

theorem nomark (b : Expr) {op : CmpOp} (h : op ≠ .In := by decide) (h2 : op ≠ .NotIn := by decide) : behindInMarks op b = false := by
  have e1 : (op == CmpOp.In) = false := by cases op <;> first | rfl | exact absurd rfl h
  have e2 : (op == CmpOp.NotIn) = false := by cases op <;> first | rfl | exact absurd rfl h2
  cases b <;> simp [behindInMarks, e1, e2]
/-- a comparison as a value; hm: nomark b, or (for in, not in) by with_unfolding_all rfl -/
theorem pe_cmpR {op : CmpOp} {r : R2} (ho : OpR X (compareOp op) r) (ha : PE X a ta) (hb : PE X b tb) (hm : behindInMarks op b = false) : PE X (.Compare a [op] [b] pos) (tOp r ta tb) := by
  intro pins s σ H Q I h
  exact wpAny_Compare1 (binT ha hb I h fun v u s2 x y H2 I2 rx ry q => ho pins s2 σ H2 x y v u Q I2 rx ry q) hm
/-- a reading of a value as a test -/
def tTest (t : TE) : TT := fun σ H Q => t σ H fun x H' => ∃ k, x = .bl k ∧ Q k H'
theorem pt_cmpR {op : CmpOp} {r : R2} (ho : OpR X (compareOp op) r) (ha : PE X a ta) (hb : PE X b tb) (hm : behindInMarks op b = false) : PT X (.Compare a [op] [b] pos) (tTest (tOp r ta tb)) := by
  intro pins s σ H Q I h
  refine wpAny_isTrue_Compare1 (thn (ha pins s σ H _ I h) fun v s1 ⟨x, H1, I1, r1, q1⟩ => thn (hb pins s1 σ H1 _ I1 q1) fun u s2 ⟨y, H2, I2, r2, q2⟩ =>
    thn (ho pins s2 σ H2 x y v u _ I2 r1 r2 q2) fun c s3 ⟨z, H3, I3, r3, k, e, q3⟩ => ?_) hm
  subst e
  cases r3
  exact wpAny_truthy_bool ⟨H3, I3, q3⟩
/-- a op1 b op2 c -/
def tChain (r r' : R2) (ta tb tc : TE) : TE := fun σ H Q => ta σ H fun x H1 => tb σ H1 fun y H2 => r x y H2 fun z H3 => ∃ k, z = .bl k ∧
  (if k = true then tc σ H3 fun w' H4 => r' y w' H4 Q else Q (.bl false) H3)
theorem pe_chain {op op' : CmpOp} {r r' : R2} (ho : OpR X (compareOp op) r) (ho' : OpR X (compareOp op') r') (ha : PE X a ta) (hb : PE X b tb) (hc : PE X c tc)
    (hm : lastMarks [op, op'] [b, c] = false := by with_unfolding_all rfl) : PE X (.Compare a [op, op'] [b, c] pos) (tChain r r' ta tb tc) := by
  intro pins s σ H Q I h
  refine Compare_chain (thn (ha pins s σ H _ I h) fun v s1 ⟨x, H1, I1, r1, q1⟩ => chain_link (thn (hb pins s1 σ H1 _ I1 q1) fun u s2 ⟨y, H2, I2, r2, q2⟩ =>
    thn (ho pins s2 σ H2 x y v u _ I2 r1 r2 q2) fun d s3 ⟨z, H3, I3, r3, k, e, q3⟩ => ?_)) hm
  subst e
  cases r3
  refine wpAny_truthy_bool ?_
  cases k with
  | false => exact ite_ff ⟨.bl false, H3, I3, rfl, q3⟩
  | true => exact ite_tt (chain_last (thn (hc pins s3 σ H3 _ I3 q3) fun w' s4 ⟨z', H4, I4, r4, q4⟩ => ho' pins s4 σ H4 y z' u w' Q I4 r2 r4 q4))
theorem pt_chain {op op' : CmpOp} {r r' : R2} (ho : OpR X (compareOp op) r) (ho' : OpR X (compareOp op') r') (ha : PE X a ta) (hb : PE X b tb) (hc : PE X c tc)
    (hm : lastMarks [op, op'] [b, c] = false := by with_unfolding_all rfl) : PT X (.Compare a [op, op'] [b, c] pos) (tTest (tChain r r' ta tb tc)) := by
  intro pins s σ H Q I h
  refine isTrue_chain (thn (ha pins s σ H _ I h) fun v s1 ⟨x, H1, I1, r1, q1⟩ => test_link (thn (hb pins s1 σ H1 _ I1 q1) fun u s2 ⟨y, H2, I2, r2, q2⟩ =>
    thn (ho pins s2 σ H2 x y v u _ I2 r1 r2 q2) fun d s3 ⟨z, H3, I3, r3, k, e, q3⟩ => ?_)) hm
  subst e
  cases r3
  refine wpAny_truthy_bool ?_
  cases k with
  | false =>
    obtain ⟨k', e', q'⟩ := q3
    cases e'
    exact ite_ff ⟨H3, I3, q'⟩
  | true =>
    refine ite_tt (test_last (thn (hc pins s3 σ H3 _ I3 q3) fun w' s4 ⟨z', H4, I4, r4, q4⟩ => thn (ho' pins s4 σ H4 y z' u w' _ I4 r2 r4 q4) fun d' s5 ⟨z2, H5, I5, r5, k2, e2, q5⟩ => ?_))
    subst e2
    cases r5
    exact wpAny_truthy_bool ⟨H5, I5, q5⟩

/-! ### truth -/
/-- a value's truth by the abstract heap -/
def TruV (K : PySem.W.Frag) (x : V) (H : Hp) (k : Bool) : Prop :=
  match x with
  | .non => k = false
  | .bl b => k = b
  | .int i => k = (i != 0)
  | .str y => y.length ≤ sizeLine ∧ k = ((y.length : Int) != 0)
  | .byt y => y.size ≤ sizeLine ∧ k = ((y.size : Int) != 0)
  | .ref p => (∃ xs, SqL K H p xs ∧ k = !xs.isEmpty) ∨ (∃ xs, SqT K H p xs ∧ k = !xs.isEmpty) ∨ ∃ kvs, H p = some (.dK kvs) ∧ k = !kvs.isEmpty
  | _ => False
theorem isEmpty_kv {κ : Type} {kvs : List (κ × V)} {vs : List (κ × Value)} (r : KV kvs vs) : (!vs.isEmpty) = !kvs.isEmpty := by
  cases r <;> rfl
theorem isEmpty_of {xs : List V} {its : List Value} (r : Vals xs its) : (!its.toArray.isEmpty) = !xs.isEmpty := by
  cases r <;> simp
theorem line63 : (sizeLine : Nat) < 2 ^ 63 := by rw [sizeLine_eq]; decide
theorem tru_ok : TruR X (fun x H Q => ∃ k, TruV X.K x H k ∧ Q k H) := by
  intro pins s σ H x v Q I rx h
  obtain ⟨k, e, q⟩ := h
  have hl := line63
  have hs : sizeLine = 16777216 := sizeLine_eq
  cases x with
  | non =>
    cases rx
    have e' : k = false := e
    subst e'
    exact truthy_none ⟨H, I, q⟩
  | bl b =>
    cases rx
    have e' : k = b := e
    subst e'
    exact wpAny_truthy_bool ⟨H, I, q⟩
  | int i =>
    obtain ⟨t, rfl⟩ := rx
    have e' : k = (i != 0) := e
    subst e'
    exact PySem.P.truthy_int ⟨H, I, q⟩
  | str y =>
    obtain ⟨t, rfl⟩ := rx
    obtain ⟨hy, e'⟩ : y.length ≤ sizeLine ∧ k = ((y.length : Int) != 0) := e
    subst e'
    exact PySem.P.truthy_str (by omega) ⟨H, I.tok _, q⟩
  | byt y =>
    obtain ⟨t, rfl⟩ := rx
    obtain ⟨hy, e'⟩ : y.size ≤ sizeLine ∧ k = ((y.size : Int) != 0) := e
    subst e'
    exact PySem.W.truthy_bytes (by omega) ⟨H, I.tok _, q⟩
  | ref p =>
    cases rx
    have e' : (∃ xs, SqL X.K H p xs ∧ k = !xs.isEmpty) ∨ (∃ xs, SqT X.K H p xs ∧ k = !xs.isEmpty) ∨ ∃ kvs, H p = some (.dK kvs) ∧ k = !kvs.isEmpty := e
    rcases e' with ⟨xs, hx, e'⟩ | ⟨xs, hx, e'⟩ | ⟨kvs, hx, e'⟩
    · subst e'
      obtain ⟨its, r, pl, hz⟩ := I.list hx
      have hlen := r.length
      exact wpAny_truthy_list pl.isList (by simp only [List.size_toArray]; omega) ⟨H, I.tok _, by rw [isEmpty_of r]; exact q⟩
    · subst e'
      obtain ⟨its, r, pl, hz⟩ := I.tuple hx
      have hlen := r.length
      exact truthy_tuple pl (by simp only [List.size_toArray]; omega) ⟨H, I.tok _, by rw [isEmpty_of r]; exact q⟩
    · subst e'
      obtain ⟨hz, hS, vs, r, m⟩ : kvs.length ≤ sizeLine ∧ (p == sysModules) = false ∧ ∃ vs, KV kvs vs ∧ s.heap.DictOf (mixKind X.prog X.w) p vs := I.hok p _ hx
      have hlen : kvs.length = vs.length := Paired.length r
      exact wpAny_truthy_dict hS m (by omega) ⟨H, I.tok _, by rw [isEmpty_kv r]; exact q⟩
  | _ => exact (show False from e).elim
/-- any expression whose test is its value's truth (a name, a call, a subscript, a field ..: he by fun _ => rfl) -/
theorem pt_truth (ha : PE X a ta) (he : ∀ whole, isTrue a X.env whole = (do let v ← whole; standAt a.pos; holding [v] (truthy v))) :
    PT X a (fun σ H Q => ta σ H fun x H' => ∃ k, TruV X.K x H' k ∧ Q k H') := by
  intro pins s σ H Q I h
  exact isTrue_plain (thn (ha pins s σ H _ I h) fun v s1 ⟨x, H1, I1, r1, q1⟩ => tru_ok pins s1 σ H1 x v Q I1 r1 q1) (he _)

/-! ### strs and bytes -/
theorem pe_byt {x : List UInt8} {k : Nat} : PE X (.Constant (.bytes x) k pos) (fun _ H Q => Q (.byt x.toArray) H) := fun _ _ _ H _ I h => PySem.W.Constant_bytes ⟨.byt x.toArray, H, I.tok _, ⟨_, rfl⟩, h⟩
theorem op_add_str : OpR X (binaryOp .Add) (fun x y H Q => ∃ i j, x = .str i ∧ y = .str j ∧ i.length + j.length ≤ sizeLine ∧ Q (.str (i ++ j)) H) := by
  intro pins s σ H x y v u Q I rx ry h
  obtain ⟨i, j, rfl, rfl, hz, q⟩ := h
  obtain ⟨t, rfl⟩ := rx
  obtain ⟨t', rfl⟩ := ry
  exact add_str (fun t' tk => ⟨.str (i ++ j), H, I.tok _, ⟨_, rfl⟩, q⟩) hz
theorem iop_add_str : OpR X (inplaceOp .Add) (fun x y H Q => ∃ i j, x = .str i ∧ y = .str j ∧ i.length + j.length ≤ sizeLine ∧ Q (.str (i ++ j)) H) := by
  intro pins s σ H x y v u Q I rx ry h
  obtain ⟨i, j, rfl, rfl, hz, q⟩ := h
  obtain ⟨t, rfl⟩ := rx
  obtain ⟨t', rfl⟩ := ry
  exact iadd_str (fun t' tk => ⟨.str (i ++ j), H, I.tok _, ⟨_, rfl⟩, q⟩) hz
theorem op_add_byt : OpR X (binaryOp .Add) (fun x y H Q => ∃ i j, x = .byt i ∧ y = .byt j ∧ i.size + j.size ≤ 16777216 ∧ Q (.byt (i ++ j)) H) := by
  intro pins s σ H x y v u Q I rx ry h
  obtain ⟨i, j, rfl, rfl, hz, q⟩ := h
  obtain ⟨t, rfl⟩ := rx
  obtain ⟨t', rfl⟩ := ry
  exact PySem.W.KBy.add_bytes hz (fun t' tk => ⟨.byt (i ++ j), H, I.tok _, ⟨_, rfl⟩, q⟩)

def PlainIxT (b : Expr) : Prop := ∀ o i, subscripted b false o i = operate [o, i] (getItem o i)
/-- s[i], 0 ≤ i < len -/
theorem pe_item_str (ha : PE X a ta) (hb : PE X b tb) (hs : PlainIxT b) :
    PE X (.Subscript a b pos) (tOp (fun x y H Q => ∃ z i c, x = .str z ∧ y = .int i ∧ 0 ≤ i ∧ i < 2 ^ 63 ∧ i < z.length ∧ z.cps[i.toNat]? = some c ∧ Q (.str ⟨#[c]⟩) H) ta tb) := by
  intro pins s σ H Q I h
  refine Subscript_ (binT ha hb I h fun v u s2 x y H2 I2 rx ry q => ?_)
  obtain ⟨z, i, c, rfl, rfl, h0, h63, h1, hc, q⟩ := q
  obtain ⟨t, rfl⟩ := rx
  obtain ⟨t', rfl⟩ := ry
  have e : seqIndex? i z.length = some i.toNat := PySem.StrLaws.seqIndex_nonneg h0 h1
  exact tail_any (typeIs_str s2 z t) slot_str_getitem.lookup (getItem_str (c := c) (by
    have e1 : decide (i < -(2 ^ 63 : Int)) = false := decide_eq_false (by omega)
    have e2 : decide (i ≥ 2 ^ 63) = false := decide_eq_false (by omega)
    rw [e1, e2] <;> rfl) (by rw [e]; exact hc) ⟨.str ⟨#[c]⟩, H2, I2.tok _, ⟨_, rfl⟩, q⟩) (hs _ _)
/-- b[i], 0 ≤ i < len -/
theorem pe_item_byt (ha : PE X a ta) (hb : PE X b tb) (hs : PlainIxT b) :
    PE X (.Subscript a b pos) (tOp (fun x y H Q => ∃ (z : List UInt8) (i : Int), x = .byt z.toArray ∧ y = .int i ∧ z.length ≤ sizeLine ∧ 0 ≤ i ∧ i < z.length ∧ Q (.int ((z.getD i.toNat 0).toNat : Nat)) H) ta tb) := by
  intro pins s σ H Q I h
  refine Subscript_ (binT ha hb I h fun v u s2 x y H2 I2 rx ry q => ?_)
  obtain ⟨z, i, rfl, rfl, hz, h0, h1, q⟩ := q
  obtain ⟨t, rfl⟩ := rx
  obtain ⟨t', rfl⟩ := ry
  have hl : sizeLine = 16777216 := sizeLine_eq
  exact tail_any (PySem.W.typeIs_bytes s2 z.toArray t) PySem.W.FB.slot_bytes_getitem.lookup (PySem.W.getItem_bytes (by omega) h0 h1 ⟨.int ((z.getD i.toNat 0).toNat : Nat), H2, I2.tok _, ⟨_, rfl⟩, q⟩) (hs _ _)

/-! ### scalar builtins, by CallR -/
theorem vals1 {x : V} {us : List Value} (r : Vals [x] us) : ∃ u, us = [u] ∧ RelV x u := by
  cases r with
  | cons r1 r2 => cases r2; exact ⟨_, rfl, r1⟩
theorem vals2 {x y : V} {us : List Value} (r : Vals [x, y] us) : ∃ u w', us = [u, w'] ∧ RelV x u ∧ RelV y w' := by
  cases r with
  | cons r1 r2 =>
    cases r2 with
    | cons r3 r4 => cases r4; exact ⟨_, _, rfl, r1, r3⟩
theorem call_abs : CallR X (.builtin "abs") (fun xs H Q => ∃ i, xs = [.int i] ∧ Q (.int (if i < 0 then -i else i)) H) := by
  intro pins s σ H xs us Q I r h
  obtain ⟨i, rfl, q⟩ := h
  obtain ⟨u, rfl, t, rfl⟩ := vals1 r
  exact call_abs_int fun u tk => ⟨.int (if i < 0 then -i else i), H, I.tok _, ⟨_, rfl⟩, q⟩
theorem call_max2 (hc : X.calm = true) : CallR X (.builtin "max") (fun xs H Q => ∃ i j, xs = [.int i, .int j] ∧ Q (.int (if j > i then j else i)) H) := by
  intro pins s σ H xs us Q I r h
  obtain ⟨i, j, rfl, q⟩ := h
  obtain ⟨u, w', rfl, ⟨t, rfl⟩, ⟨t', rfl⟩⟩ := vals2 r
  refine max_two_ints (I.ok.hd hc) fun h' tk k => ⟨_, H, I.kept k, ?_, q⟩
  by_cases hj : j > i
  · rw [if_pos hj, if_pos hj]; exact ⟨_, rfl⟩
  · rw [if_neg hj, if_neg hj]; exact ⟨_, rfl⟩
theorem call_min2 (hc : X.calm = true) : CallR X (.builtin "min") (fun xs H Q => ∃ i j, xs = [.int i, .int j] ∧ Q (.int (if j < i then j else i)) H) := by
  intro pins s σ H xs us Q I r h
  obtain ⟨i, j, rfl, q⟩ := h
  obtain ⟨u, w', rfl, ⟨t, rfl⟩, ⟨t', rfl⟩⟩ := vals2 r
  refine min_two_ints (I.ok.hd hc) fun h' tk k => ⟨_, H, I.kept k, ?_, q⟩
  by_cases hj : j < i
  · rw [if_pos hj, if_pos hj]; exact ⟨_, rfl⟩
  · rw [if_neg hj, if_neg hj]; exact ⟨_, rfl⟩
theorem call_int1 : CallR X (.type "int") (fun xs H Q => (∃ i, xs = [.int i] ∧ Q (.int i) H) ∨ ∃ k, xs = [.bl k] ∧ Q (.int (if k then 1 else 0)) H) := by
  intro pins s σ H xs us Q I r h
  rcases h with ⟨i, rfl, q⟩ | ⟨k, rfl, q⟩
  · obtain ⟨u, rfl, t, rfl⟩ := vals1 r
    exact call_int_int ⟨.int i, H, I, ⟨_, rfl⟩, q⟩
  · obtain ⟨u, rfl, r1⟩ := vals1 r
    cases r1
    exact call_int_bool ⟨.int (if k then 1 else 0), H, I.tok _, ⟨_, rfl⟩, q⟩
theorem call_bool1 : CallR X (.type "bool") (fun xs H Q => (∃ i, xs = [.int i] ∧ Q (.bl (i != 0)) H) ∨ ∃ k, xs = [.bl k] ∧ Q (.bl k) H) := by
  intro pins s σ H xs us Q I r h
  rcases h with ⟨i, rfl, q⟩ | ⟨k, rfl, q⟩
  · obtain ⟨u, rfl, t, rfl⟩ := vals1 r
    exact call_bool_int ⟨.bl (i != 0), H, I, rfl, q⟩
  · obtain ⟨u, rfl, r1⟩ := vals1 r
    cases r1
    exact call_bool_bool ⟨.bl k, H, I, rfl, q⟩
theorem call_str_int : CallR X (.type "str") (fun xs H Q => ∃ i, xs = [.int i] ∧ i.natAbs.log2 < 1920 ∧ Q (.str (toString i)) H) := by
  intro pins s σ H xs us Q I r h
  obtain ⟨i, rfl, hz, q⟩ := h
  obtain ⟨u, rfl, t, rfl⟩ := vals1 r
  exact PySem.P.str_of_int hz ⟨.str _, H, I.tok _, ⟨_, rfl⟩, q⟩
theorem call_ord : CallR X (.builtin "ord") (fun xs H Q => ∃ x, xs = [.str x] ∧ x.length = 1 ∧ Q (.int (x.cps.getD 0 0 : Nat)) H) := by
  intro pins s σ H xs us Q I r h
  obtain ⟨x, rfl, hz, q⟩ := h
  obtain ⟨u, rfl, t, rfl⟩ := vals1 r
  exact ord_of_one hz ⟨.int _, H, I.tok _, ⟨_, rfl⟩, q⟩
theorem call_chr : CallR X (.builtin "chr") (fun xs H Q => ∃ i, xs = [.int i] ∧ 0 ≤ i ∧ i ≤ 1114111 ∧ Q (.str ⟨#[i.toNat]⟩) H) := by
  intro pins s σ H xs us Q I r h
  obtain ⟨i, rfl, h0, h1, q⟩ := h
  obtain ⟨u, rfl, t, rfl⟩ := vals1 r
  exact chr_of_range h0 h1 ⟨.str _, H, I.tok _, ⟨_, rfl⟩, q⟩
/-- len of a str, a bytes, a list, a tuple -/
def LenV (K : PySem.W.Frag) (x : V) (H : Hp) (n : Nat) : Prop :=
  match x with
  | .str y => y.length ≤ sizeLine ∧ n = y.length
  | .byt y => y.size ≤ sizeLine ∧ n = y.size
  | .ref p => (∃ xs, SqL K H p xs ∧ n = xs.length) ∨ ∃ xs, SqT K H p xs ∧ n = xs.length
  | _ => False
theorem call_len : CallR X (.builtin "len") (fun xs H Q => ∃ x n, xs = [x] ∧ LenV X.K x H n ∧ Q (.int n) H) := by
  intro pins s σ H xs us Q I r h
  obtain ⟨x, n, rfl, e, q⟩ := h
  obtain ⟨u, rfl, rx⟩ := vals1 r
  have hl := line63
  have hs : sizeLine = 16777216 := sizeLine_eq
  cases x with
  | str y =>
    obtain ⟨t, rfl⟩ := rx
    obtain ⟨hy, e'⟩ : y.length ≤ sizeLine ∧ n = y.length := e
    subst e'
    exact len_str (by omega) ⟨.int _, H, I.tok _, ⟨_, rfl⟩, q⟩
  | byt y =>
    obtain ⟨t, rfl⟩ := rx
    obtain ⟨hy, e'⟩ : y.size ≤ sizeLine ∧ n = y.size := e
    subst e'
    exact PySem.W.len_bytes (by omega) ⟨.int _, H, I.tok _, ⟨_, rfl⟩, q⟩
  | ref p =>
    cases rx
    have e' : (∃ xs, SqL X.K H p xs ∧ n = xs.length) ∨ ∃ xs, SqT X.K H p xs ∧ n = xs.length := e
    rcases e' with ⟨xs, hx, e'⟩ | ⟨xs, hx, e'⟩
    · subst e'
      obtain ⟨its, r', pl, hz⟩ := I.list hx
      have hlen := r'.length
      exact Calls.call_len_list pl.isList (by simp only [List.size_toArray]; omega) ⟨.int xs.length, H, I.tok _, ⟨_, by simp only [List.size_toArray]; rw [hlen]⟩, q⟩
    · subst e'
      obtain ⟨its, r', pl, hz⟩ := I.tuple hx
      have hlen := r'.length
      exact len_tuple pl (by simp only [List.size_toArray]; omega) ⟨.int xs.length, H, I.tok _, ⟨_, by simp only [List.size_toArray]; rw [hlen]⟩, q⟩
  | _ => exact (show False from e).elim
/-- divmod: a new tuple -/
theorem call_divmod : CallR X (.builtin "divmod") (fun xs H Q => ∃ i j, xs = [.int i, .int j] ∧ CDiv i j ∧ ∀ p, H p = none → Q (.ref p) (upd H p (.tup [.int (i / j), .int (i % j)]))) := by
  intro pins s σ H xs us Q I r h
  obtain ⟨i, j, rfl, ⟨h1, h2⟩, q⟩ := h
  obtain ⟨u, w', rfl, ⟨t, rfl⟩, ⟨t', rfl⟩⟩ := vals2 r
  refine divmod_int (by omega) ?_ (.inl (PyProof.noPylong_small (by omega)))
  rw [Int.fdiv_eq_ediv_of_nonneg i (by omega), Int.fmod_eq_emod_of_nonneg i (by omega)]
  have hn : H s.heap.objs.size = none := I.hok.fresh (Nat.le_refl _)
  refine ⟨.ref s.heap.objs.size, _, ?_, rfl, q _ hn⟩
  refine I.laid (fun b o e => Heap.get?_push_of_some _ e) (Nat.le_refl _) ⟨by simp only [List.length_cons, List.length_nil]; rw [sizeLine_eq]; decide, [.int (i / j) s.toks, .int (i % j) (s.toks + 1)], .cons ⟨_, rfl⟩ (.cons ⟨_, rfl⟩ .nil), ?_⟩
  exact ⟨_, Heap.get?_push_size s.heap rfl, rfl, 0, rfl⟩
end
end L2

namespace L2
open PySem PySem.Spec PyProof.Rows

/-! ### an instance, its attributes a map -/
structure ObjM (h : Heap) (x dx C : Addr) (mA : Str → Option Value) : Prop where
  obj : h.get? x = some (PySem.W.instObj C dx)
  ns : h.Ns1 dx mA
  ne : dx ≠ x

theorem lookIn_ns {h : Heap} {dx : Addr} {mA : Str → Option Value} (n : h.Ns1 dx mA) : ∃ od, h.get? dx = some od ∧ ∀ name, PySem.W.lookIn name od = some (mA name) := by
  obtain ⟨o, es, ep, ho, hd, hk, _, hm⟩ := n
  refine ⟨o, ho, fun name => ?_⟩
  have e := hm name
  unfold nsFind findBy at e
  rw [← Array.find?_toList] at e
  unfold PySem.W.lookIn
  rw [hd]
  dsimp only
  split
  · rename_i y q
    rw [q] at e
    exact congrArg some e
  · rename_i q
    rw [q] at e
    have a : es.toList.any (·.refKey) = false := by
      rw [List.any_eq_false]
      intro y hy
      obtain ⟨z, t, hkey⟩ := hk y (Array.mem_toList_iff.mp hy)
      simp [DictEntry.refKey, hkey]
    have a' : ¬ es.toList.any (·.refKey) = true := by rw [a]; exact Bool.false_ne_true
    rw [if_neg a']
    exact congrArg some e

theorem ObjM.look {h : Heap} {x dx C : Addr} {mA : Str → Option Value} (I : ObjM h x dx C mA) : ∃ od, PySem.W.InstAt h x (PySem.W.instObj C dx) C (some od) ∧ ∀ name, PySem.W.lookIn name od = some (mA name) :=
  let ⟨od, ho, hl⟩ := lookIn_ns I.ns
  ⟨od, ⟨I.obj, rfl, rfl, ho⟩, hl⟩

section
variable {prog : Program} {w : World} {A : Around} {E : Value → Shared → Prop} {s : Shared} {K : PySem.W.Frag} {x dx C f : Addr} {mA : Str → Option Value} {name : Str} {v : Value}

theorem get_map {expr : Bool} {Q : Value → Shared → Prop} (X : K.In s.heap) (I : ObjM s.heap x dx C mA) (hg : PySem.W.plainGet K C name = true) (hh : PySem.W.hasDictIn K C = true)
    (ha : PySem.W.findIn K (.ref C) name = some none) (hv : mA name = some v) (hv' : PySem.W.handedIn v = true) (h : Q v { s with toks := s.toks + 1 }) :
    wpAny (model prog w) A (getAttr (.ref x) name expr) Q E s := by
  obtain ⟨od, J, hl⟩ := I.look
  exact PySem.W.get_value X J (PySem.W.plainGet_of hg).1 (PySem.W.findObj_own hh ha rfl (by rw [hl, hv])) hv' h

theorem get_const {expr : Bool} {a : Value} {Q : Value → Shared → Prop} (X : K.In s.heap) (I : ObjM s.heap x dx C mA) (hg : PySem.W.plainGet K C name = true) (hh : PySem.W.hasDictIn K C = true)
    (ha : PySem.W.findIn K (.ref C) name = some (some a)) (hn : PySem.W.specialIn K a "__get__" = some none) (hc : PySem.W.copiedNames.contains name = false) (hv : mA name = none) (hv' : PySem.W.handedIn a = true)
    (h : Q a { s with toks := s.toks + 1 }) : wpAny (model prog w) A (getAttr (.ref x) name expr) Q E s := by
  obtain ⟨od, J, hl⟩ := I.look
  exact PySem.W.get_value X J (PySem.W.plainGet_of hg).1 (PySem.W.findObj_cls hh ha hn hv' hc (by rw [hl, hv])) hv' h

theorem get_meth {pl : Sem Bool} {Q : Value × List Value → Shared → Prop} (X : K.In s.heap) (I : ObjM s.heap x dx C mA) (hg : PySem.W.plainGet K C name = true)
    (hf : PySem.W.findIn K (.ref C) name = some (some (.ref f))) (ht : PySem.W.isFn K (.ref f) = true) (hv : mA name = none) (h : Q (.ref f, [.ref x]) s) :
    wpAny (model prog w) A (getMethod (.ref x) name pl) Q E s := by
  obtain ⟨od, J, hl⟩ := I.look
  exact PySem.W.method_fn X J (PySem.W.plainGet_of hg).1 (PySem.W.plainGet_of hg).2 hf (beq_iff_eq.mp ht) (by show (PySem.W.lookIn name od).map (·.isSome) = some false; rw [hl, hv]; rfl) h

theorem set_map {ns : List Str} {Q : Unit → Shared → Prop} (X : K.In s.heap) (I : ObjM s.heap x dx C mA)
    (hs : PySem.W.findIn K (.ref C) "__setattr__" = some (some (.builtin "object.__setattr__"))) (hp : PySem.W.plainOver K C = true) (ht : PySem.W.takerIn K C name = some none) (hh : PySem.W.hasDictIn K C = true)
    (hw : PySem.Within mA ns) (hsz : ns.length ≤ sizeLine)
    (h : ∀ h', ObjM h' x dx C (fun y => if y = name then some v else mA y) → Heap.SameBut dx s.heap h' → Q () { s with heap := h', toks := s.toks + 2 }) :
    wpAny (model prog w) A (setAttr (.ref x) name v) Q E s := by
  obtain ⟨od, J, hl⟩ := I.look
  refine PySem.W.set_plain X J hs (PySem.W.osa_open (s := { s with toks := s.toks + 1 }) (r := none) X J hp ht fun b => ?_)
  obtain ⟨cd, hc, hd'⟩ := PySem.W.any_some hh
  have hx : s.heap.get? x = some ⟨.ref C, some dx, .plain, #[]⟩ := I.obj
  refine wpAny_bind (wpAny_pure (wpAny_bind (wpAny_bind (wpAny_loadPart hx (wpAny_bind (PySem.W.Looks.here (s := { s with toks := s.toks + 1 }) (PySem.W.looks_clsIn X hc) ?_))))))
  rw [hd']
  refine wpAny_pure (a := some dx) (wpAny_bind (wpAny_pure (wpAny_bind ?_)))
  refine wpAny_nsSet1 (s := { s with toks := s.toks + 1 }) I.ns fun h' hn2 hs2 => ?_
  obtain ⟨oD, esD, epD, hoD, hdD, hcD⟩ := hn2.count (PySem.Within.cons name v hw)
  refine wpAny_bind (wpAny_lookBehind hoD (by rw [hdD]; exact pastItsLine_dict (Nat.le_trans hcD (by rw [List.length_cons]; omega))) ?_)
  exact wpAny_pure (h _ ⟨(hs2.2 _ (Ne.symm I.ne)).trans I.obj, hn2, I.ne⟩ hs2)

/-- C(..): the dict at the heap's end, the instance behind it; then its __init__ -/
theorem make_map {R : Result → Shared → Prop} {vs : List Value} {kw : List (Str × Value)} (X : K.In s.heap) (hm : PySem.W.makesIn K C = true)
    (hi : PySem.W.findIn K (.ref C) "__init__" = some (some (.ref f))) (hf : PySem.W.typeIn K (.ref f) = some (.type "function"))
    (h : codeAny (model prog w) (A.under (.builtin "type.__call__" ⟨.ref C :: vs, kw⟩)) (.call (.ref f) ⟨.ref (s.heap.objs.size + 1) :: vs, kw⟩) (PySem.W.InitBack (s.heap.objs.size + 1) R)
      { s with heap := (s.heap.push PySem.W.emptyDict).push (PySem.W.instObj C s.heap.objs.size) }) :
    codeAny (model prog w) A (.call (.ref C) ⟨vs, kw⟩) R s := by
  obtain ⟨hh, g, d, t, os⟩ := s
  exact PySem.W.make_core (PySem.W.makes_of X hm) (PySem.W.looks_findIn X hi) (fun self => PySem.W.bind_fn X self hf) (.inl rfl) h
/-- C() where there is no __init__ but object's -/
theorem make_map0 {R : Result → Shared → Prop} (X : K.In s.heap) (hm : PySem.W.makesIn K C = true)
    (hi : PySem.W.findIn K (.ref C) "__init__" = some (some (.builtin "object.__init__")))
    (hb : ∀ self, PySem.W.Looks (model prog w) s.heap (bindSpecial (.builtin "object.__init__") self) (.builtin "object.__init__", [self]))
    (h : codeAny (model prog w) (A.under (.builtin "type.__call__" ⟨[.ref C], []⟩)) (.call (.builtin "object.__init__") ⟨[.ref (s.heap.objs.size + 1)], []⟩) (PySem.W.InitBack (s.heap.objs.size + 1) R)
      { s with heap := (s.heap.push PySem.W.emptyDict).push (PySem.W.instObj C s.heap.objs.size) }) :
    codeAny (model prog w) A (.call (.ref C) ⟨[], []⟩) R s := by
  obtain ⟨hh, g, d, t, os⟩ := s
  exact PySem.W.make_core (PySem.W.makes_of X hm) (PySem.W.looks_findIn X hi) hb (.inr ⟨rfl, rfl⟩) h
end

/-! ### the attributes as a list of pairs -/
def putF (f : Str) (v : V) : List (Str × V) → List (Str × V)
  | [] => [(f, v)]
  | (g, x) :: r => if g = f then (g, v) :: r else (g, x) :: putF f v r
theorem lookup_putF (f g : Str) (v : V) : ∀ fs : List (Str × V), (putF f v fs).lookup g = if g = f then some v else fs.lookup g
  | [] => by
    show List.lookup g [(f, v)] = _
    by_cases h : g = f
    · have hb : (g == f) = true := beq_iff_eq.mpr h
      simp only [List.lookup, hb, if_pos h]
    · have hb : (g == f) = false := beq_eq_false_iff_ne.mpr h
      simp only [List.lookup, hb, if_neg h]
  | (k, x) :: r => by
    have ih := lookup_putF f g v r
    rw [show putF f v ((k, x) :: r) = (if k = f then (k, v) :: r else (k, x) :: putF f v r) from rfl]
    by_cases hk : k = f
    · rw [if_pos hk]
      by_cases h : g = k
      · have hb : (g == k) = true := beq_iff_eq.mpr h
        simp only [List.lookup, hb, if_pos (h.trans hk)]
      · have hb : (g == k) = false := beq_eq_false_iff_ne.mpr h
        simp only [List.lookup, hb, if_neg (fun e : g = f => h (e.trans hk.symm))]
    · rw [if_neg hk]
      by_cases h : g = k
      · have hb : (g == k) = true := beq_iff_eq.mpr h
        simp only [List.lookup, hb, if_neg (fun e : g = f => hk (h.symm.trans e))]
      · have hb : (g == k) = false := beq_eq_false_iff_ne.mpr h
        simp only [List.lookup, hb]
        exact ih
theorem keys_putF (f : Str) (v : V) : ∀ fs : List (Str × V), f ∈ (putF f v fs).map (·.1) ∧ ∀ g, g ∈ fs.map (·.1) → g ∈ (putF f v fs).map (·.1)
  | [] => ⟨by simp [putF], fun g h => by simp at h⟩
  | (k, x) :: r => by
    obtain ⟨i1, i2⟩ := keys_putF f v r
    rw [show putF f v ((k, x) :: r) = (if k = f then (k, v) :: r else (k, x) :: putF f v r) from rfl]
    by_cases hk : k = f
    · rw [if_pos hk]
      subst hk
      exact ⟨by simp, fun g h => by simpa using h⟩
    · rw [if_neg hk]
      refine ⟨?_, fun g h => ?_⟩
      · rw [List.map_cons]
        exact List.mem_cons_of_mem _ i1
      · rw [List.map_cons] at h ⊢
        rcases List.mem_cons.mp h with e | e
        · exact List.mem_cons.mpr (.inl e)
        · exact List.mem_cons_of_mem _ (i2 g e)
theorem length_putF (f : Str) (v : V) : ∀ fs : List (Str × V), (putF f v fs).length ≤ fs.length + 1
  | [] => by simp [putF]
  | (k, x) :: r => by
    have ih := length_putF f v r
    rw [show putF f v ((k, x) :: r) = (if k = f then (k, v) :: r else (k, x) :: putF f v r) from rfl]
    by_cases hk : k = f
    · rw [if_pos hk, List.length_cons, List.length_cons]; omega
    · rw [if_neg hk, List.length_cons, List.length_cons]; omega

theorem RelO.some_of {v : V} {o : Option Value} (r : RelO (some v) o) : ∃ u, o = some u ∧ RelV v u := by
  cases o with
  | none => exact (show False from r).elim
  | some u => exact ⟨u, rfl, r⟩
theorem RelO.none_of {o : Option Value} (r : RelO none o) : o = none := by
  cases o with
  | none => rfl
  | some u => exact (show False from r).elim
theorem handed_of {v : V} {u : Value} (r : RelV v u) : PySem.W.handedIn u = true := by
  cases v with
  | non => cases (show u = Value.none from r); rfl
  | bl b => cases (show u = Value.bool b from r); rfl
  | int i => obtain ⟨t, e⟩ := (show ∃ t, u = Value.int i t from r); cases e; rfl
  | str x => obtain ⟨t, e⟩ := (show ∃ t, u = Value.str x t from r); cases e; rfl
  | byt b => obtain ⟨t, e⟩ := (show ∃ t, u = Value.bytes b t from r); cases e; rfl
  | flt b => obtain ⟨t, e⟩ := (show ∃ t, u = Value.float b t from r); cases e; rfl
  | ref a => cases (show u = Value.ref a from r); rfl
  | ty n => cases (show u = Value.type n from r); rfl

section
variable {P : Program} {w : World} {H H' : Hp} {h h' : Heap} {a C dx : Addr} {fs fs' : List (Str × V)}
theorem ins_get (hok : HOk P w H h) (e : H a = some (.ins C dx fs)) : ∃ mA, ObjM h a dx C mA ∧ (∀ f, RelO (fs.lookup f) (mA f)) ∧ PySem.Within mA (fs.map (·.1)) ∧ fs.length ≤ 1000 ∧ H dx = some (.own a) := by
  obtain ⟨d, z, ne, ob, mA, n, r, q⟩ := (show ObjOk P w H h a (.ins C dx fs) from hok a _ e)
  exact ⟨mA, ⟨ob, n, ne⟩, r, q, z, d⟩
end

/-! ### what of the text a class must have -/
structure Cls (K : PySem.W.Frag) (C : Addr) : Prop where
  pg : PySem.W.plainGet K C Str.empty = true
  hd : PySem.W.hasDictIn K C = true
  po : PySem.W.plainOver K C = true
  sa : PySem.W.findIn K (.ref C) "__setattr__" = some (some (.builtin "object.__setattr__"))
theorem Cls.get {K : PySem.W.Frag} {C : Addr} (c : Cls K C) (f : Str) : PySem.W.plainGet K C f = true := c.pg
/-- no class of it has the name -/
def NoAttr (K : PySem.W.Frag) (C : Addr) (f : Str) : Prop := PySem.W.findIn K (.ref C) f = some none
theorem NoAttr.taker {K : PySem.W.Frag} {C : Addr} {f : Str} (n : NoAttr K C f) : PySem.W.takerIn K C f = some none := by
  unfold PySem.W.takerIn
  rw [show PySem.W.findIn K (.ref C) f = some none from n]
  rfl
/-- a constant of the class -/
structure Con (K : PySem.W.Frag) (C : Addr) (f : Str) (v : V) (u : Value) : Prop where
  at_ : PySem.W.findIn K (.ref C) f = some (some u)
  rel : RelV v u
  get : PySem.W.specialIn K u "__get__" = some none
  cp : PySem.W.copiedNames.contains f = false
/-- a method: a plain def of the class or of one above it -/
structure Meth (K : PySem.W.Frag) (C : Addr) (m : Str) (f : Addr) : Prop where
  at_ : PySem.W.findIn K (.ref C) m = some (some (.ref f))
  fn : PySem.W.isFn K (.ref f) = true
  kp : PySem.W.keepIn K (.ref f) = true

section
variable {X : Cx} {pins : List (Addr × Obj)} {σ : St} {H : Hp} {s : Shared} {a C dx : Addr} {fs : List (Str × V)} {f : Str} {v : V} {A : Around} {E : Value → Shared → Prop}

theorem getattr_ok {b : Bool} {Q : Value → Shared → Prop} (I : Inv X pins σ H s) (e : H a = some (.ins C dx fs)) (c : Cls X.K C) (n : NoAttr X.K C f) (l : fs.lookup f = some v)
    (h : ∀ u s', Inv X pins σ H s' → RelV v u → Q u s') : wpAny (model X.prog X.w) A (getAttr (.ref a) f b) Q E s := by
  obtain ⟨mA, O, r, _, _, _⟩ := ins_get I.hok e
  obtain ⟨u, hu, ru⟩ := RelO.some_of (v := v) (o := mA f) (by rw [← l]; exact r f)
  exact get_map I.kIn O (c.get f) c.hd n hu (handed_of ru) (h u _ (I.tok _) ru)

theorem getcon_ok {b : Bool} {u : Value} {Q : Value → Shared → Prop} (I : Inv X pins σ H s) (e : H a = some (.ins C dx fs)) (c : Cls X.K C) (k : Con X.K C f v u) (l : fs.lookup f = none)
    (h : ∀ s', Inv X pins σ H s' → Q u s') : wpAny (model X.prog X.w) A (getAttr (.ref a) f b) Q E s := by
  obtain ⟨mA, O, r, _, _, _⟩ := ins_get I.hok e
  have hn : mA f = none := RelO.none_of (by rw [← l]; exact r f)
  exact get_const I.kIn O (c.get f) c.hd k.at_ k.get k.cp hn (handed_of k.rel) (h _ (I.tok _))

theorem getmeth_ok {m : Str} {g : Addr} {pl : Sem Bool} {Q : Value × List Value → Shared → Prop} (I : Inv X pins σ H s) (e : H a = some (.ins C dx fs)) (c : Cls X.K C) (k : Meth X.K C m g) (l : fs.lookup m = none)
    (h : Q (.ref g, [.ref a]) s) : wpAny (model X.prog X.w) A (getMethod (.ref a) m pl) Q E s := by
  obtain ⟨mA, O, r, _, _, _⟩ := ins_get I.hok e
  have hn : mA m = none := RelO.none_of (by rw [← l]; exact r m)
  exact get_meth I.kIn O (c.get m) k.at_ k.fn hn h

theorem setattr_ok {y : V} {u : Value} {Q : Unit → Shared → Prop} (I : Inv X pins σ H s) (e : H a = some (.ins C dx fs)) (c : Cls X.K C) (n : NoAttr X.K C f) (hl : fs.length < 1000) (ry : RelV y u)
    (h : ∀ s', Inv X pins σ (upd H a (.ins C dx (putF f y fs))) s' → Q () s') : wpAny (model X.prog X.w) A (setAttr (.ref a) f u) Q E s := by
  obtain ⟨mA, O, r, wi, _, ho⟩ := ins_get I.hok e
  have hz : (fs.map (·.1)).length ≤ sizeLine := by rw [List.length_map, sizeLine_eq]; omega
  refine set_map I.kIn O c.sa c.po n.taker c.hd wi hz fun h' O' sb => h _ ?_
  have hd : ∃ o, h'.get? dx = some o := let ⟨o, _, _, e', _⟩ := O'.ns; ⟨o, e'⟩
  refine I.write (x := a) (e := dx) (by rw [e]; exact True.intro) (.inr ho) (fun b q hb z => (sb.2 b hb).trans z) hd ?_
  refine ⟨by rw [upd_ne O.ne]; exact ho, ?_, O.ne, O'.obj, _, O'.ns, fun g => ?_, fun g hg => ?_⟩
  · have := length_putF f y fs; omega
  · show RelO ((putF f y fs).lookup g) (if g = f then some u else mA g)
    rw [lookup_putF]
    by_cases q : g = f
    · rw [if_pos q, if_pos q]; exact ry
    · rw [if_neg q, if_neg q]; exact r g
  · by_cases q : g = f
    · rw [q]; exact (keys_putF f y fs).1
    · refine (keys_putF f y fs).2 g (wi g fun z => hg ?_)
      show (if g = f then some u else mA g) = none
      rw [if_neg q]; exact z

/-- a new instance, tracked, without attributes -/
theorem Inv.made (I : Inv X pins σ H s) : Inv X pins σ (upd (upd H s.heap.objs.size (.own (s.heap.objs.size + 1))) (s.heap.objs.size + 1) (.ins C s.heap.objs.size []))
    { s with heap := (s.heap.push PySem.W.emptyDict).push (PySem.W.instObj C s.heap.objs.size) } := by
  have e1 : (s.heap.push PySem.W.emptyDict).get? s.heap.objs.size = some PySem.W.emptyDict := Heap.get?_push_size s.heap rfl
  have e2 : ((s.heap.push PySem.W.emptyDict).push (PySem.W.instObj C s.heap.objs.size)).get? (s.heap.objs.size + 1) = some (PySem.W.instObj C s.heap.objs.size) := by
    have := Heap.get?_push_size (s.heap.push PySem.W.emptyDict) (o := PySem.W.instObj C s.heap.objs.size) rfl
    rwa [Heap.size_push] at this
  have e3 : (s.heap.push PySem.W.emptyDict).Ns s.heap.objs.size (fun _ => none) := ⟨PySem.W.emptyDict, #[], _, e1, rfl, (fun e he => absurd he (by simp)), fun _ => rfl⟩
  have I1 := I.laid (a := s.heap.objs.size) (o := .own (s.heap.objs.size + 1)) (h' := s.heap.push PySem.W.emptyDict) (t' := s.toks) (fun b u q => Heap.get?_push_of_some _ q) (Nat.le_refl _) ⟨_, e1⟩
  refine I1.laid (a := s.heap.objs.size + 1) (o := .ins C s.heap.objs.size []) (t' := s.toks) (fun b u q => Heap.get?_push_of_some _ q) (Nat.le_of_eq (Heap.size_push _ _)) ?_
  have ne : s.heap.objs.size ≠ s.heap.objs.size + 1 := Nat.ne_of_lt (Nat.lt_succ_self _)
  refine ⟨by rw [upd_ne ne, upd_same], Nat.zero_le _, ne, e2, fun _ => none, (Heap.Ns1.of_empty e3).at fun o q => Heap.get?_push_of_some _ q, fun _ => True.intro, fun y hy => absurd rfl hy⟩

/-- e.f where nothing but the object is asked: through attributeBase (super) and the last hold -/
theorem attr_of {prog : Program} {w : World} {env : Env} {e : Expr} {f : Str} {pos : Pos} {s : Shared} {Q : Value → Shared → Prop} (hb : attributeBase e f env (eval e env) = eval e env)
    (h : wpAny (model prog w) A (eval e env) (fun o s₁ => wpAny (model prog w) A (getAttr o f true) Q E s₁) E s) : wpAny (model prog w) A (eval (.Attribute e f pos) env) Q E s :=
  Attribute_any_ h (by rw [arm_eval_Attribute, hb])
end

/-! ### readings and rules -/
/-- e.f, an attribute of the instance -/
def tFld (K : PySem.W.Frag) (ta : TE) (f : Str) : TE := fun σ H Q => ta σ H fun x H1 => ∃ a C dx fs v, x = .ref a ∧ H1 a = some (.ins C dx fs) ∧ Cls K C ∧ NoAttr K C f ∧ fs.lookup f = some v ∧ Q v H1
/-- e.f, a constant of the class -/
def tCon (K : PySem.W.Frag) (ta : TE) (f : Str) : TE := fun σ H Q => ta σ H fun x H1 => ∃ a C dx fs v u, x = .ref a ∧ H1 a = some (.ins C dx fs) ∧ Cls K C ∧ Con K C f v u ∧ fs.lookup f = none ∧ Q v H1
/-- e.f = value -/
def sFld (K : PySem.W.Frag) (ta tv : TE) (f : Str) : TS := fun D σ H => tv σ H fun y H1 => ta σ H1 fun x H2 => ∃ a C dx fs, x = .ref a ∧ H2 a = some (.ins C dx fs) ∧ Cls K C ∧ NoAttr K C f ∧ fs.length < 1000 ∧
  D.nx σ (upd H2 a (.ins C dx (putF f y fs)))
/-- an augmented operator on two values -/
def InOp (X : Cx) (op : Operator) (rd : V → V → Hp → VK → Prop) : Prop :=
  ∀ (pins : List (Addr × Obj)) (s : Shared) (σ : St) (H : Hp) (x y : V) (u v : Value) (Q : VK), Inv X pins σ H s → RelV x u → RelV y v → rd x y H Q → wpAny (model X.prog X.w) X.A (inplaceOp op u v) (EP X pins σ Q) X.xe s
/-- e.f op= value -/
def sFldAug (K : PySem.W.Frag) (ta tv : TE) (rd : V → V → Hp → VK → Prop) (f : Str) : TS := fun D σ H => ta σ H fun x H1 => ∃ a C dx fs v, x = .ref a ∧ H1 a = some (.ins C dx fs) ∧ Cls K C ∧ NoAttr K C f ∧ fs.lookup f = some v ∧
  tv σ H1 fun y H2 => rd v y H2 fun z H3 => ∃ dx' fs', H3 a = some (.ins C dx' fs') ∧ fs'.length < 1000 ∧ D.nx σ (upd H3 a (.ins C dx' (putF f z fs')))

section
variable {X : Cx} {o e value : Expr} {f : Str} {pos pos' tpos : Pos} {ta tv : TE}
theorem pe_fld (he : PE X e ta) (hb : attributeBase e f X.env (eval e X.env) = eval e X.env) : PE X (.Attribute e f pos) (tFld X.K ta f) := by
  intro pins s σ H Q I h
  refine attr_of hb (thn (he pins s σ H _ I h) fun u s1 ⟨x, H1, I1, rx, a, C, dx, fs, v, ex, ea, c, n, l, q⟩ => ?_)
  subst ex
  obtain rfl : u = Value.ref a := rx
  exact getattr_ok I1 ea c n l fun u' s2 I2 ru => ⟨v, H1, I2, ru, q⟩
theorem pe_con (he : PE X e ta) (hb : attributeBase e f X.env (eval e X.env) = eval e X.env) : PE X (.Attribute e f pos) (tCon X.K ta f) := by
  intro pins s σ H Q I h
  refine attr_of hb (thn (he pins s σ H _ I h) fun u s1 ⟨x, H1, I1, rx, a, C, dx, fs, v, u0, ex, ea, c, k, l, q⟩ => ?_)
  subst ex
  obtain rfl : u = Value.ref a := rx
  exact getcon_ok I1 ea c k l fun s2 I2 => ⟨v, H1, I2, k.rel, q⟩
theorem ps_fld (ha : PE X o ta) (hv : PE X value tv) (hs : swapsWith value (some (.Attribute o f pos')) pos.line X.env = pure false) : PS X (.Assign [.Attribute o f pos'] value pos) (sFld X.K ta tv f) := by
  intro pins s σ H D I h
  refine plainObj_wpAny_Assign_Attribute (thn (hv pins s σ H _ I h) fun u s1 ⟨y, H1, I1, ry, q⟩ => thn (ha pins s1 σ H1 _ I1 q) fun ov s2 ⟨x, H2, I2, rx, a, C, dx, fs, ex, ea, c, n, l, q2⟩ => ?_) hs
  subst ex
  obtain rfl : ov = Value.ref a := rx
  exact setattr_ok I2 ea c n l ry fun s3 I3 => ⟨σ, _, I3, q2⟩
theorem ps_fldaug {op : Operator} {rd : V → V → Hp → VK → Prop} (ha : PE X o ta) (hv : PE X value tv) (hop : InOp X op rd) : PS X (.AugAssign (.Attribute o f tpos) op value pos) (sFldAug X.K ta tv rd f) := by
  intro pins s σ H D I h
  refine wpAny_AugAssign_AttributeAny (thn (ha pins s σ H _ I h) fun ov s1 ⟨x, H1, I1, rx, a, C, dx, fs, v, ex, ea, c, n, l, q⟩ => ?_)
  subst ex
  obtain rfl : ov = Value.ref a := rx
  refine getattr_ok I1 ea c n l fun u s2 I2 ru => thn (hv pins s2 σ H1 _ I2 q) fun w3 s3 ⟨y, H2, I3, ry, q3⟩ => thn (hop pins s3 σ H2 v y u w3 _ I3 ru ry q3) fun w4 s4 ⟨z, H3, I4, rz, dx', fs', ea', l', q4⟩ => ?_
  exact setattr_ok I4 ea' c n l' rz fun s5 I5 => ⟨σ, _, I5, q4⟩
def rAdd : V → V → Hp → VK → Prop := fun x y H Q => ∃ i j, x = .int i ∧ y = .int j ∧ Q (.int (i + j)) H
def rSub : V → V → Hp → VK → Prop := fun x y H Q => ∃ i j, x = .int i ∧ y = .int j ∧ Q (.int (i - j)) H
theorem in_add : InOp X .Add rAdd := by
  rintro pins s σ H x y u v Q I rx ry ⟨i, j, rfl, rfl, q⟩
  obtain ⟨t, rfl⟩ := (show ∃ t, u = Value.int i t from rx)
  obtain ⟨t', rfl⟩ := (show ∃ t', v = Value.int j t' from ry)
  exact PyProof.Rows.iadd_int ⟨.int (i + j), H, I.tok _, ⟨_, rfl⟩, q⟩
theorem in_sub : InOp X .Sub rSub := by
  rintro pins s σ H x y u v Q I rx ry ⟨i, j, rfl, rfl, q⟩
  obtain ⟨t, rfl⟩ := (show ∃ t, u = Value.int i t from rx)
  obtain ⟨t', rfl⟩ := (show ∃ t', v = Value.int j t' from ry)
  exact PyProof.Rows.isub_int ⟨.int (i - j), H, I.tok _, ⟨_, rfl⟩, q⟩

/-- what is between an instance and its method: the tree of a method call -/
theorem methcall_of {pl : Sem Bool} {m : Str} {apos : Pos} {args : List Expr} {pins : List (Addr × Obj)} {s : Shared} {σ : St} {H : Hp} {Q : Value → Shared → Prop} {te : TE} (he : PE X e te) (I : Inv X pins σ H s)
    (h : te σ H fun x H1 => ∃ a C dx fs g, x = .ref a ∧ H1 a = some (.ins C dx fs) ∧ Cls X.K C ∧ Meth X.K C m g ∧ fs.lookup m = none ∧
      ∀ s1, Inv X pins σ H1 s1 → wpAny (model X.prog X.w) X.A (callWith pos (.ref g) [.ref a] (backTo pos (starEach args X.env)) (backToKw pos (keywordEach [] X.env))) Q X.xe s1)
    (ht : eval (.Call (.Attribute e m apos) args [] pos) X.env = (do
      let ov ← eval e X.env
      standAt apos.atName
      let (f, first) ← holding [ov] (getMethod ov m pl)
      callWith pos f first (backTo pos (starEach args X.env)) (backToKw pos (keywordEach [] X.env)))) :
    wpAny (model X.prog X.w) X.A (eval (.Call (.Attribute e m apos) args [] pos) X.env) Q X.xe s := by
  refine PySem.W.methodCall_KW (pl := pl) (thn (he pins s σ H _ I h) fun u s1 ⟨x, H1, I1, rx, a, C, dx, fs, g, ex, ea, c, k, l, q⟩ => ?_) ht
  subst ex
  obtain rfl : u = Value.ref a := rx
  exact getmeth_ok I1 ea c k l (q s1 I1)
end

/-! ### isinstance -/
section
variable {X : Cx} {pins : List (Addr × Obj)} {σ : St} {H : Hp} {s : Shared} {A : Around} {E : Value → Shared → Prop} {Q : Value → Shared → Prop} {c : Value} {b : Bool}
/-- the type of a value, as the fragment's deciders take it; for an instance its class -/
inductive TyOf (K : PySem.W.Frag) (H : Hp) : V → Value → Prop where
  | non : TyOf K H .non (.type "NoneType")
  | bl (x : Bool) : TyOf K H (.bl x) (.type "bool")
  | int (i : Int) : TyOf K H (.int i) (.type "int")
  | str (x : Str) : TyOf K H (.str x) (.type "str")
  | flt (x : UInt64) : TyOf K H (.flt x) (.type "float")
  | lst {a : Addr} {xs : List V} (e : H a = some (.lst xs)) : TyOf K H (.ref a) (.type "list")
  | frz {a : Addr} {o : Obj} {xs : List V} (e : H a = some (.frz o (.lst xs))) : TyOf K H (.ref a) (.type "list")
  | tup {a : Addr} {xs : List V} (e : H a = some (.tup xs)) : TyOf K H (.ref a) (.type "tuple")
  | dK {a : Addr} {kvs : List (Key × V)} (e : H a = some (.dK kvs)) : TyOf K H (.ref a) (.type "dict")
  | dT {a : Addr} {kvs : List (List Key × V)} (e : H a = some (.dT kvs)) : TyOf K H (.ref a) (.type "dict")
  | ins {a C dx : Addr} {fs : List (Str × V)} (e : H a = some (.ins C dx fs)) (cl : Cls K C) (ha : PySem.W.findIn K (.ref C) "__class__" = some (some (.builtin "object.__class__")))
      (hn : PySem.W.specialIn K (.builtin "object.__class__") "__get__" = some (some (.builtin "getset_descriptor.__get__"))) (htk : PySem.W.takesIn K (.builtin "object.__class__") = some true)
      (hm : PySem.W.mroIn K C (.type "object") = some true) : TyOf K H (.ref a) (.ref C)
/-- isinstance(x, c) for one class c, a built-in or an own one: kitOne's answer -/
theorem isinst_ok {x : V} {u t : Value} (I : Inv X pins σ H s) (rx : RelV x u) (ty : TyOf X.K H x t) (e : PySem.W.kitOne X.K t c = some b) (h : ∀ tk, Q (.bool b) { s with toks := tk }) :
    wpAny (model X.prog X.w) A (call (.builtin "isinstance") [u, c]) Q E s := by
  cases ty with
  | non => cases (show u = Value.none from rx); exact PySem.W.kia_one PySem.W.kitx_none I.kIn True.intro e (fun z => nomatch z) h
  | bl y => cases (show u = Value.bool y from rx); exact PySem.W.kia_one PySem.W.kitx_bool I.kIn True.intro e (fun z => nomatch z) h
  | int i => obtain ⟨t, q⟩ := (show ∃ t, u = Value.int i t from rx); cases q; exact PySem.W.kia_one PySem.W.kitx_int I.kIn True.intro e (fun z => nomatch z) h
  | str y => obtain ⟨t, q⟩ := (show ∃ t, u = Value.str y t from rx); cases q; exact PySem.W.kia_one PySem.W.kitx_str I.kIn True.intro e (fun z => nomatch z) h
  | flt y => obtain ⟨t, q⟩ := (show ∃ t, u = Value.float y t from rx); cases q; exact PySem.W.kia_one PySem.W.kitx_float I.kIn True.intro e (fun z => nomatch z) h
  | @lst a xs ea =>
    cases (show u = Value.ref a from rx)
    obtain ⟨_, _, n, _, h1⟩ := (show ObjOk X.prog X.w H s.heap a (.lst xs) from I.hok a _ ea)
    exact PySem.W.kia_one PySem.W.kitx_list I.kIn ⟨_, h1, rfl⟩ e (fun z => nomatch z) h
  | @frz a ob xs ea =>
    cases (show u = Value.ref a from rx)
    obtain ⟨_, _, _, n, _, h1⟩ := (show ObjOk X.prog X.w H s.heap a (.frz ob (.lst xs)) from I.hok a _ ea)
    exact PySem.W.kia_one PySem.W.kitx_list I.kIn ⟨_, h1, rfl⟩ e (fun z => nomatch z) h
  | @tup a xs ea =>
    cases (show u = Value.ref a from rx)
    obtain ⟨_, _, _, p⟩ := (show ObjOk X.prog X.w H s.heap a (.tup xs) from I.hok a _ ea)
    obtain ⟨o, h1, h2, _⟩ := p
    exact PySem.W.kia_one PySem.W.kitx_tuple I.kIn ⟨o, h1, h2⟩ e (fun z => nomatch z) h
  | @dK a kvs ea =>
    cases (show u = Value.ref a from rx)
    obtain ⟨_, _, vs, _, p⟩ := (show ObjOk X.prog X.w H s.heap a (.dK kvs) from I.hok a _ ea)
    obtain ⟨o, es, ep, h1, h2, _⟩ := p
    exact PySem.W.kia_one PySem.W.kitx_dict I.kIn ⟨o, h1, h2.1⟩ e (fun z => nomatch z) h
  | @dT a kvs ea =>
    cases (show u = Value.ref a from rx)
    obtain ⟨_, _, xs, _, o, es, ep, h1, h2, _⟩ := (show ObjOk X.prog X.w H s.heap a (.dT kvs) from I.hok a _ ea)
    exact PySem.W.kia_one PySem.W.kitx_dict I.kIn ⟨o, h1, h2.1⟩ e (fun z => nomatch z) h
  | @ins a C dx fs ea cl ha hn htk hm =>
    cases (show u = Value.ref a from rx)
    obtain ⟨mA, O, _⟩ := ins_get I.hok ea
    obtain ⟨od, J, _⟩ := O.look
    exact PySem.W.kia_one (PySem.W.kitx_own (cl.get _) cl.hd ha hn htk hm) I.kIn J e (fun z => nomatch z) h
end
end L2

namespace L2
open PySem PySem.Spec PyProof.Rows

/-! ### room -/
structure Room (k : Nat) (A : Around) : Prop where
  hd : A.handled = none
  dp : A.depth + 3 * k + 5 < recursionLimit
  un : A.units + 16 * k + 200 < cLine
  gd : A.guards = some []
theorem Room.mono {j k : Nat} {A : Around} (r : Room k A) (h : j ≤ k) : Room j A := ⟨r.hd, by have := r.dp; omega, by have := r.un; omega, r.gd⟩
theorem Room.deeper {k : Nat} {A : Around} (r : Room (k + 1) A) (env : Env) : Room k (A.deeper env) :=
  ⟨r.hd, by have := r.dp; show A.depth + 1 + 3 * k + 5 < _; omega, by have := r.un; show A.units + 3 + 16 * k + 200 < _; omega, r.gd⟩
theorem Room.in1 {k : Nat} {A : Around} (r : Room (k + 1) A) : Room k A.in1 :=
  ⟨r.hd, by have := r.dp; show A.depth + 3 * k + 5 < _; omega, by have := r.un; show A.units + 1 + 16 * k + 200 < _; omega, r.gd⟩
theorem make_depth {A : Around} {C : Addr} {us : List Value} {kw : List (Str × Value)} : (A.under (.builtin "type.__call__" ⟨.ref C :: us, kw⟩)).depth = A.depth + 1 := by
  first | rfl | simp [Around.under, Code.weight, Code.isCreation, Code.isGuard, Code.isCaller, Code.frames, Code.isFrame, guardIds]
theorem make_units {A : Around} {C : Addr} {us : List Value} {kw : List (Str × Value)} : (A.under (.builtin "type.__call__" ⟨.ref C :: us, kw⟩)).units = A.units + 1 := by
  first | rfl | simp [Around.under, Code.cUnits, Code.frames, Code.isFrame]
theorem Room.make {k : Nat} {A : Around} (r : Room (k + 1) A) (C : Addr) (us : List Value) (kw : List (Str × Value)) : Room k (A.under (.builtin "type.__call__" ⟨.ref C :: us, kw⟩)) :=
  ⟨r.hd, by have := r.dp; rw [make_depth]; omega, by have := r.un; rw [make_units]; omega, by show pushGuards (Code.guards (.builtin "type.__call__" ⟨.ref C :: us, kw⟩)) A.guards = some []; rw [r.gd]; rfl⟩
theorem Room.depth {k : Nat} {A : Around} (r : Room k A) : A.depth < recursionLimit := by have := r.dp; omega
theorem Room.units {k : Nat} {A : Around} (r : Room k A) : A.units + 64 < cLine := by have := r.un; omega
theorem Room.units0 {k : Nat} {A : Around} (r : Room k A) : A.units < cLine := by have := r.un; omega

/-! ### argument lists and displays -/
def tNil : TA := fun _ H Q => Q [] H
def tCons (ta : TE) (tr : TA) : TA := fun σ H Q => ta σ H fun x H1 => tr σ H1 fun xs H2 => Q (x :: xs) H2
section
variable {X : Cx} {e : Expr} {es : List Expr} {te : TE} {t : TA} {pos : Pos}
theorem pa_nil : PA X [] tNil := fun _ _ _ _ H Q I h => Calls.spliced_nil ⟨[], H, I, .nil, h⟩
theorem pa_cons (ha : PE X e te) (hr : PA X es t) (hs : starEach (e :: es) X.env = (false, eval e X.env) :: starEach es X.env := by rfl) : PA X (e :: es) (tCons te t) := by
  intro pos pins s σ H Q I h
  rw [hs]
  show wpAny _ _ (spliced ((false, eval e X.env) :: backTo pos (starEach es X.env))) _ _ s
  refine Calls.spliced_cons (thn (ha pins s σ H _ I h) fun u s1 ⟨x, H1, I1, r1, q1⟩ => ?_)
  exact thn (hr pos pins s1 σ H1 _ I1 q1) fun us s2 ⟨xs, H2, I2, r2, q2⟩ => ⟨x :: xs, H2, I2, .cons r1 r2, q2⟩

/-- a tuple, a list of written items -/
def tTup (t : TA) : TE := fun σ H Q => t σ H fun xs H1 => xs.length ≤ sizeLine ∧ ∀ p, H1 p = none → Q (.ref p) (upd H1 p (.tup xs))
def tLst (t : TA) : TE := fun σ H Q => t σ H fun xs H1 => xs.length ≤ sizeLine ∧ ∀ p, H1 p = none → Q (.ref p) (upd H1 p (.lst xs))
theorem pe_tup {x1} (h : PA X es t) : PE X (.Tuple es x1 pos) (tTup t) := by
  intro pins s σ H Q I hq
  refine wpAny_Tuple_spliced (thn (h pos pins s σ H _ I hq) fun us s1 ⟨xs, H1, I1, r, z, q⟩ => ⟨by rw [← r.length]; exact z, ?_⟩)
  have hf : H1 s1.heap.objs.size = none := I1.hok.fresh (Nat.le_refl _)
  refine ⟨.ref s1.heap.objs.size, upd H1 s1.heap.objs.size (.tup xs), I1.laid (t' := s1.toks) (fun b u e => Heap.get?_push_of_some _ e) (Nat.le_refl _) ?_, rfl, q _ hf⟩
  exact ⟨z, us, r, ⟨_, Heap.get?_push_size _ rfl, rfl, _, rfl⟩⟩
theorem pe_lst (h : PA X es t) : PE X (.List es pos) (tLst t) := by
  intro pins s σ H Q I hq
  refine wpAny_List_spliced (thn (h pos pins s σ H _ I hq) fun us s1 ⟨xs, H1, I1, r, z, q⟩ => ⟨by rw [← r.length]; exact z, ?_⟩)
  have hf : H1 s1.heap.objs.size = none := I1.hok.fresh (Nat.le_refl _)
  refine ⟨.ref s1.heap.objs.size, upd H1 s1.heap.objs.size (.lst xs), I1.laid (t' := s1.toks) (fun b u e => Heap.get?_push_of_some _ e) (Nat.le_refl _) ?_, rfl, q _ hf⟩
  exact ⟨z, us, 0, r, Heap.get?_push_size _ rfl⟩
end

/-! ### what a def promises -/
/-- a def's promise: the bound arguments in the parameters' order, the heap, the wanted end, the wanted exception -/
abbrev Sp := List V → Hp → VK → XK → Prop
/-- how an exception lies behind a call (file 08 gives it): the callers' frames, abstract heap and state ahead of the call, the wish, the exception, the state -/
abbrev CXT := List Env → Hp → Shared → XK → Value → Shared → Prop

/-- the state at a call -/
structure Env0 (P : Program) (w : World) (K : PySem.W.Frag) (mg : Str → Option Value) (base : Heap) (A : Around) (outer : List Env) (s : Shared) (H : Hp) : Prop where
  frames : A.frames = some outer
  mod : Mod K mg base
  bs : ∀ b o, base.get? b = some o → s.heap.get? b = some o ∧ H b = none
  bsz : base.objs.size ≤ s.heap.objs.size
  funs : s.heap.FunFrames base outer
  frf : ∀ b ∈ frs outer, H b = none
  hok : HOk P w H s.heap
  bare : AllBare s.gens
  sy : H sysModules = none
/-- a call's end -/
def CE (outer : List Env) (P : Program) (w : World) (H : Hp) (s : Shared) (Q : VK) (u : Value) (s' : Shared) : Prop :=
  ∃ v H', s'.os = s.os ∧ AllBare s'.gens ∧ Un (frs outer) [] H H' s.heap s'.heap ∧ HOk P w H' s'.heap ∧ RelV v u ∧ Q v H'
def CR (CX : CXT) (outer : List Env) (P : Program) (w : World) (H : Hp) (s : Shared) (Q : VK) (E : XK) (r : Result) (s' : Shared) : Prop :=
  match r with
  | .ok (.ret u) => CE outer P w H s Q u s'
  | .ok _ => False
  | .error e => CX outer H s E e s'
structure FnOk (P : Program) (w : World) (K : PySem.W.Frag) (mg : Str → Option Value) (base : Heap) (CX : CXT) (k : Nat) (f : Addr) (fd : FuncData) (ps : List Str) (sp : Sp) : Prop where
  len : ∀ vs H Q E, sp vs H Q E → vs.length = ps.length
  run : ∀ (A : Around) (outer : List Env) (s : Shared) (H : Hp) (args : Args) (us : List Value) (vs : List V) (Q : VK) (E : XK), Room k A → Env0 P w K mg base A outer s H → BindsTo s fd args (ps.zip us) → Vals vs us → sp vs H Q E →
    codeAny (model P w) A (.call (.ref f) args) (CR CX outer P w H s Q E) s
theorem FnOk.mono {P : Program} {w : World} {K : PySem.W.Frag} {mg : Str → Option Value} {base : Heap} {CX : CXT} {j k : Nat} {f : Addr} {fd : FuncData} {ps : List Str} {sp : Sp} (F : FnOk P w K mg base CX j f fd ps sp) (h : j ≤ k) :
    FnOk P w K mg base CX k f fd ps sp := ⟨F.len, fun A outer s H args us vs Q E hr => F.run A outer s H args us vs Q E (hr.mono h)⟩
/-- a weaker promise -/
theorem FnOk.imp {P : Program} {w : World} {K : PySem.W.Frag} {mg : Str → Option Value} {base : Heap} {CX : CXT} {k : Nat} {f : Addr} {fd : FuncData} {ps : List Str} {sp sp' : Sp} (F : FnOk P w K mg base CX k f fd ps sp)
    (h : ∀ vs H Q E, sp' vs H Q E → sp vs H Q E) : FnOk P w K mg base CX k f fd ps sp' :=
  ⟨fun vs H Q E q => F.len vs H Q E (h _ _ _ _ q), fun A outer s H args us vs Q E hr he hb hv hs => F.run A outer s H args us vs Q E hr he hb hv (h _ _ _ _ hs)⟩

theorem Env0.make {P : Program} {w : World} {K : PySem.W.Frag} {mg : Str → Option Value} {base : Heap} {A : Around} {outer : List Env} {s : Shared} {H : Hp} (e : Env0 P w K mg base A outer s H) (C : Addr) (us : List Value) (kw : List (Str × Value)) :
    Env0 P w K mg base (A.under (.builtin "type.__call__" ⟨.ref C :: us, kw⟩)) outer s H := ⟨by first | exact e.frames | (simpa [Around.under, Code.envs, Code.isFrame, pushEnvs] using e.frames), e.mod, e.bs, e.bsz, e.funs, e.frf, e.hok, e.bare, e.sy⟩
theorem Env0.in1 {P : Program} {w : World} {K : PySem.W.Frag} {mg : Str → Option Value} {base : Heap} {A : Around} {outer : List Env} {s : Shared} {H : Hp} (e : Env0 P w K mg base A outer s H) :
    Env0 P w K mg base A.in1 outer s H := ⟨e.frames, e.mod, e.bs, e.bsz, e.funs, e.frf, e.hok, e.bare, e.sy⟩

section
variable {X : Cx} {pins : List (Addr × Obj)} {σ : St} {H : Hp} {s s' : Shared}
/-- from a body: what a callee wants -/
theorem Inv.env0 (I : Inv X pins σ H s) : Env0 X.prog X.w X.K X.mg X.base X.A X.stack s H :=
  ⟨I.ok.frames, I.ok.mod, I.bs, Nat.le_trans I.ok.bsz I.sz, I.stack, I.stkFree, I.hok, I.bare, I.sysN⟩
/-- behind a call -/
theorem Inv.after {Q : VK} {u : Value} (I : Inv X pins σ H s) (h : CE X.stack X.prog X.w H s Q u s') : EP X pins σ Q u s' := by
  obtain ⟨v, H', os, bare, un, hok, r, q⟩ := h
  obtain ⟨hh, g, d, t, os'⟩ := s'
  obtain rfl : os' = s.os := os
  exact ⟨v, H', I.call (h' := hh) (g' := g) (d' := d) (t' := t) (ch := []) un hok bare (fun b z => absurd z (by simp)), r, q⟩
end

/-! ### calls -/
/-- f(..): the written arguments, then the defaults dvs; E: what is wanted of an exception -/
def tCall (sp : Sp) (dvs : List V) (E : XK) (t : TA) : TE := fun σ H Q => t σ H fun vs H1 => sp (vs ++ dvs) H1 Q E
/-- o.m(..) of an instance of the class at C -/
def tMeth (C : Addr) (m : Str) (sp : Sp) (dvs : List V) (E : XK) (ta : TE) (t : TA) : TE := fun σ H Q => ta σ H fun x H1 => ∃ a dx fs, x = .ref a ∧ H1 a = some (.ins C dx fs) ∧ fs.lookup m = none ∧
  t σ H1 fun vs H2 => sp (x :: (vs ++ dvs)) H2 Q E
/-- C(..): a new instance and its dict, then __init__ -/
def tMake (C : Addr) (sp : Sp) (dvs : List V) (E : XK) (t : TA) : TE := fun σ H Q => t σ H fun vs H1 => ∀ x dx, H1 x = none → H1 dx = none → dx ≠ x →
  sp (.ref x :: (vs ++ dvs)) (upd (upd H1 dx (.own x)) x (.ins C dx [])) (fun v H2 => v = .non ∧ Q (.ref x) H2) E

/-- how the parameters are bound: us the positional arguments, kw the keywords' values by name, ds the defaults that fill up -/
def Binds (K : PySem.W.Frag) (fd : FuncData) (ps : List Str) (ds : List Value) : Prop :=
  ∀ (s : Shared) (us : List Value), K.In s.heap → (us ++ ds).length = ps.length → BindsTo s fd ⟨us, []⟩ (ps.zip (us ++ ds))
/-- every parameter is given -/
theorem Binds.all {K : PySem.W.Frag} {fd : FuncData} {ps : List Str} (h : ∀ us : List Value, us.length = ps.length → bindArgs fd ⟨us, []⟩ = pure (ps.zip us)) : Binds K fd ps [] := fun s us _ hl => by
  rw [List.append_nil] at hl ⊢
  exact .of_eq (h us hl)

/-- an exception of a callee reaches what this body wants of exceptions -/
def Passes (CX : CXT) (X : Cx) (E : XK) : Prop := ∀ (pins : List (Addr × Obj)) (σ : St) (H : Hp) (s : Shared) (e : Value) (s' : Shared), Inv X pins σ H s → CX X.stack H s E e s' → X.xe e s'

section
variable {X : Cx} {CX : CXT} {k : Nat} {f C : Addr} {fd : FuncData} {ps : List Str} {sp : Sp} {dvs : List V} {ds : List Value} {E : XK} {x m : Str} {p pos apos : Pos} {e o : Expr} {es : List Expr} {ta : TE} {t : TA}

/-- the callee runs -/
theorem run_fn {pins : List (Addr × Obj)} {σ : St} {H : Hp} {s : Shared} {Q : VK} {us : List Value} {vs : List V} (F : FnOk X.prog X.w X.K X.mg X.base CX k f fd ps sp) (hr : Room k X.A) (hb : Binds X.K fd ps ds) (hd : Vals dvs ds) (hx : Passes CX X E)
    (I : Inv X pins σ H s) (r : Vals vs us) (h : sp (vs ++ dvs) H Q E) : wpAny (model X.prog X.w) X.A (call (.ref f) us) (EP X pins σ Q) X.xe s := by
  have r2 : Vals (vs ++ dvs) (us ++ ds) := r.append hd
  have hl : (us ++ ds).length = ps.length := by rw [← r2.length]; exact F.len _ _ _ _ h
  refine wpAny_call (codeAny_mono (F.run X.A X.stack s H ⟨us, []⟩ (us ++ ds) (vs ++ dvs) Q E hr I.env0 (hb s us I.kIn hl) r2 h) fun r s' hq => ?_)
  cases r with
  | error e => exact hx pins σ H s e s' I hq
  | ok fl =>
    cases fl with
    | ret u => exact I.after hq
    | next => exact False.elim hq
    | brk => exact False.elim hq
    | cont => exact False.elim hq

theorem pe_call (F : FnOk X.prog X.w X.K X.mg X.base CX k f fd ps sp) (hr : Room k X.A) (hg : Gl X x) (hm : X.mg x = some (.ref f)) (hk : PySem.W.keepIn X.K (.ref f) = true) (hb : Binds X.K fd ps ds) (hd : Vals dvs ds) (hx : Passes CX X E)
    (ha : PA X (e :: es) t) (hdb : (x == ("__debug__" : Str)) = false := by decide) (he : starEach (e :: es) X.env = (false, eval e X.env) :: starEach es X.env := by rfl) (hpl : (backTo pos (starEach es X.env)).any (·.1) = false := by rfl) :
    PE X (.Call (.Name x p) (e :: es) [] pos) (tCall sp dvs E t) := by
  intro pins s σ H Q I h
  refine wpAny_Call_Name_kw (ld_glob I hg hm ?_ hdb)
  refine PySem.W.callWith_K (h₀ := X.base) I.ok.mod.kin hk (thn (ha pos pins s σ H _ I h) fun us s1 ⟨vs, H1, I1, r, q⟩ => ⟨I1.kIn, ?_⟩) he hpl
  exact run_fn F hr hb hd hx I1 r q
theorem pe_call0 (F : FnOk X.prog X.w X.K X.mg X.base CX k f fd ps sp) (hr : Room k X.A) (hg : Gl X x) (hm : X.mg x = some (.ref f)) (hk : PySem.W.keepIn X.K (.ref f) = true) (hb : Binds X.K fd ps ds) (hd : Vals dvs ds) (hx : Passes CX X E)
    (hdb : (x == ("__debug__" : Str)) = false := by decide) : PE X (.Call (.Name x p) [] [] pos) (tCall sp dvs E tNil) := by
  intro pins s σ H Q I h
  refine wpAny_Call_Name_kw (ld_glob I hg hm ?_ hdb)
  exact PySem.W.callWith_K0 I.kIn hk (run_fn (us := []) F hr hb hd hx I .nil h)

/-- o.m(e, ..) -/
theorem pe_meth {pl : Sem Bool} (he : PE X o ta) (c : Cls X.K C) (hm : Meth X.K C m f) (F : FnOk X.prog X.w X.K X.mg X.base CX k f fd ps sp) (hr : Room k X.A) (hb : Binds X.K fd ps ds) (hd : Vals dvs ds) (hx : Passes CX X E) (ha : PA X (e :: es) t)
    (hst : starEach (e :: es) X.env = (false, eval e X.env) :: starEach es X.env := by rfl) (hpl : (backTo pos (starEach es X.env)).any (·.1) = false := by rfl)
    (ht : eval (.Call (.Attribute o m apos) (e :: es) [] pos) X.env = (do
      let ov ← eval o X.env
      standAt apos.atName
      let (f, first) ← holding [ov] (getMethod ov m pl)
      callWith pos f first (backTo pos (starEach (e :: es) X.env)) (backToKw pos (keywordEach [] X.env))) := by rfl) :
    PE X (.Call (.Attribute o m apos) (e :: es) [] pos) (tMeth C m sp dvs E ta t) := by
  intro pins s σ H Q I h
  refine PySem.W.methodCall_KW (pl := pl) (thn (he pins s σ H _ I h) fun u s1 ⟨x, H1, I1, rx, a, dx, fs, ex, ea, l, q⟩ => ?_) ht
  subst ex
  obtain rfl : u = Value.ref a := rx
  refine getmeth_ok I1 ea c hm l ?_
  refine PySem.W.callWith_K (first := [.ref a]) (h₀ := X.base) I.ok.mod.kin hm.kp (thn (ha pos pins s1 σ H1 _ I1 q) fun us s2 ⟨vs, H2, I2, r, q2⟩ => ⟨I2.kIn, ?_⟩) hst hpl
  exact run_fn (us := .ref a :: us) (vs := .ref a :: vs) F hr hb hd hx I2 (.cons rfl r) q2
/-- o.m() -/
theorem pe_meth0 {pl : Sem Bool} (he : PE X o ta) (c : Cls X.K C) (hm : Meth X.K C m f) (F : FnOk X.prog X.w X.K X.mg X.base CX k f fd ps sp) (hr : Room k X.A) (hb : Binds X.K fd ps ds) (hd : Vals dvs ds) (hx : Passes CX X E)
    (ht : eval (.Call (.Attribute o m apos) [] [] pos) X.env = (do
      let ov ← eval o X.env
      standAt apos.atName
      let (f, first) ← holding [ov] (getMethod ov m pl)
      callWith pos f first (backTo pos (starEach [] X.env)) (backToKw pos (keywordEach [] X.env))) := by rfl) :
    PE X (.Call (.Attribute o m apos) [] [] pos) (tMeth C m sp dvs E ta tNil) := by
  intro pins s σ H Q I h
  refine PySem.W.methodCall_KW (pl := pl) (thn (he pins s σ H _ I h) fun u s1 ⟨x, H1, I1, rx, a, dx, fs, ex, ea, l, q⟩ => ?_) ht
  subst ex
  obtain rfl : u = Value.ref a := rx
  refine getmeth_ok I1 ea c hm l ?_
  exact PySem.W.callWith_K0 (first := [.ref a]) I1.kIn hm.kp (run_fn (us := [.ref a]) (vs := [.ref a]) F hr hb hd hx I1 (.cons rfl .nil) q)

/-- what a class must have to be made -/
structure Mk (K : PySem.W.Frag) (C f : Addr) : Prop where
  makes : PySem.W.makesIn K C = true
  init : PySem.W.findIn K (.ref C) "__init__" = some (some (.ref f))
  fn : PySem.W.isFn K (.ref f) = true
  kp : PySem.W.keepIn K (.ref C) = true

theorem run_make {pins : List (Addr × Obj)} {σ : St} {H : Hp} {s : Shared} {Q : VK} {us : List Value} {vs : List V} (M : Mk X.K C f) (F : FnOk X.prog X.w X.K X.mg X.base CX k f fd ps sp) (hr : Room (k + 1) X.A) (hb : Binds X.K fd ps ds) (hd : Vals dvs ds)
    (hx : Passes CX X E) (I : Inv X pins σ H s) (r : Vals vs us)
    (h : ∀ x dx, H x = none → H dx = none → dx ≠ x → sp (.ref x :: (vs ++ dvs)) (upd (upd H dx (.own x)) x (.ins C dx [])) (fun v H2 => v = .non ∧ Q (.ref x) H2) E) :
    wpAny (model X.prog X.w) X.A (call (.ref C) us) (EP X pins σ Q) X.xe s := by
  have hq := h (s.heap.objs.size + 1) s.heap.objs.size (I.hok.fresh (Nat.le_succ _)) (I.hok.fresh (Nat.le_refl _)) (Nat.ne_of_lt (Nat.lt_succ_self _))
  have I2 := Inv.made (C := C) I
  have r2 : Vals (V.ref (s.heap.objs.size + 1) :: (vs ++ dvs)) (Value.ref (s.heap.objs.size + 1) :: (us ++ ds)) := .cons rfl (r.append hd)
  have hl : (Value.ref (s.heap.objs.size + 1) :: us ++ ds).length = ps.length := by
    have e := r2.length
    rw [F.len _ _ _ _ hq] at e
    exact e.symm
  refine wpAny_call (make_map (f := f) I.kIn M.makes M.init (beq_iff_eq.mp M.fn) (codeAny_mono (F.run _ X.stack _ _ ⟨Value.ref (s.heap.objs.size + 1) :: us, []⟩ (Value.ref (s.heap.objs.size + 1) :: (us ++ ds)) _ _ E (hr.make C us [])
    (I2.env0.make C us []) (hb _ (Value.ref (s.heap.objs.size + 1) :: us) I2.kIn hl) r2 hq) fun r s' hq' => ?_))
  cases r with
  | error e => exact hx pins σ _ _ e s' I2 hq'
  | ok fl =>
    cases fl with
    | ret u =>
      obtain ⟨v, H', I3, rv, ev, q3⟩ := I2.after hq'
      subst ev
      exact ⟨rv, ⟨V.ref (s.heap.objs.size + 1), H', I3, rfl, q3⟩⟩
    | next => exact False.elim hq'
    | brk => exact False.elim hq'
    | cont => exact False.elim hq'
theorem pe_make (M : Mk X.K C f) (F : FnOk X.prog X.w X.K X.mg X.base CX k f fd ps sp) (hr : Room (k + 1) X.A) (hg : Gl X x) (hm : X.mg x = some (.ref C)) (hb : Binds X.K fd ps ds) (hd : Vals dvs ds) (hx : Passes CX X E)
    (ha : PA X (e :: es) t) (hdb : (x == ("__debug__" : Str)) = false := by decide) (he : starEach (e :: es) X.env = (false, eval e X.env) :: starEach es X.env := by rfl) (hpl : (backTo pos (starEach es X.env)).any (·.1) = false := by rfl) :
    PE X (.Call (.Name x p) (e :: es) [] pos) (tMake C sp dvs E t) := by
  intro pins s σ H Q I h
  refine wpAny_Call_Name_kw (ld_glob I hg hm ?_ hdb)
  refine PySem.W.callWith_K (h₀ := X.base) I.ok.mod.kin M.kp (thn (ha pos pins s σ H _ I h) fun us s1 ⟨vs, H1, I1, r, q⟩ => ⟨I1.kIn, ?_⟩) he hpl
  exact run_make M F hr hb hd hx I1 r q
theorem pe_make0 (M : Mk X.K C f) (F : FnOk X.prog X.w X.K X.mg X.base CX k f fd ps sp) (hr : Room (k + 1) X.A) (hg : Gl X x) (hm : X.mg x = some (.ref C)) (hb : Binds X.K fd ps ds) (hd : Vals dvs ds) (hx : Passes CX X E)
    (hdb : (x == ("__debug__" : Str)) = false := by decide) : PE X (.Call (.Name x p) [] [] pos) (tMake C sp dvs E tNil) := by
  intro pins s σ H Q I h
  refine wpAny_Call_Name_kw (ld_glob I hg hm ?_ hdb)
  exact PySem.W.callWith_K0 I.kIn M.kp (run_make (us := []) M F hr hb hd hx I .nil h)
end

/-! ### keywords -/
/-- the values of the keywords, from the left -/
def PK (X : Cx) (kws : List Keyword) (t : TA) : Prop :=
  ∀ (pos : Pos) (pins : List (Addr × Obj)) (s : Shared) (σ : St) (H : Hp) (Q : List V → Hp → Prop), Inv X pins σ H s → t σ H Q → wpAny (model X.prog X.w) X.A (evalAll ((backToKw pos (keywordEach kws X.env)).map (·.2))) (AP X pins σ Q) X.xe s
section
variable {X : Cx} {CX : CXT} {k : Nat} {f C : Addr} {fd : FuncData} {ps ks : List Str} {sp : Sp} {E : XK} {x m : Str} {p pos apos kpos : Pos} {e o : Expr} {es : List Expr} {kws : List Keyword} {te ta : TE} {t tk : TA} {nm : Option Str}
theorem pk_nil : PK X [] tNil := fun _ _ _ _ H Q I h => wpAny_evalAll_nil ⟨[], H, I, .nil, h⟩
theorem pk_cons (ha : PE X e te) (hr : PK X kws t) : PK X (⟨nm, e, kpos⟩ :: kws) (tCons te t) := by
  intro pos pins s σ H Q I h
  show wpAny _ _ (evalAll ((do let v ← eval e X.env; standAt pos; pure v) :: (backToKw pos (keywordEach kws X.env)).map (·.2))) _ _ s
  refine wpAny_evalAll_cons (wpAny_bind (thn (ha pins s σ H _ I h) fun u s1 ⟨x, H1, I1, r1, q1⟩ => wpAny_bind (wpAny_standAt (wpAny_pure ?_))))
  exact thn (hr pos pins s1 σ H1 _ I1 q1) fun us s2 ⟨xs, H2, I2, r2, q2⟩ => ⟨x :: xs, H2, I2, .cons r1 r2, q2⟩

/-- how a call with keywords binds: g puts the positional values us and the keywords' values ws (names ks) in the parameters' order, defaults among them -/
structure KBinds (K : PySem.W.Frag) (fd : FuncData) (ps ks : List Str) (g : List Value → List Value → List Value) (gV : List V → List V → List V) : Prop where
  to : ∀ (s : Shared) (us ws : List Value), K.In s.heap → (g us ws).length = ps.length → BindsTo s fd ⟨us, ks.zip ws⟩ (ps.zip (g us ws))
  rel : ∀ {vs : List V} {us : List Value} {zs : List V} {ws : List Value}, Vals vs us → Vals zs ws → Vals (gV vs zs) (g us ws)
def tCallK (sp : Sp) (gV : List V → List V → List V) (E : XK) (t tk : TA) : TE := fun σ H Q => t σ H fun vs H1 => tk σ H1 fun zs H2 => sp (gV vs zs) H2 Q E
variable {g : List Value → List Value → List Value} {gV : List V → List V → List V}
theorem run_fnk {pins : List (Addr × Obj)} {σ : St} {H : Hp} {s : Shared} {Q : VK} {us ws : List Value} {vs zs : List V} (F : FnOk X.prog X.w X.K X.mg X.base CX k f fd ps sp) (hr : Room k X.A) (hb : KBinds X.K fd ps ks g gV) (hx : Passes CX X E)
    (I : Inv X pins σ H s) (r : Vals vs us) (rz : Vals zs ws) (h : sp (gV vs zs) H Q E) : wpAny (model X.prog X.w) X.A (call (.ref f) us (ks.zip ws)) (EP X pins σ Q) X.xe s := by
  have r2 := hb.rel r rz
  have hl : (g us ws).length = ps.length := by rw [← r2.length]; exact F.len _ _ _ _ h
  refine wpAny_call (codeAny_mono (F.run X.A X.stack s H ⟨us, ks.zip ws⟩ (g us ws) (gV vs zs) Q E hr I.env0 (hb.to s us ws I.kIn hl) r2 h) fun r s' hq => ?_)
  cases r with
  | error e => exact hx pins σ H s e s' I hq
  | ok fl =>
    cases fl with
    | ret u => exact I.after hq
    | next => exact False.elim hq
    | brk => exact False.elim hq
    | cont => exact False.elim hq
/-- f(e, .., k = v, ..) -/
theorem pe_callK (F : FnOk X.prog X.w X.K X.mg X.base CX k f fd ps sp) (hr : Room k X.A) (hg : Gl X x) (hm : X.mg x = some (.ref f)) (hk : PySem.W.keepIn X.K (.ref f) = true) (hb : KBinds X.K fd ps ks g gV) (hx : Passes CX X E)
    (ha : PA X (e :: es) t) (hkw : PK X kws tk) (hall : (backToKw pos (keywordEach kws X.env)).all (·.1.isSome) = true := by rfl) (hks : (backToKw pos (keywordEach kws X.env)).filterMap (·.1) = ks := by rfl)
    (hdb : (x == ("__debug__" : Str)) = false := by decide) (he : starEach (e :: es) X.env = (false, eval e X.env) :: starEach es X.env := by rfl)
    (hpl : ((backTo pos (starEach (e :: es) X.env)).any (·.1) || (backToKw pos (keywordEach kws X.env)).any (·.1.isNone)) = false := by rfl) :
    PE X (.Call (.Name x p) (e :: es) kws pos) (tCallK sp gV E t tk) := by
  intro pins s σ H Q I h
  refine wpAny_Call_Name_kw (ld_glob I hg hm ?_ hdb)
  refine PySem.W.callWith_KW (h₀ := X.base) I.ok.mod.kin hk hall (thn (ha pos pins s σ H _ I h) fun us s1 ⟨vs, H1, I1, r, q⟩ => ?_) hpl he
  refine thn (hkw pos pins s1 σ H1 _ I1 q) fun ws s2 ⟨zs, H2, I2, rz, q2⟩ => ⟨I2.kIn, ?_⟩
  rw [hks]
  exact run_fnk F hr hb hx I2 r rz q2
end

/-! ### a def's body keeps its promise -/
/-- names: the parameters first -/
structure FnScope (N P : List Str) (sc : Scope) : Prop where
  kind : sc.kind = .function
  co : sc.isCoroutine = false
  gen : sc.isGenerator = false
  nd : N.Nodup
  pre : N.take P.length = P
  par : ∀ x ∈ P, sc.names.lookup x = some .local ∨ sc.names.lookup x = some .cell
  nofree : ∀ y ∈ sc.names, y.2 ≠ .free

theorem bindL_out {kindOf : Str → Option NameKind} {x : Str} : ∀ {binds : List (Str × Value)} {m : Str → Option Value}, (∀ v, (x, v) ∉ binds) → bindL kindOf binds m x = m x
  | [], _, _ => rfl
  | (n, v) :: r, m, h => by
    unfold bindL
    rw [bindL_out fun w hw => h w (List.mem_cons_of_mem _ hw)]
    split
    · have : x ≠ n := by rintro rfl; exact h v List.mem_cons_self
      simp [this]
    · rfl
theorem bindC_out {kindOf : Str → Option NameKind} {x : Str} : ∀ {binds : List (Str × Value)} {m : Str → Option Value}, (∀ v, (x, v) ∉ binds) → bindC kindOf binds m x = m x
  | [], _, _ => rfl
  | (n, v) :: r, m, h => by
    unfold bindC
    rw [bindC_out fun w hw => h w (List.mem_cons_of_mem _ hw)]
    split
    · rfl
    · have : x ≠ n := by rintro rfl; exact h v List.mem_cons_self
      simp [this]
theorem bindL_get {kindOf : Str → Option NameKind} {x : Str} {v : Value} : ∀ {P : List Str} {vs : List Value} {i : Nat} {m : Str → Option Value}, P.Nodup → P[i]? = some x → vs[i]? = some v → kindOf x = some .local →
    bindL kindOf (P.zip vs) m x = some v
  | [], _, _, _, _, h, _, _ => by simp at h
  | _ :: _, [], _, _, _, _, h, _ => by simp at h
  | p :: P, w :: vs, 0, m, nd, h1, h2, hk => by
    simp at h1 h2; subst h1; subst h2
    show bindL kindOf ((p, w) :: P.zip vs) m p = _
    unfold bindL
    rw [bindL_out fun v hv => (List.nodup_cons.mp nd).1 (List.of_mem_zip hv).1, if_pos hk]
    simp
  | p :: P, w :: vs, i + 1, m, nd, h1, h2, hk => by
    show bindL kindOf ((p, w) :: P.zip vs) m x = _
    unfold bindL
    exact bindL_get (i := i) (List.nodup_cons.mp nd).2 (by simpa using h1) (by simpa using h2) hk
theorem bindC_get {kindOf : Str → Option NameKind} {x : Str} {v : Value} : ∀ {P : List Str} {vs : List Value} {i : Nat} {m : Str → Option Value}, P.Nodup → P[i]? = some x → vs[i]? = some v → kindOf x ≠ some .local →
    bindC kindOf (P.zip vs) m x = some v
  | [], _, _, _, _, h, _, _ => by simp at h
  | _ :: _, [], _, _, _, _, h, _ => by simp at h
  | p :: P, w :: vs, 0, m, nd, h1, h2, hk => by
    simp at h1 h2; subst h1; subst h2
    show bindC kindOf ((p, w) :: P.zip vs) m p = _
    unfold bindC
    rw [bindC_out fun v hv => (List.nodup_cons.mp nd).1 (List.of_mem_zip hv).1, if_neg hk]
    simp
  | p :: P, w :: vs, i + 1, m, nd, h1, h2, hk => by
    show bindC kindOf ((p, w) :: P.zip vs) m x = _
    unfold bindC
    exact bindC_get (i := i) (List.nodup_cons.mp nd).2 (by simpa using h1) (by simpa using h2) hk

/-- the names' values at the entry -/
def start (N : List Str) (vs : List V) : St := vs.map some ++ List.replicate (N.length - vs.length) none

/-- the context of a def's body, at its entry; an exception leaves the frame, then lies as CX says -/
def cxOf (CX : CXT) (P : Program) (w : World) (K : PySem.W.Frag) (mg : Str → Option Value) (base : Heap) (N : List Str) (qual : Str) (scope : Scope) (f : Addr) (cd : Value) (A : Around) (outer : List Env) (s : Shared) (H : Hp) (E : XK) : Cx where
  prog := P
  w := w
  K := K
  mg := mg
  base := base
  A := A.deeper (envOfC qual scope s.heap.objs.size f cd)
  N := N
  s₀ := s
  H₀ := H
  env := envOfC qual scope s.heap.objs.size f cd
  outer := outer
  stack := envOfC qual scope s.heap.objs.size f cd :: outer
  ex := []
  calm := true
  fn := fun _ => true
  pn := []
  xe := fun e s' => wpAny (model P w) (A.deeper (envOfC qual scope s.heap.objs.size f cd)) (leaving (envOfC qual scope s.heap.objs.size f cd) e) (fun _ s'' => CX outer H s E e s'') (fun e' s'' => CX outer H s E e' s'') s'

theorem cell_has {sc : Scope} {n : Nat} {x : Str} (h : sc.names.lookup x = some .cell) : ∃ c, (cellsFrom n sc.names []).lookup x = some c := by
  have q := PySem.W.cellsFrom_some sc.names n [] (.inl h)
  exact Option.isSome_iff_exists.mp q

theorem inv_start {CX : CXT} {P : Program} {w : World} {K : PySem.W.Frag} {mg : Str → Option Value} {base : Heap} {N ps : List Str} {qual : Str} {scope : Scope} {f : Addr} {cd : Value} {A : Around} {outer : List Env} {s s1 : Shared} {H : Hp} {E : XK} {us : List Value} {vs : List V}
    (S : FnScope N ps scope) (hd : A.handled = none) (e0 : Env0 P w K mg base A outer s H) (hl : vs.length = ps.length) (r : Vals vs us)
    (x : InCallC s s.heap.objs.size (bindL (envOfC qual scope s.heap.objs.size f cd).kindOf (ps.zip us) fun _ => none) (cellsFrom (s.heap.objs.size + 1) scope.names []) (bindC (envOfC qual scope s.heap.objs.size f cd).kindOf (ps.zip us) fun _ => none) s1) :
    Inv (cxOf CX P w K mg base N qual scope f cd A outer s H E) [] (start N vs) H s1 := by
  have hpl : ps.length ≤ N.length := by have := congrArg List.length S.pre; rw [List.length_take] at this; omega
  obtain ⟨h1, tk, rfl, hk⟩ := x.done
  have noA : ∀ b : Addr, b ∉ (cxOf CX P w K mg base N qual scope f cd A outer s H E).ex := fun b z => absurd (show b ∈ ([] : List Addr) from z) (by simp)
  refine ⟨⟨e0.mod, S.kind, rfl, rfl, Nat.le_refl _, fun y z c h1 h2 => ?_, fun y hy => ?_, fun y c _ h => ?_, fun _ => hd, Around.frames_deeper e0.frames, .inr ⟨rfl, rfl⟩, fun b z => absurd z (noA b), e0.bs, e0.bsz, fun b _ _ => noA b, fun b z => absurd z (noA b), e0.funs, e0.frf, e0.sy⟩,
    rfl, e0.bare, Un.kept hk, ⟨_, x.toInCall.ns, fun i y v h1 h2 h3 => ?_⟩, fun y c h => ⟨_, x.cell y c h⟩, e0.hok.fresh (Nat.le_refl _), fun y c h => ?_, fun p hp => absurd (show p ∈ ([] : List (Addr × Obj)) from hp) (by simp), e0.hok.kept hk, ?_⟩
  · exact name_of_addr x.apart (PySem.mem_of_lookup h1) (PySem.mem_of_lookup h2)
  · have hy : scope.names.lookup y = some .cell ∨ scope.names.lookup y = some .free := hy
    rcases hy with hy | hy
    · exact cell_has hy
    · exact absurd rfl (S.nofree _ (PySem.mem_of_lookup hy))
  · exact Nat.le_of_lt (x.above y c (PySem.mem_of_lookup h))
  · have hi : i < vs.length := by
      unfold start at h2
      by_cases hi : i < vs.length
      · exact hi
      · rw [List.getElem?_append_right (by simpa using hi)] at h2
        rw [List.getElem?_replicate] at h2
        split at h2 <;> cases h2
    have ha : vs[i]? = some v := by
      unfold start at h2
      rw [List.getElem?_append_left (by simpa using hi), List.getElem?_map] at h2
      cases e : vs[i]? with
      | none => rw [e] at h2; cases h2
      | some a => rw [e] at h2; cases h2; rfl
    obtain ⟨u, hu, rv⟩ := r.get ha
    have hp : ps[i]? = some y := by
      rw [← S.pre, List.getElem?_take_of_lt (by omega)]; exact h1
    have ndP : ps.Nodup := by rw [← S.pre]; exact S.nd.sublist (List.take_sublist _ _)
    refine ⟨u, rv, ?_⟩
    rcases S.par y (List.mem_of_getElem? hp) with k | k
    · exact .inl ⟨k, bindL_get ndP hp hu k⟩
    · obtain ⟨c, e⟩ := cell_has (n := s.heap.objs.size + 1) k
      refine .inr ⟨.inl k, c, e, ?_⟩
      have q := x.cell y c e
      rw [bindC_get ndP hp hu (by show scope.names.lookup y ≠ _; rw [k]; decide)] at q
      exact q
  · exact e0.hok.fresh (Nat.le_of_lt (x.above y c (PySem.mem_of_lookup h)))
  · unfold start
    show _ = N.length
    rw [List.length_append, List.length_map, List.length_replicate]
    omega

/-- THE RULE: a def (or a method) of the text, by its body. The body's reading t is chosen for each entry; it is run at the parameters' values -/
theorem fn_of {CX : CXT} {P : Program} {w : World} {K : PySem.W.Frag} {mg : Str → Option Value} {base : Heap} {k : Nat} {f : Addr} {name qual : Str} {params : Arguments} {body : List Stmt} {scope : Scope} {dV kV doc pm cdv ct oc : Value} {an od : Option Addr}
    {osl : Array (Option Value)} {N ps : List Str} {sp : Sp} (lk : K.lookup f = some ⟨oc, od, .func (PySem.W.fnOf name qual params body scope dV kV doc pm an cdv ct), osl⟩) (hcd : PySem.W.codeIn K cdv qual = true) (S : FnScope N ps scope)
    (len : ∀ vs H Q E, sp vs H Q E → vs.length = ps.length)
    (hbody : ∀ (A : Around) (outer : List Env) (s : Shared) (H : Hp) (vs : List V) (Q : VK) (E : XK), Room k (A.deeper (envOfC qual scope s.heap.objs.size f cdv)) → sp vs H Q E →
      ∃ t, PSs (cxOf CX P w K mg base N qual scope f cdv A outer s H E) body t ∧ t { nx := fun _ H' => Q .non H', rt := Q } (start N vs) H) :
    FnOk P w K mg base CX (k + 1) f (PySem.W.fnOf name qual params body scope dV kV doc pm an cdv ct) ps sp := by
  refine ⟨len, fun A outer s H args us vs Q E hr e0 hb r hsp => ?_⟩
  have hl := len _ _ _ _ hsp
  have KX : K.In s.heap := e0.mod.kin.keeps fun b o e => (e0.bs b o e).1
  have lim : s.heap.NoLimit := e0.mod.nolimit.keeps fun b o e => (e0.bs b o e).1
  have hkind : ∀ y ∈ ps.zip us, scope.names.lookup y.1 = some .local ∨ (scope.names.lookup y.1 = some .cell ∧ ((cellsFrom (s.heap.objs.size + 1) scope.names []).lookup y.1).isSome = true) := fun ⟨n, v⟩ hy => by
    rcases S.par n (List.of_mem_zip hy).1 with q | q
    · exact .inl q
    · exact .inr ⟨q, PySem.W.cellsFrom_some _ _ _ (.inl q)⟩
  refine codeAny_call_function hr.depth (KX _ _ lk) rfl S.co S.gen rfl (PySem.W.codeRec_of KX hcd) (hb _ _ _ _ ?_)
  refine wpAny_newFunctionEnv_cells S.kind hkind fun env he s1 x => ?_
  subst he
  refine ⟨lim.keeps x.toInCall.keep, codeAny_func ?_⟩
  obtain ⟨t, ht, hq⟩ := hbody A outer s H vs Q E (hr.deeper _) hsp
  have I : Inv (cxOf CX P w K mg base N qual scope f cdv A outer s H E) [] (start N vs) H s1 := inv_start S hr.hd e0 hl r x
  refine wpAny_mono (ht [] s1 (start N vs) H _ I hq) (fun fl s' hs => ?_) fun e s' hs => hs
  have fin : ∀ {σ' : St} {H' : Hp} {v : V} {u : Value}, Inv (cxOf CX P w K mg base N qual scope f cdv A outer s H E) [] σ' H' s' → RelV v u → Q v H' → CE outer P w H s Q u s' :=
    fun {σ' H' v u} J rv q => ⟨v, H', J.os, J.bare, J.base, J.hok, rv, q⟩
  cases fl with
  | ret u =>
    obtain ⟨v, σ', H', J, rv, q⟩ := hs
    exact fin J rv q
  | next =>
    obtain ⟨σ', H', J, q⟩ := hs
    exact fin (v := V.non) (u := Value.none) J rfl q
  | brk =>
    obtain ⟨_, _, _, q⟩ := hs
    exact False.elim q
  | cont =>
    obtain ⟨_, _, _, q⟩ := hs
    exact False.elim q
end L2

namespace L2
open PySem PySem.Spec PyProof.Rows
section
variable {X : Cx} {x : Str} {p pos : Pos} {e : Expr} {es : List Expr} {t : TA} {id T : String} {r : List V → Hp → VK → Prop}

def tCB (r : List V → Hp → VK → Prop) (t : TA) : TE := fun σ H Q => t σ H fun vs H1 => r vs H1 Q
/-- f(e, ..), f a built-in function -/
theorem pe_callB (hc : CallR X (.builtin id) r) (hg : Gl X x) (hm : X.mg x = none) (hv : bootBuiltins x = some (.builtin id)) (ha : PA X (e :: es) t) (hn : x ≠ "__name__" := by decide) (hdb : (x == ("__debug__" : Str)) = false := by decide)
    (he : starEach (e :: es) X.env = (false, eval e X.env) :: starEach es X.env := by rfl) (hpl : (backTo pos (starEach es X.env)).any (·.1) = false := by rfl) : PE X (.Call (.Name x p) (e :: es) [] pos) (tCB r t) := by
  intro pins s σ H Q I h
  refine wpAny_Call_Name_kw (ld_blt I hg hm hv ?_ hn hdb)
  exact PyProof.Rows.callWith_builtin1 (thn (ha pos pins s σ H _ I h) fun us s1 ⟨vs, H1, I1, r1, q1⟩ => hc pins s1 σ H1 vs us Q I1 r1 q1) he hpl
/-- T(e, ..), T a built-in type -/
theorem pe_callTy (hc : CallR X (.type T) r) (hg : Gl X x) (hm : X.mg x = none) (hv : bootBuiltins x = some (.type T)) (ha : PA X (e :: es) t) (hn : x ≠ "__name__" := by decide) (hdb : (x == ("__debug__" : Str)) = false := by decide)
    (he : starEach (e :: es) X.env = (false, eval e X.env) :: starEach es X.env := by rfl) (hpl : (backTo pos (starEach es X.env)).any (·.1) = false := by rfl) : PE X (.Call (.Name x p) (e :: es) [] pos) (tCB r t) := by
  intro pins s σ H Q I h
  refine wpAny_Call_Name_kw (ld_blt I hg hm hv ?_ hn hdb)
  exact PyProof.Rows.callWith_type1 (thn (ha pos pins s σ H _ I h) fun us s1 ⟨vs, H1, I1, r1, q1⟩ => hc pins s1 σ H1 vs us Q I1 r1 q1) he hpl
/-- T() -/
theorem pe_callTy0 (hc : CallR X (.type T) r) (hg : Gl X x) (hm : X.mg x = none) (hv : bootBuiltins x = some (.type T)) (hn : x ≠ "__name__" := by decide) (hdb : (x == ("__debug__" : Str)) = false := by decide) :
    PE X (.Call (.Name x p) [] [] pos) (tCB r tNil) := by
  intro pins s σ H Q I h
  refine wpAny_Call_Name_kw (ld_blt I hg hm hv ?_ hn hdb)
  exact PyProof.Rows.callWith_type0 (hc pins s σ H [] [] Q I .nil h)
end
end L2

namespace HT
open PySem PyProof.Rows

/-- t < u of tuples of ints -/
def lexLt : List Int → List Int → Bool
  | [], [] => false
  | [], _ :: _ => true
  | _ :: _, [] => false
  | x :: xs, y :: ys => if x = y then lexLt xs ys else decide (x < y)
theorem lexLt_cons (x y : Int) (xs ys : List Int) : lexLt (x :: xs) (y :: ys) = if x = y then lexLt xs ys else decide (x < y) := rfl
theorem lexLt_nil_nil : lexLt [] [] = false := rfl
theorem lexLt_nil_cons (y : Int) (ys : List Int) : lexLt [] (y :: ys) = true := rfl
theorem lexLt_cons_nil (x : Int) (xs : List Int) : lexLt (x :: xs) [] = false := rfl

theorem eqAt_int (A : Around) (s : Shared) (a : Int) (t : Tok) (c : Int) (u : Tok) : ∃ e, SeqAt.EqAt A s (.int a t) (.int c u) e ∧ (e = true ↔ a = c) :=
  ⟨(a == c), SeqAt.EqAt.int_int a t c u, by simp⟩
theorem rcLt_int (A : Around) (s : Shared) (a : Int) (t : Tok) (c : Int) (u : Tok) (prog : Program) (w : World) (E : Value → Shared → Prop) (Q : Value → Shared → Prop) (h : Q (.bool (decide (a < c))) s) :
    wpAny (model prog w) A (richCompare .Lt (.int a t) (.int c u)) Q E s :=
  (PyProof.Rows.lt_int h : wpAny (model prog w) A (compareOp .Lt (.int a t) (.int c u)) Q E s)

section
open PySem.SeqAt
open PySem.AutoSeq1 (wpAny_loadPart')
open PySem.MeetsSeq PySem.MeetsSeq2 PySem.MeetsSeq3

theorem tuple_lt_ints (l b : Addr) (items items2 : Array Value) (n n2 : Nat) (dd dd2 : Option Addr) (sl sl2 : Array (Option Value)) (ns ms : List Int) (hi : IntsAre items.toList ns) (hj : IntsAre items2.toList ms) :
    Meets (Builtin.«tuple.__lt__» ⟨[.ref l, .ref b], []⟩)
      (fun _ R s => s.heap.get? l = some { cls := .type "tuple", dict := dd, data := .seq items n, slots := sl } ∧ s.heap.get? b = some { cls := .type "tuple", dict := dd2, data := .seq items2 n2, slots := sl2 } ∧
        R (.ok (.ret (.bool (lexLt ns ms)))) s) :=
  .of_wp fun prog w A R s h => by
    obtain ⟨hp, g, d, tk, os⟩ := s; obtain ⟨hl, hb, h⟩ := h
    have f2 := AutoSeq1.sub_tuple_tuple
    have z1 : items.size = ns.length := by rw [← hi.length]; simp
    have z2 : items2.size = ms.length := by rw [← hj.length]; simp
    wp_walk using wpAny_loadPart' hl, wpAny_loadPart' hb, wpAny_forIn_list _ (fun rest b s' => b.1 = none ∧ s' = ⟨hp, g, d, tk, os⟩ ∧ ∃ (vs ws : List Value) (ns' ms' : List Int), rest = vs.zip ws ∧
      IntsAre vs ns' ∧ IntsAre ws ms' ∧ ns'.length + items2.size = ms'.length + items.size ∧ R (.ok (.ret (.bool (lexLt ns' ms')))) ⟨hp, g, d, tk, os⟩) _
    case turn =>
      rintro ⟨y, x⟩ rest b s' ⟨hb', rfl, vs, ws, ns', ms', hz, hvi, hwi, hlen, hR⟩
      cases hvi with
      | nil => rw [List.zip_nil_left] at hz; cases hz
      | cons a t hvi' =>
        cases hwi with
        | nil => rw [List.zip_nil_right] at hz; cases hz
        | cons c u hwi' =>
          rw [List.zip_cons_cons] at hz
          injection hz with hyx hrest
          injection hyx with hy hx
          subst hy hx
          rw [lexLt_cons] at hR
          simp only [List.length_cons] at hlen
          obtain ⟨e, he, hiff⟩ := eqAt_int A.in1 ⟨hp, g, d, tk, os⟩ a t c u
          refine wpAny_bind (he prog w _ _ ?_)
          cases e with
          | true =>
            rw [if_pos (hiff.mp rfl)] at hR
            wp_walk
            exact ⟨rfl, rfl, _, _, _, _, hrest, hvi', hwi', by omega, hR⟩
          | false =>
            rw [if_neg (fun q => absurd (hiff.mpr q) Bool.false_ne_true)] at hR
            have hri := rcLt_int A.in1 ⟨hp, g, d, tk, os⟩ a t c u prog w
            wp_walk using hri
            exact ⟨_, rfl, by simpa using hR⟩
    case fin =>
      rintro ⟨b1, b2⟩ s' ⟨hb', rfl, vs, ws, ns', ms', hz, hvi, hwi, hlen, hR⟩
      simp only at hb'
      subst hb'
      have hv : lexLt ns' ms' = decide (items.size < items2.size) := by
        cases hvi with
        | nil =>
          cases hwi with
          | nil =>
            simp only [List.length_nil] at hlen
            rw [lexLt_nil_nil]
            exact (decide_eq_false (by omega)).symm
          | cons c u hw =>
            simp only [List.length_nil, List.length_cons] at hlen
            rw [lexLt_nil_cons]
            exact (decide_eq_true (by omega)).symm
        | cons a t hv =>
          cases hwi with
          | nil =>
            simp only [List.length_nil, List.length_cons] at hlen
            rw [lexLt_cons_nil]
            exact (decide_eq_false (by omega)).symm
          | cons c u hw =>
            rw [List.zip_cons_cons] at hz
            cases hz
      rw [hv] at hR
      wp_walk
      exact ⟨_, rfl, by simpa [Builtin.Tuple.tupleCompareSizes] using hR⟩
    case h =>
      exact ⟨rfl, rfl, items.toList, items2.toList, ns, ms, rfl, hi, hj, by omega, h⟩
end

section
variable {prog : Program} {w : World} {A : Around} {E : Value → Shared → Prop} {s : Shared}

theorem lt_tupInts {l b : Addr} {items items2 : Array Value} {ns ms : List Int} {Q : Value → Shared → Prop} (hl : IsTup s.heap l items) (hb : IsTup s.heap b items2) (hi : IntsAre items.toList ns) (hj : IntsAre items2.toList ms)
    (hu : A.units < cLine) (h : Q (.bool (lexLt ns ms)) s) : wpAny (model prog w) A (compareOp .Lt (.ref l) (.ref b)) Q E s := by
  obtain ⟨⟨cls, dd, data, sl⟩, ho, hc, n, hd⟩ := id hl
  obtain ⟨⟨cls2, dd2, data2, sl2⟩, ho2, hc2, n2, hd2⟩ := id hb
  simp only at hc hd hc2 hd2
  subst hc hd hc2 hd2
  exact richCompare_meets_room (op := .Lt) ⟨_, ho, rfl⟩ ⟨_, ho2, rfl⟩ PySem.F.slot_tuple_lt PySem.F.entry_tuple_lt (PySem.F.args_tuple_lt_2 _ _) (tuple_lt_ints l b items items2 n n2 dd dd2 sl sl2 ns ms hi hj)
    ⟨ho, ho2, show Value.bool (lexLt ns ms) ≠ Value.notImplemented ∧ Q (.bool (lexLt ns ms)) s from ⟨(fun x => nomatch x), h⟩⟩ hu

/-- t + u, t not empty -/
theorem cat_tup {t b : Addr} {vs ws : List Value} {Q : Value → Shared → Prop} (ht : IsTup s.heap t vs.toArray) (hb : IsTup s.heap b ws.toArray) (hv : vs ≠ [])
    (h1 : ws = [] → Q (.ref t) s) (h2 : ws ≠ [] → Q (.ref s.heap.objs.size) { s with heap := s.heap.push { cls := .type "tuple", data := .seq (vs ++ ws).toArray } })
    (hsz : vs.length + ws.length ≤ sizeLine) : wpAny (model prog w) A (binaryOp .Add (.ref t) (.ref b)) Q E s := by
  obtain ⟨⟨cls, dd, data, sl⟩, ho, hc, n, hd⟩ := id ht
  obtain ⟨⟨cls2, dd2, data2, sl2⟩, ho2, hc2, n2, hd2⟩ := id hb
  simp only at hc hd hc2 hd2
  subst hc hd hc2 hd2
  have e : vs.toArray ++ ws.toArray = (vs ++ ws).toArray := by simp
  by_cases hw : ws = []
  · exact concat_meets ⟨_, ho, rfl⟩ ⟨_, ho2, rfl⟩ noFill_tuple_add seq_tuple_add PySem.F.slot_tuple_add PySem.F.entry_tuple_add (PySem.F.args_tuple_add_2 _ _)
      (tuple_addW1 t b vs.toArray ws.toArray n n2 dd dd2 sl sl2 (by simpa using hv) (by simp [hw])) ⟨ho, ho2, h1 hw⟩
  · refine concat_meets ⟨_, ho, rfl⟩ ⟨_, ho2, rfl⟩ noFill_tuple_add seq_tuple_add PySem.F.slot_tuple_add PySem.F.entry_tuple_add (PySem.F.args_tuple_add_2 _ _)
      (tuple_addW2 t b vs.toArray ws.toArray n n2 dd dd2 sl sl2 (by simpa using hv) (by simpa using hw) (by rw [List.size_toArray, List.size_toArray]; exact hsz)) ⟨ho, ho2, ?_⟩
    rw [e]
    exact h2 hw

/-! ### t[a:b], not the whole -/
/-- a slice's bound as a place among n (d where it is left out) -/
def sIx (n d : Nat) : Option Int → Nat
  | none => d
  | some v => if v < 0 then (v + (n : Int)).toNat else min v.toNat n
theorem sIx_none (n d : Nat) : sIx n d none = d := rfl
theorem sIx_nat (n d k : Nat) : sIx n d (some (k : Int)) = min k n := by
  show (if (k : Int) < 0 then ((k : Int) + (n : Int)).toNat else min (k : Int).toNat n) = min k n
  rw [if_neg (by omega), Int.toNat_natCast]
theorem sIx_le (n d : Nat) (hd : d ≤ n) (o : Option Int) : sIx n d o ≤ n := by
  cases o with
  | none => exact hd
  | some v =>
    show (if v < 0 then (v + (n : Int)).toNat else min v.toNat n) ≤ n
    by_cases hv : v < 0
    · rw [if_pos hv]; omega
    · rw [if_neg hv]; exact Nat.min_le_right _ _
theorem clip_eq (v : Int) (n d : Nat) : (if v < 0 then max (v + (n : Int)) 0 else min v (n : Int)) = ((sIx n d (some v) : Nat) : Int) := by
  show (if v < 0 then max (v + (n : Int)) 0 else min v (n : Int)) = (((if v < 0 then (v + (n : Int)).toNat else min v.toNat n) : Nat) : Int)
  by_cases hv : v < 0
  · simp only [if_pos hv]; omega
  · simp only [if_neg hv]; omega
theorem adjust_gen (lo hi : Option Int) (n : Nat) : Builtin.Slice.sliceAdjust lo hi 1 (n : Int) = (((sIx n 0 lo : Nat) : Int), ((sIx n n hi : Nat) : Int)) := by
  have h1 : ¬ ((1 : Int) < 0) := by omega
  unfold Builtin.Slice.sliceAdjust
  simp only [h1, if_false]
  refine Prod.ext ?_ ?_
  · cases lo with
    | none => rfl
    | some v => exact clip_eq v n 0
  · cases hi with
    | none => rfl
    | some v => exact clip_eq v n n
theorem places_gen (i j : Nat) : Builtin.Slice.slicePlaces (i : Int) (j : Int) 1 = j - i := by
  unfold Builtin.Slice.slicePlaces
  have h1 : (1 : Int) > 0 := by omega
  simp only [h1, if_true, Int.ediv_one]
  split <;> omega
theorem slicePart_ {v : Value} {o : Option Int} {Q : Option Int → Shared → Prop} (p : IsPart v o) (h : Q o s) : wpAny (model prog w) A (Builtin.Slice.slicePartIndex v) Q E s := by
  cases p with
  | none => exact slicePart_none h
  | int i t => exact slicePart_int h
theorem sliceApplied_gen {sl : Addr} {vl vu : Value} {lo hi : Option Int} {n : Nat} {Q : Int × Int × Nat → Shared → Prop} (hs : s.heap.IsSliceOf sl vl vu .none) (pl : IsPart vl lo) (pu : IsPart vu hi)
    (h : Q (((sIx n 0 lo : Nat) : Int), 1, sIx n n hi - sIx n 0 lo) s) : wpAny (model prog w) A (Builtin.Slice.sliceApplied (.ref sl) (pure (n : Int))) Q E s := by
  obtain ⟨os, hos, hcs, hds⟩ := id hs
  unfold Builtin.Slice.sliceApplied Builtin.Slice.sliceFields
  refine wpAny_bind (wpAny_bind (wpAny_field hos hds (x := vl) rfl (wpAny_bind (wpAny_field hos hds (x := vu) rfl (wpAny_bind (wpAny_field hos hds (x := .none) rfl (wpAny_pure ?_)))))))
  refine wpAny_bind (slicePart_none ?_)
  show wpAny _ _ (if ((1 : Int) == 0) = true then _ else _) _ _ s
  rw [if_neg (by decide)]
  refine wpAny_bind (slicePart_ pl (wpAny_bind (slicePart_ pu (wpAny_bind (wpAny_pure ?_)))))
  show wpAny _ _ (match Builtin.Slice.sliceAdjust lo hi 1 (n : Int) with | (lo, hi) => pure (lo, (1 : Int), Builtin.Slice.slicePlaces lo hi 1)) _ _ s
  rw [adjust_gen lo hi n]
  show wpAny _ _ (pure (((sIx n 0 lo : Nat) : Int), (1 : Int), Builtin.Slice.slicePlaces ((sIx n 0 lo : Nat) : Int) ((sIx n n hi : Nat) : Int) 1)) _ _ s
  rw [places_gen]
  exact wpAny_pure h
theorem pick_gen (xs : Array Value) (i k : Nat) : ((List.range k).filterMap fun (m : Nat) => xs[((i : Int) + (m : Int) * 1).toNat]?).toArray = ((xs.toList.drop i).take k).toArray := by
  have e : (fun (m : Nat) => xs[((i : Int) + (m : Int) * 1).toNat]?) = fun m => xs[i + m]? := by
    funext m
    have : ((i : Int) + (m : Int) * 1).toNat = i + m := by omega
    rw [this]
  rw [e]
  have := pick_run xs i k
  rw [List.filterMap_map] at this
  have e2 : ((fun x => xs[x]?) ∘ fun x => i + x) = fun m => xs[i + m]? := rfl
  rw [e2] at this
  rw [this]

theorem getItem_tuple_cut {t sl : Addr} {items : Array Value} {vl vu : Value} {lo hi : Option Int} {Q : Value → Shared → Prop} (ht : IsTup s.heap t items) (hs : s.heap.IsSliceOf sl vl vu .none) (pl : IsPart vl lo) (pu : IsPart vu hi)
    (hw : ¬ (sIx items.size 0 lo = 0 ∧ sIx items.size items.size hi = items.size))
    (h : Q (.ref s.heap.objs.size) { s with heap := s.heap.push { cls := .type "tuple", data := .seq ((items.toList.drop (sIx items.size 0 lo)).take (sIx items.size items.size hi - sIx items.size 0 lo)).toArray } })
    (hsz : items.size ≤ sizeLine) : wpAny (model prog w) A (getItem (.ref t) (.ref sl)) Q E s := by
  have htake : sizeOk (.seq ((items.toList.drop (sIx items.size 0 lo)).take (sIx items.size items.size hi - sIx items.size 0 lo)).toArray) := by
    show ((items.toList.drop (sIx items.size 0 lo)).take (sIx items.size items.size hi - sIx items.size 0 lo)).toArray.size ≤ sizeLine
    rw [List.size_toArray, List.length_take, List.length_drop, Array.length_toList]
    omega
  have hj : sIx items.size items.size hi ≤ items.size := sIx_le _ _ (Nat.le_refl _) hi
  obtain ⟨os, hos, hcs, hds⟩ := id hs
  have hTs : s.TypeIs (.ref sl) "slice" := ⟨os, hos, hcs⟩
  unfold getItem
  try with_reducible refine wpAny_holding ?_
  first | refine wpAny_bind (wpAny_pure ?_) | skip
  refine wpAny_bind (wpAny_sequenceKey ht.typeIs (by decide) ?_)
  refine wpAny_bind (wpAny_callSpecial?_slot (name := Str.ofString "__getitem__") ht.typeIs PyProof.Rows.slot_tuple_getitem
    (wpAny_call_entry PyProof.Rows.slot_tuple_getitem ht.typeIs entry_tuple_getitem ?_ (args_tuple_getitem _ _)))
  show wpAny _ _ (Builtin.Tuple.tupleItemsOf (.ref t) >>= _) _ _ s
  refine wpAny_bind (tupleItemsOf_ ht ?_)
  refine wpAny_bind (wpAny_typeOf hTs ?_)
  rw [if_pos (by decide)]
  refine wpAny_bind (sliceApplied_gen hs pl pu ?_)
  have hno : ¬ ((((sIx items.size 0 lo : Nat) : Int) == 0 && (1 : Int) == 1 && (sIx items.size items.size hi - sIx items.size 0 lo) == items.size) = true) := by
    intro q
    rw [Bool.and_eq_true, Bool.and_eq_true] at q
    have q1 : ((sIx items.size 0 lo : Nat) : Int) = 0 := eq_of_beq q.1.1
    have q2 : sIx items.size items.size hi - sIx items.size 0 lo = items.size := eq_of_beq q.2
    exact hw ⟨by omega, by omega⟩
  show wpAny _ _ (if (((sIx items.size 0 lo : Nat) : Int) == 0 && (1 : Int) == 1 && (sIx items.size items.size hi - sIx items.size 0 lo) == items.size) = true then _ else _) _ _ s
  rw [if_neg hno, pick_gen]
  first
    | exact wpAny_bind (m := Builtin.Tuple.tupleExact _) (wpAny_newObj_type (wpAny_pure ⟨_, rfl, wpAny_pure h⟩) htake)
    | exact wpAny_bind (m := Builtin.Tuple.tupleExact _) (wpAny_newObj_type (wpAny_bind (wpAny_pure (wpAny_pure ⟨_, rfl, wpAny_pure h⟩))) htake)
    | exact wpAny_bind (wpAny_bind (m := Builtin.Tuple.tupleExact _) (wpAny_newObj_type (wpAny_pure (wpAny_pure ⟨_, rfl, wpAny_pure h⟩)) htake))
    | exact wpAny_bind (wpAny_bind (m := Builtin.Tuple.tupleExact _) (wpAny_newObj_type (wpAny_pure ⟨_, rfl, wpAny_pure h⟩) htake))
end
end HT

namespace L2
open PySem PySem.Spec PyProof.Rows

/-! ### the parts of a slice -/
abbrev TO := St → Hp → (Option Int → Hp → Prop) → Prop
/-- a slice's part (left out, or an int) -/
def PO (X : Cx) (e : Option Expr) (t : TO) : Prop :=
  ∀ (pins : List (Addr × Obj)) (s : Shared) (σ : St) (H : Hp) (Q : Option Int → Hp → Prop), Inv X pins σ H s → t σ H Q →
    wpAny (model X.prog X.w) X.A (evalPart e X.env) (fun u s' => ∃ o H', Inv X pins σ H' s' ∧ IsPart u o ∧ Q o H') X.xe s
def tNoPart : TO := fun _ H Q => Q none H
def tPart (t : TE) : TO := fun σ H Q => t σ H fun x H1 => ∃ i, x = .int i ∧ Q (some i) H1

theorem intsAre_of {ns : List Int} : ∀ {us : List Value}, Vals (ns.map V.int) us → IntsAre us ns := by
  induction ns with
  | nil => intro us r; rw [List.map_nil] at r; cases r; exact .nil
  | cons n ns ih =>
    intro us r
    rw [List.map_cons] at r
    cases r with
    | cons r1 r2 =>
      obtain ⟨t, e⟩ := r1
      subst e
      exact .cons n t (ih r2)

section
variable {X : Cx} {e : Expr} {te : TE} {lo hi : Option Expr} {tl th : TO} {pos p2 : Pos}

theorem po_none : PO X none tNoPart := by
  intro pins s σ H Q I h
  rw [evalPart_none]
  exact wpAny_pure ⟨none, H, I, .none, h⟩
theorem po_some (h : PE X e te) : PO X (some e) (tPart te) := by
  intro pins s σ H Q I hw
  rw [evalPart_some]
  refine thn (h pins s σ H _ I hw) fun u s1 ⟨x, H1, I1, r1, q1⟩ => ?_
  obtain ⟨i, rfl, q⟩ := q1
  obtain ⟨t, rfl⟩ := r1
  exact ⟨some i, H1, I1, .int i t, q⟩

/-- what a slice of a value is, by values: the slice object stands at sl -/
def SlR (X : Cx) (r : V → Option Int → Option Int → Hp → VK → Prop) : Prop :=
  ∀ (pins : List (Addr × Obj)) (s : Shared) (σ : St) (H : Hp) (x : V) (v vl vu : Value) (lo hi : Option Int) (sl : Addr) (Q : VK), Inv X pins σ H s → RelV x v → s.heap.IsSliceOf sl vl vu .none → IsPart vl lo → IsPart vu hi → r x lo hi H Q →
    ∃ T id, typeLookup (.type T) "__getitem__" = pure (some (.builtin id)) ∧ s.TypeIs v T ∧ wpAny (model X.prog X.w) X.A (getItem v (.ref sl)) (EP X pins σ Q) X.xe s
theorem SlR.or {r r' : V → Option Int → Option Int → Hp → VK → Prop} (h : SlR X r) (h' : SlR X r') : SlR X (fun x lo hi H Q => r x lo hi H Q ∨ r' x lo hi H Q) := by
  intro pins s σ H x v vl vu lo hi sl Q I rx hs pl pu q
  rcases q with q | q
  · exact h pins s σ H x v vl vu lo hi sl Q I rx hs pl pu q
  · exact h' pins s σ H x v vl vu lo hi sl Q I rx hs pl pu q
def tSl (r : V → Option Int → Option Int → Hp → VK → Prop) (te : TE) (tl th : TO) : TE := fun σ H Q => te σ H fun x H1 => tl σ H1 fun l H2 => th σ H2 fun u H3 => r x l u H3 Q
/-- a[lo:hi], any a -/
theorem pe_slice {r : V → Option Int → Option Int → Hp → VK → Prop} (hr : SlR X r) (he : PE X e te) (hl : PO X lo tl) (hu : PO X hi th) : PE X (.Subscript e (.Slice lo hi none p2) pos) (tSl r te tl th) := by
  intro pins s σ H Q I h
  refine Subscript_ (thn (he pins s σ H _ I h) fun v s1 ⟨x, H1, I1, r1, q1⟩ => ?_)
  refine wpAny_Slice (thn (hl pins s1 σ H1 _ I1 q1) fun vl s2 ⟨l, H2, I2, pl, q2⟩ => thn (hu pins s2 σ H2 _ I2 q2) fun vu s3 ⟨u, H3, I3, pu, q3⟩ => ?_)
  rw [evalPart_none]
  refine wpAny_pure ?_
  have I4 : Inv X pins σ H3 { s3 with heap := s3.heap.push { cls := .type "slice", data := .fields #[vl, vu, .none] } } := I3.kept (t' := s3.toks) fun b ob q => Heap.get?_push_of_some _ q
  obtain ⟨T, id, hT, ht, hg⟩ := hr pins { s3 with heap := s3.heap.push { cls := .type "slice", data := .fields #[vl, vu, .none] } } σ H3 x v vl vu l u s3.heap.objs.size Q I4 r1 (Heap.IsSliceOf.new ..) pl pu q3
  show wpAny (model X.prog X.w) X.A (subscriptTail e (.Slice lo hi none p2) v (.ref s3.heap.objs.size)) (EP X pins σ Q) X.xe { s3 with heap := s3.heap.push { cls := .type "slice", data := .fields #[vl, vu, .none] } }
  exact tail_any (ops := [.ref s3.heap.objs.size, v]) ht hT hg (by with_unfolding_all rfl)

/-- the items of xs[lo:hi] -/
def cutV (xs : List V) (lo hi : Option Int) : List V := (xs.drop (HT.sIx xs.length 0 lo)).take (HT.sIx xs.length xs.length hi - HT.sIx xs.length 0 lo)
theorem cutV_length (xs : List V) (lo hi : Option Int) : (cutV xs lo hi).length ≤ xs.length := by
  unfold cutV
  rw [List.length_take, List.length_drop]
  omega
/-- t[lo:hi], not the whole of it (the whole would be t itself) -/
def rSlT (K : PySem.W.Frag) : V → Option Int → Option Int → Hp → VK → Prop := fun x lo hi H Q => ∃ a xs, x = .ref a ∧ SqT K H a xs ∧
  ¬ (HT.sIx xs.length 0 lo = 0 ∧ HT.sIx xs.length xs.length hi = xs.length) ∧ ∀ p, H p = none → Q (.ref p) (upd H p (.tup (cutV xs lo hi)))
theorem sl_tup : SlR X (rSlT X.K) := by
  intro pins s σ H x v vl vu lo hi sl Q I rx hs pl pu h
  obtain ⟨a, xs, rfl, hx, hw, q⟩ := h
  cases rx
  obtain ⟨its, r, ht, hz⟩ := I.tuple hx
  have hlen : its.toArray.size = xs.length := by rw [List.size_toArray]; exact r.length.symm
  refine ⟨"tuple", _, PyProof.Rows.slot_tuple_getitem.lookup, ht.typeIs, ?_⟩
  refine HT.getItem_tuple_cut ht hs pl pu (by rw [hlen]; exact hw) ?_ (by rw [hlen]; exact hz)
  rw [hlen]
  refine ⟨.ref s.heap.objs.size, _, I.laid (t' := s.toks) (o := .tup (cutV xs lo hi)) (fun b ob q => Heap.get?_push_of_some _ q) (Nat.le_refl _) ?_, rfl, q _ (I.hok.fresh (Nat.le_refl _))⟩
  exact ⟨Nat.le_trans (cutV_length xs lo hi) hz, _, (r.drop (HT.sIx xs.length 0 lo)).take (HT.sIx xs.length xs.length hi - HT.sIx xs.length 0 lo), IsTup.new _ _⟩

/-! ### t < u, t + u -/
def rLtT (K : PySem.W.Frag) : R2 := fun x y H Q => ∃ a b ns ms, x = .ref a ∧ y = .ref b ∧ SqT K H a (ns.map V.int) ∧ SqT K H b (ms.map V.int) ∧ Q (.bl (HT.lexLt ns ms)) H
theorem op_ltT (hu : X.A.units < cLine) : OpR X (compareOp .Lt) (rLtT X.K) := by
  intro pins s σ H x y v u Q I rx ry h
  obtain ⟨a, b, ns, ms, rfl, rfl, ha, hb, q⟩ := h
  cases rx
  cases ry
  obtain ⟨its, r1, p1, _⟩ := I.tuple ha
  obtain ⟨its2, r2, p2, _⟩ := I.tuple hb
  have i1 : IntsAre its.toArray.toList ns := intsAre_of r1
  have i2 : IntsAre its2.toArray.toList ms := intsAre_of r2
  exact HT.lt_tupInts p1 p2 i1 i2 hu ⟨.bl (HT.lexLt ns ms), H, I, rfl, q⟩
/-- t + u, t not empty: u empty gives t itself -/
def rCatT (K : PySem.W.Frag) : R2 := fun x y H Q => ∃ a b xs ys, x = .ref a ∧ y = .ref b ∧ SqT K H a xs ∧ SqT K H b ys ∧ xs ≠ [] ∧ xs.length + ys.length ≤ sizeLine ∧
  (ys = [] → Q (.ref a) H) ∧ (ys ≠ [] → ∀ p, H p = none → Q (.ref p) (upd H p (.tup (xs ++ ys))))
theorem Vals.nil_iff {xs : List V} {us : List Value} (r : Vals xs us) : us = [] ↔ xs = [] := by
  cases r with
  | nil => simp
  | cons _ _ => simp
theorem op_catT : OpR X (binaryOp .Add) (rCatT X.K) := by
  intro pins s σ H x y v u Q I rx ry h
  obtain ⟨a, b, xs, ys, rfl, rfl, ha, hb, hx, hz, q1, q2⟩ := h
  cases rx
  cases ry
  obtain ⟨its, r1, p1, _⟩ := I.tuple ha
  obtain ⟨its2, r2, p2, _⟩ := I.tuple hb
  refine HT.cat_tup p1 p2 (fun z => hx (r1.nil_iff.mp z)) (fun z => ⟨.ref a, H, I, rfl, q1 (r2.nil_iff.mp z)⟩) (fun z => ?_) (by rw [← r1.length, ← r2.length]; exact hz)
  refine ⟨.ref s.heap.objs.size, _, I.laid (t' := s.toks) (o := .tup (xs ++ ys)) (fun b ob q => Heap.get?_push_of_some _ q) (Nat.le_refl _) ?_, rfl, q2 (fun w => z (r2.nil_iff.mpr w)) _ (I.hok.fresh (Nat.le_refl _))⟩
  exact ⟨by rw [List.length_append]; exact hz, _, r1.append r2, IsTup.new _ _⟩
/-- tuple(t) -/
theorem call_tupleT : CallR X (.type "tuple") (fun xs H Q => ∃ a ys, xs = [.ref a] ∧ SqT X.K H a ys ∧ Q (.ref a) H) := by
  intro pins s σ H xs us Q I r h
  obtain ⟨a, ys, rfl, ha, q⟩ := h
  obtain ⟨u, rfl, ru⟩ := vals1 r
  cases ru
  obtain ⟨its, _, p1, _⟩ := I.tuple ha
  exact call_tuple_same (items := its.toArray) p1 ⟨.ref a, H, I, rfl, q⟩
end
end L2

namespace L2
open PySem PySem.Spec PyProof.Rows

/-! ### places -/
/-- the place that an index of any sign means -/
def ixN (n : Nat) (i : Int) : Option Nat := if 0 ≤ i then (if i < n then some i.toNat else none) else if -(n : Int) ≤ i then some (i + n).toNat else none
def atI {α : Type} (xs : List α) (i : Int) : Option α := (ixN xs.length i).bind fun j => xs[j]?
theorem ixN_seq {n : Nat} {i : Int} {j : Nat} (h : ixN n i = some j) : seqIndex? i n = some j ∧ j < n ∧ -(n : Int) ≤ i ∧ i < n := by
  unfold ixN at h
  by_cases h0 : 0 ≤ i
  · rw [if_pos h0] at h
    by_cases h1 : i < n
    · rw [if_pos h1] at h
      have e : i.toNat = j := Option.some.inj h
      exact ⟨by rw [seqIndex_of h0 h1, e], by omega, by omega, h1⟩
    · rw [if_neg h1] at h; cases h
  · rw [if_neg h0] at h
    by_cases h1 : -(n : Int) ≤ i
    · rw [if_pos h1] at h
      have e : (i + n).toNat = j := Option.some.inj h
      exact ⟨by rw [seqIndex_neg (by omega) h1, e], by omega, h1, by omega⟩
    · rw [if_neg h1] at h; cases h
theorem atI_get {α : Type} {xs : List α} {i : Int} {v : α} (h : atI xs i = some v) : ∃ j, seqIndex? i xs.length = some j ∧ xs[j]? = some v ∧ j < xs.length ∧ -(xs.length : Int) ≤ i ∧ i < xs.length := by
  unfold atI at h
  cases e : ixN xs.length i with
  | none => rw [e] at h; cases h
  | some j =>
    rw [e] at h
    obtain ⟨h1, h2, h3, h4⟩ := ixN_seq e
    exact ⟨j, h1, h, h2, h3, h4⟩
theorem atI_nat {α : Type} {xs : List α} {j : Nat} {v : α} (h : xs[j]? = some v) : atI xs (j : Int) = some v := by
  have hj : j < xs.length := (List.getElem?_eq_some_iff.mp h).1
  have e : ixN xs.length (j : Int) = some j := by
    unfold ixN
    rw [if_pos (by omega), if_pos (by omega)]; simp
  unfold atI; rw [e]; exact h
theorem atI_last {α : Type} (xs : List α) (v : α) : atI (xs ++ [v]) (-1) = some v := by
  have hl : (xs ++ [v]).length = xs.length + 1 := by simp
  have e : ixN (xs ++ [v]).length (-1) = some xs.length := by
    unfold ixN
    rw [hl, if_neg (by decide), if_pos (by omega)]
    congr 1
    omega
  unfold atI
  rw [e]
  show (xs ++ [v])[xs.length]? = some v
  simp

/-! ### what may be subscripted -/
/-- what stands as an index of a plain subscript -/
def PlainIx (b : Expr) : Prop := ∀ o i, subscripted b false o i = operate [o, i] (getItem o i)
/-- a subscript by values -/
def IxR (X : Cx) (r : R2) : Prop :=
  ∀ (value slice : Expr) (pins : List (Addr × Obj)) (s : Shared) (σ : St) (H : Hp) (x y : V) (v u : Value) (Q : VK), Inv X pins σ H s → RelV x v → RelV y u → r x y H Q →
    subscripted slice false v u = operate [v, u] (getItem v u) → wpAny (model X.prog X.w) X.A (subscriptTail value slice v u) (EP X pins σ Q) X.xe s
/-- a call of a builtin's method by values: the receiver, the arguments -/
def MtR (X : Cx) (id : String) (r : V → List V → Hp → VK → Prop) : Prop :=
  ∀ (pins : List (Addr × Obj)) (s : Shared) (σ : St) (H : Hp) (x : V) (xs : List V) (v : Value) (us : List Value) (Q : VK), Inv X pins σ H s → RelV x v → Vals xs us → r x xs H Q →
    wpAny (model X.prog X.w) X.A (call (.builtin id) (v :: us)) (EP X pins σ Q) X.xe s
section
variable {X : Cx} {a b : Expr} {ta tb : TE} {pos : Pos}
theorem IxR.or {r r' : R2} (h : IxR X r) (h' : IxR X r') : IxR X (fun x y H Q => r x y H Q ∨ r' x y H Q) := by
  intro value slice pins s σ H x y v u Q I rx ry q hs
  rcases q with q | q
  · exact h value slice pins s σ H x y v u Q I rx ry q hs
  · exact h' value slice pins s σ H x y v u Q I rx ry q hs
theorem MtR.or {id : String} {r r' : V → List V → Hp → VK → Prop} (h : MtR X id r) (h' : MtR X id r') : MtR X id (fun x xs H Q => r x xs H Q ∨ r' x xs H Q) := by
  intro pins s σ H x xs v us Q I rx rs q
  rcases q with q | q
  · exact h pins s σ H x xs v us Q I rx rs q
  · exact h' pins s σ H x xs v us Q I rx rs q
/-- a[b] -/
theorem pe_ix {r : R2} (hr : IxR X r) (ha : PE X a ta) (hb : PE X b tb) (hs : PlainIx b) : PE X (.Subscript a b pos) (tOp r ta tb) := by
  intro pins s σ H Q I h
  exact Subscript_ (binT ha hb I h fun v u s2 x y H2 I2 rx ry q => hr a b pins s2 σ H2 x y v u Q I2 rx ry q (hs _ _))

def rIxL (K : PySem.W.Frag) : R2 := fun x y H Q => ∃ p xs i v, x = .ref p ∧ y = .int i ∧ SqL K H p xs ∧ atI xs i = some v ∧ Q v H
def rIxT (K : PySem.W.Frag) : R2 := fun x y H Q => ∃ p xs i v, x = .ref p ∧ y = .int i ∧ SqT K H p xs ∧ atI xs i = some v ∧ Q v H
def rIxS : R2 := fun x y H Q => ∃ z i c, x = .str z ∧ y = .int i ∧ z.length ≤ sizeLine ∧ atI z.cps.toList i = some c ∧ Q (.str ⟨#[c]⟩) H
theorem ix_list : IxR X (rIxL X.K) := by
  intro value slice pins s σ H x y v u Q I rx ry h hs
  obtain ⟨p, xs, i, z, rfl, rfl, hq, he, q⟩ := h
  cases rx
  obtain ⟨t, rfl⟩ := ry
  obtain ⟨its, r, pl, hz⟩ := I.list hq
  obtain ⟨j, h1, h2, h3, h4, h5⟩ := atI_get he
  obtain ⟨w, ew, rw'⟩ := r.get h2
  have hl := r.length
  have hn := line63
  have fin : EP X pins σ Q w s := ⟨z, H, I, rw', q⟩
  by_cases h0 : 0 ≤ i
  · have hj : i.toNat = j := by
      rw [seqIndex_of h0 h5] at h1
      exact Option.some.inj h1
    exact item_listR pl.isList h0 (by omega) (by rw [hj]; simpa using ew) fin hs
  · have hj : (i + (its.toArray.size : Int)).toNat = j := by
      rw [seqIndex_neg (by omega) h4] at h1
      rw [List.size_toArray, ← hl]
      exact Option.some.inj h1
    exact subscriptTail_builtinR (x := w) pl.isList.typeIs slot_list_getitem.lookup
      (wpAny_getItem_list_neg (Q := fun r s' => r = w ∧ EP X pins σ Q r s') pl.isList (by omega) (by rw [List.size_toArray] <;> omega) (by omega) (by rw [hj]; simpa using ew) ⟨rfl, fin⟩) hs
theorem ix_tup : IxR X (rIxT X.K) := by
  intro value slice pins s σ H x y v u Q I rx ry h hs
  obtain ⟨p, xs, i, z, rfl, rfl, hq, he, q⟩ := h
  cases rx
  obtain ⟨t, rfl⟩ := ry
  obtain ⟨its, r, pl, hz⟩ := I.tuple hq
  obtain ⟨j, h1, h2, h3, h4, h5⟩ := atI_get he
  obtain ⟨w, ew, rw'⟩ := r.get h2
  have hl := r.length
  have hn := line63
  have fin : EP X pins σ Q w s := ⟨z, H, I, rw', q⟩
  exact subscriptTail_builtinR (x := w) pl.typeIs slot_tuple_getitem.lookup
    (getItem_tuple (j := j) (Q := fun r s' => r = w ∧ EP X pins σ Q r s') pl (by omega) (by omega) (by rw [List.size_toArray, ← hl]; exact h1) (by simpa using ew) ⟨rfl, fin⟩) hs
theorem ix_str : IxR X rIxS := by
  intro value slice pins s σ H x y v u Q I rx ry h hs
  obtain ⟨z, i, c, rfl, rfl, hz, he, q⟩ := h
  obtain ⟨t, rfl⟩ := rx
  obtain ⟨t', rfl⟩ := ry
  obtain ⟨j, h1, h2, h3, h4, h5⟩ := atI_get he
  have hl : z.cps.toList.length = z.length := by simp [Str.length]
  rw [hl] at h1 h4 h5
  have hn := line63
  exact tail_any (typeIs_str s z t) slot_str_getitem.lookup (getItem_str (c := c) (by
    have e1 : decide (i < -(2 ^ 63 : Int)) = false := decide_eq_false (by omega)
    have e2 : decide (i ≥ 2 ^ 63) = false := decide_eq_false (by omega)
    rw [e1, e2, Bool.or_false]) (by rw [h1]; simpa using h2) ⟨.str ⟨#[c]⟩, H, I.tok _, ⟨_, rfl⟩, q⟩) hs
/-- list, tuple or str -/
def rIx (K : PySem.W.Frag) : R2 := fun x y H Q => rIxL K x y H Q ∨ rIxT K x y H Q ∨ rIxS x y H Q
theorem ix_seq : IxR X (rIx X.K) := ix_list.or (ix_tup.or ix_str)

/-! ### xs[i] = v, any sign -/
/-- the list's object behind a store -/
theorem mapSeq_set (its : List Value) (n j : Nat) (u : Value) : Obj.mapSeq (·.setIfInBounds j u) { cls := .type "list", data := .seq its.toArray n } = { cls := .type "list", data := .seq (its.set j u).toArray n } := by
  simp [Obj.mapSeq]
theorem Inv.lst {pins : List (Addr × Obj)} {σ : St} {H : Hp} {s : Shared} {p : Addr} {xs : List V} (I : Inv X pins σ H s) (h : H p = some (.lst xs)) :
    ∃ (its : List Value) (n : Nat), Vals xs its ∧ s.heap.get? p = some { cls := .type "list", data := .seq its.toArray n } ∧ xs.length ≤ sizeLine := by
  obtain ⟨z, its, n, r, e⟩ := I.hok p _ h
  exact ⟨its, n, r, e, z⟩
/-- the list at p is written by an update of its object -/
theorem Inv.lstUpd {pins : List (Addr × Obj)} {σ : St} {H : Hp} {s : Shared} {p : Addr} {xs ys : List V} {its its' : List Value} {n n' : Nat} {f : Obj → Obj} (I : Inv X pins σ H s) (h : H p = some (.lst xs))
    (ho : s.heap.get? p = some { cls := .type "list", data := .seq its.toArray n }) (hf : f { cls := .type "list", data := .seq its.toArray n } = { cls := .type "list", data := .seq its'.toArray n' }) (r : Vals ys its') (hz : ys.length ≤ sizeLine) (t : Nat) :
    Inv X pins σ (upd H p (.lst ys)) { s with heap := s.heap.update p f, toks := t } := by
  have e : (s.heap.update p f).get? p = some { cls := .type "list", data := .seq its'.toArray n' } := by
    rw [Heap.get?_update_self f ho (by rw [hf] <;> rfl), hf]
  refine I.write (x := p) (e := p) (by rw [h]; trivial) (.inl rfl) (fun b u hb q => (Heap.get?_update_other _ _ (Ne.symm hb)).trans q) ⟨_, e⟩ ?_
  exact ⟨hz, its', n', r, e⟩
def rSetL : V → V → V → Hp → (Hp → Prop) → Prop := fun o i v H Q => ∃ p xs k j, o = .ref p ∧ i = .int k ∧ H p = some (.lst xs) ∧ ixN xs.length k = some j ∧ Q (upd H p (.lst (xs.set j v)))
theorem set_list : PSet X rSetL := by
  intro pins s σ H o i v ov iv u Q I ro ri rv h
  obtain ⟨p, xs, k, j, rfl, rfl, hp, hj, q⟩ := h
  cases ro
  obtain ⟨t, rfl⟩ := ri
  obtain ⟨its, n, r, ho, hz⟩ := I.lst hp
  obtain ⟨h1, h2, h3, h4⟩ := ixN_seq hj
  have hl := r.length
  have hn := line63
  have I' : Inv X pins σ (upd H p (.lst (xs.set j v))) { s with heap := s.heap.update p (Obj.mapSeq (·.setIfInBounds j u)) } :=
    I.lstUpd hp ho (mapSeq_set its n j u) (r.set rv j) (by rw [List.length_set]; exact hz) s.toks
  by_cases h0 : 0 ≤ k
  · have hk : k.toNat = j := by
      rw [seqIndex_of h0 h4] at h1
      exact Option.some.inj h1
    exact PySem.W.ki_setAt ho h0 (by omega) (by rw [List.size_toArray, ← hl]; exact h4) (by rw [hk]; exact ⟨_, I', q⟩)
  · have hk : (k + (its.toArray.size : Int)).toNat = j := by
      rw [seqIndex_neg (by omega) h3] at h1
      rw [List.size_toArray, ← hl]
      exact Option.some.inj h1
    exact PySem.W.ki_setBack ho (by omega) (by rw [List.size_toArray, ← hl]; exact h3) (by omega) (by rw [hk]; exact ⟨_, I', q⟩)

/-! ### slices -/
theorem slice_bounds (lo hi : Option Int) (n : Nat) : (sliceBounds lo hi none n).1 = ((HT.sIx n 0 lo : Nat) : Int) ∧ (sliceBounds lo hi none n).2.1 = ((HT.sIx n n hi : Nat) : Int) ∧ (sliceBounds lo hi none n).2.2 = 1 := by
  refine ⟨?_, ?_, rfl⟩
  · cases lo with
    | none => simp [sliceBounds, HT.sIx]
    | some i =>
      simp only [sliceBounds, HT.sIx, Option.getD_none, show (1 : Int) > 0 by decide, if_true]
      by_cases h : i < 0
      · simp only [h, if_true] <;> omega
      · simp only [h, if_false] <;> omega
  · cases hi with
    | none => simp [sliceBounds, HT.sIx]
    | some i =>
      simp only [sliceBounds, HT.sIx, Option.getD_none, show (1 : Int) > 0 by decide, if_true]
      by_cases h : i < 0
      · simp only [h, if_true] <;> omega
      · simp only [h, if_false] <;> omega
theorem slicePick_cut (its : List Value) (lo hi : Option Int) : slicePick its.toArray lo hi none = ((its.drop (HT.sIx its.length 0 lo)).take (HT.sIx its.length its.length hi - HT.sIx its.length 0 lo)).toArray := by
  obtain ⟨h1, h2, h3⟩ := slice_bounds lo hi its.toArray.size
  unfold slicePick
  rw [h1, h2, h3]
  simp only [sliceRange_one, pick_run, List.size_toArray] <;> rfl
/-- xs[lo:hi] of a list: a new list -/
def rSlL (K : PySem.W.Frag) : V → Option Int → Option Int → Hp → VK → Prop := fun x lo hi H Q => ∃ a xs, x = .ref a ∧ SqL K H a xs ∧ ∀ p, H p = none → Q (.ref p) (upd H p (.lst (cutV xs lo hi)))
theorem sl_list : SlR X (rSlL X.K) := by
  intro pins s σ H x v vl vu lo hi sl Q I rx hs pl pu h
  obtain ⟨a, xs, rfl, hx, q⟩ := h
  cases rx
  obtain ⟨its, r, ht, hz⟩ := I.list hx
  have hlen := r.length
  refine ⟨"list", _, slot_list_getitem.lookup, ht.isList.typeIs, ?_⟩
  refine wpAny_getItem_list_slice ht.isList hs pl pu .none (by simp) ?_ (by rw [List.size_toArray] <;> omega)
  rw [slicePick_cut, ← hlen]
  refine ⟨.ref s.heap.objs.size, _, I.laid (t' := s.toks) (o := .lst (cutV xs lo hi)) (fun b ob q => Heap.get?_push_of_some _ q) (Nat.le_refl _) ?_, rfl, q _ (I.hok.fresh (Nat.le_refl _))⟩
  exact ⟨Nat.le_trans (cutV_length xs lo hi) hz, _, 0, (r.drop (HT.sIx xs.length 0 lo)).take (HT.sIx xs.length xs.length hi - HT.sIx xs.length 0 lo), Heap.get?_push_size _ rfl⟩

/-! ### in, not in: flat items -/
def flatV : V → Bool
  | .non => true
  | .bl _ => true
  | .int _ => true
  | .str _ => true
  | _ => false
/-- == of flat values -/
def eqV : V → V → Bool
  | .non, .non => true
  | .bl a, .bl b => a == b
  | .bl a, .int b => (if a then 1 else 0) == b
  | .int a, .bl b => a == (if b then 1 else 0)
  | .int a, .int b => a == b
  | .str a, .str b => a == b
  | _, _ => false
theorem eqAt_V {A : Around} {s : Shared} {y x : V} {u v : Value} (ry : RelV y u) (rx : RelV x v) (fy : flatV y = true) (fx : flatV x = true) : SeqAt.EqAt A s u v (eqV y x) := by
  cases y with
  | non =>
    cases ry
    cases x with
    | non => cases rx; exact SeqAt.EqAt.same _
    | bl b => cases rx; exact SeqAt.EqAt.none_bool b
    | int b => obtain ⟨t, rfl⟩ := rx; exact SeqAt.EqAt.none_int b t
    | str b => obtain ⟨t, rfl⟩ := rx; exact SeqAt.EqAt.none_str b t
    | _ => exact absurd (show false = true from fx) Bool.false_ne_true
  | bl a =>
    cases ry
    cases x with
    | non => cases rx; exact SeqAt.EqAt.bool_none a
    | bl b => cases rx; exact SeqAt.EqAt.bool_bool a b
    | int b => obtain ⟨t, rfl⟩ := rx; exact SeqAt.EqAt.bool_int a b t
    | str b => obtain ⟨t, rfl⟩ := rx; exact SeqAt.EqAt.bool_str a b t
    | _ => exact absurd (show false = true from fx) Bool.false_ne_true
  | int a =>
    obtain ⟨t', rfl⟩ := ry
    cases x with
    | non => cases rx; exact SeqAt.EqAt.int_none a t'
    | bl b => cases rx; exact SeqAt.EqAt.int_bool a t' b
    | int b => obtain ⟨t, rfl⟩ := rx; exact SeqAt.EqAt.int_int a t' b t
    | str b => obtain ⟨t, rfl⟩ := rx; exact SeqAt.EqAt.int_str a t' b t
    | _ => exact absurd (show false = true from fx) Bool.false_ne_true
  | str a =>
    obtain ⟨t', rfl⟩ := ry
    cases x with
    | non => cases rx; exact SeqAt.EqAt.str_none a t'
    | bl b => cases rx; exact SeqAt.EqAt.str_bool a t' b
    | int b => obtain ⟨t, rfl⟩ := rx; exact SeqAt.EqAt.str_int a t' b t
    | str b => obtain ⟨t, rfl⟩ := rx; exact SeqAt.EqAt.str_str a t' b t
    | _ => exact absurd (show false = true from fx) Bool.false_ne_true
  | _ => exact absurd (show false = true from fy) Bool.false_ne_true
/-- the items' answers, read off the values (a value's own answer does not lean on its token) -/
def eqU (x : V) (u : Value) : Bool := match u with
  | .none => eqV .non x
  | .bool b => eqV (.bl b) x
  | .int i _ => eqV (.int i) x
  | .str z _ => eqV (.str z) x
  | _ => false
theorem eqU_of {x y : V} {u : Value} (r : RelV y u) (f : flatV y = true) : eqU x u = eqV y x := by
  cases y with
  | non => cases r; rfl
  | bl b => cases r; rfl
  | int i => obtain ⟨t, rfl⟩ := r; rfl
  | str z => obtain ⟨t, rfl⟩ := r; rfl
  | _ => exact absurd (show false = true from f) Bool.false_ne_true
theorem any_eqU {x : V} : ∀ {xs : List V} {us : List Value}, Vals xs us → xs.all flatV = true → us.any (eqU x) = xs.any fun y => eqV y x
  | _, _, .nil, _ => rfl
  | y :: xs, u :: us, .cons r t, f => by
    rw [List.all_cons, Bool.and_eq_true] at f
    rw [List.any_cons, List.any_cons, eqU_of r f.1, any_eqU t f.2]
theorem mem_eqAt {A : Around} {s : Shared} {x : V} {v : Value} (rx : RelV x v) (fx : flatV x = true) : ∀ {xs : List V} {us : List Value}, Vals xs us → xs.all flatV = true → ∀ u ∈ us, SeqAt.EqAt A s u v (eqU x u)
  | _, _, .nil, _ => fun u hu => by cases hu
  | y :: xs, u :: us, .cons r t, f => fun u' hu => by
    rw [List.all_cons, Bool.and_eq_true] at f
    rcases List.mem_cons.mp hu with rfl | hu
    · rw [eqU_of r f.1]; exact eqAt_V r rx f.1 fx
    · exact mem_eqAt rx fx t f.2 u' hu
def inV (x : V) (xs : List V) : Bool := xs.any fun y => eqV y x
/-- x in a list or tuple of flat items -/
def rIn (K : PySem.W.Frag) (neg : Bool) : R2 := fun x y H Q => ∃ p xs, y = .ref p ∧ (SqL K H p xs ∨ SqT K H p xs) ∧ flatV x = true ∧ xs.all flatV = true ∧ Q (.bl (if neg then !inV x xs else inV x xs)) H
theorem op_in_seq : OpR X (compareOp .In) (rIn X.K false) := by
  intro pins s σ H x y v u Q I rx ry h
  obtain ⟨p, xs, rfl, hq, fx, fs, q⟩ := h
  cases ry
  rcases hq with hq | hq
  · obtain ⟨its, r, pl, hz⟩ := I.list hq
    refine SeqAt.in_listAt (eqU x) pl.isList (fun w hw => mem_eqAt rx fx r fs w (by simpa using hw)) ⟨.bl _, H, I, rfl, ?_⟩
    rw [show its.toArray.any (eqU x) = its.any (eqU x) by simp, any_eqU r fs]
    exact q
  · obtain ⟨its, r, pl, hz⟩ := I.tuple hq
    refine SeqAt.in_tupleAt (eqU x) pl (fun w hw => mem_eqAt rx fx r fs w (by simpa using hw)) ⟨.bl _, H, I, rfl, ?_⟩
    rw [show its.toArray.any (eqU x) = its.any (eqU x) by simp, any_eqU r fs]
    exact q
theorem op_notIn_seq : OpR X (compareOp .NotIn) (rIn X.K true) := by
  intro pins s σ H x y v u Q I rx ry h
  obtain ⟨p, xs, rfl, hq, fx, fs, q⟩ := h
  cases ry
  rcases hq with hq | hq
  · obtain ⟨its, r, pl, hz⟩ := I.list hq
    refine SeqAt.notIn_listAt (eqU x) pl.isList (fun w hw => mem_eqAt rx fx r fs w (by simpa using hw)) ⟨.bl _, H, I, rfl, ?_⟩
    rw [show its.toArray.any (eqU x) = its.any (eqU x) by simp, any_eqU r fs]
    exact q
  · obtain ⟨its, r, pl, hz⟩ := I.tuple hq
    refine SeqAt.notIn_tupleAt (eqU x) pl (fun w hw => mem_eqAt rx fx r fs w (by simpa using hw)) ⟨.bl _, H, I, rfl, ?_⟩
    rw [show its.toArray.any (eqU x) = its.any (eqU x) by simp, any_eqU r fs]
    exact q
theorem op_notIn_str : OpR X (compareOp .NotIn) (fun x y H Q => ∃ i j, x = .str i ∧ y = .str j ∧ Q (.bl (!(!(Builtin.Str.occurrences j i 0 j.length 1).isEmpty))) H) := by
  intro pins s σ H x y v u Q I rx ry h
  obtain ⟨i, j, rfl, rfl, q⟩ := h
  obtain ⟨t, rfl⟩ := rx
  obtain ⟨t', rfl⟩ := ry
  exact notIn_str ⟨.bl _, H, I, rfl, q⟩

/-! ### len, list(x), tuple(x) of any list or tuple that is read -/
theorem call_len_seq : CallR X (.builtin "len") (fun xs H Q => ∃ p ys, xs = [.ref p] ∧ (SqL X.K H p ys ∨ SqT X.K H p ys) ∧ Q (.int ys.length) H) := by
  intro pins s σ H xs us Q I r h
  obtain ⟨p, ys, rfl, hq, q⟩ := h
  obtain ⟨u, rfl, rx⟩ := vals1 r
  cases rx
  have hn := line63
  rcases hq with hq | hq
  · obtain ⟨its, r', pl, hz⟩ := I.list hq
    have hlen := r'.length
    exact Calls.call_len_list pl.isList (by simp only [List.size_toArray] <;> omega) ⟨.int ys.length, H, I.tok _, ⟨s.toks + 1, by rw [List.size_toArray, hlen]⟩, q⟩
  · obtain ⟨its, r', pl, hz⟩ := I.tuple hq
    have hlen := r'.length
    exact len_tuple pl (by simp only [List.size_toArray] <;> omega) ⟨.int ys.length, H, I.tok _, ⟨s.toks + 1, by rw [List.size_toArray, hlen]⟩, q⟩
theorem call_len_str : CallR X (.builtin "len") (fun xs H Q => ∃ z, xs = [.str z] ∧ z.length ≤ sizeLine ∧ Q (.int z.length) H) := by
  intro pins s σ H xs us Q I r h
  obtain ⟨z, rfl, hz, q⟩ := h
  obtain ⟨u, rfl, t, rfl⟩ := vals1 r
  have hn := line63
  exact len_str (by omega) ⟨.int z.length, H, I.tok _, ⟨_, rfl⟩, q⟩
theorem CallR.or {f : Value} {r r' : List V → Hp → VK → Prop} (h : CallR X f r) (h' : CallR X f r') : CallR X f (fun xs H Q => r xs H Q ∨ r' xs H Q) := by
  intro pins s σ H xs us Q I rs q
  rcases q with q | q
  · exact h pins s σ H xs us Q I rs q
  · exact h' pins s σ H xs us Q I rs q
theorem call_list_of : CallR X (.type "list") (fun xs H Q => ∃ p ys, xs = [.ref p] ∧ (SqL X.K H p ys ∨ SqT X.K H p ys) ∧ ∀ l, H l = none → Q (.ref l) (upd H l (.lst ys))) := by
  intro pins s σ H xs us Q I r h
  obtain ⟨p, ys, rfl, hq, q⟩ := h
  obtain ⟨u, rfl, rx⟩ := vals1 r
  cases rx
  have fin : ∀ (its : List Value), Vals ys its → ys.length ≤ sizeLine → ∀ (h' : Heap) (c' : Nat), (∀ b o', s.heap.get? b = some o' → h'.get? b = some o') →
      h'.get? s.heap.objs.size = some { cls := .type "list", dict := none, data := .seq its.toArray c', slots := #[] } → EP X pins σ Q (.ref s.heap.objs.size) { s with heap := h' } := fun its r' hz h' c' kp e =>
    ⟨.ref s.heap.objs.size, _, I.laid (t' := s.toks) kp (Nat.le_refl _) (show ObjOk X.prog X.w _ h' _ (.lst ys) from ⟨hz, its, c', r', e⟩), rfl, q _ (I.hok.fresh (Nat.le_refl _))⟩
  rcases hq with hq | hq
  · obtain ⟨its, r', pl, hz⟩ := I.list hq
    have hlen := r'.length
    obtain ⟨o, ho, hc, n, hd⟩ := pl.isList
    exact call_list_seq p (.inl rfl) ho hc hd (fun h' c' kp e => fin its r' hz h' c' kp e) (by simp only [List.size_toArray] <;> omega)
  · obtain ⟨its, r', pl, hz⟩ := I.tuple hq
    have hlen := r'.length
    obtain ⟨o, ho, hc, n, hd⟩ := pl
    exact call_list_seq p (.inr rfl) ho hc hd (fun h' c' kp e => fin its r' hz h' c' kp e) (by simp only [List.size_toArray] <;> omega)
theorem call_tuple_of : CallR X (.type "tuple") (fun xs H Q => ∃ p ys, xs = [.ref p] ∧ ((SqL X.K H p ys ∧ ∀ l, H l = none → Q (.ref l) (upd H l (.tup ys))) ∨ (SqT X.K H p ys ∧ Q (.ref p) H))) := by
  intro pins s σ H xs us Q I r h
  obtain ⟨p, ys, rfl, h⟩ := h
  obtain ⟨u, rfl, rx⟩ := vals1 r
  cases rx
  rcases h with ⟨hq, q⟩ | ⟨hq, q⟩
  · obtain ⟨its, r', pl, hz⟩ := I.list hq
    have hlen := r'.length
    refine call_tuple_list pl.isList (fun h' kp => ?_) (by simp only [List.size_toArray] <;> omega)
    have I1 : Inv X pins σ H { s with heap := h' } := I.kept (t' := s.toks) kp
    have I2 : Inv X pins σ (upd H h'.objs.size (.tup ys)) { s with heap := h'.push { cls := .type "tuple", data := .seq its.toArray } } :=
      I1.laid (t' := s.toks) (fun b o e => Heap.get?_push_of_some _ e) (Nat.le_refl _) (show ObjOk X.prog X.w _ _ _ (.tup ys) from ⟨hz, its, r', IsTup.new _ _⟩)
    exact ⟨.ref h'.objs.size, _, I2, rfl, q _ (I1.hok.fresh (Nat.le_refl _))⟩
  · obtain ⟨its, r', pl, hz⟩ := I.tuple hq
    exact call_tuple_same pl ⟨.ref p, H, I, rfl, q⟩

/-! ### the call of a builtin's method: o.m(..) -/
/-- the value is of that builtin type -/
def tyV (K : PySem.W.Frag) (T : String) (x : V) (H : Hp) : Prop := match x with
  | .str _ => T = "str"
  | .int _ => T = "int"
  | .ref p => (T = "list" ∧ ∃ xs, SqL K H p xs) ∨ (T = "tuple" ∧ ∃ o, K.lookup p = some o ∧ o.cls = .type "tuple" ∧ o.dict = none) ∨
      (T = "dict" ∧ ((∃ kvs, H p = some (.dK kvs)) ∨ ∃ kvs, H p = some (.dT kvs))) ∨ (T = "set" ∧ ∃ S n, H p = some (.set S n))
  | _ => False
theorem tyV_is {pins : List (Addr × Obj)} {σ : St} {H : Hp} {s : Shared} {T : String} {x : V} {v : Value} (I : Inv X pins σ H s) (r : RelV x v) (ty : tyV X.K T x H) :
    s.TypeIs v T ∧ ∀ a, v = .ref a → ∃ ob, s.heap.get? a = some ob ∧ ob.dict = none := by
  cases x with
  | str z =>
    obtain ⟨t, rfl⟩ := r
    cases (show T = "str" from ty)
    exact ⟨typeIs_str s z t, fun _ e => nomatch e⟩
  | int i =>
    obtain ⟨t, rfl⟩ := r
    cases (show T = "int" from ty)
    exact ⟨typeIs_int s i t, fun _ e => nomatch e⟩
  | ref p =>
    cases r
    rcases ty with ⟨rfl, xs, hq⟩ | ⟨rfl, o, hk, hc, hd⟩ | ⟨rfl, hk⟩ | ⟨rfl, S, n, hk⟩
    · obtain ⟨its, _, pl, _⟩ := I.list hq
      refine ⟨pl.isList.typeIs, fun a e => ?_⟩
      cases e
      obtain ⟨o, n, e, c, hd, _⟩ := pl
      exact ⟨o, e, hd⟩
    · refine ⟨⟨o, I.kIn p o hk, hc⟩, fun a e => ?_⟩
      cases e
      exact ⟨o, I.kIn _ o hk, hd⟩
    · have z : ∃ o, s.heap.get? p = some o ∧ o.ExactDict := by
        rcases hk with ⟨kvs, hk⟩ | ⟨kvs, hk⟩
        · obtain ⟨_, _, _, _, o, _, _, e, ex, _⟩ := I.hok p _ hk
          exact ⟨o, e, ex⟩
        · obtain ⟨_, _, _, _, o, _, _, e, ex, _⟩ := I.hok p _ hk
          exact ⟨o, e, ex⟩
      obtain ⟨o, e, ex⟩ := z
      refine ⟨⟨o, e, ex.1⟩, fun a e2 => ?_⟩
      cases e2
      exact ⟨o, e, ex.2.1⟩
    · obtain ⟨o, _, _, _, e, ex, _⟩ := I.hok p _ hk
      refine ⟨⟨o, e, ex.1⟩, fun a e2 => ?_⟩
      cases e2
      exact ⟨o, e, ex.2.1⟩
  | _ => exact False.elim ty
def tBM0 (K : PySem.W.Frag) (T : String) (r : V → List V → Hp → VK → Prop) (to : TE) : TE := fun σ H Q => to σ H fun x H1 => tyV K T x H1 ∧ r x [] H1 Q
def tBM (K : PySem.W.Frag) (T : String) (r : V → List V → Hp → VK → Prop) (to : TE) (t : TA) : TE := fun σ H Q => to σ H fun x H1 => tyV K T x H1 ∧ t σ H1 fun xs H2 => r x xs H2 Q
variable {o e : Expr} {es : List Expr} {to : TE} {t : TA} {name : Str} {apos cpos : Pos} {T id : String} {r : V → List V → Hp → VK → Prop}
theorem pe_bm0 (pa : PlainAttrs T) (slot : Slot T name id) (hty : typeOf (.builtin id) = pure (.type "method_descriptor")) (hm : MtR X id r) (ho : PE X o to)
    (hbase : attributeBase o name X.env (eval o X.env) = eval o X.env := by rfl) (hline : (apos.endLine == cpos.line) = true := by rfl) : PE X (.Call (.Attribute o name apos) [] [] cpos) (tBM0 X.K T r to) := by
  intro pins s σ H Q I h
  refine wpAny_Call_method0_late hbase hline (thn (ho pins s σ H _ I h) fun v s1 ⟨x, H1, I1, r1, ty, q1⟩ => ?_)
  obtain ⟨h1, h2⟩ := tyV_is I1 r1 ty
  exact ⟨T, id, pa, slot, hty, h1, h2, Calls.callWith_builtin rfl (PySem.evalArgs_none (hm pins s1 σ H1 x [] v [] Q I1 r1 .nil q1))⟩
theorem pe_bm (pa : PlainAttrs T) (slot : Slot T name id) (hty : typeOf (.builtin id) = pure (.type "method_descriptor")) (hm : MtR X id r) (ho : PE X o to) (ha : PA X (e :: es) t)
    (hbase : attributeBase o name X.env (eval o X.env) = eval o X.env := by rfl)
    (hfew : ((backTo cpos (starEach (e :: es) X.env)).all (fun x => !x.1) && (backToKw cpos (keywordEach [] X.env)).all (fun x => x.1.isSome)
      && decide ((e :: es).length + ([] : List Keyword).length + (if ([] : List Keyword).isEmpty then 0 else 1) < 30)) = true := by rfl)
    (hline : (apos.endLine == cpos.line) = true := by rfl) (hs : starEach (e :: es) X.env = (false, eval e X.env) :: starEach es X.env := by rfl) (hplain : (backTo cpos (starEach es X.env)).any (·.1) = false := by rfl) :
    PE X (.Call (.Attribute o name apos) (e :: es) [] cpos) (tBM X.K T r to t) := by
  intro pins s σ H Q I h
  refine wpAny_Call_method_late hbase hfew hline rfl (thn (ho pins s σ H _ I h) fun v s1 ⟨x, H1, I1, r1, ty, q1⟩ => ?_)
  obtain ⟨h1, h2⟩ := tyV_is I1 r1 ty
  refine ⟨T, id, pa, slot, hty, h1, h2, ?_⟩
  have hA := ha cpos pins s1 σ H1 _ I1 q1
  rw [hs] at hA ⊢
  refine Calls.callWith_builtin (by show (false || (backTo cpos (starEach es X.env)).any (·.1)) = false; rw [hplain] <;> rfl) (Calls.evalArgs_plain ?_)
  exact thn hA fun us s2 ⟨vs, H2, I2, r2, q2⟩ => hm pins s2 σ H2 x vs v us Q I2 r1 r2 q2
/- xs.append(e), list.index on a module's tuple .. are MtR facts of 06m -/
end
end L2

namespace L2
open PySem PySem.Spec PyProof.Rows

def MtM (X : Cx) (id : String) (r : V → List V → Hp → VK → Prop) : Prop :=
  ∀ (pins : List (Addr × Obj)) (s : Shared) (σ : St) (H : Hp) (x : V) (xs : List V) (v : Value) (us : List Value) (Q : VK), Inv X pins σ H s → RelV x v → Vals xs us → r x xs H Q →
    wpAny (model X.prog X.w) X.A (call (.builtin id) (v :: us)) (EP X pins σ Q) X.xe s

/-! ### lists of values -/
theorem Vals.one : ∀ {x : V} {us : List Value}, Vals [x] us → ∃ u, us = [u] ∧ RelV x u
  | _, _, .cons r .nil => ⟨_, rfl, r⟩
theorem Vals.two : ∀ {x y : V} {us : List Value}, Vals [x, y] us → ∃ u v, us = [u, v] ∧ RelV x u ∧ RelV y v
  | _, _, _, .cons r (.cons q .nil) => ⟨_, _, rfl, r, q⟩
theorem Vals.zero : ∀ {us : List Value}, Vals [] us → us = []
  | _, .nil => rfl
theorem Vals.dropLast {xs : List V} {us : List Value} (h : Vals xs us) : Vals xs.dropLast us.dropLast := by
  induction h with
  | nil => exact .nil
  | cons r t ih =>
    cases t with
    | nil => exact .nil
    | cons q t' => exact .cons r ih
theorem Vals.eraseIdx : ∀ {xs : List V} {us : List Value} (i : Nat), Vals xs us → Vals (xs.eraseIdx i) (us.eraseIdx i)
  | _, _, _, .nil => .nil
  | _, _, 0, .cons _ t => t
  | _, _, i + 1, .cons r t => .cons r (Vals.eraseIdx i t)
theorem Vals.reverse {xs : List V} {us : List Value} (h : Vals xs us) : Vals xs.reverse us.reverse := by
  induction h with
  | nil => exact .nil
  | cons r t ih => rw [List.reverse_cons, List.reverse_cons]; exact Vals.append ih (.cons r .nil)
theorem Vals.rep {xs : List V} {us : List Value} (h : Vals xs us) : ∀ k : Nat, Vals (List.replicate k xs).flatten (List.replicate k us).flatten
  | 0 => .nil
  | k + 1 => by
    rw [List.replicate_succ, List.replicate_succ, List.flatten_cons, List.flatten_cons]
    exact Vals.append h (Vals.rep h k)
theorem erase_last {α : Type} (l : List α) : l.eraseIdx (l.length - 1) = l.dropLast := by
  induction l with
  | nil => rfl
  | cons a r ih =>
    cases r with
    | nil => rfl
    | cons b r =>
      have e : (a :: b :: r).length - 1 = ((b :: r).length - 1) + 1 := by
        have h1 : (a :: b :: r).length = r.length + 2 := rfl
        have h2 : (b :: r).length = r.length + 1 := rfl
        omega
      rw [e, List.eraseIdx_cons_succ, ih]
      all_goals rfl
theorem len_erase {α : Type} : ∀ (l : List α) (i : Nat), (l.eraseIdx i).length ≤ l.length
  | [], _ => Nat.le_refl _
  | _ :: _, 0 => Nat.le_succ _
  | _ :: r, i + 1 => Nat.succ_le_succ (len_erase r i)
theorem foldl_rep (its : List Value) : ∀ (k : Nat) (acc : List Value),
    List.foldl (fun x1 x2 => x1 ++ x2) acc.toArray (List.replicate k its.toArray) = (acc ++ (List.replicate k its).flatten).toArray
  | 0, acc => by simp
  | k + 1, acc => by
    have e : acc.toArray ++ its.toArray = (acc ++ its).toArray := by simp
    have e2 : (acc ++ its) ++ (List.replicate k its).flatten = acc ++ (List.replicate (k + 1) its).flatten := by
      rw [List.replicate_succ, List.flatten_cons, List.append_assoc]
    rw [← e2, ← foldl_rep its k (acc ++ its), ← e, List.replicate_succ, List.foldl_cons]

section
variable {X : Cx} {pins : List (Addr × Obj)} {σ : St} {H : Hp} {s : Shared} {l b : Addr} {xs ys zs : List V}

/-! ### the two steps: a tracked list is rewritten, a new list is laid -/
theorem Inv.lset {its its' : List Value} {n : Nat} {f : Array Value → Array Value} {t' : Nat} (I : Inv X pins σ H s) (hH : H l = some (.lst xs))
    (e : s.heap.get? l = some { cls := .type "list", data := .seq its.toArray n }) (hf : f its.toArray = its'.toArray) (hv : Vals ys its') (hz : ys.length ≤ sizeLine) :
    Inv X pins σ (upd H l (.lst ys)) { s with heap := s.heap.update l (Obj.mapSeq f), toks := t' } := by
  have q := PySem.IsL.update e f
  rw [hf] at q
  refine I.write (x := l) (e := l) (by rw [hH]; exact trivial) (.inl rfl) (fun b' u hb hu => (Heap.get?_update_other s.heap (Obj.mapSeq f) (Ne.symm hb)).trans hu) ⟨_, q⟩ ?_
  exact ⟨hz, its', _, hv, q⟩
theorem Inv.lnew {its : List Value} {t' : Nat} (I : Inv X pins σ H s) (hv : Vals ys its) (hz : ys.length ≤ sizeLine) :
    Inv X pins σ (upd H s.heap.objs.size (.lst ys)) { s with heap := s.heap.push { cls := .type "list", data := .seq its.toArray }, toks := t' } :=
  I.laid (fun _ _ q => Heap.get?_push_of_some _ q) (Nat.le_refl _) ⟨hz, its, 0, hv, Heap.get?_push_size _ rfl⟩
theorem Inv.fresh (I : Inv X pins σ H s) : H s.heap.objs.size = none := I.hok.fresh (Nat.le_refl _)
theorem Inv.lstM (I : Inv X pins σ H s) (hH : H l = some (.lst xs)) : xs.length ≤ sizeLine ∧ ∃ (its : List Value) (n : Nat), Vals xs its ∧ xs.length = its.length ∧ s.heap.get? l = some { cls := .type "list", data := .seq its.toArray n } := by
  obtain ⟨z, its, n, r, e⟩ := I.hok l _ hH
  exact ⟨z, its, n, r, r.length, e⟩

theorem notLongL {n : Nat} (h : n ≤ sizeLine) : Builtin.List.listTooLong n = false := by
  unfold Builtin.List.listTooLong
  exact decide_eq_false (by omega)
end

section
variable {X : Cx}

/-! ### methods -/
def rAppend : V → List V → Hp → VK → Prop := fun x vs H Q => ∃ l xs y, x = .ref l ∧ vs = [y] ∧ H l = some (.lst xs) ∧ xs.length < sizeLine ∧ Q .non (upd H l (.lst (xs ++ [y])))
theorem mt_append : MtM X "list.append" rAppend := by
  intro pins s σ H x vs v us Q I rx rv h
  obtain ⟨l, xs, y, rfl, rfl, hH, hz, q⟩ := h
  cases rx
  obtain ⟨u, rfl, ru⟩ := rv.one
  obtain ⟨z, its, n, r, hl, e⟩ := I.lstM hH
  refine call_meets F.slot_list_append ⟨_, e, rfl⟩ F.entry_list_append (F.args_list_append_2 _ _) (PySem.list_append l its.toArray n u (by rw [List.size_toArray]; omega)) ⟨e, ?_⟩
  refine ⟨.non, _, I.lset (its' := its ++ [u]) hH e (by simp) (r.append (.cons ru .nil)) ?_, rfl, q⟩
  rw [List.length_append, List.length_singleton]
  omega

def rExtend : V → List V → Hp → VK → Prop := fun x vs H Q => ∃ l b xs zs, x = .ref l ∧ vs = [.ref b] ∧ H l = some (.lst xs) ∧ H b = some (.lst zs) ∧ xs.length + zs.length ≤ sizeLine ∧ Q .non (upd H l (.lst (xs ++ zs)))
theorem mt_extend : MtM X "list.extend" rExtend := by
  intro pins s σ H x vs v us Q I rx rv h
  obtain ⟨l, b, xs, zs, rfl, rfl, hH, hB, hz, q⟩ := h
  cases rx
  obtain ⟨u, rfl, ru⟩ := rv.one
  cases ru
  obtain ⟨z, its, n, r, hl, e⟩ := I.lstM hH
  obtain ⟨z2, its2, n2, r2, hl2, e2⟩ := I.lstM hB
  have hsz : its.toArray.size + its2.toArray.size ≤ sizeLine := by rw [List.size_toArray, List.size_toArray]; omega
  have hlong : ¬ (!its.toArray.isEmpty && Builtin.List.listTooLong (its.toArray.size + its2.toArray.size)) = true := by
    rw [notLongL hsz, Bool.and_false]
    exact Bool.false_ne_true
  refine call_meets F.slot_list_extend ⟨_, e, rfl⟩ F.entry_list_extend (F.args_list_extend_2 _ _)
    (AutoSeq1.list_extend_list_list_0 l its.toArray n b its2.toArray n2 hlong (by rw [List.size_toArray]; omega) (by omega)) ⟨e, e2, ?_⟩
  refine ⟨.non, _, I.lset (its' := its ++ its2) hH e (by simp) (r.append r2) ?_, rfl, q⟩
  rw [List.length_append]
  omega

def rPop : V → List V → Hp → VK → Prop := fun x vs H Q => ∃ l xs y, x = .ref l ∧ vs = [] ∧ H l = some (.lst xs) ∧ xs[xs.length - 1]? = some y ∧ Q y (upd H l (.lst xs.dropLast))
theorem mt_pop : MtM X "list.pop" rPop := by
  intro pins s σ H x vs v us Q I rx rv h
  obtain ⟨l, xs, y, rfl, rfl, hH, hy, q⟩ := h
  cases rx
  have hus := rv.zero
  subst hus
  obtain ⟨z, its, n, r, hl, e⟩ := I.lstM hH
  obtain ⟨u, hu, ru⟩ := r.get hy
  have hy' : its.toArray[its.toArray.size - 1]? = some u := by
    show its.toArray[its.length - 1]? = some u
    rw [← Array.getElem?_toList, ← hl]
    exact hu
  refine call_meets F.slot_list_pop ⟨_, e, rfl⟩ F.entry_list_pop (F.args_list_pop_1 _) (MeetsSeq.list_pop_last l its.toArray n u hy' (by rw [List.size_toArray]; omega)) ⟨e, ?_⟩
  refine ⟨y, _, I.lset (its' := its.dropLast) hH e ?_ r.dropLast ?_, ru, q⟩
  · show its.toArray.eraseIdxIfInBounds (its.toArray.size - 1) = its.dropLast.toArray
    rw [List.size_toArray, List.eraseIdxIfInBounds_toArray, erase_last]
  · rw [List.length_dropLast]
    omega

def rPopAt : V → List V → Hp → VK → Prop := fun x vs H Q => ∃ l xs i k y, x = .ref l ∧ vs = [.int i] ∧ H l = some (.lst xs) ∧ -(2 ^ 63) ≤ i ∧ i < 2 ^ 63 ∧ seqIndex? i xs.length = some k ∧ xs[k]? = some y ∧ Q y (upd H l (.lst (xs.eraseIdx k)))
theorem mt_popAt : MtM X "list.pop" rPopAt := by
  intro pins s σ H x vs v us Q I rx rv h
  obtain ⟨l, xs, i, k, y, rfl, rfl, hH, h1, h2, hk, hy, q⟩ := h
  cases rx
  obtain ⟨u, rfl, ru⟩ := rv.one
  obtain ⟨t, rfl⟩ := ru
  obtain ⟨z, its, n, r, hl, e⟩ := I.lstM hH
  obtain ⟨w, hw, rw'⟩ := r.get hy
  refine call_meets F.slot_list_pop ⟨_, e, rfl⟩ F.entry_list_pop (F.args_list_pop_2 _ _)
    (MeetsSeq.list_pop_at l its.toArray n i t k w (fitsIndex_both h1 h2) (by rw [List.size_toArray, ← hl]; exact hk) (by rw [← Array.getElem?_toList]; exact hw) (by rw [List.size_toArray]; omega)) ⟨e, ?_⟩
  refine ⟨y, _, I.lset (its' := its.eraseIdx k) hH e ?_ (r.eraseIdx k) ?_, rw', q⟩
  · show its.toArray.eraseIdxIfInBounds k = (its.eraseIdx k).toArray
    rw [List.eraseIdxIfInBounds_toArray]
  · have := len_erase xs k
    omega

def rReverse : V → List V → Hp → VK → Prop := fun x vs H Q => ∃ l xs, x = .ref l ∧ vs = [] ∧ H l = some (.lst xs) ∧ Q .non (upd H l (.lst xs.reverse))
theorem mt_reverse : MtM X "list.reverse" rReverse := by
  intro pins s σ H x vs v us Q I rx rv h
  obtain ⟨l, xs, rfl, rfl, hH, q⟩ := h
  cases rx
  have hus := rv.zero
  subst hus
  obtain ⟨z, its, n, r, hl, e⟩ := I.lstM hH
  refine call_meets F.slot_list_reverse ⟨_, e, rfl⟩ F.entry_list_reverse (F.args_list_reverse_1 _) (AutoSeq1.list_reverse_list_0 l its.toArray n (by rw [List.size_toArray]; omega)) ⟨e, ?_⟩
  refine ⟨.non, _, I.lset (its' := its.reverse) hH e (by simp) r.reverse ?_, rfl, q⟩
  rw [List.length_reverse]
  omega

def rClear : V → List V → Hp → VK → Prop := fun x vs H Q => ∃ l xs, x = .ref l ∧ vs = [] ∧ H l = some (.lst xs) ∧ Q .non (upd H l (.lst []))
theorem mt_clear : MtM X "list.clear" rClear := by
  intro pins s σ H x vs v us Q I rx rv h
  obtain ⟨l, xs, rfl, rfl, hH, q⟩ := h
  cases rx
  have hus := rv.zero
  subst hus
  obtain ⟨z, its, n, r, hl, e⟩ := I.lstM hH
  refine call_meets F.slot_list_clear ⟨_, e, rfl⟩ F.entry_list_clear (F.args_list_clear_1 _) (AutoSeq1.list_clear_list_0 l its.toArray n (by rw [List.size_toArray]; omega)) ⟨e, ?_⟩
  exact ⟨.non, _, I.lset (its' := []) (ys := []) hH e rfl .nil (Nat.zero_le _), rfl, q⟩

/-! ### list + list, list += list, list * int -/
def rCat : R2 := fun x y H Q => ∃ l b xs zs, x = .ref l ∧ y = .ref b ∧ H l = some (.lst xs) ∧ H b = some (.lst zs) ∧ xs.length + zs.length ≤ sizeLine ∧ ∀ p, H p = none → Q (.ref p) (upd H p (.lst (xs ++ zs)))
theorem op_cat : OpR X (binaryOp .Add) rCat := by
  intro pins s σ H x y v u Q I rx ry h
  obtain ⟨l, b, xs, zs, rfl, rfl, hH, hB, hz, q⟩ := h
  cases rx
  cases ry
  obtain ⟨z, its, n, r, hl, e⟩ := I.lstM hH
  obtain ⟨z2, its2, n2, r2, hl2, e2⟩ := I.lstM hB
  refine PySem.P.add_list e e2 ?_ (by rw [List.size_toArray, List.size_toArray]; omega)
  have ea : its.toArray ++ its2.toArray = (its ++ its2).toArray := by simp
  rw [ea]
  exact ⟨.ref _, _, I.lnew (t' := s.toks) (r.append r2) (by rw [List.length_append]; omega), rfl, q _ I.fresh⟩
/-- a list times an int (a negative one is nothing) -/
def rRep : R2 := fun x y H Q => ∃ l k xs, x = .ref l ∧ y = .int k ∧ H l = some (.lst xs) ∧ -(2 ^ 63) ≤ k ∧ k < 2 ^ 63 ∧ xs.length * k.toNat ≤ sizeLine ∧
  ∀ p, H p = none → Q (.ref p) (upd H p (.lst (List.replicate k.toNat xs).flatten))
theorem len_rep {α : Type} (xs : List α) (k : Nat) : (List.replicate k xs).flatten.length = k * xs.length := by
  induction k with
  | zero => simp
  | succ k ih => rw [List.replicate_succ, List.flatten_cons, List.length_append, ih, Nat.succ_mul, Nat.add_comm]
theorem op_rep : OpR X (binaryOp .Mult) rRep := by
  intro pins s σ H x y v u Q I rx ry h
  obtain ⟨l, k, xs, rfl, rfl, hH, h1, h2, hz, q⟩ := h
  cases rx
  obtain ⟨t, rfl⟩ := ry
  obtain ⟨z, its, n, r, hl, e⟩ := I.lstM hH
  have hlen : its.toArray.size * k.toNat ≤ sizeLine := by rw [List.size_toArray, ← hl]; exact hz
  have hcap : ¬ its.toArray.size * k.toNat > (2 ^ 63 - 1) / 8 := by
    have : (sizeLine : Nat) ≤ (2 ^ 63 - 1) / 8 := by decide
    omega
  have hfit : ¬ (!Builtin.List.listFitsIndex k) = true := by
    rw [fitsIndex_both h1 h2]
    exact Bool.false_ne_true
  have hlong : ¬ Builtin.List.listTooLong (its.toArray.size * k.toNat) = true := by
    rw [notLongL hlen]
    exact Bool.false_ne_true
  have hnew : List.foldl (fun x1 x2 => x1 ++ x2) #[] (List.replicate (if its.toArray.isEmpty = true then 0 else k.toNat) its.toArray) = (List.replicate k.toNat its).flatten.toArray := by
    have f0 : ∀ m : Nat, List.foldl (fun x1 x2 => x1 ++ x2) #[] (List.replicate m its.toArray) = (List.replicate m its).flatten.toArray := fun m => by
      have := foldl_rep its m []
      rw [List.nil_append] at this
      exact this
    rw [f0]
    cases its with
    | nil => simp
    | cons a r' => rw [if_neg (by simp)]
  refine wpAny_binaryOp_repeat_ref (T := "list") (U := "int") (by decide) ⟨_, e, rfl⟩ (fun s' => typeIs_int s' k t) noFill_list_mul F.fills_int_mul F.slot_int_rmul repeat_list F.slot_int_index.lookup
    (call_meets F.slot_int_rmul (typeIs_int s k t) F.entry_int_rmul (F.args_int_rmul_2 _ _) (int___rmul___int_list k t l its.toArray n)
      ⟨e, rfl, ⟨_, e, rfl⟩, call_meets F.slot_list_mul ⟨_, e, rfl⟩ F.entry_list_mul (F.args_list_mul_2 _ _) (AutoListH.list___mul___list_int_3 l its.toArray n k t hfit hcap hlong) ⟨e, ?_⟩⟩)
  rw [hnew]
  exact ⟨.ref _, _, I.lnew (t' := s.toks) (r.rep k.toNat) (by rw [len_rep, Nat.mul_comm]; exact hz), rfl, q _ I.fresh⟩

/-! ### del xs[i] -/
theorem del_list {pins : List (Addr × Obj)} {s : Shared} {σ : St} {H : Hp} {l : Addr} {xs : List V} {i : Int} {t : Tok} {k : Nat} {Q : Unit → Shared → Prop} (I : Inv X pins σ H s) (hH : H l = some (.lst xs))
    (h1 : -(2 ^ 63) ≤ i) (h2 : i < 2 ^ 63) (hk : seqIndex? i xs.length = some k) (h : ∀ s', Inv X pins σ (upd H l (.lst (xs.eraseIdx k))) s' → Q () s') :
    wpAny (model X.prog X.w) X.A (delItem (.ref l) (.int i t)) Q X.xe s := by
  obtain ⟨z, its, n, r, hl, e⟩ := I.lstM hH
  refine PySem.P.delItem_list (k := k) e (fitsIndex_both h1 h2) (by rw [List.size_toArray, ← hl]; exact hk) (h _ ?_) (by rw [List.size_toArray]; omega)
  refine I.lset (its' := its.eraseIdx k) (t' := s.toks) hH e ?_ (r.eraseIdx k) ?_
  · show its.toArray.eraseIdxIfInBounds k = (its.eraseIdx k).toArray
    rw [List.eraseIdxIfInBounds_toArray]
  · have := len_erase xs k
    omega
end

/-! ### xs[a:b] = ys -/
section
variable {prog : Program} {w : World} {A : Around} {E : Value → Shared → Prop} {s : Shared}
theorem splice_eq (its its2 : List Value) (a c : Nat) : its.toArray.extract 0 a ++ its2.toArray ++ its.toArray.extract c its.toArray.size = (its.take a ++ its2 ++ its.drop c).toArray := by
  apply Array.toList_inj.mp
  first
    | (simp
       exact List.take_of_length_le (by simp))
    | simp [List.take_of_length_le]
    | simp
theorem bounds_run {a c n : Nat} (hac : a ≤ c) (hc : c ≤ n) : sliceBounds (some (a : Int)) (some (c : Int)) none n = ((a : Int), (c : Int), 1) := by
  simp only [sliceBounds, Option.getD_none]
  have h1 : ¬ ((a : Int) < 0) := by omega
  have h2 : ¬ ((c : Int) < 0) := by omega
  simp only [h1, h2, if_false, show (1 : Int) > 0 by decide, if_true]
  congr 1
  · omega
  · congr 1; omega
set_option maxRecDepth 100000 in
/-- list.__setitem__ with a slice of step one and another list -/
theorem setItem_slice {l b sl : Addr} {items new : Array Value} {n n2 : Nat} {vl vu : Value} {a c : Nat} {Q : Unit → Shared → Prop}
    (e : s.heap.get? l = some { cls := .type "list", data := .seq items n }) (e2 : s.heap.get? b = some { cls := .type "list", data := .seq new n2 }) (hne : l ≠ b)
    (hs : s.heap.IsSliceOf sl vl vu .none) (pl : IsPart vl (some (a : Int))) (pu : IsPart vu (some (c : Int))) (hac : a ≤ c) (hc : c ≤ items.size)
    (hsz : items.size + new.size ≤ sizeLine) (h : Q () { s with heap := s.heap.update l (Obj.mapSeq fun xs => xs.extract 0 a ++ new ++ xs.extract c xs.size) }) :
    wpAny (model prog w) A (setItem (.ref l) (.ref sl) (.ref b)) Q E s := by
  have hl : s.heap.IsList l items := PySem.IsL.isList e
  have hb : s.heap.IsList b new := PySem.IsL.isList e2
  obtain ⟨os, hos, hcs, hds⟩ := id hs
  have hTs : s.TypeIs (.ref sl) "slice" := ⟨os, hos, hcs⟩
  have hstep : ¬ ((rawPart none == rawInt 0) = true) := Bool.false_ne_true
  have hsame : Builtin.List.listSameRef (.ref l) (.ref b) = false := by
    unfold Builtin.List.listSameRef
    exact beq_eq_false_iff_ne.mpr hne
  have hmax : (max (a : Int) (c : Int)).toNat = c := by omega
  have hz' : ((fun xs : Array Value => xs.extract 0 a ++ new ++ xs.extract c xs.size) items).size ≤ sizeLine + 1 := by
    simp only [Array.size_append, Array.size_extract]
    omega
  unfold setItem
  try with_reducible refine wpAny_holding ?_
  first | refine wpAny_bind (wpAny_pure ?_) | skip
  refine wpAny_bind (wpAny_sequenceKey hl.typeIs (by decide) ?_)
  refine wpAny_bind (wpAny_callSpecial?_slot (name := Str.ofString "__setitem__") hl.typeIs slot_list_setitem
    (wpAny_call_entry slot_list_setitem hl.typeIs entry_list_setitem ?_ (args_list_setitem _ _ _)))
  show wpAny _ _ (Builtin.List.listSubscript? (.ref sl) >>= _) _ _ s
  refine wpAny_bind ?_
  unfold Builtin.List.listSubscript?
  refine wpAny_bind (wpAny_specialOf hTs slice_no_index ?_)
  simp only [Option.isNone_none, if_true]
  refine wpAny_pure ?_
  show wpAny _ _ (typeOf (.ref sl) >>= _) _ _ s
  refine wpAny_bind (wpAny_typeOf hTs ?_)
  first
    | rw [if_neg (by decide)]
    | refine PySem.W.KFB.if_not (by decide) ?_
  rw [listSliceParts_eq]
  refine wpAny_bind (wpAny_bind (wpAny_field hos hds (x := .none) rfl (wpAny_bind (wpAny_listPart .none ?_))))
  rw [if_neg hstep]
  refine wpAny_bind (wpAny_field hos hds (x := vl) rfl (wpAny_bind (wpAny_listPart pl ?_)))
  refine wpAny_bind (wpAny_field hos hds (x := vu) rfl (wpAny_bind (wpAny_listPart pu (wpAny_pure ?_))))
  first
    | simp only [hsame, Bool.false_eq_true, if_false]
    | refine PySem.W.KFB.if_not hsame ?_
    | (dsimp only
       rw [if_neg (by rw [hsame]; exact Bool.false_ne_true)])
  refine wpAny_bind (m := Builtin.List.listAllItems (.ref b) "must assign iterable to extended slice") ?_
  unfold Builtin.List.listAllItems
  refine wpAny_bind (wpAny_typeOf hb.typeIs ?_)
  first
    | refine PySem.W.KFB.if_so (by decide) ?_
    | rw [if_pos (by decide)]
    | simp only [beq_self_eq_true, Bool.true_or, if_true]
  unfold Builtin.List.listItems
  refine wpAny_bind (wpAny_seqItems e2 rfl (wpAny_pure ?_))
  refine wpAny_bind (wpAny_bind (wpAny_seqItems e rfl (wpAny_pure ?_)))
  refine wpAny_bind (wpAny_of_eq ((sliceIndices_raw (some (a : Int)) (some (c : Int)) none items.size (by simp)).trans (congrArg (pure : Int × Int × Int → Sem (Int × Int × Int)) (bounds_run hac hc))) ?_)
  show wpAny _ _ (if ((1 : Int) == 1) = true then _ else _) _ _ s
  rw [if_pos (by decide)]
  refine wpAny_bind (wpAny_rule ?_)
  first
    | simp only [notLongL hsz, Bool.false_eq_true, if_false]
    | refine PySem.W.KFB.if_not (notLongL hsz) ?_
  first | refine wpAny_bind (wpAny_pure ?_) | skip
  show wpAny _ _ (updateSeq l (fun xs => xs.extract 0 ((a : Int)).toNat ++ new ++ xs.extract (max (a : Int) (c : Int)).toNat xs.size) >>= _) _ _ s
  rw [hmax, Int.toNat_natCast]
  refine wpAny_bind (wpAny_updateSeq (hz := Nat.le_trans (Nat.le_add_right _ _) hsz) (_hz' := hz') e rfl ?_)
  refine wpAny_bind (wpAny_letGo ?_)
  first
    | exact wpAny_bind (wpAny_pure (wpAny_pure ⟨.none, rfl, wpAny_pure h⟩))
    | exact wpAny_pure ⟨.none, rfl, wpAny_pure h⟩
end

section
variable {X : Cx}
/-- xs[a:c] = ys of another list, at the value level: sl is the slice object that was just made -/
theorem set_slice {pins : List (Addr × Obj)} {s : Shared} {σ : St} {H : Hp} {l b sl : Addr} {xs ys : List V} {a c : Int} {vl vu : Value} {Q : Unit → Shared → Prop} (I : Inv X pins σ H s)
    (hH : H l = some (.lst xs)) (hB : H b = some (.lst ys)) (hne : l ≠ b) (hs : s.heap.IsSliceOf sl vl vu .none) (ra : RelV (.int a) vl) (rc : RelV (.int c) vu) (h0 : 0 ≤ a) (hac : a ≤ c) (hc : c ≤ xs.length)
    (hz : xs.length + ys.length ≤ sizeLine) (h : ∀ s', Inv X pins σ (upd H l (.lst (xs.take a.toNat ++ ys ++ xs.drop c.toNat))) s' → Q () s') :
    wpAny (model X.prog X.w) X.A (setItem (.ref l) (.ref sl) (.ref b)) Q X.xe s := by
  obtain ⟨ta, rfl⟩ := ra
  obtain ⟨tc, rfl⟩ := rc
  obtain ⟨z, its, n, r, hl, e⟩ := I.lstM hH
  obtain ⟨z2, its2, n2, r2, hl2, e2⟩ := I.lstM hB
  obtain ⟨a', rfl⟩ := Int.eq_ofNat_of_zero_le h0
  obtain ⟨c', rfl⟩ := Int.eq_ofNat_of_zero_le (Int.le_trans h0 hac)
  simp only [Int.toNat_natCast] at h
  refine setItem_slice (a := a') (c := c') e e2 hne hs (.int _ _) (.int _ _) (by omega) (by rw [List.size_toArray]; omega) (by rw [List.size_toArray, List.size_toArray]; omega) (h _ ?_)
  refine I.lset (its' := its.take a' ++ its2 ++ its.drop c') (t' := s.toks) hH e ?_ (Vals.append (Vals.append (r.take _) r2) (r.drop _)) ?_
  · exact splice_eq its its2 a' c'
  · rw [List.length_append, List.length_append, List.length_take, List.length_drop]
    omega
end
end L2

namespace Att
open PySem PySem.W PySem.Calls PyProof.Rows

/-! ### the script -/
theorem ints_of_wellAll {P : Params} {h : Heap} : ∀ (ns : List Int) (vs : List Value), WellAll P h vs (ns.map WData.int) → IntsAre vs ns := by
  intro ns
  induction ns with
  | nil =>
    intro vs w
    rw [List.map_nil] at w
    cases w
    exact .nil
  | cons n ns ih =>
    intro vs w
    rw [List.map_cons] at w
    cases w with
    | cons a b =>
      cases a
      exact .cons _ _ (ih _ b)

theorem script_of {l : OpenLaw} {n : Nat} (hn : l.most = some n) {P : Params} {h : Heap} {args : List WData} {vals : List Value}
    (hpre : l.row.toRowW.claim.pre args = true) (hwl : WellAll P h vals args) :
    ∃ a vs ns, vals = [Value.ref a] ∧ args = [WData.list (ns.map WData.int)] ∧ h.get? a = some { cls := .type "list", data := .seq vs.toArray } ∧ IntsAre vs ns ∧ ns.length ≤ n := by
  have hsh : WShape.hasAll [] args [.list .int] = true := (pre_splitW hpre).1
  have hc : l.pre.holds [] { args := args } = true := (pre_splitW hpre).2
  obtain ⟨d, r, rfl, h1, h2⟩ := hasAllW_cons hsh
  obtain rfl := hasAllW_nil h2
  obtain ⟨xs, rfl, h3⟩ := hasW_list h1
  obtain ⟨ns, rfl⟩ := items_int h3
  have hlen : ns.length ≤ n := by
    unfold OpenLaw.pre at hc
    have h4 : (WTm.not (.lt (.lit (.int (n : Int))) (.len (.arg 0)))).holds [] { args := [.list (ns.map .int)] } = true := by
      have h4 := (holds_andW hc).1
      rw [hn] at h4
      exact h4
    have h5 := condW_of h4 (w_not (w_lt w_lit (w_len_list (w_arg rfl))))
    rw [List.length_map] at h5
    refine Nat.le_of_not_lt fun q => ?_
    have q' : (n : Int) < ((ns.length : Nat) : Int) := by omega
    first
      | (rw [decide_eq_true q'] at h5; exact absurd h5 (by decide))
      | (simp at h5; omega)
  cases hwl with
  | cons w1 w2 =>
    cases w2
    cases w1 with
    | list ho hall => exact ⟨_, _, ns, rfl, rfl, ho, ints_of_wellAll ns _ hall, hlen⟩

theorem post_true (l : OpenLaw) (args : List WData) : l.row.toRowW.claim.post args (.bool true) args = true :=
  postW_of (r := l.row.toRowW) (X := (true == true))
    (show WShape.has [] (.bool true) .bool = true by first | rfl | decide | simp [WShape.has, WShape.arms, WShape.armsAll])
    (show (WTm.eq .res (.lit (.bool true))).value [] { args := args, res := some (.bool true), after := args } = some (.bool (true == true)) from w_eq_bool (w_res rfl) w_lit) rfl

/-! ### the attachment: holds_open's last premise (the goal 'hc' behind k_head) from a wpAny of the law's body -/
theorem attach {l : OpenLaw} {n : Nat} {q : Program} {loose : List Str} {XP : (Str → Option Value) → Heap → Prop} {YP : World → Heap → Prop} {d : DefRec} {x : Str}
    (hn : l.most = some n) (hdf : d.params.defaults = [])
    (hbind : ∀ pm cd doc v : Value, bindArgs (docDef d.name d.params d.body d.scope pm cd doc) ⟨[v], []⟩ = pure [(x, v)])
    (hx : d.scope.names.lookup x = some .local ∨ d.scope.names.lookup x = some .cell)
    (hk : d.scope.kind = .function) (hco : d.scope.isCoroutine = false) (hgen : d.scope.isGenerator = false)
    (body : ∀ (w : World) (s₀ s₁ s : Shared) (mg mb : Str → Option Value) (fa : Addr) (o : Obj) (pm cd doc : Value) (a : Addr) (vs : List Value) (ns : List Int),
      Ground q loose [] XP w s₀ mg mb s₁.heap → YP w s₁.heap →
      s₁.heap.get? fa = some o → o.data = .func (docDef d.name d.params d.body d.scope pm cd doc) → s₁.heap.CodeRec cd d.name → mg d.name = some (.ref fa) →
      s₁.heap.get? a = some { cls := .type "list", data := .seq vs.toArray } → IntsAre vs ns → ns.length ≤ n →
      s.gens = #[] → s.os = s₁.os →
      Fr s₁.heap s₁.heap.objs.size s.heap (bindL (envOfC d.name d.scope s₁.heap.objs.size fa cd).kindOf [(x, .ref a)] fun _ => none) →
      Cl s₁.heap.objs.size (cellsFrom (s₁.heap.objs.size + 1) d.scope.names []) s.heap (bindC (envOfC d.name d.scope s₁.heap.objs.size fa cd).kindOf [(x, .ref a)] fun _ => none) →
      wpAny (model l.prog w) (callerA.deeper (envOfC d.name d.scope s₁.heap.objs.size fa cd)) (execs d.body (envOfC d.name d.scope s₁.heap.objs.size fa cd))
        (fun f s' => f = .ret (.bool true) ∧ OldK s₁.heap s'.heap ∧ s'.os = s₁.os ∧ AllBare s'.gens) (fun _ _ => False) s) :
    WalkO q loose XP YP l.row.toRowW d [] (fun f vs => PySem.call f vs) := by
  intro w s₀ s₁ mg mb G Y fa o pm cd doc dV kV ho hd hcd hD hmg hg args vals as hpre hlay hrd hwl hlo
  obtain rfl : dV = .none := Dflts.none hD hdf
  obtain rfl : kV = .none := Dflts.noKw hD
  obtain ⟨a, vs, ns, rfl, rfl, hobj, hints, hlen⟩ := script_of hn hpre hwl
  refine enter_call ?_
  refine call_cells_ret (o := o) (by rw [depth_caller]; decide) ho (fd_plain hd) G.T.nolimit hcd (hbind pm cd doc (.ref a)) (fun y hy => ?_) (fun h₁ tk F X => ?_) hco hgen hk
  · obtain rfl : y = (x, Value.ref a) := List.mem_singleton.mp hy
    rcases hx with e | e
    · exact .inl e
    · exact .inr ⟨e, cellsFrom_some _ _ _ (.inl e)⟩
  · refine wpAny_mono (body w s₀ s₁ { s₁ with heap := h₁, toks := tk } mg mb fa o pm cd doc a vs ns G Y ho (fd_plain hd) hcd hmg hobj hints hlen hg rfl F X) (fun f s' hq => ?_) (fun _ _ hq => hq)
    obtain ⟨rfl, h2, h3, h4⟩ := hq
    exact ⟨.inl ⟨.bool true, .bool true, [], rfl, fun _ => rfl, .bool true, post_true l _, fun _ => ⟨List.Pairwise.nil, fun _ hm => (nomatch hm)⟩⟩, h2, h3, h4⟩

/-- the same from a codeAny of the CALL (for a layer whose function contracts speak of calls) -/
theorem low_script {R : WRecords} {cl : Str → Option Addr} {h : Heap} {a : Addr} {ds : List WData} {as : List Addr} (r : ReadsAllW R cl h [.ref a] [.list ds] as) (lo : ∀ b ∈ as, (b == sysModules) = false) : a ≠ sysModules := by
  cases r with
  | cons r1 _ =>
    cases r1 with
    | list _ _ _ _ => exact fun z => by have := lo a (by simp); rw [z] at this; simp at this
theorem attach_call {l : OpenLaw} {n : Nat} {q : Program} {loose : List Str} {XP : (Str → Option Value) → Heap → Prop} {YP : World → Heap → Prop} {d : DefRec}
    (hn : l.most = some n) (hdf : d.params.defaults = [])
    (call : ∀ (w : World) (s₀ s₁ : Shared) (mg mb : Str → Option Value) (fa : Addr) (o : Obj) (pm cd doc : Value) (a : Addr) (vs : List Value) (ns : List Int),
      Ground q loose [] XP w s₀ mg mb s₁.heap → YP w s₁.heap →
      s₁.heap.get? fa = some o → o.data = .func (docDef d.name d.params d.body d.scope pm cd doc) → s₁.heap.CodeRec cd d.name → mg d.name = some (.ref fa) →
      s₁.heap.get? a = some { cls := .type "list", data := .seq vs.toArray } → IntsAre vs ns → ns.length ≤ n → a ≠ sysModules → s₁.gens = #[] →
      codeAny (model l.prog w) callerA (.call (.ref fa) ⟨[.ref a], []⟩) (fun r s' => r = .ok (.ret (.bool true)) ∧ OldK s₁.heap s'.heap ∧ s'.os = s₁.os ∧ AllBare s'.gens) s₁) :
    WalkO q loose XP YP l.row.toRowW d [] (fun f vs => PySem.call f vs) := by
  intro w s₀ s₁ mg mb G Y fa o pm cd doc dV kV ho hd hcd hD hmg hg args vals as hpre hlay hrd hwl hlo
  obtain rfl : dV = .none := Dflts.none hD hdf
  obtain rfl : kV = .none := Dflts.noKw hD
  obtain ⟨a, vs, ns, rfl, rfl, hobj, hints, hlen⟩ := script_of hn hpre hwl
  refine enter_call (codeAny_mono (call w s₀ s₁ mg mb fa o pm cd doc a vs ns G Y ho (fd_plain hd) hcd hmg hobj hints hlen (low_script hrd hlo) hg) fun r s' hq => ?_)
  obtain ⟨rfl, h2, h3, h4⟩ := hq
  exact ⟨.inl ⟨.bool true, .bool true, [], rfl, fun _ => rfl, .bool true, post_true l _, fun _ => ⟨List.Pairwise.nil, fun _ hm => (nomatch hm)⟩⟩, h2, h3, h4⟩

/-- the same where the top left finished generators (o_head chose holds_openN): nothing may have changed at all and no generator may be left -/
theorem attachN {l : OpenLaw} {n : Nat} {q : Program} {loose : List Str} {XP : (Str → Option Value) → Heap → Prop} {YP : World → Heap → Prop} {d : DefRec} {x : Str}
    (hn : l.most = some n) (hdf : d.params.defaults = [])
    (hbind : ∀ pm cd doc v : Value, bindArgs (docDef d.name d.params d.body d.scope pm cd doc) ⟨[v], []⟩ = pure [(x, v)])
    (hx : d.scope.names.lookup x = some .local ∨ d.scope.names.lookup x = some .cell)
    (hk : d.scope.kind = .function) (hco : d.scope.isCoroutine = false) (hgen : d.scope.isGenerator = false)
    (body : ∀ (w : World) (s₀ s₁ s : Shared) (mg mb : Str → Option Value) (fa : Addr) (o : Obj) (pm cd doc : Value) (a : Addr) (vs : List Value) (ns : List Int),
      Ground q loose [] XP w s₀ mg mb s₁.heap → YP w s₁.heap →
      s₁.heap.get? fa = some o → o.data = .func (docDef d.name d.params d.body d.scope pm cd doc) → s₁.heap.CodeRec cd d.name → mg d.name = some (.ref fa) →
      s₁.heap.get? a = some { cls := .type "list", data := .seq vs.toArray } → IntsAre vs ns → ns.length ≤ n →
      s.gens = #[] → s.os = s₁.os →
      Fr s₁.heap s₁.heap.objs.size s.heap (bindL (envOfC d.name d.scope s₁.heap.objs.size fa cd).kindOf [(x, .ref a)] fun _ => none) →
      Cl s₁.heap.objs.size (cellsFrom (s₁.heap.objs.size + 1) d.scope.names []) s.heap (bindC (envOfC d.name d.scope s₁.heap.objs.size fa cd).kindOf [(x, .ref a)] fun _ => none) →
      wpAny (model l.prog w) (callerA.deeper (envOfC d.name d.scope s₁.heap.objs.size fa cd)) (execs d.body (envOfC d.name d.scope s₁.heap.objs.size fa cd))
        (fun f s' => f = .ret (.bool true) ∧ (∀ b o, s₁.heap.get? b = some o → s'.heap.get? b = some o) ∧ s'.os = s₁.os ∧ s'.gens = #[]) (fun _ _ => False) s) :
    WalkN q loose XP YP l.row.toRowW d [] (fun f vs => PySem.call f vs) := by
  intro w s₀ s₁ mg mb G Y fa o pm cd doc dV kV ho hd hcd hD hmg hg args vals as hpre hlay hrd hwl hlo
  obtain rfl : dV = .none := Dflts.none hD hdf
  obtain rfl : kV = .none := Dflts.noKw hD
  obtain ⟨a, vs, ns, rfl, rfl, hobj, hints, hlen⟩ := script_of hn hpre hwl
  refine enter_callW ?_
  refine call_cells_ret (o := o) (by rw [depth_caller]; decide) ho (fd_plain hd) G.T.nolimit hcd (hbind pm cd doc (.ref a)) (fun y hy => ?_) (fun h₁ tk F X => ?_) hco hgen hk
  · obtain rfl : y = (x, Value.ref a) := List.mem_singleton.mp hy
    rcases hx with e | e
    · exact .inl e
    · exact .inr ⟨e, cellsFrom_some _ _ _ (.inl e)⟩
  · refine wpAny_mono (body w s₀ s₁ { s₁ with heap := h₁, toks := tk } mg mb fa o pm cd doc a vs ns G Y ho (fd_plain hd) hcd hmg hobj hints hlen hg rfl F X) (fun f s' hq => ?_) (fun _ _ hq => hq)
    obtain ⟨rfl, h2, h3, h4⟩ := hq
    exact ⟨.inl ⟨.bool true, .bool true, [], rfl, fun _ => rfl, .bool true, post_true l _, fun _ => ⟨List.Pairwise.nil, fun _ hm => (nomatch hm)⟩⟩, h2, h3, h4⟩

/-! ### rules over ANY heap (no ledger) from facts about the written part K: the library's own take a ledger (News) for what they write -/
section
variable {prog : Program} {w : World} {A : Around} {E : Value → Shared → Prop} {s : Shared} {K : Frag}

/-- a def of the module, or a method (qual 'C.m'), entered: the frame is the next address; cells behind it -/
theorem call_fn {R : Result → Shared → Prop} {name qual : Str} {params : Arguments} {body : List Stmt} {scope : Scope} {dV kV doc pm cdv ct oc : Value} {an od : Option Addr} {osl : Array (Option Value)} {f : Addr} {args : Args} {binds : List (Str × Value)}
    (X : K.In s.heap) (hlim : s.heap.NoLimit) (ho : K.lookup f = some ⟨oc, od, .func (fnOf name qual params body scope dV kV doc pm an cdv ct), osl⟩) (hcd : codeIn K cdv qual = true) (hroom : A.depth < recursionLimit)
    (hbind : BindsTo s (fnOf name qual params body scope dV kV doc pm an cdv ct) args binds)
    (hkind : (binds.all fun y => scope.names.lookup y.1 == some .local || scope.names.lookup y.1 == some .cell) = true)
    (h : ∀ s₁, InCallC s s.heap.objs.size (bindL (envOfC qual scope s.heap.objs.size f cdv).kindOf binds fun _ => none) (cellsFrom (s.heap.objs.size + 1) scope.names [])
        (bindC (envOfC qual scope s.heap.objs.size f cdv).kindOf binds fun _ => none) s₁ →
      wpAny (model prog w) (A.deeper (envOfC qual scope s.heap.objs.size f cdv)) (execs body (envOfC qual scope s.heap.objs.size f cdv))
        (fun fl s' => R (.ok (.ret (match fl with | .ret v => v | _ => .none))) s')
        (fun e s' => wpAny (model prog w) (A.deeper (envOfC qual scope s.heap.objs.size f cdv)) (leaving (envOfC qual scope s.heap.objs.size f cdv) e) (fun _ s'' => R (.error e) s'') (fun e' s'' => R (.error e') s'') s') s₁)
    (hco : scope.isCoroutine = false) (hgen : scope.isGenerator = false) (hk : scope.kind = .function) : codeAny (model prog w) A (.call (.ref f) args) R s := by
  refine codeAny_call_function hroom (X _ _ ho) rfl hco hgen rfl (codeRec_of X hcd) (hbind _ _ _ _ ?_)
  refine wpAny_newFunctionEnv_cells hk (kindsX hkind _) fun env he s₁ x => ?_
  subst he
  exact ⟨hlim.keeps x.toInCall.keep, codeAny_func (h s₁ x)⟩

/-- C(..): dict at size, instance at size + 1, then __init__ -/
theorem make_obj {R : Result → Shared → Prop} {C fI : Addr} {rest : List Value} {kw : List (Str × Value)}
    (X : K.In s.heap) (hm : makesIn K C = true) (hi : findIn K (.ref C) "__init__" = some (some (.ref fI))) (hf : isFn K (.ref fI) = true)
    (h : codeAny (model prog w) (A.under (.builtin "type.__call__" ⟨.ref C :: rest, kw⟩)) (.call (.ref fI) ⟨.ref (s.heap.objs.size + 1) :: rest, kw⟩) (InitBack (s.heap.objs.size + 1) R)
      { s with heap := (s.heap.push emptyDict).push (instObj C s.heap.objs.size) }) : codeAny (model prog w) A (.call (.ref C) ⟨rest, kw⟩) R s := by
  obtain ⟨hh, g, d, t, os⟩ := s
  exact make_core (makes_of X hm) (looks_findIn X hi) (fun self => bind_fn X self (beq_iff_eq.mp hf)) (.inl rfl) h

/-- x.name where the instance's dict holds the name and the class does not -/
theorem get_field {x C : Addr} {ox : Obj} {es : List DictEntry} {n : Nat} {name : Str} {expr : Bool} {v : Value} {Q : Value → Shared → Prop}
    (X : K.In s.heap) (I : PySem.W.InstAt s.heap x ox C (some (dictOf es n))) (hg : plainGet K C name = true) (hh : hasDictIn K C = true) (ha : findIn K (.ref C) name = some none)
    (hl : getL name es = some (some v)) (hv : handedIn v = true) (h : Q v { s with toks := s.toks + 1 }) : wpAny (model prog w) A (getAttr (.ref x) name expr) Q E s :=
  get_value X I (plainGet_of hg).1 (findObj_own hh ha rfl hl) hv h

/-- x.m(..): the method found in the class -/
theorem get_method {x C f : Addr} {ox : Obj} {es : List DictEntry} {n : Nat} {name : Str} {pl : Sem Bool} {Q : Value × List Value → Shared → Prop}
    (X : K.In s.heap) (I : PySem.W.InstAt s.heap x ox C (some (dictOf es n))) (hg : plainGet K C name = true) (hf : findIn K (.ref C) name = some (some (.ref f))) (ht : isFn K (.ref f) = true)
    (hl : getL name es = some none) (h : Q (.ref f, [.ref x]) s) : wpAny (model prog w) A (getMethod (.ref x) name pl) Q E s :=
  method_fn X I (plainGet_of hg).1 (plainGet_of hg).2 hf (beq_iff_eq.mp ht) (by show (lookIn name (dictOf es n)).map _ = _; rw [lookIn_dict, hl]; rfl) h

/-! the whole heap as the ledger: makes every rule that writes through a ledger a rule over any heap -/
def noObjs (h : Heap) : Heap := { h with objs := #[] }
theorem noObjs_get (h : Heap) (b : Addr) : (noObjs h).get? b = none := by
  cases e : (noObjs h).get? b with
  | none => rfl
  | some o => exact absurd (Heap.lt_size e) (Nat.not_lt_zero _)
def ledger (h : Heap) (L d : Addr) : List (Addr × Obj) := (List.range h.objs.size).filterMap fun a => if a = L ∨ a = d then none else (h.get? a).map fun o => (a, o)
theorem mem_ledger {h : Heap} {L d a : Addr} {o : Obj} : (a, o) ∈ ledger h L d ↔ a ≠ L ∧ a ≠ d ∧ h.get? a = some o := by
  unfold ledger
  rw [List.mem_filterMap]
  constructor
  · rintro ⟨b, _, e⟩
    split at e
    · cases e
    · rename_i hb
      obtain ⟨o', ho, e'⟩ := Option.map_eq_some_iff.mp e
      cases e'
      exact ⟨fun q => hb (.inl q), fun q => hb (.inr q), ho⟩
  · rintro ⟨n1, n2, ho⟩
    refine ⟨a, List.mem_range.mpr (Heap.lt_size ho), ?_⟩
    rw [if_neg (show ¬ (a = L ∨ a = d) from fun q => q.elim n1 n2), ho] <;> rfl
theorem news_ledger {h : Heap} {L d : Addr} {od : Obj} (hne : d ≠ L) (ho : h.get? d = some od) : News (noObjs h) L h ([] ++ (d, od) :: ledger h L d) := by
  rintro ⟨a, o⟩ hp
  rcases List.mem_cons.mp hp with e | hp
  · cases e
    exact ⟨ho, hne, noObjs_get _ _⟩
  · obtain ⟨n1, n2, e⟩ := mem_ledger.mp hp
    exact ⟨e, n1, noObjs_get _ _⟩
theorem fr_all {h : Heap} {L : Addr} {m : Str → Option Value} (n : h.Ns L m) : Fr (noObjs h) L h m :=
  ⟨n, fun b o e => (by rw [noObjs_get] at e; cases e), Nat.zero_le _⟩
/-- Upd of the head entry (for append_K, setItem_K ..) -/
theorem upd_ledger {h : Heap} {L d : Addr} {o o' : Obj} : Upd d o o' ((d, o) :: ledger h L d) ((d, o') :: ledger h L d) :=
  .head fun ⟨_, _⟩ hp => (mem_ledger.mp hp).2.1

/-- x.name = v over any heap: L is any namespace of the heap (the frame's, say): its map stays, its object is not told; all else but the dict stays -/
theorem set_field {x C dx L : Addr} {ox : Obj} {m : Str → Option Value} {es es' : List DictEntry} {n n' : Nat} {name : Str} {v : Value} {Q : Unit → Shared → Prop}
    (X : K.In s.heap) (I : PySem.W.InstAt s.heap x ox C (some (dictOf es n))) (hd : ox.dict = some dx) (hL : s.heap.Ns L m) (hne : dx ≠ L)
    (hs : findIn K (.ref C) "__setattr__" = some (some (.builtin "object.__setattr__"))) (hp : plainOver K C = true) (ht : takerIn K C name = some none) (hh : hasDictIn K C = true) (hl : (getL name es).isSome = true)
    (e : (putL name (PyData.keyHash w.params name) (.str name (s.toks + 1)) v es, putN name es n) = (es', n')) (hz : es'.length ≤ 1000)
    (h : ∀ h' : Heap, h'.Ns L m → h'.get? dx = some (dictOf es' n') → (∀ b o, b ≠ dx → b ≠ L → s.heap.get? b = some o → h'.get? b = some o) → Q () { s with heap := h', toks := s.toks + 2 }) :
    wpAny (model prog w) A (setAttr (.ref x) name v) Q E s := by
  obtain ⟨e1, e2⟩ := Prod.mk.inj e
  have hdx : s.heap.get? dx = some (dictOf es n) := by
    have := I.dict
    rw [hd] at this
    exact this
  refine set_plain X I hs (osa_dict (s := { s with toks := s.toks + 1 }) (h₀ := noObjs s.heap) (L := L) (m := m) (od := dictOf es n) (od' := dictOf es' n') (es := es') (n := n') (pre := []) (post := ledger s.heap L dx)
    (fr_all hL) (news_ledger hne hdx) X I hd hp ht hh hl (fun _ q => nomatch q) (fun ⟨_, _⟩ q => (mem_ledger.mp q).2.1) (by rw [putName_dict, e1, e2]) rfl hz fun h' F' N' => ?_)
  exact h h' F'.ns (N'.get (List.Mem.head _)) fun b o n1 n2 ho => N'.get (List.Mem.tail _ (mem_ledger.mpr ⟨n2, n1, ho⟩))
end
end Att

namespace L2
open PySem PySem.Spec PyProof.Rows

theorem vals_ints : ∀ {vs : List Value} {ns : List Int}, IntsAre vs ns → Vals (ns.map V.int) vs
  | _, _, .nil => .nil
  | _, _, .cons n t h => .cons ⟨t, rfl⟩ (vals_ints h)

/-- nothing is tracked but the script, known to the object (or it is an object of the module) -/
def Only (H : Hp) : Prop := ∀ b, H b = none ∨ ∃ o xs, H b = some (.frz o (.lst xs))

/-- THE HEAD: the law's promise, at the heap behind the top. F, the promise of the law's def, may use that base is part of the heap (so K.In base, base.Ns mainGlobals mg stand in Mod) -/
theorem law_call {P : Program} {w : World} {K : PySem.W.Frag} {mg mb : Str → Option Value} {CX : CXT} {k : Nat} {fa a : Addr} {fd : FuncData} {x : Str} {sp : Sp} {s₁ : Shared} {vs : List Value} {ns : List Int}
    (KX : K.In s₁.heap) (hns : s₁.heap.Ns mainGlobals mg) (hb : s₁.heap.Ns builtinsNs mb) (hbb : ∀ x : Str, x ≠ "__name__" → mb x = bootBuiltins x) (hlim : s₁.heap.NoLimit) (hg : s₁.gens = #[])
    (ha : s₁.heap.get? a = some { cls := .type "list", data := .seq vs.toArray }) (hi : IntsAre vs ns) (hl : ns.length ≤ sizeLine) (hasy : a ≠ sysModules) (hr : Room k callerA)
    (F : ∀ base : Heap, K.In base → base.Ns mainGlobals mg → FnOk P w K mg base CX k fa fd [x] sp) (hbind : ∀ (s : Shared) (u : Value), BindsTo s fd ⟨[u], []⟩ [(x, u)])
    (hsp : ∀ H : Hp, Only H → SqL K H a (ns.map V.int) → sp [.ref a] H (fun v _ => v = .bl true) fun _ _ _ => False)
    (hCX : ∀ H e s', CX [] H s₁ (fun _ _ _ => False) e s' → False) :
    codeAny (model P w) callerA (.call (.ref fa) ⟨[.ref a], []⟩) (fun r s' => r = .ok (.ret (.bool true)) ∧ OldK s₁.heap s'.heap ∧ s'.os = s₁.os ∧ AllBare s'.gens) s₁ := by
  have rv := vals_ints hi
  have lenV := hi.length
  -- from an abstract heap in which nothing but the script may be tracked
  have core : ∀ H : Hp, Only H → SqL K H a (ns.map V.int) → HOk P w H s₁.heap → (∀ b, H b ≠ none → b = a) → (H a ≠ none → K.lookup a = none) →
      codeAny (model P w) callerA (.call (.ref fa) ⟨[.ref a], []⟩) (fun r s' => r = .ok (.ret (.bool true)) ∧ OldK s₁.heap s'.heap ∧ s'.os = s₁.os ∧ AllBare s'.gens) s₁ := by
    intro H hO hS hok hA hK
    have base_of : ∀ {b : Addr} {o : Obj}, s₁.heap.get? b = some o → H b = none → (hidT s₁.heap H).get? b = some o := fun e n => hidT_get e n
    have noA : ∀ {b : Addr} {o : Obj} {es : Array DictEntry} {ep : Nat}, s₁.heap.get? b = some o → o.data = .dict es ep → H b = none := fun {b o es ep} e d => by
      cases q : H b with
      | none => rfl
      | some u =>
        have e' : b = a := hA b (by rw [q]; simp)
        subst e'
        rw [ha] at e; cases e
        have d' : Data.seq vs.toArray _ = Data.dict es ep := d
        cases d'
    have nsK : ∀ {b : Addr} {m : Str → Option Value}, s₁.heap.Ns b m → (hidT s₁.heap H).Ns b m := fun {b m} ⟨o, es, ep, e, d, r⟩ => ⟨o, es, ep, base_of e (noA e d), d, r⟩
    have hKb : K.In (hidT s₁.heap H) := fun b o e => base_of (KX b o e) (by
      cases q : H b with
      | none => rfl
      | some u =>
        have e' : b = a := hA b (by rw [q]; simp)
        subst e'
        rw [hK (by rw [q]; simp)] at e; cases e)
    have hM : Mod K mg (hidT s₁.heap H) := ⟨hKb, nsK hns, ⟨mb, nsK hb, hbb⟩, let ⟨mc, h1, h2⟩ := hlim; ⟨mc, nsK h1, h2⟩⟩
    have e0 : Env0 P w K mg (hidT s₁.heap H) callerA [] s₁ H := ⟨rfl, hM, fun b o e => of_hidT e, Nat.le_of_eq (hidT_size _ _), trivial, fun b hb => absurd (show b ∈ ([] : List Addr) from hb) (by simp), hok, .of_eq hg, Classical.byContradiction fun z => hasy (hA _ z).symm⟩
    refine codeAny_mono ((F _ hKb (nsK hns)).run callerA [] s₁ H ⟨[.ref a], []⟩ [.ref a] [.ref a] _ _ hr e0 (hbind s₁ (.ref a)) (.cons rfl .nil) (hsp H hO hS)) fun r s' h => ?_
    cases r with
    | error e => exact (hCX H e s' h).elim
    | ok fl =>
      cases fl with
      | next => exact False.elim h
      | brk => exact False.elim h
      | cont => exact False.elim h
      | ret u =>
        obtain ⟨v, H', os, bare, un, hok', r', q⟩ := h
        have q' : v = .bl true := q
        subst q'
        obtain rfl : u = Value.bool true := r'
        refine ⟨rfl, OldK.of_keep fun b o e => ?_, os, bare⟩
        cases q : H b with
        | none => exact un.keep b o e q (by intro z; exact absurd (show b ∈ ([] : List Addr) from z) (by simp)) (by simp)
        | some u =>
          rcases hO b with z | ⟨ob, xs, z⟩
          · rw [q] at z; cases z
          · have z2 := un.frzs b ob _ z
            obtain ⟨e1, _⟩ := hok b _ z
            obtain ⟨e2, _⟩ := hok' b _ z2
            rw [e] at e1; cases e1
            exact e2
  cases hk : K.lookup a with
  | some o =>
    -- the script is one of the module's own objects
    have e := KX a o hk
    rw [ha] at e
    cases e
    refine core (fun _ => none) (fun _ => .inl rfl) (.inr ⟨_, vs.toArray, _, hk, rfl, rfl, rfl, by rw [List.size_toArray, lenV]; exact hl, by simpa using rv⟩) (fun b u z => by have z' : (none : Option HO) = some u := z; cases z') (fun b z => absurd rfl z) fun z => absurd rfl z
  | none =>
    refine core (fun b => if b = a then some (.frz { cls := .type "list", data := .seq vs.toArray } (.lst (ns.map V.int))) else none) (fun b => ?_) (.inl (.inr ⟨{ cls := .type "list", data := .seq vs.toArray }, if_pos rfl⟩)) (fun b u z => ?_) (fun b z => ?_) fun _ => hk
    · by_cases hb : b = a
      · exact .inr ⟨_, _, if_pos hb⟩
      · exact .inl (if_neg hb)
    · by_cases hb : b = a
      · have z' := (if_pos hb).symm.trans z
        cases z'
        subst hb
        exact ⟨ha, by rw [List.length_map]; exact hl, vs, _, rv, ha⟩
      · have z' := (if_neg hb).symm.trans z
        cases z'
    · by_cases hb : b = a
      · exact hb
      · exact absurd (if_neg hb) z
end L2

namespace L2
open PySem PySem.Spec PyProof.Rows

abbrev KOf {K : PySem.W.Frag} {h : Heap} (_ : K.In h) : PySem.W.Frag := K

/-- the goal that k_head leaves (case hc), from the law's promise. F gives the function object fd (K's own) once, then the promise over every base -/
theorem walk_of {l : PySem.W.OpenLaw} {n k : Nat} {q : Program} {loose : List Str} {XP : (Str → Option Value) → Heap → Prop} {YP : World → Heap → Prop} {d : DefRec} {K : Params → PySem.W.Frag} {CX : World → CXT} {sp : World → Sp} {x : Str}
    (hn : l.most = some n) (hn2 : n ≤ sizeLine) (hdf : d.params.defaults = []) (hr : Room k callerA)
    (hY : ∀ (w : World) (h : Heap), YP w h → (K w.params).In h)
    (F : ∀ (w : World) (mg : Str → Option Value) (fa : Addr) (h : Heap), (K w.params).In h → h.Ns mainGlobals mg → mg d.name = some (.ref fa) →
      ∃ fd : FuncData, (∀ (s : Shared) (u : Value), BindsTo s fd ⟨[u], []⟩ [(x, u)]) ∧
        ∀ base : Heap, (K w.params).In base → base.Ns mainGlobals mg → FnOk l.prog w (K w.params) mg base (CX w) k fa fd [x] (sp w))
    (hsp : ∀ (w : World) (H : Hp) (a : Addr) (ns : List Int), ns.length ≤ n → Only H → SqL (K w.params) H a (ns.map V.int) → sp w [.ref a] H (fun v _ => v = .bl true) fun _ _ _ => False)
    (hCX : ∀ (w : World) (H : Hp) (s : Shared) (e : Value) (s' : Shared), CX w [] H s (fun _ _ _ => False) e s' → False) :
    PySem.W.WalkO q loose XP YP l.row.toRowW d [] (fun f vs => PySem.call f vs) := by
  refine Att.attach_call hn hdf fun w s₀ s₁ mg mb fa o pm cd doc a vs ns G Y ho hd hcd hmg hobj hints hlen hasy hg => ?_
  have KX := hY w _ Y
  obtain ⟨fd, hb, hF⟩ := F w mg fa _ KX G.T.g hmg
  exact law_call KX G.T.g G.T.b G.T.builtins G.T.nolimit hg hobj hints (Nat.le_trans hlen hn2) hasy hr hF hb (fun H hO hS => hsp w H a ns hlen hO hS) fun H e s' => hCX w H s₁ e s'
/-- the same where the promise hangs on the written part alone: (sp := My.sp_law), no hole under a binder -/
theorem walk_ofK {l : PySem.W.OpenLaw} {n k : Nat} {q : Program} {loose : List Str} {XP : (Str → Option Value) → Heap → Prop} {YP : World → Heap → Prop} {d : DefRec} {K : Params → PySem.W.Frag} {CX : CXT} {sp : PySem.W.Frag → Sp} {x : Str}
    (hn : l.most = some n) (hn2 : n ≤ sizeLine) (hdf : d.params.defaults = []) (hr : Room k callerA)
    (hY : ∀ (w : World) (h : Heap), YP w h → (K w.params).In h)
    (F : ∀ (w : World) (mg : Str → Option Value) (fa : Addr) (h : Heap), (K w.params).In h → h.Ns mainGlobals mg → mg d.name = some (.ref fa) →
      ∃ fd : FuncData, (∀ (s : Shared) (u : Value), BindsTo s fd ⟨[u], []⟩ [(x, u)]) ∧
        ∀ base : Heap, (K w.params).In base → base.Ns mainGlobals mg → FnOk l.prog w (K w.params) mg base CX k fa fd [x] (sp (K w.params)))
    (hsp : ∀ (K : PySem.W.Frag) (H : Hp) (a : Addr) (ns : List Int), ns.length ≤ n → Only H → SqL K H a (ns.map V.int) → sp K [.ref a] H (fun v _ => v = .bl true) fun _ _ _ => False)
    (hCX : ∀ (H : Hp) (s : Shared) (e : Value) (s' : Shared), CX [] H s (fun _ _ _ => False) e s' → False) :
    PySem.W.WalkO q loose XP YP l.row.toRowW d [] (fun f vs => PySem.call f vs) :=
  walk_of (K := K) (CX := fun _ => CX) (sp := fun w => sp (K w.params)) hn hn2 hdf hr hY F (fun w H a ns h1 h2 h3 => hsp (K w.params) H a ns h1 h2 h3) fun _ H s e s' => hCX H s e s'
end L2

/- THE LAST THEOREM (shape; LID, My.* are yours):
   My.Adr: a structure of the addresses that your layer names (classes, functions); My.Txt K t: a structure (Prop) of the equations over K;
   My.txt_mk : {K} {implicit addresses ..} (e1 : nsIn K mainGlobals "law" = some (some (.ref f))) (e2 : K.lookup f = some ⟨oc, od, .func (fnOf "law" "law" params body scope dV kV doc pm an cdv ct), sl⟩) (e3 : codeIn K cdv "law" = true) .. : ∃ t, My.Txt K t

set_option maxRecDepth 100000 in
set_option maxHeartbeats 0 in
theorem PySem.Challenge.cw_LID_holds : PySem.Challenge.rw_LID.Holds := by
  w_on; o_law; k_head; (case hw => w_witness2)
  k_fill
  refine L2.walk_of (l := PySem.Challenge.rw_LID) (n := 63) (k := 40) (x := "script") (CX := fun w => ..) (sp := fun _ => My.sp_law) rfl (by decide) rfl ⟨rfl, by decide, by decide⟩ (fun w h Y => PySem.W.kIn_of Y) ?F ?S ?C
  case F =>
    intro w mg fa h KX G hmg
    have T : ∃ t, My.Txt (L2.KOf KX) t := by
      dsimp only [L2.KOf]                          -- K must stand as «<heap const> w.params» for k_is
      refine' My.txt_mk ?e1 ?e2 ?e3 ..
      (case e1 => PySem.W.k_is)                    -- in the order: a name -> its address -> its object -> its parts
      (case e2 => PySem.W.k_is)
      ..
    obtain ⟨t, T⟩ := T
    have e0 := hmg.symm.trans (PySem.W.mg_of KX G T.law)
    cases e0                                       -- fa is the law's own address
    exact ⟨_, fun s u => .of_eq rfl, fun base kb nb => My.law_fn T kb nb⟩     -- if «.of_eq rfl» comes too early: refine' ⟨_, ?b, fun base kb nb => My.law_fn T kb nb⟩; exact fun s u => .of_eq rfl
  case S => exact fun w H a ns hl hO hS => ..
  case C => exact ..
(the tactic k_is has no namespace: write k_is) -/

/-! SHORT WORDS over the layer: a def of the text, its body, what a loop and a test want. -/
namespace L2
open PySem PySem.Spec PyProof.Rows

/-! ### the text by places -/
/-- the j-th statement of a class's body -/
def inClass (s : Stmt) (j : Nat) : Stmt := match s with
  | .ClassDef _ _ _ body _ _ _ _ _ _ _ => body.getD j (.Pass ⟨0, 0, 0, 0⟩)
  | _ => .Pass ⟨0, 0, 0, 0⟩
def defArgs (s : Stmt) : Arguments := match s with
  | .FunctionDef _ a _ _ _ _ _ _ _ _ => a
  | _ => { posonlyargs := [], args := [], vararg := none, kwonlyargs := [], kw_defaults := [], kwarg := none, defaults := [] }
def defBody (s : Stmt) : List Stmt := match s with
  | .FunctionDef _ _ b _ _ _ _ _ _ _ => b
  | _ => []
def defScope (s : Stmt) : Scope := match s with
  | .FunctionDef _ _ _ _ _ _ sc _ _ _ => sc
  | _ => { kind := .function, names := [], isGenerator := false, isCoroutine := false }

/-! ### no exception leaves a def -/
abbrev CX0 : CXT := fun _ _ _ _ _ _ => False
abbrev E0 : XK := fun _ _ _ => False
theorem pass0 {X : Cx} : Passes CX0 X E0 := fun _ _ _ _ _ _ _ h => h.elim

/-! ### a def (or method) of the text as it stands behind the top -/
structure Fun (K : PySem.W.Frag) (x qual : Str) (st : Stmt) (f : Addr) (fd : FuncData) : Prop where
  ex : ∃ (oc : Value) (od : Option Addr) (kV doc pm : Value) (an : Option Addr) (cdv ct : Value) (osl : Array (Option Value)),
    fd = PySem.W.fnOf x qual (defArgs st) (defBody st) (defScope st) .none kV doc pm an cdv ct ∧ K.lookup f = some ⟨oc, od, .func fd, osl⟩ ∧ PySem.W.codeIn K cdv qual = true
  kp : PySem.W.keepIn K (.ref f) = true
section
variable {P : Program} {w : World} {K : PySem.W.Frag} {mg : Str → Option Value} {base : Heap}
/-- THE RULE for a def: its body as a term of rules, and the reading of that term -/
theorem Fun.ok {x qual : Str} {st : Stmt} {f : Addr} {fd : FuncData} {N ps : List Str} {k : Nat} {sp : Sp} (F : Fun K x qual st f fd) (S : FnScope N ps (defScope st)) (len : ∀ vs H Q E, sp vs H Q E → vs.length = ps.length)
    (hbody : ∀ (cdv : Value) (A : Around) (outer : List Env) (s : Shared) (H : Hp) (vs : List V) (Q : VK) (E : XK), Room k (A.deeper (envOfC qual (defScope st) s.heap.objs.size f cdv)) → sp vs H Q E →
      ∃ t, PSs (cxOf CX0 P w K mg base N qual (defScope st) f cdv A outer s H E).nox (defBody st) t ∧ t { nx := fun _ H' => Q .non H', rt := Q } (start N vs) H) : FnOk P w K mg base CX0 (k + 1) f fd ps sp := by
  obtain ⟨oc, od, kV, doc, pm, an, cdv, ct, osl, rfl, lk, hcd⟩ := F.ex
  refine fn_of lk hcd S len fun A outer s H vs Q E hr hsp => ?_
  obtain ⟨t, h, q⟩ := hbody cdv A outer s H vs Q E hr hsp
  exact ⟨t, h.nox, q⟩
/-- how its arguments bind (no defaults): h is «fun _ _ _ _ _ _ us hl => match us, hl with | [_, _], _ => rfl», one _ a parameter -/
theorem Fun.binds {x qual : Str} {st : Stmt} {f : Addr} {fd : FuncData} {ps : List Str} (F : Fun K x qual st f fd)
    (h : ∀ (kV doc pm : Value) (an : Option Addr) (cdv ct : Value) (us : List Value), us.length = ps.length → bindArgs (PySem.W.fnOf x qual (defArgs st) (defBody st) (defScope st) .none kV doc pm an cdv ct) ⟨us, []⟩ = pure (ps.zip us)) : Binds K fd ps [] := by
  obtain ⟨oc, od, kV, doc, pm, an, cdv, ct, osl, rfl, lk, hcd⟩ := F.ex
  exact .all (h kV doc pm an cdv ct)
theorem fun_mk {x qual : Str} {st : Stmt} {f : Addr} {oc : Value} {od an : Option Addr} {osl : Array (Option Value)} {kV doc pm cdv ct : Value} (l : K.lookup f = some ⟨oc, od, .func (PySem.W.fnOf x qual (defArgs st) (defBody st) (defScope st) .none kV doc pm an cdv ct), osl⟩)
    (c : PySem.W.codeIn K cdv qual = true) (k : PySem.W.keepIn K (.ref f) = true) : Fun K x qual st f (PySem.W.fnOf x qual (defArgs st) (defBody st) (defScope st) .none kV doc pm an cdv ct) := ⟨⟨oc, od, kV, doc, pm, an, cdv, ct, osl, rfl, l, c⟩, k⟩
end
theorem hu_of {A : Around} {k : Nat} (hr : Room k A) : A.units + 1 < cLine := Nat.lt_of_le_of_lt (Nat.add_le_add_left (by decide : 1 ≤ 64) _) hr.units
theorem small1000 {n : Nat} (h : n ≤ 1000) : n < sizeLine := Nat.lt_of_le_of_lt h (by decide)

/-! ### expressions in short: the name that stands in the i-th slot -/
section
variable {X : Cx}
theorem pv (i : Nat) {x : Str} {pos : Pos} (hN : X.N[i]? = some x := by rfl) (hv : Vis X.env.scope x := by first | exact Or.inl rfl | exact Or.inr (Or.inl rfl) | exact Or.inr (Or.inr rfl)) (hd : (x == ("__debug__" : Str)) = false := by decide)
    (hcd : (x == ("__classdict__" : Str)) = false := by decide) : PE X (.Name x pos) (tVar i) := pe_var hN hv hd hcd
end

/-! ### tests -/
theorem iteF {A B : Prop} (h : B) : if false = true then A else B := by
  rw [if_neg Bool.false_ne_true]
  exact h
theorem iteT {A B : Prop} (h : A) : if true = true then A else B := by
  rw [if_pos rfl]
  exact h
theorem ite2 {c A B : Prop} [Decidable c] (h1 : c → A) (h2 : ¬ c → B) : if c then A else B := by
  by_cases h : c
  · rw [if_pos h]
    exact h1 h
  · rw [if_neg h]
    exact h2 h
theorem iteNS {c A B : Prop} [Decidable c] (hc : c) (h : B) : if (!decide c) = true then A else B := by
  rw [decide_eq_true hc]
  exact iteF h

/-! ### heaps -/
/-- all that was tracked is as it was -/
def Same (H H' : Hp) : Prop := ∀ b o, H b = some o → H' b = some o
theorem Same.refl (H : Hp) : Same H H := fun _ _ h => h
theorem Same.trans {H H1 H2 : Hp} (a : Same H H1) (b : Same H1 H2) : Same H H2 := fun c o h => b c o (a c o h)
theorem Same.free {H H' : Hp} (e : Same H H') {l : Addr} (h : H' l = Option.none) : H l = Option.none := by
  cases q : H l with
  | none => rfl
  | some o =>
    rw [e l o q] at h
    cases h
theorem Same.seq {K : PySem.W.Frag} {H H' : Hp} {a : Addr} {xs : List V} (e : Same H H') (h : SqL K H a xs) : SqL K H' a xs := by
  rcases h with (h | ⟨o, h⟩) | h
  · exact .inl (.inl (e _ _ h))
  · exact .inl (.inr ⟨o, e _ _ h⟩)
  · exact .inr h

end L2
end
section
namespace SetP
open PySem

/-! ### the places of a set's table rise -/
def Rise (xs : Array Nat) : Prop := xs.toList.Pairwise (· < ·)
theorem rise_nil : Rise #[] := List.Pairwise.nil
theorem rise_range (n : Nat) : Rise (Array.range n) := by
  unfold Rise
  rw [Array.toList_range]
  exact List.pairwise_lt_range
theorem Rise.lt {xs : Array Nat} (h : Rise xs) {i k : Nat} (hik : i < k) (hk : k < xs.size) : xs.getD i 0 < xs.getD k 0 := by
  have q := List.pairwise_iff_getElem.mp h i k (by rw [Array.length_toList]; omega) (by rw [Array.length_toList]; exact hk) hik
  rw [Array.getD_eq_getD_getElem?, Array.getD_eq_getD_getElem?, Array.getElem?_eq_getElem (by omega), Array.getElem?_eq_getElem hk]
  simpa using q
theorem Rise.le {xs : Array Nat} (h : Rise xs) {i k : Nat} (hik : i ≤ k) (hk : k < xs.size) : xs.getD i 0 ≤ xs.getD k 0 := by
  rcases Nat.lt_or_eq_of_le hik with z | z
  · exact Nat.le_of_lt (h.lt z hk)
  · rw [z]; exact Nat.le_refl _

theorem go_spec {xs : Array Nat} {j : Nat} (h : Rise xs) : ∀ (fuel lo hi : Nat), lo ≤ hi → hi ≤ xs.size → hi - lo ≤ fuel → (∀ i, i < lo → xs.getD i 0 < j) → (∀ i, hi ≤ i → i < xs.size → j ≤ xs.getD i 0) →
    SetTable.below.go xs j fuel lo hi ≤ xs.size ∧ (∀ i, i < SetTable.below.go xs j fuel lo hi → xs.getD i 0 < j) ∧ ∀ i, SetTable.below.go xs j fuel lo hi ≤ i → i < xs.size → j ≤ xs.getD i 0
  | 0, lo, hi, h1, h2, h3, h4, h5 => by
    have e : lo = hi := by omega
    subst e
    unfold SetTable.below.go
    exact ⟨h2, h4, h5⟩
  | fuel + 1, lo, hi, h1, h2, h3, h4, h5 => by
    unfold SetTable.below.go
    by_cases hlt : lo < hi
    · rw [if_pos hlt]
      have hm : (lo + hi) / 2 < hi := by omega
      have hl : lo ≤ (lo + hi) / 2 := by omega
      have e : xs.getD ((lo + hi) / 2) j = xs.getD ((lo + hi) / 2) 0 := by
        rw [Array.getD_eq_getD_getElem?, Array.getD_eq_getD_getElem?, Array.getElem?_eq_getElem (by omega)]
        rfl
      dsimp only
      rw [e]
      by_cases hc : xs.getD ((lo + hi) / 2) 0 < j
      · rw [if_pos hc]
        exact go_spec h fuel _ hi (by omega) h2 (by omega) (fun i hi' => Nat.lt_of_le_of_lt (h.le (by omega) (by omega)) hc) h5
      · rw [if_neg hc]
        exact go_spec h fuel lo _ (by omega) (by omega) (by omega) h4 (fun i hi' hs => Nat.le_trans (Nat.le_of_not_lt hc) (h.le hi' hs))
    · rw [if_neg hlt]
      have e : lo = hi := by omega
      subst e
      exact ⟨h2, h4, h5⟩
theorem below_spec {xs : Array Nat} {j : Nat} (h : Rise xs) : SetTable.below xs j ≤ xs.size ∧ (∀ i, i < SetTable.below xs j → xs.getD i 0 < j) ∧ ∀ i, SetTable.below xs j ≤ i → i < xs.size → j ≤ xs.getD i 0 := by
  unfold SetTable.below
  exact go_spec h xs.size 0 xs.size (Nat.zero_le _) (Nat.le_refl _) (by omega) (fun i hi => absurd hi (Nat.not_lt_zero _)) fun i h1 h2 => absurd h2 (by omega)
/-- behind the i-th place stands the next one -/
theorem below_next {xs : Array Nat} (h : Rise xs) {i : Nat} (hi : i < xs.size) : SetTable.below xs (xs.getD i 0 + 1) = i + 1 := by
  obtain ⟨a, b, c⟩ := below_spec (j := xs.getD i 0 + 1) h
  generalize SetTable.below xs (xs.getD i 0 + 1) = r at a b c
  rcases Nat.lt_trichotomy r (i + 1) with z | z | z
  · have := c i (by omega) hi; omega
  · exact z
  · have h1 := b (i + 1) z
    have h2 : xs.getD i 0 < xs.getD (i + 1) 0 := h.lt (Nat.lt_succ_self i) (by omega)
    omega
theorem below_zero {xs : Array Nat} (h : Rise xs) : SetTable.below xs 0 = 0 := by
  obtain ⟨a, b, c⟩ := below_spec (j := 0) h
  generalize SetTable.below xs 0 = r at a b c
  cases r with
  | zero => rfl
  | succ r => exact absurd (b 0 (by omega)) (Nat.not_lt_zero _)
theorem rise_insert {xs : Array Nat} {j : Nat} (h : Rise xs) (hn : xs[SetTable.below xs j]? ≠ some j) : Rise (SetTable.insertAt xs (SetTable.below xs j) j) := by
  obtain ⟨a, b, c⟩ := below_spec (j := j) h
  unfold Rise
  rw [SetTable.toList_insertAt]
  generalize SetTable.below xs j = p at a b c hn
  have getT : ∀ i, i < xs.size → xs.toList[i]? = some (xs.getD i 0) := fun i hi => by
    rw [Array.getElem?_toList, Array.getD_eq_getD_getElem?, Array.getElem?_eq_getElem hi]; rfl
  refine List.pairwise_append.mpr ⟨h.sublist (List.take_sublist _ _), List.pairwise_cons.mpr ⟨fun y hy => ?_, h.sublist (List.drop_sublist _ _)⟩, fun x hx y hy => ?_⟩
  · obtain ⟨i, hi⟩ := List.mem_iff_getElem?.mp hy
    rw [List.getElem?_drop] at hi
    have hlt : p + i < xs.size := by
      have := (List.getElem?_eq_some_iff.mp hi).1
      rwa [Array.length_toList] at this
    rw [getT _ hlt] at hi
    have e := Option.some.inj hi
    have h1 := c (p + i) (Nat.le_add_right _ _) hlt
    rw [← e]
    rcases Nat.lt_or_eq_of_le h1 with z | z
    · exact z
    · exfalso
      have hp : p < xs.size := by omega
      have h2 := c p (Nat.le_refl _) hp
      have h3 := h.le (Nat.le_add_right p i) hlt
      have h4 : xs.getD p 0 = j := by omega
      apply hn
      have := getT p hp
      rw [Array.getElem?_toList] at this
      rw [this, h4]
  · have hxj : x < j := by
      obtain ⟨i, hi⟩ := List.mem_iff_getElem?.mp hx
      have hip : i < p := by
        have := (List.getElem?_eq_some_iff.mp hi).1
        rw [List.length_take] at this; omega
      rw [List.getElem?_take_of_lt hip] at hi
      have hlt : i < xs.size := by
        have := (List.getElem?_eq_some_iff.mp hi).1
        rwa [Array.length_toList] at this
      rw [getT _ hlt] at hi
      rw [← Option.some.inj hi]
      exact b i hip
    rcases List.mem_cons.mp hy with z | z
    · rw [z]; exact hxj
    · obtain ⟨i, hi⟩ := List.mem_iff_getElem?.mp z
      rw [List.getElem?_drop] at hi
      have hlt : p + i < xs.size := by
        have := (List.getElem?_eq_some_iff.mp hi).1
        rwa [Array.length_toList] at this
      rw [getT _ hlt] at hi
      rw [← Option.some.inj hi]
      exact Nat.lt_of_lt_of_le hxj (c (p + i) (Nat.le_add_right _ _) hlt)

/-! ### a free place is no live one -/
def Off (t : SetTable) (j : Nat) : Prop := t.place[SetTable.below t.place j]? ≠ some j
theorem off_of_slot {t : SetTable} {j : Nat} (h : ∀ i, t.slot j ≠ .live i) : Off t j := fun e => by
  apply h (SetTable.below t.place j)
  unfold SetTable.slot
  dsimp only
  rw [e]
  simp
theorem probe_off {t : SetTable} {f : Nat → Int} {h : Int} {j : Nat} {d : Option Nat} : ∀ (fuel : Nat) (p : SetTable.Probe), (∀ d, p.dummy = some d → Off t d) → SetTable.probe.go t f h fuel p = some (.empty j d) → Off t j ∧ ∀ d', d = some d' → Off t d'
  | 0, _, _, e => by unfold SetTable.probe.go at e; cases e
  | fuel + 1, p, hp, e => by
    unfold SetTable.probe.go at e
    cases hs : t.slot p.j with
    | empty =>
      rw [hs] at e
      have e' := Option.some.inj e
      cases e'
      exact ⟨off_of_slot (fun i z => by rw [hs] at z; exact SetTable.Slot.noConfusion z), hp⟩
    | dummy =>
      rw [hs] at e
      refine probe_off fuel _ (fun d' hd => ?_) e
      have hd' : (t.advance { p with dummy := some p.j }).dummy = some p.j := by
        unfold SetTable.advance; dsimp only; split <;> rfl
      rw [hd'] at hd
      cases hd
      exact off_of_slot fun i z => by rw [hs] at z; cases z
    | live i =>
      rw [hs] at e
      dsimp only at e
      split at e
      · cases e
      · refine probe_off fuel _ (fun d' hd => hp d' ?_) e
        rw [← hd]
        unfold SetTable.advance
        split <;> rfl
theorem freeSlot_off {t : SetTable} {h : Int} {j : Nat} {b : Bool} (e : t.freeSlot h = some (j, b)) : Off t j := by
  unfold SetTable.freeSlot at e
  split at e
  · rename_i j' d q
    unfold SetTable.probe at q
    obtain ⟨o1, o2⟩ := probe_off _ _ (fun d hd => by unfold SetTable.probeStart at hd; cases hd) q
    have e' := Option.some.inj e
    cases d with
    | none => cases e'; exact o1
    | some d => cases e'; exact o2 _ rfl
  · cases e

/-! ### led and rising: kept by all that adds -/
def TabOk (L : Bool) (t : SetTable) : Prop := Rise t.place ∧ t.led = L
theorem TabOk.fresh (L : Bool) (f m : Nat) : TabOk L (.fresh f m L) := ⟨rise_nil, rfl⟩
theorem TabOk.standIn {L : Bool} {t : SetTable} (h : TabOk L t) (n : Nat) : TabOk L (t.standIn n) := ⟨rise_range n, h.2⟩
theorem TabOk.orStandIn {L : Bool} {t : SetTable} (h : TabOk L t) (n : Nat) : TabOk L (t.orStandIn n) := by
  unfold SetTable.orStandIn
  split
  · exact h
  · exact h.standIn n
theorem TabOk.unplain {L : Bool} {t : SetTable} (h : TabOk L t) (b : Bool) : TabOk L { t with plain := b } := h
theorem layNew_tab {L : Bool} {t : SetTable} (h : TabOk L t) (es : Array (Int × Value)) (k : Int) (x : Value) : TabOk L (layNew t es k x).2.1 := by
  unfold layNew
  split
  · rename_i slot wasDummy q
    exact TabOk.orStandIn (t := (t.put slot).1) ⟨rise_insert h.1 (freeSlot_off q), h.2⟩ _
  · exact h.standIn _
theorem live_sub {α : Type} (g : Nat → Option α) : ∀ l : List Nat, List.Sublist ((l.filterMap fun j => (g j).map (j, ·)).map (·.1)) l
  | [] => List.Sublist.slnil
  | j :: r => by
    rw [List.filterMap_cons]
    cases hg : g j with
    | none => exact (live_sub g r).cons j
    | some a => exact (live_sub g r).cons_cons j
theorem relayAll_tab {L : Bool} {t : SetTable} (h : TabOk L t) (es : Array (Int × Value)) (n : Nat) : TabOk L (relayAll t es n).2.1 := by
  unfold relayAll
  split
  · rename_i t' order q
    dsimp only
    split
    · unfold SetTable.relaid SetTable.laid at q
      cases ho : SetTable.layClean (SetTable.sizeAbove n - 1) (es.map (·.1)) with
      | none => rw [ho] at q; cases q
      | some owner =>
        rw [ho] at q
        have q' := Option.some.inj q
        cases q'
        refine ⟨?_, h.2⟩
        show List.Pairwise (· < ·) (List.toArray _).toList
        exact List.pairwise_lt_range.sublist (live_sub (fun j => owner.getD j none) _)
    · exact h.standIn _
  · exact h.standIn _
end SetP
end
section
set_option maxRecDepth 100000
namespace SetP
open PySem PyProof.Rows

abbrev ledOf (w : World) : Bool := !(w.params.followText "set-order")
/-- a set of just the ints ds, its table whole -/
structure SetT (prog : Program) (w : World) (h : Heap) (a : Addr) (ds : List Int) : Prop where
  nd : ds.Nodup
  ex : ∃ o es ep t, h.get? a = some o ∧ o.ExactSet ∧ o.data = .set es ep t ∧ ElemsOf (intKind prog w) es.toList ∧ (∀ k, decide (k ∈ ds) = true ↔ ∃ e ∈ es.toList, (intKind prog w).is k e.2 = true) ∧
    es.size < scanBound ∧ t.fits es.size = true ∧ es.size = ds.length ∧ TabOk (ledOf w) t
def addTo (ds : List Int) (k : Int) : List Int := if k ∈ ds then ds else ds ++ [k]
theorem addTo_nd {ds : List Int} (h : ds.Nodup) (k : Int) : (addTo ds k).Nodup := by
  unfold addTo
  split
  · exact h
  · rename_i hk
    exact List.nodup_append.mpr ⟨h, by simp, fun a ha b hb => by rw [List.mem_singleton] at hb; subst hb; rintro rfl; exact hk ha⟩
theorem mem_addTo {ds : List Int} {k j : Int} : j ∈ addTo ds k ↔ j ∈ ds ∨ j = k := by
  unfold addTo
  split
  · rename_i hk
    exact ⟨.inl, fun z => z.elim id fun e => e ▸ hk⟩
  · rw [List.mem_append, List.mem_singleton]
theorem addTo_len (ds : List Int) (k : Int) : (addTo ds k).length ≤ ds.length + 1 := by
  unfold addTo
  split
  · omega
  · rw [List.length_append, List.length_singleton]; omega

section
variable {prog : Program} {w : World} {A : Around} {E : Value → Shared → Prop} {s : Shared}

theorem SetT.sameBut {h h' : Heap} {a : Addr} {ds : List Int} (x : SetT prog w h a ds) (hs : ∀ o, h.get? a = some o → h'.get? a = some o) : SetT prog w h' a ds := by
  obtain ⟨nd, o, es, ep, t, e, r⟩ := x
  exact ⟨nd, o, es, ep, t, hs o e, r⟩
/-- what a store of a whole table leaves -/
theorem SetT.stored {h : Heap} {a : Addr} {o : Obj} {es es' : Array (Int × Value)} {ep : Nat} {t t' : SetTable} {ds : List Int} (ho : h.get? a = some o) (hex : o.ExactSet) (hd : o.data = .set es ep t) (nd : ds.Nodup)
    (hel : ElemsOf (intKind prog w) es'.toList) (hm : ∀ k, decide (k ∈ ds) = true ↔ ∃ e ∈ es'.toList, (intKind prog w).is k e.2 = true) (hb : es'.size < scanBound) (hf : t'.fits es'.size = true) (hn : es'.size = ds.length) (ht : TabOk (ledOf w) t') :
    (h.update a (Obj.putSet es' t')).get? a = some { o with data := .set es' (ep + 1) t' } ∧ SetT prog w (h.update a (Obj.putSet es' t')) a ds := by
  obtain ⟨g, _⟩ := SetOf_store (knd := intKind prog w) ho hex hd hel hm hb hf
  exact ⟨g, nd, _, es', ep + 1, t', g, hex, rfl, hel, hm, hb, hf, hn, ht⟩

theorem addTail_T {g : Bool → Sem Unit} (hg : ∀ (b : Bool) (s₁ : Shared) (Q' : Unit → Shared → Prop), Q' () s₁ → wpAny (model prog w) A (g b) Q' E s₁)
    {a : Addr} {o : Obj} {es es1 : Array (Int × Value)} {ep : Nat} {t t2 : SetTable} {ds : List Int} (ho : s.heap.get? a = some o) (hex : o.ExactSet) (hd : o.data = .set es ep t) (nd : ds.Nodup)
    (hel : ElemsOf (intKind prog w) es1.toList) (hm : ∀ k, decide (k ∈ ds) = true ↔ ∃ e ∈ es1.toList, (intKind prog w).is k e.2 = true) (hb : es1.size < scanBound) (hf : t2.fits es1.size = true) (hn : es1.size = ds.length) (ht : TabOk (ledOf w) t2)
    {dummy : Bool} {R : Option Bool → Shared → Prop} (h : ∀ h', Heap.SameBut a s.heap h' → SetT prog w h' a ds → R (some true) { s with heap := h' }) :
    wpAny (model prog w) A (do
        storeSet a es1 t2
        if (!dummy && t2.tooFull) = true then do
            g (relayAll t2 es1 (SetTable.grown es1.size)).2.2
            storeSet a (relayAll t2 es1 (SetTable.grown es1.size)).1 (relayAll t2 es1 (SetTable.grown es1.size)).2.1
            pure (some true)
          else pure (some true)) R E s := by
  obtain ⟨g1, T1⟩ := SetT.stored (prog := prog) (w := w) ho hex hd nd hel hm hb hf hn ht
  have sb1 := Heap.SameBut.update s.heap a (Obj.putSet es1 t2)
  refine wpAny_bind (wpAny_storeSet_of ho hd ?_ (fits_of_scanBound hb))
  split
  · have p := relayAll_perm t2 es1 (SetTable.grown es1.size)
    have f := relayAll_fits t2 es1 (SetTable.grown es1.size)
    have tb := relayAll_tab ht es1 (SetTable.grown es1.size)
    generalize relayAll t2 es1 (SetTable.grown es1.size) = RR at p f tb
    obtain ⟨es2, t3, gave⟩ := RR
    have sz : es2.size = es1.size := by simpa using p.length_eq
    have T2 := SetT.stored (prog := prog) (w := w) (es' := es2) (t' := t3) g1 hex rfl nd (hel.perm p) (fun k => (hm k).trans ⟨fun ⟨e, he, q⟩ => ⟨e, p.mem_iff.mpr he, q⟩, fun ⟨e, he, q⟩ => ⟨e, p.mem_iff.mp he, q⟩⟩)
      (by rw [sz]; exact hb) f (by rw [sz]; exact hn) tb
    refine wpAny_bind (hg _ _ _ (wpAny_bind (wpAny_storeSet_of g1 rfl ?_ (fits_of_scanBound (by show es2.size < _; rw [sz]; exact hb)))))
    exact wpAny_pure (h _ (sb1.trans (Heap.SameBut.update _ a _)) T2.2)
  · exact wpAny_pure (h _ sb1 T1)

theorem addHashed_T {a : Addr} {ds : List Int} {k : Int} {t0 : Tok} {Q : Bool → Shared → Prop} (hS : SetT prog w s.heap a ds) (room : ds.length + 1 < scanBound)
    (h : ∀ b h', Heap.SameBut a s.heap h' → SetT prog w h' a (addTo ds k) → Q b { s with heap := h' }) : wpAny (model prog w) A (setAddHashed a (.int k t0) ((intKind prog w).hash k)) Q E s := by
  obtain ⟨nd, o, es, ep, t, ho, hex, hd, hel, hm, hb, hf, hn, ht⟩ := hS
  have hkey : (intKind prog w).is k (.int k t0) = true := intKind_is prog w k t0
  have hsc : (Value.int k t0).scannable = true := rfl
  unfold setAddHashed setAddHashedIn
  refine wpAny_holding (wpAny_bind (wpAny_setState_of ho hd hf ?_))
  dsimp only
  rw [byScan_of hsc hb hel, if_pos rfl]
  unfold setAddByScan
  refine wpAny_bind (wpAny_bind (wpAny_rule (wpAny_bind (wpAny_setScan_of hkey ho hd hf hel ?_))))
  cases hr : List.findIdx? (fun e => (intKind prog w).is k e.2) es.toList with
  | some j =>
    obtain ⟨hj, hpj, _⟩ := List.findIdx?_eq_some_iff_getElem.mp hr
    have hk : k ∈ ds := of_decide_eq_true ((hm k).mpr ⟨es.toList[j], List.getElem_mem hj, hpj⟩)
    refine wpAny_pure (wpAny_pure ?_)
    have q := h false s.heap (Heap.SameBut.refl a s.heap) (by
      have e : addTo ds k = ds := by unfold addTo; rw [if_pos hk]
      rw [e]; exact ⟨nd, o, es, ep, t, ho, hex, hd, hel, hm, hb, hf, hn, ht⟩)
    cases s; exact q
  | none =>
    have hk : k ∉ ds := fun z => by
      obtain ⟨e, he, hp⟩ := (hm k).mp (decide_eq_true z)
      have q := List.findIdx?_eq_none_iff.mp hr e he
      rw [hp] at q; cases q
    have eA : addTo ds k = ds ++ [k] := by unfold addTo; rw [if_neg hk]
    have p := layNew_perm t es ((intKind prog w).hash k) (.int k t0)
    have f := layNew_fits t es ((intKind prog w).hash k) (.int k t0)
    have tb := layNew_tab ht es ((intKind prog w).hash k) (.int k t0)
    generalize layNew t es ((intKind prog w).hash k) (.int k t0) = LL at p f tb
    obtain ⟨es1, t1, dummy, gave⟩ := LL
    dsimp only at p f tb ⊢
    rw [Array.toList_push] at p
    have hel1 : ElemsOf (intKind prog w) es1.toList := (hel.push hkey hsc).perm p
    have sz : es1.size = (addTo ds k).length := by
      have q := p.length_eq
      rw [Array.length_toList, List.length_append, List.length_singleton, Array.length_toList] at q
      rw [q, eA, List.length_append, List.length_singleton, hn]
    have hm1 : ∀ j, decide (j ∈ addTo ds k) = true ↔ ∃ e ∈ es1.toList, (intKind prog w).is j e.2 = true := fun j => by
      rw [← mem_push_iff (S := fun k' => decide (k' ∈ ds)) hkey hm p j]
      simp only [decide_eq_true_eq, Bool.or_eq_true, mem_addTo]
    have hb1 : es1.size < scanBound := by rw [sz, eA, List.length_append, List.length_singleton]; exact room
    refine wpAny_bind ?_
    have gw : ∀ (b : Bool) (s₁ : Shared) (Q' : Unit → Shared → Prop), Q' () s₁ → wpAny (model prog w) A (match b with | true => rule "set.scan.the-table-gave-way" | false => pure ()) Q' E s₁ := fun b s₁ Q' q => by
      cases b
      · exact wpAny_pure q
      · exact wpAny_rule q
    refine gw _ _ _ ?_
    split
    · refine wpAny_bind ?_
      rw [hashByValue_scannable 8 hsc]
      refine wpAny_pure (addTail_T gw ho hex hd (addTo_nd nd k) hel1 hm1 hb1 ?_ sz ?_ fun h' sb T => wpAny_pure (h true h' sb T))
      · split
        · exact f
        · exact SetTable.fits_plain_off f
      · split
        · exact tb
        · exact tb.unplain false
    · refine wpAny_bind (wpAny_pure ?_)
      rw [if_pos rfl]
      exact addTail_T gw ho hex hd (addTo_nd nd k) hel1 hm1 hb1 f sz tb fun h' sb T => wpAny_pure (h true h' sb T)
end
end SetP
end
section
set_option maxRecDepth 100000
namespace SetP
open PySem PyProof.Rows

theorem entry_upd : entryFor table "set.update.loop" = some Builtin.«set.update.loop» := entryFor_of_tree (by kernel_rfl)
theorem plain_upd : plainId "set.update.loop" = true := by decide +kernel
/-- the ints as they come, each once -/
def once (ns : List Int) : List Int := ns.foldl addTo []
theorem once_snoc (ns : List Int) (k : Int) : once (ns ++ [k]) = addTo (once ns) k := by unfold once; rw [List.foldl_append]; rfl
theorem once_all : ∀ (ns : List Int), (once ns).Nodup ∧ (once ns).length ≤ ns.length ∧ ∀ j, j ∈ once ns ↔ j ∈ ns := by
  intro ns
  have all : ∀ (ns ds : List Int), ds.Nodup → (ns.foldl addTo ds).Nodup ∧ (ns.foldl addTo ds).length ≤ ds.length + ns.length ∧ ∀ j, j ∈ ns.foldl addTo ds ↔ j ∈ ds ∨ j ∈ ns := by
    intro ns
    induction ns with
    | nil => intro ds h; exact ⟨h, by simp, fun j => by simp⟩
    | cons n r ih =>
      intro ds h
      obtain ⟨a, b, c⟩ := ih (addTo ds n) (addTo_nd h n)
      refine ⟨a, ?_, fun j => ?_⟩
      · have := addTo_len ds n
        rw [List.foldl_cons, List.length_cons]; omega
      · rw [List.foldl_cons, c j, mem_addTo, List.mem_cons]
        constructor
        · rintro ((z | z) | z)
          · exact .inl z
          · exact .inr (.inl z)
          · exact .inr (.inr z)
        · rintro (z | z | z)
          · exact .inl (.inl z)
          · exact .inl (.inr z)
          · exact .inr z
  obtain ⟨a, b, c⟩ := all ns [] List.nodup_nil
  exact ⟨a, by rw [List.length_nil, Nat.zero_add] at b; exact b, fun j => by rw [show once ns = ns.foldl addTo [] from rfl, c j]; simp⟩

section
variable {prog : Program} {w : World} {A : Around} {E : Value → Shared → Prop} {s : Shared}

theorem update_T {R : Result → Shared → Prop} {S I l : Addr} {items : Array Value} {ns : List Int} (hh : A.handled = none) (hi : IntsAre items.toList ns) (hb : items.size + 1 < scanBound) (hSI : S ≠ I) (hSl : S ≠ l) (hIl : I ≠ l) :
    ∀ (k i : Nat) (s : Shared), items.size - i = k → i ≤ items.size → s.heap.IsListIter I l i → s.heap.IsList l items → SetT prog w s.heap S (once (ns.take i)) →
      (∀ h' tk, (∀ b o, b ≠ S → b ≠ I → s.heap.get? b = some o → h'.get? b = some o) → SetT prog w h' S (once ns) → R (.ok (.ret .none)) { s with heap := h', toks := tk }) →
      codeAny (model prog w) A (.builtin "set.update.loop" ⟨[.ref S, .ref I], []⟩) R s := by
  have hlen : items.size = ns.length := by have := hi.length; simpa using this
  intro k
  induction k with
  | zero =>
    intro i s hk hi' it il T hR
    have e : i = items.size := by omega
    subst e
    refine codeAny_builtin entry_upd ?_
    rw [Around.under_plainId plain_upd _]
    show wpAny _ A.in1 (pyNext (.ref I) >>= _) _ _ s
    refine wpAny_bind (wpAny_pyNext_list_end hh it il (by simp) fun h' eb => ?_)
    show wpAny _ A.in1 (ret Value.none) _ _ _
    refine wpAny_pure (hR h' s.toks (fun b o _ hbI q => eb b o hbI q) ?_)
    rw [List.take_of_length_le (by omega)] at T
    exact T.sameBut fun o q => eb S o hSI q
  | succ k ih =>
    intro i s hk hi' it il T hR
    have hlt : i < items.size := by omega
    refine codeAny_builtin entry_upd ?_
    rw [Around.under_plainId plain_upd _]
    show wpAny _ A.in1 (pyNext (.ref I) >>= _) _ _ s
    refine wpAny_bind (wpAny_pyNext_list_item it il (x := items[i]) (by simp [hlt]) fun h1 it1 sb1 => ?_)
    have hn : i < ns.length := by omega
    obtain ⟨t0, hv⟩ : ∃ t0, items[i] = .int ns[i] t0 := by
      have all : ∀ {vs : List Value} {ms : List Int}, IntsAre vs ms → ∀ (j : Nat) (h1 : j < vs.length) (h2 : j < ms.length), ∃ t0, vs[j] = .int ms[j] t0 := by
        intro vs ms r
        induction r with
        | nil => intro j h1; simp at h1
        | cons n t _ ih => intro j h1 h2; cases j with
          | zero => exact ⟨t, rfl⟩
          | succ j => exact ih j (by simpa using h1) (by simpa using h2)
      have q := all hi i (by simpa using hlt) hn
      simpa using q
    rw [hv]
    show wpAny _ A.in1 (holding [Value.int ns[i] t0] (setAdd S (.int ns[i] t0)) >>= _) _ _ _
    have T1 : SetT prog w h1 S (once (ns.take i)) := T.sameBut fun o q => (sb1.2 S hSI).trans q
    have il1 : h1.IsList l items := by
      obtain ⟨o, ho, r⟩ := il
      exact ⟨o, (sb1.2 l hIl.symm).trans ho, r⟩
    refine wpAny_bind (wpAny_holding ?_)
    unfold setAdd
    refine wpAny_holding (wpAny_bind ((intKind prog w).pyHash (k := ns[i]) (intKind_is _ _ _ _) ?_))
    have room : (once (ns.take i)).length + 1 < scanBound := by
      have q := (once_all (ns.take i)).2.1
      rw [List.length_take] at q
      omega
    refine addHashed_T (s := { s with heap := h1, toks := s.toks + 1 }) T1 room fun b h2 sb2 T2 => ?_
    have T2' : SetT prog w h2 S (once (ns.take (i + 1))) := by
      rw [List.take_succ_eq_append_getElem hn, once_snoc]; exact T2
    refine wpAny_pure ⟨plainId_quiet plain_upd _, ih (i + 1) _ (by omega) hlt ?_ ?_ T2' fun h' tk hk' T' => ?_⟩
    · obtain ⟨o, ho, r⟩ := it1
      exact ⟨o, (sb2.2 I hSI.symm).trans ho, r⟩
    · obtain ⟨o, ho, r⟩ := il1
      exact ⟨o, (sb2.2 l hSl.symm).trans ho, r⟩
    · exact hR h' tk (fun c o hcS hcI q => hk' c o hcS hcI ((sb2.2 c hcS).trans ((sb1.2 c hcI).trans q))) T'

theorem new_T (a : Value) {Q₁ : Value → Shared → Prop}
    (h : Q₁ (.ref s.heap.objs.size) { s with heap := s.heap.push { cls := .type "set", dict := none, data := .set #[] 0 (.fresh 0 0 (ledOf w)) } }) :
    codeAny (model prog w) A (.call (.builtin "set.__new__") ⟨[.type "set", a], []⟩) (wants Q₁ E) s := by
  refine codeAny_of_tree ?_
  have hck : checkBuiltinCall "set.__new__" ⟨[.type "set", a], []⟩ = pure () := by kernel_rfl
  show wpAny _ A.in1 (checkBuiltinCall "set.__new__" ⟨[.type "set", a], []⟩ >>= fun _ => again (.builtin "set.__new__" ⟨[.type "set", a], []⟩)) _ _ s
  rw [hck]
  refine wpAny_bind (wpAny_pure (wpAny_pure ⟨plainId_quiet F.plain_set_new _, codeAny_builtin F.entry_set_new ?_⟩))
  rw [Around.under_plainId F.plain_set_new _]
  have hsub := sub_set_self
  unfold Builtin.«set.__new__» Builtin.Frozenset.newClass
  obtain ⟨hp, g, d, tk, os⟩ := s
  dsimp only
  wp_walk
  refine wpAny_askSetting (wpAny_pure ?_)
  simp only [newObj]
  exact wpAny_bind (wpAny_alloc (wpAny_pure (wpAny_pure h)))

theorem initOk_T {M : Model} {self a : Value} {Q : Unit → Shared → Prop} (hT : s.TypeIs self "set") (hQ : Q () s) : wpAny M A (checkBuiltinCall "set.__init__" ⟨[self, a], []⟩) Q E s := by
  simp only [checkBuiltinCall, kind_set_init, split_set_init, sig_set_init]
  refine wpAny_bind (wpAny_isInstance hT sub_set_self ?_)
  simp only [Bool.not_true, Bool.false_eq_true, if_false]
  unfold Bind.checkArgs
  dsimp only
  refine wpAny_bind (m := Bind.printed "set" true _ _) (printed_name (by decide) ?_)
  refine wpAny_bind (m := Bind.printed "*" false _ _) (printed_star (self := self) rfl hT fun short => ?_)
  have one : (if (Manifest.Receiver.self == Manifest.Receiver.none) = true then [self, a].length else [self, a].length - 1) = 1 := by
    have z : (Manifest.Receiver.self == Manifest.Receiver.none) = false := by decide
    simp [z]
  rw [one]
  simp only [List.map_nil]
  have z1 : (Manifest.ParamKind.posOnly == Manifest.ParamKind.posOnly) = true := by decide
  have z2 : (Manifest.ParamKind.posOnly == Manifest.ParamKind.posOrKw) = false := by decide
  have z3 : (Manifest.ParamKind.posOnly == Manifest.ParamKind.varPos) = false := by decide
  have fine : Bind.check ⟨.positional, "set", "*", .self, [⟨"iterable", .posOnly, false⟩]⟩ "set" short 1 [] = pure () := by
    simp [Bind.check, Bind.checkCount, Bind.isPositional, z1, z2, z3]
  rw [fine]
  exact wpAny_pure hQ

set_option maxHeartbeats 3200000 in
/-- set(l) of a list of ints -/
theorem setOf_T {l : Addr} {items : Array Value} {ns : List Int} {Q : Value → Shared → Prop} (hh : A.handled = none) (hl : s.heap.IsList l items) (hi : IntsAre items.toList ns) (hb : items.size + 1 < scanBound)
    (h : ∀ h' tk, (∀ b o, s.heap.get? b = some o → h'.get? b = some o) → SetT prog w h' s.heap.objs.size (once ns) → Q (.ref s.heap.objs.size) { s with heap := h', toks := tk }) :
    wpAny (model prog w) A (call (.type "set") [.ref l]) Q E s := by
  have hmade := F.called_set.made
  have hsub := F.called_set.sub
  have h1 := F.called_set.notType
  have h2 := F.called_set.canCreate
  have hct : checkTypeCall "set" ⟨[.ref l], []⟩ = pure () := by kernel_rfl
  obtain ⟨c, tl, hmro⟩ := F.called_set.mro
  refine wpAny_call (codeAny_of_tree ?_)
  show wpAny _ _ (callAny (.type "set") ⟨[.ref l], []⟩) _ _ s
  refine wpAny_pure ⟨Code.quiet_builtin _ (by decide +kernel), codeAny_builtin F.entry_type_call ?_⟩
  rw [Around.under_plain (weight_type_call_type "set" [.ref l] []) rfl]
  repeat (any_goals (first | assumption | wp_step))
  refine codeAny_mono (new_T (.ref l) (E := E) (Q₁ := fun obj s₁ => obj = .ref s.heap.objs.size ∧ s₁ = { s with heap := s.heap.push { cls := .type "set", dict := none, data := .set #[] 0 (.fresh 0 0 (ledOf w)) } }) ⟨rfl, rfl⟩) fun r s₁ hr => ?_
  cases r with
  | error e => exact hr
  | ok fl =>
    cases fl with
    | ret obj =>
      obtain ⟨rfl, rfl⟩ := hr
      generalize hg1 : s.heap.push { cls := .type "set", dict := none, data := .set #[] 0 (.fresh 0 0 (ledOf w)) } = g1
      have e1 : g1.get? s.heap.objs.size = some { cls := .type "set", dict := none, data := .set #[] 0 (.fresh 0 0 (ledOf w)) } := hg1 ▸ Heap.get?_push_size _ rfl
      have k1 : ∀ b o, s.heap.get? b = some o → g1.get? b = some o := fun b o q => hg1 ▸ Heap.get?_push_of_some _ q
      have z1 : g1.objs.size = s.heap.objs.size + 1 := by rw [← hg1, Heap.size_push]
      have hT : Shared.TypeIs { s with heap := g1 } (.ref s.heap.objs.size) "set" := ⟨_, e1, rfl⟩
      have hli := F.called_set.init.lookup
      have hbi := F.called_set.init.bind (.ref s.heap.objs.size)
      repeat (any_goals (first | assumption | wp_step))
      refine codeAny_mono (codeAny_call_builtin (R := wants (fun r s₂ => r = .none ∧ ∃ h' tk, s₂ = { s with heap := h', toks := tk } ∧ (∀ b o, s.heap.get? b = some o → h'.get? b = some o) ∧ SetT prog w h' s.heap.objs.size (once ns)) E)
        F.called_set.init.plain F.entry_set_init (initOk_T hT ?_)) fun r₂ s₂ hr₂ => ?_
      · obtain ⟨ol, hol, hcl, nl, hdl⟩ := hl
        obtain ⟨ocls, odict, odata, oslots⟩ := ol
        simp only at hcl hdl
        subst hcl hdl
        have q1 : g1.get? l = some { cls := .type "list", dict := odict, data := .seq items nl, slots := oslots } := k1 _ _ hol
        have il : g1.IsList l items := ⟨_, q1, rfl, nl, rfl⟩
        have hlS : l < s.heap.objs.size := Heap.lt_size hol
        have hs1 : isSubtype (.type "list") (.type "set") = pure false := by rw [isSubtype_type]; kernel_rfl
        have hs2 : isSubtype (.type "list") (.type "frozenset") = pure false := by rw [isSubtype_type]; kernel_rfl
        have hs3 : (Value.type "list" == Value.type "dict") = false := by decide
        unfold Builtin.«set.__init__» noKeywords Builtin.Frozenset.updateFrom
        generalize hPI : pyIter = PI
        wp_walk
        subst hPI
        refine wpAny_pyIter_list il (wpAny_bind (wpAny_runValue ?_))
        have n1 : s.heap.objs.size ≠ g1.objs.size := by rw [z1]; exact Nat.ne_of_lt (Nat.lt_succ_self _)
        have n2 : s.heap.objs.size ≠ l := Nat.ne_of_gt hlS
        have n3 : g1.objs.size ≠ l := by rw [z1]; exact Nat.ne_of_gt (Nat.lt_succ_of_lt hlS)
        refine update_T (l := l) (items := items) (by simpa using hh) hi hb n1 n2 n3 (items.size - 0) 0 _ (by omega) (Nat.zero_le _) ⟨_, Heap.get?_push_size _ rfl, rfl, rfl⟩ ?_ ?_ ?_
        · obtain ⟨o, ho, r⟩ := il
          exact ⟨o, Heap.get?_push_of_some _ ho, r⟩
        · refine ⟨List.nodup_nil, _, #[], 0, _, Heap.get?_push_of_some _ e1, ⟨rfl, rfl, rfl⟩, rfl, fun e he => by simp at he, fun k => by simp [once], by decide, by rfl, rfl, TabOk.fresh _ _ _⟩
        · intro h' tk hk T
          show wpAny _ _ _ _ _ _
          refine wpAny_pure ?_
          show wpAny _ _ (ret Value.none) _ _ _
          refine wpAny_pure ⟨rfl, h', tk, rfl, fun b o q => ?_, T⟩
          have hb' := Heap.lt_size q
          exact hk b o (Nat.ne_of_lt hb') (by rw [z1]; exact Nat.ne_of_lt (Nat.lt_succ_of_lt hb')) (Heap.get?_push_of_some _ (k1 b o q))
      · cases r₂ with
        | error e => exact hr₂
        | ok fl₂ =>
          cases fl₂ with
          | ret r =>
            obtain ⟨rfl, h', tk, rfl, hk, T⟩ := hr₂
            repeat (any_goals (first | assumption | wp_step))
            exact h h' tk hk T
          | _ => exact hr₂.elim
    | _ => exact hr.elim
end
end SetP
end
section
set_option maxRecDepth 100000
namespace SetP
open PySem PyProof.Rows

/-! ### every order is one of just the members -/
theorem erase_perm {α : Type} : ∀ (l : List α) (i : Nat) (h : i < l.length), (l[i] :: l.eraseIdx i).Perm l
  | [], i, h => absurd h (by simp)
  | x :: r, 0, _ => List.Perm.refl _
  | x :: r, i + 1, h => (List.Perm.swap x _ _).trans (List.Perm.cons x (erase_perm r i (by simpa using h)))
theorem perm_of_sub : ∀ {ds ns : List Int}, ds.Nodup → (∀ k, k ∈ ds → k ∈ ns) → ns.length ≤ ds.length → ns.Perm ds
  | [], ns, _, _, h => by
    have e : ns = [] := List.length_eq_zero_iff.mp (by simpa using h)
    rw [e]
  | d :: r, ns, nd, sub, h => by
    have hd : d ∈ ns := sub d List.mem_cons_self
    have p := List.perm_cons_erase hd
    obtain ⟨h1, h2⟩ := List.nodup_cons.mp nd
    refine p.trans (List.Perm.cons d (perm_of_sub h2 (fun k hk => ?_) ?_))
    · have hne : k ≠ d := fun e => h1 (e ▸ hk)
      exact (List.mem_erase_of_ne hne).mpr (sub k (List.mem_cons_of_mem _ hk))
    · rw [List.length_erase_of_mem hd]
      rw [List.length_cons] at h
      omega
theorem pick_go {α : Type} (next : Nat → Nat) : ∀ (fuel k : Nat) (left : List α) (out : Array α), left.length = fuel → (pickOrder.go next fuel k left out).toList.Perm (out.toList ++ left)
  | 0, _, left, out, h => by
    have e : left = [] := List.length_eq_zero_iff.mp h
    subst e
    unfold pickOrder.go
    simp
  | fuel + 1, k, left, out, h => by
    unfold pickOrder.go
    have hi : next k % left.length < left.length := Nat.mod_lt _ (by omega)
    rw [List.getElem?_eq_getElem hi]
    dsimp only
    refine (pick_go next fuel (k + 1) _ _ (by rw [List.length_eraseIdx_of_lt hi]; omega)).trans ?_
    rw [Array.toList_push, List.append_assoc]
    exact List.Perm.append_left _ (erase_perm _ _ hi)
theorem pick_perm {α : Type} (next : Nat → Nat) (xs : Array α) : (pickOrder next xs).toList.Perm xs.toList := by
  unfold pickOrder
  simpa using pick_go next xs.size 0 xs.toList #[] (by simp)

section
variable {M : Model} {A : Around} {E : Value → Shared → Prop}
theorem choose_any {src : Source} {n : Nat} {s : Shared} {Q : Nat → Shared → Prop} (hn : n ≠ 0) (h : ∀ i d', i < n → Q i { s with drawn := d' }) : wpAny M A (choose src n) Q E s :=
  fun _ _ _ => ⟨hn, h _ _ (Nat.mod_lt _ (Nat.pos_of_ne_zero hn))⟩
theorem drawOrder_any {α : Type} : ∀ (n : Nat) (xs : List α) (s : Shared) (Q : List α → Shared → Prop), xs.length ≤ n → (∀ ys d', ys.Perm xs → Q ys { s with drawn := d' }) → wpAny M A (drawOrder n xs) Q E s
  | 0, xs, s, Q, h, q => by
    have e : xs = [] := List.length_eq_zero_iff.mp (by omega)
    subst e
    unfold drawOrder
    exact wpAny_pure (q [] s.drawn (List.Perm.refl _))
  | n + 1, [], s, Q, h, q => by
    unfold drawOrder
    exact wpAny_pure (q [] s.drawn (List.Perm.refl _))
  | n + 1, x :: xs, s, Q, h, q => by
    unfold drawOrder
    refine wpAny_bind (choose_any (by simp) fun i d' hi => ?_)
    rw [List.getElem?_eq_getElem hi]
    dsimp only
    refine wpAny_bind (drawOrder_any n _ _ _ (by rw [List.length_eraseIdx_of_lt hi]; simp at h ⊢; omega) fun ys d'' p => wpAny_pure (q _ d'' ?_))
    exact (List.Perm.cons _ p).trans (erase_perm _ _ hi)
end

/-! ### the facts of the type set_iterator -/
theorem slot_setit_next : Slot "set_iterator" "__next__" "set_iterator.__next__" :=
  .of (owner := "set_iterator") (n := "__next__") (by rw [typeLookup_type, builtinLookup_eq_fast]; kernel_rfl) (by decide +kernel) (by decide +kernel) (by decide +kernel)
    (by first | exact .inl (by decide +kernel) | exact .inr (by decide +kernel)) (by rw [isSubtype_type]; kernel_rfl)
theorem entry_setit_next : entryFor table "set_iterator.__next__" = some Builtin.«set_iterator.__next__» := entryFor_of_tree (by kernel_rfl)
theorem args_setit_next (a : Value) : argsOk "set_iterator.__next__" ⟨[a], []⟩ := by unfold argsOk; kernel_rfl
theorem entry_set_iter : entryFor table "set.__iter__" = some Builtin.«frozenset.__iter__» :=
  entryFor_alias (id' := "frozenset.__iter__") (by kernel_rfl) rfl (by decide +kernel) (by kernel_rfl)

def itObj (first : Value) (i : Nat) (S : Addr) (n ep : Nat) : Obj := { cls := .type "set_iterator", data := .fields #[first, .int i 0, .ref S, .int n 0, .int ep 0] }
/-- an iterator over the set at S, that has told i of vs -/
inductive Road (w : World) (h : Heap) (es : Array (Int × Value)) (ep : Nat) (t : SetTable) (S it T : Addr) (vs : List Value) (i : Nat) : Value → Prop
  | text (k : Int) : w.params.followText "set-order" = true → (∀ (j : Nat), vs[j]? = ((pickOrder (w.params.setOrder S ep) es)[j]?).map fun (e : Int × Value) => e.2) → Road w h es ep t S it T vs i (.int k 0)
  | plain : w.params.followText "set-order" = false → (!t.plain && decide (es.size > 1)) = false → TabOk true t → (∀ (j : Nat), vs[j]? = (es[j]?).map fun (e : Int × Value) => e.2) → Road w h es ep t S it T vs i (.int ((if i = 0 then 0 else t.place.getD (i - 1) 0 + 1 : Nat) : Int) 0)
  | drawn (ps : List Nat) : T ≠ it → h.get? T = some { cls := .type "tuple", data := .seq (ps.map fun (p : Nat) => rawInt p).toArray 0 } → (∀ p ∈ ps, p < es.size) → (∀ (j : Nat), vs[j]? = (ps[j]?).bind fun p => (es[p]?).map fun (e : Int × Value) => e.2) → Road w h es ep t S it T vs i (.ref T)
structure SetIt (w : World) (h : Heap) (it S T : Addr) (vs : List Value) (i : Nat) : Prop where
  ne : it ≠ S
  ex : ∃ o es ep t first, h.get? S = some o ∧ o.data = .set es ep t ∧ t.fits es.size = true ∧ vs.length = es.size ∧ h.get? it = some (itObj first i S es.size ep) ∧ Road w h es ep t S it T vs i first

section
variable {prog : Program} {w : World} {A : Around} {E : Value → Shared → Prop} {s : Shared}

theorem SetIt.keep {h h' : Heap} {it S T : Addr} {vs : List Value} {i : Nat} (x : SetIt w h it S T vs i) (k : ∀ b ∈ [it, S, T], ∀ o, h.get? b = some o → h'.get? b = some o) : SetIt w h' it S T vs i := by
  obtain ⟨ne, o, es, ep, t, first, a, b, c, d, e, r⟩ := x
  refine ⟨ne, o, es, ep, t, first, k S (by simp) _ a, b, c, d, k it (by simp) _ e, ?_⟩
  cases r with
  | text k1 z1 z2 => exact .text k1 z1 z2
  | plain z1 z2 z3 z4 => exact .plain z1 z2 z3 z4
  | drawn ps z1 z2 z3 z4 => exact .drawn ps z1 (k T (by simp) _ z2) z3 z4

theorem iter_T {S : Addr} {ds : List Int} {Q : Value → Shared → Prop} (hS : SetT prog w s.heap S ds)
    (h : ∀ h' d' it T vs, (∀ b o, s.heap.get? b = some o → h'.get? b = some o) → s.heap.objs.size ≤ it → (T = S ∨ s.heap.objs.size ≤ T) → SetIt w h' it S T vs 0 → (∃ ns, IntsAre vs ns ∧ ns.Perm ds) → Q (.ref it) { s with heap := h', drawn := d' }) :
    wpAny (model prog w) A (pyIter (.ref S)) Q E s := by
  obtain ⟨nd, o, es, ep, t, ho, hex, hd, hel, hm, hb, hf, hn, ht⟩ := hS
  have hT : s.TypeIs (.ref S) "set" := ⟨o, ho, hex.1⟩
  have hlt := Heap.lt_size ho
  -- the members as ints
  have intsV : ∀ (l : List (Int × Value)), ElemsOf (intKind prog w) l → ∃ ns, IntsAre (l.map (·.2)) ns ∧ ∀ k, k ∈ ns ↔ ∃ e ∈ l, (intKind prog w).is k e.2 = true := by
    intro l
    induction l with
    | nil => intro _; exact ⟨[], .nil, fun k => by simp⟩
    | cons e r ih =>
      intro he
      obtain ⟨ns, a, b⟩ := ih he.tail
      obtain ⟨⟨k0, hk0, _⟩, _⟩ := he.head
      obtain ⟨t0, e0⟩ := Value.isInt_shape (show Value.isInt k0 e.2 = true from hk0)
      refine ⟨k0 :: ns, by rw [List.map_cons, e0]; exact .cons k0 t0 a, fun k => ?_⟩
      rw [List.mem_cons, b k]
      constructor
      · rintro (z | ⟨e', he', q⟩)
        · exact ⟨e, List.mem_cons_self, by rw [z]; exact hk0⟩
        · exact ⟨e', List.mem_cons_of_mem _ he', q⟩
      · rintro ⟨e', he', q⟩
        rcases List.mem_cons.mp he' with z | z
        · subst z; exact .inl ((intKind prog w).inj _ _ _ q hk0)
        · exact .inr ⟨e', z, q⟩
  -- any order of the members is the ints in some order
  have fin : ∀ (l : List (Int × Value)), l.Perm es.toList → ∃ ns, IntsAre (l.map (·.2)) ns ∧ ns.Perm ds := fun l p => by
    obtain ⟨ns, a, b⟩ := intsV l (hel.perm p)
    refine ⟨ns, a, ?_⟩
    have hsub : ds ⊆ ns := fun k hk => (b k).mpr (by
      obtain ⟨e, he, q⟩ := (hm k).mp (decide_eq_true hk)
      exact ⟨e, p.mem_iff.mpr he, q⟩)
    have hle : ns.length ≤ ds.length := by
      have q1 : (l.map (·.2)).length = ns.length := IntsAre.length a
      rw [List.length_map] at q1
      exact Nat.le_of_eq (by rw [← q1, p.length_eq, Array.length_toList, hn])
    exact perm_of_sub nd (fun k hk => hsub hk) hle
  refine wpAny_pyIter_slot hT F.slot_set_iter (wpAny_call_entry F.slot_set_iter hT entry_set_iter ?_ (F.args_set_iter_1 _))
  unfold Builtin.«frozenset.__iter__» Builtin.Frozenset.slot0 slotArgs
  simp only [List.isEmpty_nil, Bool.not_true, Bool.false_eq_true, ↓reduceIte, bind_assoc, List.length_nil, bne_self_eq_false]
  unfold Builtin.Frozenset.addrOf Builtin.Frozenset.sizeOf
  refine wpAny_bind (wpAny_pure ?_)
  try dsimp only
  refine wpAny_bind (wpAny_pure ?_)
  refine wpAny_bind (wpAny_bind (wpAny_setEntries_of ho hd hf (wpAny_pure ?_)))
  unfold setDrawn setsByText
  simp only [bind_assoc]
  refine wpAny_bind (wpAny_setState_of ho hd hf ?_)
  refine wpAny_bind (wpAny_askSetting ?_)
  refine wpAny_bind (wpAny_pure (wpAny_bind (wpAny_pure ?_)))
  show wpAny (model prog w) A.in1 (if (!(w.params.followText "set-order") && (!t.plain && decide (es.size > 1))) = true then _ else _) _ _ s
  have len2 : ∀ (ps : List Nat), ps.Perm (List.range es.size) → ((ps.filterMap fun p => es[p]?)).Perm es.toList ∧ ∀ (j : Nat), ((ps.filterMap fun p => es[p]?).map (·.2))[j]? = (ps[j]?).bind fun p => (es[p]?).map fun (e : Int × Value) => e.2 := fun ps p => by
    refine ⟨(p.filterMap _).trans (by rw [filterMap_getElem?_range]), ?_⟩
    have all : ∀ (ps : List Nat), (∀ p ∈ ps, p < es.size) → ∀ (j : Nat), ((ps.filterMap fun p => es[p]?).map (·.2))[j]? = (ps[j]?).bind fun p => (es[p]?).map fun (e : Int × Value) => e.2 := by
      intro ps
      induction ps with
      | nil => intro _ j; simp
      | cons q r ih =>
        intro hq j
        have hq' : q < es.size := hq q List.mem_cons_self
        rw [List.filterMap_cons_some (b := es[q]) (by simp [hq'])]
        cases j with
        | zero => simp [hq']
        | succ j => simpa using ih (fun p hp => hq p (List.mem_cons_of_mem _ hp)) j
    exact all ps fun q hq => List.mem_range.mp (p.mem_iff.mp hq)
  split
  · rename_i hc
    refine wpAny_bind (drawOrder_any es.size (List.range es.size) s _ (by simp) fun ps d' p => ?_)
    obtain ⟨p1, p2⟩ := len2 ps p
    refine wpAny_bind (wpAny_newObj_type ?_ ?_)
    · refine wpAny_bind (wpAny_setEpoch_of (Heap.get?_push_of_some _ ho) hd hf ?_)
      refine wpAny_bind (wpAny_newObj_type (wpAny_pure ⟨_, rfl, "set_iterator", _, ⟨_, Heap.get?_push_size _ rfl, rfl⟩, slot_setit_next.lookup, ?_⟩))
      refine h _ d' _ s.heap.objs.size ((ps.filterMap fun p => es[p]?).map (·.2)) (fun b o' e => Heap.get?_push_of_some _ (Heap.get?_push_of_some _ e)) ?_ (.inr (Nat.le_refl _)) ?_ (fin _ p1)
      · show s.heap.objs.size ≤ (s.heap.push _).objs.size
        rw [Heap.size_push]; exact Nat.le_succ _
      · refine ⟨?_, o, es, ep, t, _, Heap.get?_push_of_some _ (Heap.get?_push_of_some _ ho), hd, hf, ?_, Heap.get?_push_size _ rfl, .drawn ps ?_ (Heap.get?_push_of_some _ (Heap.get?_push_size _ rfl)) (fun q hq => List.mem_range.mp (p.mem_iff.mp hq)) p2⟩
        · show (s.heap.push _).objs.size ≠ S
          rw [Heap.size_push]; exact Nat.ne_of_gt (Nat.lt_succ_of_lt hlt)
        · rw [List.length_map, p1.length_eq, Array.length_toList]
        · show s.heap.objs.size ≠ (s.heap.push _).objs.size
          rw [Heap.size_push]; exact Nat.ne_of_lt (Nat.lt_succ_self _)
    · show _ ≤ sizeLine
      rw [List.size_toArray, List.length_map, p.length_eq, List.length_range]
      exact fits_of_scanBound hb
  · rename_i hc
    refine wpAny_bind (wpAny_pure (wpAny_bind (wpAny_setEpoch_of ho hd hf ?_)))
    refine wpAny_bind (wpAny_newObj_type (wpAny_pure ⟨_, rfl, "set_iterator", _, ⟨_, Heap.get?_push_size _ rfl, rfl⟩, slot_setit_next.lookup, ?_⟩))
    by_cases ht' : w.params.followText "set-order" = true
    · have pp := pick_perm (w.params.setOrder S ep) es
      have q := h (s.heap.push (itObj (rawInt 0) 0 S es.size ep)) s.drawn s.heap.objs.size S ((pickOrder (w.params.setOrder S ep) es).toList.map (·.2)) (fun b o' e => Heap.get?_push_of_some _ e) (Nat.le_refl _) (.inl rfl)
        ⟨Nat.ne_of_gt hlt, o, es, ep, t, _, Heap.get?_push_of_some _ ho, hd, hf, by rw [List.length_map, pp.length_eq, Array.length_toList], Heap.get?_push_size _ rfl, .text 0 ht' fun j => by rw [List.getElem?_map, Array.getElem?_toList]⟩ (fin _ pp)
      exact q
    · have hf' : w.params.followText "set-order" = false := by simpa using ht'
      have hL : ledOf w = true := by show (!_) = true; rw [hf']; rfl
      rw [hL] at ht
      have hdr : (!t.plain && decide (es.size > 1)) = false := by
        rw [hf'] at hc
        simpa using hc
      have q := h (s.heap.push (itObj (rawInt 0) 0 S es.size ep)) s.drawn s.heap.objs.size S (es.toList.map (·.2)) (fun b o' e => Heap.get?_push_of_some _ e) (Nat.le_refl _) (.inl rfl)
        ⟨Nat.ne_of_gt hlt, o, es, ep, t, _, Heap.get?_push_of_some _ ho, hd, hf, by rw [List.length_map, Array.length_toList], Heap.get?_push_size _ rfl, .plain hf' hdr ht fun j => by rw [List.getElem?_map, Array.getElem?_toList]⟩ (fin _ (List.Perm.refl _))
      exact q
end
end SetP
end
section
set_option maxRecDepth 100000
namespace SetP
open PySem PyProof.Rows

section
variable {prog : Program} {w : World} {A : Around} {E : Value → Shared → Prop} {s : Shared}

theorem itObj_set0 (first x : Value) (i : Nat) (S : Addr) (n ep : Nat) : Obj.mapFields (·.setIfInBounds 0 x) (itObj first i S n ep) = itObj x i S n ep := rfl
theorem itObj_set1 (first : Value) (i : Nat) (S : Addr) (n ep : Nat) : Obj.mapFields (·.setIfInBounds 1 (rawInt ((i : Int) + 1))) (itObj first i S n ep) = itObj first (i + 1) S n ep := rfl

theorem setNext_text {S : Addr} {o : Obj} {es : Array (Int × Value)} {ep slot given : Nat} {t : SetTable} {Q : Option (Value × Nat) → Shared → Prop} (ho : s.heap.get? S = some o) (hd : o.data = .set es ep t) (hf : t.fits es.size = true)
    (z : w.params.followText "set-order" = true) (h : Q (((pickOrder (w.params.setOrder S ep) es)[given]?).map fun e => (e.2, slot)) s) : wpAny (model prog w) A (setNext S slot given ep) Q E s := by
  unfold setNext
  refine wpAny_bind (wpAny_setState_of ho hd hf ?_)
  unfold setsByText
  refine wpAny_bind (wpAny_bind (wpAny_askSetting (wpAny_pure ?_)))
  show wpAny _ _ (if (w.params.followText "set-order") = true then _ else _) _ _ s
  rw [if_pos z]
  show wpAny _ _ (if (ep != ep) = true then _ else _) _ _ s
  rw [if_neg (by simp)]
  unfold setWalk
  refine wpAny_bind (wpAny_bind (wpAny_setState_of ho hd hf ?_))
  unfold setsByText
  refine wpAny_bind (wpAny_bind (wpAny_askSetting (wpAny_pure ?_)))
  show wpAny _ _ (if (w.params.followText "set-order") = true then _ else _) _ _ s
  rw [if_pos z]
  exact wpAny_bind (wpAny_askSetting (wpAny_pure (wpAny_pure h)))
theorem setNext_plain {S : Addr} {o : Obj} {es : Array (Int × Value)} {ep slot given : Nat} {t : SetTable} {Q : Option (Value × Nat) → Shared → Prop} (ho : s.heap.get? S = some o) (hd : o.data = .set es ep t) (hf : t.fits es.size = true)
    (z : w.params.followText "set-order" = false) (z2 : (!t.plain && decide (es.size > 1)) = false) (z3 : t.led = true)
    (h : Q (match es[SetTable.below t.place slot]?, t.place[SetTable.below t.place slot]? with | some (_, x), some j => some (x, j + 1) | _, _ => none) s) : wpAny (model prog w) A (setNext S slot given ep) Q E s := by
  unfold setNext
  refine wpAny_bind (wpAny_setState_of ho hd hf ?_)
  unfold setsByText
  refine wpAny_bind (wpAny_bind (wpAny_askSetting (wpAny_pure ?_)))
  show wpAny _ _ (if (w.params.followText "set-order") = true then _ else _) _ _ s
  rw [if_neg (by rw [z]; simp)]
  show wpAny _ _ (if (!t.plain && decide (es.size > 1)) = true then _ else _) _ _ s
  rw [if_neg (by rw [z2]; simp)]
  refine wpAny_bind ?_
  show wpAny _ _ (if (!t.led && !es.isEmpty) = true then _ else _) _ _ s
  rw [if_neg (by rw [z3]; simp)]
  exact wpAny_pure (wpAny_pure h)

theorem nextItem_T {it S T : Addr} {vs : List Value} {i : Nat} {v : Value} {Q : Option Value → Shared → Prop} (x : SetIt w s.heap it S T vs i) (hv : vs[i]? = some v)
    (h : ∀ h', Heap.SameBut it s.heap h' → SetIt w h' it S T vs (i + 1) → Q (some v) { s with heap := h' }) : wpAny (model prog w) A (pyNext (.ref it)) Q E s := by
  obtain ⟨ne, o, es, ep, t, first, ho, hd, hf, hl, hi, r⟩ := x
  have hT : s.TypeIs (.ref it) "set_iterator" := ⟨_, hi, rfl⟩
  unfold pyNext
  refine wpAny_bind (wpAny_attempt (wpAny_callSpecial?_slot (name := Str.ofString "__next__") hT slot_setit_next (wpAny_call_entry slot_setit_next hT entry_setit_next ?_ (args_setit_next _))))
  unfold Builtin.«set_iterator.__next__» slotArgs
  simp only [List.isEmpty_nil, Bool.not_true, Bool.false_eq_true, ↓reduceIte, List.length_nil, bne_self_eq_false]
  refine wpAny_bind (wpAny_pure ?_)
  refine wpAny_bind (wpAny_fieldsOf hi rfl ?_)
  show wpAny _ _ (setEntries S >>= _) _ _ s
  refine wpAny_bind (wpAny_setEntries_of ho hd hf ?_)
  show wpAny _ _ (if ((es.size : Int) != (es.size : Int)) = true then _ else _) _ _ s
  rw [if_neg (by simp)]
  have lt : i < vs.length := (List.getElem?_eq_some_iff.mp hv).1
  have upd1 : ∀ {h1 : Heap} {f1 : Value}, h1.get? it = some (itObj f1 i S es.size ep) → (h1.update it (Obj.mapFields (·.setIfInBounds 1 (rawInt ((i : Int) + 1))))).get? it = some (itObj f1 (i + 1) S es.size ep) := fun {h1 f1} e => by
    rw [← itObj_set1 f1 i S es.size ep]; exact Heap.get?_update_self _ e rfl
  have upd0 : ∀ {h1 : Heap} {f1 y : Value}, h1.get? it = some (itObj f1 i S es.size ep) → (h1.update it (Obj.mapFields (·.setIfInBounds 0 y))).get? it = some (itObj y i S es.size ep) := fun {h1 f1 y} e => by
    rw [← itObj_set0 f1 y i S es.size ep]; exact Heap.get?_update_self _ e rfl
  cases r with
  | text k z1 z2 =>
    show wpAny _ _ (setNext S k.toNat i ep >>= _) _ _ s
    refine wpAny_bind (setNext_text ho hd hf z1 ?_)
    have q := z2 i
    rw [hv] at q
    cases hp : (pickOrder (w.params.setOrder S ep) es)[i]? with
    | none => rw [hp] at q; cases q
    | some e =>
      rw [hp] at q
      have q' : v = e.2 := Option.some.inj q
      subst q'
      refine wpAny_bind (wpAny_setField hi rfl (by simp) (wpAny_bind (wpAny_setField (upd0 hi) rfl (by simp) (wpAny_pure ⟨_, rfl, wpAny_pure (h _ ((Heap.SameBut.update ..).trans (Heap.SameBut.update ..)) ⟨ne, o, es, ep, t, _, ?_, hd, hf, hl, upd1 (upd0 hi), .text _ z1 z2⟩)⟩))))
      rw [Heap.get?_update_other _ _ ne, Heap.get?_update_other _ _ ne]; exact ho
  | plain z1 z2 z3 z4 =>
    show wpAny _ _ (setNext S (Int.toNat ((if i = 0 then 0 else t.place.getD (i - 1) 0 + 1 : Nat) : Int)) i ep >>= _) _ _ s
    rw [Int.toNat_natCast]
    refine wpAny_bind (setNext_plain ho hd hf z1 z2 z3.2 ?_)
    have psz : t.place.size = es.size := by
      have q := hf
      simp only [SetTable.fits, Bool.and_eq_true, beq_iff_eq] at q
      exact q.1
    have hb : SetTable.below t.place (if i = 0 then 0 else t.place.getD (i - 1) 0 + 1) = i := by
      cases i with
      | zero => rw [if_pos rfl]; exact below_zero z3.1
      | succ i => rw [if_neg (by omega)]; exact below_next z3.1 (by omega)
    rw [hb]
    have q := z4 i
    rw [hv] at q
    have hie : i < es.size := by omega
    have hip : i < t.place.size := by omega
    rw [Array.getElem?_eq_getElem hie] at q ⊢
    rw [Array.getElem?_eq_getElem hip]
    have q' : v = es[i].2 := Option.some.inj q
    subst q'
    show wpAny _ _ (setField (.ref it) 0 (rawInt ((t.place[i] + 1 : Nat) : Int)) >>= _) _ _ s
    refine wpAny_bind (wpAny_setField hi rfl (by simp) (wpAny_bind (wpAny_setField (upd0 hi) rfl (by simp) (wpAny_pure ⟨_, rfl, wpAny_pure (h _ ((Heap.SameBut.update ..).trans (Heap.SameBut.update ..)) ⟨ne, o, es, ep, t, _, ?_, hd, hf, hl, upd1 (upd0 hi), ?_⟩)⟩))))
    · rw [Heap.get?_update_other _ _ ne, Heap.get?_update_other _ _ ne]; exact ho
    · have e : t.place[i] = t.place.getD (i + 1 - 1) 0 := by
        rw [Array.getD_eq_getD_getElem?, Nat.add_sub_cancel, Array.getElem?_eq_getElem hip]; rfl
      have rr : ∀ hp : Heap, Road w hp es ep t S it T vs (i + 1) (.int ((t.place[i] + 1 : Nat) : Int) 0) := fun hp => by
        have r1 : Road w hp es ep t S it T vs (i + 1) (.int ((if i + 1 = 0 then 0 else t.place.getD (i + 1 - 1) 0 + 1 : Nat) : Int) 0) := .plain z1 z2 z3 z4
        rw [if_neg (by omega), ← e] at r1
        exact r1
      exact rr _
  | drawn ps z1 z2 z3 z4 =>
    show wpAny _ _ (seqItems? (.ref T) >>= _) _ _ s
    refine wpAny_bind (wpAny_seqItems z2 rfl ?_)
    have q := z4 i
    rw [hv] at q
    cases hp : ps[i]? with
    | none => rw [hp] at q; cases q
    | some p =>
      rw [hp] at q
      have hlt : p < es.size := z3 p (List.mem_of_getElem? hp)
      have q2 : some v = (es[p]?).map fun (e : Int × Value) => e.2 := q
      rw [Array.getElem?_eq_getElem hlt] at q2
      have q' : v = es[p].2 := Option.some.inj q2
      subst q'
      have hg : ((ps.map fun (p : Nat) => rawInt p).toArray)[i]? = some (rawInt p) := by
        rw [List.getElem?_toArray, List.getElem?_map, hp]; rfl
      show wpAny _ _ (match ((ps.map fun (p : Nat) => rawInt p).toArray)[(i : Int).toNat]? with | some (.int place _) => _ | some _ => _ | none => _) _ _ s
      rw [Int.toNat_natCast, hg]
      show wpAny _ _ (setNextDrawn S p ep >>= _) _ _ s
      unfold setNextDrawn
      refine wpAny_bind (wpAny_bind (wpAny_setState_of ho hd hf ?_))
      show wpAny _ _ (if (ep != ep) = true then _ else _) _ _ s
      rw [if_neg (by simp)]
      dsimp only
      rw [Array.getElem?_eq_getElem hlt]
      refine wpAny_pure ?_
      refine wpAny_bind (wpAny_setField hi rfl (by simp) (wpAny_pure ⟨_, rfl, wpAny_pure (h _ (Heap.SameBut.update ..) ⟨ne, o, es, ep, t, _, ?_, hd, hf, hl, upd1 hi, .drawn ps z1 ?_ z3 z4⟩)⟩))
      · rw [Heap.get?_update_other _ _ ne]; exact ho
      · rw [Heap.get?_update_other _ _ z1.symm]; exact z2

theorem nextEnd_T {it S T : Addr} {vs : List Value} {Q : Option Value → Shared → Prop} (hh : A.handled = none) (x : SetIt w s.heap it S T vs vs.length)
    (h : ∀ h', Heap.ExtBut it s.heap h' → Q none { s with heap := h' }) : wpAny (model prog w) A (pyNext (.ref it)) Q E s := by
  obtain ⟨ne, o, es, ep, t, first, ho, hd, hf, hl, hi, r⟩ := x
  have hT : s.TypeIs (.ref it) "set_iterator" := ⟨_, hi, rfl⟩
  unfold pyNext
  refine wpAny_bind (wpAny_attempt (wpAny_callSpecial?_slot (name := Str.ofString "__next__") hT slot_setit_next (wpAny_call_entry slot_setit_next hT entry_setit_next ?_ (args_setit_next _))))
  unfold Builtin.«set_iterator.__next__» slotArgs
  simp only [List.isEmpty_nil, Bool.not_true, Bool.false_eq_true, ↓reduceIte, List.length_nil, bne_self_eq_false]
  refine wpAny_bind (wpAny_pure ?_)
  refine wpAny_bind (wpAny_fieldsOf hi rfl ?_)
  show wpAny _ _ (setEntries S >>= _) _ _ s
  refine wpAny_bind (wpAny_setEntries_of ho hd hf ?_)
  show wpAny _ _ (if ((es.size : Int) != (es.size : Int)) = true then _ else _) _ _ s
  rw [if_neg (by simp)]
  have stop : ∀ {s1 : Shared}, Heap.ExtBut it s.heap s1.heap → s1 = { s with heap := s1.heap } → wpAny (model prog w) A.in1 (newExc (.type "StopIteration") [] >>= fun e => (raiseNew e : Sem Fin)) (fun fin s' => ∃ v, fin = .done (.ret v) ∧ wpAny (model prog w) A (pure (some v)) Q E s')
      (fun e s' => wpAny (model prog w) A (do if ← isInstance e (.type "StopIteration") then pure none else throw e) Q E s') s1 := fun {s1} eb es1 => by
    refine wpAny_bind ?_
    simp only [newExc, newTuple]
    refine wpAny_bind (wpAny_newObj_type ?_ (by size_fits))
    refine wpAny_bind (m := firstArgMember _ _) (wpAny_of_eq (a := Value.none) (by first | rfl | (simp only [firstArgMember]; rfl)) ?_)
    refine wpAny_newObj_type ?_ (by size_fits)
    simp only [raiseNew]
    refine wpAny_bind (wpAny_handled ?_)
    rw [show A.in1.handled = none from hh]
    refine wpAny_bind (wpAny_pure (wpAny_throw ?_))
    refine wpAny_bind (wpAny_isInstance (T := "StopIteration") (b := true) ⟨_, Heap.get?_push_size _ rfl, rfl⟩ isSubtype_stop ?_)
    rw [if_pos rfl, es1]
    exact wpAny_pure (h _ ((eb.push _).push _))
  cases r with
  | text k z1 z2 =>
    show wpAny _ _ (setNext S k.toNat vs.length ep >>= _) _ _ s
    refine wpAny_bind (setNext_text ho hd hf z1 ?_)
    have q := z2 vs.length
    rw [List.getElem?_eq_none (Nat.le_refl _)] at q
    cases hp : (pickOrder (w.params.setOrder S ep) es)[vs.length]? with
    | some e => rw [hp] at q; cases q
    | none =>
      refine wpAny_bind (wpAny_setField hi rfl (by simp) ?_)
      exact stop (s1 := { s with heap := s.heap.update it (Obj.mapFields (·.setIfInBounds 2 Value.none)) }) (Heap.SameBut.update ..).extBut rfl
  | plain z1 z2 z3 z4 =>
    generalize hsl : (if vs.length = 0 then 0 else t.place.getD (vs.length - 1) 0 + 1 : Nat) = sl
    show wpAny _ _ (setNext S (Int.toNat (sl : Int)) vs.length ep >>= _) _ _ s
    rw [Int.toNat_natCast]
    refine wpAny_bind (setNext_plain ho hd hf z1 z2 z3.2 ?_)
    have psz : t.place.size = es.size := by
      have q := hf
      simp only [SetTable.fits, Bool.and_eq_true, beq_iff_eq] at q
      exact q.1
    have hb : SetTable.below t.place sl = vs.length := by
      rw [← hsl]
      generalize vs.length = n at hl
      cases n with
      | zero => rw [if_pos rfl]; exact below_zero z3.1
      | succ i => rw [if_neg (by omega)]; exact below_next z3.1 (by omega)
    rw [hb, hl, Array.getElem?_eq_none (Nat.le_refl _)]
    refine wpAny_bind (wpAny_setField hi rfl (by simp) ?_)
    exact stop (s1 := { s with heap := s.heap.update it (Obj.mapFields (·.setIfInBounds 2 Value.none)) }) (Heap.SameBut.update ..).extBut rfl
  | drawn ps z1 z2 z3 z4 =>
    show wpAny _ _ (seqItems? (.ref T) >>= _) _ _ s
    refine wpAny_bind (wpAny_seqItems z2 rfl ?_)
    have q := z4 vs.length
    rw [List.getElem?_eq_none (Nat.le_refl _)] at q
    have hg : ((ps.map fun (p : Nat) => rawInt p).toArray)[vs.length]? = none := by
      rw [List.getElem?_toArray, List.getElem?_map]
      cases hp : ps[vs.length]? with
      | none => rfl
      | some p =>
        rw [hp] at q
        have hlt : p < es.size := z3 p (List.mem_of_getElem? hp)
        have q2 : none = (es[p]?).map fun (e : Int × Value) => e.2 := q
        rw [Array.getElem?_eq_getElem hlt] at q2
        cases q2
    show wpAny _ _ (match ((ps.map fun (p : Nat) => rawInt p).toArray)[(vs.length : Int).toNat]? with | some (.int place _) => _ | some _ => _ | none => _) _ _ s
    rw [Int.toNat_natCast, hg]
    refine wpAny_bind (wpAny_setField hi rfl (by simp) ?_)
    have e0 : (s.heap.update it (Obj.mapFields (·.setIfInBounds 0 (rawInt 0)))).get? it = some (itObj (rawInt 0) vs.length S es.size ep) := by
      rw [← itObj_set0 (.ref T) (rawInt 0) vs.length S es.size ep]; exact Heap.get?_update_self _ hi rfl
    refine wpAny_bind (wpAny_setField e0 rfl (by simp) ?_)
    exact stop (s1 := { s with heap := (s.heap.update it (Obj.mapFields (·.setIfInBounds 0 (rawInt 0)))).update it (Obj.mapFields (·.setIfInBounds 2 Value.none)) }) ((Heap.SameBut.update ..).trans (Heap.SameBut.update ..)).extBut rfl
end
end SetP
end
section
set_option maxRecDepth 100000
namespace SetP
open PySem PyProof.Rows

theorem slot_setit_iter : Slot "set_iterator" "__iter__" "set_iterator.__iter__" :=
  .of (owner := "set_iterator") (n := "__iter__") (by rw [typeLookup_type, builtinLookup_eq_fast]; kernel_rfl) (by decide +kernel) (by decide +kernel) (by decide +kernel)
    (by first | exact .inl (by decide +kernel) | exact .inr (by decide +kernel)) (by rw [isSubtype_type]; kernel_rfl)
theorem entry_setit_iter : entryFor table "set_iterator.__iter__" = some Builtin.«dict_keyiterator.__iter__» :=
  entryFor_alias (id' := "dict_keyiterator.__iter__") (by kernel_rfl) rfl (by decide +kernel) (by kernel_rfl)
theorem args_setit_iter (a : Value) : argsOk "set_iterator.__iter__" ⟨[a], []⟩ := by unfold argsOk; kernel_rfl
theorem len_of_set : typeLookup (.type "set") "__len__" = pure (some (.builtin "set.__len__")) := F.slot_set_len.lookup

section
variable {prog : Program} {w : World} {A : Around} {E : Value → Shared → Prop} {s : Shared}

theorem walks_T (hh : A.handled = none) (it S T : Addr) (vs : List Value) : Walks prog w A it [it, S, T] [it] vs.length (fun i v => vs[i]? = some v) (fun i h => SetIt w h it S T vs i) where
  sub := fun b hb => by simp at hb; subst hb; simp
  frame := fun i h h' x k => x.keep fun b hb o e => k b hb o e
  item := fun i s Q E hi x hQ => by
    have hv : vs[i]? = some vs[i] := List.getElem?_eq_getElem hi
    exact nextItem_T x hv fun h' sb x' => hQ _ h' s.toks hv x' fun b o hb e => (sb.2 b (by simpa using hb)).trans e
  done := fun s Q E x hQ => nextEnd_T hh x fun h' eb => hQ h' s.toks fun b o hb e => eb b o (by simpa using hb) e
  self := fun i s Q E x hQ => by
    obtain ⟨_, o, es, ep, t, first, _, _, _, _, hi, _⟩ := x
    have hT : s.TypeIs (.ref it) "set_iterator" := ⟨_, hi, rfl⟩
    refine wpAny_pyIter_slot hT slot_setit_iter (wpAny_call_entry slot_setit_iter hT entry_setit_iter ?_ (args_setit_iter _))
    show wpAny _ _ (ret (.ref it)) _ _ s
    exact wpAny_pure ⟨_, rfl, "set_iterator", _, hT, slot_setit_next.lookup, hQ⟩

theorem hint_T {S : Addr} {Q : Bool → Shared → Prop} (hT : s.TypeIs (.ref S) "set") (h : Q false s) : wpAny (model prog w) A (Builtin.List.listLengthHint (.ref S)) Q E s := by
  unfold Builtin.List.listLengthHint
  refine wpAny_bind (wpAny_specialOf hT len_of_set ?_)
  have hs : splitId "set.__len__" = some ("set", "__len__") := by decide +kernel
  dsimp only
  rw [hs]
  dsimp only
  refine wpAny_bind (wpAny_isInstance hT sub_set_self ?_)
  simp only [Bool.not_true, Bool.false_eq_true, if_false]
  refine wpAny_bind (wpAny_typeOf hT ?_)
  exact wpAny_pure h

theorem collect_T {S : Addr} {ds : List Int} {Q : List Value → Shared → Prop} (hh : A.handled = none) (hS : SetT prog w s.heap S ds) (h64 : ds.length < 64)
    (h : ∀ h' d' tk vs ns, (∀ b o, s.heap.get? b = some o → h'.get? b = some o) → IntsAre vs ns → ns.Perm ds → Q vs { s with heap := h', drawn := d', toks := tk }) : wpAny (model prog w) A (collect (.ref S)) Q E s := by
  obtain ⟨o, ho, hex⟩ : ∃ o, s.heap.get? S = some o ∧ o.ExactSet := by
    obtain ⟨_, o, es, ep, t, ho, hex, _⟩ := hS
    exact ⟨o, ho, hex⟩
  have hlt := Heap.lt_size ho
  unfold collect
  refine wpAny_bind (wpAny_runValue (codeAny_builtin F.entry_proto_collect ?_))
  rw [Around.under_plainId F.plain_proto_collect _]
  show wpAny _ A.in1 (newList [] >>= fun l => again (.builtin "list.__iadd__" ⟨[l, .ref S], []⟩)) _ _ s
  refine wpAny_bind (wpAny_newObj_type (wpAny_pure ⟨plainId_quiet F.plain_list_iadd _, codeAny_builtin F.entry_list_iadd ?_⟩))
  rw [Around.under_plainId F.plain_list_iadd _]
  generalize hL : s.heap.objs.size = L
  generalize hg : s.heap.push { cls := .type "list", dict := none, data := .seq ([] : List Value).toArray } = g
  have k1 : ∀ b o, s.heap.get? b = some o → g.get? b = some o := fun b o e => hg ▸ Heap.get?_push_of_some _ e
  have hLg : g.get? L = some { cls := .type "list", data := .seq ([] : List Value).toArray } := hg ▸ hL ▸ Heap.get?_push_size _ rfl
  have hsz : g.objs.size = L + 1 := by rw [← hg, Heap.size_push, hL]
  have hLS : L ≠ S := by rw [← hL]; exact Nat.ne_of_gt hlt
  have hT : Shared.TypeIs { s with heap := g } (.ref S) "set" := ⟨o, k1 _ _ ho, hex.1⟩
  show wpAny _ A.in1 (Builtin.List.listExtendWith (.ref L) (.ref S) (.ref L)) _ _ _
  unfold Builtin.List.listExtendWith
  refine wpAny_bind (wpAny_typeOf hT ?_)
  have h1 : Builtin.List.listSameRef (.ref L) (.ref S) = false := by simp [Builtin.List.listSameRef, hLS]
  have h2 : (Value.type "set" == Value.type "list") = false := by decide
  have h3 : (Value.type "set" == Value.type "tuple") = false := by decide
  simp only [h1, h2, h3, Bool.or_false, Bool.false_eq_true, if_false]
  refine wpAny_bind (iter_T (s := { s with heap := g }) (hS.sameBut fun o e => k1 _ _ e) fun g2 d2 it T vs k2 hit hTT x ⟨ns, hi, hp⟩ => ?_)
  have hT2 : Shared.TypeIs { s with heap := g2, drawn := d2 } (.ref S) "set" := ⟨o, k2 _ _ (k1 _ _ ho), hex.1⟩
  refine wpAny_bind (wpAny_holding (hint_T hT2 ?_))
  have hit' : L < it := by
    have hit2 : g.objs.size ≤ it := hit
    omega
  show wpAny _ A.in1 (rule "list.extend.makes-room" >>= fun _ => Builtin.List.listTouch (.ref L) >>= fun _ => again (.builtin "list.extend.loop" ⟨[.ref L, .ref it, .ref L], []⟩)) _ _ _
  refine wpAny_bind (wpAny_rule (wpAny_bind ?_))
  have e1 := k2 _ _ hLg
  show wpAny _ A.in1 (updateSeq L (·.push .none) >>= fun _ => updateSeq L (·.pop)) _ _ _
  refine wpAny_bind (wpAny_updateSeq e1 rfl ?_)
  have e2 := Heap.get?_update_self (Obj.mapSeq (·.push Value.none)) e1 rfl
  refine wpAny_updateSeq e2 rfl ?_
  have e3 := Heap.get?_update_self (Obj.mapSeq (·.pop)) e2 rfl
  have oth : ∀ b o, b ≠ L → g2.get? b = some o → ((g2.update L (Obj.mapSeq (·.push Value.none))).update L (Obj.mapSeq (·.pop))).get? b = some o := fun b o hb e => (Heap.get?_update_other _ _ (Ne.symm hb)).trans ((Heap.get?_update_other _ _ (Ne.symm hb)).trans e)
  have hvn : vs.length = ns.length := IntsAre.length hi
  have hv64 : vs.length < 64 := by rw [hvn, hp.length_eq]; exact h64
  have hz : vs.length ≤ sizeLine := by rw [sizeLine_eq]; omega
  have nin : L ∉ [it, S, T] := fun z => by
    simp only [List.mem_cons, List.not_mem_nil, or_false] at z
    rcases z with z | z | z
    · omega
    · exact hLS z
    · rcases hTT with q | q
      · exact hLS (z.trans q)
      · have q' : g.objs.size ≤ T := q
        omega
  have W := (walks_T (prog := prog) (w := w) (A := A.in1) (by simpa using hh) it S T vs).toS
  have x3 : SetIt w ((g2.update L (Obj.mapSeq (·.push Value.none))).update L (Obj.mapSeq (·.pop))) it S T vs 0 := x.keep fun b hb o e => oth b o (fun z => nin (z ▸ hb)) e
  refine wpAny_pure ⟨plainId_quiet F.plain_extend_loop _, codeAny_extend_loopS W hz L nin _ vs.length 0 _ _ _ (by omega) (Nat.zero_le _) x3 e3 (ItemsOf.nil _) fun s' acc c hm hS' hacc => ?_⟩
  show wpAny _ A (load L >>= _) _ _ s'
  refine wpAny_bind (wpAny_load hS' ?_)
  have eacc : acc.toList = vs := by
    apply List.ext_getElem?
    intro j
    rw [Array.getElem?_toList]
    cases hj : acc[j]? with
    | some v => exact (hacc.2 j v hj).symm
    | none =>
      have : acc.size ≤ j := by simpa using hj
      rw [hacc.1] at this
      exact (List.getElem?_eq_none this).symm
  obtain ⟨h', g', d', tk, os'⟩ := s'
  have q1 : g' = s.gens := hm.gens
  have q2 : os' = s.os := hm.os
  subst q1 q2
  refine wpAny_pure ?_
  show Q acc.toList _
  rw [eacc]
  refine h h' d' tk vs ns (fun b o e => hm.heap b o ?_ (oth b o ?_ (k2 _ _ (k1 _ _ e)))) hi hp
  · have hb : b < L := by rw [← hL]; exact Heap.lt_size e
    intro z
    rcases List.mem_cons.mp z with z | z
    · exact absurd z (Nat.ne_of_lt hb)
    · exact absurd (List.mem_singleton.mp z) (Nat.ne_of_lt (Nat.lt_trans hb hit'))
  · exact Nat.ne_of_lt (by rw [← hL]; exact Heap.lt_size e)

theorem sortedHeap_self {h : Heap} {a : Addr} {vs : List Value} {n : Nat} {out : Array Value} (ho : h.get? a = some (seqObj "list" vs.toArray n)) : ∃ n', (sortedHeap h a vs out).get? a = some (seqObj "list" out n') := by
  unfold sortedHeap
  have q1 := get?_update_seq ho (fun _ => #[])
  exact ⟨_, get?_update_seq (Heap.get?_push_of_some _ (Heap.get?_push_of_some _ q1)) (fun _ => out)⟩
theorem sortedHeap_other {h : Heap} {a b : Addr} {vs : List Value} {out : Array Value} {o : Obj} (hb : b ≠ a) (ho : h.get? b = some o) : (sortedHeap h a vs out).get? b = some o := by
  unfold sortedHeap
  rw [Heap.get?_update_other _ _ (Ne.symm hb)]
  exact Heap.get?_push_of_some _ (Heap.get?_push_of_some _ ((Heap.get?_update_other _ _ (Ne.symm hb)).trans ho))

/-- sorted(S) of a set of ints -/
theorem sorted_T {S : Addr} {ds : List Int} {Q : Value → Shared → Prop} (hh : A.handled = none) (hS : SetT prog w s.heap S ds) (h64 : ds.length < 64)
    (h : ∀ h' d' tk l vs ns n, (∀ b o, s.heap.get? b = some o → h'.get? b = some o) → (∀ b o, s.heap.get? b = some o → b < l) → h'.get? l = some { cls := .type "list", data := .seq vs n } → IntsAre vs.toList ns → ns.Perm ds → ns.Pairwise (· ≤ ·) → Q (.ref l) { s with heap := h', drawn := d', toks := tk }) :
    wpAny (model prog w) A (call (.builtin "sorted") [.ref S]) Q E s := by
  refine Calls.call_function_entry kind_sorted plain_sorted entry_sorted (args_sorted1 _) ?_
  unfold Builtin.«sorted»
  refine wpAny_bind (m := checkCount "sorted" 1 1 _) (wpAny_pure ?_)
  refine wpAny_bind (collect_T (A := A.in1) (by simpa using hh) hS h64 fun h1 d1 t1 vs ns k1 hi hp => ?_)
  have hv64 : vs.length < 64 := by rw [show vs.length = ns.length from IntsAre.length hi, hp.length_eq]; exact h64
  refine wpAny_bind (wpAny_newList ?_)
  have hoL : (h1.push (seqObj "list" vs.toArray 0)).get? h1.objs.size = some (seqObj "list" vs.toArray 0) := Heap.get?_push_size _ rfl
  show wpAny _ _ _ _ _ { s with heap := h1.push (seqObj "list" vs.toArray 0), drawn := d1, toks := t1 }
  refine wpAny_bind (wpAny_holding (wpAny_call_entry slot_list_sort ⟨_, hoL, rfl⟩ entry_list_sort (list_sort_tree hoL hi hv64 fun out ns' a1 a2 a3 => ⟨_, rfl, ?_⟩) (args_list_sort _)))
  refine wpAny_pure ⟨_, rfl, ?_⟩
  have old : ∀ b o, s.heap.get? b = some o → b ≠ h1.objs.size := fun b o e => Nat.ne_of_lt (Heap.lt_size (k1 b o e))
  obtain ⟨n', e'⟩ := sortedHeap_self (out := out) hoL
  refine h _ d1 t1 h1.objs.size out ns' n' (fun b o e => sortedHeap_other (old b o e) (Heap.get?_push_of_some _ (k1 b o e))) (fun b o e => Heap.lt_size (k1 b o e)) e' a1 (a2.trans hp) a3
end
end SetP
end
section
set_option Elab.async false
set_option maxRecDepth 10000
set_option linter.all false
/-! ## Own words over the hand layer, 1: list comprehensions -/
namespace L2
open PySem PySem.Spec PyProof.Rows

/-! ### the tests of a clause -/
def PTs (X : Cx) (ifs : List Expr) (t : TT) : Prop :=
  ∀ (pins : List (Addr × Obj)) (s : Shared) (σ : St) (H : Hp) (Q : Bool → Hp → Prop), Inv X pins σ H s → t σ H Q →
    wpAny (model X.prog X.w) X.A (forIn ifs true fun c r => if r = true then do let ok ← isTrue c X.env (eval c X.env); pure (ForInStep.yield ok) else pure (ForInStep.yield r)) (TP X pins σ Q) X.xe s
def tYes : TT := fun _ H Q => Q true H
theorem pts_nil {X : Cx} : PTs X [] tYes := fun _ _ _ H _ I h => wpAny_pure ⟨H, I, h⟩
theorem pts_one {X : Cx} {c : Expr} {t : TT} (h : PT X c t) : PTs X [c] t := by
  intro pins s σ H Q I hw
  rw [List.forIn_cons]
  simp only [if_true]
  refine wpAny_bind (wpAny_bind (thn (h pins s σ H Q I hw) fun b s1 hb => wpAny_pure ?_))
  show wpAny _ _ (pure b) _ _ _
  exact wpAny_pure hb

/-! ### targets that store below k -/
def Low (k : Nat) (g : TG) : Prop := ∀ x σ H Q, g x σ H Q → g x σ H fun σ' H' => Q σ' H' ∧ σ'.length = σ.length ∧ ∀ j, k ≤ j → σ'[j]? = σ[j]?
def LowS (k : Nat) (g : TGs) : Prop := ∀ x σ H Q, g x σ H Q → g x σ H fun σ' H' => Q σ' H' ∧ σ'.length = σ.length ∧ ∀ j, k ≤ j → σ'[j]? = σ[j]?
theorem low_name {k i : Nat} (h : i < k) : Low k (gName i) := fun x σ H Q q =>
  ⟨q, List.length_set .., fun j hj => List.getElem?_set_ne (by omega)⟩
theorem low_nil {k : Nat} : LowS k gNil := fun _ _ _ _ ⟨e, q⟩ => ⟨e, q, rfl, fun _ _ => rfl⟩
theorem low_cons {k : Nat} {t : TG} {u : TGs} (ht : Low k t) (hu : LowS k u) (mono : ∀ x σ H Q Q', (∀ σ' H', Q σ' H' → Q' σ' H') → t x σ H Q → t x σ H Q')
    (monoU : ∀ x σ H Q Q', (∀ σ' H', Q σ' H' → Q' σ' H') → u x σ H Q → u x σ H Q') : LowS k (gCons t u) := fun x σ H Q ⟨v, r, e, q⟩ => by
  refine ⟨v, r, e, mono v σ H _ _ (fun σ1 H1 z => ?_) (ht v σ H _ q)⟩
  obtain ⟨z1, z2, z3⟩ := z
  exact monoU r σ1 H1 _ _ (fun σ2 H2 y => ⟨y.1, y.2.1.trans z2, fun j hj => (y.2.2 j hj).trans (z3 j hj)⟩) (hu r σ1 H1 _ z1)
theorem mono_name {i : Nat} : ∀ x σ H Q Q', (∀ σ' H', Q σ' H' → Q' σ' H') → gName i x σ H Q → gName i x σ H Q' := fun _ _ _ _ _ f h => f _ _ h
theorem mono_nil : ∀ x σ H Q Q', (∀ σ' H', Q σ' H' → Q' σ' H') → gNil x σ H Q → gNil x σ H Q' := fun _ _ _ _ _ f h => ⟨h.1, f _ _ h.2⟩
theorem mono_cons {t : TG} {u : TGs} (mono : ∀ x σ H Q Q', (∀ σ' H', Q σ' H' → Q' σ' H') → t x σ H Q → t x σ H Q')
    (monoU : ∀ x σ H Q Q', (∀ σ' H', Q σ' H' → Q' σ' H') → u x σ H Q → u x σ H Q') : ∀ x σ H Q Q', (∀ σ' H', Q σ' H' → Q' σ' H') → gCons t u x σ H Q → gCons t u x σ H Q' :=
  fun x σ H Q Q' f ⟨v, r, e, q⟩ => ⟨v, r, e, mono v σ H _ _ (fun σ1 H1 z => monoU r σ1 H1 _ _ f z) q⟩
theorem low_tup {K : PySem.W.Frag} {n k : Nat} {t : TGs} (h : LowS k t) : Low k (gTup K n t) := fun x σ H Q ⟨a, xs, e, hs, hl, q⟩ => ⟨a, xs, e, hs, hl, h xs σ H Q q⟩
/-- (a, b) in slots 0, 1; (a, b, c) in 0, 1, 2 -/
theorem low_two {K : PySem.W.Frag} {n k i j : Nat} (hi : i < k) (hj : j < k) : Low k (gTup K n (gCons (gName i) (gCons (gName j) gNil))) :=
  low_tup (low_cons (low_name hi) (low_cons (low_name hj) low_nil mono_name mono_nil) mono_name (mono_cons mono_name mono_nil))
theorem low_three {K : PySem.W.Frag} {n k i j l : Nat} (hi : i < k) (hj : j < k) (hl : l < k) : Low k (gTup K n (gCons (gName i) (gCons (gName j) (gCons (gName l) gNil)))) :=
  low_tup (low_cons (low_name hi) (low_cons (low_name hj) (low_cons (low_name hl) low_nil mono_name mono_nil) mono_name (mono_cons mono_name mono_nil)) mono_name (mono_cons mono_name (mono_cons mono_name mono_nil)))

/-! ### a comprehension's names -/
/-- the closed look: sc the scope around, N its slots; N2 the block's slots: k targets, then the captured names, which stand around at the places caps -/
def compLook (sc : Scope) (N N2 : List Str) (k : Nat) (caps : List Nat) (scope : Scope) : Bool :=
  decide (scope.kind = .function) && scope.names.all (fun y => decide (y.2 ≠ .cell)) && scope.names.all (fun y => decide (y.2 ≠ .local) || decide (scope.names.lookup y.1 = some .local)) &&
  scope.names.all (fun y => decide (y.2 ≠ .free) || decide (sc.names.lookup y.1 = some .cell) || decide (sc.names.lookup y.1 = some .free)) && decide N2.Nodup && decide (N2.length = k + caps.length) &&
  (List.range caps.length).all fun j => match caps[j]?, N2[k + j]? with
    | some i, some y => decide (N[i]? = some y) && decide (scope.names.lookup y = some .free)
    | _, _ => false
structure CompOk (sc : Scope) (N N2 : List Str) (k : Nat) (caps : List Nat) (scope : Scope) : Prop where
  kind : scope.kind = .function
  nocell : ∀ y ∈ scope.names, y.2 ≠ .cell
  loc : ∀ y ∈ scope.names, y.2 = .local → scope.names.lookup y.1 = some .local
  free : ∀ y ∈ scope.names, y.2 = .free → sc.names.lookup y.1 = some .cell ∨ sc.names.lookup y.1 = some .free
  nd : N2.Nodup
  len : N2.length = k + caps.length
  cap : ∀ j i, caps[j]? = some i → ∃ y, N2[k + j]? = some y ∧ N[i]? = some y ∧ scope.names.lookup y = some .free
theorem CompOk.of {sc : Scope} {N N2 : List Str} {k : Nat} {caps : List Nat} {scope : Scope} (h : compLook sc N N2 k caps scope = true) : CompOk sc N N2 k caps scope := by
  unfold compLook at h
  simp only [Bool.and_eq_true, List.all_eq_true, Bool.or_eq_true, decide_eq_true_eq] at h
  obtain ⟨⟨⟨⟨⟨⟨h1, h2⟩, h3⟩, h4⟩, h5⟩, h6⟩, h7⟩ := h
  refine ⟨h1, h2, fun y hy e => ?_, fun y hy e => ?_, h5, h6, fun j i e => ?_⟩
  · rcases h3 y hy with z | z
    · exact absurd e z
    · exact z
  · rcases h4 y hy with (z | z) | z
    · exact absurd e z
    · exact .inl z
    · exact .inr z
  · have hj : j ∈ List.range caps.length := List.mem_range.mpr (List.getElem?_eq_some_iff.mp e).1
    have q := h7 j hj
    rw [e] at q
    cases hy : N2[k + j]? with
    | none => rw [hy] at q; exact absurd q (by simp)
    | some y =>
      rw [hy] at q
      simp only [Bool.and_eq_true, decide_eq_true_eq] at q
      exact ⟨y, rfl, q.1, q.2⟩

theorem relabel_free {env : Env} : ∀ {names : List (Str × NameKind)} {x : Str}, names.lookup x = some .free →
    (names.map fun (n, k) => if (k == NameKind.free && env.scope.kind == .function && env.kindOf n == some .cell) then (n, NameKind.cell) else (n, k)).lookup x = some .cell ∨
    (names.map fun (n, k) => if (k == NameKind.free && env.scope.kind == .function && env.kindOf n == some .cell) then (n, NameKind.cell) else (n, k)).lookup x = some .free
  | [], _, h => by simp at h
  | (n, k) :: r, x, h => by
    have ih := @relabel_free env r x
    show List.lookup x ((if (k == NameKind.free && env.scope.kind == .function && env.kindOf n == some .cell) = true then (n, NameKind.cell) else (n, k)) :: _) = _ ∨ List.lookup x ((if (k == NameKind.free && env.scope.kind == .function && env.kindOf n == some .cell) = true then (n, NameKind.cell) else (n, k)) :: _) = _
    cases hx : x == n with
    | true =>
      simp only [List.lookup_cons, hx] at h
      cases h
      by_cases hc : (NameKind.free == NameKind.free && env.scope.kind == .function && env.kindOf n == some .cell) = true
      · rw [if_pos hc]; left; simp only [List.lookup_cons, hx]
      · rw [if_neg hc]; right; simp only [List.lookup_cons, hx]
    | false =>
      simp only [List.lookup_cons, hx] at h
      by_cases hc : (k == NameKind.free && env.scope.kind == .function && env.kindOf n == some .cell) = true
      · rw [if_pos hc]; simp only [List.lookup_cons, hx]; exact ih h
      · rw [if_neg hc]; simp only [List.lookup_cons, hx]; exact ih h
theorem relabel_back {env : Env} : ∀ {names : List (Str × NameKind)} {x : Str}, (∀ y ∈ names, y.2 ≠ .cell) →
    ((names.map fun (n, k) => if (k == NameKind.free && env.scope.kind == .function && env.kindOf n == some .cell) then (n, NameKind.cell) else (n, k)).lookup x = some .cell ∨
     (names.map fun (n, k) => if (k == NameKind.free && env.scope.kind == .function && env.kindOf n == some .cell) then (n, NameKind.cell) else (n, k)).lookup x = some .free) → names.lookup x = some .free
  | [], _, _, h => by simp at h
  | (n, k) :: r, x, hc, h => by
    have ih := @relabel_back env r x (fun y hy => hc y (List.mem_cons_of_mem _ hy))
    have hk : k ≠ .cell := hc (n, k) List.mem_cons_self
    cases hx : x == n with
    | true =>
      simp only [List.lookup_cons, hx]
      by_cases hf : k = .free
      · rw [hf]
      · exfalso
        have hkf : (k == NameKind.free) = false := by
          cases k <;> first | rfl | exact absurd rfl hf
        simp only [List.map_cons, hkf, Bool.false_and, Bool.false_eq_true, if_false, List.lookup_cons, hx] at h
        rcases h with z | z
        · exact hk (Option.some.inj z)
        · exact hf (Option.some.inj z)
    | false =>
      simp only [List.lookup_cons, hx]
      refine ih ?_
      have h' : List.lookup x ((if (k == NameKind.free && env.scope.kind == .function && env.kindOf n == some .cell) = true then (n, NameKind.cell) else (n, k)) :: List.map _ r) = some .cell ∨ List.lookup x ((if (k == NameKind.free && env.scope.kind == .function && env.kindOf n == some .cell) = true then (n, NameKind.cell) else (n, k)) :: List.map _ r) = some .free := h
      by_cases hcc : (k == NameKind.free && env.scope.kind == .function && env.kindOf n == some .cell) = true
      · rw [if_pos hcc] at h'; simp only [List.lookup_cons, hx] at h'; exact h'
      · rw [if_neg hcc] at h'; simp only [List.lookup_cons, hx] at h'; exact h'

/-- the cells that a block takes -/
theorem closure_of {scope : Scope} {env : Env} (h : ∀ y ∈ scope.names, y.2 = .free → ∃ c, env.cells.lookup y.1 = some c) :
    ∃ cl, closureFor scope env = pure cl ∧ (∀ x c, cl.lookup x = some c → env.cells.lookup x = some c) ∧ ∀ x, scope.names.lookup x = some .free → ∃ c, cl.lookup x = some c := by
  have all : ∀ (names : List (Str × NameKind)) (cs : List (Str × Addr)), (∀ y ∈ names, y.2 = .free → ∃ c, env.cells.lookup y.1 = some c) → (∀ x c, cs.lookup x = some c → env.cells.lookup x = some c) →
      ∃ cl, (forIn names cs (fun (x : Str × NameKind) (cs : List (Str × Addr)) => (match x with
          | (name, kind) => if (kind == NameKind.free) = true then (cellOf env name >>= fun a => pure (ForInStep.yield ((name, a) :: cs))) else pure (ForInStep.yield cs) : Sem (ForInStep (List (Str × Addr)))) ) : Sem (List (Str × Addr))) = pure cl ∧
        (∀ x c, cl.lookup x = some c → env.cells.lookup x = some c) ∧ (∀ x c, cs.lookup x = some c → ∃ c', cl.lookup x = some c') ∧ ∀ x, names.lookup x = some .free → ∃ c, cl.lookup x = some c := by
    intro names
    induction names with
    | nil => intro cs _ hc; exact ⟨cs, rfl, hc, fun x c e => ⟨c, e⟩, fun x e => by simp at e⟩
    | cons y r ih =>
      intro cs hy hc
      obtain ⟨n, kd⟩ := y
      by_cases hk : kd = .free
      · subst hk
        obtain ⟨c, hcn⟩ := hy (n, .free) List.mem_cons_self rfl
        have hc' : ∀ x c', ((n, c) :: cs).lookup x = some c' → env.cells.lookup x = some c' := fun x c' e => by
          rw [List.lookup_cons] at e
          cases hx : x == n with
          | true =>
            rw [hx] at e
            have hxn : x = n := by simpa using hx
            rw [hxn, hcn]; exact e
          | false => rw [hx] at e; exact hc x c' e
        obtain ⟨cl, e1, e2, e3, e4⟩ := ih ((n, c) :: cs) (fun z hz => hy z (List.mem_cons_of_mem _ hz)) hc'
        refine ⟨cl, ?_, e2, fun x c' e => ?_, fun x e => ?_⟩
        · rw [List.forIn_cons]
          have hb : (NameKind.free == NameKind.free) = true := rfl
          simp only [hb, if_true, cellOf, hcn, pure_bind]
          exact e1
        · by_cases hx : (x == n) = true
          · exact e3 x c (by rw [List.lookup_cons, hx])
          · have hx' : (x == n) = false := by simpa using hx
            exact e3 x c' (by rw [List.lookup_cons, hx']; exact e)
        · rw [List.lookup_cons] at e
          cases hx : x == n with
          | true => exact e3 x c (by rw [List.lookup_cons, hx])
          | false => rw [hx] at e; exact e4 x e
      · have hb : (kd == NameKind.free) = false := by
          cases kd <;> first | rfl | exact absurd rfl hk
        obtain ⟨cl, e1, e2, e3, e4⟩ := ih cs (fun z hz => hy z (List.mem_cons_of_mem _ hz)) hc
        refine ⟨cl, ?_, e2, e3, fun x e => ?_⟩
        · rw [List.forIn_cons]
          simp only [hb, Bool.false_eq_true, if_false, pure_bind]
          exact e1
        · rw [List.lookup_cons] at e
          cases hx : x == n with
          | true => rw [hx] at e; exact absurd (Option.some.inj e) hk
          | false => rw [hx] at e; exact e4 x e
  obtain ⟨cl, e1, e2, _, e4⟩ := all scope.names [] h (fun x c e => by simp at e)
  refine ⟨cl, ?_, e2, e4⟩
  unfold closureFor
  rw [← bind_pure (pure cl : Sem _), ← e1]

/-! ### the block's context -/
abbrev compCx (X : Cx) (N2 : List Str) (scope : Scope) (cl : List (Str × Addr)) (C : Addr) (s : Shared) (H : Hp) (ex : List Addr) : Cx :=
  { X with N := N2, s₀ := s, H₀ := H, env := compEnvC scope cl C X.env, outer := X.stack, ex := ex, fn := fun _ => false, pn := [], xe := fun _ _ => False }
/-- the block's slots at a turn's begin -/
def capS (k : Nat) (caps : List Nat) (σ : St) : St := List.replicate k none ++ caps.map fun j => (σ[j]?).join

/-- W: by the turn, a measure, the items so far, the heap -/
def CompW (J : It) (k : Nat) (caps : List Nat) (σ : St) (g : TG) (tt : TT) (te : TE) (Q : VK) (H1 : Hp) : Prop := ∃ W : Nat → Nat → List V → Hp → Prop, (∃ m, W 0 m [] H1) ∧ ∀ i m ys H, W i m ys H →
  (J.stop i H ∧ ∀ p, H p = none → Q (.ref p) (upd H p (.lst ys))) ∨
  (J.go i H ∧ ys.length < sizeLine ∧ ∀ x H', J.yld i H x H' → g x (capS k caps σ) H' fun σ2 H2 => tt σ2 H2 fun b H3 =>
    if b = true then te σ2 H3 fun v H4 => ∃ m', m' < m ∧ W (i + 1) m' (ys ++ [v]) H4 else ∃ m', m' < m ∧ W (i + 1) m' ys H3)
def tComp (k : Nat) (caps : List Nat) (wi : TI) (g : TG) (tt : TT) (te : TE) : TE := fun σ H Q => wi σ H fun J H1 => CompW J k caps σ g tt te Q H1

theorem capS_ge {k : Nat} {caps : List Nat} {σ : St} {i : Nat} {v : V} (h : (capS k caps σ)[i]? = some (some v)) : ∃ j a, i = k + j ∧ caps[j]? = some a ∧ σ[a]? = some (some v) := by
  unfold capS at h
  by_cases hi : i < k
  · rw [List.getElem?_append_left (by simpa using hi), List.getElem?_replicate, if_pos hi] at h
    cases h
  · rw [List.getElem?_append_right (by simpa using hi), List.length_replicate, List.getElem?_map] at h
    cases e : caps[i - k]? with
    | none => rw [e] at h; cases h
    | some a =>
      rw [e] at h
      have h' : (σ[a]?).join = some v := Option.some.inj h
      refine ⟨i - k, a, by omega, e, ?_⟩
      cases e2 : σ[a]? with
      | none => rw [e2] at h'; cases h'
      | some o =>
        rw [e2] at h'
        cases o with
        | none => cases h'
        | some v' =>
          have h'' : some v' = some v := h'
          rw [h'']

theorem ad_ne {a b n : Nat} (h1 : a < n) (h2 : n ≤ b) : a ≠ b := by omega
section
variable {X : Cx} {pins : List (Addr × Obj)} {σ : St}

/-- an object of ours that nobody tracks is changed at C alone -/
theorem Inv.but {H : Hp} {s : Shared} {C : Addr} {h' : Heap} (I : Inv X pins σ H s) (hb : Heap.SameBut C s.heap h') (hn : H C = none) (hL : C ≠ X.env.locals) (h1 : X.s₀.heap.objs.size ≤ C) (h2 : ∀ x c, X.env.cells.lookup x = some c → c ≠ C) (h3 : ∀ p ∈ X.pn ++ pins, p.1 ≠ C) :
    Inv X pins σ H { s with heap := h' } := I.turned (t' := s.toks) (fun b o hne e => (hb.2 b hne).trans e) hn hL (.inr h1) h2 h3

theorem comp_block {s2 : Shared} {H2 : Hp} {elt tg iter : Expr} {ifs : List Expr} {scope : Scope} {pos : Pos} {N2 : List Str} {k : Nat} {caps : List Nat} {cl : List (Str × Addr)} {g : TG} {tt : TT} {te : TE} {E : Value → Shared → Prop}
    {it : Addr} {fp : List Addr} {tn : Nat → Heap → Prop} {J : It} {RR : Value → Addr → Result → Shared → Prop} {Qe : List V → Hp → Prop} {W : Nat → Nat → List V → Hp → Prop} {m0 : Nat}
    (hc : X.calm = true) (hS : CompOk X.env.scope X.N N2 k caps scope) (hlow : Low k g)
    (hcl : ∀ x c, cl.lookup x = some c → X.env.cells.lookup x = some c) (hcf : ∀ x, scope.names.lookup x = some .free → ∃ c, cl.lookup x = some c)
    (hb : ∀ (cl : List (Str × Addr)) (C : Addr) (s : Shared) (H : Hp) (ex : List Addr), PG (compCx X N2 scope cl C s H ex) tg g ∧ PTs (compCx X N2 scope cl C s H ex) ifs tt ∧ PE (compCx X N2 scope cl C s H ex) elt te)
    (I2 : Inv X pins σ H2 s2) (T : Turn X.prog X.w X.K tg J fp it tn) (st2 : tn 0 s2.heap) (f2 : ∀ b ∈ fp, FpOk X pins H2 b) (w0 : W 0 m0 [] H2)
    (turn : ∀ i m ys H, W i m ys H → (J.stop i H ∧ Qe ys H) ∨
      (J.go i H ∧ ys.length < sizeLine ∧ ∀ x H', J.yld i H x H' → g x (capS k caps σ) H' fun σ2 H2 => tt σ2 H2 fun b H3 =>
        if b = true then te σ2 H3 fun v H4 => ∃ m', m' < m ∧ W (i + 1) m' (ys ++ [v]) H4 else ∃ m', m' < m ∧ W (i + 1) m' ys H3))
    (hRR : ∀ D C s' H' ys, s2.heap.objs.size ≤ D → s2.heap.objs.size ≤ C → C ≠ D → H' D = none → H' C = none → Inv X pins σ (upd H' D (.lst ys)) s' → (∃ m, s'.heap.Ns C m) → Qe ys H' → RR (.ref D) C (.ok .next) s') :
    wpAny (model X.prog X.w) X.A (newList []) (fun acc s₃ => wpAny (model X.prog X.w) X.A (newFunctionEnv scope X.env.globals cl [] X.env.qual none .none (some X.env)) (fun cenv s₄ =>
      codeAny (model X.prog X.w) X.A (.compStart (.ListComp elt [⟨tg, iter, ifs, 0⟩] scope pos) 0 (.ref it) acc { cenv with scope := relabel scope X.env }) (RR acc cenv.locals) s₄) E s₃) E s2 := by
  refine wpAny_newObj_type (wpAny_newFunctionEnv hS.nocell (by intro y hy; simp at hy) (fun h₁ hns₁ hsb₁ => ?_) hS.kind)
  dsimp only at hns₁ hsb₁ ⊢
  generalize hH3 : s2.heap.push { cls := .type "list", dict := none, data := .seq ([] : List Value).toArray } = H3 at hns₁ hsb₁ ⊢
  have hC : H3.objs.size = s2.heap.objs.size + 1 := by rw [← hH3, Heap.size_push]
  generalize hDD : s2.heap.objs.size = D at hC
  generalize hCC : H3.objs.size = C at hns₁ hsb₁ hC ⊢
  have hDC : D ≠ C := by omega
  have szD : s2.heap.objs.size ≤ D := Nat.le_of_eq hDD
  have szC : s2.heap.objs.size ≤ C := by rw [hDD, hC]; exact Nat.le_succ _
  have below : ∀ b o, s2.heap.get? b = some o → b ≠ C ∧ b ≠ D := fun b o e => ⟨ad_ne (Heap.lt_size e) szC, ad_ne (Heap.lt_size e) szD⟩
  have old : ∀ b o, s2.heap.get? b = some o → h₁.get? b = some o := fun b o e => hsb₁.extBut b o (below b o e).1 (Heap.get?_push_of_some _ (hH3 ▸ Heap.get?_push_of_some _ e))
  have hacc : h₁.get? D = some { cls := .type "list", data := .seq ([] : List Value).toArray 0 } := hsb₁.extBut _ _ hDC (Heap.get?_push_of_some _ (hH3 ▸ hDD ▸ Heap.get?_push_size _ rfl))
  have f2h : ∀ b ∈ fp, ∃ o, s2.heap.get? b = some o := fun b hbf => let ⟨o, e, _⟩ := T.obj 0 _ st2 b hbf; ⟨o, e⟩
  -- the block's context
  have okc : ∀ x c, X.env.cells.lookup x = some c → ∃ o, s2.heap.get? c = some o := fun x c e => let ⟨_, o, ho, _⟩ := I2.cell x c e; ⟨o, ho⟩
  have OK : (compCx X N2 scope cl C s2 H2 fp).Ok := by
    refine ⟨I2.ok.mod, hS.kind, I2.ok.glob, I2.ok.blt, ?_, fun x y c h1 h2 => I2.ok.inj x y c (hcl x c h1) (hcl y c h2), fun x hx => ?_, fun x c hf _ => absurd hf Bool.false_ne_true, I2.ok.hd, I2.ok.frames, .inl rfl, fun b hbf => ?_, I2.bs,
      Nat.le_trans I2.ok.bsz I2.sz, fun b o e hbf => ?_, fun b hbf hb' => ?_, I2.stack, I2.stkFree, I2.sysN⟩
    · exact szC
    · exact hcf x (relabel_back (env := X.env) hS.nocell hx)
    · obtain ⟨o, e⟩ := f2h b hbf
      exact ⟨(below b o e).1, fun x c h1 => (f2 b hbf).2.2.2.2.1 x c (hcl x c h1)⟩
    · rcases (f2 b hbf).2.2.2.1 with z | z
      · exact I2.ok.noex b o e z
      · exact absurd (Nat.lt_of_lt_of_le (Heap.lt_size (I2.ok.bs b o e).1) z) (Nat.lt_irrefl _)
    · rcases List.mem_cons.mp (I2.stkSub b hb') with z | z
      · exact (f2 b hbf).2.1 z
      · exact (f2 b hbf).2.2.1 z
  have fresh : ∀ a, s2.heap.objs.size ≤ a → H2 a = none := fun a ha => I2.hok.fresh ha
  have I4 : ∀ tk, Inv (compCx X N2 scope cl C s2 H2 fp) [(D, { cls := .type "list", data := .seq ([] : List Value).toArray 0 })] (capS k caps σ) H2 { s2 with heap := h₁, toks := tk } := fun tk => by
    refine ⟨OK, rfl, I2.bare, Un.kept old, ⟨_, hns₁, fun i x v e1 e2 e3 => ?_⟩, fun x c e => ?_, fresh C szC, fun x c e => I2.freeC x c (hcl x c e), fun p hp => ?_, I2.hok.kept old, ?_⟩
    · obtain ⟨j, a, rfl, ha, hv⟩ := capS_ge e2
      obtain ⟨y, y1, y2, y3⟩ := hS.cap j a ha
      have e1' : N2[k + j]? = some x := e1
      rw [y1] at e1'; cases e1'
      have hk : X.env.scope.names.lookup x = some .cell ∨ X.env.scope.names.lookup x = some .free := hS.free (x, .free) (PySem.mem_of_lookup y3) rfl
      obtain ⟨m', _, hl⟩ := id I2.loc
      obtain ⟨u, ru, lk⟩ := hl a x v y2 hv (hk.elim (fun z => .inr (.inl z)) fun z => .inr (.inr z))
      refine ⟨u, ru, .inr ⟨relabel_free y3, ?_⟩⟩
      rcases lk with ⟨kk, _⟩ | ⟨_, c, e, z⟩
      · have kk' : X.env.scope.names.lookup x = some .local := kk
        rw [kk'] at hk
        rcases hk with z | z <;> cases z
      · obtain ⟨c', e'⟩ := hcf x y3
        have e'' := hcl x c' e'
        rw [e] at e''; cases e''
        obtain ⟨o, ho, hd⟩ := z
        exact ⟨c, e', o, old c o ho, hd⟩
    · obtain ⟨v, o, ho, hd⟩ := I2.cell x c (hcl x c e)
      exact ⟨v, o, old c o ho, hd⟩
    · have hp' : p ∈ [(D, ({ cls := .type "list", data := .seq ([] : List Value).toArray 0 } : Obj))] := hp
      have e : p = (D, ({ cls := .type "list", data := .seq ([] : List Value).toArray 0 } : Obj)) := by simpa using hp'
      subst e
      exact ⟨hacc, fresh D szD, hDC, fun z => by
        rcases List.mem_cons.mp (I2.stkSub D z) with z | z
        · exact ad_ne I2.lt szD z.symm
        · exact I2.nofs szD z, fun v z => by cases z⟩
    · show (capS k caps σ).length = N2.length
      unfold capS
      rw [List.length_append, List.length_replicate, List.length_map, hS.len]
  -- the loop
  obtain ⟨hg, ht, he⟩ := hb cl C s2 H2 fp
  have loop : ∀ s₃ : Shared, Inv (compCx X N2 scope cl C s2 H2 fp) [(D, { cls := .type "list", data := .seq ([] : List Value).toArray 0 })] (capS k caps σ) H2 s₃ → tn 0 s₃.heap →
      codeAny (model X.prog X.w) X.A (.compLoop (.ListComp elt [⟨tg, iter, ifs, 0⟩] scope pos) 0 (.ref it) (.ref D) (compEnvC scope cl C X.env)) (RR (.ref D) C) s₃ := by
    intro s₃ I₃ st₃
    refine codeAny_loop rfl (fun n s' => ∃ i ys its nn H', Inv (compCx X N2 scope cl C s2 H2 fp) [(D, { cls := .type "list", data := .seq (its : List Value).toArray nn })] (capS k caps σ) H' s' ∧ Vals ys its ∧ tn i s'.heap ∧ (∀ b ∈ fp, H' b = none) ∧ ys.length ≤ sizeLine ∧ W i n ys H') ?_ m0
      ⟨0, [], [], 0, H2, I₃, .nil, st₃, fun b hbf => (f2 b hbf).1, Nat.zero_le _, w0⟩
    rintro n s5 ⟨i, ys, its, nn, H5, I5, rv, st5, fr5, hz, w5⟩
    show wpAny _ X.A ((compTurn (.ListComp elt [⟨tg, iter, ifs, 0⟩] scope pos) 0 (.ref it) (.ref D) (compEnvC scope cl C X.env)).onRaise (fun x => do noteFrame x (compEnvC scope cl C X.env); theTreesLotGoes x)) _ _ s5
    refine wpAny_noted ?_
    rw [compTurn_list]
    refine wpAny_bind (wpAny_standAt (wpAny_bind ?_))
    have fpok : ∀ {H' : Hp} {o : Obj}, (∀ b ∈ fp, H' b = none) → ∀ b ∈ fp, FpOk (compCx X N2 scope cl C s2 H2 fp) [(D, o)] H' b := fun {H' o} hn b hbf => by
      obtain ⟨ob, e⟩ := f2h b hbf
      refine ⟨hn b hbf, (below b ob e).1, OK.exfs b hbf, .inl hbf, (OK.exf b hbf).2, fun p hp z => ?_⟩
      have hp' : p ∈ [(D, o)] := hp
      have e' : p = (D, o) := by simpa using hp'
      subst e'
      exact (below b ob e).2 z.symm
    rcases turn i n ys H5 w5 with ⟨stop, qn⟩ | ⟨go, hz2, step⟩
    · refine thn (T.done (compCx X N2 scope cl C s2 H2 fp) rfl rfl rfl hc i _ s5 _ H5 _ I5 (fpok fr5) st5 stop) fun r s6 ⟨hr, I6⟩ => ?_
      subst hr
      refine wpAny_pure ?_
      obtain ⟨pe, pn, pne, pnf, _⟩ := I6.pin (D, { cls := .type "list", data := .seq its.toArray nn }) (List.mem_append_right _ (List.mem_singleton.mpr rfl))
      have hD : H5 D = none := pn
      have hCn : H5 C = none := I6.free
      refine hRR D C s6 H5 ys szD szC (Ne.symm hDC) hD hCn ?_ ?_ qn
      · have un : Un (frs X.stack) fp H2 (upd H5 D (.lst ys)) s2.heap s6.heap := by
          have u := I6.base
          refine ⟨u.keep, u.slot, fun b o e n1 n2 => ?_, u.there, fun b xs e => ?_, fun b o u' e => ?_, fun b ps e => ?_, fun n => by rw [upd_ne (Nat.ne_of_lt (Nat.lt_of_lt_of_le I2.bigS szD))]; exact u.sy n⟩
          · rw [upd_ne (below b o e).2]; exact u.free b o e n1 n2
          · rw [upd_ne (ne_of_none (u.tups b xs e) hD)]; exact u.tups b xs e
          · rw [upd_ne (ne_of_none (u.frzs b o u' e) hD)]; exact u.frzs b o u' e
          · obtain ⟨more, q⟩ := u.tbls b ps e
            exact ⟨more, by rw [upd_ne (ne_of_none q hD)]; exact q⟩
        refine I2.call' I6.os un (fun b u e => ?_) I6.bare (fun b hbf => ⟨(f2 b hbf).2.2.2.1, (f2 b hbf).2.1, (f2 b hbf).2.2.2.2.1, (f2 b hbf).2.2.2.2.2⟩)
        by_cases hbd : b = D
        · subst hbd
          rw [upd_same] at e; cases e
          exact ⟨hz, its, nn, rv, pe⟩
        · rw [upd_ne hbd] at e
          exact (I6.hok b u e).stay (fun _ _ _ q => q) (fun c q => by rw [upd_ne (ne_of_none q hD)]; exact q) fun c xs q => by rw [upd_ne (ne_of_none q hD)]; exact q
      · obtain ⟨m, hn, _⟩ := I6.loc
        exact ⟨m, hn⟩
    · refine thn (T.item (compCx X N2 scope cl C s2 H2 fp) rfl rfl rfl hc i _ s5 _ H5 _ I5 (fpok fr5) st5 go) fun r s6 ⟨u, hr, h6⟩ => ?_
      subst hr
      refine wpAny_bind (thn h6 fun _ s7 ⟨x, H7, I7, r7, y7, st7, fr7⟩ => ?_)
      have I7' := I7.pinned (fpok fr7) (T.obj _ _ st7)
      refine wpAny_bind (wpAny_mono (hg _ s7 _ H7 x u _ I7' r7 (hlow _ _ _ _ (step x H7 y7))) (fun _ s8 ⟨σ8, H8, I8, q8, ql, qk⟩ => ?_) fun _ _ z => z.elim)
      have wk : ∀ {pl : List (Addr × Obj)} {H9 : Hp} {s9 : Shared}, Inv (compCx X N2 scope cl C s2 H2 fp) pl σ8 H9 s9 → Inv (compCx X N2 scope cl C s2 H2 fp) pl (capS k caps σ) H9 s9 := fun {pl H9 s9} I9 =>
        I9.weak ql.symm fun i v e => by
          obtain ⟨j, a, rfl, _, _⟩ := capS_ge e
          rw [qk (k + j) (Nat.le_add_right _ _)]; exact e
      have pinD : ∀ {pl : List (Addr × Obj)} {σ9 : St} {H9 : Hp} {s9 : Shared}, Inv (compCx X N2 scope cl C s2 H2 fp) (((D, ({ cls := .type "list", data := .seq its.toArray nn } : Obj)) :: []) ++ pl) σ9 H9 s9 → s9.heap.get? D = some { cls := .type "list", data := .seq its.toArray nn } ∧ H9 D = none := fun {pl σ9 H9 s9} I9 => by
        obtain ⟨e1, e2, _⟩ := I9.pin (D, _) (List.mem_append_right _ (List.mem_append_left _ (List.mem_singleton.mpr rfl)))
        exact ⟨e1, e2⟩
      have stn : ∀ {pl : List (Addr × Obj)} {σ9 : St} {H9 : Hp} {s9 : Shared}, Inv (compCx X N2 scope cl C s2 H2 fp) (pl ++ pinsAt fp s7.heap) σ9 H9 s9 → tn (i + 1) s9.heap ∧ ∀ b ∈ fp, H9 b = none := fun {pl σ9 H9 s9} I9 => by
        refine ⟨T.keep _ _ _ st7 fun b hbf o e => (I9.pin (b, o) (List.mem_append_right _ (List.mem_append_right _ (mem_pinsAt hbf e)))).1, fun b hbf => ?_⟩
        obtain ⟨o, e, d⟩ := T.obj _ _ st7 b hbf
        exact (I9.pin (b, o) (List.mem_append_right _ (List.mem_append_right _ (mem_pinsAt hbf e)))).2.1
      refine wpAny_bind (wpAny_mono (ht _ s8 σ8 H8 _ I8 q8) (fun ok s9 ⟨H9, I9, q9⟩ => ?_) fun _ _ z => z.elim)
      cases ok with
      | false =>
        obtain ⟨m', hm, w9⟩ := (by simpa using q9 : ∃ m', m' < n ∧ W (i + 1) m' ys H9)
        refine wpAny_pure ⟨rfl, m', hm, i + 1, ys, its, nn, H9, wk I9.unpinned, rv, (stn I9).1, (stn I9).2, hz, w9⟩
      | true =>
        have q9' : te σ8 H9 fun v H4 => ∃ m', m' < n ∧ W (i + 1) m' (ys ++ [v]) H4 := by simpa using q9
        refine wpAny_bind (wpAny_bind (wpAny_mono (he _ s9 σ8 H9 _ I9 q9') (fun y s10 ⟨v, H10, I10, r10, q10⟩ => wpAny_bind ?_) fun _ _ z => z.elim))
        obtain ⟨m', hm, w10⟩ := q10
        obtain ⟨eD, nD⟩ := pinD I10
        have hl := rv.length
        refine call_meets F.slot_list_append ⟨_, eD, rfl⟩ F.entry_list_append (F.args_list_append_2 _ _) (PySem.list_append D its.toArray nn y (by rw [List.size_toArray]; omega)) ⟨eD, ?_⟩
        refine wpAny_pure (wpAny_pure ⟨rfl, m', hm, ?_⟩)
        obtain ⟨n2, qD⟩ : ∃ n2, (s10.heap.update D (Obj.mapSeq fun z => z.push y)).get? D = some { cls := .type "list", data := .seq (its ++ [y]).toArray n2 } := by
          have q0 := PySem.IsL.update eD (fun z => z.push y)
          have hf : its.toArray.push y = (its ++ [y]).toArray := by simp
          rw [hf] at q0
          exact ⟨_, q0⟩
        have J0 : Inv (compCx X N2 scope cl C s2 H2 fp) (pinsAt fp s7.heap) (capS k caps σ) H10 s10 := wk (I10.pins_of fun p hp => I10.pin p (List.mem_append_right _ (List.mem_append_right _ hp)))
        have J1 : Inv (compCx X N2 scope cl C s2 H2 fp) (pinsAt fp s7.heap) (capS k caps σ) H10 { s10 with heap := s10.heap.update D (Obj.mapSeq fun z => z.push y), toks := s10.toks } := by
          refine J0.turned (fun b o hne e => (Heap.get?_update_other s10.heap _ (Ne.symm hne)).trans e) nD hDC (.inr szD) (fun x c e z => ?_) fun p hp z => ?_
          · obtain ⟨o, ho⟩ := okc x c (hcl x c e)
            exact (below c o ho).2 z
          · have hp' : p ∈ pinsAt fp s7.heap := hp
            obtain ⟨ob, e⟩ := f2h p.1 (of_pinsAt hp').1
            exact (below p.1 ob e).2 z
        have J2 : Inv (compCx X N2 scope cl C s2 H2 fp) [(D, { cls := .type "list", data := .seq (its ++ [y]).toArray n2 })] (capS k caps σ) H10 { s10 with heap := s10.heap.update D (Obj.mapSeq fun z => z.push y), toks := s10.toks } := by
          refine J1.pins_of fun p hp => ?_
          have e : p = (D, { cls := .type "list", data := .seq (its ++ [y]).toArray n2 }) := List.mem_singleton.mp hp
          subst e
          exact ⟨qD, nD, hDC, fun z => by
            rcases List.mem_cons.mp (I2.stkSub D z) with z | z
            · exact ad_ne I2.lt szD z.symm
            · exact I2.nofs szD z, fun v z => by cases z⟩
        refine ⟨i + 1, ys ++ [v], its ++ [y], _, H10, J2, rv.append (.cons r10 .nil), ?_, (stn I10).2, ?_, w10⟩
        · refine T.keep _ _ _ (stn I10).1 fun b hbf o e => ?_
          obtain ⟨ob, e'⟩ := f2h b hbf
          exact (Heap.get?_update_other s10.heap _ (Ne.symm (below b ob e').2)).trans e
        · rw [List.length_append, List.length_singleton]; omega
  have st1 : tn 0 h₁ := T.keep _ _ _ st2 fun b hbf o e => old b o e
  exact codeAny_compStart_list (loop _ (I4 _) st1) (T.self X.A 0 _ _ _ st1 (loop _ (I4 _) st1))

theorem pe_comp {elt tg iter : Expr} {ifs : List Expr} {scope : Scope} {pos : Pos} {N2 : List Str} {k : Nat} {caps : List Nat} {wi : TI} {g : TG} {tt : TT} {te : TE}
    (hc : X.calm = true) (hS : CompOk X.env.scope X.N N2 k caps scope) (hlow : Low k g) (hi : PI X tg iter wi)
    (hb : ∀ (cl : List (Str × Addr)) (C : Addr) (s : Shared) (H : Hp) (ex : List Addr), PG (compCx X N2 scope cl C s H ex) tg g ∧ PTs (compCx X N2 scope cl C s H ex) ifs tt ∧ PE (compCx X N2 scope cl C s H ex) elt te)
    (hs : ∀ x, foldedSetIterable iter X.env x = pure x := by intro _; rfl) : PE X (.ListComp elt [⟨tg, iter, ifs, 0⟩] scope pos) (tComp k caps wi g tt te) := by
  intro pins s σ H Q I h
  rw [eval_ListComp]
  obtain ⟨cl, hcl0, hcl, hcf⟩ := closure_of (scope := scope) (env := X.env) fun y hy e => I.ok.has y.1 (hS.free y hy e)
  refine wpAny_comprehension_free (use := none) rfl hs hcl0 hS.kind hS.loc ?_
  refine thn (hi pins s σ H _ I h) fun v s1 h1 => thn h1 fun itv s2 h2 => ?_
  obtain ⟨it, fp, tn, J, H2, e, I2, T, st2, f2, W, ⟨m0, w0⟩, turn⟩ := h2
  subst e
  refine comp_block (RR := fun acc C => compPost (model X.prog X.w) X.A X.xe none (EP X pins σ Q) acc C) (Qe := fun ys H => ∀ p, H p = none → Q (.ref p) (upd H p (.lst ys))) hc hS hlow hcl hcf hb I2 T st2 f2 w0 turn ?_
  intro D C s' H' ys hD hC hDC nD nC I' hn q
  obtain ⟨m, hn⟩ := hn
  refine ⟨m, hn, fun h' hsb => ⟨.ref D, _, ?_, rfl, q D nD⟩⟩
  refine I'.but hsb (by rw [upd_ne hDC]; exact nC) (fun z => ?_) (Nat.le_trans I2.sz hC) (fun x c e z => ?_) fun p hp z => ?_
  · exact ad_ne I2.lt hC z.symm
  · obtain ⟨v, o, ho, _⟩ := I2.cell x c e
    exact ad_ne (Heap.lt_size ho) hC z
  · exact ad_ne (Heap.lt_size (I2.pin p hp).1) hC z

/-- name = [..]: the block's names go behind the store -/
def tSetC (i : Nat) (t : TE) : TS := fun D σ H => t σ H fun v H1 => D.nx (σ.set i (some v)) H1
theorem ps_setC {elt tg iter : Expr} {ifs : List Expr} {scope : Scope} {pos py spos : Pos} {N2 : List Str} {k i : Nat} {y : Str} {caps : List Nat} {wi : TI} {g : TG} {tt : TT} {te : TE}
    (hc : X.calm = true) (hN : X.N.Nodup) (hi' : X.N[i]? = some y) (hS : CompOk X.env.scope X.N N2 k caps scope) (hlow : Low k g) (hi : PI X tg iter wi)
    (hb : ∀ (cl : List (Str × Addr)) (C : Addr) (s : Shared) (H : Hp) (ex : List Addr), PG (compCx X N2 scope cl C s H ex) tg g ∧ PTs (compCx X N2 scope cl C s H ex) ifs tt ∧ PE (compCx X N2 scope cl C s H ex) elt te)
    (hx : X.env.scope.names.lookup y = some .local := by rfl) (hsw : swapsWith (.ListComp elt [⟨tg, iter, ifs, 0⟩] scope pos) (some (.Name y py)) spos.line X.env = pure true := by rfl)
    (hs : ∀ x, foldedSetIterable iter X.env x = pure x := by intro _; rfl) : PS X (.Assign [.Name y py] (.ListComp elt [⟨tg, iter, ifs, 0⟩] scope pos) spos) (tSetC i (tComp k caps wi g tt te)) := by
  intro pins s σ H D0 I h
  obtain ⟨cl, hcl0, hcl, hcf⟩ := closure_of (scope := scope) (env := X.env) fun y hy e => I.ok.has y.1 (hS.free y hy e)
  rw [exec_Assign_Name_used _ _ _ _ hsw]
  refine wpAny_bind (wpAny_standAt (wpAny_bind ?_))
  show wpAny _ X.A (do let _ ← comprehension (.ListComp elt [⟨tg, iter, ifs, 0⟩] scope pos) scope X.env _ (newList []) false (eval iter X.env) (some (assign (.Name y py) X.env))) _ _ s
  refine wpAny_bind (wpAny_mono (wpAny_comprehension_free (use := some (assign (.Name y py) X.env)) (Q := fun _ s' => SP X pins D0 .next s') rfl hs hcl0 hS.kind hS.loc ?_) (fun _ s' hq => wpAny_pure (wpAny_pure hq)) fun _ _ e => e)
  refine thn (hi pins s σ H _ I h) fun v s1 h1 => thn h1 fun itv s2 h2 => ?_
  obtain ⟨it, fp, tn, J, H2, e, I2, T, st2, f2, W, ⟨m0, w0⟩, turn⟩ := h2
  subst e
  refine comp_block (RR := fun acc C => compPost (model X.prog X.w) X.A X.xe (some (assign (.Name y py) X.env)) (fun _ s' => SP X pins D0 .next s') acc C)
    (Qe := fun ys H => ∀ p, H p = none → D0.nx (σ.set i (some (.ref p))) (upd H p (.lst ys))) hc hS hlow hcl hcf hb I2 T st2 f2 w0 turn ?_
  intro D C s' H' ys hD hC hDC nD nC I' hn q
  obtain ⟨m, hn⟩ := hn
  show wpAny _ X.A (assign (.Name y py) X.env (.ref D)) _ _ _
  refine wpAny_assign_Name (store_ok2 (v := .ref D) I' hN hi' (.inl hx) rfl (fun s'' I'' ⟨a, hsb, ha⟩ => ?_) (.inr hx))
  have hLC : C ≠ X.env.locals := fun z => ad_ne I2.lt hC z.symm
  have hcC : ∀ x c, X.env.cells.lookup x = some c → c ≠ C := fun x c e z => by
    obtain ⟨v, o, ho, _⟩ := I2.cell x c e
    exact ad_ne (Heap.lt_size ho) hC z
  have haC : C ≠ a := by
    rcases ha with z | z
    · rw [z]; exact hLC
    · exact fun e => hcC y a z e.symm
  refine ⟨m, hn.sameBut hsb haC, fun h' hsb' => ?_⟩
  refine ⟨_, _, I''.but hsb' (by rw [upd_ne hDC]; exact nC) hLC (Nat.le_trans I2.sz hC) hcC fun p hp z => ?_, q D nD⟩
  exact ad_ne (Heap.lt_size (I2.pin p hp).1) hC z
end
end L2
end
section
set_option Elab.async false
set_option maxRecDepth 10000
set_option linter.all false
/-! ## Own words over the hand layer, 2: sets of ints, data, isinstance, all -/
namespace L2
open PySem PySem.Spec PyProof.Rows

/-! ### a new object at any free address -/
theorem ObjOk.obj {P : Program} {w : World} {H : Hp} {h : Heap} {a : Addr} {o : HO} (x : ObjOk P w H h a o) : ∃ ob, h.get? a = some ob := by
  cases o with
  | lst xs => obtain ⟨_, _, _, _, e⟩ := x; exact ⟨_, e⟩
  | tup xs => obtain ⟨_, _, _, ob, e, _⟩ := x; exact ⟨ob, e⟩
  | dK kvs => obtain ⟨_, _, _, _, o, _, _, e, _⟩ := x; exact ⟨o, e⟩
  | dT kvs => obtain ⟨_, _, _, _, o, _, _, e, _⟩ := x; exact ⟨o, e⟩
  | set S n => obtain ⟨o, _, _, _, e, _⟩ := x; exact ⟨o, e⟩
  | ins C dx fs => obtain ⟨_, _, _, e, _⟩ := x; exact ⟨_, e⟩
  | own y => exact x
  | xd fs => obtain ⟨_, ⟨o, _, _, e, _⟩, _⟩ := x; exact ⟨o, e⟩
  | rng lo hi => obtain ⟨_, _, _, e⟩ := x; exact ⟨_, e⟩
  | frz ob u => obtain ⟨e, _⟩ := x; exact ⟨_, e⟩
  | tbl ps => exact ⟨_, x⟩
  | met f y => exact ⟨_, x⟩
  | ext φ => obtain ⟨_, e, _⟩ := x; exact e
section
variable {X : Cx} {pins : List (Addr × Obj)} {σ : St} {H : Hp} {s : Shared}
theorem Inv.none_at (I : Inv X pins σ H s) {a : Addr} (h : s.heap.get? a = none) : H a = none := by
  cases q : H a with
  | none => rfl
  | some o =>
    obtain ⟨ob, e⟩ := (I.hok a o q).obj
    rw [h] at e; cases e
/-- a new object laid at a, the drawn lots may have moved -/
theorem Inv.laidN {a : Addr} {o : HO} {h' : Heap} {d' : Drawn} {t' : Nat} (I : Inv X pins σ H s) (k : ∀ b u, s.heap.get? b = some u → h'.get? b = some u) (hn : s.heap.get? a = none) (hsy : sysModules ≠ a) (new : ObjOk X.prog X.w (upd H a o) h' a o) :
    Inv X pins σ (upd H a o) { s with heap := h', drawn := d', toks := t' } := by
  have hH := I.none_at hn
  have ne : ∀ b u, s.heap.get? b = some u → b ≠ a := fun b u e z => by rw [z, hn] at e; cases e
  refine I.step (g' := s.gens) (ch := []) (fun _ z => nomatch z) (fun b u _ _ _ e _ => k b u e) (fun b u _ _ _ e _ => ⟨u.slots, k b u e⟩) (fun b u _ e n => by rw [upd_ne (ne b u e)]; exact n) (fun b u _ e => ⟨u, k b u e⟩)
    (fun b xs e => by rw [upd_ne (ne_of_none e hH)]; exact e) (fun b u xs e => by rw [upd_ne (ne_of_none e hH)]; exact e) (fun b ps e => ⟨#[], by rw [upd_ne (ne_of_none e hH), e]; simp⟩) (fun m hm => ?_) (fun b u e => ?_) I.bare (fun n => by rw [upd_ne hsy]; exact n)
  · obtain ⟨ob, es, ep, e, r⟩ := hm
    exact ⟨ob, es, ep, k _ _ e, r⟩
  · by_cases hb : b = a
    · subst hb; rw [upd_same] at e; cases e; exact new
    · rw [upd_ne hb] at e
      exact (I.hok b u e).stay (fun c v _ q => k c v q) (fun c q => by rw [upd_ne (ne_of_none q hH)]; exact q) fun c xs q => by rw [upd_ne (ne_of_none q hH)]; exact q
end

/-! ### set(l), sorted of it -/
def setO (P : Program) (w : World) (a : Addr) (ds : List Int) : HO := .ext fun h => SetP.SetT P w h a ds
theorem setO_ok {P : Program} {w : World} {H : Hp} {h : Heap} {a : Addr} {ds : List Int} (x : SetP.SetT P w h a ds) : ObjOk P w H h a (setO P w a ds) :=
  ⟨x, (by obtain ⟨_, o, _, _, _, e, _⟩ := x; exact ⟨o, e⟩), fun h1 h2 y k => y.sameBut k⟩
section
variable {X : Cx}
theorem call_set (hc : X.calm = true) : CallR X (.type "set") (fun xs H Q => ∃ p ns, xs = [.ref p] ∧ SqL X.K H p (ns.map V.int) ∧ ns.length < 1000 ∧ ∀ a, H a = none → Q (.ref a) (upd H a (setO X.prog X.w a (SetP.once ns)))) := by
  intro pins s σ H xs us Q I r h
  obtain ⟨p, ns, rfl, hq, hl, q⟩ := h
  obtain ⟨u, rfl, rx⟩ := vals1 r
  cases rx
  obtain ⟨its, rv, pl, hz⟩ := I.list hq
  have hlen := rv.length
  rw [List.length_map] at hlen
  refine SetP.setOf_T (I.ok.hd hc) pl.isList (by simpa using intsAre_of rv) (by rw [List.size_toArray, ← hlen]; unfold scanBound; omega) fun h' tk k T => ?_
  have hn : s.heap.get? s.heap.objs.size = none := Heap.get?_none_of_le (Nat.le_refl _)
  exact ⟨.ref s.heap.objs.size, _, I.laidN (d' := s.drawn) (t' := tk) k hn (Nat.ne_of_lt I.bigS) (setO_ok T), rfl, q _ (I.hok.fresh (Nat.le_refl _))⟩
theorem call_sortedSet (hc : X.calm = true) : CallR X (.builtin "sorted") (fun xs H Q => ∃ (a : Addr) (ds : List Int), xs = [.ref a] ∧ H a = some (setO X.prog X.w a ds) ∧ ds.length < 64 ∧
    ∀ (l : Addr) (ns : List Int), H l = none → ns.Perm ds → ns.Pairwise (· ≤ ·) → Q (.ref l) (upd H l (.lst (ns.map V.int)))) := by
  intro pins s σ H xs us Q I r h
  obtain ⟨a, ds, rfl, hH, hl, q⟩ := h
  obtain ⟨u, rfl, rx⟩ := vals1 r
  cases rx
  obtain ⟨T, _, _⟩ := (show ObjOk X.prog X.w H s.heap a (setO X.prog X.w a ds) from I.hok a _ hH)
  refine SetP.sorted_T (I.ok.hd hc) T hl fun h' d' tk l vs ns n k hb e hi hp hs => ?_
  have hn : s.heap.get? l = none := by
    cases q : s.heap.get? l with
    | none => rfl
    | some o => exact absurd (hb l o q) (Nat.lt_irrefl _)
  have hsy : sysModules ≠ l := by
    obtain ⟨o, _, _, e, _⟩ := I.ok.mod.glob
    exact Nat.ne_of_lt (Nat.lt_trans (by decide : (1 : Nat) < 3) (hb _ _ (I.bk _ _ e)))
  have hlen : ns.length < 64 := by rw [hp.length_eq]; exact hl
  refine ⟨.ref l, _, I.laidN (d' := d') (t' := tk) (o := .lst (ns.map V.int)) k hn hsy ⟨?_, vs.toList, n, vals_ints hi, by simpa using e⟩, rfl, q l ns (I.none_at hn) hp hs⟩
  rw [List.length_map]
  exact Nat.le_of_lt (small1000 (by omega))

/-! ### all, any of a list of bools -/
theorem truth_bools {prog : Program} {w : World} {A : Around} {bs : List Bool} {its : List Value} (r : Vals (bs.map V.bl) its) : TruthOf prog w A (fun i v => its.toArray[i]? = some v) (fun i => bs.getD i false) := by
  intro i v s Q E hP h
  rw [List.getElem?_toArray] at hP
  have hlen := r.length
  rw [List.length_map] at hlen
  have hi : i < bs.length := by rw [hlen]; exact (List.getElem?_eq_some_iff.mp hP).1
  obtain ⟨u, e, ru⟩ := r.get (i := i) (x := .bl bs[i]) (by rw [List.getElem?_map, List.getElem?_eq_getElem hi]; rfl)
  rw [e] at hP; cases hP
  have ru' : v = Value.bool bs[i] := ru
  subst ru'
  have e2 : bs.getD i false = bs[i] := by rw [List.getD_eq_getElem?_getD, List.getElem?_eq_getElem hi]; rfl
  have h : Q (bs.getD i false) s := h
  rw [e2] at h
  exact wpAny_truthy_bool h
theorem all_range (bs : List Bool) : (List.range bs.length).all (fun i => bs.getD i false) = bs.all id := by
  rw [Bool.eq_iff_iff, List.all_eq_true, List.all_eq_true]
  constructor
  · intro h b hb
    obtain ⟨i, hi⟩ := List.mem_iff_getElem?.mp hb
    have q := h i (List.mem_range.mpr (List.getElem?_eq_some_iff.mp hi).1)
    rw [List.getD_eq_getElem?_getD, hi] at q
    exact q
  · intro h i hi
    have hi' := List.mem_range.mp hi
    rw [List.getD_eq_getElem?_getD, List.getElem?_eq_getElem hi']
    exact h _ (List.getElem_mem hi')
theorem call_all (hc : X.calm = true) : CallR X (.builtin "all") (fun xs H Q => ∃ (p : Addr) (bs : List Bool), xs = [.ref p] ∧ SqL X.K H p (bs.map V.bl) ∧ Q (.bl (bs.all id)) H) := by
  intro pins s σ H xs us Q I r h
  obtain ⟨p, bs, rfl, hq, q⟩ := h
  obtain ⟨u, rfl, rx⟩ := vals1 r
  cases rx
  obtain ⟨its, rv, pl, hz⟩ := I.list hq
  have hlen := rv.length
  rw [List.length_map] at hlen
  have hl := pl.isList
  have hlt : p < s.heap.objs.size := by obtain ⟨o, ho, _⟩ := hl; exact Heap.lt_size ho
  refine call_all_walk (wpAny_pyIter_list hl ?_)
  refine ⟨s.heap.objs.size, [s.heap.objs.size, p], [s.heap.objs.size], its.toArray.size, _, _, fun i => bs.getD i false, rfl, Walks.list (by simpa using I.ok.hd hc) s.heap.objs.size p (Nat.ne_of_lt hlt) its.toArray, ⟨⟨_, Heap.get?_push_size _ rfl, rfl, rfl⟩, hl.push _⟩, truth_bools rv, fun h' tk k => ?_⟩
  refine ⟨.bl (bs.all id), H, I.kept (h' := h') (t' := tk) fun b o e => k b o (fun z => ?_) (Heap.get?_push_of_some _ e), ?_, q⟩
  · exact absurd (List.mem_singleton.mp z) (Nat.ne_of_lt (Heap.lt_size e))
  · show Value.bool _ = Value.bool _
    rw [List.size_toArray, ← hlen, all_range]

/-! ### isinstance -/
theorem kit_ty {K : PySem.W.Frag} {a b : String} {r : Bool} (h : (if (Value.type a == Value.type b) = true then some true else if PySem.W.kitMeta b = true then (PySem.fastBuiltinMro a).map (·.contains (.type b)) else none) = some r) : PySem.W.kitOne K (.type a) (.type b) = some r := h
theorem call_isinst : CallR X (.builtin "isinstance") (fun xs H Q => ∃ (x : V) (T : String) (t : Value) (b : Bool), xs = [x, .ty T] ∧ TyOf X.K H x t ∧ PySem.W.kitOne X.K t (.type T) = some b ∧ Q (.bl b) H) := by
  intro pins s σ H xs us Q I r h
  obtain ⟨x, T, t, b, rfl, ty, e, q⟩ := h
  obtain ⟨u, w', rfl, rx, rt⟩ := vals2 r
  cases (show w' = Value.type T from rt)
  exact isinst_ok I rx ty e fun tk => ⟨.bl b, H, I.tok tk, rfl, q⟩

/-! ### x is True, x is False -/
theorem op_is_bl : OpR X (compareOp .Is) (fun x y H Q => ∃ (c d : Bool), x = .bl c ∧ y = .bl d ∧ Q (.bl (decide (c = d))) H) := by
  intro pins s σ H x y v u Q I rx ry h
  obtain ⟨c, d, rfl, rfl, q⟩ := h
  cases (show v = Value.bool c from rx)
  cases (show u = Value.bool d from ry)
  refine is_bool ⟨.bl (decide (c = d)), H, I, ?_, q⟩
  show Value.bool _ = Value.bool _
  cases c <;> cases d <;> rfl

/-! ### list(range) -/
theorem call_range1 : CallR X (.type "range") (fun xs H Q => ∃ (n : Int), xs = [.int n] ∧ ∀ p, H p = none → Q (.ref p) (upd H p (.rng 0 n))) := by
  intro pins s σ H xs us Q I r h
  obtain ⟨n, rfl, q⟩ := h
  obtain ⟨u, rfl, rx⟩ := vals1 r
  obtain ⟨t, rfl⟩ := (show ∃ t, u = Value.int n t from rx)
  exact call_range_1 ⟨.ref s.heap.objs.size, _, I.laid (o := .rng 0 n) (fun _ _ e => Heap.get?_push_of_some _ e) (Nat.le_refl _) ⟨_, _, _, Heap.get?_push_size _ rfl⟩, rfl, q _ (I.hok.fresh (Nat.le_refl _))⟩
theorem call_range2 : CallR X (.type "range") (fun xs H Q => ∃ (a b : Int), xs = [.int a, .int b] ∧ ∀ p, H p = none → Q (.ref p) (upd H p (.rng a b))) := by
  intro pins s σ H xs us Q I r h
  obtain ⟨a, b, rfl, q⟩ := h
  obtain ⟨u, w', rfl, rx, ry⟩ := vals2 r
  obtain ⟨t, rfl⟩ := (show ∃ t, u = Value.int a t from rx)
  obtain ⟨t', rfl⟩ := (show ∃ t, w' = Value.int b t from ry)
  exact call_range_2 ⟨.ref s.heap.objs.size, _, I.laid (o := .rng a b) (fun _ _ e => Heap.get?_push_of_some _ e) (Nat.le_refl _) ⟨_, _, _, Heap.get?_push_size _ rfl⟩, rfl, q _ (I.hok.fresh (Nat.le_refl _))⟩
/-- lo, lo + 1, .., n of them -/
def upTo (lo : Int) (n : Nat) : List Int := (List.range n).map fun (i : Nat) => lo + i
theorem call_listRange (hc : X.calm = true) : CallR X (.type "list") (fun xs H Q => ∃ (r : Addr) (lo hi : Int), xs = [.ref r] ∧ H r = some (.rng lo hi) ∧ -(2 ^ 62) ≤ lo ∧ lo < 2 ^ 62 ∧ -(2 ^ 62) ≤ hi ∧ hi < 2 ^ 62 ∧ (hi - lo).toNat ≤ 1000 ∧
    ∀ l, H l = none → Q (.ref l) (upd H l (.lst ((upTo lo (hi - lo).toNat).map V.int)))) := by
  intro pins s σ H xs us Q I rr h
  obtain ⟨r, lo, hi, rfl, hH, h1, h2, h3, h4, h5, q⟩ := h
  obtain ⟨u, rfl, rx⟩ := vals1 rr
  cases rx
  obtain ⟨t, u, v, e⟩ := (show ObjOk X.prog X.w H s.heap r (.rng lo hi) from I.hok r _ hH)
  have hsz : Builtin.Range.rangeSize lo hi 1 = (((hi - lo).toNat : Nat) : Int) := by rw [rangeSize_one]; split <;> omega
  refine call_list_range (a := lo) (b := hi) (c := 1) (I.ok.hd hc) e (small_one h1 h2 h3 h4) hsz (by omega) fun h' tk acc c k eS hacc => ?_
  refine ⟨.ref s.heap.objs.size, _, I.laid (o := .lst ((upTo lo (hi - lo).toNat).map V.int)) (t' := tk) k (Nat.le_refl _) ⟨?_, acc.toList, c, ?_, by simpa using eS⟩, rfl, q _ (I.hok.fresh (Nat.le_refl _))⟩
  · unfold upTo
    rw [List.length_map, List.length_map, List.length_range]
    exact Nat.le_of_lt (small1000 h5)
  · have gen : ∀ (l : List Value) (j : Nat), (∀ (i : Nat) (v : Value), l[i]? = some v → ∃ t, v = Value.int (lo + ((i + j : Nat) : Int)) t) → Vals (((List.range' j l.length).map fun (i : Nat) => lo + i).map V.int) l := by
      intro l
      induction l with
      | nil => intro j _; exact .nil
      | cons x r ih =>
        intro j hx
        obtain ⟨t, e⟩ := hx 0 x rfl
        subst e
        rw [List.length_cons, List.range'_succ]
        refine .cons ⟨t, by simp⟩ (ih (j + 1) fun i v hv => ?_)
        obtain ⟨t', e'⟩ := hx (i + 1) v (by simpa using hv)
        exact ⟨t', by rw [e', show i + 1 + j = i + (j + 1) by omega]⟩
    have q2 := gen acc.toList 0 fun i v hv => by
      obtain ⟨t', e'⟩ := hacc.2 i v (by simpa using hv)
      exact ⟨t', by rw [e']; simp⟩
    have el : acc.toList.length = (hi - lo).toNat := by simpa using hacc.1
    rw [el, ← List.range_eq_range'] at q2
    exact q2

/-! ### {} -/
theorem Inv.big {pins : List (Addr × Obj)} {σ : St} {H : Hp} {s : Shared} (I : Inv X pins σ H s) : sysModules < s.heap.objs.size := by
  obtain ⟨o, _, _, e, _⟩ := I.ok.mod.glob
  exact Nat.lt_trans (by decide : (1 : Nat) < 3) (Heap.lt_size (I.bk _ _ e))
theorem pe_dnew {pos : Pos} : PE X (.Dict [] [] pos) (fun _ H Q => ∀ p, H p = none → Q (.ref p) (upd H p (.dK []))) := fun pins s σ H Q I h =>
  wpAny_Dict_empty ⟨.ref s.heap.objs.size, _, I.laid (a := s.heap.objs.size) (o := .dK []) (t' := s.toks) (fun _ _ q => Heap.get?_push_of_some _ q) (Nat.le_refl _)
    ⟨by simp, by simpa using (Nat.ne_of_gt I.big), [], .nil, Heap.DictOf.new _⟩, rfl, h _ (I.hok.fresh (Nat.le_refl _))⟩
end
end L2
end
section
set_option Elab.async false
set_option maxRecDepth 10000
set_option linter.all false
/-! ## Own words over the hand layer, 3: data as trees; repr, == of it; a dict of the module -/
namespace L2
open PySem PySem.Spec PyProof.Rows

mutual
/-- the value stands for the datum -/
inductive Tr (N : Addr → Prop) (H : Hp) : V → PyData → Prop
  | non : Tr N H .non .none
  | bl (b : Bool) : Tr N H (.bl b) (.bool b)
  | int (i : Int) : Tr N H (.int i) (.int i)
  | str (x : Str) : Tr N H (.str x) (.str x)
  | lst {a : Addr} {xs : List V} {ds : List PyData} : N a → H a = some (.lst xs) → TrAll N H xs ds → Tr N H (.ref a) (.list ds)
  | tup {a : Addr} {xs : List V} {ds : List PyData} : N a → H a = some (.tup xs) → TrAll N H xs ds → Tr N H (.ref a) (.tuple ds)
  | dct {a : Addr} : N a → H a = some (.dK []) → Tr N H (.ref a) (.dict [])
inductive TrAll (N : Addr → Prop) (H : Hp) : List V → List PyData → Prop
  | nil : TrAll N H [] []
  | cons {x : V} {d : PyData} {xs : List V} {ds : List PyData} : Tr N H x d → TrAll N H xs ds → TrAll N H (x :: xs) (d :: ds)
end

section
variable {N N' : Addr → Prop} {H H' : Hp}
theorem TrAll.length : ∀ {xs : List V} {ds : List PyData}, TrAll N H xs ds → xs.length = ds.length
  | _, _, .nil => rfl
  | _, _, .cons _ t => by rw [List.length_cons, List.length_cons, TrAll.length t]
theorem TrAll.append : ∀ {xs ys : List V} {ds es : List PyData}, TrAll N H xs ds → TrAll N H ys es → TrAll N H (xs ++ ys) (ds ++ es)
  | _, _, _, _, .nil, t => t
  | _, _, _, _, .cons r s, t => .cons r (TrAll.append s t)
theorem TrAll.take : ∀ {xs : List V} {ds : List PyData} (n : Nat), TrAll N H xs ds → TrAll N H (xs.take n) (ds.take n)
  | _, _, 0, _ => .nil
  | _, _, _ + 1, .nil => .nil
  | _, _, n + 1, .cons r t => .cons r (TrAll.take n t)
theorem TrAll.drop : ∀ {xs : List V} {ds : List PyData} (n : Nat), TrAll N H xs ds → TrAll N H (xs.drop n) (ds.drop n)
  | _, _, 0, r => r
  | _, _, _ + 1, .nil => .nil
  | _, _, n + 1, .cons _ t => TrAll.drop n t
theorem TrAll.get : ∀ {xs : List V} {ds : List PyData} {i : Nat} {x : V}, TrAll N H xs ds → xs[i]? = some x → ∃ d, ds[i]? = some d ∧ Tr N H x d
  | _, _, _, _, .nil, e => by simp at e
  | _, _, 0, _, .cons r _, e => by simp at e; subst e; exact ⟨_, rfl, r⟩
  | _, _, i + 1, x, .cons _ t, e => by
    obtain ⟨d, h1, h2⟩ := TrAll.get (i := i) (x := x) t (by simpa using e)
    exact ⟨d, by simpa using h1, h2⟩
theorem TrAll.getD : ∀ {xs : List V} {ds : List PyData} {i : Nat} {d : PyData}, TrAll N H xs ds → ds[i]? = some d → ∃ x, xs[i]? = some x ∧ Tr N H x d
  | _, _, _, _, .nil, e => by simp at e
  | _, _, 0, _, .cons r _, e => by simp at e; subst e; exact ⟨_, rfl, r⟩
  | _, _, i + 1, d, .cons _ t, e => by
    obtain ⟨x, h1, h2⟩ := TrAll.getD (i := i) (d := d) t (by simpa using e)
    exact ⟨x, by simpa using h1, h2⟩
theorem TrAll.rev {xs : List V} {ds : List PyData} (h : TrAll N H xs ds) : TrAll N H xs.reverse ds.reverse := by
  have all : ∀ {xs : List V} {ds : List PyData} {ys : List V} {es : List PyData}, TrAll N H xs ds → TrAll N H ys es → TrAll N H (xs.reverse ++ ys) (ds.reverse ++ es) := by
    intro xs
    induction xs with
    | nil => intro ds ys es h t; cases h; exact t
    | cons x r ih =>
      intro ds ys es h t
      cases h with
      | cons hx hr =>
        rw [List.reverse_cons, List.reverse_cons, List.append_assoc, List.append_assoc]
        exact ih hr (.cons hx t)
  simpa using all h .nil
mutual
theorem Tr.keep (e : ∀ b o, N b → H b = some o → H' b = some o) : ∀ {v : V} {d : PyData}, Tr N H v d → Tr N H' v d
  | _, _, .non => .non
  | _, _, .bl b => .bl b
  | _, _, .int i => .int i
  | _, _, .str x => .str x
  | _, _, .lst n h t => .lst n (e _ _ n h) (TrAll.keep e t)
  | _, _, .tup n h t => .tup n (e _ _ n h) (TrAll.keep e t)
  | _, _, .dct n h => .dct n (e _ _ n h)
theorem TrAll.keep (e : ∀ b o, N b → H b = some o → H' b = some o) : ∀ {xs : List V} {ds : List PyData}, TrAll N H xs ds → TrAll N H' xs ds
  | _, _, .nil => .nil
  | _, _, .cons r t => .cons (Tr.keep e r) (TrAll.keep e t)
end
theorem Tr.same (e : Same H H') {v : V} {d : PyData} (t : Tr N H v d) : Tr N H' v d := t.keep fun b o _ h => e b o h
theorem TrAll.same (e : Same H H') {xs : List V} {ds : List PyData} (t : TrAll N H xs ds) : TrAll N H' xs ds := t.keep fun b o _ h => e b o h
end

section
variable {N : Addr → Prop} {P : Program} {w : World} {H : Hp} {h : Heap}
mutual
theorem Tr.reads (ok : HOk P w H h) (hs : H sysModules = none) : ∀ {v : V} {d : PyData}, Tr N H v d → ∀ u, RelV v u → ∃ as, Reads h u d as ∧ sysModules ∉ as
  | _, _, .non, u, r => ⟨[], by cases (show u = Value.none from r); exact .none, by simp⟩
  | _, _, .bl b, u, r => ⟨[], by cases (show u = Value.bool b from r); exact .bool b, by simp⟩
  | _, _, .int i, u, r => by obtain ⟨t, rfl⟩ := (show ∃ t, u = Value.int i t from r); exact ⟨[], .int i t, by simp⟩
  | _, _, .str x, u, r => by obtain ⟨t, rfl⟩ := (show ∃ t, u = Value.str x t from r); exact ⟨[], .str x t, by simp⟩
  | _, _, .lst (a := a) (xs := xs) (ds := ds) _ hH t, u, r => by
    cases (show u = Value.ref a from r)
    obtain ⟨_, its, n, rv, e⟩ := (show ObjOk P w H h a (.lst xs) from ok a _ hH)
    obtain ⟨as, ra, na⟩ := TrAll.reads ok hs t its rv
    refine ⟨a :: as, .list e rfl rfl (by simpa using ra), fun z => ?_⟩
    rcases List.mem_cons.mp z with z | z
    · rw [z] at hs; rw [hs] at hH; cases hH
    · exact na z
  | _, _, .tup (a := a) (xs := xs) (ds := ds) _ hH t, u, r => by
    cases (show u = Value.ref a from r)
    obtain ⟨_, its, rv, ob, e, c, n, d⟩ := (show ObjOk P w H h a (.tup xs) from ok a _ hH)
    obtain ⟨as, ra, na⟩ := TrAll.reads ok hs t its rv
    exact ⟨as, .tuple e c d (by simpa using ra), na⟩
  | _, _, .dct (a := a) _ hH, u, r => by
    cases (show u = Value.ref a from r)
    obtain ⟨_, y, vs, kv, o, es, ep, e, ex, d, el⟩ := (show ObjOk P w H h a (.dK []) from ok a _ hH)
    cases kv
    have e0 : es.toList = [] := by
      have q : Pairs (mixKind P w) es.toList [] := el.2.1
      generalize es.toList = l at q
      cases q
      rfl
    refine ⟨[a], .dict (as := []) (bs := []) e ex.1 d (by rw [e0]; exact .nil) (by rw [e0]; exact .nil), fun z => ?_⟩
    have z' := List.mem_singleton.mp z
    rw [← z'] at y
    simp at y
theorem TrAll.reads (ok : HOk P w H h) (hs : H sysModules = none) : ∀ {xs : List V} {ds : List PyData}, TrAll N H xs ds → ∀ us, Vals xs us → ∃ as, ReadsAll h us ds as ∧ sysModules ∉ as
  | _, _, .nil, us, r => by cases r; exact ⟨[], .nil, by simp⟩
  | _, _, .cons t ts, us, r => by
    cases r with
    | cons rx rr =>
      obtain ⟨as, ra, na⟩ := Tr.reads ok hs t _ rx
      obtain ⟨bs, rb, nb⟩ := TrAll.reads ok hs ts _ rr
      exact ⟨as ++ bs, .cons ra rb, fun z => (List.mem_append.mp z).elim na nb⟩
end
end

section
variable {X : Cx}
/-- repr(x) of a list or tuple -/
theorem call_repr {k : Nat} (hr : Room k X.A) : CallR X (.builtin "repr") (fun xs H Q => ∃ (N : Addr → Prop) (a : Addr) (d : PyData), xs = [.ref a] ∧ Tr N H (.ref a) d ∧ d.showable = true ∧ d.depth ≤ 60 ∧ d.shown.length ≤ sizeLine ∧ Q (.str d.shown) H) := by
  intro pins s σ H xs us Q I r h
  obtain ⟨N, a, d, rfl, t, h1, h2, h3, q⟩ := h
  obtain ⟨u, rfl, rx⟩ := vals1 r
  cases rx
  obtain ⟨as, ra, na⟩ := t.reads I.hok I.sysN (.ref a) rfl
  have hu := hr.un
  exact repr_of_reads' ra h1 (fun _ => na) hr.gd (by omega) (fun _ _ e => e) (fun h' u tk k => ⟨.str d.shown, H, I.kept (h' := h') (t' := tk) k, ⟨u, rfl⟩, q⟩) h3
/-- ==, != of data -/
theorem op_eqD {k : Nat} (hr : Room k X.A) : OpR X (compareOp .Eq) (fun x y H Q => ∃ (N N' : Addr → Prop) (d e : PyData), Tr N H x d ∧ Tr N' H y e ∧ SeqAt.shaped d = true ∧ SeqAt.shaped e = true ∧ Q (.bl (PyData.eqv d e)) H) := by
  intro pins s σ H x y v u Q I rx ry h
  obtain ⟨N, N', d, e, t1, t2, s1, s2, q⟩ := h
  obtain ⟨as, ra, _⟩ := t1.reads I.hok I.sysN v rx
  obtain ⟨bs, rb, _⟩ := t2.reads I.hok I.sysN u ry
  exact SeqAt.compareEq_shaped ra rb s1 s2 hr.units ⟨.bl _, H, I, rfl, q⟩
theorem op_neD {k : Nat} (hr : Room k X.A) : OpR X (compareOp .NotEq) (fun x y H Q => ∃ (N N' : Addr → Prop) (d e : PyData), Tr N H x d ∧ Tr N' H y e ∧ SeqAt.shaped d = true ∧ SeqAt.shaped e = true ∧ Q (.bl (!PyData.eqv d e)) H) := by
  intro pins s σ H x y v u Q I rx ry h
  obtain ⟨N, N', d, e, t1, t2, s1, s2, q⟩ := h
  obtain ⟨as, ra, _⟩ := t1.reads I.hok I.sysN v rx
  obtain ⟨bs, rb, _⟩ := t2.reads I.hok I.sysN u ry
  exact SeqAt.compareNe_shaped ra rb s1 s2 hr.units ⟨.bl _, H, I, rfl, q⟩
end
end L2
end
section
set_option Elab.async false
set_option maxRecDepth 10000
set_option linter.all false
/-! ## Own words over the hand layer, 4: tuples joined and cut, dicts of the module -/
namespace HT
open PySem PySem.Spec PyProof.Rows
section
variable {prog : Program} {w : World} {A : Around} {E : Value → Shared → Prop} {s : Shared}
theorem cat_tup0 {t b : Addr} {ws : List Value} {Q : Value → Shared → Prop} (ht : IsTup s.heap t ([] : List Value).toArray) (hb : IsTup s.heap b ws.toArray) (h : Q (.ref b) s) : wpAny (model prog w) A (binaryOp .Add (.ref t) (.ref b)) Q E s := by
  obtain ⟨⟨c1, d1, x1, sl1⟩, ho, hc, n, hd⟩ := id ht
  obtain ⟨⟨c2, d2, x2, sl2⟩, ho2, hc2, n2, hd2⟩ := id hb
  simp only at hc hd hc2 hd2
  subst hc hd hc2 hd2
  exact concat_meets ⟨_, ho, rfl⟩ ⟨_, ho2, rfl⟩ noFill_tuple_add seq_tuple_add PySem.F.slot_tuple_add PySem.F.entry_tuple_add (PySem.F.args_tuple_add_2 _ _) (tuple_addW0 t b _ ws.toArray n n2 d1 d2 sl1 sl2 (by simp)) ⟨ho, ho2, h⟩
theorem slice_whole {t sl : Addr} {items : Array Value} {vl vu : Value} {lo hi : Option Int} {Q : Value → Shared → Prop} (ht : IsTup s.heap t items) (hs : s.heap.IsSliceOf sl vl vu .none) (pl : IsPart vl lo) (pu : IsPart vu hi)
    (hw : sIx items.size 0 lo = 0 ∧ sIx items.size items.size hi = items.size) (h : Q (.ref t) s) : wpAny (model prog w) A (getItem (.ref t) (.ref sl)) Q E s := by
  obtain ⟨os, hos, hcs, hds⟩ := id hs
  have hTs : s.TypeIs (.ref sl) "slice" := ⟨os, hos, hcs⟩
  unfold getItem
  try with_reducible refine wpAny_holding ?_
  first | refine wpAny_bind (wpAny_pure ?_) | skip
  refine wpAny_bind (wpAny_sequenceKey ht.typeIs (by decide) ?_)
  refine wpAny_bind (wpAny_callSpecial?_slot (name := Str.ofString "__getitem__") ht.typeIs PyProof.Rows.slot_tuple_getitem (wpAny_call_entry PyProof.Rows.slot_tuple_getitem ht.typeIs entry_tuple_getitem ?_ (args_tuple_getitem _ _)))
  show wpAny _ _ (Builtin.Tuple.tupleItemsOf (.ref t) >>= _) _ _ s
  refine wpAny_bind (tupleItemsOf_ ht (wpAny_bind (wpAny_typeOf hTs ?_)))
  rw [if_pos (by decide)]
  refine wpAny_bind (sliceApplied_gen hs pl pu ?_)
  have yes : (((sIx items.size 0 lo : Nat) : Int) == 0 && (1 : Int) == 1 && (sIx items.size items.size hi - sIx items.size 0 lo) == items.size) = true := by
    rw [hw.1, hw.2]; simp
  show wpAny _ _ (if (((sIx items.size 0 lo : Nat) : Int) == 0 && (1 : Int) == 1 && (sIx items.size items.size hi - sIx items.size 0 lo) == items.size) = true then _ else _) _ _ s
  rw [if_pos yes]
  unfold Builtin.Tuple.tupleIsExact
  refine wpAny_bind (wpAny_bind (wpAny_typeOf ht.typeIs (wpAny_pure ?_)))
  rw [if_pos (by decide)]
  exact wpAny_bind (wpAny_rule (wpAny_pure ⟨_, rfl, wpAny_pure h⟩))
theorem pick_rev (xs : Array Value) : ((List.range xs.size).filterMap fun (m : Nat) => xs[(((xs.size : Int) - 1) + (m : Int) * (-1)).toNat]?) = xs.toList.reverse := by
  have e : ∀ m ∈ List.range xs.size, xs[(((xs.size : Int) - 1) + (m : Int) * (-1)).toNat]? = some (xs.toList.reverse.getD m .none) := fun m hm => by
    have hm' := List.mem_range.mp hm
    have q : (((xs.size : Int) - 1) + (m : Int) * (-1)).toNat = xs.size - 1 - m := by omega
    rw [q, Array.getElem?_eq_getElem (by omega), List.getD_eq_getElem?_getD, List.getElem?_reverse (by rw [Array.length_toList]; exact hm'), Array.length_toList, Array.getElem?_toList, Array.getElem?_eq_getElem (by omega)]
    rfl
  have all : ∀ (l : List Nat) (f : Nat → Option Value) (g : Nat → Value), (∀ m ∈ l, f m = some (g m)) → l.filterMap f = l.map g := by
    intro l f g
    induction l with
    | nil => intro _; rfl
    | cons a r ih =>
      intro h
      rw [List.filterMap_cons_some (h a List.mem_cons_self), List.map_cons, ih fun m hm => h m (List.mem_cons_of_mem _ hm)]
  rw [all _ _ _ e]
  have len : (List.map (fun m => xs.toList.reverse.getD m .none) (List.range xs.size)).length = xs.toList.reverse.length := by simp
  refine List.ext_getElem len fun j h1 h2 => ?_
  rw [List.getElem_map, List.getElem_range, List.getD_eq_getElem?_getD, List.getElem?_eq_getElem h2]
  rfl
theorem slice_rev {t sl : Addr} {items : Array Value} {t0 : Tok} {Q : Value → Shared → Prop} (ht : IsTup s.heap t items) (hs : s.heap.IsSliceOf sl .none .none (.int (-1) t0)) (hsz : items.size ≤ sizeLine)
    (h : Q (.ref s.heap.objs.size) { s with heap := s.heap.push { cls := .type "tuple", data := .seq items.toList.reverse.toArray } }) : wpAny (model prog w) A (getItem (.ref t) (.ref sl)) Q E s := by
  obtain ⟨os, hos, hcs, hds⟩ := id hs
  have hTs : s.TypeIs (.ref sl) "slice" := ⟨os, hos, hcs⟩
  have fits : sizeOk (.seq items.toList.reverse.toArray) := by
    show items.toList.reverse.toArray.size ≤ sizeLine
    simpa using hsz
  unfold getItem
  try with_reducible refine wpAny_holding ?_
  first | refine wpAny_bind (wpAny_pure ?_) | skip
  refine wpAny_bind (wpAny_sequenceKey ht.typeIs (by decide) ?_)
  refine wpAny_bind (wpAny_callSpecial?_slot (name := Str.ofString "__getitem__") ht.typeIs PyProof.Rows.slot_tuple_getitem (wpAny_call_entry PyProof.Rows.slot_tuple_getitem ht.typeIs entry_tuple_getitem ?_ (args_tuple_getitem _ _)))
  show wpAny _ _ (Builtin.Tuple.tupleItemsOf (.ref t) >>= _) _ _ s
  refine wpAny_bind (tupleItemsOf_ ht (wpAny_bind (wpAny_typeOf hTs ?_)))
  rw [if_pos (by decide)]
  refine wpAny_bind ?_
  unfold Builtin.Slice.sliceApplied Builtin.Slice.sliceFields
  refine wpAny_bind (wpAny_bind (wpAny_field hos hds (x := .none) rfl (wpAny_bind (wpAny_field hos hds (x := .none) rfl (wpAny_bind (wpAny_field hos hds (x := .int (-1) t0) rfl (wpAny_pure ?_)))))))
  refine wpAny_bind (slicePart_int ?_)
  show wpAny _ _ (if ((-1 : Int) == 0) = true then _ else _) _ _ s
  rw [if_neg (by decide)]
  refine wpAny_bind (slicePart_none (wpAny_bind (slicePart_none (wpAny_bind (wpAny_pure ?_)))))
  have adj : Builtin.Slice.sliceAdjust none none (-1) (items.size : Int) = ((items.size : Int) - 1, -1) := by
    unfold Builtin.Slice.sliceAdjust; simp
  show wpAny _ _ (match Builtin.Slice.sliceAdjust none none (-1) (items.size : Int) with | (lo, hi) => pure (lo, (-1 : Int), Builtin.Slice.slicePlaces lo hi (-1))) _ _ s
  rw [adj]
  have pl : Builtin.Slice.slicePlaces ((items.size : Int) - 1) (-1) (-1) = items.size := by
    unfold Builtin.Slice.slicePlaces
    rw [if_neg (by decide)]
    by_cases hz : (items.size : Int) - 1 > -1
    · rw [if_pos hz]
      have e1 : (-(-1 : Int)) = 1 := rfl
      rw [e1, Int.ediv_one]; omega
    · rw [if_neg hz]; omega
  dsimp only
  rw [pl]
  refine wpAny_pure ?_
  have no : ¬ ((((items.size : Int) - 1) == 0 && (-1 : Int) == 1 && items.size == items.size) = true) := by simp
  show wpAny _ _ (if (((items.size : Int) - 1) == 0 && (-1 : Int) == 1 && items.size == items.size) = true then _ else _) _ _ s
  rw [if_neg no, pick_rev]
  first
    | exact wpAny_bind (m := Builtin.Tuple.tupleExact _) (wpAny_newObj_type (wpAny_pure ⟨_, rfl, wpAny_pure h⟩) fits)
    | exact wpAny_bind (m := Builtin.Tuple.tupleExact _) (wpAny_newObj_type (wpAny_bind (wpAny_pure (wpAny_pure ⟨_, rfl, wpAny_pure h⟩))) fits)
    | exact wpAny_bind (wpAny_bind (m := Builtin.Tuple.tupleExact _) (wpAny_newObj_type (wpAny_pure ⟨_, rfl, wpAny_pure h⟩) fits))
end
end HT

namespace L2
open PySem PySem.Spec PyProof.Rows
theorem same_new {H : Hp} {p : Addr} (h : H p = none) (o : HO) : Same H (upd H p o) := fun b u q => by rw [upd_ne (ne_of_none q h)]; exact q
theorem cutV_whole (xs : List V) (lo hi : Option Int) (h : HT.sIx xs.length 0 lo = 0 ∧ HT.sIx xs.length xs.length hi = xs.length) : cutV xs lo hi = xs := by
  unfold cutV
  rw [h.1, h.2, List.drop_zero, Nat.sub_zero, List.take_length]
section
variable {X : Cx}
/-- t + u of any two -/
theorem op_catG : OpR X (binaryOp .Add) (fun x y H Q => ∃ (a b : Addr) (xs ys : List V), x = .ref a ∧ y = .ref b ∧ H a = some (.tup xs) ∧ H b = some (.tup ys) ∧ xs.length + ys.length ≤ sizeLine ∧ ∀ p H', Same H H' → H' p = some (.tup (xs ++ ys)) → Q (.ref p) H') := by
  intro pins s σ H x y v u Q I rx ry h
  obtain ⟨a, b, xs, ys, rfl, rfl, ha, hb, hz, q⟩ := h
  by_cases hx : xs = []
  · subst hx
    cases rx
    cases ry
    obtain ⟨its, r1, p1, _⟩ := I.tuple (SqT.of ha)
    obtain ⟨its2, r2, p2, _⟩ := I.tuple (SqT.of hb)
    cases r1
    exact HT.cat_tup0 p1 p2 ⟨.ref b, H, I, rfl, q b H (Same.refl H) hb⟩
  · refine op_catT pins s σ H _ _ v u Q I rx ry ⟨a, b, xs, ys, rfl, rfl, SqT.of ha, SqT.of hb, hx, hz, fun z => ?_, fun _ p hp => q p _ (same_new hp _) upd_same⟩
    subst z
    exact q a H (Same.refl H) (by rw [List.append_nil]; exact ha)
/-- t[lo:hi] -/
theorem sl_tupG : SlR X (fun x lo hi H Q => ∃ (a : Addr) (xs : List V), x = .ref a ∧ H a = some (.tup xs) ∧ ∀ p H', Same H H' → H' p = some (.tup (cutV xs lo hi)) → Q (.ref p) H') := by
  intro pins s σ H x v vl vu lo hi sl Q I rx hs pl pu h
  obtain ⟨a, xs, rfl, ha, q⟩ := h
  by_cases hw : HT.sIx xs.length 0 lo = 0 ∧ HT.sIx xs.length xs.length hi = xs.length
  · cases rx
    obtain ⟨its, r, ht, hz⟩ := I.tuple (SqT.of ha)
    have hlen : its.toArray.size = xs.length := by rw [List.size_toArray]; exact r.length.symm
    refine ⟨"tuple", _, PyProof.Rows.slot_tuple_getitem.lookup, ht.typeIs, ?_⟩
    exact HT.slice_whole ht hs pl pu (by rw [hlen]; exact hw) ⟨.ref a, H, I, rfl, q a H (Same.refl H) (by rw [cutV_whole xs lo hi hw]; exact ha)⟩
  · exact sl_tup pins s σ H _ v vl vu lo hi sl Q I rx hs pl pu ⟨a, xs, rfl, SqT.of ha, hw, fun p hp => q p _ (same_new hp _) upd_same⟩
/-- t[::-1] -/
theorem pe_rev {e : Expr} {te : TE} {j : Nat} {p0 p1 p2 pos : Pos} (he : PE X e te) : PE X (.Subscript e (.Slice none none (some (.UnaryOp .USub (.Constant (.int 1) j p0) p1)) p2) pos)
    (fun σ H Q => te σ H fun x H1 => ∃ (a : Addr) (xs : List V), x = .ref a ∧ H1 a = some (.tup xs) ∧ ∀ p, H1 p = none → Q (.ref p) (upd H1 p (.tup xs.reverse))) := by
  intro pins s σ H Q I h
  refine Subscript_ (thn (he pins s σ H _ I h) fun v s1 ⟨x, H1, I1, r1, q1⟩ => ?_)
  obtain ⟨a, xs, rfl, ha, q⟩ := q1
  cases r1
  refine wpAny_Slice ?_
  rw [evalPart_none]
  refine wpAny_pure (wpAny_pure ?_)
  rw [evalPart_some]
  refine thn (pe_un un_neg pe_int pins s1 σ H1 (fun x H2 => x = .int (-1) ∧ H2 = H1) I1 ⟨1, rfl, rfl, rfl⟩) fun u s2 ⟨y, H2, I2, r2, e1, e2⟩ => ?_
  subst e1 e2
  obtain ⟨t0, rfl⟩ := (show ∃ t, u = Value.int (-1) t from r2)
  have I4 : Inv X pins σ H2 { s2 with heap := s2.heap.push { cls := .type "slice", data := .fields #[.none, .none, .int (-1) t0] } } := I2.kept (t' := s2.toks) fun b ob q => Heap.get?_push_of_some _ q
  obtain ⟨its, rv, ht, hz⟩ := I4.tuple (SqT.of ha)
  have hlen := rv.length
  show wpAny (model X.prog X.w) X.A (subscriptTail e (.Slice none none (some (.UnaryOp .USub (.Constant (.int 1) j p0) p1)) p2) (.ref a) (.ref s2.heap.objs.size)) (EP X pins σ Q) X.xe { s2 with heap := s2.heap.push { cls := .type "slice", data := .fields #[.none, .none, .int (-1) t0] } }
  refine tail_any (ops := [.ref a, .ref s2.heap.objs.size]) ht.typeIs PyProof.Rows.slot_tuple_getitem.lookup ?_ (by with_unfolding_all rfl)
  refine HT.slice_rev ht (Heap.IsSliceOf.new ..) (by rw [List.size_toArray, ← hlen]; exact hz) ?_
  refine ⟨.ref _, _, I4.laid (t' := s2.toks) (o := .tup xs.reverse) (fun b ob q => Heap.get?_push_of_some _ q) (Nat.le_refl _) ?_, rfl, q _ (I4.hok.fresh (Nat.le_refl _))⟩
  exact ⟨by rw [List.length_reverse]; exact hz, its.reverse, rv.reverse, by rw [show its.reverse.toArray = its.toArray.toList.reverse.toArray by simp]; exact IsTup.new _ _⟩

/-! ### a dict of the module: x in D -/
theorem op_inTab {d : Addr} {D : List (PyData × PyData)} (hT : ∀ h, X.K.In h → IntTab X.prog X.w h d D) : OpR X (compareOp .In) (fun x y H Q => ∃ (i : Int), x = .int i ∧ y = .ref d ∧ Q (.bl (lookup (.int i) D).isSome) H) := by
  intro pins s σ H x y v u Q I rx ry h
  obtain ⟨i, rfl, rfl, q⟩ := h
  obtain ⟨t, rfl⟩ := (show ∃ t, v = Value.int i t from rx)
  cases ry
  exact in_intTab (hT _ I.kIn) ⟨.bl _, H, I.tok _, rfl, q⟩
/-- a dict of three ints by ints, as the top left it -/
theorem tab3 {P : Program} {w : World} {K : PySem.W.Frag} {d : Addr} {ep : Nat} {h1 h2 h3 k1 k2 k3 v1 v2 v3 : Int} {t1 t2 t3 u1 u2 u3 : Tok} (hd : (d == sysModules) = false)
    (l : K.lookup d = some { cls := .type "dict", data := .dict #[⟨h1, .int k1 t1, .int v1 u1⟩, ⟨h2, .int k2 t2, .int v2 u2⟩, ⟨h3, .int k3 t3, .int v3 u3⟩] ep })
    (e1 : h1 = hashInt k1) (e2 : h2 = hashInt k2) (e3 : h3 = hashInt k3) (nd : [k1, k2, k3].Nodup) : ∀ h, K.In h → IntTab P w h d [(.int k1, .int v1), (.int k2, .int v2), (.int k3, .int v3)] := by
  intro h kin
  refine ⟨hd, [(k1, .int v1 u1), (k2, .int v2 u2), (k3, .int v3 u3)], ⟨_, _, ep, kin _ _ l, ⟨rfl, rfl, rfl⟩, rfl, ?_, ?_, nd⟩, ?_⟩
  · intro e he
    simp only [List.mem_toArray, List.mem_cons, List.not_mem_nil, or_false] at he
    rcases he with z | z | z
    · subst z; exact ⟨k1, intKind_is P w k1 t1, e1⟩
    · subst z; exact ⟨k2, intKind_is P w k2 t2, e2⟩
    · subst z; exact ⟨k3, intKind_is P w k3 t3, e3⟩
  · exact .cons (intKind_is P w k1 t1) rfl (.cons (intKind_is P w k2 t2) rfl (.cons (intKind_is P w k3 t3) rfl .nil))
  · exact .cons (.int v1 u1) (.cons (.int v2 u2) (.cons (.int v3 u3) .nil))
end
end L2
end
section
set_option Elab.async false
set_option maxRecDepth 10000
set_option linter.all false
/-! ## Own words over the hand layer, 5: a def by its name; built-in names -/
namespace L2
open PySem PySem.Spec PyProof.Rows

/-- the def of that name stands at the top and keeps its promise with k calls -/
def Cal (P : Program) (w : World) (K : PySem.W.Frag) (mg : Str → Option Value) (base : Heap) (x : Str) (k : Nat) (ps : List Str) (sp : Sp) : Prop :=
  ∃ f fd, FnOk P w K mg base CX0 k f fd ps sp ∧ Binds K fd ps [] ∧ PySem.W.keepIn K (.ref f) = true ∧ mg x = some (.ref f)
section
variable {X : Cx}
theorem pe_callC {x : Str} {k k' : Nat} {ps : List Str} {sp : Sp} {e : Expr} {es : List Expr} {t : TA} {p pos : Pos} (c : Cal X.prog X.w X.K X.mg X.base x k ps sp) (hr : Room k' X.A) (hk : k ≤ k') (hg : Gl X x) (ha : PA X (e :: es) t)
    (hdb : (x == ("__debug__" : Str)) = false := by decide) (he : starEach (e :: es) X.env = (false, eval e X.env) :: starEach es X.env := by rfl) (hpl : (backTo pos (starEach es X.env)).any (·.1) = false := by rfl) :
    PE X (.Call (.Name x p) (e :: es) [] pos) (tCall sp [] E0 t) := by
  obtain ⟨f, fd, F, b, kp, m⟩ := c
  exact pe_call (F.mono hk) hr hg m kp b .nil pass0 ha hdb he hpl

/-- // by a positive divisor below 2^64 -/
theorem op_fdiv2 : OpR X (binaryOp .FloorDiv) (rI (fun _ j => 0 < j ∧ j < 2 ^ 64) fun i j => .int (i / j)) := opI fun i j _ _ _ _ _ hc q => by
  rw [← Int.fdiv_eq_ediv_of_nonneg _ (Int.le_of_lt hc.1)] at q
  refine floordiv_int (Int.ne_of_gt hc.1) q (.inl (PyProof.noPylong_of_log2 ?_))
  have h1 : j.natAbs < 2 ^ 64 := by omega
  have h2 : j.natAbs ≠ 0 := by omega
  exact Nat.lt_trans ((Nat.log2_lt h2).mpr h1) (by decide)
end

/-! ### the built-in names, as the text does not bind them -/
theorem bt_len : bootBuiltins "len" = some (.builtin "len") := by decide +kernel
theorem bt_isinstance : bootBuiltins "isinstance" = some (.builtin "isinstance") := by decide +kernel
theorem bt_all : bootBuiltins "all" = some (.builtin "all") := by decide +kernel
theorem bt_sorted : bootBuiltins "sorted" = some (.builtin "sorted") := by decide +kernel
theorem bt_min : bootBuiltins "min" = some (.builtin "min") := by decide +kernel
theorem bt_max : bootBuiltins "max" = some (.builtin "max") := by decide +kernel
theorem bt_abs : bootBuiltins "abs" = some (.builtin "abs") := by decide +kernel
theorem bt_repr : bootBuiltins "repr" = some (.builtin "repr") := by decide +kernel
theorem bt_set : bootBuiltins "set" = some (.type "set") := by decide +kernel
theorem bt_list : bootBuiltins "list" = some (.type "list") := by decide +kernel
theorem bt_tuple : bootBuiltins "tuple" = some (.type "tuple") := by decide +kernel
theorem bt_range : bootBuiltins "range" = some (.type "range") := by decide +kernel
theorem bt_int : bootBuiltins "int" = some (.type "int") := by decide +kernel
theorem bt_bool : bootBuiltins "bool" = some (.type "bool") := by decide +kernel
theorem bt_str : bootBuiltins "str" = some (.type "str") := by decide +kernel
def bltNames : List Str := ["len", "isinstance", "all", "sorted", "min", "max", "abs", "repr", "set", "list", "tuple", "range", "int", "bool", "str"]
/-- none of them is bound at the top -/
def Blt (mg : Str → Option Value) : Prop := ∀ x ∈ bltNames, mg x = none
theorem Blt.is {mg : Str → Option Value} (b : Blt mg) (x : Str) (h : bltNames.contains x = true := by decide +kernel) : mg x = none := b x (List.contains_iff_mem.mp h)

/-! ### the type of a datum -/
def tyName : PyData → String
  | .none => "NoneType"
  | .bool _ => "bool"
  | .int _ => "int"
  | .str _ => "str"
  | .list _ => "list"
  | .tuple _ => "tuple"
  | .dict _ => "dict"
theorem Tr.ty {N : Addr → Prop} {K : PySem.W.Frag} {H : Hp} {v : V} {d : PyData} (t : Tr N H v d) : TyOf K H v (.type (tyName d)) := by
  cases t with
  | non => exact .non
  | bl b => exact .bl b
  | int i => exact .int i
  | str x => exact .str x
  | lst _ h _ => exact .lst h
  | tup _ h _ => exact .tup h
  | dct _ h => exact .dK h
/-- isinstance(x, T), T int, bool, tuple, list -/
def isTy (T : String) (d : PyData) : Bool := match T with
  | "int" => (match d with | .int _ => true | .bool _ => true | _ => false)
  | "bool" => (match d with | .bool _ => true | _ => false)
  | "tuple" => (match d with | .tuple _ => true | _ => false)
  | "list" => (match d with | .list _ => true | _ => false)
  | _ => false
theorem kit_int {K : PySem.W.Frag} (d : PyData) : PySem.W.kitOne K (.type (tyName d)) (.type "int") = some (isTy "int" d) := by
  cases d with
  | none => exact kit_ty (a := "NoneType") (r := false) (by decide +kernel)
  | bool _ => exact kit_ty (a := "bool") (r := true) (by decide +kernel)
  | int _ => exact kit_ty (a := "int") (r := true) (by decide +kernel)
  | str _ => exact kit_ty (a := "str") (r := false) (by decide +kernel)
  | list _ => exact kit_ty (a := "list") (r := false) (by decide +kernel)
  | tuple _ => exact kit_ty (a := "tuple") (r := false) (by decide +kernel)
  | dict _ => exact kit_ty (a := "dict") (r := false) (by decide +kernel)
theorem kit_bool {K : PySem.W.Frag} (d : PyData) : PySem.W.kitOne K (.type (tyName d)) (.type "bool") = some (isTy "bool" d) := by
  cases d with
  | none => exact kit_ty (a := "NoneType") (r := false) (by decide +kernel)
  | bool _ => exact kit_ty (a := "bool") (r := true) (by decide +kernel)
  | int _ => exact kit_ty (a := "int") (r := false) (by decide +kernel)
  | str _ => exact kit_ty (a := "str") (r := false) (by decide +kernel)
  | list _ => exact kit_ty (a := "list") (r := false) (by decide +kernel)
  | tuple _ => exact kit_ty (a := "tuple") (r := false) (by decide +kernel)
  | dict _ => exact kit_ty (a := "dict") (r := false) (by decide +kernel)
theorem kit_tuple {K : PySem.W.Frag} (d : PyData) : PySem.W.kitOne K (.type (tyName d)) (.type "tuple") = some (isTy "tuple" d) := by
  cases d with
  | none => exact kit_ty (a := "NoneType") (r := false) (by decide +kernel)
  | bool _ => exact kit_ty (a := "bool") (r := false) (by decide +kernel)
  | int _ => exact kit_ty (a := "int") (r := false) (by decide +kernel)
  | str _ => exact kit_ty (a := "str") (r := false) (by decide +kernel)
  | list _ => exact kit_ty (a := "list") (r := false) (by decide +kernel)
  | tuple _ => exact kit_ty (a := "tuple") (r := true) (by decide +kernel)
  | dict _ => exact kit_ty (a := "dict") (r := false) (by decide +kernel)
theorem kit_list {K : PySem.W.Frag} (d : PyData) : PySem.W.kitOne K (.type (tyName d)) (.type "list") = some (isTy "list" d) := by
  cases d with
  | none => exact kit_ty (a := "NoneType") (r := false) (by decide +kernel)
  | bool _ => exact kit_ty (a := "bool") (r := false) (by decide +kernel)
  | int _ => exact kit_ty (a := "int") (r := false) (by decide +kernel)
  | str _ => exact kit_ty (a := "str") (r := false) (by decide +kernel)
  | list _ => exact kit_ty (a := "list") (r := true) (by decide +kernel)
  | tuple _ => exact kit_ty (a := "tuple") (r := false) (by decide +kernel)
  | dict _ => exact kit_ty (a := "dict") (r := false) (by decide +kernel)
theorem call_isinstK {X : Cx} {K : PySem.W.Frag} (hK : X.K = K) : CallR X (.builtin "isinstance") (fun xs H Q => ∃ (x : V) (T : String) (t : Value) (b : Bool), xs = [x, .ty T] ∧ TyOf K H x t ∧ PySem.W.kitOne K t (.type T) = some b ∧ Q (.bl b) H) := by
  subst hK
  exact call_isinst
end L2
end
section
set_option Elab.async false
set_option maxRecDepth 10000
set_option linter.all false
/-! ## Own words over the hand layer, 6: small data; comprehensions by an invariant; lots drawn from a well -/
namespace L2
open PySem PySem.Spec PyProof.Rows

/-! ### data of few small parts: widths from the outside in -/
def leafFit : PyData → Bool
  | .none => true
  | .bool _ => true
  | .int i => decide (i.natAbs < 10 ^ 41)
  | .str x => decide (x.length ≤ 30) && x.cps.toList.all fun c => decide (c < 16 ^ 8)
  | .dict kvs => kvs.isEmpty
  | _ => false
def fit : List Nat → PyData → Bool
  | w :: ws, .list xs => decide (xs.length ≤ w) && xs.all (fit ws)
  | w :: ws, .tuple xs => decide (xs.length ≤ w) && xs.all (fit ws)
  | _, d => leafFit d
def bnd : List Nat → Nat
  | [] => 400
  | w :: ws => w * (bnd ws + 2) + 400
theorem leaf_ok {d : PyData} (h : leafFit d = true) : d.showable = true ∧ d.depth ≤ 1 ∧ d.shown.length ≤ 400 := by
  cases d with
  | none => exact ⟨rfl, by simp [PyData.depth], by decide⟩
  | bool b => exact ⟨rfl, by simp [PyData.depth], by cases b <;> decide⟩
  | int i =>
    have hi : i.natAbs < 10 ^ 41 := of_decide_eq_true h
    refine ⟨?_, by simp [PyData.depth], ?_⟩
    · simp only [PyData.showable, decide_eq_true_eq]
      by_cases h0 : i.natAbs = 0
      · rw [h0]; decide
      · exact Nat.lt_trans ((Nat.log2_lt h0).mpr (Nat.lt_trans hi (by decide : 10 ^ 41 < 2 ^ 137))) (by decide)
    · have q := int_text_length_le10 (k := 41) (by decide) hi
      have e : (PyData.shown (.int i)).length = (toString i).length := by
        show (Str.ofString (toString i)).length = _
        exact PySem.ofString_length _
      rw [e]; omega
  | str x =>
    simp only [leafFit, Bool.and_eq_true, decide_eq_true_eq, List.all_eq_true] at h
    refine ⟨rfl, by simp [PyData.depth], ?_⟩
    have q := StrLaws.reprText_len x h.2
    simp only [PyData.shown]
    have := h.1
    omega
  | list xs => cases h
  | tuple xs => cases h
  | dict kvs =>
    cases kvs with
    | nil => exact ⟨rfl, by simp [PyData.depth, PyData.depthKv], by decide⟩
    | cons a r => cases h
theorem fit_all {ws : List Nat} (ih : ∀ d, fit ws d = true → d.showable = true ∧ d.depth ≤ ws.length + 1 ∧ d.shown.length ≤ bnd ws) : ∀ xs : List PyData, xs.all (fit ws) = true →
    PyData.showableAll xs = true ∧ PyData.depthAll xs ≤ ws.length + 1 ∧ ((PyData.shownAll xs).map (·.length)).sum + 2 * (PyData.shownAll xs).length ≤ xs.length * (bnd ws + 2)
  | [], _ => ⟨rfl, by simp [PyData.depthAll], by simp [PyData.shownAll]⟩
  | x :: r, h => by
    rw [List.all_cons, Bool.and_eq_true] at h
    obtain ⟨a1, a2, a3⟩ := ih x h.1
    obtain ⟨b1, b2, b3⟩ := fit_all ih r h.2
    refine ⟨by simp [PyData.showableAll, a1, b1], by simp only [PyData.depthAll]; omega, ?_⟩
    simp only [PyData.shownAll, List.map_cons, List.sum_cons, List.length_cons]
    rw [show (r.length + 1) * (bnd ws + 2) = r.length * (bnd ws + 2) + (bnd ws + 2) from Nat.succ_mul _ _]
    omega
theorem fit_ok : ∀ (ws : List Nat) (d : PyData), fit ws d = true → d.showable = true ∧ d.depth ≤ ws.length + 1 ∧ d.shown.length ≤ bnd ws
  | [], d, h => by
    have h' : leafFit d = true := by
      cases d <;> exact h
    obtain ⟨a, b, c⟩ := leaf_ok h'
    exact ⟨a, b, c⟩
  | w :: ws, d, h => by
    have ih := fit_ok ws
    have leaf : leafFit d = true → d.showable = true ∧ d.depth ≤ (w :: ws).length + 1 ∧ d.shown.length ≤ bnd (w :: ws) := fun h' => by
      obtain ⟨a, b, c⟩ := leaf_ok h'
      refine ⟨a, by rw [List.length_cons]; omega, Nat.le_trans c ?_⟩
      unfold bnd; omega
    cases d with
    | list xs =>
      simp only [fit, Bool.and_eq_true, decide_eq_true_eq] at h
      obtain ⟨a, b, c⟩ := fit_all ih xs h.2
      refine ⟨by simpa [PyData.showable] using a, by simp only [PyData.depth, List.length_cons]; omega, ?_⟩
      have q := listText_len_le (PyData.shownAll xs)
      have m := Nat.mul_le_mul_right (bnd ws + 2) h.1
      simp only [PyData.shown, bnd]
      omega
    | tuple xs =>
      simp only [fit, Bool.and_eq_true, decide_eq_true_eq] at h
      obtain ⟨a, b, c⟩ := fit_all ih xs h.2
      refine ⟨by simpa [PyData.showable] using a, by simp only [PyData.depth, List.length_cons]; omega, ?_⟩
      have q := tupleText_len_le (PyData.shownAll xs)
      have m := Nat.mul_le_mul_right (bnd ws + 2) h.1
      simp only [PyData.shown, bnd]
      omega
    | none => exact leaf h
    | bool b => exact leaf h
    | int i => exact leaf h
    | str x => exact leaf h
    | dict kvs => exact leaf h

/-! ### comprehensions by an invariant over the items so far -/
def Nx (n : Nat) (Pv : Nat → List V → Hp → Prop) (i : Nat) (ys : List V) (H : Hp) : Prop := ∃ m', m' < n - i ∧ (m' = n - (i + 1) ∧ i + 1 ≤ n ∧ Pv (i + 1) ys H)
theorem nx {n : Nat} {Pv : Nat → List V → Hp → Prop} {i : Nat} {ys : List V} {H : Hp} (hi : i < n) (p : Pv (i + 1) ys H) : Nx n Pv i ys H := ⟨n - (i + 1), by omega, rfl, hi, p⟩
section
variable {k : Nat} {caps : List Nat} {σ : St} {g : TG} {tt : TT} {te : TE} {Q : VK} {H : Hp}
theorem comp_tup {K : PySem.W.Frag} {a : Addr} {xs : List V} (Pv : Nat → List V → Hp → Prop) (h0 : Pv 0 [] H) (hl : ∀ i ys H, i ≤ xs.length → Pv i ys H → SqT K H a xs ∧ ys.length < sizeLine)
    (hs : ∀ i x ys H, xs[i]? = some x → Pv i ys H → g x (capS k caps σ) H fun σ2 H2 => tt σ2 H2 fun b H3 => if b = true then te σ2 H3 fun v H4 => Nx xs.length Pv i (ys ++ [v]) H4 else Nx xs.length Pv i ys H3)
    (hd : ∀ ys H p, Pv xs.length ys H → H p = none → Q (.ref p) (upd H p (.lst ys))) : CompW (Itt K a) k caps σ g tt te Q H := by
  refine ⟨fun i m ys H => m = xs.length - i ∧ i ≤ xs.length ∧ Pv i ys H, ⟨xs.length, by simp, Nat.zero_le _, h0⟩, ?_⟩
  rintro i m ys H ⟨rfl, hi, p⟩
  obtain ⟨q, hz⟩ := hl i ys H hi p
  by_cases hlt : i < xs.length
  · refine .inr ⟨⟨xs, xs[i], q, by simp [hlt]⟩, hz, fun x H' y => ?_⟩
    obtain ⟨e, y⟩ := y
    subst e
    exact hs i x ys _ (y xs q) p
  · have e : i = xs.length := by omega
    subst e
    exact .inl ⟨⟨xs, q, Nat.le_refl _⟩, fun pp hp => hd ys H pp p hp⟩
theorem comp_list {K : PySem.W.Frag} {a : Addr} {xs : List V} (Pv : Nat → List V → Hp → Prop) (h0 : Pv 0 [] H) (hl : ∀ i ys H, i ≤ xs.length → Pv i ys H → SqL K H a xs ∧ ys.length < sizeLine)
    (hs : ∀ i x ys H, xs[i]? = some x → Pv i ys H → g x (capS k caps σ) H fun σ2 H2 => tt σ2 H2 fun b H3 => if b = true then te σ2 H3 fun v H4 => Nx xs.length Pv i (ys ++ [v]) H4 else Nx xs.length Pv i ys H3)
    (hd : ∀ ys H p, Pv xs.length ys H → H p = none → Q (.ref p) (upd H p (.lst ys))) : CompW (Itl K a) k caps σ g tt te Q H := by
  refine ⟨fun i m ys H => m = xs.length - i ∧ i ≤ xs.length ∧ Pv i ys H, ⟨xs.length, by simp, Nat.zero_le _, h0⟩, ?_⟩
  rintro i m ys H ⟨rfl, hi, p⟩
  obtain ⟨q, hz⟩ := hl i ys H hi p
  by_cases hlt : i < xs.length
  · refine .inr ⟨⟨xs, xs[i], q, by simp [hlt]⟩, hz, fun x H' y => ?_⟩
    obtain ⟨e, y⟩ := y
    subst e
    exact hs i x ys _ (y xs q) p
  · have e : i = xs.length := by omega
    subst e
    exact .inl ⟨⟨xs, q, Nat.le_refl _⟩, fun pp hp => hd ys H pp p hp⟩
theorem comp_range {lo : Int} {n : Nat} (Pv : Nat → List V → Hp → Prop) (h0 : Pv 0 [] H) (hl : ∀ i ys H, i ≤ n → Pv i ys H → ys.length < sizeLine)
    (hs : ∀ i ys H, i < n → Pv i ys H → g (.int (lo + i)) (capS k caps σ) H fun σ2 H2 => tt σ2 H2 fun b H3 => if b = true then te σ2 H3 fun v H4 => Nx n Pv i (ys ++ [v]) H4 else Nx n Pv i ys H3)
    (hd : ∀ ys H p, Pv n ys H → H p = none → Q (.ref p) (upd H p (.lst ys))) : CompW (Itr lo n) k caps σ g tt te Q H := by
  refine ⟨fun i m ys H => m = n - i ∧ i ≤ n ∧ Pv i ys H, ⟨n, by simp, Nat.zero_le _, h0⟩, ?_⟩
  rintro i m ys H ⟨rfl, hi, p⟩
  have hz := hl i ys H hi p
  by_cases hlt : i < n
  · refine .inr ⟨hlt, hz, fun x H' y => ?_⟩
    obtain ⟨e, y⟩ := y
    subst e y
    exact hs i ys _ hlt p
  · have e : i = n := by omega
    subst e
    exact .inl ⟨Nat.le_refl _, fun pp hp => hd ys H pp p hp⟩
end

theorem yesT {σ : St} {H : Hp} {A B : Hp → Prop} (h : A H) : tYes σ H fun b H3 => if b = true then A H3 else B H3 := by
  show (if true = true then A H else B H)
  exact iteT h
/-! ### a well of lots -/
def But (a : Addr) (H H' : Hp) : Prop := ∀ b o, b ≠ a → H b = some o → H' b = some o
theorem But.refl (a : Addr) (H : Hp) : But a H H := fun _ _ _ h => h
theorem But.trans {a : Addr} {H H1 H2 : Hp} (x : But a H H1) (y : But a H1 H2) : But a H H2 := fun b o hb h => y b o hb (x b o hb h)
theorem But.of_same {a : Addr} {H H' : Hp} (x : Same H H') : But a H H' := fun b o _ h => x b o h
theorem But.new {a : Addr} {H H' : Hp} (x : But a H H') {p : Addr} (h : H' p = none) (o : HO) : But a H (upd H' p o) := x.trans (But.of_same (same_new h o))
theorem But.upd {a : Addr} {H : Hp} (o : HO) : But a H (L2.upd H a o) := fun b u hb h => by rw [upd_ne hb]; exact h
theorem Tr.but {a : Addr} {H H' : Hp} {v : V} {d : PyData} (t : Tr (· ≠ a) H v d) (x : But a H H') : Tr (· ≠ a) H' v d := t.keep fun b o hb h => x b o hb h
theorem TrAll.but {a : Addr} {H H' : Hp} {v : List V} {d : List PyData} (t : TrAll (· ≠ a) H v d) (x : But a H H') : TrAll (· ≠ a) H' v d := t.keep fun b o hb h => x b o hb h
def Well (H : Hp) (a : Addr) : Prop := ∃ x y : Int, H a = some (.lst [.int x, .int y])
theorem Well.same {H H' : Hp} {a : Addr} (w : Well H a) (e : Same H H') : Well H' a := by obtain ⟨x, y, h⟩ := w; exact ⟨x, y, e _ _ h⟩
theorem Well.ne {H : Hp} {a p : Addr} (w : Well H a) (h : H p = none) : p ≠ a := by obtain ⟨x, y, q⟩ := w; exact fun e => by rw [e, q] at h; cases h
theorem But.none {a p : Addr} {H H' : Hp} (x : But a H H') (w : Well H' a) (h : H' p = none) : H p = none := by
  have hne := w.ne h
  cases q : H p with
  | none => rfl
  | some o => rw [x p o hne q] at h; cases h
end L2
end
section
set_option Elab.async false
set_option maxRecDepth 10000
set_option linter.all false
/-! ## Own words over the hand layer, 7: expressions that make data, beside a well -/
namespace L2
open PySem PySem.Spec PyProof.Rows
mutual
theorem Tr.mono {N N' : Addr → Prop} {H : Hp} (e : ∀ b, N b → N' b) : ∀ {v : V} {d : PyData}, Tr N H v d → Tr N' H v d
  | _, _, .non => .non
  | _, _, .bl b => .bl b
  | _, _, .int i => .int i
  | _, _, .str x => .str x
  | _, _, .lst n h t => .lst (e _ n) h (TrAll.mono e t)
  | _, _, .tup n h t => .tup (e _ n) h (TrAll.mono e t)
  | _, _, .dct n h => .dct (e _ n) h
theorem TrAll.mono {N N' : Addr → Prop} {H : Hp} (e : ∀ b, N b → N' b) : ∀ {xs : List V} {ds : List PyData}, TrAll N H xs ds → TrAll N' H xs ds
  | _, _, .nil => .nil
  | _, _, .cons r t => .cons (Tr.mono e r) (TrAll.mono e t)
end
theorem Tr.tupI {N : Addr → Prop} {H : Hp} {v : V} {ds : List PyData} (t : Tr N H v (.tuple ds)) : ∃ b xs, v = .ref b ∧ N b ∧ H b = some (.tup xs) ∧ TrAll N H xs ds := by
  cases t with
  | tup n h ts => exact ⟨_, _, rfl, n, h, ts⟩
theorem Tr.lstI {N : Addr → Prop} {H : Hp} {v : V} {ds : List PyData} (t : Tr N H v (.list ds)) : ∃ b xs, v = .ref b ∧ N b ∧ H b = some (.lst xs) ∧ TrAll N H xs ds := by
  cases t with
  | lst n h ts => exact ⟨_, _, rfl, n, h, ts⟩
theorem Well.net {H : Hp} {a p : Addr} {xs : List V} (w : Well H a) (h : H p = some (.tup xs)) : p ≠ a := by obtain ⟨x, y, q⟩ := w; exact fun e => by rw [e, q] at h; cases h

def Dat (a : Addr) (H0 : Hp) (σ : St) (te : TE) (d : PyData) : Prop := ∀ H (Q : VK), Same H0 H → (∀ v H', Same H H' → Tr (· ≠ a) H' v d → Q v H') → te σ H Q
def DatA (a : Addr) (H0 : Hp) (σ : St) (ta : TA) (ds : List PyData) : Prop := ∀ H (Q : List V → Hp → Prop), Same H0 H → (∀ vs H', Same H H' → TrAll (· ≠ a) H' vs ds → Q vs H') → ta σ H Q
def DatI (σ : St) (te : TE) (i : Int) : Prop := ∀ H (Q : VK), Q (.int i) H → te σ H Q
def DatO (σ : St) (to : TO) (o : Option Int) : Prop := ∀ H (Q : Option Int → Hp → Prop), Q o H → to σ H Q
section
variable {a : Addr} {H0 : Hp} {σ : St} {te t1 t2 : TE} {ta : TA} {d : PyData} {ds d1 d2 : List PyData} {i j : Int}
theorem DatI.dat (h : DatI σ te i) : Dat a H0 σ te (.int i) := fun H _ _ q => h H _ (q _ H (Same.refl H) (.int i))
theorem dI_int : DatI σ (tC (.int i)) i := fun _ _ q => q
theorem dI_var {k : Nat} (h : σ[k]? = some (some (.int i))) : DatI σ (tVar k) i := fun _ _ q => ⟨_, h, q⟩
theorem dI_pow (h1 : DatI σ t1 i) (h2 : DatI σ t2 j) (c : CPow i j) : DatI σ (tOp (rI CPow fun i j => .int (i ^ j.toNat)) t1 t2) (i ^ j.toNat) := fun H _ q => h1 H _ (h2 H _ ⟨i, j, rfl, rfl, c, q⟩)
theorem dI_add (h1 : DatI σ t1 i) (h2 : DatI σ t2 j) : DatI σ (tOp (rI0 fun i j => .int (i + j)) t1 t2) (i + j) := fun H _ q => h1 H _ (h2 H _ ⟨i, j, rfl, rfl, q⟩)
theorem dI_sub (h1 : DatI σ t1 i) (h2 : DatI σ t2 j) : DatI σ (tOp (rI0 fun i j => .int (i - j)) t1 t2) (i - j) := fun H _ q => h1 H _ (h2 H _ ⟨i, j, rfl, rfl, q⟩)
theorem dI_neg (h1 : DatI σ t1 i) : DatI σ (tUn (rU fun i => .int (-i)) t1) (-i) := fun H _ q => h1 H _ ⟨i, rfl, q⟩
theorem dI_min (h1 : DatI σ t1 i) (h2 : DatI σ t2 j) : DatI σ (tCB (fun xs H Q => ∃ i j, xs = [.int i, .int j] ∧ Q (.int (if j < i then j else i)) H) (tCons t1 (tCons t2 tNil))) (if j < i then j else i) := fun H _ q => h1 H _ (h2 H _ ⟨i, j, rfl, q⟩)
theorem dI_max (h1 : DatI σ t1 i) (h2 : DatI σ t2 j) : DatI σ (tCB (fun xs H Q => ∃ i j, xs = [.int i, .int j] ∧ Q (.int (if j > i then j else i)) H) (tCons t1 (tCons t2 tNil))) (if j > i then j else i) := fun H _ q => h1 H _ (h2 H _ ⟨i, j, rfl, q⟩)
theorem dO_none : DatO σ tNoPart none := fun _ _ q => q
theorem dO_some (h : DatI σ te i) : DatO σ (tPart te) (some i) := fun H _ q => h H _ ⟨i, rfl, q⟩
theorem d_non : Dat a H0 σ (tC .non) .none := fun H _ _ q => q _ H (Same.refl H) .non
theorem d_bl {b : Bool} : Dat a H0 σ (tC (.bl b)) (.bool b) := fun H _ _ q => q _ H (Same.refl H) (.bl b)
theorem d_str {x : Str} : Dat a H0 σ (tC (.str x)) (.str x) := fun H _ _ q => q _ H (Same.refl H) (.str x)
theorem d_var {k : Nat} {v : V} (h : σ[k]? = some (some v)) (t : Tr (· ≠ a) H0 v d) : Dat a H0 σ (tVar k) d := fun H _ S q => ⟨_, h, q _ H (Same.refl H) (t.same S)⟩
theorem d_nil : DatA a H0 σ tNil [] := fun H _ _ q => q _ H (Same.refl H) .nil
theorem d_cons (h1 : Dat a H0 σ te d) (h2 : DatA a H0 σ ta ds) : DatA a H0 σ (tCons te ta) (d :: ds) := fun H _ S q => h1 H _ S fun v H1 S1 T1 => h2 H1 _ (S.trans S1) fun vs H2 S2 T2 => q _ H2 (S1.trans S2) (.cons (T1.same S2) T2)
theorem d_tup (W : Well H0 a) (h : DatA a H0 σ ta ds) (hl : ds.length ≤ 1000) : Dat a H0 σ (tTup ta) (.tuple ds) := fun H _ S q => h H _ S fun vs H1 S1 T => ⟨by rw [T.length]; exact Nat.le_of_lt (small1000 hl), fun p hp => q _ _ (S1.trans (same_new hp _)) (.tup ((W.same (S.trans S1)).ne hp) upd_same (T.same (same_new hp _)))⟩
theorem d_lst (W : Well H0 a) (h : DatA a H0 σ ta ds) (hl : ds.length ≤ 1000) : Dat a H0 σ (tLst ta) (.list ds) := fun H _ S q => h H _ S fun vs H1 S1 T => ⟨by rw [T.length]; exact Nat.le_of_lt (small1000 hl), fun p hp => q _ _ (S1.trans (same_new hp _)) (.lst ((W.same (S.trans S1)).ne hp) upd_same (T.same (same_new hp _)))⟩
theorem d_new (W : Well H0 a) : Dat a H0 σ (fun _ H Q => ∀ p, H p = none → Q (.ref p) (upd H p (.dK []))) (.dict []) := fun _ _ S q p hp => q _ _ (same_new hp _) (.dct ((W.same S).ne hp) upd_same)
theorem d_cat (W : Well H0 a) (h1 : Dat a H0 σ t1 (.list d1)) (h2 : Dat a H0 σ t2 (.list d2)) (hl : d1.length + d2.length ≤ 1000) : Dat a H0 σ (tOp rCat t1 t2) (.list (d1 ++ d2)) := fun H _ S q => h1 H _ S fun v H1 S1 T1 => h2 H1 _ (S.trans S1) fun u H2 S2 T2 => by
  obtain ⟨b, xs, rfl, n1, e1, A1⟩ := T1.lstI
  obtain ⟨c, ys, rfl, n2, e2, A2⟩ := T2.lstI
  refine ⟨b, c, xs, ys, rfl, rfl, S2 _ _ e1, e2, by rw [A1.length, A2.length]; exact Nat.le_of_lt (small1000 hl), fun p hp => ?_⟩
  exact q _ _ ((S1.trans S2).trans (same_new hp _)) (.lst ((W.same ((S.trans S1).trans S2)).ne hp) upd_same (((A1.same S2).append A2).same (same_new hp _)))
theorem TrAll.rep {N : Addr → Prop} {H : Hp} {xs : List V} {ds : List PyData} (h : TrAll N H xs ds) : ∀ n : Nat, TrAll N H (List.replicate n xs).flatten (List.replicate n ds).flatten
  | 0 => .nil
  | n + 1 => by rw [List.replicate_succ, List.replicate_succ, List.flatten_cons, List.flatten_cons]; exact h.append (h.rep n)
theorem d_rep (W : Well H0 a) (h1 : Dat a H0 σ t1 (.list d1)) (h2 : DatI σ t2 i) (b1 : -(2 ^ 63) ≤ i) (b2 : i < 2 ^ 63) (hl : d1.length * i.toNat ≤ 1000) : Dat a H0 σ (tOp rRep t1 t2) (.list (List.replicate i.toNat d1).flatten) := fun H _ S q => h1 H _ S fun v H1 S1 T1 => h2 H1 _ (by
  obtain ⟨b, xs, rfl, n1, e1, A1⟩ := T1.lstI
  refine ⟨b, i, xs, rfl, rfl, e1, b1, b2, by rw [A1.length]; exact Nat.le_of_lt (small1000 hl), fun p hp => ?_⟩
  exact q _ _ (S1.trans (same_new hp _)) (.lst ((W.same (S.trans S1)).ne hp) upd_same ((A1.rep _).same (same_new hp _))))
theorem d_catG (W : Well H0 a) (h1 : Dat a H0 σ t1 (.tuple d1)) (h2 : Dat a H0 σ t2 (.tuple d2)) (hl : d1.length + d2.length ≤ 1000) :
    Dat a H0 σ (tOp (fun x y H Q => ∃ (a b : Addr) (xs ys : List V), x = .ref a ∧ y = .ref b ∧ H a = some (.tup xs) ∧ H b = some (.tup ys) ∧ xs.length + ys.length ≤ sizeLine ∧ ∀ p H', Same H H' → H' p = some (.tup (xs ++ ys)) → Q (.ref p) H') t1 t2) (.tuple (d1 ++ d2)) := fun H _ S q => h1 H _ S fun v H1 S1 T1 => h2 H1 _ (S.trans S1) fun u H2 S2 T2 => by
  obtain ⟨b, xs, rfl, n1, e1, A1⟩ := T1.tupI
  obtain ⟨c, ys, rfl, n2, e2, A2⟩ := T2.tupI
  refine ⟨b, c, xs, ys, rfl, rfl, S2 _ _ e1, e2, by rw [A1.length, A2.length]; exact Nat.le_of_lt (small1000 hl), fun p H3 S3 e3 => ?_⟩
  exact q _ _ ((S1.trans S2).trans S3) (.tup ((W.same (((S.trans S1).trans S2).trans S3)).net e3) e3 (((A1.same S2).append A2).same S3))
def cutD (xs : List PyData) (lo hi : Option Int) : List PyData := (xs.drop (HT.sIx xs.length 0 lo)).take (HT.sIx xs.length xs.length hi - HT.sIx xs.length 0 lo)
theorem cutD_le {xs : List PyData} {lo hi : Option Int} {n : Nat} (h : xs.length ≤ n) : (cutD xs lo hi).length ≤ n := by
  unfold cutD
  rw [List.length_take, List.length_drop]
  omega
theorem app_le {xs ys : List PyData} {n m : Nat} (h : xs.length ≤ n) (k : ys.length ≤ m) : (xs ++ ys).length ≤ n + m := by
  rw [List.length_append]
  omega
theorem cutD_all {xs : List PyData} {lo hi : Option Int} {f : PyData → Bool} (h : xs.all f = true) : (cutD xs lo hi).all f = true :=
  List.all_eq_true.mpr fun x hx => List.all_eq_true.mp h x (List.mem_of_mem_drop (List.mem_of_mem_take hx))
theorem app_all {xs ys : List PyData} {f : PyData → Bool} (h : xs.all f = true) (k : ys.all f = true) : (xs ++ ys).all f = true := by rw [List.all_append, h, k]; rfl
theorem TrAll.cut {N : Addr → Prop} {H : Hp} {xs : List V} {ds : List PyData} (h : TrAll N H xs ds) (lo hi : Option Int) : TrAll N H (cutV xs lo hi) (cutD ds lo hi) := by
  unfold cutV cutD
  rw [h.length]
  exact (h.drop _).take _
theorem d_slice {tl th : TO} {lo hi : Option Int} (W : Well H0 a) (h : Dat a H0 σ te (.tuple ds)) (hl : DatO σ tl lo) (hh : DatO σ th hi) :
    Dat a H0 σ (tSl (fun x lo hi H Q => ∃ (a : Addr) (xs : List V), x = .ref a ∧ H a = some (.tup xs) ∧ ∀ p H', Same H H' → H' p = some (.tup (cutV xs lo hi)) → Q (.ref p) H') te tl th) (.tuple (cutD ds lo hi)) := fun H _ S q => h H _ S fun v H1 S1 T => hl H1 _ (hh H1 _ (by
  obtain ⟨b, xs, rfl, n1, e1, A1⟩ := T.tupI
  refine ⟨b, xs, rfl, e1, fun p H2 S2 e2 => ?_⟩
  exact q _ _ (S1.trans S2) (.tup ((W.same ((S.trans S1).trans S2)).net e2) e2 ((A1.cut lo hi).same S2))))
theorem d_rev (W : Well H0 a) (h : Dat a H0 σ te (.tuple ds)) : Dat a H0 σ (fun σ H Q => te σ H fun x H1 => ∃ (a : Addr) (xs : List V), x = .ref a ∧ H1 a = some (.tup xs) ∧ ∀ p, H1 p = none → Q (.ref p) (upd H1 p (.tup xs.reverse))) (.tuple ds.reverse) := fun H _ S q => h H _ S fun v H1 S1 T => by
  obtain ⟨b, xs, rfl, n1, e1, A1⟩ := T.tupI
  exact ⟨b, xs, rfl, e1, fun p hp => q _ _ (S1.trans (same_new hp _)) (.tup ((W.same (S.trans S1)).ne hp) upd_same (A1.rev.same (same_new hp _)))⟩
theorem d_list {K : PySem.W.Frag} (W : Well H0 a) (h : Dat a H0 σ te (.tuple ds)) : Dat a H0 σ (tCB (fun xs H Q => ∃ p ys, xs = [.ref p] ∧ (SqL K H p ys ∨ SqT K H p ys) ∧ ∀ l, H l = none → Q (.ref l) (upd H l (.lst ys))) (tCons te tNil)) (.list ds) := fun H _ S q => h H _ S fun v H1 S1 T => by
  obtain ⟨b, xs, rfl, n1, e1, A1⟩ := T.tupI
  exact ⟨b, xs, rfl, .inr (SqT.of e1), fun p hp => q _ _ (S1.trans (same_new hp _)) (.lst ((W.same (S.trans S1)).ne hp) upd_same (A1.same (same_new hp _)))⟩
theorem d_strI (h : DatI σ te i) (hi : i.natAbs.log2 < 1920) : Dat a H0 σ (tCB (fun xs H Q => ∃ i : Int, xs = [.int i] ∧ i.natAbs.log2 < 1920 ∧ Q (.str (toString i)) H) (tCons te tNil)) (.str (toString i)) := fun H _ S q => h H _ ⟨i, rfl, hi, q _ H (Same.refl H) (.str _)⟩
theorem d_set {k : Nat} {tb : TS} {D : Ends} {H : Hp} (h : Dat a H σ te d) (c : ∀ v H', Same H H' → Tr (· ≠ a) H' v d → tb D (σ.set k (some v)) H') : tSeq (tAsg te (gName k)) tb D σ H := h H _ (Same.refl H) c
end
end L2
end
section
set_option Elab.async false
set_option maxRecDepth 10000
set_option linter.all false
/-! ## Own words over the hand layer, 8: rules by a named K (for a comprehension's block); a dict's item; max of a list; for over data -/
namespace L2
open PySem PySem.Spec PyProof.Rows
section
variable {X : Cx} {K : PySem.W.Frag}
theorem ix_listK (hK : X.K = K) : IxR X (rIxL K) := by subst hK; exact ix_list
theorem ix_tupK (hK : X.K = K) : IxR X (rIxT K) := by subst hK; exact ix_tup
theorem sl_listK (hK : X.K = K) : SlR X (rSlL K) := by subst hK; exact sl_list
theorem op_inK (hK : X.K = K) : OpR X (compareOp .In) (rIn K false) := by subst hK; exact op_in_seq
theorem op_notInK (hK : X.K = K) : OpR X (compareOp .NotIn) (rIn K true) := by subst hK; exact op_notIn_seq
abbrev rLen (K : PySem.W.Frag) : List V → Hp → VK → Prop := fun xs H Q => ∃ p ys, xs = [.ref p] ∧ (SqL K H p ys ∨ SqT K H p ys) ∧ Q (.int ys.length) H
abbrev rListOf (K : PySem.W.Frag) : List V → Hp → VK → Prop := fun xs H Q => ∃ p ys, xs = [.ref p] ∧ (SqL K H p ys ∨ SqT K H p ys) ∧ ∀ l, H l = none → Q (.ref l) (upd H l (.lst ys))
abbrev rTupleOf (K : PySem.W.Frag) : List V → Hp → VK → Prop := fun xs H Q => ∃ p ys, xs = [.ref p] ∧ ((SqL K H p ys ∧ ∀ l, H l = none → Q (.ref l) (upd H l (.tup ys))) ∨ (SqT K H p ys ∧ Q (.ref p) H))
theorem call_lenK (hK : X.K = K) : CallR X (.builtin "len") (rLen K) := by subst hK; exact call_len_seq
theorem call_listK (hK : X.K = K) : CallR X (.type "list") (rListOf K) := by subst hK; exact call_list_of
theorem call_tupleK (hK : X.K = K) : CallR X (.type "tuple") (rTupleOf K) := by subst hK; exact call_tuple_of
theorem op_isnot_bl : OpR X (compareOp .IsNot) (fun x y H Q => ∃ (c d : Bool), x = .bl c ∧ y = .bl d ∧ Q (.bl (!decide (c = d))) H) := by
  intro pins s σ H x y v u Q I rx ry h
  obtain ⟨c, d, rfl, rfl, q⟩ := h
  cases (show v = Value.bool c from rx)
  cases (show u = Value.bool d from ry)
  refine isnot_bool ⟨.bl (!decide (c = d)), H, I, ?_, q⟩
  show Value.bool _ = Value.bool _
  cases c <;> cases d <;> rfl
/-- D[i], a dict of the module -/
theorem pe_ixTab {d : Addr} {D : List (PyData × PyData)} {x : Str} {p pos : Pos} {b : Expr} {ta tb : TE} (hT : ∀ h, X.K.In h → IntTab X.prog X.w h d D) (ha : PE X (.Name x p) ta) (hb : PE X b tb) (hs : PlainIx b)
    (hg : ∀ r, letTemporaryGo (.Name x p) (.ref d) r = pure () := by intro _; with_unfolding_all rfl) :
    PE X (.Subscript (.Name x p) b pos) (tOp (fun x y H Q => ∃ (i j : Int), x = .ref d ∧ y = .int i ∧ lookup (.int i) D = some (.int j) ∧ Q (.int j) H) ta tb) := by
  intro pins s σ H Q I h
  refine Subscript_ (binT ha hb I h fun v u s2 x y H2 I2 rx ry q => ?_)
  obtain ⟨i, j, rfl, rfl, hl, q⟩ := q
  cases rx
  obtain ⟨t, rfl⟩ := ry
  refine item_intTab (hT _ I2.kIn) hl (fun v fl => ?_) (hs _ _) hg
  cases fl s2.heap with
  | int _ t' => exact ⟨.int j, H2, I2.tok _, ⟨t', rfl⟩, q⟩
/-- max of a list of ints -/
theorem call_maxL (hc : X.calm = true) (hK : X.K = K) : CallR X (.builtin "max") (fun xs H Q => ∃ (p : Addr) (ns : List Int), xs = [.ref p] ∧ SqL K H p (ns.map V.int) ∧ ns ≠ [] ∧ ∀ m, m ∈ ns → (∀ n ∈ ns, n ≤ m) → Q (.int m) H) := by
  subst hK
  intro pins s σ H xs us Q I r h
  obtain ⟨p, ns, rfl, hq, hne, q⟩ := h
  obtain ⟨u, rfl, rx⟩ := vals1 r
  cases rx
  obtain ⟨its, rv, pl, hz⟩ := I.list hq
  have hlen := rv.length
  rw [List.length_map] at hlen
  have hl := pl.isList
  have hlt : p < s.heap.objs.size := by obtain ⟨o, ho, _⟩ := hl; exact Heap.lt_size ho
  have hval : ∀ i v, its.toArray[i]? = some v → ∃ t, v = Value.int (ns.getD i 0) t := fun i v e => by
    rw [List.getElem?_toArray] at e
    have hi : i < ns.length := by rw [hlen]; exact (List.getElem?_eq_some_iff.mp e).1
    obtain ⟨u, e1, ru⟩ := rv.get (i := i) (x := .int ns[i]) (by rw [List.getElem?_map, List.getElem?_eq_getElem hi]; rfl)
    rw [e] at e1; cases e1
    have e2 : ns.getD i 0 = ns[i] := by rw [List.getD_eq_getElem?_getD, List.getElem?_eq_getElem hi]; rfl
    rw [e2]
    exact ru
  have hpos : 0 < ns.length := List.length_pos_iff.mpr hne
  refine call_max_walk (wpAny_pyIter_list hl ?_)
  refine ⟨s.heap.objs.size, [s.heap.objs.size, p], [s.heap.objs.size], its.toArray.size, fun i v => its.toArray[i]? = some v, _, _, rfl, Walks.list (by simpa using I.ok.hd hc) s.heap.objs.size p (Nat.ne_of_lt hlt) its.toArray, ⟨⟨_, Heap.get?_push_size _ rfl, rfl, rfl⟩, hl.push _⟩, ?_, ?_, CmpOf.ints_gt (fun i => ns.getD i 0) hval, fun v h' tk hP hk => ?_⟩
  · intro b hb
    show b < (s.heap.push _).objs.size
    rw [Heap.size_push]
    rcases List.mem_cons.mp hb with z | hb
    · rw [z]; exact Nat.lt_succ_self _
    · rw [List.mem_singleton.mp hb]; exact Nat.lt_succ_of_lt hlt
  · rw [List.size_toArray, ← hlen]; exact hpos
  · obtain ⟨g1, g2⟩ := argBest_gt (fun i => ns.getD i 0) (its.toArray.size - 1)
    obtain ⟨t, rfl⟩ := hval _ _ hP
    rw [List.size_toArray, ← hlen] at g1 g2
    have hb : argBest (fun i j => decide (ns.getD i 0 > ns.getD j 0)) (ns.length - 1) < ns.length := by omega
    rw [List.size_toArray, ← hlen]
    refine ⟨.int _, H, I.kept (h' := h') (t' := tk) fun b o e => hk b o (fun z => ?_) (Heap.get?_push_of_some _ e), ⟨t, rfl⟩, q _ ?_ fun n hn => ?_⟩
    · exact absurd (List.mem_singleton.mp z) (Nat.ne_of_lt (Heap.lt_size e))
    · rw [List.getD_eq_getElem?_getD, List.getElem?_eq_getElem hb]
      exact List.getElem_mem hb
    · obtain ⟨j, hj, rfl⟩ := List.getElem_of_mem hn
      have := g2 j (by omega)
      rw [List.getD_eq_getElem?_getD, List.getElem?_eq_getElem hj] at this
      exact this
end
theorem d_for {K : PySem.W.Frag} {a : Addr} {H : Hp} {σ : St} {te : TE} {ds : List PyData} {g : TG} {tb : TS} {D : Ends} (h : Dat a H σ te (.list ds))
    (c : ∀ o xs H', Same H H' → o ≠ a → H' o = some (.lst xs) → TrAll (· ≠ a) H' xs ds → tFor (fun _ H R => R (Itl K o) H) g tb D σ H') : tFor (iList K te) g tb D σ H :=
  h H _ (Same.refl H) fun v H' S T => by
    obtain ⟨o, xs, rfl, no, ho, ts⟩ := T.lstI
    exact ⟨o, rfl, ⟨xs, SqL.of ho⟩, c o xs H' S no ho ts⟩
end L2
end
section
set_option Elab.async false
set_option maxRecDepth 10000
set_option linter.all false
/-! ## What the laws of boxcover share: specs of the program's looks and of the laws' lots -/
namespace Bc
open PySem PySem.Spec PyProof.Rows L2
def isWhole : PyData → Bool
  | .int _ => true
  | _ => false
def isWays : PyData → Bool
  | .int i => decide (i = 1 ∨ i = 2 ∨ i = 3)
  | _ => false
def isStretch : PyData → Bool
  | .tuple [.int a, .int b] => decide (a < b)
  | _ => false
def isBox : PyData → PyData → Bool
  | .int n, .tuple ds => decide (n = 1 ∨ n = 2 ∨ n = 3) && decide (n = (ds.length : Int)) && ds.all isStretch
  | _, _ => false
theorem whole_eq (d : PyData) : isWhole d = (isTy "int" d && !isTy "bool" d) := by cases d <;> rfl
theorem Tr.intv {N : Addr → Prop} {H : Hp} {v : V} {i : Int} (t : Tr N H v (.int i)) : v = .int i := by cases t; rfl
def spWhole : Sp := fun vs H Q _ => ∃ (N : Addr → Prop) (v : V) (d : PyData), vs = [v] ∧ Tr N H v d ∧ Q (.bl (isWhole d)) H
def spWays : Sp := fun vs H Q _ => ∃ (N : Addr → Prop) (v : V) (d : PyData), vs = [v] ∧ Tr N H v d ∧ Q (.bl (isWays d)) H
def spStretch : Sp := fun vs H Q _ => ∃ (N : Addr → Prop) (v : V) (d : PyData), vs = [v] ∧ Tr N H v d ∧ Q (.bl (isStretch d)) H
def spBox : Sp := fun vs H Q _ => ∃ (N N' : Addr → Prop) (u v : V) (dw d : PyData), vs = [u, v] ∧ Tr N H u dw ∧ Tr N' H v d ∧ ∀ H', Same H H' → Q (.bl (isBox dw d)) H'
abbrev D3 : List (PyData × PyData) := [(.int 1, .int 20), (.int 2, .int 10), (.int 3, .int 6)]
theorem in_D3 (i : Int) : (lookup (.int i) D3).isSome = decide (i = 1 ∨ i = 2 ∨ i = 3) := by
  have same_i : ∀ a b : Int, same (.int a) (.int b) = decide (a = b) := fun a b => by by_cases h : a = b <;> simp [same, h]
  simp only [lookup, same_i]
  by_cases h1 : (1 : Int) = i
  · subst h1; rfl
  by_cases h2 : (2 : Int) = i
  · subst h2; rfl
  by_cases h3 : (3 : Int) = i
  · subst h3; rfl
  rw [decide_eq_false h1, decide_eq_false h2, decide_eq_false h3]
  have h : ¬ (i = 1 ∨ i = 2 ∨ i = 3) := by omega
  rw [decide_eq_false h]
  rfl
def spWell : Sp := fun vs H Q _ => ∃ (c : Int), vs = [.int c] ∧ ∀ (p : Addr) (x y : Int), H p = none → Q (.ref p) (upd H p (.lst [.int x, .int y]))
def spDraw : Sp := fun vs H Q _ => ∃ (a : Addr) (m : Int), vs = [.ref a, .int m] ∧ Well H a ∧ 0 < m ∧ m < 2 ^ 60 ∧ ∀ r H', 0 ≤ r → r < m → But a H H' → Well H' a → Q (.int r) H'
theorem nodup_lt {ns : List Int} (h : ns.Pairwise (· ≤ ·)) (nd : ns.Nodup) : ns.Pairwise (· < ·) := by
  induction ns with
  | nil => exact List.Pairwise.nil
  | cons x r ih =>
    obtain ⟨h1, h2⟩ := List.pairwise_cons.mp h
    obtain ⟨n1, n2⟩ := List.nodup_cons.mp nd
    exact List.pairwise_cons.mpr ⟨fun y hy => by have := h1 y hy; have : x ≠ y := fun e => n1 (e ▸ hy); omega, ih h2 n2⟩
def Marks (ms : List Int) : Prop := ms.Pairwise (· < ·) ∧ 2 ≤ ms.length ∧ ms.length ≤ 60 ∧ ∀ m ∈ ms, -(10 ^ 9) ≤ m ∧ m ≤ 10 ^ 9
theorem upTo_marks {lo : Int} {n : Nat} (h : 2 ≤ n) (h2 : n ≤ 60) (a : -(10 ^ 9) ≤ lo) (b : lo + n ≤ 10 ^ 9) : Marks (L2.upTo lo n) := by
  unfold L2.upTo
  refine ⟨?_, by simpa using h, by simpa using h2, fun m hm => ?_⟩
  · rw [List.pairwise_map]
    exact List.pairwise_lt_range.imp fun h => by omega
  · obtain ⟨i, hi, rfl⟩ := List.mem_map.mp hm
    have := List.mem_range.mp hi
    omega
def spMarks : Sp := fun vs H Q _ => ∃ (a : Addr) (m : Int), vs = [.ref a, .int m] ∧ Well H a ∧ 0 ≤ m ∧ m ≤ 40 ∧ ∀ (p : Addr) (H' : Hp) (ms : List Int), But a H H' → Well H' a → H p = none → H' p = some (.lst (ms.map V.int)) → Marks ms → Q (.ref p) H'
theorem at_int {ms : List Int} {i : Int} (h0 : 0 ≤ i) (h : i.toNat < ms.length) : atI (ms.map V.int) i = some (.int (ms[i.toNat]'h)) := by
  have e : (ms.map V.int)[i.toNat]? = some (.int (ms[i.toNat]'h)) := by rw [List.getElem?_map, List.getElem?_eq_getElem h]; rfl
  have q := atI_nat e
  rwa [Int.toNat_of_nonneg h0] at q
def Near (i : Int) : Prop := -(10 ^ 9) ≤ i ∧ i ≤ 10 ^ 9
def spLStretch : Sp := fun vs H Q _ => ∃ (a b : Addr) (ms : List Int), vs = [.ref a, .ref b] ∧ Well H a ∧ b ≠ a ∧ H b = some (.lst (ms.map V.int)) ∧ Marks ms ∧ ∀ (p : Addr) (H' : Hp) (lo hi : Int), But a H H' → Well H' a → H p = none → p ≠ a → H' p = some (.tup [.int lo, .int hi]) → lo < hi → Near lo → Near hi → Q (.ref p) H'
def lay1 : PyData → Bool
  | .tuple es => PyData.canLayAll0 es && decide (PyData.depthAll es ≤ 60)
  | _ => true
def lay : PyData → Bool
  | .tuple ds => ds.all lay1
  | _ => true
theorem lay_filter (f : PyData → Bool) : ∀ es : List PyData, PyData.canLayAll0 es = true → PyData.canLayAll0 (es.filter f) = true
  | [], _ => rfl
  | e :: r, h => by
    simp only [PyData.canLayAll0, Bool.and_eq_true] at h
    rw [List.filter_cons]
    by_cases c : f e = true
    · rw [if_pos c]; simp only [PyData.canLayAll0, Bool.and_eq_true]; exact ⟨h.1, lay_filter f r h.2⟩
    · rw [if_neg c]; exact lay_filter f r h.2
theorem depth_filter (f : PyData → Bool) : ∀ es : List PyData, PyData.depthAll (es.filter f) ≤ PyData.depthAll es
  | [] => Nat.le_refl _
  | e :: r => by
    rw [List.filter_cons]
    have := depth_filter f r
    by_cases c : f e = true
    · rw [if_pos c]; simp only [PyData.depthAll]; omega
    · rw [if_neg c]; simp only [PyData.depthAll]; omega
theorem all_false {ds : List PyData} {i : Nat} {d : PyData} (h : ds[i]? = some d) (f : isStretch d = false) : ds.all isStretch = false := by
  rw [List.all_eq_false]
  exact ⟨d, List.mem_of_getElem? h, by rw [f]; exact Bool.false_ne_true⟩
theorem nobox {n : Int} {ds : List PyData} (h : ds.all isStretch = false) : isBox (.int n) (.tuple ds) = false := by simp [isBox, h]
theorem eqv_nil (fs : List PyData) : PyData.eqv (.list fs) (.list []) = fs.isEmpty := by cases fs <;> simp [PyData.eqv, PyData.eqvAll]
abbrev F3 : List Nat := [9, 9, 9]
def nr (a : Int) : Bool := decide (-(10 ^ 9) ≤ a) && decide (a ≤ 10 ^ 9)
def bx : PyData → Bool
  | .tuple [.int a, .int b] => nr a && nr b && decide (a < b)
  | _ => false
def part (d : PyData) : Bool := fit [9, 9] d && lay1 d
def good (d : PyData) : Bool := fit F3 d && lay d
theorem leaf_int {a : Int} (h : a.natAbs < 10 ^ 41) : leafFit (.int a) = true := decide_eq_true h
theorem leaf_nr {a : Int} (h : nr a = true) : leafFit (.int a) = true := by
  simp only [nr, Bool.and_eq_true, decide_eq_true_eq] at h
  exact leaf_int (by omega)
theorem bx_is {d : PyData} (h : bx d = true) : ∃ a b, d = .tuple [.int a, .int b] ∧ nr a = true ∧ nr b = true ∧ a < b := by
  unfold bx at h
  split at h
  · rename_i a b
    simp only [Bool.and_eq_true, decide_eq_true_eq] at h
    exact ⟨a, b, rfl, h.1.1, h.1.2, h.2⟩
  · cases h
theorem bx_all {d : PyData} (h : bx d = true) : part d = true ∧ fit [9] d = true ∧ d.canLay0 = true ∧ d.depth ≤ 2 ∧ isStretch d = true := by
  obtain ⟨a, b, rfl, h1, h2, h3⟩ := bx_is h
  refine ⟨?_, ?_, rfl, by simp [PyData.depth, PyData.depthAll], decide_eq_true h3⟩
  · simp [part, fit, lay1, PyData.canLayAll0, PyData.canLay0, PyData.depthAll, PyData.depth, leaf_nr h1, leaf_nr h2]
  · simp [fit, leaf_nr h1, leaf_nr h2]
theorem all_imp {ds : List PyData} {f g : PyData → Bool} (h : ds.all f = true) (k : ∀ d, f d = true → g d = true) : ds.all g = true := List.all_eq_true.mpr fun x hx => k x (List.all_eq_true.mp h x hx)
theorem part_fit {ds : List PyData} (h : ds.all part = true) : ds.all (fit [9, 9]) = true := all_imp h fun d z => by unfold part at z; exact (Bool.and_eq_true _ _ ▸ z).1
theorem part_lay {ds : List PyData} (h : ds.all part = true) : ds.all lay1 = true := all_imp h fun d z => by unfold part at z; exact (Bool.and_eq_true _ _ ▸ z).2
theorem good_tup {ds : List PyData} {n : Nat} (hl : ds.length ≤ n) (hn : n ≤ 9) (h : ds.all part = true) : good (.tuple ds) = true := by
  have e : good (.tuple ds) = ((decide (ds.length ≤ 9) && ds.all (fit [9, 9])) && ds.all lay1) := rfl
  rw [e, part_fit h, part_lay h, decide_eq_true (Nat.le_trans hl hn)]
  rfl
theorem good_lst {ds : List PyData} {n : Nat} (hl : ds.length ≤ n) (hn : n ≤ 9) (h : ds.all part = true) : good (.list ds) = true := by
  have e : good (.list ds) = ((decide (ds.length ≤ 9) && ds.all (fit [9, 9])) && true) := rfl
  rw [e, part_fit h, decide_eq_true (Nat.le_trans hl hn)]
  rfl
theorem lay_bx : ∀ {ds : List PyData}, ds.all bx = true → PyData.canLayAll0 ds = true ∧ PyData.depthAll ds ≤ 2
  | [], _ => ⟨rfl, by simp [PyData.depthAll]⟩
  | d :: r, h => by
    rw [List.all_cons, Bool.and_eq_true] at h
    obtain ⟨_, _, c, e, _⟩ := bx_all h.1
    obtain ⟨i, j⟩ := lay_bx h.2
    exact ⟨by simp only [PyData.canLayAll0, c, i]; rfl, by simp only [PyData.depthAll]; omega⟩
theorem part_box {ds : List PyData} (hl : ds.length ≤ 3) (h : ds.all bx = true) : part (.tuple ds) = true := by
  have e : part (.tuple ds) = ((decide (ds.length ≤ 9) && ds.all (fit [9])) && (PyData.canLayAll0 ds && decide (PyData.depthAll ds ≤ 60))) := rfl
  obtain ⟨i, j⟩ := lay_bx h
  rw [e, all_imp h fun d z => (bx_all z).2.1, i, decide_eq_true (by omega : PyData.depthAll ds ≤ 60), decide_eq_true (by omega : ds.length ≤ 9)]
  rfl
theorem of_str (s : String) : (Str.ofString s).length = s.length ∧ ∀ c ∈ (Str.ofString s).cps.toList, c < 1114112 := by
  refine ⟨PySem.ofString_length _, fun c hc => ?_⟩
  rw [Str.ofString_eq_toList] at hc
  obtain ⟨x, _, rfl⟩ := List.mem_map.mp (by simpa using hc)
  have := x.valid
  rcases this with h | h
  · have h' : x.toNat < 0xd800 := h
    omega
  · have h' : x.toNat < 0x110000 := h.2
    omega
theorem str_int {a : Int} (h : nr a = true) : leafFit (.str (toString a)) = true ∧ PyData.canLay0 (.str (toString a)) = true := by
  simp only [nr, Bool.and_eq_true, decide_eq_true_eq] at h
  obtain ⟨l, c⟩ := of_str (toString a)
  have q := int_text_length_le10 (a := a) (k := 10) (by decide) (by omega)
  constructor
  · show (decide ((Str.ofString (toString a)).length ≤ 30) && _) = true
    rw [decide_eq_true (by omega), Bool.true_and, List.all_eq_true]
    exact fun x hx => decide_eq_true (Nat.lt_trans (c x hx) (by decide))
  · show (Str.ofString (toString a)).cps.all (· < 0x110000) = true
    rw [← Array.all_toList, List.all_eq_true]
    exact fun x hx => decide_eq_true (c x hx)
theorem pickL {N : Addr → Prop} {H : Hp} {v : V} {ds : List PyData} {f : PyData → Bool} {r n : Int} (T : Tr N H v (.list ds)) (hl : (ds.length : Int) = n) (hp : ds.all f = true) (r0 : 0 ≤ r) (r1 : r < n) :
    ∃ o ys x d, v = .ref o ∧ N o ∧ H o = some (.lst ys) ∧ atI ys r = some x ∧ Tr N H x d ∧ f d = true := by
  obtain ⟨o, ys, e, no, ho, ts⟩ := T.lstI
  have hlt : r.toNat < ys.length := by rw [ts.length]; omega
  obtain ⟨d, e1, t⟩ := ts.get (List.getElem?_eq_getElem hlt)
  have q := atI_nat (List.getElem?_eq_getElem hlt)
  rw [Int.toNat_of_nonneg r0] at q
  exact ⟨o, ys, _, d, e, no, ho, q, t, List.all_eq_true.mp hp d (List.mem_of_getElem? e1)⟩
theorem fit_leaf {x : PyData} (h : leafFit x = true) (ws : List Nat) : fit ws x = true := by
  cases ws <;> cases x <;> first | exact h | cases h
theorem depth_leaf {x : PyData} (h : leafFit x = true) : x.depth ≤ 1 := (leaf_ok h).2.1
theorem part2 {x y : PyData} (hx : leafFit x = true) (hy : leafFit y = true) (lx : x.canLay0 = true) (ly : y.canLay0 = true) : part (.tuple [x, y]) = true := by
  have := depth_leaf hx
  have := depth_leaf hy
  have e : PyData.depthAll [x, y] ≤ 60 := by simp only [PyData.depthAll]; omega
  have c : PyData.canLayAll0 [x, y] = true := by simp only [PyData.canLayAll0, lx, ly]; rfl
  show ((true && (fit [9] x && (fit [9] y && true))) && (PyData.canLayAll0 [x, y] && decide (PyData.depthAll [x, y] ≤ 60))) = true
  rw [fit_leaf hx, fit_leaf hy, c, decide_eq_true e]
  rfl
theorem cut_ints {ns : List Int} {lo hi : Option Int} {x : V} (h : x ∈ cutV (ns.map V.int) lo hi) : ∃ c, x = .int c := by
  unfold cutV at h
  obtain ⟨c, _, e⟩ := List.mem_map.mp (List.mem_of_mem_drop (List.mem_of_mem_take h))
  exact ⟨c, e.symm⟩
theorem cut6 (xs : List V) : (cutV xs none (some 6)).length ≤ 6 := by
  unfold cutV
  rw [List.length_take, List.length_drop]
  have : HT.sIx xs.length xs.length (some 6) ≤ 6 := by
    simp only [HT.sIx]
    split <;> omega
  omega
def MK (a : Addr) (H : Hp) (y : V) : Prop := ∃ q ms, y = .ref q ∧ q ≠ a ∧ H q = some (.lst (ms.map V.int)) ∧ Marks ms
theorem MK.but {a : Addr} {H H' : Hp} {y : V} (h : MK a H y) (b : But a H H') : MK a H' y := by
  obtain ⟨q, ms, e, n, hq, m⟩ := h
  exact ⟨q, ms, e, n, b _ _ n hq, m⟩
theorem nr_of {a : Int} (h : Near a) : nr a = true := by unfold nr; rw [decide_eq_true h.1, decide_eq_true h.2]; rfl
end Bc
end
section
set_option Elab.async false
set_option maxRecDepth 100000
set_option linter.all false
/-! ## Own words over the hand layer, 10: a tuple times an int; data of lists' slices; a box with one part anew -/
namespace HT
open PySem PySem.Spec PyProof.Rows
open AutoSeq1 (wpAny_loadPart')
theorem noFill_tuple_mul : fillsNumberSlot (.type "tuple") "mul" = pure false :=
  PySem.fillsNumberSlot_seq (id := "tuple.__mul__") (r := some (.builtin "tuple.__rmul__")) PySem.F.slot_tuple_mul.lookup (by decide +kernel) PySem.F.slot_tuple_rmul.lookup (by decide +kernel)
theorem rep_tuple : seqRepeat? (.type "tuple") = pure (some (.builtin "tuple.__mul__")) := by
  unfold seqRepeat?
  rw [PySem.seqSlot_of (T := "tuple") (name := "__mul__") (id := "tuple.__mul__") PySem.F.slot_tuple_mul.lookup (by decide +kernel), PySem.seqSlot_of (T := "tuple") (name := "__rmul__") (id := "tuple.__rmul__") PySem.F.slot_tuple_rmul.lookup (by decide +kernel)]
  rfl
theorem int_rmul_tup (a : Int) (t : Tok) (l : Addr) (items : Array Value) (n : Nat) (dd : Option Addr) (sl : Array (Option Value)) :
    Meets (Builtin.«int.__rmul__» ⟨[.int a t, .ref l], []⟩) (fun _ R s => s.heap.get? l = some { cls := .type "tuple", dict := dd, data := .seq items n, slots := sl } ∧ R (.ok (.ret Value.notImplemented)) s) :=
  .of_wp fun prog w A R s h => by obtain ⟨hp, g, d, tk, os⟩ := s; obtain ⟨hl, h⟩ := h; wp_walk using wpAny_loadPart' hl; exact ⟨_, rfl, h⟩
theorem tup_mul1 (l : Addr) (items : Array Value) (n : Nat) (dd : Option Addr) (sl : Array (Option Value)) (x : Int) (u : Tok) (hc0 : ¬ (decide (x < -(2 ^ 63)) || decide (x ≥ 2 ^ 63)) = true) (hc1 : (items.isEmpty || x == 1) = true) :
    Meets (Builtin.«tuple.__mul__» ⟨[.ref l, .int x u], []⟩) (fun _ R s => s.heap.get? l = some { cls := .type "tuple", dict := dd, data := .seq items n, slots := sl } ∧ R (.ok (.ret (Value.ref l))) { s with heap := s.heap, toks := s.toks }) :=
  .of_wp fun prog w A R s h => by obtain ⟨hp, g, d, tk, os⟩ := s; obtain ⟨hl, h⟩ := h; have f1 := AutoSeq1.idx_int; wp_walk; refine wpAny_ite_false (decide_eq_false hc0) ?_; wp_walk using wpAny_loadPart' hl; exact ⟨_, rfl, h⟩
theorem tup_mulN (l : Addr) (items : Array Value) (n : Nat) (dd : Option Addr) (sl : Array (Option Value)) (x : Int) (u : Tok) (hc0 : ¬ (decide (x < -(2 ^ 63)) || decide (x ≥ 2 ^ 63)) = true) (hc1 : ¬ (items.isEmpty || x == 1) = true)
    (hc2 : ¬ (decide (x ≤ 0) || items.isEmpty) = true) (hc3 : ¬ (items.size : Int) * x > (2 ^ 63 - 1) / 8) (hc4 : ¬ Builtin.Tuple.tupleTooMany ((items.size : Int) * x) = true) (hsz : (List.foldl (fun x1 x2 => x1 ++ x2) #[] (List.replicate x.toNat items)).size ≤ sizeLine) :
    Meets (Builtin.«tuple.__mul__» ⟨[.ref l, .int x u], []⟩) (fun _ R s => s.heap.get? l = some { cls := .type "tuple", dict := dd, data := .seq items n, slots := sl } ∧ R (.ok (.ret (Value.ref s.heap.objs.size))) { s with heap := s.heap.push { cls := Value.type "tuple", data := Data.seq (List.foldl (fun x1 x2 => x1 ++ x2) #[] (List.replicate x.toNat items)) }, toks := s.toks }) :=
  .of_wp fun prog w A R s h => by obtain ⟨hp, g, d, tk, os⟩ := s; obtain ⟨hl, h⟩ := h; have f1 := AutoSeq1.idx_int; wp_walk; refine wpAny_ite_false (decide_eq_false hc0) ?_; wp_walk using wpAny_loadPart' hl; refine wpAny_ite_false (decide_eq_false hc3) ?_; wp_walk; exact ⟨_, rfl, h⟩
section
variable {prog : Program} {w : World} {A : Around} {E : Value → Shared → Prop} {s : Shared}
theorem mul_tup {t : Addr} {its : List Value} {k : Int} {u : Tok} {Q : Value → Shared → Prop} (ht : IsTup s.heap t its.toArray) (hne : its ≠ []) (h1 : 1 ≤ k) (h2 : k < 2 ^ 60) (hz : its.length * k.toNat ≤ sizeLine)
    (q1 : k = 1 → Q (.ref t) s) (q2 : k ≠ 1 → Q (.ref s.heap.objs.size) { s with heap := s.heap.push { cls := .type "tuple", data := .seq (List.replicate k.toNat its).flatten.toArray } }) :
    wpAny (model prog w) A (binaryOp .Mult (.ref t) (.int k u)) Q E s := by
  obtain ⟨⟨c1, d1, x1, sl1⟩, ho, hc, n, hd⟩ := id ht
  simp only at hc hd
  subst hc hd
  have c0 : ¬ (decide (k < -(2 ^ 63)) || decide (k ≥ 2 ^ 63)) = true := by
    rw [decide_eq_false (by omega), decide_eq_false (by omega)]; exact Bool.false_ne_true
  have ne : its.toArray.isEmpty = false := by cases its with | nil => exact absurd rfl hne | cons _ _ => rfl
  have hnew : List.foldl (fun x1 x2 => x1 ++ x2) #[] (List.replicate k.toNat its.toArray) = (List.replicate k.toNat its).flatten.toArray := by
    have := L2.foldl_rep its k.toNat []
    rw [List.nil_append] at this
    exact this
  refine wpAny_binaryOp_repeat_ref (T := "tuple") (U := "int") (by decide) ⟨_, ho, rfl⟩ (fun s' => typeIs_int s' k u) noFill_tuple_mul PySem.F.fills_int_mul PySem.F.slot_int_rmul rep_tuple PySem.F.slot_int_index.lookup
    (call_meets PySem.F.slot_int_rmul (typeIs_int s k u) PySem.F.entry_int_rmul (PySem.F.args_int_rmul_2 _ _) (int_rmul_tup k u t its.toArray n d1 sl1) ⟨ho, rfl, ⟨_, ho, rfl⟩, ?_⟩)
  by_cases k1 : k = 1
  · exact call_meets PySem.F.slot_tuple_mul ⟨_, ho, rfl⟩ PySem.F.entry_tuple_mul (PySem.F.args_tuple_mul_2 _ _) (tup_mul1 t its.toArray n d1 sl1 k u c0 (by rw [k1]; simp)) ⟨ho, q1 k1⟩
  · have e : ((its.toArray.size : Nat) : Int) * k = ((its.length * k.toNat : Nat) : Int) := by
      rw [List.size_toArray, Int.natCast_mul, Int.toNat_of_nonneg (by omega)]
    have hs : (sizeLine : Nat) = 16777216 := by decide
    refine call_meets PySem.F.slot_tuple_mul ⟨_, ho, rfl⟩ PySem.F.entry_tuple_mul (PySem.F.args_tuple_mul_2 _ _) (tup_mulN t its.toArray n d1 sl1 k u c0 ?_ ?_ ?_ ?_ ?_) ⟨ho, ?_⟩
    · rw [ne]; simp [k1]
    · rw [ne, decide_eq_false (by omega)]; exact Bool.false_ne_true
    · rw [e]; omega
    · rw [e]
      unfold Builtin.Tuple.tupleTooMany
      rw [decide_eq_true_eq]
      omega
    · rw [hnew, List.size_toArray, L2.len_rep, Nat.mul_comm]; exact hz
    · rw [hnew]; exact q2 k1
end
end HT
namespace L2
open PySem PySem.Spec PyProof.Rows
abbrev rRepG : R2 := fun x y H Q => ∃ (a : Addr) (k : Int) (xs : List V), x = .ref a ∧ y = .int k ∧ H a = some (.tup xs) ∧ xs ≠ [] ∧ 1 ≤ k ∧ k < 2 ^ 60 ∧ xs.length * k.toNat ≤ sizeLine ∧ ∀ p H', Same H H' → H' p = some (.tup (List.replicate k.toNat xs).flatten) → Q (.ref p) H'
section
variable {X : Cx}
theorem op_repG : OpR X (binaryOp .Mult) rRepG := by
  intro pins s σ H x y v u Q I rx ry h
  obtain ⟨a, k, xs, rfl, rfl, ha, hne, k1, k2, hz, q⟩ := h
  cases rx
  obtain ⟨t, rfl⟩ := ry
  obtain ⟨its, r1, p1, _⟩ := I.tuple (SqT.of ha)
  refine HT.mul_tup p1 (fun z => hne (r1.nil_iff.mp z)) k1 k2 (by rw [← r1.length]; exact hz) (fun e => ?_) (fun e => ?_)
  · refine ⟨.ref a, H, I, rfl, q a H (Same.refl H) ?_⟩
    rw [e]
    simpa using ha
  · refine ⟨.ref s.heap.objs.size, _, I.laid (t' := s.toks) (o := .tup (List.replicate k.toNat xs).flatten) (fun b ob q => Heap.get?_push_of_some _ q) (Nat.le_refl _) ?_, rfl, q _ _ (same_new (I.hok.fresh (Nat.le_refl _)) _) upd_same⟩
    exact ⟨by rw [len_rep, Nat.mul_comm]; exact hz, _, r1.rep k.toNat, IsTup.new _ _⟩
end
section
variable {X : Cx}
/-- repr(x) of any datum -/
theorem call_reprD {k : Nat} (hr : Room k X.A) : CallR X (.builtin "repr") (fun xs H Q => ∃ (N : Addr → Prop) (v : V) (d : PyData), xs = [v] ∧ Tr N H v d ∧ d.showable = true ∧ d.depth ≤ 60 ∧ d.shown.length ≤ sizeLine ∧ Q (.str d.shown) H) := by
  intro pins s σ H xs us Q I r h
  obtain ⟨N, v, d, rfl, t, h1, h2, h3, q⟩ := h
  have onRef : ∀ b, v = .ref b → wpAny (model X.prog X.w) X.A (call (.builtin "repr") us) (EP X pins σ Q) X.xe s := fun b e => by
    subst e
    exact call_repr hr pins s σ H _ us Q I r ⟨N, b, d, rfl, t, h1, h2, h3, q⟩
  cases t with
  | lst _ _ _ => exact onRef _ rfl
  | tup _ _ _ => exact onRef _ rfl
  | dct _ _ => exact onRef _ rfl
  | non =>
    obtain ⟨u, rfl, rx⟩ := vals1 r
    cases (show u = Value.none from rx)
    exact PySem.P.repr_of_none ⟨.str "None", H, I.tok _, ⟨_, rfl⟩, q⟩
  | bl b =>
    obtain ⟨u, rfl, rx⟩ := vals1 r
    cases (show u = Value.bool b from rx)
    exact PySem.P.repr_of_bool ⟨.str (if b then "True" else "False"), H, I.tok _, ⟨_, rfl⟩, q⟩
  | int i =>
    obtain ⟨u, rfl, rx⟩ := vals1 r
    obtain ⟨t, rfl⟩ := rx
    exact PySem.P.repr_of_int (by simpa [PyData.showable] using h1) ⟨.str (toString i), H, I.tok _, ⟨_, rfl⟩, q⟩
  | str x =>
    obtain ⟨u, rfl, rx⟩ := vals1 r
    obtain ⟨t, rfl⟩ := rx
    exact PySem.P.repr_of_str ⟨.str (reprText x), H, I.tok _, ⟨_, rfl⟩, q⟩ h3
end
section
variable {a : Addr} {H0 : Hp} {σ : St} {te t1 t2 : TE} {ta : TA} {d : PyData} {ds d1 d2 : List PyData} {i j : Int} {K : PySem.W.Frag}
theorem d_sliceL {tl th : TO} {lo hi : Option Int} (W : Well H0 a) (h : Dat a H0 σ te (.list ds)) (hl : DatO σ tl lo) (hh : DatO σ th hi) : Dat a H0 σ (tSl (rSlL K) te tl th) (.list (cutD ds lo hi)) := fun H _ S q => h H _ S fun v H1 S1 T => hl H1 _ (hh H1 _ (by
  obtain ⟨b, xs, rfl, n1, e1, A1⟩ := T.lstI
  refine ⟨b, xs, rfl, SqL.of e1, fun p hp => ?_⟩
  exact q _ _ (S1.trans (same_new hp _)) (.lst ((W.same (S.trans S1)).ne hp) upd_same ((A1.cut lo hi).same (same_new hp _)))))
theorem d_tupOf (W : Well H0 a) (h : Dat a H0 σ te (.list ds)) : Dat a H0 σ (tCB (rTupleOf K) (tCons te tNil)) (.tuple ds) := fun H _ S q => h H _ S fun v H1 S1 T => by
  obtain ⟨b, xs, rfl, n1, e1, A1⟩ := T.lstI
  exact ⟨b, xs, rfl, .inl ⟨SqL.of e1, fun p hp => q _ _ (S1.trans (same_new hp _)) (.tup ((W.same (S.trans S1)).ne hp) upd_same (A1.same (same_new hp _)))⟩⟩
theorem d_repG (W : Well H0 a) (h1 : Dat a H0 σ t1 (.tuple d1)) (h2 : DatI σ t2 i) (hne : d1 ≠ []) (b1 : 1 ≤ i) (b2 : i < 2 ^ 60) (hl : d1.length * i.toNat ≤ 1000) : Dat a H0 σ (tOp rRepG t1 t2) (.tuple (List.replicate i.toNat d1).flatten) := fun H _ S q => h1 H _ S fun v H1 S1 T1 => h2 H1 _ (by
  obtain ⟨b, xs, rfl, n1, e1, A1⟩ := T1.tupI
  refine ⟨b, i, xs, rfl, rfl, e1, fun z => hne ?_, b1, b2, by rw [A1.length]; exact Nat.le_of_lt (small1000 hl), fun p H2 S2 e2 => ?_⟩
  · subst z
    cases A1
    rfl
  · exact q _ _ (S1.trans S2) (.tup ((W.same ((S.trans S1).trans S2)).net e2) e2 ((A1.rep _).same S2)))
theorem dI_mod (h1 : DatI σ t1 i) (h2 : DatI σ t2 j) (c : 0 < j) : DatI σ (tOp (rI (fun _ j => 0 < j) fun i j => .int (i % j)) t1 t2) (i % j) := fun H _ q => h1 H _ (h2 H _ ⟨i, j, rfl, rfl, c, q⟩)
/-- a statement, then the rest, where the rest is told first -/
theorem seq_rest {A B : TS} {D : Ends} {σ : St} {H : Hp} (P : St → Hp → Prop) (rest : ∀ σ' H', P σ' H' → B D σ' H') (h : (∀ σ' H', P σ' H' → B D σ' H') → A { D with nx := B D } σ H) : tSeq A B D σ H := h rest
end
/-! ### a list that grows, beside the well -/
def Nq (a q : Addr) : Addr → Prop := fun b => b ≠ a ∧ b ≠ q
structure Wq (a q : Addr) (bs : List V) (H : Hp) : Prop where
  w : Well H a
  at_ : H q = some (.lst bs)
  ne : q ≠ a
section
variable {a q p : Addr} {bs : List V} {H H' : Hp}
theorem Wq.same (x : Wq a q bs H) (s : Same H H') : Wq a q bs H' := ⟨x.w.same s, s _ _ x.at_, x.ne⟩
theorem Wq.but (x : Wq a q bs H) (b : But a H H') (w : Well H' a) : Wq a q bs H' := ⟨w, b _ _ x.ne x.at_, x.ne⟩
theorem Wq.new (x : Wq a q bs H) (h : H p = none) : Nq a q p := ⟨x.w.ne h, fun e => by rw [e, x.at_] at h; cases h⟩
theorem Wq.tup {xs : List V} (x : Wq a q bs H) (h : H p = some (.tup xs)) : Nq a q p := ⟨x.w.net h, fun e => by rw [e, x.at_] at h; cases h⟩
theorem Tr.butq {v : V} {d : PyData} (t : Tr (Nq a q) H v d) (x : But a H H') : Tr (Nq a q) H' v d := t.keep fun b o hb h => x b o hb.1 h
theorem TrAll.butq {v : List V} {d : List PyData} (t : TrAll (Nq a q) H v d) (x : But a H H') : TrAll (Nq a q) H' v d := t.keep fun b o hb h => x b o hb.1 h
theorem Tr.grow {v : V} {d : PyData} {o : HO} (t : Tr (Nq a q) H v d) : Tr (Nq a q) (upd H q o) v d := t.keep fun b o hb h => by rw [upd_ne hb.2]; exact h
theorem TrAll.grow {v : List V} {d : List PyData} {o : HO} (t : TrAll (Nq a q) H v d) : TrAll (Nq a q) (upd H q o) v d := t.keep fun b o hb h => by rw [upd_ne hb.2]; exact h
theorem cutD_lo {ds : List PyData} {r : Int} (r0 : 0 ≤ r) (r1 : r ≤ ds.length) : cutD ds none (some r) = ds.take r.toNat := by
  unfold cutD
  have e1 : HT.sIx ds.length 0 none = 0 := rfl
  have e2 : HT.sIx ds.length ds.length (some r) = r.toNat := by simp only [HT.sIx]; split <;> omega
  rw [e1, e2, List.drop_zero, Nat.sub_zero]
theorem cutD_hi {ds : List PyData} {r : Int} (r0 : 0 ≤ r) (r1 : r ≤ ds.length) : cutD ds (some r) none = ds.drop r.toNat := by
  unfold cutD
  have e1 : HT.sIx ds.length ds.length none = ds.length := rfl
  have e2 : HT.sIx ds.length 0 (some r) = r.toNat := by simp only [HT.sIx]; split <;> omega
  rw [e1, e2]
  exact List.take_of_length_le (by rw [List.length_drop]; omega)
abbrev rCatG : R2 := fun x y H Q => ∃ (a b : Addr) (xs ys : List V), x = .ref a ∧ y = .ref b ∧ H a = some (.tup xs) ∧ H b = some (.tup ys) ∧ xs.length + ys.length ≤ sizeLine ∧ ∀ p H', Same H H' → H' p = some (.tup (xs ++ ys)) → Q (.ref p) H'
abbrev rSlG : V → Option Int → Option Int → Hp → VK → Prop := fun x lo hi H Q => ∃ (a : Addr) (xs : List V), x = .ref a ∧ H a = some (.tup xs) ∧ ∀ p H', Same H H' → H' p = some (.tup (cutV xs lo hi)) → Q (.ref p) H'
/-- b[:r] + (new,) + b[r + 1:] -/
theorem mid {σ : St} {te : TE} {b : Addr} {ds : List PyData} {r : Int} {kb kr : Nat} {P : PyData → Prop} (hb : σ[kb]? = some (some (.ref b))) (hr : σ[kr]? = some (some (.int r))) (r0 : 0 ≤ r) (r1 : r < ds.length) (hl : ds.length ≤ 3)
    (Y : Wq a q bs H) (T : Tr (Nq a q) H (.ref b) (.tuple ds)) {Q : VK}
    (hX : ∀ (H1 : Hp) (Q1 : VK), Same H H1 → Wq a q bs H1 → (∀ v d H', But a H1 H' → Well H' a → Tr (Nq a q) H' v d → P d → Q1 v H') → te σ H1 Q1)
    (k : ∀ v d H', But a H H' → Well H' a → Tr (Nq a q) H' v (.tuple (ds.take r.toNat ++ [d] ++ ds.drop (r.toNat + 1))) → P d → Q v H') :
    tOp rCatG (tOp rCatG (tSl rSlG (tVar kb) tNoPart (tPart (tVar kr))) (tTup (tCons te tNil))) (tSl rSlG (tVar kb) (tPart (tOp (rI0 fun i j => .int (i + j)) (tVar kr) (tC (.int 1)))) tNoPart) σ H Q := by
  obtain ⟨b', xs, e, nb, hb0, ts⟩ := T.tupI
  cases e
  refine ⟨_, hb, _, hr, r, rfl, b, xs, rfl, hb0, fun p1 H1 S1 e1 => ?_⟩
  have Y1 := Y.same S1
  have A1 : TrAll (Nq a q) H1 (cutV xs none (some r)) (ds.take r.toNat) := by
    have := (ts.cut none (some r)).same S1
    rw [cutD_lo r0 (by omega)] at this
    exact this
  refine hX H1 _ S1 Y1 fun v d H2 b2 w2 tv pd => ?_
  have Y2 := Y1.but b2 w2
  refine ⟨(by decide : 1 ≤ sizeLine), fun p2 hp2 => ?_⟩
  have S3 := same_new hp2 (.tup [v])
  have Y3 := Y2.same S3
  have n1 : p1 ≠ a := (Y1.tup e1).1
  refine ⟨p1, p2, _, _, rfl, rfl, S3 _ _ (b2 _ _ n1 e1), upd_same, ?_, fun p4 H4 S4 e4 => ?_⟩
  · rw [A1.length, List.length_take]; exact Nat.le_of_lt (small1000 (by show _ + 1 ≤ _; omega))
  have Y4 := Y3.same S4
  have B4 : But a H H4 := ((But.of_same S1).trans b2).trans (But.of_same (S3.trans S4))
  refine ⟨_, hb, _, hr, r, 1, rfl, rfl, _, rfl, b, xs, rfl, B4 _ _ nb.1 hb0, fun p5 H5 S5 e5 => ?_⟩
  have A5 : TrAll (Nq a q) H5 (cutV xs (some (r + 1)) none) (ds.drop (r.toNat + 1)) := by
    have := ((ts.butq B4).cut (some (r + 1)) none).same S5
    rw [cutD_hi (by omega) (by omega), (by omega : (r + 1).toNat = r.toNat + 1)] at this
    exact this
  have A4 : TrAll (Nq a q) H4 (cutV xs none (some r) ++ [v]) (ds.take r.toNat ++ [d]) := (((A1.butq b2).append (.cons tv .nil)).same S3).same S4
  refine ⟨p4, p5, _, _, rfl, rfl, S5 _ _ e4, e5, ?_, fun p6 H6 S6 e6 => ?_⟩
  · rw [A4.length, A5.length, List.length_append, List.length_take, List.length_drop]; exact Nat.le_of_lt (small1000 (by show _ + 1 + _ ≤ _; omega))
  have Y6 := (Y4.same S5).same S6
  exact k _ d _ (B4.trans (But.of_same (S5.trans S6))) Y6.w (.tup (Y6.tup e6) e6 (((A4.same S5).append A5).same S6)) pd
end
end L2
end
section
set_option Elab.async false
set_option maxRecDepth 10000
set_option linter.all false
namespace L2
open PySem PySem.Spec PyProof.Rows
theorem pg_tupK {X : Cx} {K : PySem.W.Frag} {es : List Expr} {k : Nat} {t : TGs} {n : Nat} {pos : Pos} (hK : X.K = K) (hc : X.calm = true) (h : PGs X es t)
    (hn : (assignEach es X.env).length = n := by rfl) (hst : (assignEach es X.env).findIdx? (·.1) = none := by rfl) : PG X (.Tuple es k pos) (gTup K n t) := by subst hK; exact pg_tup hc h hn hst
theorem nm_yes {i : Nat} {x : V} {σ : St} {H : Hp} {te : TE} {A : VK} {B : Hp → Prop} (h : te (σ.set i (some x)) H A) : gName i x σ H fun σ2 H2 => tYes σ2 H2 fun b H3 => if b = true then te σ2 H3 A else B H3 := by
  show (if true = true then te (σ.set i (some x)) H A else B H)
  exact iteT h
theorem len_le {N : Addr → Prop} {H : Hp} {v : V} {ds : List PyData} {n : Nat} (_ : Tr N H v (.list ds)) (h : Nat.ble ds.length n = true) : ds.length ≤ n := Nat.le_of_ble_eq_true h
end L2
/-! ## What the laws k02 to k06 share: heaps -/
namespace Bc
open PySem PySem.Spec PyProof.Rows L2
def mostOf : PyData → Nat
  | .int 1 => 20
  | .int 2 => 10
  | .int 3 => 6
  | _ => 0
def isHeap : PyData → Bool
  | .tuple [w, .list bs] => isWays w && decide (bs.length ≤ mostOf w) && bs.all (isBox w)
  | _ => false
def spHeap : Sp := fun vs H Q _ => ∃ (N : Addr → Prop) (v : V) (d : PyData), vs = [v] ∧ Tr N H v d ∧ ∀ H', Same H H' → Q (.bl (isHeap d)) H'
theorem look_D3 {w : PyData} (h : isWays w = true) : ∃ i, w = .int i ∧ (i = 1 ∨ i = 2 ∨ i = 3) ∧ lookup (.int i) D3 = some (.int (mostOf w)) ∧ mostOf w ≤ 20 := by
  obtain ⟨i, rfl⟩ : ∃ i, w = .int i := by cases w <;> first | exact ⟨_, rfl⟩ | cases h
  have h' := of_decide_eq_true h
  refine ⟨i, rfl, h', ?_⟩
  rcases h' with rfl | rfl | rfl <;> exact ⟨rfl, by decide⟩
def boxD (n : Nat) : PyData → Bool
  | .tuple es => decide (es.length = n) && es.all bx
  | _ => false
theorem boxD_is {n : Nat} {d : PyData} (h : boxD n d = true) : ∃ es, d = .tuple es ∧ es.length = n ∧ es.all bx = true := by
  cases d with
  | tuple es => simp only [boxD, Bool.and_eq_true, decide_eq_true_eq] at h; exact ⟨es, rfl, h.1, h.2⟩
  | _ => cases h
theorem boxD_mk {n : Nat} {es : List PyData} (h : es.length = n) (k : es.all bx = true) : boxD n (.tuple es) = true := by simp [boxD, h, k]
def MK2 (a q : Addr) (H : Hp) (y : V) : Prop := ∃ r ms, y = .ref r ∧ Nq a q r ∧ H r = some (.lst (ms.map V.int)) ∧ Marks ms
theorem MK2.but {a q : Addr} {H H' : Hp} {y : V} (h : MK2 a q H y) (b : But a H H') : MK2 a q H' y := by
  obtain ⟨r, ms, e, n, hq, m⟩ := h
  exact ⟨r, ms, e, n, b _ _ n.1 hq, m⟩
theorem MK2.grow {a q : Addr} {H : Hp} {y : V} {o : HO} (h : MK2 a q H y) : MK2 a q (upd H q o) y := by
  obtain ⟨r, ms, e, n, hq, m⟩ := h
  exact ⟨r, ms, e, n, by rw [upd_ne n.2]; exact hq, m⟩
def spNear : Sp := fun vs H Q _ => ∃ (a q b m : Addr) (bs ys : List V) (ds : List PyData), vs = [.ref a, .ref b, .ref m] ∧ Wq a q bs H ∧ Tr (Nq a q) H (.ref b) (.tuple ds) ∧ ds.all bx = true ∧ 1 ≤ ds.length ∧ ds.length ≤ 3 ∧
  Nq a q m ∧ H m = some (.lst ys) ∧ ys.length = ds.length ∧ (∀ y ∈ ys, MK2 a q H y) ∧ ∀ v es H', But a H H' → Well H' a → Tr (Nq a q) H' v (.tuple es) → es.all isStretch = true → es.length = ds.length → Q v H'
def spMkHeap : Sp := fun vs H Q _ => ∃ (a : Addr) (n : Nat) (most : Int), vs = [.ref a, .int n, .int most] ∧ Well H a ∧ 1 ≤ n ∧ n ≤ 3 ∧ 0 ≤ most ∧ most ≤ 20 ∧
  ∀ (t q : Addr) (bs : List V) (ds : List PyData) (H' : Hp), But a H H' → Wq a q bs H' → H q = none → H t = none → Nq a q t → H' t = some (.tup [.int n, .ref q]) → TrAll (Nq a q) H' bs ds → (ds.length : Int) ≤ most → ds.all (boxD n) = true → Q (.ref t) H'
def spSome : Sp := fun vs H Q _ => ∃ (a : Addr), vs = [.ref a] ∧ Well H a ∧
  ∀ (n : Nat) (t q : Addr) (bs : List V) (ds : List PyData) (H' : Hp), 1 ≤ n → n ≤ 3 → But a H H' → Wq a q bs H' → H q = none → H t = none → Nq a q t → H' t = some (.tup [.int n, .ref q]) → TrAll (Nq a q) H' bs ds → ds.length ≤ mostOf (.int n) → ds.all (boxD n) = true → Q (.ref t) H'
theorem mid_all {ds : List PyData} {d : PyData} {r : Nat} (h : ds.all isStretch = true) (k : isStretch d = true) (r1 : r < ds.length) : (ds.take r ++ [d] ++ ds.drop (r + 1)).all isStretch = true ∧ (ds.take r ++ [d] ++ ds.drop (r + 1)).length = ds.length := by
  constructor
  · have h' := List.all_eq_true.mp h
    rw [List.all_eq_true]
    intro x hx
    rcases List.mem_append.mp hx with z | z
    · rcases List.mem_append.mp z with z | z
      · exact h' x (List.mem_of_mem_take z)
      · rw [List.mem_singleton.mp z]; exact k
    · exact h' x (List.mem_of_mem_drop z)
  · rw [List.length_append, List.length_append, List.length_take, List.length_drop]
    show _ + 1 + _ = _
    omega
theorem lay_boxes {n : Nat} : ∀ {ds : List PyData}, ds.all (boxD n) = true → PyData.canLayAll0 ds = true ∧ PyData.depthAll ds ≤ 3
  | [], _ => ⟨rfl, by simp [PyData.depthAll]⟩
  | d :: r, h => by
    rw [List.all_cons, Bool.and_eq_true] at h
    obtain ⟨es, rfl, _, hb⟩ := boxD_is h.1
    obtain ⟨c, e⟩ := lay_bx hb
    obtain ⟨i, j⟩ := lay_boxes h.2
    exact ⟨by simp only [PyData.canLayAll0, PyData.canLay0, c, i]; rfl, by simp only [PyData.depthAll, PyData.depth]; omega⟩
theorem shaped_boxes {n : Nat} {ds : List PyData} (h : ds.all (boxD n) = true) : SeqAt.shaped (.list ds) = true := by
  obtain ⟨c, e⟩ := lay_boxes h
  unfold SeqAt.shaped
  rw [Bool.and_eq_true, decide_eq_true_eq]
  exact ⟨by simpa [PyData.canLay0] using c, by simp only [PyData.depth]; omega⟩
end Bc
end
section
set_option Elab.async false
set_option maxRecDepth 10000
set_option linter.all false
/-! ## Own words over the hand layer, 12: enumerate and zip -/
namespace L2
open PySem PySem.Spec PyProof.Rows
/-- several untracked records of ours have turned -/
theorem Inv.turnedS {X : Cx} {pins : List (Addr × Obj)} {σ : St} {H : Hp} {s : Shared} {h' : Heap} {t' : Nat} {fp : List Addr} (I : Inv X pins σ H s) (k : ∀ b o, b ∉ fp → s.heap.get? b = some o → h'.get? b = some o) (hf : ∀ b ∈ fp, FpOk X pins H b) :
    Inv X pins σ H { s with heap := h', toks := t' } := by
  have nit : ∀ b u, H b = some u → b ∉ fp := fun b u e z => by
    have := (hf b z).1
    rw [this] at e
    cases e
  refine I.step (g' := s.gens) (d' := s.drawn) (ch := fp) (fun b hb => ?_) (fun b o _ _ hc e _ => k b o hc e) (fun b o _ _ hc e _ => ⟨o.slots, k b o hc e⟩) (fun _ _ _ _ n => n) (fun b o hc e => ⟨o, k b o hc e⟩) (fun _ _ e => e) (fun _ _ _ e => e)
    (fun b ps e => ⟨#[], by rw [e]; simp⟩) (fun m hm => ?_) (fun b u e => ?_) I.bare id
  · obtain ⟨_, a2, _, a4, a5, a6⟩ := hf b hb
    exact ⟨a4, a2, a5, a6⟩
  · obtain ⟨o, es, ep, ho, r⟩ := hm
    exact ⟨o, es, ep, k _ o (fun z => (hf _ z).2.1 rfl) ho, r⟩
  · refine (I.hok b u e).stay (fun c v hc q => k c v ?_ q) (fun _ q => q) fun _ _ q => q
    rcases hc with z | z
    · rw [z]; exact nit b u e
    · exact nit c _ z
/-- a new tuple laid, records turned -/
theorem Inv.pairS {X : Cx} {pins : List (Addr × Obj)} {σ : St} {H : Hp} {s : Shared} {h' : Heap} {t' : Nat} {fp : List Addr} {x y : V} {u v : Value} (I : Inv X pins σ H s) (rx : RelV x u) (ry : RelV y v)
    (ht : h'.get? s.heap.objs.size = some { cls := .type "tuple", data := .seq #[u, v] }) (k : ∀ b o, b ∉ fp → s.heap.get? b = some o → h'.get? b = some o) (hf : ∀ b ∈ fp, FpOk X pins H b) (hlt : ∀ b ∈ fp, b < s.heap.objs.size) :
    Inv X pins σ (upd H s.heap.objs.size (.tup [x, y])) { s with heap := h', toks := t' } := by
  have I1 := I.laid (h' := s.heap.push { cls := .type "tuple", data := .seq #[u, v] }) (t' := s.toks) (a := s.heap.objs.size) (o := .tup [x, y]) (fun b ob q => Heap.get?_push_of_some _ q) (Nat.le_refl _)
    ⟨(by decide : 2 ≤ sizeLine), [u, v], .cons rx (.cons ry .nil), IsTup.new _ _⟩
  refine Inv.turnedS (s := { s with heap := s.heap.push { cls := .type "tuple", data := .seq #[u, v] } }) (h' := h') (t' := t') (fp := fp) I1 (fun b o hb e => ?_) (fun b hb => ?_)
  · rcases Heap.get?_push_cases e with ⟨z1, z2⟩ | z
    · rw [z1, z2]
      exact ht
    · exact k b o hb z
  · obtain ⟨a1, a2, a3, a4, a5, a6⟩ := hf b hb
    exact ⟨by rw [upd_ne (Nat.ne_of_lt (hlt b hb))]; exact a1, a2, a3, a4, a5, a6⟩
def Ite (K : PySem.W.Frag) (a : Addr) : It :=
  ⟨fun i H => ∃ xs x, SqL K H a xs ∧ xs[i]? = some x, fun i H v H' => ∃ p x, H p = none ∧ v = .ref p ∧ H' = upd H p (.tup [.int i, x]) ∧ ∀ xs, SqL K H a xs → xs[i]? = some x, fun i H => ∃ xs, SqL K H a xs ∧ xs.length ≤ i⟩
theorem turn_enum {P : Program} {w : World} {K : PySem.W.Frag} {elts : List Expr} {x1 : Nat} {pos : Pos} (a e it : Addr) (hne : e ≠ it) :
    Turn P w K (.Tuple elts x1 pos) (Ite K a) [e, it] e (fun i h => (∃ old, IsEnum h e it (i : Nat) old) ∧ h.IsListIter it a i) where
  mem := by simp
  obj := fun i h st b hb => by
    obtain ⟨⟨old, he⟩, o, e1, c, d⟩ := st
    simp only [List.mem_cons, List.not_mem_nil, or_false] at hb
    rcases hb with rfl | rfl
    · exact ⟨_, he, fun v z => by cases z⟩
    · exact ⟨o, e1, fun v z => by rw [d] at z; cases z⟩
  keep := fun i h h' st k => by
    obtain ⟨⟨old, he⟩, hit⟩ := st
    exact ⟨⟨old, k e (by simp) _ he⟩, hit.at fun o q => k it (by simp) o q⟩
  item := by
    intro X hP hw hK hc i pins s σ H E I hf st hg
    subst hP hw hK
    obtain ⟨xs, x, hq, hx⟩ := hg
    obtain ⟨its, rv, p, hz⟩ := I.list hq
    obtain ⟨u, hu, ru⟩ := rv.get hx
    obtain ⟨⟨old, he⟩, hit⟩ := st
    have lt1 : e < s.heap.objs.size := Heap.lt_size he
    have lt2 : it < s.heap.objs.size := by obtain ⟨o, q, _⟩ := hit; exact Heap.lt_size q
    refine wpAny_pyNext_enum_item he hit p.isList (x := u) (by simpa using hu) hne fun h' eo it' tp sz k => ⟨_, rfl, ?_⟩
    refine wpAny_letOwnedTupleGo_enum eo fun h2 e2 sb => ?_
    have ne2 : s.heap.objs.size ≠ e := Nat.ne_of_gt lt1
    have J := I.pairS (h' := h2) (t' := s.toks + 1) (fp := [e, it]) (x := .int i) (y := x) (u := .int i s.toks) (v := u) ⟨_, rfl⟩ ru (sb.extBut _ _ ne2 tp) (fun b o hb q => by
      simp only [List.mem_cons, List.not_mem_nil, or_false, not_or] at hb
      exact sb.extBut _ _ hb.1 (k b o hb.1 hb.2 q)) hf (fun b hb => by
      simp only [List.mem_cons, List.not_mem_nil, or_false] at hb
      rcases hb with rfl | rfl
      · exact lt1
      · exact lt2)
    refine ⟨.ref s.heap.objs.size, _, J, rfl, ⟨_, x, I.hok.fresh (Nat.le_refl _), rfl, rfl, fun ys hy => by rw [I.list_inj hy hq]; exact hx⟩, ⟨⟨u, e2⟩, it'.at fun o q => sb.extBut _ _ (Ne.symm hne) q⟩, fun b hb => ?_⟩
    rw [upd_ne]
    · exact (hf b hb).1
    · simp only [List.mem_cons, List.not_mem_nil, or_false] at hb
      rcases hb with rfl | rfl
      · exact Nat.ne_of_lt lt1
      · exact Nat.ne_of_lt lt2
  done := by
    intro X hP hw hK hc i pins s σ H E I hf st hg
    subst hP hw hK
    obtain ⟨xs, hq, hx⟩ := hg
    obtain ⟨its, rv, p, hz⟩ := I.list hq
    obtain ⟨⟨old, he⟩, hit⟩ := st
    have hl := rv.length
    exact wpAny_pyNext_enum_end (I.ok.hd hc) he hit p.isList (by simp; omega) fun h' eb => ⟨rfl, I.turnedS (t' := s.toks) (fp := [e, it]) (fun b o hb q => eb b o (fun z => hb (by simp [z])) q) hf⟩
  self := fun _ _ _ _ _ st h => by
    obtain ⟨⟨old, he⟩, _⟩ := st
    exact wpAny_pyIter_enum he h
abbrev iEnum (K : PySem.W.Frag) (ta : TA) : TI := fun σ H R => ta σ H fun vs H1 => ∃ a, vs = [.ref a] ∧ (∃ xs, SqL K H1 a xs) ∧ R (Ite K a) H1
section
variable {X : Cx}
theorem pi_enum {a : Expr} {ta : TA} {p pos : Pos} {elts : List Expr} {x1 : Nat} {tpos : Pos} (hg : Gl X "enumerate") (hm : X.mg "enumerate" = none) (ha : PA X [a] ta) (hs : starEach [a] X.env = [(false, eval a X.env)] := by rfl) :
    PI X (.Tuple elts x1 tpos) (.Call (.Name "enumerate" p) [a] [] pos) (iEnum X.K ta) := by
  intro pins s σ H R I h
  refine Call_ (ld_blt I hg hm (by decide +kernel : bootBuiltins "enumerate" = some (.type "enumerate")) (PyProof.Rows.callWith_type1 (thn (ha pos pins s σ H _ I h) fun us s1 ⟨vs, H1, I1, r1, q1⟩ => ?_) hs rfl))
  obtain ⟨l, e, ⟨xs, hq⟩, q⟩ := q1
  subst e
  cases r1 with
  | cons r rr =>
    cases rr
    cases r
    obtain ⟨its, rv, pl, hz⟩ := I1.list hq
    refine call_enumerate_list pl.isList fun h' e1 i1 sz k => ?_
    refine wpAny_pyIter_enum e1 ?_
    refine ⟨s1.heap.objs.size + 1, [s1.heap.objs.size + 1, s1.heap.objs.size], _, _, H1, rfl, I1.kept (t' := s1.toks) k, turn_enum l _ _ (Nat.succ_ne_self _), ⟨⟨_, e1⟩, i1⟩, fun b hb => ?_, q⟩
    have hb' : s1.heap.objs.size ≤ b := by
      simp only [List.mem_cons, List.not_mem_nil, or_false] at hb
      rcases hb with rfl | rfl <;> omega
    exact I1.fpOk hb' (I1.hok.fresh hb')
end
end L2
end
section
set_option Elab.async false
set_option maxRecDepth 100000
set_option linter.all false
/-! ## Own words over the hand layer, 13: zip of two lists, of two tuples -/
namespace HT
open PySem PySem.Spec PyProof.Rows
section
variable {prog : Program} {w : World} {A : Around} {E : Value → Shared → Prop} {s : Shared}
theorem nextT {it t : Addr} {i : Nat} {ws : Array Value} {x : Value} {Q : Value → Shared → Prop} (c : s.heap.IsTupleIter it t i) (ct : s.heap.IsTuple t ws) (ex : ws[i]? = some x)
    (q : ∀ h', h'.IsTupleIter it t (i + 1) → Heap.SameBut it s.heap h' → Q x { s with heap := h' }) : wpAny (model prog w) A (Builtin.SmallTypes.nextOf (.ref it)) Q E s := by
  obtain ⟨o, e0, e1, e2⟩ := id c
  obtain ⟨ot, f0, _, nt, f1⟩ := ct
  unfold Builtin.SmallTypes.nextOf
  refine wpAny_bind (wpAny_callSpecial?_slot (name := Str.ofString "__next__") c.typeIs PySem.F.slot_tuple_iterator_next (wpAny_call_entry PySem.F.slot_tuple_iterator_next c.typeIs PySem.F.entry_tuple_iterator_next ?_ (PySem.F.args_tuple_iterator_next_1 _)))
  refine (show wpAny _ _ (field (.ref it) 0 >>= _) _ _ s from wpAny_bind (wpAny_field e0 e2 (x := .ref t) rfl ?_))
  show wpAny _ _ (ite ((Value.ref t == Value.none) = true) _ _) _ _ s
  rw [if_neg (by exact Bool.false_ne_true)]
  refine (show wpAny _ _ (field (.ref it) 1 >>= _) _ _ s from wpAny_bind (wpAny_field e0 e2 (x := .int i 0) rfl ?_))
  refine (show wpAny _ _ (seqItems? (.ref t) >>= _) _ _ s from wpAny_bind (wpAny_seqItems f0 f1 ?_))
  simp only [ex, Int.toNat_natCast]
  refine wpAny_bind (wpAny_setField e0 e2 (by simp) (wpAny_pure ⟨x, rfl, wpAny_pure (q _ ⟨_, Heap.get?_update_self _ e0 (Obj.isFreed_of_fields (Obj.data_mapFields e2 _)), (Obj.cls_mapFields ..).trans e1, ?_⟩ (Heap.SameBut.update ..))⟩))
  rw [Obj.data_mapFields e2]
  simp [rawInt]
theorem nextTE {it t : Addr} {i : Nat} {ws : Array Value} {Q : Value → Shared → Prop} (ha : A.handled = none) (c : s.heap.IsTupleIter it t i) (ct : s.heap.IsTuple t ws) (ex : ws[i]? = none)
    (q : ∀ h' e, Heap.ExtBut it s.heap h' → (∃ o, h'.get? e = some o ∧ o.cls = .type "StopIteration") → E (.ref e) { s with heap := h' }) : wpAny (model prog w) A (Builtin.SmallTypes.nextOf (.ref it)) Q E s := by
  obtain ⟨o, e0, e1, e2⟩ := id c
  obtain ⟨ot, f0, _, nt, f1⟩ := ct
  unfold Builtin.SmallTypes.nextOf
  refine wpAny_bind (wpAny_callSpecial?_slot (name := Str.ofString "__next__") c.typeIs PySem.F.slot_tuple_iterator_next (wpAny_call_entry PySem.F.slot_tuple_iterator_next c.typeIs PySem.F.entry_tuple_iterator_next ?_ (PySem.F.args_tuple_iterator_next_1 _)))
  refine (show wpAny _ _ (field (.ref it) 0 >>= _) _ _ s from wpAny_bind (wpAny_field e0 e2 (x := .ref t) rfl ?_))
  show wpAny _ _ (ite ((Value.ref t == Value.none) = true) _ _) _ _ s
  rw [if_neg (by exact Bool.false_ne_true)]
  refine (show wpAny _ _ (field (.ref it) 1 >>= _) _ _ s from wpAny_bind (wpAny_field e0 e2 (x := .int i 0) rfl ?_))
  refine (show wpAny _ _ (seqItems? (.ref t) >>= _) _ _ s from wpAny_bind (wpAny_seqItems f0 f1 ?_))
  simp only [ex, Int.toNat_natCast]
  refine wpAny_bind (wpAny_rule (wpAny_bind (wpAny_setField e0 e2 (by simp) (show wpAny _ _ (newExc (.type "StopIteration") [] >>= _) _ _ _ from wpAny_bind ?_))))
  simp only [newTuple, newExc]
  refine wpAny_bind (wpAny_newObj_type (wpAny_bind (m := firstArgMember _ _) (wpAny_of_eq (a := Value.none) (by first | rfl | (simp only [firstArgMember]; rfl)) (wpAny_newObj_type ?_ (by size_fits)))) (by size_fits))
  simp only [raiseNew]
  refine wpAny_bind (wpAny_handled ?_)
  rw [show A.in1.handled = none from ha]
  exact wpAny_bind (wpAny_pure (wpAny_throw (q _ _ (((Heap.SameBut.update ..).extBut.push _).push _) ⟨_, Heap.get?_push_size _ rfl, rfl⟩)))
theorem drawsT (ha : A.handled = none) (it t : Addr) (ne : t ≠ it) (ws : Array Value) : Draws prog w A it [it, t] ws.size (fun i v => ws[i]? = some v) (fun i h => h.IsTupleIter it t i ∧ h.IsTuple t ws) where
  live := fun _ _ st => let ⟨o, e, _⟩ := st.1; ⟨o, e⟩
  frame := fun _ _ _ st k => ⟨st.1.at fun o e => k it (by simp) o e, st.2.at fun o e => k t (by simp) o e⟩
  item := fun i s Q E hi st q => nextT st.1 st.2 (x := ws[i]) (by simp [hi]) fun h' c' sb => q _ h' s.toks (by simp [hi]) ⟨c', st.2.extBut sb.extBut ne⟩ sb
  done := fun s Q E st q => nextTE ha st.1 st.2 (by simp) q
structure Apart (z TI TO i1 i2 : Addr) (fp1 fp2 : List Addr) : Prop where
  a1 : TI ≠ z
  a2 : TO ≠ z
  a3 : TI ≠ TO
  b1 : ∀ b ∈ fp1, b ≠ z ∧ b ≠ TO ∧ b ≠ i2
  b2 : ∀ b ∈ fp2, b ≠ z ∧ b ≠ TO ∧ b ≠ i1
  c1 : i1 ≠ z ∧ i1 ≠ TO ∧ i1 ≠ TI
  c2 : i2 ≠ z ∧ i2 ≠ TO ∧ i2 ≠ TI
  c3 : i1 ≠ i2
section
variable {z TI TO i1 i2 : Addr} {fp1 fp2 : List Addr} {n1 n2 k : Nat} {P1 P2 : Nat → Value → Prop} {S1 S2 : Nat → Heap → Prop} {a b : Value}
theorem zipI {Q : Value → Shared → Prop} (D1 : Draws prog w A i1 fp1 n1 P1 S1) (D2 : Draws prog w A i2 fp2 n2 P2 S2) (D : Apart z TI TO i1 i2 fp1 fp2) (hZ : IsZip s.heap z TI TO .none) (hI : IsPair s.heap TI (.ref i1) (.ref i2)) (hO : IsPair s.heap TO a b)
    (s1 : S1 k s.heap) (s2 : S2 k s.heap) (k1 : k < n1) (k2 : k < n2)
    (q : ∀ x y h' tk, P1 k x → P2 k y → IsZip h' z TI TO (rawInt s.heap.objs.size) → IsPair h' TO x y → S1 (k + 1) h' → S2 (k + 1) h' → IsPair h' s.heap.objs.size x y → h'.objs.size = s.heap.objs.size + 1 →
      (∀ c o, c ≠ z → c ≠ TO → c ≠ i1 → c ≠ i2 → s.heap.get? c = some o → h'.get? c = some o) → Q (.ref s.heap.objs.size) { s with heap := h', toks := tk }) :
    wpAny (model prog w) A (Builtin.«zip.__next__» ⟨[.ref z], []⟩) (fun fin s' => ∃ v, fin = .done (.ret v) ∧ Q v s') E s := by
  obtain ⟨hp, g, d, tk0, os⟩ := s
  refine (show wpAny _ _ (field (.ref z) 2 >>= _) _ _ _ from wpAny_bind (wpAny_field hZ rfl (x := .bool false) rfl ?_))
  refine (show wpAny _ _ (field (.ref z) 3 >>= _) _ _ _ from wpAny_bind (wpAny_field hZ rfl (x := .ref TI) rfl (wpAny_bind (wpAny_seqItems hI rfl ?_))))
  refine (show wpAny _ _ (Builtin.SmallTypes.ownedTupleIsFree (.ref z) >>= _) _ _ _ from wpAny_bind ?_)
  unfold Builtin.SmallTypes.ownedTupleIsFree
  refine wpAny_bind (wpAny_field hZ rfl (x := .none) rfl (wpAny_pure ?_))
  simp only [if_true]
  refine wpAny_bind (wpAny_rule (wpAny_bind (wpAny_field hZ rfl (x := .ref TO) rfl (wpAny_bind (wpAny_setField_rec hZ (by simp) fun g1 z1 m1 => ?_)))))
  replace z1 : IsZip g1 z TI TO .ellipsis := z1
  replace m1 : Heap.SameBut z hp g1 := m1
  refine wpAny_bind ?_
  simp only [List.zipIdx_cons, List.zipIdx_nil, List.forIn_cons, List.forIn_nil]
  have t1 : S1 k g1 := D1.frame _ _ _ s1 fun c hc o e => m1.extBut _ _ (D.b1 c hc).1 e
  have u1 : S2 k g1 := D2.frame _ _ _ s2 fun c hc o e => m1.extBut _ _ (D.b2 c hc).1 e
  refine wpAny_bind (wpAny_bind (wpAny_onRaise (show wpAny _ _ (Builtin.SmallTypes.nextOf (.ref i1) >>= _) _ _ _ from wpAny_bind (D1.item k ⟨g1, g, d, tk0, os⟩ _ _ k1 t1 fun x g2 tk1 px t2 m2 => wpAny_pure ?_))))
  replace m2 : Heap.SameBut i1 g1 g2 := m2
  have o2 : IsPair g2 TO a b := m2.extBut _ _ (Ne.symm D.c1.2.1) (m1.extBut _ _ D.a2 hO)
  refine wpAny_bind (wpAny_seqItems o2 rfl (wpAny_bind (wpAny_updateSeq_pair o2 fun g3 o3 m3 => ?_)))
  replace o3 : IsPair g3 TO x b := o3
  replace m3 : Heap.SameBut TO g2 g3 := m3
  have u3 : S2 k g3 := D2.frame _ _ _ u1 fun c hc o e => m3.extBut _ _ (D.b2 c hc).2.1 (m2.extBut _ _ (D.b2 c hc).2.2 e)
  refine wpAny_bind (wpAny_letGo (wpAny_pure ?_))
  refine wpAny_bind (wpAny_bind (wpAny_onRaise (show wpAny _ _ (Builtin.SmallTypes.nextOf (.ref i2) >>= _) _ _ _ from wpAny_bind (D2.item k ⟨g3, g, d, tk1, os⟩ _ _ k2 u3 fun y g4 tk2 py u4 m4 => wpAny_pure ?_))))
  replace m4 : Heap.SameBut i2 g3 g4 := m4
  have o4 : IsPair g4 TO x b := m4.extBut _ _ (Ne.symm D.c2.2.1) o3
  refine wpAny_bind (wpAny_seqItems o4 rfl (wpAny_bind (wpAny_updateSeq_pair o4 fun g5 o5 m5 => ?_)))
  replace o5 : IsPair g5 TO x y := o5
  replace m5 : Heap.SameBut TO g4 g5 := m5
  refine wpAny_bind (wpAny_letGo (wpAny_pure (wpAny_pure (wpAny_bind (wpAny_seqItems o5 rfl (wpAny_bind (wpAny_newTuple ?_)))))))
  have sz : g5.objs.size = hp.objs.size := by rw [m5.1, m4.1, m3.1, m2.1, m1.1]
  have z5 : IsZip g5 z TI TO .ellipsis := m5.extBut _ _ (Ne.symm D.a2) (m4.extBut _ _ (Ne.symm D.c2.1) (m3.extBut _ _ (Ne.symm D.a2) (m2.extBut _ _ (Ne.symm D.c1.1) z1)))
  have kk : ∀ c o, c ≠ z → c ≠ TO → c ≠ i1 → c ≠ i2 → hp.get? c = some o → g5.get? c = some o := fun c o n1 n2 n3 n4 e => m5.extBut _ _ n2 (m4.extBut _ _ n4 (m3.extBut _ _ n2 (m2.extBut _ _ n3 (m1.extBut _ _ n1 e))))
  have lz : z < g5.objs.size := Heap.lt_size z5
  refine (show wpAny _ _ (Builtin.SmallTypes.ownedTupleHandOut (.ref z) (.ref g5.objs.size) >>= _) _ _ _ from wpAny_bind ?_)
  unfold Builtin.SmallTypes.ownedTupleHandOut
  have z6 : IsZip (g5.push { cls := .type "tuple", data := .seq #[x, y] }) z TI TO .ellipsis := Heap.get?_push_of_some _ z5
  refine wpAny_bind (wpAny_setField_rec z6 (by simp) fun g7 z7 m7 => ?_)
  replace z7 : IsZip g7 z TI TO (rawInt g5.objs.size) := z7
  refine wpAny_setField_rec z7 (by simp) fun g8 z8 m8 => ?_
  replace z8 : IsZip g8 z TI TO (rawInt g5.objs.size) := z8
  have up : ∀ c o, c ≠ z → g5.get? c = some o → g8.get? c = some o := fun c o n e => m8.extBut _ _ n (m7.extBut _ _ n (Heap.get?_push_of_some _ e))
  have p8 : IsPair g8 g5.objs.size x y := m8.extBut _ _ (Nat.ne_of_gt lz) (m7.extBut _ _ (Nat.ne_of_gt lz) (Heap.get?_push_size _ rfl))
  have w8 : g8.objs.size = g5.objs.size + 1 := by rw [m8.1, m7.1, Heap.size_push]
  rw [sz] at z8 p8 w8
  refine wpAny_pure ⟨_, rfl, ?_⟩
  show Q (.ref g5.objs.size) _
  rw [sz]
  refine q x y g8 tk2 px py z8 (up _ _ D.a2 o5) ?_ ?_ p8 w8 fun c o n1 n2 n3 n4 e => up c o n1 (kk c o n1 n2 n3 n4 e)
  · exact D1.frame _ _ _ t2 fun c hc o e => up _ _ (D.b1 c hc).1 (m5.extBut _ _ (D.b1 c hc).2.1 (m4.extBut _ _ (D.b1 c hc).2.2 (m3.extBut _ _ (D.b1 c hc).2.1 e)))
  · exact D2.frame _ _ _ u4 fun c hc o e => up _ _ (D.b2 c hc).1 (m5.extBut _ _ (D.b2 c hc).2.1 e)
theorem zipE {Q : PySem.Fin → Shared → Prop} (D1 : Draws prog w A i1 fp1 n1 P1 S1) (D2 : Draws prog w A i2 fp2 n2 P2 S2) (D : Apart z TI TO i1 i2 fp1 fp2) (hZ : IsZip s.heap z TI TO .none) (hI : IsPair s.heap TI (.ref i1) (.ref i2)) (hO : IsPair s.heap TO a b)
    (s1 : S1 k s.heap) (s2 : S2 k s.heap) (ke : k = n1 ∨ (k < n1 ∧ k = n2))
    (q : ∀ h' e tk, (∀ c o, c ≠ z → c ≠ TO → c ≠ i1 → c ≠ i2 → s.heap.get? c = some o → h'.get? c = some o) → (∃ o, h'.get? e = some o ∧ o.cls = .type "StopIteration") → E (.ref e) { s with heap := h', toks := tk }) :
    wpAny (model prog w) A (Builtin.«zip.__next__» ⟨[.ref z], []⟩) Q E s := by
  obtain ⟨hp, g, d, tk0, os⟩ := s
  refine (show wpAny _ _ (field (.ref z) 2 >>= _) _ _ _ from wpAny_bind (wpAny_field hZ rfl (x := .bool false) rfl ?_))
  refine (show wpAny _ _ (field (.ref z) 3 >>= _) _ _ _ from wpAny_bind (wpAny_field hZ rfl (x := .ref TI) rfl (wpAny_bind (wpAny_seqItems hI rfl ?_))))
  refine (show wpAny _ _ (Builtin.SmallTypes.ownedTupleIsFree (.ref z) >>= _) _ _ _ from wpAny_bind ?_)
  unfold Builtin.SmallTypes.ownedTupleIsFree
  refine wpAny_bind (wpAny_field hZ rfl (x := .none) rfl (wpAny_pure ?_))
  simp only [if_true]
  refine wpAny_bind (wpAny_rule (wpAny_bind (wpAny_field hZ rfl (x := .ref TO) rfl (wpAny_bind (wpAny_setField_rec hZ (by simp) fun g1 z1 m1 => ?_)))))
  replace z1 : IsZip g1 z TI TO .ellipsis := z1
  replace m1 : Heap.SameBut z hp g1 := m1
  refine wpAny_bind ?_
  simp only [List.zipIdx_cons, List.zipIdx_nil, List.forIn_cons, List.forIn_nil]
  have t1 : S1 k g1 := D1.frame _ _ _ s1 fun c hc o e => m1.extBut _ _ (D.b1 c hc).1 e
  have u1 : S2 k g1 := D2.frame _ _ _ s2 fun c hc o e => m1.extBut _ _ (D.b2 c hc).1 e
  rcases ke with ke | ⟨k1, ke⟩
  · subst ke
    refine wpAny_bind (wpAny_bind (wpAny_onRaise (show wpAny _ _ (Builtin.SmallTypes.nextOf (.ref i1) >>= _) _ _ _ from wpAny_bind (D1.done ⟨g1, g, d, tk0, os⟩ _ _ t1 fun g2 e m2 he => ?_))))
    obtain ⟨oe, he1, he2⟩ := he
    replace m2 : Heap.ExtBut i1 g1 g2 := m2
    have z2 : IsZip g2 z TI TO .ellipsis := m2 _ _ (Ne.symm D.c1.1) z1
    have ez : e ≠ z := fun x => by subst x; rw [z2] at he1; cases he1; simp at he2
    exact wpAny_setField_rec z2 (by simp) fun g3 _ m3 => q g3 e _ (fun c o n1 _ n3 _ x => m3.extBut _ _ n1 (m2 _ _ n3 (m1.extBut _ _ n1 x))) ⟨oe, m3.extBut _ _ ez he1, he2⟩
  · refine wpAny_bind (wpAny_bind (wpAny_onRaise (show wpAny _ _ (Builtin.SmallTypes.nextOf (.ref i1) >>= _) _ _ _ from wpAny_bind (D1.item k ⟨g1, g, d, tk0, os⟩ _ _ k1 t1 fun x g2 tk1 px t2 m2 => wpAny_pure ?_))))
    replace m2 : Heap.SameBut i1 g1 g2 := m2
    have o2 : IsPair g2 TO a b := m2.extBut _ _ (Ne.symm D.c1.2.1) (m1.extBut _ _ D.a2 hO)
    refine wpAny_bind (wpAny_seqItems o2 rfl (wpAny_bind (wpAny_updateSeq_pair o2 fun g3 o3 m3 => ?_)))
    replace m3 : Heap.SameBut TO g2 g3 := m3
    have u3 : S2 k g3 := D2.frame _ _ _ u1 fun c hc o e => m3.extBut _ _ (D.b2 c hc).2.1 (m2.extBut _ _ (D.b2 c hc).2.2 e)
    rw [ke] at u3
    refine wpAny_bind (wpAny_letGo (wpAny_pure ?_))
    refine wpAny_bind (wpAny_bind (wpAny_onRaise (show wpAny _ _ (Builtin.SmallTypes.nextOf (.ref i2) >>= _) _ _ _ from wpAny_bind (D2.done ⟨g3, g, d, tk1, os⟩ _ _ u3 fun g4 e m4 he => ?_))))
    obtain ⟨oe, he1, he2⟩ := he
    replace m4 : Heap.ExtBut i2 g3 g4 := m4
    have z4 : IsZip g4 z TI TO .ellipsis := m4 _ _ (Ne.symm D.c2.1) (m3.extBut _ _ (Ne.symm D.a2) (m2.extBut _ _ (Ne.symm D.c1.1) z1))
    have ez : e ≠ z := fun x => by subst x; rw [z4] at he1; cases he1; simp at he2
    exact wpAny_setField_rec z4 (by simp) fun g5 _ m5 => q g5 e _ (fun c o n1 n2 n3 n4 x => m5.extBut _ _ n1 (m4 _ _ n4 (m3.extBut _ _ n2 (m2.extBut _ _ n3 (m1.extBut _ _ n1 x))))) ⟨oe, m5.extBut _ _ ez he1, he2⟩
theorem zipNext {Q : Option Value → Shared → Prop} (D1 : Draws prog w A.in1 i1 fp1 n1 P1 S1) (D2 : Draws prog w A.in1 i2 fp2 n2 P2 S2) (D : Apart z TI TO i1 i2 fp1 fp2) (hZ : IsZip s.heap z TI TO .none) (hI : IsPair s.heap TI (.ref i1) (.ref i2)) (hO : IsPair s.heap TO a b)
    (s1 : S1 k s.heap) (s2 : S2 k s.heap) (k1 : k < n1) (k2 : k < n2)
    (q : ∀ x y h' tk, P1 k x → P2 k y → IsZip h' z TI TO (rawInt s.heap.objs.size) → IsPair h' TO x y → S1 (k + 1) h' → S2 (k + 1) h' → IsPair h' s.heap.objs.size x y → h'.objs.size = s.heap.objs.size + 1 →
      (∀ c o, c ≠ z → c ≠ TO → c ≠ i1 → c ≠ i2 → s.heap.get? c = some o → h'.get? c = some o) → Q (some (.ref s.heap.objs.size)) { s with heap := h', toks := tk }) :
    wpAny (model prog w) A (pyNext (.ref z)) Q E s := by
  have T : s.TypeIs (.ref z) "zip" := ⟨_, hZ, rfl⟩
  unfold pyNext
  exact wpAny_bind (wpAny_attempt (wpAny_callSpecial?_slot (name := Str.ofString "__next__") T PySem.F.slot_zip_next (wpAny_call_entry PySem.F.slot_zip_next T PySem.F.entry_zip_next (zipI D1 D2 D hZ hI hO s1 s2 k1 k2 fun x y h' tk c1 c2 c3 c4 c5 c6 c7 c8 c9 => wpAny_pure (q x y h' tk c1 c2 c3 c4 c5 c6 c7 c8 c9)) (PySem.F.args_zip_next_1 _))))
theorem zipStop {Q : Option Value → Shared → Prop} (D1 : Draws prog w A.in1 i1 fp1 n1 P1 S1) (D2 : Draws prog w A.in1 i2 fp2 n2 P2 S2) (D : Apart z TI TO i1 i2 fp1 fp2) (hZ : IsZip s.heap z TI TO .none) (hI : IsPair s.heap TI (.ref i1) (.ref i2)) (hO : IsPair s.heap TO a b)
    (s1 : S1 k s.heap) (s2 : S2 k s.heap) (ke : k = n1 ∨ (k < n1 ∧ k = n2))
    (q : ∀ h' tk, (∀ c o, c ≠ z → c ≠ TO → c ≠ i1 → c ≠ i2 → s.heap.get? c = some o → h'.get? c = some o) → Q none { s with heap := h', toks := tk }) : wpAny (model prog w) A (pyNext (.ref z)) Q E s := by
  have T : s.TypeIs (.ref z) "zip" := ⟨_, hZ, rfl⟩
  unfold pyNext
  refine wpAny_bind (wpAny_attempt (wpAny_callSpecial?_slot (name := Str.ofString "__next__") T PySem.F.slot_zip_next (wpAny_call_entry PySem.F.slot_zip_next T PySem.F.entry_zip_next (zipE D1 D2 D hZ hI hO s1 s2 ke fun h' e tk kk he => ?_) (PySem.F.args_zip_next_1 _))))
  obtain ⟨o, e1, e2⟩ := he
  exact wpAny_bind (wpAny_isInstance (T := "StopIteration") (b := true) ⟨o, e1, e2⟩ isSubtype_stop (wpAny_pure (q h' tk kk)))
end
abbrev zt1 (h : Heap) (l1 : Addr) : Heap := h.push { cls := .type "tuple_iterator", data := .fields #[.ref l1, .int 0 0] }
abbrev zt2 (h : Heap) (l1 l2 : Addr) : Heap := (zt1 h l1).push { cls := .type "tuple_iterator", data := .fields #[.ref l2, .int 0 0] }
abbrev zt3 (h : Heap) (l1 l2 : Addr) : Heap := (zt2 h l1 l2).push { cls := .type "tuple", data := .seq #[.ref h.objs.size, .ref (zt1 h l1).objs.size] }
abbrev zt4 (h : Heap) (l1 l2 : Addr) : Heap := (zt3 h l1 l2).push { cls := .type "tuple", data := .seq #[.none, .none] }
abbrev zt5 (h : Heap) (l1 l2 : Addr) : Heap := (zt4 h l1 l2).push { cls := .type "zip", data := .fields #[.none, .bool false, .bool false, .ref (zt2 h l1 l2).objs.size, .ref (zt3 h l1 l2).objs.size] }
theorem zipNewT (l1 l2 : Addr) (xs ys : Array Value) : Meets (Builtin.«zip.__new__» ⟨[.type "zip", .ref l1, .ref l2], []⟩) (fun _ R s => s.heap.IsTuple l1 xs ∧ s.heap.IsTuple l2 ys ∧ R (.ok (.ret (.ref (zt4 s.heap l1 l2).objs.size))) { s with heap := zt5 s.heap l1 l2 }) :=
  .of_wp fun prog w A R s h => by
    obtain ⟨hp, g, d, tk, os⟩ := s
    obtain ⟨e1, e2, h⟩ := h
    have sub := sub_zip
    have T1 : Heap.IsTuple (Shared.heap ⟨hp, g, d, tk, os⟩) l1 xs := e1
    have T2 : Heap.IsTuple (Shared.heap ⟨hp.push { cls := .type "tuple_iterator", data := .fields #[.ref l1, .int 0 0] }, g, d, tk, os⟩) l2 ys := Heap.IsTuple.push e2 _
    wp_walk using wpAny_pyIter_tuple T1, wpAny_pyIter_tuple T2
    exact ⟨_, rfl, h⟩
theorem callZipT {l1 l2 : Addr} {xs ys : Array Value} {Q : Value → Shared → Prop} (e1 : s.heap.IsTuple l1 xs) (e2 : s.heap.IsTuple l2 ys)
    (q : ∀ h', IsZip h' (s.heap.objs.size + 4) (s.heap.objs.size + 2) (s.heap.objs.size + 3) .none → IsPair h' (s.heap.objs.size + 2) (.ref s.heap.objs.size) (.ref (s.heap.objs.size + 1)) → IsPair h' (s.heap.objs.size + 3) .none .none →
      h'.IsTupleIter s.heap.objs.size l1 0 → h'.IsTupleIter (s.heap.objs.size + 1) l2 0 → (∀ c o, s.heap.get? c = some o → h'.get? c = some o) → Q (.ref (s.heap.objs.size + 4)) { s with heap := h' }) :
    wpAny (model prog w) A (call (.type "zip") [.ref l1, .ref l2]) Q E s := by
  refine callType_new PySem.F.called_zip (by decide) (PySem.F.typeCall_zip_2 _ _) (PySem.F.newCall_zip_2 _ _) (fun obj => PySem.F.args_object_init_3 obj _ _) PySem.F.entry_zip_new (zipNewT l1 l2 xs ys) ⟨e1, e2, ?_⟩
  have z1 : (zt1 s.heap l1).objs.size = s.heap.objs.size + 1 := Heap.size_push ..
  have z2 : (zt2 s.heap l1 l2).objs.size = s.heap.objs.size + 2 := by rw [Heap.size_push, z1]
  have z3 : (zt3 s.heap l1 l2).objs.size = s.heap.objs.size + 3 := by rw [Heap.size_push, z2]
  have z4 : (zt4 s.heap l1 l2).objs.size = s.heap.objs.size + 4 := by rw [Heap.size_push, z3]
  have g5 : (zt5 s.heap l1 l2).get? (zt4 s.heap l1 l2).objs.size = some _ := Heap.get?_push_size _ rfl
  have g4 : (zt5 s.heap l1 l2).get? (zt3 s.heap l1 l2).objs.size = some _ := Heap.get?_push_of_some _ (Heap.get?_push_size _ rfl)
  have g3 : (zt5 s.heap l1 l2).get? (zt2 s.heap l1 l2).objs.size = some _ := Heap.get?_push_of_some _ (Heap.get?_push_of_some _ (Heap.get?_push_size _ rfl))
  have g2 : (zt5 s.heap l1 l2).get? (zt1 s.heap l1).objs.size = some _ := Heap.get?_push_of_some _ (Heap.get?_push_of_some _ (Heap.get?_push_of_some _ (Heap.get?_push_size _ rfl)))
  have g1 : (zt5 s.heap l1 l2).get? s.heap.objs.size = some _ := Heap.get?_push_of_some _ (Heap.get?_push_of_some _ (Heap.get?_push_of_some _ (Heap.get?_push_of_some _ (Heap.get?_push_size _ rfl))))
  have kk : ∀ c o, s.heap.get? c = some o → (zt5 s.heap l1 l2).get? c = some o := fun c o e => Heap.get?_push_of_some _ (Heap.get?_push_of_some _ (Heap.get?_push_of_some _ (Heap.get?_push_of_some _ (Heap.get?_push_of_some _ e))))
  show _ ∧ _
  rw [z2, z3, z4] at g5
  rw [z1, z2] at g3
  rw [z3] at g4
  rw [z1] at g2
  have Z : IsZip (zt5 s.heap l1 l2) (s.heap.objs.size + 4) (s.heap.objs.size + 2) (s.heap.objs.size + 3) .none := g5
  rw [z4]
  exact ⟨⟨_, Z, rfl⟩, q _ Z g3 g4 ⟨_, g1, rfl, rfl⟩ ⟨_, g2, rfl, rfl⟩ kk⟩
end
end HT
end
section
set_option Elab.async false
set_option maxRecDepth 10000
set_option linter.all false
/-! ## Own words over the hand layer, 14: zip in a loop or a comprehension -/
namespace L2
open PySem PySem.Spec PyProof.Rows
/-- pairs of two sequences: both lists (L true) or both tuples -/
def HB (L : Bool) (xs : List V) : HO := if L = true then .lst xs else .tup xs
theorem HB.inj {L : Bool} {xs ys : List V} (h : HB L xs = HB L ys) : xs = ys := by cases L <;> cases h <;> rfl
def Itz (L : Bool) (a b : Addr) : It :=
  ⟨fun i H => ∃ xs ys x y, H a = some (HB L xs) ∧ H b = some (HB L ys) ∧ xs[i]? = some x ∧ ys[i]? = some y,
   fun i H v H' => ∃ p x y, H p = none ∧ v = .ref p ∧ H' = upd H p (.tup [x, y]) ∧ (∀ xs, H a = some (HB L xs) → xs[i]? = some x) ∧ ∀ ys, H b = some (HB L ys) → ys[i]? = some y,
   fun i H => ∃ xs ys, H a = some (HB L xs) ∧ H b = some (HB L ys) ∧ (i = xs.length ∨ (i < xs.length ∧ i = ys.length))⟩
def IterB (L : Bool) (h : Heap) (it a : Addr) (i : Nat) : Prop := if L = true then h.IsListIter it a i else h.IsTupleIter it a i
def SeqB (L : Bool) (h : Heap) (a : Addr) (ws : Array Value) : Prop := if L = true then h.IsList a ws else h.IsTuple a ws
theorem drawsB {prog : Program} {w : World} {A : Around} (L : Bool) (ha : A.handled = none) (it t : Addr) (ne : t ≠ it) (ws : Array Value) : Draws prog w A it [it, t] ws.size (fun i v => ws[i]? = some v) (fun i h => IterB L h it t i ∧ SeqB L h t ws) := by
  cases L with
  | true => exact Draws.list ha it t ne ws
  | false => exact HT.drawsT ha it t ne ws
theorem IterB.at {L : Bool} {h h' : Heap} {it a : Addr} {i : Nat} (x : IterB L h it a i) (k : ∀ o, h.get? it = some o → h'.get? it = some o) : IterB L h' it a i := by
  cases L with
  | true => exact Heap.IsListIter.at x k
  | false => exact Heap.IsTupleIter.at x k
theorem IterB.obj {L : Bool} {h : Heap} {it a : Addr} {i : Nat} (x : IterB L h it a i) : ∃ o vs, h.get? it = some o ∧ o.data = .fields vs := by
  cases L with
  | true => obtain ⟨o, e, _, d⟩ := (show h.IsListIter it a i from x); exact ⟨o, _, e, d⟩
  | false => obtain ⟨o, e, _, d⟩ := (show h.IsTupleIter it a i from x); exact ⟨o, _, e, d⟩
theorem Inv.seqB {X : Cx} {pins : List (Addr × Obj)} {σ : St} {H : Hp} {s : Shared} {L : Bool} {a : Addr} {xs : List V} (I : Inv X pins σ H s) (h : H a = some (HB L xs)) : ∃ its : List Value, Vals xs its ∧ SeqB L s.heap a its.toArray := by
  cases L with
  | true => obtain ⟨its, rv, p, _⟩ := I.list (SqL.of h); exact ⟨its, rv, p.isList⟩
  | false => obtain ⟨its, rv, p, _⟩ := I.tuple (SqT.of h); exact ⟨its, rv, p⟩
def ZipSt (L : Bool) (a b z TI TO i1 i2 : Addr) (i : Nat) (h : Heap) : Prop := IsZip h z TI TO .none ∧ IsPair h TI (.ref i1) (.ref i2) ∧ (∃ c d, IsPair h TO c d) ∧ IterB L h i1 a i ∧ IterB L h i2 b i
theorem apart_of {z TI TO i1 i2 a b : Addr} (d1 : TI ≠ z) (d2 : TO ≠ z) (d3 : TI ≠ TO) (d4 : i1 ≠ z ∧ i1 ≠ TO ∧ i1 ≠ TI) (d5 : i2 ≠ z ∧ i2 ≠ TO ∧ i2 ≠ TI) (d6 : i1 ≠ i2) (na : a ∉ [z, TI, TO, i1, i2]) (nb : b ∉ [z, TI, TO, i1, i2]) : HT.Apart z TI TO i1 i2 [i1, a] [i2, b] where
  a1 := d1
  a2 := d2
  a3 := d3
  b1 := fun c hc => by
    simp only [List.mem_cons, List.not_mem_nil, or_false, not_or] at hc na
    rcases hc with rfl | rfl
    · exact ⟨d4.1, d4.2.1, d6⟩
    · exact ⟨na.1, na.2.2.1, na.2.2.2.2⟩
  b2 := fun c hc => by
    simp only [List.mem_cons, List.not_mem_nil, or_false, not_or] at hc nb
    rcases hc with rfl | rfl
    · exact ⟨d5.1, d5.2.1, Ne.symm d6⟩
    · exact ⟨nb.1, nb.2.2.1, nb.2.2.2.1⟩
  c1 := d4
  c2 := d5
  c3 := d6
theorem turn_zip {P : Program} {w : World} {K : PySem.W.Frag} {elts : List Expr} {x1 : Nat} {pos : Pos} (L : Bool) (a b z TI TO i1 i2 : Addr) (d1 : TI ≠ z) (d2 : TO ≠ z) (d3 : TI ≠ TO) (d4 : i1 ≠ z ∧ i1 ≠ TO ∧ i1 ≠ TI) (d5 : i2 ≠ z ∧ i2 ≠ TO ∧ i2 ≠ TI) (d6 : i1 ≠ i2) :
    Turn P w K (.Tuple elts x1 pos) (Itz L a b) [z, TI, TO, i1, i2] z (ZipSt L a b z TI TO i1 i2) where
  mem := by simp
  obj := fun i h st c hc => by
    obtain ⟨h1, h2, ⟨c', d', h3⟩, h4, h5⟩ := st
    simp only [List.mem_cons, List.not_mem_nil, or_false] at hc
    rcases hc with rfl | rfl | rfl | rfl | rfl
    · exact ⟨_, h1, fun v q => by cases q⟩
    · exact ⟨_, h2, fun v q => by cases q⟩
    · exact ⟨_, h3, fun v q => by cases q⟩
    · obtain ⟨o, vs, e, d⟩ := h4.obj
      exact ⟨o, e, fun v q => by rw [d] at q; cases q⟩
    · obtain ⟨o, vs, e, d⟩ := h5.obj
      exact ⟨o, e, fun v q => by rw [d] at q; cases q⟩
  keep := fun i h h' st k => by
    obtain ⟨h1, h2, ⟨c', d', h3⟩, h4, h5⟩ := st
    exact ⟨k z (by simp) _ h1, k TI (by simp) _ h2, ⟨c', d', k TO (by simp) _ h3⟩, h4.at fun o q => k i1 (by simp) o q, h5.at fun o q => k i2 (by simp) o q⟩
  item := by
    intro X hP hw hK hc i pins s σ H E I hf st hg
    subst hP hw hK
    obtain ⟨xs, ys, x, y, hq1, hq2, hx, hy⟩ := hg
    obtain ⟨its1, rv1, p1⟩ := I.seqB hq1
    obtain ⟨its2, rv2, p2⟩ := I.seqB hq2
    obtain ⟨u, hu, ru⟩ := rv1.get hx
    obtain ⟨v, hv, rv⟩ := rv2.get hy
    obtain ⟨h1, h2, ⟨c', d', h3⟩, h4, h5⟩ := st
    have lt : ∀ c ∈ [z, TI, TO, i1, i2], c < s.heap.objs.size := fun c hc => by
      simp only [List.mem_cons, List.not_mem_nil, or_false] at hc
      rcases hc with rfl | rfl | rfl | rfl | rfl
      · exact Heap.lt_size h1
      · exact Heap.lt_size h2
      · exact Heap.lt_size h3
      · obtain ⟨o, vs, e, _⟩ := h4.obj; exact Heap.lt_size e
      · obtain ⟨o, vs, e, _⟩ := h5.obj; exact Heap.lt_size e
    have na : a ∉ [z, TI, TO, i1, i2] := fun q => by rw [(hf a q).1] at hq1; cases hq1
    have nb : b ∉ [z, TI, TO, i1, i2] := fun q => by rw [(hf b q).1] at hq2; cases hq2
    have ap := apart_of d1 d2 d3 d4 d5 d6 na nb
    have hh : X.A.in1.handled = none := I.ok.hd hc
    refine HT.zipNext (drawsB L hh i1 a (fun q => na (by simp [q])) its1.toArray) (drawsB L hh i2 b (fun q => nb (by simp [q])) its2.toArray) ap h1 h2 h3 ⟨h4, p1⟩ ⟨h5, p2⟩ (by rw [List.size_toArray]; exact (List.getElem?_eq_some_iff.mp hu).1) (by rw [List.size_toArray]; exact (List.getElem?_eq_some_iff.mp hv).1)
      fun x' y' h' tk q1 q2 z' o' s1' s2' tp sz k => ⟨_, rfl, ?_⟩
    have q1' : its1[i]? = some x' := by simpa using q1
    have q2' : its2[i]? = some y' := by simpa using q2
    rw [hu] at q1'
    rw [hv] at q2'
    cases q1'
    cases q2'
    refine wpAny_letOwnedTupleGo_zip z' fun h3' z2 sb => ?_
    have sb' : Heap.SameBut z h' h3' := sb
    have nz : s.heap.objs.size ≠ z := Nat.ne_of_gt (lt z (by simp))
    have J := I.pairS (h' := h3') (t' := tk) (fp := [z, TI, TO, i1, i2]) (x := x) (y := y) ru rv (sb'.extBut _ _ nz tp) (fun c o hc q => by
      simp only [List.mem_cons, List.not_mem_nil, or_false, not_or] at hc
      exact sb'.extBut _ _ hc.1 (k c o hc.1 hc.2.2.1 hc.2.2.2.1 hc.2.2.2.2 q)) hf lt
    refine ⟨.ref s.heap.objs.size, _, J, rfl, ⟨_, x, y, I.hok.fresh (Nat.le_refl _), rfl, rfl, fun zs hz => ?_, fun zs hz => ?_⟩, ⟨z2, ?_, ⟨_, _, sb'.extBut _ _ d2 o'⟩, s1'.1.at fun o q => sb'.extBut _ _ d4.1 q, s2'.1.at fun o q => sb'.extBut _ _ d5.1 q⟩, fun c hc => ?_⟩
    · rw [hq1] at hz
      rw [← HB.inj (Option.some.inj hz)]
      exact hx
    · rw [hq2] at hz
      rw [← HB.inj (Option.some.inj hz)]
      exact hy
    · exact sb'.extBut _ _ d1 (k TI _ d1 d3 (Ne.symm d4.2.2) (Ne.symm d5.2.2) h2)
    · rw [upd_ne (Nat.ne_of_lt (lt c hc))]
      exact (hf c hc).1
  done := by
    intro X hP hw hK hc i pins s σ H E I hf st hg
    subst hP hw hK
    obtain ⟨xs, ys, hq1, hq2, ke⟩ := hg
    obtain ⟨its1, rv1, p1⟩ := I.seqB hq1
    obtain ⟨its2, rv2, p2⟩ := I.seqB hq2
    obtain ⟨h1, h2, ⟨c', d', h3⟩, h4, h5⟩ := st
    have na : a ∉ [z, TI, TO, i1, i2] := fun q => by rw [(hf a q).1] at hq1; cases hq1
    have nb : b ∉ [z, TI, TO, i1, i2] := fun q => by rw [(hf b q).1] at hq2; cases hq2
    have hh : X.A.in1.handled = none := I.ok.hd hc
    refine HT.zipStop (drawsB L hh i1 a (fun q => na (by simp [q])) its1.toArray) (drawsB L hh i2 b (fun q => nb (by simp [q])) its2.toArray) (apart_of d1 d2 d3 d4 d5 d6 na nb) h1 h2 h3 ⟨h4, p1⟩ ⟨h5, p2⟩ (by rw [List.size_toArray, List.size_toArray, ← rv1.length, ← rv2.length]; exact ke)
      fun h' tk k => ⟨rfl, I.turnedS (t' := tk) (fp := [z, TI, TO, i1, i2]) (fun c o hc q => ?_) hf⟩
    simp only [List.mem_cons, List.not_mem_nil, or_false, not_or] at hc
    exact k c o hc.1 hc.2.2.1 hc.2.2.2.1 hc.2.2.2.2 q
  self := fun _ _ _ _ _ st h => wpAny_pyIter_zip st.1 h
abbrev iZip (L : Bool) (ta : TA) : TI := fun σ H R => ta σ H fun vs H1 => ∃ a b xs ys, vs = [.ref a, .ref b] ∧ H1 a = some (HB L xs) ∧ H1 b = some (HB L ys) ∧ R (Itz L a b) H1
section
variable {X : Cx}
theorem pi_zip (L : Bool) {a b : Expr} {ta : TA} {p pos : Pos} {elts : List Expr} {x1 : Nat} {tpos : Pos} (hg : Gl X "zip") (hm : X.mg "zip" = none) (ha : PA X [a, b] ta) (hs : starEach [a, b] X.env = [(false, eval a X.env), (false, eval b X.env)] := by rfl) (hs2 : starEach [b] X.env = [(false, eval b X.env)] := by rfl) :
    PI X (.Tuple elts x1 tpos) (.Call (.Name "zip" p) [a, b] [] pos) (iZip L ta) := by
  intro pins s σ H R I h
  refine Call_ (ld_blt I hg hm (by decide +kernel : bootBuiltins "zip" = some (.type "zip")) (PyProof.Rows.callWith_type1 (thn (ha pos pins s σ H _ I h) fun us s1 ⟨vs, H1, I1, r1, q1⟩ => ?_) (by rw [hs, hs2]) (by rw [hs2]; rfl)))
  obtain ⟨l, m, xs, ys, e, e1, e2, q⟩ := q1
  subst e
  obtain ⟨us1, us2⟩ : us = [.ref l, .ref m] ∧ True := by
    cases r1 with
    | cons r rr =>
      cases rr with
      | cons r' rr =>
        cases rr
        cases r
        cases r'
        exact ⟨rfl, trivial⟩
  subst us1
  obtain ⟨its1, rv1, p1⟩ := I1.seqB e1
  obtain ⟨its2, rv2, p2⟩ := I1.seqB e2
  have fin : ∀ h', IsZip h' (s1.heap.objs.size + 4) (s1.heap.objs.size + 2) (s1.heap.objs.size + 3) .none → IsPair h' (s1.heap.objs.size + 2) (.ref s1.heap.objs.size) (.ref (s1.heap.objs.size + 1)) → IsPair h' (s1.heap.objs.size + 3) .none .none →
      IterB L h' s1.heap.objs.size l 0 → IterB L h' (s1.heap.objs.size + 1) m 0 → (∀ c o, s1.heap.get? c = some o → h'.get? c = some o) → wpAny (model X.prog X.w) X.A (pyIter (.ref (s1.heap.objs.size + 4))) (PIE X pins σ (.Tuple elts x1 tpos) R) X.xe { s1 with heap := h' } := fun h' c1 c2 c3 c4 c5 k => by
    refine wpAny_pyIter_zip c1 ?_
    refine ⟨s1.heap.objs.size + 4, [s1.heap.objs.size + 4, s1.heap.objs.size + 2, s1.heap.objs.size + 3, s1.heap.objs.size, s1.heap.objs.size + 1], _, _, H1, rfl, I1.kept (t' := s1.toks) k,
      turn_zip L l m _ _ _ _ _ (by simp) (by simp) (by simp) ⟨by simp, by simp, by simp⟩ ⟨by simp, by simp, by simp⟩ (by simp), ⟨c1, c2, ⟨_, _, c3⟩, c4, c5⟩, fun c hc => ?_, q⟩
    have hc' : s1.heap.objs.size ≤ c := by
      simp only [List.mem_cons, List.not_mem_nil, or_false] at hc
      rcases hc with rfl | rfl | rfl | rfl | rfl <;> first | exact Nat.le_add_right _ _ | exact Nat.le_refl _
    exact I1.fpOk hc' (I1.hok.fresh hc')
  cases L with
  | true => exact call_zip_2 p1 p2 fun h' c1 c2 c3 c4 c5 _ k => fin h' c1 c2 c3 c4 c5 k
  | false => exact HT.callZipT p1 p2 fun h' c1 c2 c3 c4 c5 k => fin h' c1 c2 c3 c4 c5 k
end
end L2
end
section
set_option Elab.async false
set_option maxRecDepth 10000
set_option linter.all false
/-! ## Own words over the hand layer, 15: loops and comprehensions over enumerate and zip; min of a list -/
namespace L2
open PySem PySem.Spec PyProof.Rows
section
variable {k : Nat} {caps : List Nat} {σ : St} {g : TG} {tt : TT} {te : TE} {Q : VK} {H : Hp}
theorem comp_zip {L : Bool} {a b : Addr} {xs ys : List V} {n : Nat} (hx : n ≤ xs.length) (hy : n ≤ ys.length) (hn : n = xs.length ∨ n = ys.length) (Pv : Nat → List V → Hp → Prop) (h0 : Pv 0 [] H)
    (hl : ∀ i zs H, i ≤ n → Pv i zs H → H a = some (HB L xs) ∧ H b = some (HB L ys) ∧ zs.length < sizeLine)
    (hs : ∀ i x y zs H p, i < n → xs[i]? = some x → ys[i]? = some y → Pv i zs H → H p = none → g (.ref p) (capS k caps σ) (upd H p (.tup [x, y])) fun σ2 H2 => tt σ2 H2 fun b H3 => if b = true then te σ2 H3 fun v H4 => Nx n Pv i (zs ++ [v]) H4 else Nx n Pv i zs H3)
    (hd : ∀ zs H p, Pv n zs H → H p = none → Q (.ref p) (upd H p (.lst zs))) : CompW (Itz L a b) k caps σ g tt te Q H := by
  refine ⟨fun i m zs H => m = n - i ∧ i ≤ n ∧ Pv i zs H, ⟨n, by simp, Nat.zero_le _, h0⟩, ?_⟩
  rintro i m zs H ⟨rfl, hi, p⟩
  obtain ⟨e1, e2, hz⟩ := hl i zs H hi p
  by_cases hlt : i < n
  · have l1 : i < xs.length := by omega
    have l2 : i < ys.length := by omega
    refine .inr ⟨⟨xs, ys, xs[i], ys[i], e1, e2, by simp [l1], by simp [l2]⟩, hz, fun v H' y => ?_⟩
    obtain ⟨q, x, y, hq, rfl, rfl, f1, f2⟩ := y
    exact hs i x y zs H q hlt (f1 xs e1) (f2 ys e2) p hq
  · have e : i = n := by omega
    subst e
    exact .inl ⟨⟨xs, ys, e1, e2, by omega⟩, fun pp hp => hd zs H pp p hp⟩
theorem comp_enum {K : PySem.W.Frag} {a : Addr} {xs : List V} (Pv : Nat → List V → Hp → Prop) (h0 : Pv 0 [] H) (hl : ∀ i zs H, i ≤ xs.length → Pv i zs H → SqL K H a xs ∧ zs.length < sizeLine)
    (hs : ∀ i x zs H p, xs[i]? = some x → Pv i zs H → H p = none → g (.ref p) (capS k caps σ) (upd H p (.tup [.int i, x])) fun σ2 H2 => tt σ2 H2 fun b H3 => if b = true then te σ2 H3 fun v H4 => Nx xs.length Pv i (zs ++ [v]) H4 else Nx xs.length Pv i zs H3)
    (hd : ∀ zs H p, Pv xs.length zs H → H p = none → Q (.ref p) (upd H p (.lst zs))) : CompW (Ite K a) k caps σ g tt te Q H := by
  refine ⟨fun i m zs H => m = xs.length - i ∧ i ≤ xs.length ∧ Pv i zs H, ⟨xs.length, by simp, Nat.zero_le _, h0⟩, ?_⟩
  rintro i m zs H ⟨rfl, hi, p⟩
  obtain ⟨q, hz⟩ := hl i zs H hi p
  by_cases hlt : i < xs.length
  · refine .inr ⟨⟨xs, xs[i], q, by simp [hlt]⟩, hz, fun v H' y => ?_⟩
    obtain ⟨r, x, hr, rfl, rfl, f⟩ := y
    exact hs i x zs H r (f xs q) p hr
  · have e : i = xs.length := by omega
    subst e
    exact .inl ⟨⟨xs, q, Nat.le_refl _⟩, fun pp hp => hd zs H pp p hp⟩
end
theorem for_enum {K : PySem.W.Frag} {a : Addr} {xs : List V} {g : TG} {tb : TS} {D : Ends} {σ : St} {H : Hp} (Pv : Nat → St → Hp → Prop) (h0 : Pv 0 σ H) (hl : ∀ i σ H, i ≤ xs.length → Pv i σ H → SqL K H a xs)
    (hs : ∀ i x σ H p, xs[i]? = some x → Pv i σ H → H p = none → g (.ref p) σ (upd H p (.tup [.int i, x])) fun σ2 H2 => tb { D with nx := Pv (i + 1), ct := Pv (i + 1), bk := D.nx } σ2 H2) (hd : ∀ σ H, Pv xs.length σ H → D.nx σ H) :
    ∃ W : Nat → Nat → St → Hp → Prop, (∃ m, W 0 m σ H) ∧ ∀ i m σ H, W i m σ H →
      ((Ite K a).stop i H ∧ D.nx σ H) ∨ ((Ite K a).go i H ∧ ∃ N : St → Hp → Prop, (∀ σ' H', N σ' H' → ∃ m', m' < m ∧ W (i + 1) m' σ' H') ∧ ∀ x H', (Ite K a).yld i H x H' → g x σ H' fun σ2 H2 => tb { D with nx := N, ct := N, bk := D.nx } σ2 H2) := by
  refine ⟨fun i m σ H => m = xs.length - i ∧ i ≤ xs.length ∧ Pv i σ H, ⟨xs.length, by simp, Nat.zero_le _, h0⟩, ?_⟩
  rintro i m σ H ⟨rfl, hi, p⟩
  have q := hl i σ H hi p
  by_cases hlt : i < xs.length
  · refine .inr ⟨⟨xs, xs[i], q, by simp [hlt]⟩, Pv (i + 1), fun σ' H' p' => ⟨xs.length - (i + 1), by omega, rfl, hlt, p'⟩, fun x H' y => ?_⟩
    obtain ⟨r, x', hr, rfl, rfl, f⟩ := y
    exact hs i x' σ H r (f xs q) p hr
  · have e : i = xs.length := by omega
    subst e
    exact .inl ⟨⟨xs, q, Nat.le_refl _⟩, hd σ H p⟩
theorem for_zip {L : Bool} {a b : Addr} {xs ys : List V} {n : Nat} {g : TG} {tb : TS} {D : Ends} {σ : St} {H : Hp} (hx : n ≤ xs.length) (hy : n ≤ ys.length) (hn : n = xs.length ∨ n = ys.length) (Pv : Nat → St → Hp → Prop) (h0 : Pv 0 σ H)
    (hl : ∀ i σ H, i ≤ n → Pv i σ H → H a = some (HB L xs) ∧ H b = some (HB L ys))
    (hs : ∀ i x y σ H p, i < n → xs[i]? = some x → ys[i]? = some y → Pv i σ H → H p = none → g (.ref p) σ (upd H p (.tup [x, y])) fun σ2 H2 => tb { D with nx := Pv (i + 1), ct := Pv (i + 1), bk := D.nx } σ2 H2) (hd : ∀ σ H, Pv n σ H → D.nx σ H) :
    ∃ W : Nat → Nat → St → Hp → Prop, (∃ m, W 0 m σ H) ∧ ∀ i m σ H, W i m σ H →
      ((Itz L a b).stop i H ∧ D.nx σ H) ∨ ((Itz L a b).go i H ∧ ∃ N : St → Hp → Prop, (∀ σ' H', N σ' H' → ∃ m', m' < m ∧ W (i + 1) m' σ' H') ∧ ∀ x H', (Itz L a b).yld i H x H' → g x σ H' fun σ2 H2 => tb { D with nx := N, ct := N, bk := D.nx } σ2 H2) := by
  refine ⟨fun i m σ H => m = n - i ∧ i ≤ n ∧ Pv i σ H, ⟨n, by simp, Nat.zero_le _, h0⟩, ?_⟩
  rintro i m σ H ⟨rfl, hi, p⟩
  obtain ⟨e1, e2⟩ := hl i σ H hi p
  by_cases hlt : i < n
  · have l1 : i < xs.length := by omega
    have l2 : i < ys.length := by omega
    refine .inr ⟨⟨xs, ys, xs[i], ys[i], e1, e2, by simp [l1], by simp [l2]⟩, Pv (i + 1), fun σ' H' p' => ⟨n - (i + 1), by omega, rfl, hlt, p'⟩, fun v H' y => ?_⟩
    obtain ⟨r, x, y, hr, rfl, rfl, f1, f2⟩ := y
    exact hs i x y σ H r hlt (f1 xs e1) (f2 ys e2) p hr
  · have e : i = n := by omega
    subst e
    exact .inl ⟨⟨xs, ys, e1, e2, by omega⟩, hd σ H p⟩
end L2
end
section
set_option Elab.async false
set_option maxRecDepth 100000
set_option linter.all false
/-! ## Own words over the hand layer, 16: isinstance by a tuple of kinds; an item of a list or a tuple -/
namespace HT
open PySem PySem.Spec PyProof.Rows
section
variable {prog : Program} {w : World} {A : Around} {E : Value → Shared → Prop} {s : Shared}
theorem isi_tup {x : Value} {Tx : String} {tp : Addr} {cs : List Value} {vs : List Bool} {dd : Option Addr} {n : Nat} {sl : Array (Option Value)} (ha : AnswersAll (fun s => s.TypeIs x Tx) x cs vs) :
    Meets (Builtin.«isinstance» ⟨[x, .ref tp], []⟩) (fun _ R s => s.TypeIs x Tx ∧ s.heap.get? tp = some { cls := .type "tuple", dict := dd, data := .seq cs.toArray n, slots := sl } ∧ ∀ tk, R (.ok (.ret (.bool (vs.any id)))) { s with toks := tk }) :=
  fun prog w A R s hs => isinstance_outer (by
    obtain ⟨h, g, d, t, os⟩ := s
    obtain ⟨hx, htp, hq⟩ := hs
    have T2 : (⟨h, g, d, t, os⟩ : Shared).TypeIs (.ref tp) "tuple" := ⟨_, htp, rfl⟩
    have f1 := PySem.F.isi_sub_tuple
    repeat (any_goals first | assumption | wp_step)
    refine wpAny_arrayLoop ?_
    simp only [List.toList_toArray, Option.getD_some]
    refine isinstance_items (dep := 0) (fun _ tk q => q.toks tk) cs vs _ _ ha hx fun tk' => ?_
    cases hv : vs.any id with
    | true =>
      simp only [if_true]
      repeat (any_goals first | assumption | wp_step)
      exact hv ▸ hq tk'
    | false =>
      simp only [if_false, Bool.false_eq_true]
      repeat (any_goals first | assumption | wp_step)
      exact hv ▸ hq tk') (Shared.TypeIs.not_mainsLoader hs.1)
end
end HT
namespace L2
open PySem PySem.Spec PyProof.Rows
def isSeq : PyData → Bool
  | .list _ => true
  | .tuple _ => true
  | _ => false
def noDict : PyData → Bool
  | .dict _ => false
  | _ => true
theorem ty_ty (T : String) (h : T = "tuple" ∨ T = "list") : typeOf (.type T) = pure (.type "type") := by rcases h with rfl | rfl <;> first | rfl | kernel_rfl
theorem sub_no {a b : String} (h : (a, b) ∈ [("int", "tuple"), ("int", "list"), ("bool", "tuple"), ("bool", "list"), ("str", "tuple"), ("str", "list"), ("NoneType", "tuple"), ("NoneType", "list"), ("list", "tuple"), ("tuple", "list")]) : isSubtype (.type a) (.type b) = pure false := by
  simp only [List.mem_cons, List.not_mem_nil, or_false, Prod.mk.injEq] at h
  rcases h with ⟨rfl, rfl⟩ | ⟨rfl, rfl⟩ | ⟨rfl, rfl⟩ | ⟨rfl, rfl⟩ | ⟨rfl, rfl⟩ | ⟨rfl, rfl⟩ | ⟨rfl, rfl⟩ | ⟨rfl, rfl⟩ | ⟨rfl, rfl⟩ | ⟨rfl, rfl⟩ <;> (rw [isSubtype_type]; kernel_rfl)
theorem sub_yes {a : String} (h : a = "tuple" ∨ a = "list") : isSubtype (.type a) (.type a) = pure true := by rcases h with rfl | rfl <;> (rw [isSubtype_type]; kernel_rfl)
section
variable {X : Cx}
/-- isinstance(x, (tuple, list)) -/
theorem call_isinstTL : CallR X (.builtin "isinstance") (fun xs H Q => ∃ (N : Addr → Prop) (x : V) (d : PyData) (p : Addr), xs = [x, .ref p] ∧ H p = some (.tup [.ty "tuple", .ty "list"]) ∧ Tr N H x d ∧ noDict d = true ∧ Q (.bl (isSeq d)) H) := by
  intro pins s σ H xs us Q I r h
  obtain ⟨N, x, d, p, rfl, hp, t, nd, q⟩ := h
  obtain ⟨u, v, rfl, rx, rv⟩ := vals2 r
  cases (show v = Value.ref p from rv)
  obtain ⟨its, rt, pt, _⟩ := I.tuple (SqT.of hp)
  have ei : its = [.type "tuple", .type "list"] := by
    cases rt with
    | cons r1 rr =>
      cases rr with
      | cons r2 rn =>
        cases rn
        cases (show _ = Value.type "tuple" from r1)
        cases (show _ = Value.type "list" from r2)
        rfl
  subst ei
  obtain ⟨⟨c1, d1, x1, sl1⟩, ho, hc, n, hd⟩ := id pt
  simp only at hc hd
  subst hc hd
  have fin : ∀ (Tx : String) (vs : List Bool), AnswersAll (fun s => s.TypeIs u Tx) u [.type "tuple", .type "list"] vs → s.TypeIs u Tx → vs.any id = isSeq d → wpAny (model X.prog X.w) X.A (call (.builtin "isinstance") [u, .ref p]) (EP X pins σ Q) X.xe s := fun Tx vs ha hx e =>
    call_isinstance (HT.isi_tup (cs := [.type "tuple", .type "list"]) (dd := d1) (n := n) (sl := sl1) ha) ⟨hx, ho, fun tk => ⟨.bl (isSeq d), H, I.tok tk, (by rw [e]; rfl), q⟩⟩
  have y1 := ty_ty "tuple" (.inl rfl)
  have y2 := ty_ty "list" (.inr rfl)
  cases t with
  | non =>
    cases (show u = Value.none from rx)
    exact fin "NoneType" [false, false] (.cons (Answers.of_false_none (by decide) y1 (sub_no (by decide))) (.cons (Answers.of_false_none (by decide) y2 (sub_no (by decide))) .nil)) rfl rfl
  | bl b =>
    cases (show u = Value.bool b from rx)
    exact fin "bool" [false, false] (.cons (Answers.of_false_bool (by decide) y1 (sub_no (by decide))) (.cons (Answers.of_false_bool (by decide) y2 (sub_no (by decide))) .nil)) rfl rfl
  | int i =>
    obtain ⟨t, rfl⟩ := rx
    exact fin "int" [false, false] (.cons (Answers.of_false_int (by decide) y1 (sub_no (by decide))) (.cons (Answers.of_false_int (by decide) y2 (sub_no (by decide))) .nil)) rfl rfl
  | str z =>
    obtain ⟨t, rfl⟩ := rx
    exact fin "str" [false, false] (.cons (Answers.of_false_str (by decide) y1 (sub_no (by decide))) (.cons (Answers.of_false_str (by decide) y2 (sub_no (by decide))) .nil)) rfl rfl
  | lst n1 h1 t1 =>
    cases rx
    obtain ⟨its, _, pl, _⟩ := I.list (SqL.of h1)
    exact fin "list" [false, true] (.cons (Answers.of_false_list (by decide) y1 (sub_no (by decide))) (.cons (Answers.of_true y2 (sub_yes (.inr rfl))) .nil)) pl.isList.typeIs rfl
  | tup n1 h1 t1 =>
    cases rx
    obtain ⟨its, _, pl, _⟩ := I.tuple (SqT.of h1)
    exact fin "tuple" [true, false] (.cons (Answers.of_true y1 (sub_yes (.inl rfl))) (.cons (Answers.of_false_tuple (by decide) y2 (sub_no (by decide))) .nil)) pl.typeIs rfl
  | dct _ _ => cases nd
theorem ix_seqK {K : PySem.W.Frag} (hK : X.K = K) : IxR X (rIx K) := by subst hK; exact ix_seq
end
end L2
end
section
set_option Elab.async false
set_option maxRecDepth 10000
set_option linter.all false
namespace L2
open PySem PySem.Spec PyProof.Rows
mutual
theorem Tr.off {N : Addr → Prop} {H : Hp} {m : Addr} (hm : H m = none) : ∀ {v : V} {d : PyData}, Tr N H v d → Tr (fun b => N b ∧ b ≠ m) H v d
  | _, _, .non => .non
  | _, _, .bl b => .bl b
  | _, _, .int i => .int i
  | _, _, .str x => .str x
  | _, _, .lst n h t => .lst ⟨n, fun e => by rw [e, hm] at h; cases h⟩ h (TrAll.off hm t)
  | _, _, .tup n h t => .tup ⟨n, fun e => by rw [e, hm] at h; cases h⟩ h (TrAll.off hm t)
  | _, _, .dct n h => .dct ⟨n, fun e => by rw [e, hm] at h; cases h⟩ h
theorem TrAll.off {N : Addr → Prop} {H : Hp} {m : Addr} (hm : H m = none) : ∀ {xs : List V} {ds : List PyData}, TrAll N H xs ds → TrAll (fun b => N b ∧ b ≠ m) H xs ds
  | _, _, .nil => .nil
  | _, _, .cons r t => .cons (Tr.off hm r) (TrAll.off hm t)
end
/-- a list or a tuple, by its items -/
theorem Tr.seqI {N : Addr → Prop} {H : Hp} {v : V} {d : PyData} {K : PySem.W.Frag} (t : Tr N H v d) (h : isSeq d = true) : ∃ p xs ds, v = .ref p ∧ (d = .list ds ∨ d = .tuple ds) ∧ TrAll N H xs ds ∧ (SqL K H p xs ∨ SqT K H p xs) ∧
    (∀ H', Same H H' → (SqL K H' p xs ∨ SqT K H' p xs)) ∧ ∀ H' (i : Nat) (x : V) (Q : VK), Same H H' → xs[i]? = some x → Q x H' → rIx K (.ref p) (.int (i : Int)) H' Q := by
  cases t with
  | lst n e ts => exact ⟨_, _, _, rfl, .inl rfl, ts, .inl (SqL.of e), fun H' S => .inl (SqL.of (S _ _ e)), fun H' i x Q S hx q => .inl ⟨_, _, _, _, rfl, rfl, SqL.of (S _ _ e), atI_nat hx, q⟩⟩
  | tup n e ts => exact ⟨_, _, _, rfl, .inr rfl, ts, .inr (SqT.of e), fun H' S => .inr (SqT.of (S _ _ e)), fun H' i x Q S hx q => .inr (.inl ⟨_, _, _, _, rfl, rfl, SqT.of (S _ _ e), atI_nat hx, q⟩)⟩
  | _ => cases h
end L2
/-! ## What the laws k03, k05, k06, k11 share: sizes and spots -/
namespace Bc
open PySem PySem.Spec PyProof.Rows L2
def lenD : PyData → Int
  | .tuple [.int a, .int b] => b - a
  | _ => 0
def sizeD (es : List PyData) : Int := es.foldl (fun acc d => acc * lenD d) 1
def sizeB : PyData → Int
  | .tuple es => sizeD es
  | _ => 0
def inD : PyData → Int → Bool
  | .tuple [.int a, .int b], n => decide (a ≤ n) && decide (n < b)
  | _, _ => false
def holdsD (es : List PyData) (ns : List Int) : Bool := (es.zip ns).all fun p => inD p.1 p.2
def holdsB : PyData → List Int → Bool
  | .tuple es, ns => holdsD es ns
  | _, _ => false
def idxN (ds : List PyData) (ns : List Int) (i : Nat) : List Int := ((List.range i).filter fun j => holdsB (ds.getD j .none) ns).map fun (j : Nat) => (j : Int)
def idxD (ds : List PyData) (ns : List Int) : List Int := idxN ds ns ds.length
theorem idxN_succ {ds : List PyData} {ns : List Int} {i : Nat} {d : PyData} (h : ds[i]? = some d) : idxN ds ns (i + 1) = idxN ds ns i ++ (if holdsB d ns = true then [(i : Int)] else []) := by
  have e : ds.getD i .none = d := by rw [List.getD_eq_getElem?_getD, h]; rfl
  unfold idxN
  rw [List.range_succ, List.filter_append, List.map_append]
  congr 1
  rw [List.filter_cons, e]
  cases holdsB d ns <;> rfl
theorem idxN_len (ds : List PyData) (ns : List Int) (i : Nat) : (idxN ds ns i).length ≤ i := by
  unfold idxN
  rw [List.length_map]
  have h := List.length_filter_le (fun j => holdsB (ds.getD j .none) ns) (List.range i)
  rw [List.length_range] at h
  exact h
def spotD (ns : List Int) : PyData := .tuple (ns.map PyData.int)
theorem heap_inv {N : Addr → Prop} {H : Hp} {v : V} {n : Nat} {ds : List PyData} (T : Tr N H v (.tuple [.int n, .list ds])) : ∃ t q bs, v = .ref t ∧ N t ∧ N q ∧ H t = some (.tup [.int n, .ref q]) ∧ H q = some (.lst bs) ∧ TrAll N H bs ds := by
  obtain ⟨t, xs, rfl, nt, ht, ts⟩ := T.tupI
  cases ts with
  | cons t0 tr =>
    cases tr with
    | cons t1 tn =>
      cases tn
      rw [Tr.intv t0] at ht
      obtain ⟨q, bs, rfl, nq, hq, tb⟩ := t1.lstI
      exact ⟨t, q, bs, rfl, nt, nq, ht, hq, tb⟩
theorem ints_tr {N : Addr → Prop} {H : Hp} : ∀ {xs : List V} {ns : List Int}, TrAll N H xs (ns.map PyData.int) → xs = ns.map V.int
  | _, [], .nil => rfl
  | _, n :: r, .cons t ts => by rw [Tr.intv t, ints_tr ts]; rfl
theorem ints_mk {N : Addr → Prop} {H : Hp} : ∀ (ns : List Int), TrAll N H (ns.map V.int) (ns.map PyData.int)
  | [] => .nil
  | n :: r => .cons (.int n) (ints_mk r)
theorem spot_inv {N : Addr → Prop} {H : Hp} {v : V} {ns : List Int} (T : Tr N H v (spotD ns)) : ∃ p, v = .ref p ∧ N p ∧ H p = some (.tup (ns.map V.int)) := by
  obtain ⟨p, xs, rfl, np, hp, ts⟩ := T.tupI
  rw [ints_tr ts] at hp
  exact ⟨p, rfl, np, hp⟩
/-- a good heap -/
structure Good (n : Nat) (ds : List PyData) : Prop where
  n1 : 1 ≤ n
  n3 : n ≤ 3
  le : ds.length ≤ mostOf (.int n)
  all : ds.all (boxD n) = true
theorem Good.most {n : Nat} {ds : List PyData} (g : Good n ds) : ds.length ≤ 20 := by
  have hw : n = 1 ∨ n = 2 ∨ n = 3 := by have := g.n1; have := g.n3; omega
  have := g.le
  rcases hw with rfl | rfl | rfl
  · exact this
  · exact Nat.le_trans this (by decide)
  · exact Nat.le_trans this (by decide)
theorem Good.heap {n : Nat} {ds : List PyData} (g : Good n ds) : isHeap (.tuple [.int n, .list ds]) = true := by
  have n1 := g.n1
  have n3 := g.n3
  have e1 : isWays (.int n) = true := decide_eq_true (by omega)
  have e3 : ds.all (isBox (.int n)) = true := all_imp g.all fun d z => by
    obtain ⟨es, rfl, hel, hb⟩ := boxD_is z
    have e0 : isBox (.int n) (.tuple es) = (decide ((n : Int) = 1 ∨ (n : Int) = 2 ∨ (n : Int) = 3) && decide ((n : Int) = (es.length : Int)) && es.all isStretch) := rfl
    rw [e0, decide_eq_true (by omega), decide_eq_true (by omega), all_imp hb fun d z => (bx_all z).2.2.2.2]
    rfl
  show (isWays (.int n) && decide (ds.length ≤ mostOf (.int n)) && ds.all (isBox (.int n))) = true
  rw [e1, e3, decide_eq_true g.le]
  rfl
/-- the datum's two copies are told the same: ints, and lists and tuples of those, n deep -/
def okD : Nat → PyData → Bool
  | _, .int _ => true
  | n + 1, .list ds => decide (ds.length ≤ 30) && ds.all (okD n)
  | n + 1, .tuple ds => decide (ds.length ≤ 30) && ds.all (okD n)
  | _, _ => false
def spS : Nat → Sp
  | 0 => fun _ _ _ _ => False
  | n + 1 => fun vs H Q _ => ∃ (N N' : Addr → Prop) (u v : V) (d : PyData), vs = [u, v] ∧ Tr N H u d ∧ Tr N' H v d ∧ okD n d = true ∧ ∀ H', Same H H' → Q (.bl true) H'
theorem okD_seq {n : Nat} {d : PyData} {ds : List PyData} (h : okD n d = true) (e : d = .list ds ∨ d = .tuple ds) : ∃ m, n = m + 1 ∧ ds.length ≤ 30 ∧ ds.all (okD m) = true := by
  cases n with
  | zero => rcases e with rfl | rfl <;> cases h
  | succ m =>
    refine ⟨m, rfl, ?_⟩
    rcases e with rfl | rfl
    · have h' : (decide (ds.length ≤ 30) && ds.all (okD m)) = true := h
      rw [Bool.and_eq_true, decide_eq_true_eq] at h'
      exact h'
    · have h' : (decide (ds.length ≤ 30) && ds.all (okD m)) = true := h
      rw [Bool.and_eq_true, decide_eq_true_eq] at h'
      exact h'
theorem okD_int {n : Nat} {d : PyData} (h : okD n d = true) (e : isSeq d = false) : ∃ i, d = .int i := by
  cases d with
  | int i => exact ⟨i, rfl⟩
  | list _ => cases e
  | tuple _ => cases e
  | _ => cases n <;> cases h
theorem okD_nd {n : Nat} {d : PyData} (h : okD n d = true) : noDict d = true := by
  cases d with
  | dict _ => cases n <;> cases h
  | _ => rfl
def spNeedHeap : Sp := fun vs H Q _ => ∃ (N : Addr → Prop) (v : V) (d : PyData), vs = [v] ∧ Tr N H v d ∧ isHeap d = true ∧ ∀ H', Same H H' → Q .non H'
def spNeedSpot : Sp := fun vs H Q _ => ∃ (N N' : Addr → Prop) (v u : V) (n : Nat) (ds : List PyData) (ns : List Int), vs = [v, u] ∧ Tr N H v (.tuple [.int n, .list ds]) ∧ Tr N' H u (spotD ns) ∧ ns.length = n ∧ n ≤ 3 ∧ ∀ H', Same H H' → Q .non H'
def spNumbered : Sp := fun vs H Q _ => ∃ (N : Addr → Prop) (v : V) (n : Nat) (ds : List PyData) (i : Nat) (d : PyData), vs = [v, .int i] ∧ Tr N H v (.tuple [.int n, .list ds]) ∧ ds[i]? = some d ∧ ∀ x, Tr N H x d → Q x H
def spBoxSize : Sp := fun vs H Q _ => ∃ (N : Addr → Prop) (v : V) (es : List PyData), vs = [v] ∧ Tr N H v (.tuple es) ∧ es.all bx = true ∧ Q (.int (sizeD es)) H
def spHolds : Sp := fun vs H Q _ => ∃ (N N' : Addr → Prop) (v u : V) (es : List PyData) (ns : List Int), vs = [v, u] ∧ Tr N H v (.tuple es) ∧ Tr N' H u (spotD ns) ∧ es.all bx = true ∧ es.length = ns.length ∧ es.length ≤ 3 ∧ ∀ H', Same H H' → Q (.bl (holdsD es ns)) H'
def spSizeOf : Sp := fun vs H Q _ => ∃ (N : Addr → Prop) (v : V) (n : Nat) (ds : List PyData) (i : Nat) (d : PyData), vs = [v, .int i] ∧ Tr N H v (.tuple [.int n, .list ds]) ∧ Good n ds ∧ ds[i]? = some d ∧ ∀ H', Same H H' → Q (.int (sizeB d)) H'
def spBoxesAt : Sp := fun vs H Q _ => ∃ (N N' : Addr → Prop) (v u : V) (n : Nat) (ds : List PyData) (ns : List Int), vs = [v, u] ∧ Tr N H v (.tuple [.int n, .list ds]) ∧ Good n ds ∧ Tr N' H u (spotD ns) ∧ ns.length = n ∧ ∀ p H', Same H H' → H p = none → H' p = some (.lst ((idxD ds ns).map V.int)) → Q (.ref p) H'
def spHowOften : Sp := fun vs H Q _ => ∃ (N N' : Addr → Prop) (v u : V) (n : Nat) (ds : List PyData) (ns : List Int), vs = [v, u] ∧ Tr N H v (.tuple [.int n, .list ds]) ∧ Good n ds ∧ Tr N' H u (spotD ns) ∧ ns.length = n ∧ ∀ H', Same H H' → Q (.int (idxD ds ns).length) H'
end Bc
end
section
set_option Elab.async false
set_option maxRecDepth 10000
set_option linter.all false
namespace K03
open PySem PySem.Spec PyProof.Rows L2 Bc
def top (i : Nat) : Stmt := PySem.Challenge.pw_boxcover_k03_sizes_and_spots.main.body.getD i (.Pass ⟨0, 0, 0, 0⟩)
abbrev s_is_whole : Stmt := top 7
abbrev s_are_ways : Stmt := top 8
abbrev s_is_stretch : Stmt := top 9
abbrev s_is_box : Stmt := top 10
abbrev s_is_heap : Stmt := top 11
abbrev s_need_heap : Stmt := top 12
abbrev s_need_spot : Stmt := top 13
abbrev s_numbered_box : Stmt := top 14
abbrev s_box_size : Stmt := top 15
abbrev s_holds : Stmt := top 16
abbrev s_size_of : Stmt := top 17
abbrev s_boxes_at : Stmt := top 18
abbrev s_how_often : Stmt := top 19
abbrev s_law_well : Stmt := top 21
abbrev s_law_draw : Stmt := top 22
abbrev s_law_marks : Stmt := top 23
abbrev s_law_stretch : Stmt := top 24
abbrev s_law_near : Stmt := top 25
abbrev s_law_heap : Stmt := top 26
abbrev s_law_some_heap : Stmt := top 27
abbrev s_law_holds : Stmt := top 28
abbrev s_law_size : Stmt := top 29
abbrev s_law_spot : Stmt := top 30
abbrev s_law_same : Stmt := top 31
abbrev s_law_right : Stmt := top 32
abbrev s_law : Stmt := top 33
theorem sc_is_whole : FnScope ["thing"] ["thing"] (defScope s_is_whole) := ⟨rfl, rfl, rfl, by decide +kernel, rfl, by decide +kernel, by decide +kernel⟩
theorem sc_are_ways : FnScope ["thing"] ["thing"] (defScope s_are_ways) := ⟨rfl, rfl, rfl, by decide +kernel, rfl, by decide +kernel, by decide +kernel⟩
theorem sc_is_stretch : FnScope ["thing"] ["thing"] (defScope s_is_stretch) := ⟨rfl, rfl, rfl, by decide +kernel, rfl, by decide +kernel, by decide +kernel⟩
theorem sc_is_box : FnScope ["ways", "thing"] ["ways", "thing"] (defScope s_is_box) := ⟨rfl, rfl, rfl, by decide +kernel, rfl, by decide +kernel, by decide +kernel⟩
theorem sc_law_well : FnScope ["cell"] ["cell"] (defScope s_law_well) := ⟨rfl, rfl, rfl, by decide +kernel, rfl, by decide +kernel, by decide +kernel⟩
theorem sc_law_draw : FnScope ["well", "many", "got", "stirred"] ["well", "many"] (defScope s_law_draw) := ⟨rfl, rfl, rfl, by decide +kernel, rfl, by decide +kernel, by decide +kernel⟩
theorem sc_law_marks : FnScope ["well", "many", "far", "way", "some"] ["well", "many"] (defScope s_law_marks) := ⟨rfl, rfl, rfl, by decide +kernel, rfl, by decide +kernel, by decide +kernel⟩
theorem sc_law_stretch : FnScope ["well", "marks", "at"] ["well", "marks"] (defScope s_law_stretch) := ⟨rfl, rfl, rfl, by decide +kernel, rfl, by decide +kernel, by decide +kernel⟩
section
variable {P : Program} {w : World} {K : PySem.W.Frag} {mg : Str → Option Value} {base : Heap}
theorem ok_is_whole {f : Addr} {fd : FuncData} (F : Fun K "is_whole" "is_whole" s_is_whole f fd) (B : Blt mg) : FnOk P w K mg base CX0 1 f fd ["thing"] spWhole := by
  refine F.ok sc_is_whole (fun vs H Q E h => ?_) (fun cdv A outer s H vs Q E hr h => ?_)
  · obtain ⟨N, v, d, rfl, _⟩ := h
    rfl
  obtain ⟨N, v, d, rfl, t, q⟩ := h
  refine ⟨_, (@pss_one _ _ _ (@ps_ret _ _ _ _ (pe_and (pe_callB (call_isinstK (K := K) rfl) rfl (B.is "isinstance") bt_isinstance (@pa_cons _ _ _ _ _ (pv 0) (@pa_cons _ _ _ _ _ (pe_bltn (v := .ty "int") rfl (B.is "int") bt_int rfl) (@pa_nil _) (by rfl)) (by rfl))) (pe_one (@pe_not _ _ _ _ (pe_callB (call_isinstK (K := K) rfl) rfl (B.is "isinstance") bt_isinstance (@pa_cons _ _ _ _ _ (pv 0) (@pa_cons _ _ _ _ _ (pe_bltn (v := .ty "bool") rfl (B.is "bool") bt_bool rfl) (@pa_nil _) (by rfl)) (by rfl)))))))), ?_⟩
  refine ⟨_, rfl, _, _, _, _, rfl, t.ty, kit_int d, _, rfl, ?_⟩
  rw [whole_eq] at q
  refine ite2 (fun c => ?_) (fun c => ?_)
  · refine ⟨_, rfl, _, _, _, _, rfl, t.ty, kit_bool d, _, rfl, ?_⟩
    rw [c, Bool.true_and] at q
    exact q
  · rw [Bool.eq_false_iff.mpr c, Bool.false_and] at q
    exact q
theorem ok_are_ways {f dM : Addr} {fd : FuncData} (F : Fun K "are_ways" "are_ways" s_are_ways f fd) (c_is_whole : Cal P w K mg base "is_whole" 1 ["thing"] spWhole) (M_MOST_BOXES : mg "MOST_BOXES" = some (.ref dM)) (T_MOST_BOXES : ∀ h, K.In h → IntTab P w h dM D3) :
    FnOk P w K mg base CX0 2 f fd ["thing"] spWays := by
  refine F.ok sc_are_ways (fun vs H Q E h => ?_) (fun cdv A outer s H vs Q E hr h => ?_)
  · obtain ⟨N, v, d, rfl, _⟩ := h
    rfl
  obtain ⟨N, v, d, rfl, t, q⟩ := h
  refine ⟨_, (@pss_one _ _ _ (@ps_ret _ _ _ _ (pe_and (pe_callC c_is_whole hr (by omega) rfl (@pa_cons _ _ _ _ _ (pv 0) (@pa_nil _) (by rfl))) (pe_one (pe_cmpR (op_inTab T_MOST_BOXES) (pv 0) (pe_glob (v := .ref _) rfl M_MOST_BOXES rfl) (by with_unfolding_all rfl)))))), ?_⟩
  refine ⟨_, rfl, N, _, d, rfl, t, _, rfl, ?_⟩
  refine ite2 (fun c => ?_) (fun c => ?_)
  · obtain ⟨i, rfl⟩ : ∃ i, d = .int i := by cases d <;> first | exact ⟨_, rfl⟩ | cases c
    cases (Tr.intv t)
    refine ⟨_, rfl, i, rfl, rfl, ?_⟩
    rw [in_D3]
    exact q
  · have e : isWays d = false := by cases d <;> first | rfl | exact absurd rfl c
    rw [e] at q
    exact q
theorem ok_is_stretch {f : Addr} {fd : FuncData} (F : Fun K "is_stretch" "is_stretch" s_is_stretch f fd) (B : Blt mg) (c_is_whole : Cal P w K mg base "is_whole" 1 ["thing"] spWhole) : FnOk P w K mg base CX0 2 f fd ["thing"] spStretch := by
  refine F.ok sc_is_stretch (fun vs H Q E h => ?_) (fun cdv A outer s H vs Q E hr h => ?_)
  · obtain ⟨N, v, d, rfl, _⟩ := h
    rfl
  obtain ⟨N, v, d, rfl, t, q⟩ := h
  refine ⟨_, (@pss_cons _ _ _ _ _ (@ps_if _ _ _ _ _ _ _ _ (PW.pt (pw_or (pt_not (pt_val (pe_callB (call_isinstK (K := K) rfl) rfl (B.is "isinstance") bt_isinstance (@pa_cons _ _ _ _ _ (pv 0) (@pa_cons _ _ _ _ _ (pe_bltn (v := .ty "tuple") rfl (B.is "tuple") bt_tuple rfl) (@pa_nil _) (by rfl)) (by rfl))))) (pw_or1 (pt_cmpR op_ne (pe_callB (call_lenK (K := K) rfl) rfl (B.is "len") bt_len (@pa_cons _ _ _ _ _ (pv 0) (@pa_nil _) (by rfl))) (@pe_int _ _ _ _) (nomark _))))) (@pss_one _ _ _ (@ps_ret _ _ _ _ (@pe_bl _ _ _ _))) (@pss_nil _))
      (@pss_one _ _ _ (@ps_ret _ _ _ _ (pe_and (pe_callC c_is_whole hr (by omega) rfl (@pa_cons _ _ _ _ _ (pe_ix (ix_tupK (K := K) rfl) (pv 0) (@pe_int _ _ _ _) (fun _ _ => rfl)) (@pa_nil _) (by rfl))) (pe_and (pe_callC c_is_whole hr (by omega) rfl (@pa_cons _ _ _ _ _ (pe_ix (ix_tupK (K := K) rfl) (pv 0) (@pe_int _ _ _ _) (fun _ _ => rfl)) (@pa_nil _) (by rfl))) (pe_one (pe_cmpR op_lt (pe_ix (ix_tupK (K := K) rfl) (pv 0) (@pe_int _ _ _ _) (fun _ _ => rfl)) (pe_ix (ix_tupK (K := K) rfl) (pv 0) (@pe_int _ _ _ _) (fun _ _ => rfl)) (nomark _)))))))), ?_⟩
  refine ⟨_, rfl, _, _, _, _, rfl, t.ty, kit_tuple d, _, rfl, ?_⟩
  refine ite2 (fun c => ?_) (fun c => ?_)
  · refine iteT ?_
    have e : isStretch d = false := by cases d <;> first | rfl | cases c
    rw [e] at q
    exact q
  · obtain ⟨ds, rfl⟩ : ∃ ds, d = .tuple ds := by cases d <;> first | exact ⟨_, rfl⟩ | exact absurd rfl c
    cases t with
    | @tup a xs _ n hH ts =>
    have hl := ts.length
    refine ⟨_, rfl, a, xs, rfl, .inr (SqT.of hH), rfl, _, rfl, ?_⟩
    refine ite2 (fun c2 => ?_) (fun c2 => ?_)
    · have hne : xs.length ≠ 2 := fun z => by
        rw [z] at c2
        exact absurd c2 (by decide)
      have e : isStretch (.tuple ds) = false := by
        rw [hl] at hne
        match ds, hne with
        | [], _ => rfl
        | [x], _ => cases x <;> rfl
        | [_, _], z => exact absurd rfl z
        | x :: y :: _ :: _, _ => cases x <;> cases y <;> rfl
      rw [e] at q
      exact q
    · have hl2 : xs.length = 2 := by
        by_cases z : xs.length = 2
        · exact z
        · exfalso
          apply c2
          have z' : ¬ (V.int ((xs.length : Nat) : Int) = V.int 2) := fun h => z (by have := V.int.inj h; omega)
          rw [decide_eq_false z']
          rfl
      match xs, ds, ts, hl2 with
      | [x0, x1], [d0, d1], .cons t0 (.cons t1 .nil), _ =>
      refine ⟨_, rfl, a, _, 0, x0, rfl, rfl, SqT.of hH, rfl, N, x0, d0, rfl, t0, _, rfl, ?_⟩
      refine ite2 (fun c3 => ?_) (fun c3 => ?_)
      · refine ⟨_, rfl, a, _, 1, x1, rfl, rfl, SqT.of hH, rfl, N, x1, d1, rfl, t1, _, rfl, ?_⟩
        refine ite2 (fun c4 => ?_) (fun c4 => ?_)
        · obtain ⟨i, rfl⟩ : ∃ i, d0 = .int i := by cases d0 <;> first | exact ⟨_, rfl⟩ | cases c3
          obtain ⟨j, rfl⟩ : ∃ i, d1 = .int i := by cases d1 <;> first | exact ⟨_, rfl⟩ | cases c4
          cases (Tr.intv t0)
          cases (Tr.intv t1)
          exact ⟨_, rfl, a, _, 0, _, rfl, rfl, SqT.of hH, rfl, _, rfl, a, _, 1, _, rfl, rfl, SqT.of hH, rfl, i, j, rfl, rfl, q⟩
        · have e : isStretch (.tuple [d0, d1]) = false := by cases d1 <;> first | exact absurd rfl c4 | (cases d0 <;> rfl)
          rw [e] at q
          exact q
      · have e : isStretch (.tuple [d0, d1]) = false := by cases d0 <;> first | exact absurd rfl c3 | rfl
        rw [e] at q
        exact q
theorem ok_is_box {f : Addr} {fd : FuncData} (F : Fun K "is_box" "is_box" s_is_box f fd) (B : Blt mg) (c_are_ways : Cal P w K mg base "are_ways" 2 ["thing"] spWays) (c_is_stretch : Cal P w K mg base "is_stretch" 2 ["thing"] spStretch) :
    FnOk P w K mg base CX0 3 f fd ["ways", "thing"] spBox := by
  refine F.ok sc_is_box (fun vs H Q E h => ?_) (fun cdv A outer s H vs Q E hr h => ?_)
  · obtain ⟨N, N', u, v, dw, d, rfl, _⟩ := h
    rfl
  obtain ⟨N, N', u, v, dw, d, rfl, tw, t, q⟩ := h
  refine ⟨_, (@pss_cons _ _ _ _ _ (@ps_if _ _ _ _ _ _ _ _ (PW.pt (pw_or (pt_not (pt_val (pe_callC c_are_ways hr (by omega) rfl (@pa_cons _ _ _ _ _ (pv 0) (@pa_nil _) (by rfl))))) (pw_or (pt_not (pt_val (pe_callB (call_isinstK (K := K) rfl) rfl (B.is "isinstance") bt_isinstance (@pa_cons _ _ _ _ _ (pv 1) (@pa_cons _ _ _ _ _ (pe_bltn (v := .ty "tuple") rfl (B.is "tuple") bt_tuple rfl) (@pa_nil _) (by rfl)) (by rfl))))) (pw_or1 (pt_cmpR op_ne (pe_callB (call_lenK (K := K) rfl) rfl (B.is "len") bt_len (@pa_cons _ _ _ _ _ (pv 1) (@pa_nil _) (by rfl))) (pv 0) (nomark _)))))) (@pss_one _ _ _ (@ps_ret _ _ _ _ (@pe_bl _ _ _ _))) (@pss_nil _))
      (@pss_one _ _ _ (@ps_ret _ _ _ _ (pe_callB (call_all rfl) rfl (B.is "all") bt_all (@pa_cons _ _ _ _ _ (pe_comp rfl (CompOk.of (sc := defScope s_is_box) (N := ["ways", "thing"]) (N2 := ["part"]) (k := 1) (caps := []) (by decide +kernel)) (low_name (by decide)) (pi_tup (pv 1)) (fun _ _ _ _ _ => ⟨(pg_name (i := 0) (show List.Nodup (["part"] : List Str) by decide +kernel) rfl (Or.inl rfl)), pts_nil, (pe_callC c_is_stretch hr (by omega) rfl (@pa_cons _ _ _ _ _ (pv 0) (@pa_nil _) (by rfl)))⟩)) (@pa_nil _) (by rfl)))))), ?_⟩
  refine ⟨_, rfl, N, _, dw, rfl, tw, _, rfl, ?_⟩
  refine ite2 (fun c => ?_) (fun c => ?_)
  · refine iteT ?_
    have e : isBox dw d = false := by
      cases dw with
      | int n =>
        have c' : decide (n = 1 ∨ n = 2 ∨ n = 3) = false := by simpa [isWays] using c
        cases d <;> simp [isBox, c']
      | _ => rfl
    have q' := q H (Same.refl H)
    rw [e] at q'
    exact q'
  · have c1 : isWays dw = true := by cases h : isWays dw with
      | true => rfl
      | false => exact absurd (by rw [h]; rfl) c
    obtain ⟨n, rfl⟩ : ∃ n, dw = .int n := by cases dw <;> first | exact ⟨_, rfl⟩ | cases c1
    have c1' : decide (n = 1 ∨ n = 2 ∨ n = 3) = true := c1
    cases (Tr.intv tw)
    refine ⟨_, rfl, _, _, _, _, rfl, t.ty, kit_tuple d, _, rfl, ?_⟩
    refine ite2 (fun c2 => ?_) (fun c2 => ?_)
    · refine iteT ?_
      have e : isBox (.int n) d = false := by cases d <;> first | rfl | cases c2
      have q' := q H (Same.refl H)
      rw [e] at q'
      exact q'
    · obtain ⟨ds, rfl⟩ : ∃ ds, d = .tuple ds := by cases d <;> first | exact ⟨_, rfl⟩ | exact absurd rfl c2
      cases t with
      | @tup a xs _ na hH ts =>
      have hl := ts.length
      refine ⟨_, rfl, a, xs, rfl, .inr (SqT.of hH), _, rfl, rfl, _, rfl, ?_⟩
      refine ite2 (fun c3 => ?_) (fun c3 => ?_)
      · have hne : ¬ (n = (ds.length : Int)) := fun z => by
          rw [hl, ← z] at c3
          simp at c3
        have e : isBox (.int n) (.tuple ds) = false := by simp [isBox, hne]
        have q' := q H (Same.refl H)
        rw [e] at q'
        exact q'
      · have heq : n = (ds.length : Int) := by
          by_cases z : n = (ds.length : Int)
          · exact z
          · exfalso
            apply c3
            have z' : ¬ (V.int ((xs.length : Nat) : Int) = V.int n) := fun h => z (by have := V.int.inj h; omega)
            rw [decide_eq_false z']
            rfl
        have n3 : ds.length ≤ 3 := by
          have := of_decide_eq_true c1'
          omega
        refine ⟨_, rfl, a, rfl, ⟨xs, SqT.of hH⟩, ?_⟩
        refine comp_tup (xs := xs) (fun i ys H' => H' = H ∧ ys = ((ds.take i).map isStretch).map V.bl) ⟨rfl, rfl⟩ (fun i ys H' hi p => ?_) (fun i x ys H' hx p => ?_) (fun ys H' p hp hn => ?_)
        · obtain ⟨rfl, rfl⟩ := p
          refine ⟨SqT.of hH, small1000 ?_⟩
          rw [List.length_map, List.length_map, List.length_take]
          omega
        · obtain ⟨rfl, rfl⟩ := p
          obtain ⟨dx, e1, tx⟩ := ts.get hx
          refine ⟨_, rfl, N', x, dx, rfl, tx, nx ?_ ⟨rfl, ?_⟩⟩
          · exact (List.getElem?_eq_some_iff.mp hx).1
          · rw [List.take_succ, e1]
            simp
        · obtain ⟨rfl, rfl⟩ := hp
          refine ⟨p, (ds.take xs.length).map isStretch, rfl, SqL.of upd_same, ?_⟩
          have e : isBox (.int n) (.tuple ds) = ((ds.take xs.length).map isStretch).all id := by
            rw [hl, List.take_length, List.all_map]
            have e0 : isBox (.int n) (.tuple ds) = (decide (n = 1 ∨ n = 2 ∨ n = 3) && decide (n = (ds.length : Int)) && ds.all isStretch) := rfl
            rw [e0, c1', decide_eq_true heq]
            rfl
          rw [← e]
          exact q _ (same_new hn _)
theorem ok_law_well {f : Addr} {fd : FuncData} (F : Fun K "_law_well" "_law_well" s_law_well f fd) : FnOk P w K mg base CX0 1 f fd ["cell"] spWell := by
  refine F.ok sc_law_well (fun vs H Q E h => ?_) (fun cdv A outer s H vs Q E hr h => ?_)
  · obtain ⟨c, rfl, _⟩ := h
    rfl
  obtain ⟨c, rfl, q⟩ := h
  refine ⟨_, (@pss_cons _ _ _ _ _ (@ps_if _ _ _ _ _ _ _ _ (pt_cmpR op_ge (pv 0) (@pe_op _ _ _ _ _ _ _ _ op_pow (@pe_int _ _ _ _) (@pe_int _ _ _ _)) (nomark _)) (@pss_one _ _ _ (@ps_ret _ _ _ _ (@pe_lst _ _ _ _ (@pa_cons _ _ _ _ _ (pv 0) (@pa_cons _ _ _ _ _ (@pe_op _ _ _ _ _ _ _ _ op_mod (pv 0) (@pe_int _ _ _ _)) (@pa_nil _) (by rfl)) (by rfl))))) (@pss_nil _))
      (@pss_one _ _ _ (@ps_ret _ _ _ _ (@pe_lst _ _ _ _ (@pa_cons _ _ _ _ _ (@pe_int _ _ _ _) (@pa_cons _ _ _ _ _ (@pe_op _ _ _ _ _ _ _ _ op_mod (pv 0) (@pe_int _ _ _ _)) (@pa_nil _) (by rfl)) (by rfl)))))), ?_⟩
  refine ⟨_, rfl, _, _, rfl, rfl, ⟨by decide, by decide, by decide⟩, _, _, rfl, rfl, _, rfl, ?_⟩
  refine ite2 (fun _ => ?_) (fun _ => ?_)
  · exact ⟨_, rfl, _, rfl, _, _, rfl, rfl, (by decide : (0 : Int) < 2147483629), (by decide : 2 ≤ sizeLine), fun p hp => q p _ _ hp⟩
  · exact ⟨_, rfl, _, _, rfl, rfl, (by decide : (0 : Int) < 2147483629), (by decide : 2 ≤ sizeLine), fun p hp => q p _ _ hp⟩
theorem ok_law_draw {f : Addr} {fd : FuncData} (F : Fun K "_law_draw" "_law_draw" s_law_draw f fd) (B : Blt mg) : FnOk P w K mg base CX0 1 f fd ["well", "many"] spDraw := by
  refine F.ok sc_law_draw (fun vs H Q E h => ?_) (fun cdv A outer s H vs Q E hr h => ?_)
  · obtain ⟨a, m, rfl, _⟩ := h
    rfl
  obtain ⟨a, m, rfl, ⟨x, y, hW⟩, m0, m1, q⟩ := h
  refine ⟨_, (@pss_cons _ _ _ _ _ (@ps_if _ _ _ _ _ _ _ _ (pt_cmpR op_gt (pe_ix (ix_listK (K := K) rfl) (pv 0) (@pe_int _ _ _ _) (fun _ _ => rfl)) (@pe_int _ _ _ _) (nomark _)) (@pss_cons _ _ _ _ _ (@ps_set _ _ 2 _ _ _ _ sc_law_draw.nd rfl (Or.inl rfl) (@pe_op _ _ _ _ _ _ _ _ op_mod (pe_ix (ix_listK (K := K) rfl) (pv 0) (@pe_int _ _ _ _) (fun _ _ => rfl)) (pv 1)) (by rfl) (by first | exact .inl rfl | exact .inr rfl | assumption))
      (@pss_cons _ _ _ _ _ (ps_asg (@pe_op _ _ _ _ _ _ _ _ op_fdiv2 (pe_ix (ix_listK (K := K) rfl) (pv 0) (@pe_int _ _ _ _) (fun _ _ => rfl)) (pv 1)) (pg_sub (pv 0) (@pe_int _ _ _ _) set_list))
      (@pss_one _ _ _ (@ps_ret _ _ _ _ (pv 2))))) (@pss_nil _))
      (@pss_cons _ _ _ _ _ (@ps_set _ _ 3 _ _ _ _ sc_law_draw.nd rfl (Or.inl rfl) (@pe_op _ _ _ _ _ _ _ _ op_mod (@pe_op _ _ _ _ _ _ _ _ op_add (@pe_op _ _ _ _ _ _ _ _ op_mul (pe_ix (ix_listK (K := K) rfl) (pv 0) (@pe_int _ _ _ _) (fun _ _ => rfl)) (@pe_int _ _ _ _)) (@pe_int _ _ _ _)) (@pe_int _ _ _ _)) (by rfl) (by first | exact .inl rfl | exact .inr rfl | assumption))
      (@pss_cons _ _ _ _ _ (@ps_set _ _ 3 _ _ _ _ sc_law_draw.nd rfl (Or.inl rfl) (@pe_op _ _ _ _ _ _ _ _ op_mod (@pe_op _ _ _ _ _ _ _ _ op_mul (pv 3) (pv 3)) (@pe_int _ _ _ _)) (by rfl) (by first | exact .inl rfl | exact .inr rfl | assumption))
      (@pss_cons _ _ _ _ _ (ps_asg (@pe_op _ _ _ _ _ _ _ _ op_mod (@pe_op _ _ _ _ _ _ _ _ op_add (@pe_op _ _ _ _ _ _ _ _ op_mul (pv 3) (@pe_int _ _ _ _)) (@pe_int _ _ _ _)) (@pe_int _ _ _ _)) (pg_sub (pv 0) (@pe_int _ _ _ _) set_list))
      (@pss_one _ _ _ (@ps_ret _ _ _ _ (@pe_op _ _ _ _ _ _ _ _ op_mod (@pe_op _ _ _ _ _ _ _ _ op_mul (@pe_op _ _ _ _ _ _ _ _ op_fdiv2 (pe_ix (ix_listK (K := K) rfl) (pv 0) (@pe_int _ _ _ _) (fun _ _ => rfl)) (@pe_int _ _ _ _)) (pe_ix (ix_listK (K := K) rfl) (@pe_lst _ _ _ _ (@pa_cons _ _ _ _ _ (@pe_int _ _ _ _) (@pa_cons _ _ _ _ _ (@pe_int _ _ _ _) (@pa_nil _) (by rfl)) (by rfl))) (pe_callTy call_int1 rfl (B.is "int") bt_int (@pa_cons _ _ _ _ _ (pe_cmpR op_gt (pv 1) (@pe_op _ _ _ _ _ _ _ _ op_pow (@pe_int _ _ _ _) (@pe_int _ _ _ _)) (nomark _)) (@pa_nil _) (by rfl))) (fun _ _ => rfl))) (pv 1)))))))), ?_⟩
  have s0 : SqL K H a [.int x, .int y] := SqL.of hW
  refine ⟨_, rfl, a, _, 0, .int x, rfl, rfl, s0, rfl, _, _, rfl, rfl, _, rfl, ?_⟩
  refine ite2 (fun c => ?_) (fun c => ?_)
  · refine ⟨_, rfl, a, _, 0, .int x, rfl, rfl, s0, rfl, _, rfl, _, _, rfl, rfl, m0, ?_⟩
    refine ⟨_, rfl, a, _, 0, .int x, rfl, rfl, s0, rfl, _, rfl, _, _, rfl, rfl, ⟨m0, by omega⟩, ?_⟩
    refine ⟨_, rfl, a, _, 0, 0, rfl, rfl, hW, rfl, ?_⟩
    refine ⟨_, rfl, q _ _ (Int.emod_nonneg _ (by omega)) (Int.emod_lt_of_pos _ m0) (But.upd _) ⟨_, _, upd_same⟩⟩
  · refine ⟨_, rfl, a, _, 1, .int y, rfl, rfl, s0, rfl, _, _, rfl, rfl, .inr ⟨by decide, by decide⟩, _, _, rfl, rfl, _, _, rfl, rfl, (by decide : (0 : Int) < 2147483647), ?_⟩
    have z0 : -(2 ^ 64) < (y * 48271 + 11) % 2147483647 ∧ (y * 48271 + 11) % 2147483647 < 2 ^ 64 := by omega
    refine ⟨_, rfl, _, rfl, _, _, rfl, rfl, .inl z0, _, _, rfl, rfl, (by decide : (0 : Int) < 2147483587), ?_⟩
    refine ⟨_, rfl, _, _, rfl, rfl, .inr ⟨by decide, by decide⟩, _, _, rfl, rfl, _, _, rfl, rfl, (by decide : (0 : Int) < 2147483629), ?_⟩
    refine ⟨_, rfl, a, _, 1, 1, rfl, rfl, hW, rfl, ?_⟩
    refine ⟨_, rfl, a, _, 1, _, rfl, rfl, SqL.of upd_same, rfl, _, _, rfl, rfl, ⟨by decide, by decide⟩, (by decide : 2 ≤ sizeLine), fun p hp => ?_⟩
    have hpa : p ≠ a := fun e => by rw [e, upd_same] at hp; cases hp
    refine ⟨_, rfl, _, _, rfl, rfl, ⟨by decide, by decide, by decide⟩, _, _, rfl, rfl, .inr ⟨_, rfl, ?_⟩⟩
    have fin : ∀ (t g : Int), Q (.int (t / 8 * g % m)) (upd (upd H a (.lst [.int x, .int t])) p (.lst [.int 1, .int 8191])) := fun t g =>
      q _ _ (Int.emod_nonneg _ (by omega)) (Int.emod_lt_of_pos _ m0) ((But.upd _).trans (But.of_same (same_new (by
        have hp' : L2.upd H a _ p = none := hp
        rw [upd_ne hpa] at hp' ⊢; exact hp') _))) ⟨x, t, by rw [upd_ne (Ne.symm hpa)]; exact upd_same⟩
    cases hc : decide ((10 : Int) ^ (6 : Int).toNat < m) with
    | true => exact ⟨p, _, 1, .int 8191, rfl, rfl, SqL.of upd_same, rfl, _, _, rfl, rfl, .inr ⟨by decide, by decide⟩, _, rfl, _, _, rfl, rfl, m0, fin _ 8191⟩
    | false => exact ⟨p, _, 0, .int 1, rfl, rfl, SqL.of upd_same, rfl, _, _, rfl, rfl, .inr ⟨by decide, by decide⟩, _, rfl, _, _, rfl, rfl, m0, fin _ 1⟩
theorem ok_law_marks {f : Addr} {fd : FuncData} (F : Fun K "_law_marks" "_law_marks" s_law_marks f fd) (B : Blt mg) (c_law_draw : Cal P w K mg base "_law_draw" 1 ["well", "many"] spDraw) : FnOk P w K mg base CX0 2 f fd ["well", "many"] spMarks := by
  refine F.ok sc_law_marks (fun vs H Q E h => ?_) (fun cdv A outer s H vs Q E hr h => ?_)
  · obtain ⟨a, m, rfl, _⟩ := h
    rfl
  obtain ⟨a, m, rfl, hW, m0, m1, q⟩ := h
  refine ⟨_, (@pss_cons _ _ _ _ _ (@ps_set _ _ 2 _ _ _ _ sc_law_marks.nd rfl (Or.inl rfl) (@pe_op _ _ _ _ _ _ _ _ op_add (@pe_op _ _ _ _ _ _ _ _ op_sub (pe_callC c_law_draw hr (by omega) rfl (@pa_cons _ _ _ _ _ (pv 0) (@pa_cons _ _ _ _ _ (@pe_op _ _ _ _ _ _ _ _ op_sub (@pe_op _ _ _ _ _ _ _ _ op_mul (@pe_int _ _ _ _) (@pe_op _ _ _ _ _ _ _ _ op_pow (@pe_int _ _ _ _) (@pe_int _ _ _ _))) (@pe_int _ _ _ _)) (@pa_nil _) (by rfl)) (by rfl))) (@pe_op _ _ _ _ _ _ _ _ op_pow (@pe_int _ _ _ _) (@pe_int _ _ _ _))) (@pe_int _ _ _ _)) (by rfl) (by first | exact .inl rfl | exact .inr rfl | assumption))
      (@pss_cons _ _ _ _ _ (@ps_set _ _ 3 _ _ _ _ sc_law_marks.nd rfl (Or.inl rfl) (pe_callC c_law_draw hr (by omega) rfl (@pa_cons _ _ _ _ _ (pv 0) (@pa_cons _ _ _ _ _ (@pe_int _ _ _ _) (@pa_nil _) (by rfl)) (by rfl))) (by rfl) (by first | exact .inl rfl | exact .inr rfl | assumption))
      (@pss_cons _ _ _ _ _ (@ps_if _ _ _ _ _ _ _ _ (pt_cmpR op_lt (pv 3) (@pe_int _ _ _ _) (nomark _)) (@pss_one _ _ _ (@ps_ret _ _ _ _ (pe_ix (ix_listK (K := K) rfl) (@pe_lst _ _ _ _ (@pa_cons _ _ _ _ _ (pe_callTy (call_listRange rfl) rfl (B.is "list") bt_list (@pa_cons _ _ _ _ _ (pe_callTy call_range1 rfl (B.is "range") bt_range (@pa_cons _ _ _ _ _ (@pe_int _ _ _ _) (@pa_nil _) (by rfl))) (@pa_nil _) (by rfl))) (@pa_cons _ _ _ _ _ (pe_callTy (call_listRange rfl) rfl (B.is "list") bt_list (@pa_cons _ _ _ _ _ (pe_callTy call_range2 rfl (B.is "range") bt_range (@pa_cons _ _ _ _ _ (@pe_un _ _ _ _ _ _ un_neg (@pe_int _ _ _ _)) (@pa_cons _ _ _ _ _ (@pe_int _ _ _ _) (@pa_nil _) (by rfl)) (by rfl))) (@pa_nil _) (by rfl))) (@pa_nil _) (by rfl)) (by rfl))) (pv 3) (fun _ _ => rfl)))) (@pss_nil _))
      (@pss_cons _ _ _ _ _ (@ps_if _ _ _ _ _ _ _ _ (pt_cmpR op_eq (pv 3) (@pe_int _ _ _ _) (nomark _)) (@pss_one _ _ _ (@ps_ret _ _ _ _ (pe_callTy (call_listRange rfl) rfl (B.is "list") bt_list (@pa_cons _ _ _ _ _ (pe_callTy call_range2 rfl (B.is "range") bt_range (@pa_cons _ _ _ _ _ (pv 2) (@pa_cons _ _ _ _ _ (@pe_op _ _ _ _ _ _ _ _ op_add (pv 2) (@pe_int _ _ _ _)) (@pa_nil _) (by rfl)) (by rfl))) (@pa_nil _) (by rfl))))) (@pss_nil _))
      (@pss_cons _ _ _ _ _ (ps_setC (i := 4) rfl sc_law_marks.nd rfl (CompOk.of (sc := defScope s_law_marks) (N := ["well", "many", "far", "way", "some"]) (N2 := ["k", "well"]) (k := 1) (caps := [0]) (by decide +kernel)) (low_name (by decide)) (pi_range1 rfl (B.is "range") (@pa_cons _ _ _ _ _ (@pe_op _ _ _ _ _ _ _ _ op_add (@pe_int _ _ _ _) (pv 1)) (@pa_nil _) (by rfl))) (fun _ _ _ _ _ => ⟨(pg_name (i := 0) (show List.Nodup (["k", "well"] : List Str) by decide +kernel) rfl (Or.inl rfl)), pts_nil, (@pe_op _ _ _ _ _ _ _ _ op_sub (pe_callC c_law_draw hr (by omega) rfl (@pa_cons _ _ _ _ _ (pv 1) (@pa_cons _ _ _ _ _ (@pe_op _ _ _ _ _ _ _ _ op_add (@pe_op _ _ _ _ _ _ _ _ op_mul (@pe_int _ _ _ _) (@pe_op _ _ _ _ _ _ _ _ op_pow (@pe_int _ _ _ _) (@pe_int _ _ _ _))) (@pe_int _ _ _ _)) (@pa_nil _) (by rfl)) (by rfl))) (@pe_op _ _ _ _ _ _ _ _ op_pow (@pe_int _ _ _ _) (@pe_int _ _ _ _)))⟩))
      (@pss_cons _ _ _ _ _ (@ps_if _ _ _ _ _ _ _ _ (pt_cmpR op_eq (pv 3) (@pe_int _ _ _ _) (nomark _)) (@pss_one _ _ _ (@ps_set _ _ 4 _ _ _ _ sc_law_marks.nd rfl (Or.inl rfl) (@pe_op _ _ _ _ _ _ _ _ op_cat (pv 4) (@pe_lst _ _ _ _ (@pa_cons _ _ _ _ _ (@pe_un _ _ _ _ _ _ un_neg (@pe_op _ _ _ _ _ _ _ _ op_pow (@pe_int _ _ _ _) (@pe_int _ _ _ _))) (@pa_cons _ _ _ _ _ (@pe_op _ _ _ _ _ _ _ _ op_pow (@pe_int _ _ _ _) (@pe_int _ _ _ _)) (@pa_nil _) (by rfl)) (by rfl)))) (by rfl) (by first | exact .inl rfl | exact .inr rfl | assumption))) (@pss_nil _))
      (@pss_one _ _ _ (@ps_ret _ _ _ _ (pe_callB (call_sortedSet rfl) rfl (B.is "sorted") bt_sorted (@pa_cons _ _ _ _ _ (pe_callTy (call_set rfl) rfl (B.is "set") bt_set (@pa_cons _ _ _ _ _ (@pe_op _ _ _ _ _ _ _ _ op_cat (pv 4) (@pe_lst _ _ _ _ (@pa_cons _ _ _ _ _ (pv 2) (@pa_cons _ _ _ _ _ (@pe_op _ _ _ _ _ _ _ _ op_add (pv 2) (@pe_int _ _ _ _)) (@pa_nil _) (by rfl)) (by rfl)))) (@pa_nil _) (by rfl))) (@pa_nil _) (by rfl))))))))))), ?_⟩
  refine ⟨_, rfl, _, _, rfl, rfl, ⟨by decide, by decide, by decide⟩, _, _, rfl, rfl, .inl ⟨by decide, by decide⟩, _, _, rfl, rfl, a, _, rfl, hW, by decide, by decide, fun r H1 r0 r1 b1 w1 => ?_⟩
  refine ⟨_, _, rfl, rfl, ⟨by decide, by decide, by decide⟩, _, _, rfl, rfl, _, _, rfl, rfl, ?_⟩
  refine ⟨_, rfl, a, _, rfl, w1, by decide, by decide, fun way H2 y0 y1 b2 w2 => ?_⟩
  have b12 := b1.trans b2
  have e9 : (10 : Int) ^ (Int.toNat 9) = 1000000000 := by decide
  rw [e9] at r1
  refine ⟨_, rfl, _, _, rfl, rfl, _, rfl, ?_⟩
  refine ite2 (fun c => ?_) (fun c => ?_)
  · have cw : way < 2 := of_decide_eq_true c
    refine ⟨7, rfl, fun p1 hp1 => ⟨p1, 0, 7, rfl, upd_same, by decide, by decide, by decide, by decide, by decide, fun l1 hl1 => ⟨3, rfl, -3, 4, rfl, fun p2 hp2 => ⟨p2, -3, 4, rfl, upd_same, by decide, by decide, by decide, by decide, by decide, fun l2 hl2 => ⟨(by decide : 2 ≤ sizeLine), fun l3 hl3 => ?_⟩⟩⟩⟩⟩
    have S1 := same_new hp1 (.rng 0 7)
    have S2 := same_new hl1 (.lst ((L2.upTo 0 7).map V.int))
    have S3 := same_new hp2 (.rng (-3) 4)
    have S4 := same_new hl2 (.lst ((L2.upTo (-3) 7).map V.int))
    have S5 := same_new hl3 (.lst [.ref l1, .ref l2])
    have Sall := S1.trans (S2.trans (S3.trans (S4.trans S5)))
    have bb := b12.trans (But.of_same Sall)
    have ww : Well _ a := w2.same Sall
    have hw : way = 0 ∨ way = 1 := by omega
    rcases hw with rfl | rfl
    · exact ⟨_, rfl, l3, _, 0, .ref l1, rfl, rfl, SqL.of upd_same, rfl, q l1 _ (L2.upTo 0 7) bb ww ((b12.trans (But.of_same S1)).none (w2.same S1) hl1) ((S3.trans (S4.trans S5)) _ _ upd_same) (upTo_marks (by decide) (by decide) (by decide) (by decide))⟩
    · exact ⟨_, rfl, l3, _, 1, .ref l2, rfl, rfl, SqL.of upd_same, rfl, q l2 _ (L2.upTo (-3) 7) bb ww ((b12.trans (But.of_same (S1.trans (S2.trans S3)))).none (w2.same (S1.trans (S2.trans S3))) hl2) (S5 _ _ upd_same) (upTo_marks (by decide) (by decide) (by decide) (by decide))⟩
  · have cw : ¬ way < 2 := of_decide_eq_false (Bool.eq_false_iff.mpr c)
    refine ⟨_, rfl, rfl, _, rfl, ?_⟩
    refine ite2 (fun c2 => ?_) (fun c2 => ?_)
    · refine ⟨_, rfl, _, rfl, _, _, rfl, rfl, _, _, rfl, fun p1 hp1 => ⟨p1, _, _, rfl, upd_same, by omega, by omega, by omega, by omega, by omega, fun l1 hl1 => ?_⟩⟩
      have S1 := same_new hp1 (.rng (r - 10 ^ Int.toNat 9 + 10) (r - 10 ^ Int.toNat 9 + 10 + 6))
      have n6 : (r - 10 ^ Int.toNat 9 + 10 + 6 - (r - 10 ^ Int.toNat 9 + 10)).toNat = 6 := by omega
      refine q l1 _ (L2.upTo (r - 10 ^ Int.toNat 9 + 10) 6) ((b12.trans (But.of_same S1)).new hl1 _) ((w2.same S1).same (same_new hl1 _)) ((b12.trans (But.of_same S1)).none (w2.same S1) hl1) ?_ (upTo_marks (by decide) (by decide) (by omega) (by show _ + (6 : Int) ≤ _; omega))
      rw [upd_same, n6]
    · refine ⟨_, rfl, _, _, rfl, rfl, _, rfl, by omega, by omega, ?_⟩
      refine comp_range (fun i ys H' => But a H H' ∧ Well H' a ∧ ∃ ns : List Int, ys = ns.map V.int ∧ ns.length = i ∧ ∀ x ∈ ns, -(10 ^ 9) ≤ x ∧ x ≤ 10 ^ 9) ⟨b12, w2, [], rfl, rfl, fun x hx => by simp at hx⟩ (fun i ys H' hi p => ?_) (fun i ys H' hi p => ?_) (fun ys H' p hp hn => ?_)
      · obtain ⟨_, _, ns, rfl, hl, _⟩ := p
        rw [List.length_map]
        exact small1000 (by omega)
      · obtain ⟨bi, wi, ns, rfl, hl, hb⟩ := p
        refine ⟨_, rfl, _, _, rfl, rfl, ⟨by decide, by decide, by decide⟩, _, _, rfl, rfl, .inl ⟨by decide, by decide⟩, _, _, rfl, rfl, a, _, rfl, wi, by decide, by decide, fun r' H'' r0' r1' b' w' => ?_⟩
        have r1'' : r' < 2 * 10 ^ Int.toNat 9 + 1 := r1'
        rw [e9] at r1''
        refine ⟨_, _, rfl, rfl, ⟨by decide, by decide, by decide⟩, _, _, rfl, rfl, nx hi ⟨bi.trans b', w', ns ++ [r' - 10 ^ Int.toNat 9], by rw [List.map_append]; rfl, by rw [List.length_append, hl]; rfl, fun x hx => ?_⟩⟩
        rcases List.mem_append.mp hx with z | z
        · exact hb x z
        · rw [List.mem_singleton.mp z, e9]; omega
      obtain ⟨bi, wi, ns, rfl, hl, hNS⟩ := hp
      have Sp := same_new hn (.lst (ns.map V.int))
      have BBx := bi.trans (But.of_same Sp)
      have WWx : Well _ a := wi.same Sp
      have hlen : ns.length ≤ 42 := by omega
      refine ⟨_, rfl, rfl, _, rfl, ?_⟩
      refine ite2 (fun c3 => ?_) (fun c3 => ?_)
      · refine ⟨_, rfl, _, _, rfl, rfl, ⟨by decide, by decide, by decide⟩, _, rfl, _, _, rfl, rfl, ⟨by decide, by decide, by decide⟩, (by decide : 2 ≤ sizeLine), fun p2 hp2 => ?_⟩
        have S2 := same_new hp2 (.lst [.int (-(10 ^ Int.toNat 9)), .int (10 ^ Int.toNat 9)])
        refine ⟨p, p2, _, _, rfl, rfl, S2 _ _ upd_same, upd_same, ?_, fun p3 hp3 => ?_⟩
        · rw [List.length_map]; exact Nat.le_of_lt (small1000 (by show _ + 2 ≤ 1000; omega))
        have S3 := same_new hp3 (.lst (ns.map V.int ++ [.int (-(10 ^ Int.toNat 9)), .int (10 ^ Int.toNat 9)]))
        have hP3 : ∀ G : Hp, L2.upd G p3 (.lst (ns.map V.int ++ [.int (-(10 ^ Int.toNat 9)), .int (10 ^ Int.toNat 9)])) p3 = some (.lst ((ns ++ [-(10 ^ Int.toNat 9), 10 ^ Int.toNat 9]).map V.int)) := fun G => by rw [upd_same, List.map_append]; rfl
        have BB3 := BBx.trans (But.of_same (S2.trans S3))
        have WW3 : Well _ a := WWx.same (S2.trans S3)
        have hNS3 : ∀ x ∈ ns ++ [-(10 ^ Int.toNat 9), (10 : Int) ^ Int.toNat 9], -(10 ^ 9) ≤ x ∧ x ≤ 10 ^ 9 := fun x hx => by
          rcases List.mem_append.mp hx with z | z
          · exact hNS x z
          · simp only [List.mem_cons, List.not_mem_nil, or_false] at z
            rcases z with z | z
            · rw [z]; omega
            · rw [z]; omega
        have hlen3 : (ns ++ [-(10 ^ Int.toNat 9), (10 : Int) ^ Int.toNat 9]).length ≤ 44 := by rw [List.length_append]; show _ + 2 ≤ 44; omega
        generalize (ns ++ [-(10 ^ Int.toNat 9), (10 : Int) ^ Int.toNat 9]) = ns3 at hP3 hNS3 hlen3
        -- the end: sorted(set(some + [far, far + 1]))
        refine ⟨_, rfl, _, rfl, _, rfl, _, _, rfl, rfl, (by decide : 2 ≤ sizeLine), fun p4 hp4 => ?_⟩
        have S4 := same_new hp4 (.lst [.int (r - 10 ^ Int.toNat 9 + 10), .int ((r - 10 ^ Int.toNat 9 + 10) + 1)])
        refine ⟨p3, p4, _, _, rfl, rfl, S4 _ _ (hP3 _), upd_same, ?_, fun p5 hp5 => ?_⟩
        · rw [List.length_map]; exact Nat.le_of_lt (small1000 (by show _ + 2 ≤ 1000; omega))
        have S5 := same_new hp5 (.lst (ns3.map V.int ++ [.int (r - 10 ^ Int.toNat 9 + 10), .int ((r - 10 ^ Int.toNat 9 + 10) + 1)]))
        refine ⟨p5, ns3 ++ [(r - 10 ^ Int.toNat 9 + 10), (r - 10 ^ Int.toNat 9 + 10) + 1], rfl, ?_, by rw [List.length_append]; show _ + 2 < 1000; omega, fun p6 hp6 => ?_⟩
        · have e : (ns3 ++ [(r - 10 ^ Int.toNat 9 + 10), (r - 10 ^ Int.toNat 9 + 10) + 1]).map V.int = ns3.map V.int ++ [.int (r - 10 ^ Int.toNat 9 + 10), .int ((r - 10 ^ Int.toNat 9 + 10) + 1)] := by rw [List.map_append]; rfl
          rw [e]
          exact SqL.of upd_same
        obtain ⟨o1, o2, o3⟩ := SetP.once_all (ns3 ++ [(r - 10 ^ Int.toNat 9 + 10), (r - 10 ^ Int.toNat 9 + 10) + 1])
        refine ⟨p6, _, rfl, upd_same, ?_, fun l ns' hl hperm hsort => ?_⟩
        · rw [List.length_append] at o2
          have o2' : (SetP.once (ns3 ++ [(r - 10 ^ Int.toNat 9 + 10), (r - 10 ^ Int.toNat 9 + 10) + 1])).length ≤ ns3.length + 2 := o2
          omega
        have S6 := same_new hp6 (setO P w p6 (SetP.once (ns3 ++ [(r - 10 ^ Int.toNat 9 + 10), (r - 10 ^ Int.toNat 9 + 10) + 1])))
        have S7 := same_new hl (.lst (ns'.map V.int))
        have Sall := S4.trans (S5.trans (S6.trans S7))
        have bb := BB3.trans (But.of_same Sall)
        have ww : Well _ a := WW3.same Sall
        have hpn : H l = none := (BB3.trans (But.of_same (S4.trans (S5.trans S6)))).none (WW3.same (S4.trans (S5.trans S6))) hl
        refine q l _ ns' bb ww hpn upd_same ⟨nodup_lt hsort (hperm.nodup_iff.mpr o1), ?_, ?_, fun x hx => ?_⟩
        · have h1 : (r - 10 ^ Int.toNat 9 + 10) ∈ ns' := hperm.mem_iff.mpr ((o3 _).mpr (by simp))
          have h2 : (r - 10 ^ Int.toNat 9 + 10) + 1 ∈ ns' := hperm.mem_iff.mpr ((o3 _).mpr (by simp))
          match ns', h1, h2 with
          | [], h1, _ => simp at h1
          | [z], h1, h2 => simp at h1 h2; omega
          | _ :: _ :: _, _, _ => simp
        · rw [List.length_append] at o2
          have o2' : (SetP.once (ns3 ++ [(r - 10 ^ Int.toNat 9 + 10), (r - 10 ^ Int.toNat 9 + 10) + 1])).length ≤ ns3.length + 2 := o2
          rw [hperm.length_eq]
          omega
        · have hx' := (o3 x).mp (hperm.mem_iff.mp hx)
          rcases List.mem_append.mp hx' with z | z
          · exact hNS3 x z
          · simp only [List.mem_cons, List.not_mem_nil, or_false] at z
            rcases z with z | z
            · rw [z]; omega
            · rw [z]; omega
      · -- the end: sorted(set(some + [far, far + 1]))
        refine ⟨_, rfl, _, rfl, _, rfl, _, _, rfl, rfl, (by decide : 2 ≤ sizeLine), fun p4 hp4 => ?_⟩
        have S4 := same_new hp4 (.lst [.int (r - 10 ^ Int.toNat 9 + 10), .int ((r - 10 ^ Int.toNat 9 + 10) + 1)])
        refine ⟨p, p4, _, _, rfl, rfl, S4 _ _ upd_same, upd_same, ?_, fun p5 hp5 => ?_⟩
        · rw [List.length_map]; exact Nat.le_of_lt (small1000 (by show _ + 2 ≤ 1000; omega))
        have S5 := same_new hp5 (.lst (ns.map V.int ++ [.int (r - 10 ^ Int.toNat 9 + 10), .int ((r - 10 ^ Int.toNat 9 + 10) + 1)]))
        refine ⟨p5, ns ++ [(r - 10 ^ Int.toNat 9 + 10), (r - 10 ^ Int.toNat 9 + 10) + 1], rfl, ?_, by rw [List.length_append]; show _ + 2 < 1000; omega, fun p6 hp6 => ?_⟩
        · have e : (ns ++ [(r - 10 ^ Int.toNat 9 + 10), (r - 10 ^ Int.toNat 9 + 10) + 1]).map V.int = ns.map V.int ++ [.int (r - 10 ^ Int.toNat 9 + 10), .int ((r - 10 ^ Int.toNat 9 + 10) + 1)] := by rw [List.map_append]; rfl
          rw [e]
          exact SqL.of upd_same
        obtain ⟨o1, o2, o3⟩ := SetP.once_all (ns ++ [(r - 10 ^ Int.toNat 9 + 10), (r - 10 ^ Int.toNat 9 + 10) + 1])
        refine ⟨p6, _, rfl, upd_same, ?_, fun l ns' hl hperm hsort => ?_⟩
        · rw [List.length_append] at o2
          have o2' : (SetP.once (ns ++ [(r - 10 ^ Int.toNat 9 + 10), (r - 10 ^ Int.toNat 9 + 10) + 1])).length ≤ ns.length + 2 := o2
          omega
        have S6 := same_new hp6 (setO P w p6 (SetP.once (ns ++ [(r - 10 ^ Int.toNat 9 + 10), (r - 10 ^ Int.toNat 9 + 10) + 1])))
        have S7 := same_new hl (.lst (ns'.map V.int))
        have Sall := S4.trans (S5.trans (S6.trans S7))
        have bb := BBx.trans (But.of_same Sall)
        have ww : Well _ a := WWx.same Sall
        have hpn : H l = none := (BBx.trans (But.of_same (S4.trans (S5.trans S6)))).none (WWx.same (S4.trans (S5.trans S6))) hl
        refine q l _ ns' bb ww hpn upd_same ⟨nodup_lt hsort (hperm.nodup_iff.mpr o1), ?_, ?_, fun x hx => ?_⟩
        · have h1 : (r - 10 ^ Int.toNat 9 + 10) ∈ ns' := hperm.mem_iff.mpr ((o3 _).mpr (by simp))
          have h2 : (r - 10 ^ Int.toNat 9 + 10) + 1 ∈ ns' := hperm.mem_iff.mpr ((o3 _).mpr (by simp))
          match ns', h1, h2 with
          | [], h1, _ => simp at h1
          | [z], h1, h2 => simp at h1 h2; omega
          | _ :: _ :: _, _, _ => simp
        · rw [List.length_append] at o2
          have o2' : (SetP.once (ns ++ [(r - 10 ^ Int.toNat 9 + 10), (r - 10 ^ Int.toNat 9 + 10) + 1])).length ≤ ns.length + 2 := o2
          rw [hperm.length_eq]
          omega
        · have hx' := (o3 x).mp (hperm.mem_iff.mp hx)
          rcases List.mem_append.mp hx' with z | z
          · exact hNS x z
          · simp only [List.mem_cons, List.not_mem_nil, or_false] at z
            rcases z with z | z
            · rw [z]; omega
            · rw [z]; omega
theorem ok_law_stretch {f : Addr} {fd : FuncData} (F : Fun K "_law_stretch" "_law_stretch" s_law_stretch f fd) (B : Blt mg) (c_law_draw : Cal P w K mg base "_law_draw" 1 ["well", "many"] spDraw) : FnOk P w K mg base CX0 2 f fd ["well", "marks"] spLStretch := by
  refine F.ok sc_law_stretch (fun vs H Q E h => ?_) (fun cdv A outer s H vs Q E hr h => ?_)
  · obtain ⟨a, b, ms, rfl, _⟩ := h
    rfl
  obtain ⟨a, b, ms, rfl, hW, hba, hb, ⟨m1, m2, m3, m4⟩, q⟩ := h
  refine ⟨_, (@pss_cons _ _ _ _ _ (@ps_set _ _ 2 _ _ _ _ sc_law_stretch.nd rfl (Or.inl rfl) (pe_callC c_law_draw hr (by omega) rfl (@pa_cons _ _ _ _ _ (pv 0) (@pa_cons _ _ _ _ _ (@pe_op _ _ _ _ _ _ _ _ op_sub (pe_callB (call_lenK (K := K) rfl) rfl (B.is "len") bt_len (@pa_cons _ _ _ _ _ (pv 1) (@pa_nil _) (by rfl))) (@pe_int _ _ _ _)) (@pa_nil _) (by rfl)) (by rfl))) (by rfl) (by first | exact .inl rfl | exact .inr rfl | assumption))
      (@pss_one _ _ _ (@ps_ret _ _ _ _ (@pe_tup _ _ _ _ _ (@pa_cons _ _ _ _ _ (pe_ix (ix_listK (K := K) rfl) (pv 1) (pv 2) (fun _ _ => rfl)) (@pa_cons _ _ _ _ _ (pe_ix (ix_listK (K := K) rfl) (pv 1) (@pe_op _ _ _ _ _ _ _ _ op_add (@pe_op _ _ _ _ _ _ _ _ op_add (pv 2) (@pe_int _ _ _ _)) (pe_callC c_law_draw hr (by omega) rfl (@pa_cons _ _ _ _ _ (pv 0) (@pa_cons _ _ _ _ _ (@pe_op _ _ _ _ _ _ _ _ op_sub (@pe_op _ _ _ _ _ _ _ _ op_sub (pe_callB (call_lenK (K := K) rfl) rfl (B.is "len") bt_len (@pa_cons _ _ _ _ _ (pv 1) (@pa_nil _) (by rfl))) (@pe_int _ _ _ _)) (pv 2)) (@pa_nil _) (by rfl)) (by rfl)))) (fun _ _ => rfl)) (@pa_nil _) (by rfl)) (by rfl)))))), ?_⟩
  have hlen : (ms.map V.int).length = ms.length := List.length_map ..
  refine ⟨_, rfl, _, rfl, b, _, rfl, .inl (SqL.of hb), _, _, rfl, rfl, a, _, rfl, hW, by rw [hlen]; omega, by rw [hlen]; omega, fun r H1 r0 r1 b1 w1 => ?_⟩
  rw [hlen] at r1
  have hb1 := b1 _ _ hba hb
  refine ⟨_, rfl, _, rfl, b, _, _, _, rfl, rfl, SqL.of hb1, at_int r0 (by omega), ?_⟩
  refine ⟨_, rfl, _, rfl, _, _, rfl, rfl, _, rfl, _, rfl, b, _, rfl, .inl (SqL.of hb1), _, _, rfl, rfl, _, rfl, _, _, rfl, rfl, a, _, rfl, w1, by rw [hlen]; omega, by rw [hlen]; omega, fun t H2 t0 t1 b2 w2 => ?_⟩
  rw [hlen] at t1
  have hb2 := b2 _ _ hba hb1
  refine ⟨_, _, rfl, rfl, b, _, _, _, rfl, rfl, SqL.of hb2, at_int (by omega) (by omega), (by decide : 2 ≤ sizeLine), fun p hp => ?_⟩
  have hpa := w2.ne hp
  refine q p _ _ _ ((b1.trans b2).new hp _) (w2.same (same_new hp _)) ((b1.trans b2).none w2 hp) hpa upd_same ?_ (m4 _ (List.getElem_mem _)) (m4 _ (List.getElem_mem _))
  exact List.pairwise_iff_getElem.mp m1 _ _ _ _ (by omega)
end
end K03
end
section
set_option Elab.async false
set_option maxRecDepth 10000
set_option linter.all false
namespace K03
open PySem PySem.Spec PyProof.Rows L2 Bc
theorem sc_is_heap : FnScope ["thing", "ways", "boxes"] ["thing"] (defScope s_is_heap) := ⟨rfl, rfl, rfl, by decide +kernel, rfl, by decide +kernel, by decide +kernel⟩
theorem sc_law_near : FnScope ["well", "box", "marks", "way", "at", "low", "high", "inner"] ["well", "box", "marks"] (defScope s_law_near) := ⟨rfl, rfl, rfl, by decide +kernel, rfl, by decide +kernel, by decide +kernel⟩
section
variable {P : Program} {w : World} {K : PySem.W.Frag} {mg : Str → Option Value} {base : Heap}
theorem ok_is_heap {f dM : Addr} {fd : FuncData} (F : Fun K "is_heap" "is_heap" s_is_heap f fd) (B : Blt mg) (c_are_ways : Cal P w K mg base "are_ways" 2 ["thing"] spWays) (c_is_box : Cal P w K mg base "is_box" 3 ["ways", "thing"] spBox)
    (M_MOST_BOXES : mg "MOST_BOXES" = some (.ref dM)) (T_MOST_BOXES : ∀ h, K.In h → IntTab P w h dM D3) : FnOk P w K mg base CX0 4 f fd ["thing"] spHeap := by
  refine F.ok sc_is_heap (fun vs H Q E h => ?_) (fun cdv A outer s H vs Q E hr h => ?_)
  · obtain ⟨N, v, d, rfl, _⟩ := h
    rfl
  obtain ⟨N, v, d, rfl, t, q⟩ := h
  refine ⟨_, (@pss_cons _ _ _ _ _ (@ps_if _ _ _ _ _ _ _ _ (PW.pt (pw_or (pt_not (pt_val (pe_callB (call_isinstK (K := K) rfl) rfl (B.is "isinstance") bt_isinstance (@pa_cons _ _ _ _ _ (pv 0) (@pa_cons _ _ _ _ _ (pe_bltn (v := .ty "tuple") rfl (B.is "tuple") bt_tuple rfl) (@pa_nil _) (by rfl)) (by rfl))))) (pw_or1 (pt_cmpR op_ne (pe_callB (call_lenK (K := K) rfl) rfl (B.is "len") bt_len (@pa_cons _ _ _ _ _ (pv 0) (@pa_nil _) (by rfl))) (@pe_int _ _ _ _) (nomark _))))) (@pss_one _ _ _ (@ps_ret _ _ _ _ (@pe_bl _ _ _ _))) (@pss_nil _))
      (@pss_cons _ _ _ _ _ (@ps_set _ _ 1 _ _ _ _ sc_is_heap.nd rfl (Or.inr rfl) (pe_ix (ix_tupK (K := K) rfl) (pv 0) (@pe_int _ _ _ _) (fun _ _ => rfl)) (by rfl) (by first | exact .inl rfl | exact .inr rfl | assumption))
      (@pss_cons _ _ _ _ _ (@ps_set _ _ 2 _ _ _ _ sc_is_heap.nd rfl (Or.inl rfl) (pe_ix (ix_tupK (K := K) rfl) (pv 0) (@pe_int _ _ _ _) (fun _ _ => rfl)) (by rfl) (by first | exact .inl rfl | exact .inr rfl | assumption))
      (@pss_cons _ _ _ _ _ (@ps_if _ _ _ _ _ _ _ _ (PW.pt (pw_or (pt_not (pt_val (pe_callC c_are_ways hr (by omega) rfl (@pa_cons _ _ _ _ _ (pv 1) (@pa_nil _) (by rfl))))) (pw_or (pt_not (pt_val (pe_callB (call_isinstK (K := K) rfl) rfl (B.is "isinstance") bt_isinstance (@pa_cons _ _ _ _ _ (pv 2) (@pa_cons _ _ _ _ _ (pe_bltn (v := .ty "list") rfl (B.is "list") bt_list rfl) (@pa_nil _) (by rfl)) (by rfl))))) (pw_or1 (pt_cmpR op_gt (pe_callB (call_lenK (K := K) rfl) rfl (B.is "len") bt_len (@pa_cons _ _ _ _ _ (pv 2) (@pa_nil _) (by rfl))) (pe_ixTab T_MOST_BOXES (pe_glob (v := .ref _) rfl M_MOST_BOXES rfl) (pv 1) (fun _ _ => rfl)) (nomark _)))))) (@pss_one _ _ _ (@ps_ret _ _ _ _ (@pe_bl _ _ _ _))) (@pss_nil _))
      (@pss_one _ _ _ (@ps_ret _ _ _ _ (pe_callB (call_all rfl) rfl (B.is "all") bt_all (@pa_cons _ _ _ _ _ (pe_comp rfl (CompOk.of (sc := defScope s_is_heap) (N := ["thing", "ways", "boxes"]) (N2 := ["box", "ways"]) (k := 1) (caps := [1]) (by decide +kernel)) (low_name (by decide)) (pi_list (pv 2)) (fun _ _ _ _ _ => ⟨(pg_name (i := 0) (show List.Nodup (["box", "ways"] : List Str) by decide +kernel) rfl (Or.inl rfl)), pts_nil, (pe_callC c_is_box hr (by omega) rfl (@pa_cons _ _ _ _ _ (pv 1) (@pa_cons _ _ _ _ _ (pv 0) (@pa_nil _) (by rfl)) (by rfl)))⟩)) (@pa_nil _) (by rfl))))))))), ?_⟩
  have no : ∀ H', Same H H' → isHeap d = false → Q (.bl false) H' := fun H' S e => by
    have q' := q H' S
    rw [e] at q'
    exact q'
  refine ⟨_, rfl, _, _, _, _, rfl, t.ty, kit_tuple d, _, rfl, ?_⟩
  refine ite2 (fun c => ?_) (fun c => ?_)
  · refine iteT (no H (Same.refl H) ?_)
    cases d <;> first | rfl | cases c
  obtain ⟨ds, rfl⟩ : ∃ ds, d = .tuple ds := by cases d <;> first | exact ⟨_, rfl⟩ | exact absurd rfl c
  obtain ⟨a, xs, rfl, na, hH, ts⟩ := t.tupI
  have hl := ts.length
  refine ⟨_, rfl, a, xs, rfl, .inr (SqT.of hH), rfl, _, rfl, ?_⟩
  refine ite2 (fun c2 => ?_) (fun c2 => ?_)
  · refine no H (Same.refl H) ?_
    have hne : ds.length ≠ 2 := fun z => by
      rw [hl, z] at c2
      exact absurd c2 (by decide)
    match ds, hne with
    | [], _ => rfl
    | [x], _ => rfl
    | [_, _], z => exact absurd rfl z
    | x :: y :: _ :: _, _ => cases y <;> rfl
  have hl2 : ds.length = 2 := by
    by_cases z : ds.length = 2
    · exact z
    · exfalso
      apply c2
      have z' : ¬ (V.int ((xs.length : Nat) : Int) = V.int 2) := fun h => z (by have := V.int.inj h; omega)
      rw [decide_eq_false z']
      rfl
  match xs, ds, ts, hl2 with
  | [x0, x1], [dw, db], .cons t0 (.cons t1 .nil), _ =>
  refine ⟨_, rfl, a, _, 0, x0, rfl, rfl, SqT.of hH, rfl, ?_⟩
  refine ⟨_, rfl, a, _, 1, x1, rfl, rfl, SqT.of hH, rfl, ?_⟩
  refine ⟨_, rfl, N, _, dw, rfl, t0, _, rfl, ?_⟩
  refine ite2 (fun c3 => ?_) (fun c3 => ?_)
  · refine iteT (no H (Same.refl H) ?_)
    have e : isWays dw = false := by simpa using c3
    cases db <;> simp [isHeap, e]
  have w1 : isWays dw = true := by cases h : isWays dw with
    | true => rfl
    | false => exact absurd (by rw [h]; rfl) c3
  obtain ⟨i, rfl, hi, hlook, hmost⟩ := look_D3 w1
  cases (Tr.intv t0)
  refine ⟨_, rfl, _, _, _, _, rfl, t1.ty, kit_list db, _, rfl, ?_⟩
  refine ite2 (fun c4 => ?_) (fun c4 => ?_)
  · refine iteT (no H (Same.refl H) ?_)
    cases db <;> first | rfl | cases c4
  obtain ⟨bs, rfl⟩ : ∃ bs, db = .list bs := by cases db <;> first | exact ⟨_, rfl⟩ | exact absurd rfl c4
  obtain ⟨o, ys, rfl, no', ho, tb⟩ := t1.lstI
  have hly := tb.length
  refine ⟨_, rfl, o, ys, rfl, .inl (SqL.of ho), _, rfl, i, _, rfl, rfl, hlook, _, _, rfl, rfl, _, rfl, ?_⟩
  have e0 : isHeap (.tuple [.int i, .list bs]) = (isWays (.int i) && decide (bs.length ≤ mostOf (.int i)) && bs.all (isBox (.int i))) := rfl
  refine ite2 (fun c5 => ?_) (fun c5 => ?_)
  · refine no H (Same.refl H) ?_
    have c5' := of_decide_eq_true c5
    have z : ¬ bs.length ≤ mostOf (.int i) := by omega
    rw [e0, decide_eq_false z]
    simp
  have c5' : ¬ ((mostOf (.int i) : Int) < (ys.length : Int)) := fun z => c5 (decide_eq_true z)
  have hmo : bs.length ≤ mostOf (.int i) := by omega
  refine ⟨_, rfl, o, rfl, ⟨ys, SqL.of ho⟩, ?_⟩
  refine comp_list (xs := ys) (fun j zs H' => Same H H' ∧ zs = ((bs.take j).map (isBox (.int i))).map V.bl) ⟨Same.refl H, rfl⟩ (fun j zs H' hj p => ?_) (fun j x zs H' hx p => ?_) (fun zs H' p hp hn => ?_)
  · obtain ⟨S, rfl⟩ := p
    refine ⟨SqL.of (S _ _ ho), small1000 ?_⟩
    rw [List.length_map, List.length_map, List.length_take]
    omega
  · obtain ⟨S, rfl⟩ := p
    obtain ⟨dx, e1, tx⟩ := tb.get hx
    refine ⟨_, rfl, _, rfl, N, N, _, x, _, dx, rfl, .int i, tx.same S, fun H2 S2 => nx (List.getElem?_eq_some_iff.mp hx).1 ⟨S.trans S2, ?_⟩⟩
    rw [List.take_succ, e1]
    simp
  · obtain ⟨S, rfl⟩ := hp
    refine ⟨p, (bs.take ys.length).map (isBox (.int i)), rfl, SqL.of upd_same, ?_⟩
    have e : isHeap (.tuple [.int i, .list bs]) = ((bs.take ys.length).map (isBox (.int i))).all id := by
      rw [hly, List.take_length, List.all_map, e0, w1, decide_eq_true hmo]
      rfl
    rw [← e]
    exact q _ (S.trans (same_new hn _))
theorem str_inv {N : Addr → Prop} {H : Hp} {x : V} {d : PyData} (t : Tr N H x d) (h : isStretch d = true) : ∃ c lo hi, x = .ref c ∧ N c ∧ H c = some (.tup [.int lo, .int hi]) ∧ d = .tuple [.int lo, .int hi] ∧ lo < hi := by
  unfold isStretch at h
  split at h
  · rename_i lo hi
    obtain ⟨c, zs, rfl, nc, hc, tz⟩ := t.tupI
    cases tz with
    | cons t1 tr =>
      cases tr with
      | cons t2 tn =>
        cases tn
        rw [Tr.intv t1, Tr.intv t2] at hc
        exact ⟨c, lo, hi, rfl, nc, hc, rfl, of_decide_eq_true h⟩
  · cases h
set_option maxHeartbeats 4000000 in
theorem ok_law_near {f : Addr} {fd : FuncData} (F : Fun K "_law_near" "_law_near" s_law_near f fd) (B : Blt mg) (c_law_draw : Cal P w K mg base "_law_draw" 1 ["well", "many"] spDraw) (c_law_stretch : Cal P w K mg base "_law_stretch" 2 ["well", "marks"] spLStretch) :
    FnOk P w K mg base CX0 3 f fd ["well", "box", "marks"] spNear := by
  refine F.ok sc_law_near (fun vs H Q E h => ?_) (fun cdv A outer s H vs Q E hr h => ?_)
  · obtain ⟨a, q, b, m, bs, ys, ds, rfl, _⟩ := h
    rfl
  obtain ⟨a, q, b, m, bs, ys, ds, rfl, Y, T, hbx, l1, l3, nm, hm, hyl, hy, k⟩ := h
  refine ⟨_, (@pss_cons _ _ _ _ _ (@ps_set _ _ 3 _ _ _ _ sc_law_near.nd rfl (Or.inl rfl) (pe_callC c_law_draw hr (by omega) rfl (@pa_cons _ _ _ _ _ (pv 0) (@pa_cons _ _ _ _ _ (@pe_int _ _ _ _) (@pa_nil _) (by rfl)) (by rfl))) (by rfl) (by first | exact .inl rfl | exact .inr rfl | assumption))
      (@pss_cons _ _ _ _ _ (@ps_set _ _ 4 _ _ _ _ sc_law_near.nd rfl (Or.inl rfl) (pe_callC c_law_draw hr (by omega) rfl (@pa_cons _ _ _ _ _ (pv 0) (@pa_cons _ _ _ _ _ (pe_callB (call_lenK (K := K) rfl) rfl (B.is "len") bt_len (@pa_cons _ _ _ _ _ (pv 1) (@pa_nil _) (by rfl))) (@pa_nil _) (by rfl)) (by rfl))) (by rfl) (by first | exact .inl rfl | exact .inr rfl | assumption))
      (@pss_cons _ _ _ _ _ (ps_asg (pe_ix (ix_tupK (K := K) rfl) (pv 1) (pv 4) (fun _ _ => rfl)) (pg_tupK (K := K) (n := 2) rfl rfl (pgs_cons (pg_name (i := 5) sc_law_near.nd rfl (Or.inl rfl)) (pgs_cons (pg_name (i := 6) sc_law_near.nd rfl (Or.inl rfl)) pgs_nil))))
      (@pss_cons _ _ _ _ _ (@ps_if _ _ _ _ _ _ _ _ (pt_cmpR op_eq (pv 3) (@pe_int _ _ _ _) (nomark _)) (@pss_one _ _ _ (@ps_ret _ _ _ _ (@pe_op _ _ _ _ _ _ _ _ op_catG (@pe_op _ _ _ _ _ _ _ _ op_catG (@pe_slice _ _ _ _ _ _ _ _ _ _ sl_tupG (pv 1) (@po_none _) (@po_some _ _ _ (pv 4))) (@pe_tup _ _ _ _ _ (@pa_cons _ _ _ _ _ (@pe_tup _ _ _ _ _ (@pa_cons _ _ _ _ _ (pv 6) (@pa_cons _ _ _ _ _ (@pe_op _ _ _ _ _ _ _ _ op_add (@pe_op _ _ _ _ _ _ _ _ op_add (pv 6) (@pe_int _ _ _ _)) (pe_callC c_law_draw hr (by omega) rfl (@pa_cons _ _ _ _ _ (pv 0) (@pa_cons _ _ _ _ _ (@pe_int _ _ _ _) (@pa_nil _) (by rfl)) (by rfl)))) (@pa_nil _) (by rfl)) (by rfl))) (@pa_nil _) (by rfl)))) (@pe_slice _ _ _ _ _ _ _ _ _ _ sl_tupG (pv 1) (@po_some _ _ _ (@pe_op _ _ _ _ _ _ _ _ op_add (pv 4) (@pe_int _ _ _ _))) (@po_none _))))) (@pss_nil _))
      (@pss_cons _ _ _ _ _ (@ps_if _ _ _ _ _ _ _ _ (pt_cmpR op_eq (pv 3) (@pe_int _ _ _ _) (nomark _)) (@pss_cons _ _ _ _ _ (@ps_set _ _ 7 _ _ _ _ sc_law_near.nd rfl (Or.inl rfl) (@pe_op _ _ _ _ _ _ _ _ op_add (pv 5) (pe_callC c_law_draw hr (by omega) rfl (@pa_cons _ _ _ _ _ (pv 0) (@pa_cons _ _ _ _ _ (@pe_op _ _ _ _ _ _ _ _ op_sub (pv 6) (pv 5)) (@pa_nil _) (by rfl)) (by rfl)))) (by rfl) (by first | exact .inl rfl | exact .inr rfl | assumption))
      (@pss_one _ _ _ (@ps_ret _ _ _ _ (@pe_op _ _ _ _ _ _ _ _ op_catG (@pe_op _ _ _ _ _ _ _ _ op_catG (@pe_slice _ _ _ _ _ _ _ _ _ _ sl_tupG (pv 1) (@po_none _) (@po_some _ _ _ (pv 4))) (@pe_tup _ _ _ _ _ (@pa_cons _ _ _ _ _ (@pe_tup _ _ _ _ _ (@pa_cons _ _ _ _ _ (pv 7) (@pa_cons _ _ _ _ _ (pv 6) (@pa_nil _) (by rfl)) (by rfl))) (@pa_nil _) (by rfl)))) (@pe_slice _ _ _ _ _ _ _ _ _ _ sl_tupG (pv 1) (@po_some _ _ _ (@pe_op _ _ _ _ _ _ _ _ op_add (pv 4) (@pe_int _ _ _ _))) (@po_none _)))))) (@pss_nil _))
      (@pss_cons _ _ _ _ _ (@ps_if _ _ _ _ _ _ _ _ (pt_cmpR op_eq (pv 3) (@pe_int _ _ _ _) (nomark _)) (@pss_one _ _ _ (@ps_ret _ _ _ _ (@pe_op _ _ _ _ _ _ _ _ op_catG (@pe_op _ _ _ _ _ _ _ _ op_catG (@pe_slice _ _ _ _ _ _ _ _ _ _ sl_tupG (pv 1) (@po_none _) (@po_some _ _ _ (pv 4))) (@pe_tup _ _ _ _ _ (@pa_cons _ _ _ _ _ (pe_callC c_law_stretch hr (by omega) rfl (@pa_cons _ _ _ _ _ (pv 0) (@pa_cons _ _ _ _ _ (pe_ix (ix_listK (K := K) rfl) (pv 2) (pv 4) (fun _ _ => rfl)) (@pa_nil _) (by rfl)) (by rfl))) (@pa_nil _) (by rfl)))) (@pe_slice _ _ _ _ _ _ _ _ _ _ sl_tupG (pv 1) (@po_some _ _ _ (@pe_op _ _ _ _ _ _ _ _ op_add (pv 4) (@pe_int _ _ _ _))) (@po_none _))))) (@pss_nil _))
      (@pss_cons _ _ _ _ _ (@ps_if _ _ _ _ _ _ _ _ (pt_cmpR op_eq (pv 3) (@pe_int _ _ _ _) (nomark _)) (@pss_one _ _ _ (@ps_ret _ _ _ _ (@pe_op _ _ _ _ _ _ _ _ op_catG (@pe_op _ _ _ _ _ _ _ _ op_catG (@pe_slice _ _ _ _ _ _ _ _ _ _ sl_tupG (pv 1) (@po_none _) (@po_some _ _ _ (pv 4))) (@pe_tup _ _ _ _ _ (@pa_cons _ _ _ _ _ (@pe_tup _ _ _ _ _ (@pa_cons _ _ _ _ _ (@pe_op _ _ _ _ _ _ _ _ op_sub (@pe_op _ _ _ _ _ _ _ _ op_sub (pv 5) (@pe_int _ _ _ _)) (pe_callC c_law_draw hr (by omega) rfl (@pa_cons _ _ _ _ _ (pv 0) (@pa_cons _ _ _ _ _ (@pe_int _ _ _ _) (@pa_nil _) (by rfl)) (by rfl)))) (@pa_cons _ _ _ _ _ (pv 5) (@pa_nil _) (by rfl)) (by rfl))) (@pa_nil _) (by rfl)))) (@pe_slice _ _ _ _ _ _ _ _ _ _ sl_tupG (pv 1) (@po_some _ _ _ (@pe_op _ _ _ _ _ _ _ _ op_add (pv 4) (@pe_int _ _ _ _))) (@po_none _))))) (@pss_nil _))
      (@pss_cons _ _ _ _ _ (@ps_if _ _ _ _ _ _ _ _ (pt_cmpR op_eq (pv 3) (@pe_int _ _ _ _) (nomark _)) (@pss_one _ _ _ (@ps_ret _ _ _ _ (pe_callTy (call_tupleK (K := K) rfl) rfl (B.is "tuple") bt_tuple (@pa_cons _ _ _ _ _ (pe_comp rfl (CompOk.of (sc := defScope s_law_near) (N := ["well", "box", "marks", "way", "at", "low", "high", "inner"]) (N2 := ["one"]) (k := 1) (caps := []) (by decide +kernel)) (low_name (by decide)) (pi_tup (pv 1)) (fun _ _ _ _ _ => ⟨(pg_name (i := 0) (show List.Nodup (["one"] : List Str) by decide +kernel) rfl (Or.inl rfl)), pts_nil, (@pe_tup _ _ _ _ _ (@pa_cons _ _ _ _ _ (pe_ix (ix_tupK (K := K) rfl) (pv 0) (@pe_int _ _ _ _) (fun _ _ => rfl)) (@pa_cons _ _ _ _ _ (@pe_op _ _ _ _ _ _ _ _ op_add (pe_ix (ix_tupK (K := K) rfl) (pv 0) (@pe_int _ _ _ _) (fun _ _ => rfl)) (@pe_int _ _ _ _)) (@pa_nil _) (by rfl)) (by rfl)))⟩)) (@pa_nil _) (by rfl))))) (@pss_nil _))
      (@pss_one _ _ _ (@ps_ret _ _ _ _ (pv 1))))))))))), ?_⟩
  obtain ⟨b', xs, e, nb, hb, ts⟩ := T.tupI
  cases e
  have hxl := ts.length
  have hst : ds.all isStretch = true := all_imp hbx fun d z => (bx_all z).2.2.2.2
  refine ⟨_, rfl, a, _, rfl, Y.w, by decide, by decide, fun way H1 w0 w1 b1 W1 => ?_⟩
  refine ⟨_, rfl, _, rfl, b, xs, rfl, .inr (SqT.of (b1 _ _ nb.1 hb)), a, _, rfl, W1, by omega, by omega, fun r H2 r0 r1 b2 W2 => ?_⟩
  have B2 := b1.trans b2
  have Y2 := Y.but B2 W2
  have T2 := T.butq B2
  have hb2 := B2 _ _ nb.1 hb
  have hm2 := B2 _ _ nm.1 hm
  have hlt : r.toNat < xs.length := by omega
  obtain ⟨dx, e1, tx⟩ := (ts.butq B2).get (List.getElem?_eq_getElem hlt)
  obtain ⟨lo, hi, rfl, nlo, nhi, lohi⟩ := bx_is (List.all_eq_true.mp hbx dx (List.mem_of_getElem? e1))
  have hat := atI_nat (List.getElem?_eq_getElem hlt)
  rw [Int.toNat_of_nonneg r0] at hat
  obtain ⟨c, lo', hi', e2, nc, hc, e3, _⟩ := str_inv tx (decide_eq_true lohi)
  cases e3
  rw [e2] at hat
  simp only [nr, Bool.and_eq_true, decide_eq_true_eq] at nlo nhi
  refine ⟨_, rfl, _, rfl, b, xs, r, _, rfl, rfl, SqT.of hb2, hat, c, _, rfl, SqT.of hc, rfl, _, _, rfl, _, _, rfl, rfl, ?_⟩
  have r1' : r < (ds.length : Int) := by omega
  have fin : ∀ v d H', But a H2 H' → Well H' a → Tr (Nq a q) H' v (.tuple (ds.take r.toNat ++ [d] ++ ds.drop (r.toNat + 1))) → isStretch d = true → Q v H' := fun v d H' b' W' tv pd => by
    obtain ⟨z1, z2⟩ := mid_all (r := r.toNat) hst pd (by omega)
    exact k v _ H' (B2.trans b') W' tv z1 z2
  refine ⟨_, rfl, rfl, _, rfl, ?_⟩
  refine ite2 (fun _ => ?_) (fun _ => ?_)
  · refine mid (kb := 1) (kr := 4) rfl rfl r0 r1' l3 Y2 T2 (fun H3 Q3 S3 Y3 kk => ?_) fin
    refine ⟨_, rfl, _, rfl, _, _, rfl, rfl, _, rfl, a, _, rfl, Y3.w, by decide, by decide, fun r2 H4 z0 z1 b4 W4 => ⟨_, _, rfl, rfl, (by decide : 2 ≤ sizeLine), fun p hp => ?_⟩⟩
    exact kk _ _ _ (b4.new hp _) (W4.same (same_new hp _)) (.tup ((Y3.but b4 W4).new hp) upd_same (.cons (.int _) (.cons (.int _) .nil))) (decide_eq_true (by omega))
  refine ⟨_, rfl, rfl, _, rfl, ?_⟩
  refine ite2 (fun _ => ?_) (fun _ => ?_)
  · refine ⟨_, rfl, _, rfl, _, rfl, _, rfl, _, _, rfl, rfl, a, _, rfl, W2, by omega, by omega, fun r2 H3 z0 z1 b3 W3 => ⟨_, _, rfl, rfl, ?_⟩⟩
    have Y3 := Y2.but b3 W3
    refine mid (kb := 1) (kr := 4) rfl rfl r0 r1' l3 Y3 (T2.butq b3) (fun H4 Q4 S4 Y4 kk => ?_) fun v d H' b' W' tv pd => fin v d H' (b3.trans b') W' tv pd
    refine ⟨_, rfl, _, rfl, (by decide : 2 ≤ sizeLine), fun p hp => ?_⟩
    exact kk _ _ _ (But.of_same (same_new hp _)) (Y4.w.same (same_new hp _)) (.tup (Y4.new hp) upd_same (.cons (.int _) (.cons (.int _) .nil))) (decide_eq_true (by omega))
  refine ⟨_, rfl, rfl, _, rfl, ?_⟩
  refine ite2 (fun _ => ?_) (fun _ => ?_)
  · refine mid (kb := 1) (kr := 4) rfl rfl r0 r1' l3 Y2 T2 (fun H3 Q3 S3 Y3 kk => ?_) fin
    have hlt2 : r.toNat < ys.length := by omega
    have hat2 := atI_nat (List.getElem?_eq_getElem hlt2)
    rw [Int.toNat_of_nonneg r0] at hat2
    obtain ⟨rr, ms, e5, nrr, hrr, hM⟩ := ((hy _ (List.getElem_mem hlt2)).but B2).but (But.of_same S3)
    rw [e5] at hat2
    refine ⟨_, rfl, _, rfl, _, rfl, m, ys, r, _, rfl, rfl, SqL.of (S3 _ _ hm2), hat2, a, rr, ms, rfl, Y3.w, nrr.1, hrr, hM, fun p H4 lo4 hi4 b4 W4 hp hpa e4 lohi4 nl nh => ?_⟩
    exact kk _ _ _ b4 W4 (.tup (Y3.new hp) e4 (.cons (.int _) (.cons (.int _) .nil))) (decide_eq_true lohi4)
  refine ⟨_, rfl, rfl, _, rfl, ?_⟩
  refine ite2 (fun _ => ?_) (fun _ => ?_)
  · refine mid (kb := 1) (kr := 4) rfl rfl r0 r1' l3 Y2 T2 (fun H3 Q3 S3 Y3 kk => ?_) fin
    refine ⟨_, rfl, _, _, rfl, rfl, _, rfl, a, _, rfl, Y3.w, by decide, by decide, fun r2 H4 z0 z1 b4 W4 => ⟨_, _, rfl, rfl, _, rfl, (by decide : 2 ≤ sizeLine), fun p hp => ?_⟩⟩
    exact kk _ _ _ (b4.new hp _) (W4.same (same_new hp _)) (.tup ((Y3.but b4 W4).new hp) upd_same (.cons (.int _) (.cons (.int _) .nil))) (decide_eq_true (by omega))
  refine ⟨_, rfl, rfl, _, rfl, ?_⟩
  refine ite2 (fun _ => ?_) (fun _ => ?_)
  · refine ⟨_, rfl, b, rfl, ⟨xs, SqT.of hb2⟩, ?_⟩
    refine comp_tup (xs := xs) (fun i zs H3 => Same H2 H3 ∧ ∃ es, TrAll (Nq a q) H3 zs es ∧ es.all isStretch = true ∧ es.length = i) ⟨Same.refl H2, [], .nil, rfl, rfl⟩ (fun i zs H3 hi p => ?_) (fun i x zs H3 hx p => ?_) (fun zs H3 p hp hn => ?_)
    · obtain ⟨S, es, te, _, hel⟩ := p
      refine ⟨SqT.of (S _ _ hb2), small1000 ?_⟩
      rw [te.length]
      omega
    · obtain ⟨S, es, te, hes, hel⟩ := p
      obtain ⟨dz, e6, tz⟩ := (ts.butq B2).get hx
      obtain ⟨c7, lo7, hi7, rfl, nc7, hc7, rfl, lohi7⟩ := str_inv tz (List.all_eq_true.mp hst _ (List.mem_of_getElem? e6))
      have hc8 := S _ _ hc7
      refine ⟨_, rfl, c7, _, 1, _, rfl, rfl, SqT.of hc8, rfl, _, rfl, c7, _, 1, _, rfl, rfl, SqT.of hc8, rfl, _, _, rfl, rfl, (by decide : 2 ≤ sizeLine), fun p hp => nx (List.getElem?_eq_some_iff.mp hx).1 ⟨S.trans (same_new hp _), es ++ [.tuple [.int hi7, .int (hi7 + 1)]], ?_, ?_, ?_⟩⟩
      · exact (te.same (same_new hp _)).append (.cons (.tup ((Y2.same S).new hp) upd_same (.cons (.int _) (.cons (.int _) .nil))) .nil)
      · rw [List.all_append, hes]
        show (true && (decide (hi7 < hi7 + 1) && true)) = true
        rw [decide_eq_true (by omega)]
        rfl
      · rw [List.length_append, hel]
        rfl
    obtain ⟨S, es, te, hes, hel⟩ := hp
    have Sp := same_new hn (.lst zs)
    refine ⟨p, zs, rfl, .inl ⟨SqL.of upd_same, fun l hl => ?_⟩⟩
    have Sl := same_new hl (.tup zs)
    have Yl := (Y2.same S).same Sp
    exact k _ es _ (B2.trans (But.of_same (S.trans (Sp.trans Sl)))) (Yl.same Sl).w (.tup (Yl.new hl) upd_same ((te.same Sp).same Sl)) hes (by omega)
  · exact ⟨_, rfl, k _ ds _ B2 W2 T2 hst rfl⟩
end
end K03
end
section
set_option Elab.async false
set_option maxRecDepth 10000
set_option linter.all false
namespace K03
open PySem PySem.Spec PyProof.Rows L2 Bc
theorem sc_need_heap : FnScope ["heap"] ["heap"] (defScope s_need_heap) := ⟨rfl, rfl, rfl, by decide +kernel, rfl, by decide +kernel, by decide +kernel⟩
theorem sc_need_spot : FnScope ["heap", "spot"] ["heap", "spot"] (defScope s_need_spot) := ⟨rfl, rfl, rfl, by decide +kernel, rfl, by decide +kernel, by decide +kernel⟩
theorem sc_numbered_box : FnScope ["heap", "number"] ["heap", "number"] (defScope s_numbered_box) := ⟨rfl, rfl, rfl, by decide +kernel, rfl, by decide +kernel, by decide +kernel⟩
theorem sc_box_size : FnScope ["box", "size", "low", "high"] ["box"] (defScope s_box_size) := ⟨rfl, rfl, rfl, by decide +kernel, rfl, by decide +kernel, by decide +kernel⟩
theorem sc_holds : FnScope ["box", "spot"] ["box", "spot"] (defScope s_holds) := ⟨rfl, rfl, rfl, by decide +kernel, rfl, by decide +kernel, by decide +kernel⟩
section
variable {P : Program} {w : World} {K : PySem.W.Frag} {mg : Str → Option Value} {base : Heap}
theorem ok_need_heap {f : Addr} {fd : FuncData} (F : Fun K "need_heap" "need_heap" s_need_heap f fd) (c_is_heap : Cal P w K mg base "is_heap" 4 ["thing"] spHeap) : FnOk P w K mg base CX0 5 f fd ["heap"] spNeedHeap := by
  refine F.ok sc_need_heap (fun vs H Q E h => ?_) (fun cdv A outer s H vs Q E hr h => ?_)
  · obtain ⟨N, v, d, rfl, _⟩ := h
    rfl
  obtain ⟨N, v, d, rfl, t, hh, q⟩ := h
  refine ⟨_, (@pss_one _ _ _ (@ps_if _ _ _ _ _ _ _ _ (pt_not (pt_val (pe_callC c_is_heap hr (by omega) rfl (@pa_cons _ _ _ _ _ (pv 0) (@pa_nil _) (by rfl))))) (@pss_one _ _ _ (@ps_never _ _)) (@pss_nil _))), ?_⟩
  refine ⟨_, rfl, N, v, d, rfl, t, fun H1 S1 => ⟨_, rfl, ?_⟩⟩
  refine ite2 (fun c => by rw [hh] at c; cases c) (fun _ => q H1 S1)
theorem ok_need_spot {f : Addr} {fd : FuncData} (F : Fun K "need_spot" "need_spot" s_need_spot f fd) (B : Blt mg) (c_is_whole : Cal P w K mg base "is_whole" 1 ["thing"] spWhole) : FnOk P w K mg base CX0 2 f fd ["heap", "spot"] spNeedSpot := by
  refine F.ok sc_need_spot (fun vs H Q E h => ?_) (fun cdv A outer s H vs Q E hr h => ?_)
  · obtain ⟨N, N', v, u, n, ds, ns, rfl, _⟩ := h
    rfl
  obtain ⟨N, N', v, u, n, ds, ns, rfl, T, S, hn, n3, q⟩ := h
  refine ⟨_, (@pss_one _ _ _ (@ps_if _ _ _ _ _ _ _ _ (PW.pt (pw_or (pt_not (pt_val (pe_callB (call_isinstK (K := K) rfl) rfl (B.is "isinstance") bt_isinstance (@pa_cons _ _ _ _ _ (pv 1) (@pa_cons _ _ _ _ _ (pe_bltn (v := .ty "tuple") rfl (B.is "tuple") bt_tuple rfl) (@pa_nil _) (by rfl)) (by rfl))))) (pw_or (pt_cmpR op_ne (pe_callB (call_lenK (K := K) rfl) rfl (B.is "len") bt_len (@pa_cons _ _ _ _ _ (pv 1) (@pa_nil _) (by rfl))) (pe_ix (ix_tupK (K := K) rfl) (pv 0) (@pe_int _ _ _ _) (fun _ _ => rfl)) (nomark _)) (pw_or1 (pt_not (pt_val (pe_callB (call_all rfl) rfl (B.is "all") bt_all (@pa_cons _ _ _ _ _ (pe_comp rfl (CompOk.of (sc := defScope s_need_spot) (N := ["heap", "spot"]) (N2 := ["number"]) (k := 1) (caps := []) (by decide +kernel)) (low_name (by decide)) (pi_tup (pv 1)) (fun _ _ _ _ _ => ⟨(pg_name (i := 0) (show List.Nodup (["number"] : List Str) by decide +kernel) rfl (Or.inl rfl)), pts_nil, (pe_callC c_is_whole hr (by omega) rfl (@pa_cons _ _ _ _ _ (pv 0) (@pa_nil _) (by rfl)))⟩)) (@pa_nil _) (by rfl))))))))) (@pss_one _ _ _ (@ps_never _ _)) (@pss_nil _))), ?_⟩
  obtain ⟨t, qq, bs, rfl, nt, nq, ht, hq, tb⟩ := heap_inv T
  refine ⟨_, rfl, _, _, _, _, rfl, S.ty, kit_tuple (spotD ns), _, rfl, ?_⟩
  refine ite2 (fun c => by cases c) (fun _ => ?_)
  obtain ⟨p, rfl, np, hp⟩ := spot_inv S
  refine ⟨_, rfl, p, _, rfl, .inr (SqT.of hp), _, rfl, t, _, 0, _, rfl, rfl, SqT.of ht, rfl, rfl, _, rfl, ?_⟩
  refine ite2 (fun c => ?_) (fun _ => ?_)
  · rw [List.length_map, hn] at c
    simp at c
  refine ⟨_, rfl, p, rfl, ⟨_, SqT.of hp⟩, ?_⟩
  refine comp_tup (xs := ns.map V.int) (fun i zs H' => H' = H ∧ zs = ((ns.take i).map fun _ => true).map V.bl) ⟨rfl, rfl⟩ (fun i zs H' hi pp => ?_) (fun i x zs H' hx pp => ?_) (fun zs H' p2 hp2 hn2 => ?_)
  · obtain ⟨rfl, rfl⟩ := pp
    refine ⟨SqT.of hp, small1000 ?_⟩
    rw [List.length_map, List.length_map, List.length_take]
    omega
  · obtain ⟨rfl, rfl⟩ := pp
    rw [List.getElem?_map] at hx
    obtain ⟨j, hj, rfl⟩ := Option.map_eq_some_iff.mp hx
    refine ⟨_, rfl, fun _ => True, _, .int j, rfl, .int j, nx (by rw [List.length_map]; exact (List.getElem?_eq_some_iff.mp hj).1) ⟨rfl, ?_⟩⟩
    rw [List.take_succ, hj]
    simp [isWhole]
  · obtain ⟨rfl, rfl⟩ := hp2
    refine ⟨p2, _, rfl, SqL.of upd_same, _, rfl, ?_⟩
    refine ite2 (fun c => ?_) (fun _ => q _ (same_new hn2 _))
    have e : (List.map (fun _ : Int => true) (ns.take (ns.map V.int).length)).all id = true := by rw [List.all_map]; simp
    rw [e] at c
    cases c
theorem ok_numbered_box {f : Addr} {fd : FuncData} (F : Fun K "numbered_box" "numbered_box" s_numbered_box f fd) (B : Blt mg) (c_is_whole : Cal P w K mg base "is_whole" 1 ["thing"] spWhole) : FnOk P w K mg base CX0 2 f fd ["heap", "number"] spNumbered := by
  refine F.ok sc_numbered_box (fun vs H Q E h => ?_) (fun cdv A outer s H vs Q E hr h => ?_)
  · obtain ⟨N, v, n, ds, i, d, rfl, _⟩ := h
    rfl
  obtain ⟨N, v, n, ds, i, d, rfl, T, hi, q⟩ := h
  refine ⟨_, (@pss_cons _ _ _ _ _ (@ps_if _ _ _ _ _ _ _ _ (PW.pt (pw_or (pt_not (pt_val (pe_callC c_is_whole hr (by omega) rfl (@pa_cons _ _ _ _ _ (pv 1) (@pa_nil _) (by rfl))))) (pw_or (pt_cmpR op_lt (pv 1) (@pe_int _ _ _ _) (nomark _)) (pw_or1 (pt_cmpR op_ge (pv 1) (pe_callB (call_lenK (K := K) rfl) rfl (B.is "len") bt_len (@pa_cons _ _ _ _ _ (pe_ix (ix_tupK (K := K) rfl) (pv 0) (@pe_int _ _ _ _) (fun _ _ => rfl)) (@pa_nil _) (by rfl))) (nomark _)))))) (@pss_one _ _ _ (@ps_never _ _)) (@pss_nil _))
      (@pss_one _ _ _ (@ps_ret _ _ _ _ (pe_ix (ix_listK (K := K) rfl) (pe_ix (ix_tupK (K := K) rfl) (pv 0) (@pe_int _ _ _ _) (fun _ _ => rfl)) (pv 1) (fun _ _ => rfl))))), ?_⟩
  obtain ⟨t, qq, bs, rfl, nt, nq, ht, hq, tb⟩ := heap_inv T
  have hlen := tb.length
  have hlt : i < ds.length := (List.getElem?_eq_some_iff.mp hi).1
  refine ⟨_, rfl, fun _ => True, _, .int i, rfl, .int i, _, rfl, ?_⟩
  refine ite2 (fun c => by cases c) (fun _ => ?_)
  refine ⟨_, rfl, _, _, rfl, rfl, _, rfl, ?_⟩
  refine ite2 (fun c => ?_) (fun _ => ?_)
  · have := of_decide_eq_true c
    omega
  refine ⟨_, rfl, _, rfl, t, _, 1, _, rfl, rfl, SqT.of ht, rfl, qq, bs, rfl, .inl (SqL.of hq), _, _, rfl, rfl, _, rfl, ?_⟩
  refine ite2 (fun c => ?_) (fun _ => ?_)
  · have := of_decide_eq_true c
    omega
  have hlt' : i < bs.length := by omega
  obtain ⟨d', e1, tx⟩ := tb.get (List.getElem?_eq_getElem hlt')
  rw [hi] at e1
  cases e1
  exact ⟨_, rfl, t, _, 1, _, rfl, rfl, SqT.of ht, rfl, _, rfl, qq, bs, i, _, rfl, rfl, SqL.of hq, atI_nat (List.getElem?_eq_getElem hlt'), q _ tx⟩
theorem bx_inv {N : Addr → Prop} {H : Hp} {x : V} {d : PyData} (t : Tr N H x d) (h : bx d = true) : ∃ c lo hi, x = .ref c ∧ N c ∧ H c = some (.tup [.int lo, .int hi]) ∧ d = .tuple [.int lo, .int hi] ∧ lo < hi ∧ -(10 ^ 9) ≤ lo ∧ hi ≤ 10 ^ 9 := by
  obtain ⟨lo, hi, rfl, n1, n2, lh⟩ := bx_is h
  obtain ⟨c, lo', hi', e, nc, hc, e2, _⟩ := str_inv t (decide_eq_true lh)
  cases e2
  simp only [nr, Bool.and_eq_true, decide_eq_true_eq] at n1 n2
  exact ⟨c, lo, hi, e, nc, hc, rfl, lh, n1.1, n2.2⟩
theorem ok_box_size {f : Addr} {fd : FuncData} (F : Fun K "box_size" "box_size" s_box_size f fd) : FnOk P w K mg base CX0 1 f fd ["box"] spBoxSize := by
  refine F.ok sc_box_size (fun vs H Q E h => ?_) (fun cdv A outer s H vs Q E hr h => ?_)
  · obtain ⟨N, v, es, rfl, _⟩ := h
    rfl
  obtain ⟨N, v, es, rfl, T, hb, q⟩ := h
  refine ⟨_, (@pss_cons _ _ _ _ _ (@ps_set _ _ 1 _ _ _ _ sc_box_size.nd rfl (Or.inl rfl) (@pe_int _ _ _ _) (by rfl) (by first | exact .inl rfl | exact .inr rfl | assumption))
      (@pss_cons _ _ _ _ _ (ps_for PassesOwn.never rfl (pi_tup (pv 0)) (pg_tupK (K := K) (n := 2) rfl rfl (pgs_cons (pg_name (i := 2) sc_box_size.nd rfl (Or.inl rfl)) (pgs_cons (pg_name (i := 3) sc_box_size.nd rfl (Or.inl rfl)) pgs_nil))) (@pss_one _ _ _ (@ps_set _ _ 1 _ _ _ _ sc_box_size.nd rfl (Or.inl rfl) (@pe_op _ _ _ _ _ _ _ _ op_mul (pv 1) (@pe_op _ _ _ _ _ _ _ _ op_sub (pv 3) (pv 2))) (by rfl) (by first | exact .inl rfl | exact .inr rfl | assumption))))
      (@pss_one _ _ _ (@ps_ret _ _ _ _ (pv 1))))), ?_⟩
  obtain ⟨c, xs, rfl, nc, hc, ts⟩ := T.tupI
  have hlen := ts.length
  refine ⟨_, rfl, c, rfl, ⟨xs, SqT.of hc⟩, ?_⟩
  refine for_tup (xs := xs) (fun i σ H' => H' = H ∧ ∃ z1 z2, σ = [some (.ref c), some (.int (sizeD (es.take i))), z1, z2]) ⟨rfl, _, _, rfl⟩ (fun i σ H' hi p => ?_) (fun i x σ H' hx p => ?_) (fun σ H' p => ?_)
  · rw [p.1]
    exact SqT.of hc
  · obtain ⟨rfl, z1, z2, rfl⟩ := p
    obtain ⟨dx, e1, tx⟩ := ts.get hx
    obtain ⟨c7, lo, hi, rfl, nc7, hc7, rfl, lh, l1, l2⟩ := bx_inv tx (List.all_eq_true.mp hb _ (List.mem_of_getElem? e1))
    refine ⟨c7, _, rfl, SqT.of hc7, rfl, _, _, rfl, _, _, rfl, rfl, ?_⟩
    refine ⟨_, rfl, _, rfl, _, rfl, _, _, rfl, rfl, _, _, rfl, rfl, .inr ⟨by omega, by omega⟩, rfl, some (.int lo), some (.int hi), ?_⟩
    have e : sizeD (es.take (i + 1)) = sizeD (es.take i) * (hi - lo) := by
      unfold sizeD
      rw [List.take_succ, e1, List.foldl_append]
      rfl
    rw [e]
    rfl
  · obtain ⟨rfl, z1, z2, rfl⟩ := p
    rw [hlen, List.take_length]
    exact ⟨_, rfl, q⟩
theorem ok_holds {f : Addr} {fd : FuncData} (F : Fun K "holds" "holds" s_holds f fd) (B : Blt mg) (Bz : mg "zip" = none) : FnOk P w K mg base CX0 1 f fd ["box", "spot"] spHolds := by
  refine F.ok sc_holds (fun vs H Q E h => ?_) (fun cdv A outer s H vs Q E hr h => ?_)
  · obtain ⟨N, N', v, u, es, ns, rfl, _⟩ := h
    rfl
  obtain ⟨N, N', v, u, es, ns, rfl, T, S, hb, hl, l3, q⟩ := h
  refine ⟨_, (@pss_one _ _ _ (@ps_ret _ _ _ _ (pe_callB (call_all rfl) rfl (B.is "all") bt_all (@pa_cons _ _ _ _ _ (pe_comp rfl (CompOk.of (sc := defScope s_holds) (N := ["box", "spot"]) (N2 := ["stretch", "number"]) (k := 2) (caps := []) (by decide +kernel)) (low_two (by decide) (by decide)) (pi_zip false rfl Bz (@pa_cons _ _ _ _ _ (pv 0) (@pa_cons _ _ _ _ _ (pv 1) (@pa_nil _) (by rfl)) (by rfl))) (fun _ _ _ _ _ => ⟨(pg_tupK (K := K) (n := 2) rfl rfl (pgs_cons (pg_name (i := 0) (show List.Nodup (["stretch", "number"] : List Str) by decide +kernel) rfl (Or.inl rfl)) (pgs_cons (pg_name (i := 1) (show List.Nodup (["stretch", "number"] : List Str) by decide +kernel) rfl (Or.inl rfl)) pgs_nil))), pts_nil, (pe_chain op_le op_lt (pe_ix (ix_tupK (K := K) rfl) (pv 0) (@pe_int _ _ _ _) (fun _ _ => rfl)) (pv 1) (pe_ix (ix_tupK (K := K) rfl) (pv 0) (@pe_int _ _ _ _) (fun _ _ => rfl)))⟩)) (@pa_nil _) (by rfl))))), ?_⟩
  obtain ⟨c, xs, rfl, nc, hc, ts⟩ := T.tupI
  obtain ⟨p, rfl, np, hp⟩ := spot_inv S
  have hlen := ts.length
  have hml : (ns.map V.int).length = ns.length := List.length_map ..
  refine ⟨_, rfl, _, rfl, c, p, xs, ns.map V.int, rfl, hc, hp, ?_⟩
  refine comp_zip (L := false) (xs := xs) (ys := ns.map V.int) (n := ns.length) (by omega) (by omega) (.inr (by omega)) (fun i zs H' => Same H H' ∧ zs = ((es.zip ns).take i |>.map fun p => inD p.1 p.2).map V.bl) ⟨Same.refl H, rfl⟩ (fun i zs H' hi pp => ?_) (fun i x y zs H' p' hi hx hy pp hp' => ?_) (fun zs H' p' pp hp' => ?_)
  · obtain ⟨S1, rfl⟩ := pp
    refine ⟨S1 _ _ hc, S1 _ _ hp, small1000 ?_⟩
    rw [List.length_map, List.length_map, List.length_take]
    omega
  · obtain ⟨S1, rfl⟩ := pp
    obtain ⟨dx, e1, tx⟩ := ts.get hx
    obtain ⟨c7, lo, hi7, rfl, nc7, hc7, rfl, lh, l1, l2⟩ := bx_inv tx (List.all_eq_true.mp hb _ (List.mem_of_getElem? e1))
    rw [List.getElem?_map] at hy
    obtain ⟨j, hj, rfl⟩ := Option.map_eq_some_iff.mp hy
    have S2 := same_new hp' (.tup [.ref c7, .int j])
    have hc8 := S2 _ _ (S1 _ _ hc7)
    have ez : (es.zip ns)[i]? = some (.tuple [.int lo, .int hi7], j) := by rw [List.getElem?_zip_eq_some]; exact ⟨e1, hj⟩
    have et : ((es.zip ns).take (i + 1) |>.map fun p => inD p.1 p.2).map V.bl = ((es.zip ns).take i |>.map fun p => inD p.1 p.2).map V.bl ++ [.bl (inD (.tuple [.int lo, .int hi7]) j)] := by
      rw [List.take_succ, ez]
      simp
    refine ⟨p', _, rfl, SqT.of upd_same, rfl, _, _, rfl, _, _, rfl, rfl, ?_⟩
    refine ⟨_, rfl, c7, _, 0, _, rfl, rfl, SqT.of hc8, rfl, _, rfl, _, _, rfl, rfl, _, rfl, ?_⟩
    refine ite2 (fun cc => ?_) (fun cc => ?_)
    · refine ⟨_, rfl, c7, _, 1, _, rfl, rfl, SqT.of hc8, rfl, _, _, rfl, rfl, nx hi ⟨S1.trans S2, ?_⟩⟩
      rw [et]
      show _ = _ ++ [V.bl (decide (lo ≤ j) && decide (j < hi7))]
      rw [cc]
      rfl
    · refine nx hi ⟨S1.trans S2, ?_⟩
      rw [et]
      show _ = _ ++ [V.bl (decide (lo ≤ j) && decide (j < hi7))]
      rw [Bool.eq_false_iff.mpr cc]
      rfl
  · obtain ⟨S1, rfl⟩ := pp
    refine ⟨p', _, rfl, SqL.of upd_same, ?_⟩
    have e : holdsD es ns = (((es.zip ns).take ns.length).map fun p => inD p.1 p.2).all id := by
      have : (es.zip ns).length = ns.length := by rw [List.length_zip]; omega
      rw [← this, List.take_length, List.all_map]
      rfl
    rw [← e]
    exact q _ (S1.trans (same_new hp' _))
end
end K03
end
section
set_option Elab.async false
set_option maxRecDepth 10000
set_option linter.all false
namespace K03
open PySem PySem.Spec PyProof.Rows L2 Bc
theorem sc_size_of : FnScope ["heap", "number"] ["heap", "number"] (defScope s_size_of) := ⟨rfl, rfl, rfl, by decide +kernel, rfl, by decide +kernel, by decide +kernel⟩
theorem sc_boxes_at : FnScope ["heap", "spot"] ["heap", "spot"] (defScope s_boxes_at) := ⟨rfl, rfl, rfl, by decide +kernel, rfl, by decide +kernel, by decide +kernel⟩
theorem sc_how_often : FnScope ["heap", "spot"] ["heap", "spot"] (defScope s_how_often) := ⟨rfl, rfl, rfl, by decide +kernel, rfl, by decide +kernel, by decide +kernel⟩
section
variable {P : Program} {w : World} {K : PySem.W.Frag} {mg : Str → Option Value} {base : Heap}
theorem same_none {H H' : Hp} {p : Addr} (S : Same H H') (h : H' p = none) : H p = none := by
  cases e : H p with
  | none => rfl
  | some o => rw [S _ _ e] at h; cases h
theorem ok_size_of {f : Addr} {fd : FuncData} (F : Fun K "size_of" "size_of" s_size_of f fd) (c_need_heap : Cal P w K mg base "need_heap" 5 ["heap"] spNeedHeap) (c_numbered_box : Cal P w K mg base "numbered_box" 2 ["heap", "number"] spNumbered)
    (c_box_size : Cal P w K mg base "box_size" 1 ["box"] spBoxSize) : FnOk P w K mg base CX0 6 f fd ["heap", "number"] spSizeOf := by
  refine F.ok sc_size_of (fun vs H Q E h => ?_) (fun cdv A outer s H vs Q E hr h => ?_)
  · obtain ⟨N, v, n, ds, i, d, rfl, _⟩ := h
    rfl
  obtain ⟨N, v, n, ds, i, d, rfl, T, g, hi, q⟩ := h
  refine ⟨_, (@pss_cons _ _ _ _ _ (ps_expr (pe_callC c_need_heap hr (by omega) rfl (@pa_cons _ _ _ _ _ (pv 0) (@pa_nil _) (by rfl))))
      (@pss_one _ _ _ (@ps_ret _ _ _ _ (pe_callC c_box_size hr (by omega) rfl (@pa_cons _ _ _ _ _ (pe_callC c_numbered_box hr (by omega) rfl (@pa_cons _ _ _ _ _ (pv 0) (@pa_cons _ _ _ _ _ (pv 1) (@pa_nil _) (by rfl)) (by rfl))) (@pa_nil _) (by rfl)))))), ?_⟩
  refine ⟨_, rfl, N, v, _, rfl, T, g.heap, fun H1 S1 => ?_⟩
  obtain ⟨es, rfl, hel, hb⟩ := boxD_is (List.all_eq_true.mp g.all _ (List.mem_of_getElem? hi))
  exact ⟨_, rfl, _, rfl, N, v, n, ds, i, _, rfl, T.same S1, hi, fun x tx => ⟨N, x, es, rfl, tx, hb, q _ S1⟩⟩
theorem ok_boxes_at {f : Addr} {fd : FuncData} (F : Fun K "boxes_at" "boxes_at" s_boxes_at f fd) (B : Blt mg) (Be : mg "enumerate" = none) (c_need_heap : Cal P w K mg base "need_heap" 5 ["heap"] spNeedHeap) (c_need_spot : Cal P w K mg base "need_spot" 2 ["heap", "spot"] spNeedSpot)
    (c_holds : Cal P w K mg base "holds" 1 ["box", "spot"] spHolds) : FnOk P w K mg base CX0 6 f fd ["heap", "spot"] spBoxesAt := by
  refine F.ok sc_boxes_at (fun vs H Q E h => ?_) (fun cdv A outer s H vs Q E hr h => ?_)
  · obtain ⟨N, N', v, u, n, ds, ns, rfl, _⟩ := h
    rfl
  obtain ⟨N, N', v, u, n, ds, ns, rfl, T, g, S, hn, q⟩ := h
  refine ⟨_, (@pss_cons _ _ _ _ _ (ps_expr (pe_callC c_need_heap hr (by omega) rfl (@pa_cons _ _ _ _ _ (pv 0) (@pa_nil _) (by rfl))))
      (@pss_cons _ _ _ _ _ (ps_expr (pe_callC c_need_spot hr (by omega) rfl (@pa_cons _ _ _ _ _ (pv 0) (@pa_cons _ _ _ _ _ (pv 1) (@pa_nil _) (by rfl)) (by rfl))))
      (@pss_one _ _ _ (@ps_ret _ _ _ _ (pe_comp rfl (CompOk.of (sc := defScope s_boxes_at) (N := ["heap", "spot"]) (N2 := ["number", "box", "spot"]) (k := 2) (caps := [1]) (by decide +kernel)) (low_two (by decide) (by decide)) (pi_enum rfl Be (@pa_cons _ _ _ _ _ (pe_ix (ix_tupK (K := K) rfl) (pv 0) (@pe_int _ _ _ _) (fun _ _ => rfl)) (@pa_nil _) (by rfl))) (fun _ _ _ _ _ => ⟨(pg_tupK (K := K) (n := 2) rfl rfl (pgs_cons (pg_name (i := 0) (show List.Nodup (["number", "box", "spot"] : List Str) by decide +kernel) rfl (Or.inl rfl)) (pgs_cons (pg_name (i := 1) (show List.Nodup (["number", "box", "spot"] : List Str) by decide +kernel) rfl (Or.inl rfl)) pgs_nil))), (pts_one (pt_val (pe_callC c_holds hr (by omega) rfl (@pa_cons _ _ _ _ _ (pv 1) (@pa_cons _ _ _ _ _ (pv 2) (@pa_nil _) (by rfl)) (by rfl))))), (pv 0)⟩)))))), ?_⟩
  refine ⟨_, rfl, N, v, _, rfl, T, g.heap, fun H1 S1 => ?_⟩
  refine ⟨_, rfl, _, rfl, N, N', v, u, n, ds, ns, rfl, T.same S1, S.same S1, hn, g.n3, fun H2 S2 => ?_⟩
  have S12 := S1.trans S2
  obtain ⟨t, qq, bs, rfl, nt, nq, ht, hq, tb⟩ := heap_inv (T.same S12)
  obtain ⟨p, rfl, np, hp⟩ := spot_inv (S.same S12)
  have hlen := tb.length
  have n3 := g.n3
  have most := g.most
  refine ⟨_, rfl, t, _, 1, _, rfl, rfl, SqT.of ht, rfl, qq, rfl, ⟨bs, SqL.of hq⟩, ?_⟩
  refine comp_enum (xs := bs) (fun i zs H' => Same H2 H' ∧ zs = (idxN ds ns i).map V.int) ⟨Same.refl H2, rfl⟩ (fun i zs H' hi pp => ?_) (fun i x zs H' r hx pp hr' => ?_) (fun zs H' r pp hr' => ?_)
  · obtain ⟨S3, rfl⟩ := pp
    refine ⟨SqL.of (S3 _ _ hq), small1000 ?_⟩
    rw [List.length_map]
    have := idxN_len ds ns i
    omega
  · obtain ⟨S3, rfl⟩ := pp
    obtain ⟨dx, e1, tx⟩ := tb.get hx
    obtain ⟨es, rfl, hel, hb⟩ := boxD_is (List.all_eq_true.mp g.all _ (List.mem_of_getElem? e1))
    have S4 := same_new hr' (.tup [.int i, x])
    have S34 := S3.trans S4
    have hi : i < bs.length := (List.getElem?_eq_some_iff.mp hx).1
    have es' := idxN_succ (ns := ns) e1
    refine ⟨r, _, rfl, SqT.of upd_same, rfl, _, _, rfl, _, _, rfl, rfl, ?_⟩
    refine ⟨_, rfl, _, rfl, N, N', _, _, es, ns, rfl, tx.same S34, (S.same S12).same S34, hb, by omega, by omega, fun H3 S5 => ⟨_, rfl, ?_⟩⟩
    refine ite2 (fun cc => ?_) (fun cc => ?_)
    · refine ⟨_, rfl, L2.nx hi ⟨S34.trans S5, ?_⟩⟩
      rw [es', if_pos (show holdsB (.tuple es) ns = true from cc), List.map_append]
      rfl
    · refine L2.nx hi ⟨S34.trans S5, ?_⟩
      rw [es', if_neg (show ¬ holdsB (.tuple es) ns = true from cc), List.append_nil]
  · obtain ⟨S3, rfl⟩ := pp
    refine q r _ (S12.trans (S3.trans (same_new hr' _))) (same_none (S12.trans S3) hr') ?_
    rw [upd_same, hlen]
    rfl
theorem ok_how_often {f : Addr} {fd : FuncData} (F : Fun K "how_often" "how_often" s_how_often f fd) (B : Blt mg) (c_boxes_at : Cal P w K mg base "boxes_at" 6 ["heap", "spot"] spBoxesAt) : FnOk P w K mg base CX0 7 f fd ["heap", "spot"] spHowOften := by
  refine F.ok sc_how_often (fun vs H Q E h => ?_) (fun cdv A outer s H vs Q E hr h => ?_)
  · obtain ⟨N, N', v, u, n, ds, ns, rfl, _⟩ := h
    rfl
  obtain ⟨N, N', v, u, n, ds, ns, rfl, T, g, S, hn, q⟩ := h
  refine ⟨_, (@pss_one _ _ _ (@ps_ret _ _ _ _ (pe_callB (call_lenK (K := K) rfl) rfl (B.is "len") bt_len (@pa_cons _ _ _ _ _ (pe_callC c_boxes_at hr (by omega) rfl (@pa_cons _ _ _ _ _ (pv 0) (@pa_cons _ _ _ _ _ (pv 1) (@pa_nil _) (by rfl)) (by rfl))) (@pa_nil _) (by rfl))))), ?_⟩
  refine ⟨_, rfl, _, rfl, N, N', v, u, n, ds, ns, rfl, T, g, S, hn, fun p H' SS hp hp' => ⟨p, _, rfl, .inl (SqL.of hp'), ?_⟩⟩
  rw [List.length_map]
  exact q H' SS
end
end K03
end
section
set_option Elab.async false
set_option maxRecDepth 10000
set_option linter.all false
namespace K03
open PySem PySem.Spec PyProof.Rows L2 Bc
theorem sc_law_holds : FnScope ["box", "spot", "k"] ["box", "spot"] (defScope s_law_holds) := ⟨rfl, rfl, rfl, by decide +kernel, rfl, by decide +kernel, by decide +kernel⟩
theorem sc_law_size : FnScope ["box", "found", "low", "high"] ["box"] (defScope s_law_size) := ⟨rfl, rfl, rfl, by decide +kernel, rfl, by decide +kernel, by decide +kernel⟩
theorem sc_law_spot : FnScope ["well", "heap", "ways", "boxes", "box", "found", "low", "high"] ["well", "heap"] (defScope s_law_spot) := ⟨rfl, rfl, rfl, by decide +kernel, rfl, by decide +kernel, by decide +kernel⟩
section
variable {P : Program} {w : World} {K : PySem.W.Frag} {mg : Str → Option Value} {base : Heap}
theorem ok_law_holds {f : Addr} {fd : FuncData} (F : Fun K "_law_holds" "_law_holds" s_law_holds f fd) (B : Blt mg) : FnOk P w K mg base CX0 1 f fd ["box", "spot"] spHolds := by
  refine F.ok sc_law_holds (fun vs H Q E h => ?_) (fun cdv A outer s H vs Q E hr h => ?_)
  · obtain ⟨N, N', v, u, es, ns, rfl, _⟩ := h
    rfl
  obtain ⟨N, N', v, u, es, ns, rfl, T, S, hb, hl, l3, q⟩ := h
  refine ⟨_, (@pss_cons _ _ _ _ _ (ps_for PassesOwn.never rfl (pi_range1 rfl (B.is "range") (@pa_cons _ _ _ _ _ (pe_callB (call_lenK (K := K) rfl) rfl (B.is "len") bt_len (@pa_cons _ _ _ _ _ (pv 0) (@pa_nil _) (by rfl))) (@pa_nil _) (by rfl))) (pg_name (i := 2) sc_law_holds.nd rfl (Or.inl rfl)) (@pss_one _ _ _ (@ps_if _ _ _ _ _ _ _ _ (PW.pt (pw_or (pt_cmpR op_lt (pe_ix (ix_tupK (K := K) rfl) (pv 1) (pv 2) (fun _ _ => rfl)) (pe_ix (ix_tupK (K := K) rfl) (pe_ix (ix_tupK (K := K) rfl) (pv 0) (pv 2) (fun _ _ => rfl)) (@pe_int _ _ _ _) (fun _ _ => rfl)) (nomark _)) (pw_or1 (pt_cmpR op_ge (pe_ix (ix_tupK (K := K) rfl) (pv 1) (pv 2) (fun _ _ => rfl)) (pe_ix (ix_tupK (K := K) rfl) (pe_ix (ix_tupK (K := K) rfl) (pv 0) (pv 2) (fun _ _ => rfl)) (@pe_int _ _ _ _) (fun _ _ => rfl)) (nomark _))))) (@pss_one _ _ _ (@ps_ret _ _ _ _ (@pe_bl _ _ _ _))) (@pss_nil _))))
      (@pss_one _ _ _ (@ps_ret _ _ _ _ (@pe_bl _ _ _ _)))), ?_⟩
  obtain ⟨c, xs, rfl, nc, hc, ts⟩ := T.tupI
  obtain ⟨p, rfl, np, hp⟩ := spot_inv S
  have hlen := ts.length
  have ql := q H (Same.refl H)
  refine ⟨_, rfl, c, xs, rfl, .inr (SqT.of hc), _, rfl, by omega, by omega, ?_⟩
  refine for_range (fun i σ H' => H' = H ∧ ∃ z, σ = [some (.ref c), some (.ref p), z] ∧ (((es.zip ns).take i).all fun p => inD p.1 p.2) = true) ⟨rfl, _, rfl, rfl⟩ (fun i σ H' hi pp => ?_) (fun σ H' pp => ?_)
  · obtain ⟨rfl, z, rfl, ha⟩ := pp
    have hi' : i < xs.length := by omega
    obtain ⟨dx, e1, tx⟩ := ts.get (List.getElem?_eq_getElem hi')
    obtain ⟨c7, lo, hi7, e5, nc7, hc7, rfl, lh, l1, l2⟩ := bx_inv tx (List.all_eq_true.mp hb _ (List.mem_of_getElem? e1))
    have hat := atI_nat (List.getElem?_eq_getElem hi')
    rw [e5] at hat
    have hj : i < ns.length := by omega
    have hat2 : atI (ns.map V.int) (0 + (i : Int)) = some (.int ns[i]) := by
      rw [Int.zero_add]
      exact atI_nat (by rw [List.getElem?_map, List.getElem?_eq_getElem hj]; rfl)
    have ez : (es.zip ns)[i]? = some (.tuple [.int lo, .int hi7], ns[i]) := by rw [List.getElem?_zip_eq_some]; exact ⟨e1, List.getElem?_eq_getElem hj⟩
    have no : inD (.tuple [.int lo, .int hi7]) ns[i] = false → holdsD es ns = false := fun e => by
      unfold holdsD
      rw [List.all_eq_false]
      exact ⟨_, List.mem_of_getElem? ez, by rw [e]; exact Bool.false_ne_true⟩
    have e0 : inD (.tuple [.int lo, .int hi7]) ns[i] = (decide (lo ≤ ns[i]) && decide (ns[i] < hi7)) := rfl
    refine ⟨_, rfl, _, rfl, p, _, _, _, rfl, rfl, SqT.of hp, hat2, _, rfl, _, rfl, c, xs, _, _, rfl, rfl, SqT.of hc, (by rw [Int.zero_add]; exact hat), c7, _, 0, _, rfl, rfl, SqT.of hc7, rfl, _, _, rfl, rfl, _, rfl, ?_⟩
    refine ite2 (fun cc => ?_) (fun cc => ?_)
    · have cc' := of_decide_eq_true cc
      have e := no (by rw [e0, decide_eq_false (by omega)]; rfl)
      rw [e] at ql
      exact iteT ql
    refine ⟨_, rfl, _, rfl, p, _, _, _, rfl, rfl, SqT.of hp, hat2, _, rfl, _, rfl, c, xs, _, _, rfl, rfl, SqT.of hc, (by rw [Int.zero_add]; exact hat), c7, _, 1, _, rfl, rfl, SqT.of hc7, rfl, _, _, rfl, rfl, _, rfl, ?_⟩
    refine ite2 (fun c2 => ?_) (fun c2 => ?_)
    · have c2' := of_decide_eq_true c2
      have e := no (by rw [e0, decide_eq_false (by omega : ¬ ns[i] < hi7), Bool.and_false])
      rw [e] at ql
      exact ql
    · have d1 : ¬ ns[i] < lo := fun z => cc (decide_eq_true z)
      have d2 : ¬ hi7 ≤ ns[i] := fun z => c2 (decide_eq_true z)
      refine ⟨rfl, _, rfl, ?_⟩
      rw [List.take_succ, ez, List.all_append, ha]
      show (true && ((decide (lo ≤ ns[i]) && decide (ns[i] < hi7)) && true)) = true
      rw [decide_eq_true (by omega), decide_eq_true (by omega)]
      rfl
  · obtain ⟨rfl, z, rfl, ha⟩ := pp
    have e : holdsD es ns = true := by
      have hz : (es.zip ns).length = xs.length := by rw [List.length_zip]; omega
      rw [Int.toNat_natCast, ← hz, List.take_length] at ha
      exact ha
    rw [e] at ql
    exact ql
theorem ok_law_size {f : Addr} {fd : FuncData} (F : Fun K "_law_size" "_law_size" s_law_size f fd) : FnOk P w K mg base CX0 1 f fd ["box"] spBoxSize := by
  refine F.ok sc_law_size (fun vs H Q E h => ?_) (fun cdv A outer s H vs Q E hr h => ?_)
  · obtain ⟨N, v, es, rfl, _⟩ := h
    rfl
  obtain ⟨N, v, es, rfl, T, hb, q⟩ := h
  refine ⟨_, (@pss_cons _ _ _ _ _ (@ps_set _ _ 1 _ _ _ _ sc_law_size.nd rfl (Or.inl rfl) (@pe_int _ _ _ _) (by rfl) (by first | exact .inl rfl | exact .inr rfl | assumption))
      (@pss_cons _ _ _ _ _ (ps_for PassesOwn.never rfl (pi_tup (pv 0)) (pg_tupK (K := K) (n := 2) rfl rfl (pgs_cons (pg_name (i := 2) sc_law_size.nd rfl (Or.inl rfl)) (pgs_cons (pg_name (i := 3) sc_law_size.nd rfl (Or.inl rfl)) pgs_nil))) (@pss_one _ _ _ (@ps_set _ _ 1 _ _ _ _ sc_law_size.nd rfl (Or.inl rfl) (@pe_op _ _ _ _ _ _ _ _ op_mul (pv 1) (@pe_op _ _ _ _ _ _ _ _ op_sub (pv 3) (pv 2))) (by rfl) (by first | exact .inl rfl | exact .inr rfl | assumption))))
      (@pss_one _ _ _ (@ps_ret _ _ _ _ (pv 1))))), ?_⟩
  obtain ⟨c, xs, rfl, nc, hc, ts⟩ := T.tupI
  have hlen := ts.length
  refine ⟨_, rfl, c, rfl, ⟨xs, SqT.of hc⟩, ?_⟩
  refine for_tup (xs := xs) (fun i σ H' => H' = H ∧ ∃ z1 z2, σ = [some (.ref c), some (.int (sizeD (es.take i))), z1, z2]) ⟨rfl, _, _, rfl⟩ (fun i σ H' hi p => ?_) (fun i x σ H' hx p => ?_) (fun σ H' p => ?_)
  · rw [p.1]
    exact SqT.of hc
  · obtain ⟨rfl, z1, z2, rfl⟩ := p
    obtain ⟨dx, e1, tx⟩ := ts.get hx
    obtain ⟨c7, lo, hi, rfl, nc7, hc7, rfl, lh, l1, l2⟩ := bx_inv tx (List.all_eq_true.mp hb _ (List.mem_of_getElem? e1))
    refine ⟨c7, _, rfl, SqT.of hc7, rfl, _, _, rfl, _, _, rfl, rfl, ?_⟩
    refine ⟨_, rfl, _, rfl, _, rfl, _, _, rfl, rfl, _, _, rfl, rfl, .inr ⟨by omega, by omega⟩, rfl, some (.int lo), some (.int hi), ?_⟩
    have e : sizeD (es.take (i + 1)) = sizeD (es.take i) * (hi - lo) := by
      unfold sizeD
      rw [List.take_succ, e1, List.foldl_append]
      rfl
    rw [e]
    rfl
  · obtain ⟨rfl, z1, z2, rfl⟩ := p
    rw [hlen, List.take_length]
    exact ⟨_, rfl, q⟩
def spSpot : Sp := fun vs H Q _ => ∃ (a t q : Addr) (bs : List V) (n : Nat) (ds : List PyData), vs = [.ref a, .ref t] ∧ Wq a q bs H ∧ Nq a q t ∧ H t = some (.tup [.int n, .ref q]) ∧ TrAll (Nq a q) H bs ds ∧ Good n ds ∧
  ∀ p (ns : List Int) H', But a H H' → Well H' a → H p = none → H' p = some (.tup (ns.map V.int)) → ns.length = n → Q (.ref p) H'
set_option maxHeartbeats 4000000 in
theorem ok_law_spot {f : Addr} {fd : FuncData} (F : Fun K "_law_spot" "_law_spot" s_law_spot f fd) (B : Blt mg) (c_law_draw : Cal P w K mg base "_law_draw" 1 ["well", "many"] spDraw) : FnOk P w K mg base CX0 2 f fd ["well", "heap"] spSpot := by
  refine F.ok sc_law_spot (fun vs H Q E h => ?_) (fun cdv A outer s H vs Q E hr h => ?_)
  · obtain ⟨a, t, q, bs, n, ds, rfl, _⟩ := h
    rfl
  obtain ⟨a, t, q, bs, n, ds, rfl, Y, nt, ht, tb, g, k⟩ := h
  refine ⟨_, (@pss_cons _ _ _ _ _ (ps_asg (pv 1) (pg_tupK (K := K) (n := 2) rfl rfl (pgs_cons (pg_name (i := 2) sc_law_spot.nd rfl (Or.inl rfl)) (pgs_cons (pg_name (i := 3) sc_law_spot.nd rfl (Or.inl rfl)) pgs_nil))))
      (@pss_cons _ _ _ _ _ (@ps_if _ _ _ _ _ _ _ _ (PW.pt (pw_or (pt_cmpR (op_eqD hr) (pv 3) (@pe_lst _ _ _ _ (@pa_nil _)) (nomark _)) (pw_or1 (pt_cmpR op_eq (pe_callC c_law_draw hr (by omega) rfl (@pa_cons _ _ _ _ _ (pv 0) (@pa_cons _ _ _ _ _ (@pe_int _ _ _ _) (@pa_nil _) (by rfl)) (by rfl))) (@pe_int _ _ _ _) (nomark _))))) (@pss_one _ _ _ (@ps_ret _ _ _ _ (pe_callTy (call_tupleK (K := K) rfl) rfl (B.is "tuple") bt_tuple (@pa_cons _ _ _ _ _ (pe_comp rfl (CompOk.of (sc := defScope s_law_spot) (N := ["well", "heap", "ways", "boxes", "box", "found", "low", "high"]) (N2 := ["way", "well"]) (k := 1) (caps := [0]) (by decide +kernel)) (low_name (by decide)) (pi_range1 rfl (B.is "range") (@pa_cons _ _ _ _ _ (pv 2) (@pa_nil _) (by rfl))) (fun _ _ _ _ _ => ⟨(pg_name (i := 0) (show List.Nodup (["way", "well"] : List Str) by decide +kernel) rfl (Or.inl rfl)), pts_nil, (@pe_op _ _ _ _ _ _ _ _ op_sub (pe_callC c_law_draw hr (by omega) rfl (@pa_cons _ _ _ _ _ (pv 1) (@pa_cons _ _ _ _ _ (@pe_op _ _ _ _ _ _ _ _ op_add (@pe_op _ _ _ _ _ _ _ _ op_mul (@pe_int _ _ _ _) (@pe_op _ _ _ _ _ _ _ _ op_pow (@pe_int _ _ _ _) (@pe_int _ _ _ _))) (@pe_int _ _ _ _)) (@pa_nil _) (by rfl)) (by rfl))) (@pe_op _ _ _ _ _ _ _ _ op_pow (@pe_int _ _ _ _) (@pe_int _ _ _ _)))⟩)) (@pa_nil _) (by rfl))))) (@pss_nil _))
      (@pss_cons _ _ _ _ _ (@ps_set _ _ 4 _ _ _ _ sc_law_spot.nd rfl (Or.inl rfl) (pe_ix (ix_listK (K := K) rfl) (pv 3) (pe_callC c_law_draw hr (by omega) rfl (@pa_cons _ _ _ _ _ (pv 0) (@pa_cons _ _ _ _ _ (pe_callB (call_lenK (K := K) rfl) rfl (B.is "len") bt_len (@pa_cons _ _ _ _ _ (pv 3) (@pa_nil _) (by rfl))) (@pa_nil _) (by rfl)) (by rfl))) (fun _ _ => rfl)) (by rfl) (by first | exact .inl rfl | exact .inr rfl | assumption))
      (@pss_cons _ _ _ _ _ (@ps_set _ _ 5 _ _ _ _ sc_law_spot.nd rfl (Or.inl rfl) (@pe_lst _ _ _ _ (@pa_nil _)) (by rfl) (by first | exact .inl rfl | exact .inr rfl | assumption))
      (@pss_cons _ _ _ _ _ (ps_for PassesOwn.never rfl (pi_tup (pv 4)) (pg_tupK (K := K) (n := 2) rfl rfl (pgs_cons (pg_name (i := 6) sc_law_spot.nd rfl (Or.inl rfl)) (pgs_cons (pg_name (i := 7) sc_law_spot.nd rfl (Or.inl rfl)) pgs_nil))) (@pss_one _ _ _ (ps_expr (pe_bm PySem.F.plainAttrs_list PySem.F.slot_list_append PySem.F.type_list_append mt_append (pv 5) (@pa_cons _ _ _ _ _ (pe_ix (ix_listK (K := K) rfl) (@pe_lst _ _ _ _ (@pa_cons _ _ _ _ _ (pv 6) (@pa_cons _ _ _ _ _ (@pe_op _ _ _ _ _ _ _ _ op_sub (pv 7) (@pe_int _ _ _ _)) (@pa_cons _ _ _ _ _ (pv 7) (@pa_cons _ _ _ _ _ (@pe_op _ _ _ _ _ _ _ _ op_sub (pv 6) (@pe_int _ _ _ _)) (@pa_cons _ _ _ _ _ (@pe_op _ _ _ _ _ _ _ _ op_fdiv2 (@pe_op _ _ _ _ _ _ _ _ op_add (pv 6) (pv 7)) (@pe_int _ _ _ _)) (@pa_cons _ _ _ _ _ (pv 6) (@pa_nil _) (by rfl)) (by rfl)) (by rfl)) (by rfl)) (by rfl)) (by rfl))) (pe_callC c_law_draw hr (by omega) rfl (@pa_cons _ _ _ _ _ (pv 0) (@pa_cons _ _ _ _ _ (@pe_int _ _ _ _) (@pa_nil _) (by rfl)) (by rfl))) (fun _ _ => rfl)) (@pa_nil _) (by rfl))))))
      (@pss_one _ _ _ (@ps_ret _ _ _ _ (pe_callTy (call_tupleK (K := K) rfl) rfl (B.is "tuple") bt_tuple (@pa_cons _ _ _ _ _ (pe_comp rfl (CompOk.of (sc := defScope s_law_spot) (N := ["well", "heap", "ways", "boxes", "box", "found", "low", "high"]) (N2 := ["one"]) (k := 1) (caps := []) (by decide +kernel)) (low_name (by decide)) (pi_list (pv 5)) (fun _ _ _ _ _ => ⟨(pg_name (i := 0) (show List.Nodup (["one"] : List Str) by decide +kernel) rfl (Or.inl rfl)), pts_nil, (pe_callB (call_max2 rfl) rfl (B.is "max") bt_max (@pa_cons _ _ _ _ _ (@pe_un _ _ _ _ _ _ un_neg (@pe_op _ _ _ _ _ _ _ _ op_pow (@pe_int _ _ _ _) (@pe_int _ _ _ _))) (@pa_cons _ _ _ _ _ (pe_callB (call_min2 rfl) rfl (B.is "min") bt_min (@pa_cons _ _ _ _ _ (@pe_op _ _ _ _ _ _ _ _ op_pow (@pe_int _ _ _ _) (@pe_int _ _ _ _)) (@pa_cons _ _ _ _ _ (pv 0) (@pa_nil _) (by rfl)) (by rfl))) (@pa_nil _) (by rfl)) (by rfl)))⟩)) (@pa_nil _) (by rfl)))))))))), ?_⟩
  have hbl := tb.length
  have most := g.most
  have n1 := g.n1
  have n3 := g.n3
  refine ⟨_, rfl, t, _, rfl, SqT.of ht, rfl, _, _, rfl, _, _, rfl, rfl, ?_⟩
  have any : ∀ (z4 z5 z6 z7 : Option V) (H1 : Hp), But a H H1 → Well H1 a → tRet (tCB (rTupleOf K) (tCons (tComp 1 [0] (iRng1 (tCons (tVar 2) tNil)) (gName 0) tYes (tOp (rI0 fun i j => .int (i - j)) (tCall spDraw [] E0 (tCons (tVar 1) (tCons (tOp (rI0 fun i j => .int (i + j)) (tOp (rI CMul fun i j => .int (i * j)) (tC (.int 2)) (tOp (rI CPow fun i j => .int (i ^ j.toNat)) (tC (.int 10)) (tC (.int 9)))) (tC (.int 1))) tNil))) (tOp (rI CPow fun i j => .int (i ^ j.toNat)) (tC (.int 10)) (tC (.int 9))))) tNil)) { nx := fun x H' => Q V.non H', rt := Q } [some (.ref a), some (.ref t), some (.int n), some (.ref q), z4, z5, z6, z7] H1 := fun z4 z5 z6 z7 H1 b1 W1 => by
    refine ⟨_, rfl, _, rfl, by omega, by omega, ?_⟩
    refine comp_range (fun i ys H' => But a H1 H' ∧ Well H' a ∧ ∃ ns : List Int, ys = ns.map V.int ∧ ns.length = i) ⟨But.refl a H1, W1, [], rfl, rfl⟩ (fun i ys H' hi p => ?_) (fun i ys H' hi p => ?_) (fun ys H' p hp hn => ?_)
    · obtain ⟨_, _, ns, rfl, hl⟩ := p
      rw [List.length_map]
      exact small1000 (by omega)
    · obtain ⟨bi, wi, ns, rfl, hl⟩ := p
      refine ⟨_, rfl, _, _, rfl, rfl, ⟨by decide, by decide, by decide⟩, _, _, rfl, rfl, .inl ⟨by decide, by decide⟩, _, _, rfl, rfl, a, _, rfl, wi, by decide, by decide, fun r' H'' r0' r1' b' w' => ?_⟩
      exact ⟨_, _, rfl, rfl, ⟨by decide, by decide, by decide⟩, _, _, rfl, rfl, nx hi ⟨bi.trans b', w', ns ++ [_], by rw [List.map_append]; rfl, by rw [List.length_append, hl]; rfl⟩⟩
    obtain ⟨bi, wi, ns, rfl, hl⟩ := hp
    rw [Int.toNat_natCast] at hl
    have Sp := same_new hn (.lst (ns.map V.int))
    refine ⟨p, _, rfl, .inl ⟨SqL.of upd_same, fun l hl' => ?_⟩⟩
    have Sl := same_new hl' (.tup (ns.map V.int))
    have bb : But a H (L2.upd H' p (.lst (ns.map V.int))) := (b1.trans bi).trans (But.of_same Sp)
    exact k l ns _ (bb.trans (But.of_same Sl)) ((wi.same Sp).same Sl) (bb.none (wi.same Sp) hl') upd_same hl
  refine ⟨_, rfl, (by decide : 0 ≤ sizeLine), fun p3 hp3 => ?_⟩
  have S3 := same_new hp3 (.lst [])
  have Y3 := Y.same S3
  have tl : Tr (fun _ => True) (L2.upd H p3 (.lst [])) (.ref q) (.list ds) := .lst trivial Y3.at_ ((tb.same S3).mono fun _ _ => trivial)
  have tn : Tr (fun _ => True) (L2.upd H p3 (.lst [])) (.ref p3) (.list []) := .lst trivial upd_same .nil
  refine ⟨_, _, _, _, tl, tn, shaped_boxes g.all, rfl, _, rfl, ?_⟩
  rw [eqv_nil]
  refine ite2 (fun cc => ?_) (fun cc => ?_)
  · exact iteT (any _ _ _ _ _ (But.of_same S3) Y3.w)
  have hne : 0 < ds.length := by cases ds with | nil => exact absurd rfl cc | cons _ _ => simp
  refine ⟨_, rfl, a, _, rfl, Y3.w, by decide, by decide, fun r H4 r0 r1 b4 W4 => ⟨rfl, _, rfl, ?_⟩⟩
  have B4 := (But.of_same S3).trans b4
  have Y4 := Y.but B4 W4
  refine ite2 (fun _ => any _ _ _ _ _ B4 W4) (fun _ => ?_)
  refine ⟨_, rfl, _, rfl, _, rfl, q, bs, rfl, .inl (SqL.of Y4.at_), a, _, rfl, W4, by omega, by omega, fun r2 H5 r20 r21 b5 W5 => ?_⟩
  have B5 := B4.trans b5
  have Y5 := Y.but B5 W5
  have hlt : r2.toNat < bs.length := by omega
  have hat3 := atI_nat (List.getElem?_eq_getElem hlt)
  rw [Int.toNat_of_nonneg r20] at hat3
  obtain ⟨dz, e6, tz⟩ := (tb.butq B5).get (List.getElem?_eq_getElem hlt)
  obtain ⟨fs, rfl, hfl, hfb⟩ := boxD_is (List.all_eq_true.mp g.all _ (List.mem_of_getElem? e6))
  obtain ⟨c, xs, e7, nc, hc, tx⟩ := tz.tupI
  have hxl := tx.length
  rw [e7] at hat3
  refine ⟨q, bs, r2, _, rfl, rfl, SqL.of Y5.at_, hat3, ?_⟩
  refine ⟨(by decide : 0 ≤ sizeLine), fun m hm => ?_⟩
  have Sm := same_new hm (.lst [])
  have hma := Y5.w.ne hm
  have hm0 : H m = none := B5.none W5 hm
  have hcm : c ≠ m := fun e => by rw [e, hm] at hc; cases hc
  refine ⟨_, rfl, c, rfl, ⟨xs, SqT.of (Sm _ _ hc)⟩, ?_⟩
  refine for_tup (xs := xs) (fun i σ H' => ∃ z6 z7 ns, σ = [some (.ref a), some (.ref t), some (.int n), some (.ref q), some (.ref c), some (.ref m), z6, z7] ∧ But a H H' ∧ Well H' a ∧ H' c = some (.tup xs) ∧ TrAll (Nq a m) H' xs fs ∧ H' m = some (.lst (ns.map V.int)) ∧ (ns : List Int).length = i)
    ⟨_, _, [], rfl, B5.trans (But.of_same Sm), W5.same Sm, Sm _ _ hc, ?_, upd_same, rfl⟩ (fun i σ H' hi p => ?_) (fun i x σ H' hx p => ?_) (fun σ H' p => ?_)
  · exact ((L2.TrAll.off hm tx).same Sm).mono fun b z => ⟨z.1.1, z.2⟩
  · obtain ⟨_, _, _, _, _, _, h, _⟩ := p
    exact SqT.of h
  · obtain ⟨z6, z7, ns, rfl, B', W', hc', tx', hm', hl'⟩ := p
    obtain ⟨dx, e1, t1⟩ := tx'.get hx
    obtain ⟨c7, lo, hi7, rfl, nc7, hc7, rfl, lh, l1, l2⟩ := bx_inv t1 (List.all_eq_true.mp hfb _ (List.mem_of_getElem? e1))
    have hi : i < xs.length := (List.getElem?_eq_some_iff.mp hx).1
    refine ⟨c7, _, rfl, SqT.of hc7, rfl, _, _, rfl, _, _, rfl, rfl, ?_⟩
    refine ⟨_, rfl, .inl ⟨rfl, _, SqL.of hm'⟩, ?_⟩
    refine ⟨_, rfl, _, rfl, _, _, rfl, rfl, _, rfl, _, rfl, _, _, rfl, rfl, _, rfl, _, rfl, _, _, rfl, rfl, _, _, rfl, rfl, ⟨by decide, by decide⟩, _, rfl, (by decide : 6 ≤ sizeLine), fun r hr6 => ?_⟩
    have S6 := same_new hr6 (.lst [.int lo, .int (hi7 - 1), .int hi7, .int (lo - 1), .int ((lo + hi7) / 2), .int lo])
    refine ⟨_, rfl, a, _, rfl, W'.same S6, by decide, by decide, fun d H7 d0 d1 b7 W7 => ?_⟩
    have hra := W'.ne hr6
    obtain ⟨val, hv⟩ : ∃ val : Int, atI [V.int lo, V.int (hi7 - 1), V.int hi7, V.int (lo - 1), V.int ((lo + hi7) / 2), V.int lo] d = some (.int val) := by
      have hw : d = 0 ∨ d = 1 ∨ d = 2 ∨ d = 3 ∨ d = 4 ∨ d = 5 := by omega
      rcases hw with rfl | rfl | rfl | rfl | rfl | rfl <;> exact ⟨_, rfl⟩
    have b67 : But a H' H7 := (But.of_same S6).trans b7
    have hm7 := b67 _ _ hma hm'
    refine ⟨r, _, d, _, rfl, rfl, SqL.of (b7 _ _ hra upd_same), hv, m, _, _, rfl, rfl, hm7, ?_, ?_⟩
    · rw [List.length_map]
      exact small1000 (by omega)
    refine ⟨_, _, ns ++ [val], rfl, fun b o hb ho => ?_, ?_, ?_, (tx'.butq b67).grow, ?_, ?_⟩
    · have hbm : b ≠ m := fun e => by rw [e, hm0] at ho; cases ho
      rw [upd_ne hbm]
      exact (B'.trans b67) _ _ hb ho
    · obtain ⟨x, y, hw⟩ := W7
      exact ⟨x, y, by rw [upd_ne (Ne.symm hma)]; exact hw⟩
    · rw [upd_ne hcm]
      exact b67 _ _ nc.1 hc'
    · rw [upd_same, List.map_append]
      rfl
    · rw [List.length_append, hl']
      rfl
  · obtain ⟨z6, z7, ns, rfl, B', W', hc', tx', hm', hl'⟩ := p
    have hml : (ns.map V.int).length = ns.length := List.length_map ..
    refine ⟨_, rfl, m, rfl, ⟨_, SqL.of hm'⟩, ?_⟩
    refine comp_list (xs := ns.map V.int) (fun i zs H'' => H'' = H' ∧ ∃ ms : List Int, zs = ms.map V.int ∧ ms.length = i) ⟨rfl, [], rfl, rfl⟩ (fun i zs H'' hi p => ?_) (fun i x zs H'' hx p => ?_) (fun zs H'' p hp hn => ?_)
    · obtain ⟨rfl, ms, rfl, hl⟩ := p
      refine ⟨SqL.of hm', small1000 ?_⟩
      rw [List.length_map]
      omega
    · obtain ⟨rfl, ms, rfl, hl⟩ := p
      have hi := (List.getElem?_eq_some_iff.mp hx).1
      rw [List.getElem?_map] at hx
      obtain ⟨j, hj, rfl⟩ := Option.map_eq_some_iff.mp hx
      exact ⟨_, _, rfl, rfl, ⟨by decide, by decide, by decide⟩, _, rfl, _, _, rfl, rfl, ⟨by decide, by decide, by decide⟩, _, rfl, _, _, rfl, _, _, rfl, nx hi ⟨rfl, ms ++ [_], by rw [List.map_append]; rfl, by rw [List.length_append, hl]; rfl⟩⟩
    obtain ⟨rfl, ms, rfl, hl⟩ := hp
    have Sp := same_new hn (.lst (ms.map V.int))
    refine ⟨p, _, rfl, .inl ⟨SqL.of upd_same, fun l hl7 => ?_⟩⟩
    have Sl := same_new hl7 (.tup (ms.map V.int))
    have bb : But a H _ := B'.trans (But.of_same Sp)
    exact k l ms _ (bb.trans (But.of_same Sl)) ((W'.same Sp).same Sl) (bb.none (W'.same Sp) hl7) upd_same (by omega)
end
end K03
end
section
set_option Elab.async false
set_option maxRecDepth 10000
set_option linter.all false
namespace K03
open PySem PySem.Spec PyProof.Rows L2 Bc
theorem sc_law_same : FnScope ["found", "due"] ["found", "due"] (defScope s_law_same) := ⟨rfl, rfl, rfl, by decide +kernel, rfl, by decide +kernel, by decide +kernel⟩
section
variable {P : Program} {w : World} {K : PySem.W.Frag} {mg : Str → Option Value} {base : Heap}
theorem ok_same_no {f : Addr} {fd : FuncData} (F : Fun K "_law_same" "_law_same" s_law_same f fd) : FnOk P w K mg base CX0 1 f fd ["found", "due"] (spS 0) :=
  F.ok sc_law_same (fun vs H Q E h => h.elim) (fun cdv A outer s H vs Q E hr h => h.elim)
set_option maxHeartbeats 4000000 in
theorem ok_law_same {f : Addr} {fd : FuncData} {n k : Nat} (F : Fun K "_law_same" "_law_same" s_law_same f fd) (B : Blt mg) (c_law_same : Cal P w K mg base "_law_same" k ["found", "due"] (spS n)) : FnOk P w K mg base CX0 (k + 1) f fd ["found", "due"] (spS (n + 1)) := by
  refine F.ok sc_law_same (fun vs H Q E h => ?_) (fun cdv A outer s H vs Q E hr h => ?_)
  · obtain ⟨N, N', u, v, d, rfl, _⟩ := h
    rfl
  obtain ⟨N, N', u, v, d, rfl, Tu, Tv, hok, q⟩ := h
  refine ⟨_, (@pss_cons _ _ _ _ _ (@ps_if _ _ _ _ _ _ _ _ (pt_val (pe_callB call_isinstTL rfl (B.is "isinstance") bt_isinstance (@pa_cons _ _ _ _ _ (pv 1) (@pa_cons _ _ _ _ _ (@pe_tup _ _ _ _ _ (@pa_cons _ _ _ _ _ (pe_bltn (v := .ty "tuple") rfl (B.is "tuple") bt_tuple rfl) (@pa_cons _ _ _ _ _ (pe_bltn (v := .ty "list") rfl (B.is "list") bt_list rfl) (@pa_nil _) (by rfl)) (by rfl))) (@pa_nil _) (by rfl)) (by rfl)))) (@pss_cons _ _ _ _ _ (@ps_if _ _ _ _ _ _ _ _ (PW.pt (pw_or (pt_cmpR op_ne (pe_callB (call_isinstK (K := K) rfl) rfl (B.is "isinstance") bt_isinstance (@pa_cons _ _ _ _ _ (pv 0) (@pa_cons _ _ _ _ _ (pe_bltn (v := .ty "tuple") rfl (B.is "tuple") bt_tuple rfl) (@pa_nil _) (by rfl)) (by rfl))) (pe_callB (call_isinstK (K := K) rfl) rfl (B.is "isinstance") bt_isinstance (@pa_cons _ _ _ _ _ (pv 1) (@pa_cons _ _ _ _ _ (pe_bltn (v := .ty "tuple") rfl (B.is "tuple") bt_tuple rfl) (@pa_nil _) (by rfl)) (by rfl))) (nomark _)) (pw_or1 (pt_cmpR op_ne (pe_callB (call_isinstK (K := K) rfl) rfl (B.is "isinstance") bt_isinstance (@pa_cons _ _ _ _ _ (pv 0) (@pa_cons _ _ _ _ _ (pe_bltn (v := .ty "list") rfl (B.is "list") bt_list rfl) (@pa_nil _) (by rfl)) (by rfl))) (pe_callB (call_isinstK (K := K) rfl) rfl (B.is "isinstance") bt_isinstance (@pa_cons _ _ _ _ _ (pv 1) (@pa_cons _ _ _ _ _ (pe_bltn (v := .ty "list") rfl (B.is "list") bt_list rfl) (@pa_nil _) (by rfl)) (by rfl))) (nomark _))))) (@pss_one _ _ _ (@ps_ret _ _ _ _ (@pe_bl _ _ _ _))) (@pss_nil _))
      (@pss_cons _ _ _ _ _ (@ps_if _ _ _ _ _ _ _ _ (pt_cmpR op_ne (pe_callB (call_lenK (K := K) rfl) rfl (B.is "len") bt_len (@pa_cons _ _ _ _ _ (pv 0) (@pa_nil _) (by rfl))) (pe_callB (call_lenK (K := K) rfl) rfl (B.is "len") bt_len (@pa_cons _ _ _ _ _ (pv 1) (@pa_nil _) (by rfl))) (nomark _)) (@pss_one _ _ _ (@ps_ret _ _ _ _ (@pe_bl _ _ _ _))) (@pss_nil _))
      (@pss_one _ _ _ (@ps_ret _ _ _ _ (pe_cmpR (op_eqD hr) (pe_comp rfl (CompOk.of (sc := defScope s_law_same) (N := ["found", "due"]) (N2 := ["k", "found", "due"]) (k := 1) (caps := [0, 1]) (by decide +kernel)) (low_name (by decide)) (pi_range1 rfl (B.is "range") (@pa_cons _ _ _ _ _ (pe_callB (call_lenK (K := K) rfl) rfl (B.is "len") bt_len (@pa_cons _ _ _ _ _ (pv 1) (@pa_nil _) (by rfl))) (@pa_nil _) (by rfl))) (fun _ _ _ _ _ => ⟨(pg_name (i := 0) (show List.Nodup (["k", "found", "due"] : List Str) by decide +kernel) rfl (Or.inl rfl)), (pts_one (pt_not (pt_val (pe_callC c_law_same hr (by omega) rfl (@pa_cons _ _ _ _ _ (pe_ix (ix_seqK (K := K) rfl) (pv 1) (pv 0) (fun _ _ => rfl)) (@pa_cons _ _ _ _ _ (pe_ix (ix_seqK (K := K) rfl) (pv 2) (pv 0) (fun _ _ => rfl)) (@pa_nil _) (by rfl)) (by rfl)))))), (pv 0)⟩)) (@pe_lst _ _ _ _ (@pa_nil _)) (nomark _)))))) (@pss_nil _))
      (@pss_cons _ _ _ _ _ (@ps_if _ _ _ _ _ _ _ _ (PW.pt (pw_or (pt_cmpR op_isN (pv 1) (@pe_non _ _ _) (nomark _)) (pw_or1 (pt_val (pe_callB (call_isinstK (K := K) rfl) rfl (B.is "isinstance") bt_isinstance (@pa_cons _ _ _ _ _ (pv 1) (@pa_cons _ _ _ _ _ (pe_bltn (v := .ty "str") rfl (B.is "str") bt_str rfl) (@pa_nil _) (by rfl)) (by rfl))))))) (@pss_one _ _ _ (@ps_ret _ _ _ _ (pe_cmpR op_eq (pv 0) (pv 1) (nomark _)))) (@pss_nil _))
      (@pss_one _ _ _ (@ps_ret _ _ _ _ (pe_and (pe_callB (call_isinstK (K := K) rfl) rfl (B.is "isinstance") bt_isinstance (@pa_cons _ _ _ _ _ (pv 0) (@pa_cons _ _ _ _ _ (pe_bltn (v := .ty "int") rfl (B.is "int") bt_int rfl) (@pa_nil _) (by rfl)) (by rfl))) (pe_and (@pe_not _ _ _ _ (pe_callB (call_isinstK (K := K) rfl) rfl (B.is "isinstance") bt_isinstance (@pa_cons _ _ _ _ _ (pv 0) (@pa_cons _ _ _ _ _ (pe_bltn (v := .ty "bool") rfl (B.is "bool") bt_bool rfl) (@pa_nil _) (by rfl)) (by rfl)))) (pe_one (pe_cmpR op_eq (pv 0) (pv 1) (nomark _))))))))), ?_⟩
  refine ⟨_, rfl, (by decide : 2 ≤ sizeLine), fun p0 hp0 => ?_⟩
  have S0 := same_new hp0 (.tup [.ty "tuple", .ty "list"])
  refine ⟨N', v, d, p0, rfl, upd_same, Tv.same S0, okD_nd hok, _, rfl, ?_⟩
  have Tu0 := Tu.same S0
  have Tv0 := Tv.same S0
  refine ite2 (fun c => ?_) (fun c => ?_)
  · have hs : isSeq d = true := c
    refine ⟨_, rfl, _, _, _, _, rfl, Tu0.ty, kit_tuple d, _, rfl, _, _, _, _, rfl, Tv0.ty, kit_tuple d, rfl, _, rfl, ?_⟩
    refine ite2 (fun c => by simp at c) (fun _ => ?_)
    refine ⟨_, rfl, _, _, _, _, rfl, Tu0.ty, kit_list d, _, rfl, _, _, _, _, rfl, Tv0.ty, kit_list d, rfl, _, rfl, ?_⟩
    refine ite2 (fun c => by simp at c) (fun _ => ?_)
    obtain ⟨p1, xs, ds, rfl, ed, t1, sq1, k1, ix1⟩ := Tr.seqI (K := K) Tu0 hs
    obtain ⟨p2, ys, ds', rfl, ed', t2, sq2, k2, ix2⟩ := Tr.seqI (K := K) Tv0 hs
    have eds : ds' = ds := by
      rcases ed with e | e <;> rcases ed' with e' | e' <;> rw [e] at e' <;> cases e' <;> rfl
    subst eds
    have l1 := t1.length
    have l2 := t2.length
    obtain ⟨m, rfl, l30, hall⟩ := okD_seq hok ed
    refine ⟨_, rfl, p1, xs, rfl, sq1, _, rfl, p2, ys, rfl, sq2, rfl, _, rfl, ?_⟩
    refine ite2 (fun c => by rw [l1, l2] at c; simp at c) (fun _ => ?_)
    refine ⟨_, rfl, p2, ys, rfl, sq2, _, rfl, by omega, by omega, ?_⟩
    refine comp_range (fun i zs H' => Same (L2.upd H p0 (.tup [.ty "tuple", .ty "list"])) H' ∧ zs = []) ⟨Same.refl _, rfl⟩ (fun i zs H' hi p => ?_) (fun i zs H' hi p => ?_) (fun zs H' p pp hp => ?_)
    · obtain ⟨_, rfl⟩ := p
      exact small1000 (by decide)
    · obtain ⟨S1, rfl⟩ := p
      have h1 : i < xs.length := by omega
      have h2 : i < ys.length := by omega
      obtain ⟨d1, e1, tx⟩ := t1.get (List.getElem?_eq_getElem h1)
      obtain ⟨d2, e2, ty⟩ := t2.get (List.getElem?_eq_getElem h2)
      rw [e1] at e2
      cases e2
      have ez : V.int (0 + (i : Int)) = V.int (i : Int) := by rw [Int.zero_add]
      refine ⟨_, rfl, _, rfl, ?_⟩
      rw [ez]
      refine ix1 _ i _ _ S1 (List.getElem?_eq_getElem h1) ?_
      refine ⟨_, rfl, _, rfl, ?_⟩
      refine ix2 _ i _ _ S1 (List.getElem?_eq_getElem h2) ?_
      refine ⟨N, N', _, _, d1, rfl, tx.same S1, ty.same S1, List.all_eq_true.mp hall _ (List.mem_of_getElem? e1), fun H3 S3 => ⟨_, rfl, ?_⟩⟩
      refine ite2 (fun z => by cases z) (fun _ => L2.nx hi ⟨S1.trans S3, rfl⟩)
    · obtain ⟨S1, rfl⟩ := pp
      have Sp := same_new hp (.lst [])
      refine ⟨(by decide : 0 ≤ sizeLine), fun p6 hp6 => ?_⟩
      have S6 := same_new hp6 (.lst [])
      have tl : Tr (fun _ => True) (L2.upd (L2.upd H' p (.lst [])) p6 (.lst [])) (.ref p) (.list []) := .lst trivial (S6 _ _ upd_same) .nil
      have tn : Tr (fun _ => True) (L2.upd (L2.upd H' p (.lst [])) p6 (.lst [])) (.ref p6) (.list []) := .lst trivial upd_same .nil
      exact ⟨_, _, _, _, tl, tn, rfl, rfl, q _ (S0.trans (S1.trans (Sp.trans S6)))⟩
  · obtain ⟨i, rfl⟩ := okD_int hok (Bool.eq_false_iff.mpr c)
    cases (Tr.intv Tu)
    cases (Tr.intv Tv)
    refine ⟨_, rfl, rfl, _, rfl, ?_⟩
    refine ite2 (fun c => by simp at c) (fun _ => ?_)
    refine ⟨_, rfl, _, _, _, false, rfl, .int i, kit_ty (a := "int") (r := false) (by decide +kernel), _, rfl, ?_⟩
    refine ite2 (fun c => by cases c) (fun _ => ?_)
    refine ⟨_, rfl, _, _, _, _, rfl, .int i, kit_int (.int i), _, rfl, ?_⟩
    refine ite2 (fun _ => ?_) (fun c => absurd rfl c)
    refine ⟨_, rfl, _, _, _, _, rfl, .int i, kit_bool (.int i), _, rfl, _, rfl, ?_⟩
    refine ite2 (fun _ => ?_) (fun c => absurd rfl c)
    refine ⟨_, rfl, _, rfl, rfl, ?_⟩
    have e : decide (V.int i = V.int i) = true := by simp
    rw [e]
    exact q _ S0
end
end K03
end
section
set_option Elab.async false
set_option maxRecDepth 10000
set_option linter.all false
namespace K03
open PySem PySem.Spec PyProof.Rows L2 Bc
theorem sc_law_right : FnScope ["well", "heap", "handed", "number", "box", "turn", "spot", "due", "again", "found"] ["well", "heap"] (defScope s_law_right) := ⟨rfl, rfl, rfl, by decide +kernel, rfl, by decide +kernel, by decide +kernel⟩
theorem shaped_heap {n : Nat} {ds : List PyData} (h : ds.all (boxD n) = true) : SeqAt.shaped (.tuple [.int n, .list ds]) = true ∧ PyData.canLay0 (.tuple [.int n, .list ds]) = true := by
  obtain ⟨c, e⟩ := lay_boxes h
  have c2 : PyData.canLay0 (.tuple [.int n, .list ds]) = true := by simp [PyData.canLay0, PyData.canLayAll0, c]
  refine ⟨?_, c2⟩
  unfold SeqAt.shaped
  rw [Bool.and_eq_true, decide_eq_true_eq]
  exact ⟨c2, by simp only [PyData.depth, PyData.depthAll]; omega⟩
theorem ok_ints (ns : List Int) (h : ns.length ≤ 30) : okD 1 (.list (ns.map PyData.int)) = true := by
  show (decide ((ns.map PyData.int).length ≤ 30) && (ns.map PyData.int).all (okD 0)) = true
  rw [List.length_map, decide_eq_true h, List.all_map]
  simp [okD]
section
variable {P : Program} {w : World} {K : PySem.W.Frag} {mg : Str → Option Value} {base : Heap}
def spRight : Sp := fun vs H Q _ => ∃ (a t q : Addr) (bs : List V) (n : Nat) (ds : List PyData), vs = [.ref a, .ref t] ∧ Wq a q bs H ∧ Nq a q t ∧ H t = some (.tup [.int n, .ref q]) ∧ TrAll (Nq a q) H bs ds ∧ Good n ds ∧ ∀ H', But a H H' → Well H' a → Q (.bl true) H'
set_option maxHeartbeats 8000000 in
theorem ok_law_right {f : Addr} {fd : FuncData} (F : Fun K "_law_right" "_law_right" s_law_right f fd) (B : Blt mg) (Be : mg "enumerate" = none) (c_law_same : Cal P w K mg base "_law_same" 3 ["found", "due"] (spS 2)) (c_size_of : Cal P w K mg base "size_of" 6 ["heap", "number"] spSizeOf)
    (c_law_size : Cal P w K mg base "_law_size" 1 ["box"] spBoxSize) (c_law_spot : Cal P w K mg base "_law_spot" 2 ["well", "heap"] spSpot) (c_law_holds : Cal P w K mg base "_law_holds" 1 ["box", "spot"] spHolds)
    (c_boxes_at : Cal P w K mg base "boxes_at" 6 ["heap", "spot"] spBoxesAt) (c_how_often : Cal P w K mg base "how_often" 7 ["heap", "spot"] spHowOften) : FnOk P w K mg base CX0 8 f fd ["well", "heap"] spRight := by
  refine F.ok sc_law_right (fun vs H Q E h => ?_) (fun cdv A outer s H vs Q E hr h => ?_)
  · obtain ⟨a, t, q, bs, n, ds, rfl, _⟩ := h
    rfl
  obtain ⟨a, t, q, bs, n, ds, rfl, Y, nt, ht, tb, g, k⟩ := h
  refine ⟨_, (@pss_cons _ _ _ _ _ (@ps_set _ _ 2 _ _ _ _ sc_law_right.nd rfl (Or.inl rfl) (@pe_tup _ _ _ _ _ (@pa_cons _ _ _ _ _ (pe_ix (ix_tupK (K := K) rfl) (pv 1) (@pe_int _ _ _ _) (fun _ _ => rfl)) (@pa_cons _ _ _ _ _ (pe_callTy (call_listK (K := K) rfl) rfl (B.is "list") bt_list (@pa_cons _ _ _ _ _ (pe_ix (ix_tupK (K := K) rfl) (pv 1) (@pe_int _ _ _ _) (fun _ _ => rfl)) (@pa_nil _) (by rfl))) (@pa_nil _) (by rfl)) (by rfl))) (by rfl) (by first | exact .inl rfl | exact .inr rfl | assumption))
      (@pss_cons _ _ _ _ _ (ps_for PassesOwn.never rfl (pi_enum rfl Be (@pa_cons _ _ _ _ _ (pe_ix (ix_tupK (K := K) rfl) (pv 1) (@pe_int _ _ _ _) (fun _ _ => rfl)) (@pa_nil _) (by rfl))) (pg_tupK (K := K) (n := 2) rfl rfl (pgs_cons (pg_name (i := 3) sc_law_right.nd rfl (Or.inl rfl)) (pgs_cons (pg_name (i := 4) sc_law_right.nd rfl (Or.inl rfl)) pgs_nil))) (@pss_one _ _ _ (@ps_if _ _ _ _ _ _ _ _ (pt_not (pt_val (pe_callC c_law_same hr (by omega) rfl (@pa_cons _ _ _ _ _ (pe_callC c_size_of hr (by omega) rfl (@pa_cons _ _ _ _ _ (pv 2) (@pa_cons _ _ _ _ _ (pv 3) (@pa_nil _) (by rfl)) (by rfl))) (@pa_cons _ _ _ _ _ (pe_callC c_law_size hr (by omega) rfl (@pa_cons _ _ _ _ _ (pv 4) (@pa_nil _) (by rfl))) (@pa_nil _) (by rfl)) (by rfl))))) (@pss_one _ _ _ (@ps_ret _ _ _ _ (@pe_bl _ _ _ _))) (@pss_nil _))))
      (@pss_cons _ _ _ _ _ (ps_for PassesOwn.never rfl (pi_range1 rfl (B.is "range") (@pa_cons _ _ _ _ _ (@pe_int _ _ _ _) (@pa_nil _) (by rfl))) (pg_name (i := 5) sc_law_right.nd rfl (Or.inl rfl)) (@pss_cons _ _ _ _ _ (@ps_set _ _ 6 _ _ _ _ sc_law_right.nd rfl (Or.inr rfl) (pe_callC c_law_spot hr (by omega) rfl (@pa_cons _ _ _ _ _ (pv 0) (@pa_cons _ _ _ _ _ (pv 1) (@pa_nil _) (by rfl)) (by rfl))) (by rfl) (by first | exact .inl rfl | exact .inr rfl | assumption))
      (@pss_cons _ _ _ _ _ (ps_setC (i := 7) rfl sc_law_right.nd rfl (CompOk.of (sc := defScope s_law_right) (N := ["well", "heap", "handed", "number", "box", "turn", "spot", "due", "again", "found"]) (N2 := ["k", "box", "spot"]) (k := 2) (caps := [6]) (by decide +kernel)) (low_two (by decide) (by decide)) (pi_enum rfl Be (@pa_cons _ _ _ _ _ (pe_ix (ix_tupK (K := K) rfl) (pv 1) (@pe_int _ _ _ _) (fun _ _ => rfl)) (@pa_nil _) (by rfl))) (fun _ _ _ _ _ => ⟨(pg_tupK (K := K) (n := 2) rfl rfl (pgs_cons (pg_name (i := 0) (show List.Nodup (["k", "box", "spot"] : List Str) by decide +kernel) rfl (Or.inl rfl)) (pgs_cons (pg_name (i := 1) (show List.Nodup (["k", "box", "spot"] : List Str) by decide +kernel) rfl (Or.inl rfl)) pgs_nil))), (pts_one (pt_val (pe_callC c_law_holds hr (by omega) rfl (@pa_cons _ _ _ _ _ (pv 1) (@pa_cons _ _ _ _ _ (pv 2) (@pa_nil _) (by rfl)) (by rfl))))), (pv 0)⟩))
      (@pss_one _ _ _ (ps_for PassesOwn.never rfl (pi_range1 rfl (B.is "range") (@pa_cons _ _ _ _ _ (@pe_int _ _ _ _) (@pa_nil _) (by rfl))) (pg_name (i := 8) sc_law_right.nd rfl (Or.inl rfl)) (@pss_cons _ _ _ _ _ (@ps_set _ _ 9 _ _ _ _ sc_law_right.nd rfl (Or.inl rfl) (pe_callC c_boxes_at hr (by omega) rfl (@pa_cons _ _ _ _ _ (pv 2) (@pa_cons _ _ _ _ _ (pv 6) (@pa_nil _) (by rfl)) (by rfl))) (by rfl) (by first | exact .inl rfl | exact .inr rfl | assumption))
      (@pss_cons _ _ _ _ _ (@ps_if _ _ _ _ _ _ _ _ (PW.pt (pw_or (pt_not (pt_val (pe_callC c_law_same hr (by omega) rfl (@pa_cons _ _ _ _ _ (pv 9) (@pa_cons _ _ _ _ _ (pv 7) (@pa_nil _) (by rfl)) (by rfl))))) (pw_or (pt_not (pt_val (pe_callC c_law_same hr (by omega) rfl (@pa_cons _ _ _ _ _ (pe_callC c_how_often hr (by omega) rfl (@pa_cons _ _ _ _ _ (pv 2) (@pa_cons _ _ _ _ _ (pv 6) (@pa_nil _) (by rfl)) (by rfl))) (@pa_cons _ _ _ _ _ (pe_callB (call_lenK (K := K) rfl) rfl (B.is "len") bt_len (@pa_cons _ _ _ _ _ (pv 7) (@pa_nil _) (by rfl))) (@pa_nil _) (by rfl)) (by rfl))))) (pw_or1 (pt_cmpR (op_neD hr) (pv 2) (pv 1) (nomark _)))))) (@pss_one _ _ _ (@ps_ret _ _ _ _ (@pe_bl _ _ _ _))) (@pss_nil _))
      (@pss_one _ _ _ (ps_expr (pe_bm PySem.F.plainAttrs_list PySem.F.slot_list_append PySem.F.type_list_append mt_append (pv 9) (@pa_cons _ _ _ _ _ (@pe_int _ _ _ _) (@pa_nil _) (by rfl))))))))))))
      (@pss_one _ _ _ (@ps_ret _ _ _ _ (@pe_bl _ _ _ _)))))), ?_⟩
  have hbl := tb.length
  have most := g.most
  have n1 := g.n1
  have n3 := g.n3
  refine ⟨_, rfl, t, _, 0, _, rfl, rfl, SqT.of ht, rfl, _, rfl, t, _, 1, _, rfl, rfl, SqT.of ht, rfl, q, bs, rfl, .inl (SqL.of Y.at_), fun l hl => ⟨(by decide : 2 ≤ sizeLine), fun hd hhd => ?_⟩⟩
  have Sl := same_new hl (.lst bs)
  have Sh := same_new hhd (.tup [.int n, .ref l])
  have S2 := Sl.trans Sh
  have Y2 := Y.same S2
  have la := Y.w.ne hl
  have ha := (Y.w.same Sl).ne hhd
  have Th : Tr (· ≠ a) (L2.upd (L2.upd H l (.lst bs)) hd (.tup [.int n, .ref l])) (.ref hd) (.tuple [.int n, .list ds]) := .tup ha upd_same (.cons (.int _) (.cons (.lst la (Sh _ _ upd_same) ((tb.same S2).mono fun _ z => z.1)) .nil))
  have Tt : Tr (· ≠ a) (L2.upd (L2.upd H l (.lst bs)) hd (.tup [.int n, .ref l])) (.ref t) (.tuple [.int n, .list ds]) := .tup nt.1 (S2 _ _ ht) (.cons (.int _) (.cons (.lst Y.ne (S2 _ _ Y.at_) ((tb.same S2).mono fun _ z => z.1)) .nil))
  have ht2 := S2 _ _ ht
  have tb2 := tb.same S2
  have k2 : ∀ H', But a (L2.upd (L2.upd H l (.lst bs)) hd (.tup [.int n, .ref l])) H' → Well H' a → Q (.bl true) H' := fun H' b W => k H' ((But.of_same S2).trans b) W
  generalize L2.upd (L2.upd H l (.lst bs)) hd (.tup [.int n, .ref l]) = H2 at *
  obtain ⟨shp, lay0⟩ := shaped_heap g.all
  refine ⟨_, rfl, t, _, 1, _, rfl, rfl, SqT.of ht2, rfl, q, rfl, ⟨bs, SqL.of Y2.at_⟩, ?_⟩
  refine for_enum (xs := bs) (fun i σ H' => ∃ z3 z4 z5 z6 z7 z8 z9, σ = [some (.ref a), some (.ref t), some (.ref hd), z3, z4, z5, z6, z7, z8, z9] ∧ But a H2 H' ∧ Well H' a) ⟨_, _, _, _, _, _, _, rfl, But.refl a _, Y2.w⟩ (fun i σ H' hi p => ?_) (fun i x σ H' r hx p hr' => ?_) (fun σ H' p => ?_)
  · obtain ⟨_, _, _, _, _, _, _, _, b', _⟩ := p
    exact SqL.of (b' _ _ Y2.ne Y2.at_)
  · obtain ⟨z3, z4, z5, z6, z7, z8, z9, rfl, b', W'⟩ := p
    have S4 := same_new hr' (.tup [.int i, x])
    have b4 := b'.trans (But.of_same S4)
    obtain ⟨dx, e1, tx⟩ := (tb2.butq b4).get hx
    obtain ⟨es, rfl, hel, hb⟩ := boxD_is (List.all_eq_true.mp g.all _ (List.mem_of_getElem? e1))
    refine ⟨r, _, rfl, SqT.of upd_same, rfl, _, _, rfl, _, _, rfl, rfl, ?_⟩
    refine ⟨_, rfl, _, rfl, (· ≠ a), _, n, ds, i, _, rfl, Th.but b4, g, e1, fun H5 S5 => ⟨_, rfl, Nq a q, x, es, rfl, tx.same S5, hb, ?_⟩⟩
    refine ⟨fun _ => True, fun _ => True, _, _, .int (sizeD es), rfl, .int _, .int _, rfl, fun H6 S6 => ⟨_, rfl, ?_⟩⟩
    refine ite2 (fun z => by cases z) (fun _ => ?_)
    exact ⟨_, _, _, _, _, _, _, rfl, b4.trans (But.of_same (S5.trans S6)), (W'.same S4).same (S5.trans S6)⟩
  · obtain ⟨z3, z4, z5, z6, z7, z8, z9, rfl, b', W'⟩ := p
    refine ⟨_, rfl, by decide, by decide, ?_⟩
    refine for_range (fun i σ H' => ∃ z5 z6 z7 z8 z9, σ = [some (.ref a), some (.ref t), some (.ref hd), z3, z4, z5, z6, z7, z8, z9] ∧ But a H2 H' ∧ Well H' a) ⟨_, _, _, _, _, rfl, b', W'⟩ (fun i σ H' hi p => ?_) (fun σ H' p => ?_)
    · obtain ⟨z5, z6, z7, z8, z9, rfl, b', W'⟩ := p
      refine ⟨_, rfl, _, rfl, a, t, q, bs, n, ds, rfl, Y2.but b' W', nt, b' _ _ nt.1 ht2, tb2.butq b', g, fun p ns H5 b5 W5 hp hp5 hn => ?_⟩
      have B5 := b'.trans b5
      have hpa : p ≠ a := W'.ne hp
      have Ts : Tr (· ≠ a) H5 (.ref p) (spotD ns) := .tup hpa hp5 (ints_mk ns)
      have Y5 := Y2.but B5 W5
      refine ⟨_, rfl, t, _, 1, _, rfl, rfl, SqT.of (B5 _ _ nt.1 ht2), rfl, q, rfl, ⟨bs, SqL.of Y5.at_⟩, ?_⟩
      refine comp_enum (xs := bs) (fun i zs H' => Same H5 H' ∧ zs = (idxN ds ns i).map V.int) ⟨Same.refl H5, rfl⟩ (fun i zs H' hi pp => ?_) (fun i x zs H' r hx pp hr' => ?_) (fun zs H' r pp hr' => ?_)
      · obtain ⟨S3, rfl⟩ := pp
        refine ⟨SqL.of (S3 _ _ Y5.at_), small1000 ?_⟩
        rw [List.length_map]
        have := idxN_len ds ns i
        omega
      · obtain ⟨S3, rfl⟩ := pp
        have S4 := same_new hr' (.tup [.int i, x])
        have S34 := S3.trans S4
        obtain ⟨dx, e1, tx⟩ := (tb2.butq B5).get hx
        obtain ⟨es, rfl, hel, hb⟩ := boxD_is (List.all_eq_true.mp g.all _ (List.mem_of_getElem? e1))
        have hi : i < bs.length := (List.getElem?_eq_some_iff.mp hx).1
        have es' := idxN_succ (ns := ns) e1
        refine ⟨r, _, rfl, SqT.of upd_same, rfl, _, _, rfl, _, _, rfl, rfl, ?_⟩
        refine ⟨_, rfl, _, rfl, Nq a q, (· ≠ a), _, _, es, ns, rfl, tx.same S34, Ts.same S34, hb, by omega, by omega, fun H3 S5 => ⟨_, rfl, ?_⟩⟩
        refine ite2 (fun cc => ?_) (fun cc => ?_)
        · refine ⟨_, rfl, L2.nx hi ⟨S34.trans S5, ?_⟩⟩
          rw [es', if_pos (show holdsB (.tuple es) ns = true from cc), List.map_append]
          rfl
        · refine L2.nx hi ⟨S34.trans S5, ?_⟩
          rw [es', if_neg (show ¬ holdsB (.tuple es) ns = true from cc), List.append_nil]
      obtain ⟨S3, rfl⟩ := pp
      rw [hbl]
      have Sr := same_new hr' (.lst ((idxN ds ns ds.length).map V.int))
      have S6 := S3.trans Sr
      have W6 := W5.same S6
      have hra := (W5.same S3).ne hr'
      have Tr6 : Tr (· ≠ a) (L2.upd H' r (.lst ((idxN ds ns ds.length).map V.int))) (.ref r) (.list ((idxD ds ns).map PyData.int)) := .lst hra upd_same (ints_mk _)
      have Ts6 := Ts.same S6
      have B6 := B5.trans (But.of_same S6)
      have lix : (idxD ds ns).length ≤ 30 := Nat.le_trans (idxN_len ds ns ds.length) (by omega)
      generalize L2.upd H' r (.lst ((idxN ds ns ds.length).map V.int)) = H6 at *
      refine ⟨_, rfl, by decide, by decide, ?_⟩
      refine for_range (fun i σ H' => ∃ z8 z9, σ = [some (.ref a), some (.ref t), some (.ref hd), z3, z4, some (.int (0 + ((_ : Nat) : Int))), some (.ref p), some (.ref r), z8, z9] ∧ But a H6 H' ∧ Well H' a) ⟨_, _, rfl, But.refl a _, W6⟩ (fun i σ H' hi p => ?_) (fun σ H' p => ?_)
      · obtain ⟨z8, z9, rfl, b7, W7⟩ := p
        have B7 := B6.trans b7
        refine ⟨_, rfl, _, rfl, (· ≠ a), (· ≠ a), _, _, n, ds, ns, rfl, Th.but B7, g, Ts6.but b7, hn, fun p2 H8 S8 hp2 hp8 => ?_⟩
        have W8 := W7.same S8
        have Tf : Tr (· ≠ a) H8 (.ref p2) (.list ((idxD ds ns).map PyData.int)) := .lst (W7.ne hp2) hp8 (ints_mk _)
        have Td := (Tr6.but b7).same S8
        refine ⟨_, rfl, _, rfl, (· ≠ a), (· ≠ a), _, _, _, rfl, Tf, Td, ok_ints _ lix, fun H9 S9 => ⟨_, rfl, ?_⟩⟩
        refine ite2 (fun z => by cases z) (fun _ => ?_)
        have S89 := S8.trans S9
        obtain ⟨r', xs', er, nr', hr9, tr9⟩ := (Td.same S9).lstI
        cases er
        have lx := tr9.length
        rw [List.length_map] at lx
        refine ⟨_, rfl, _, rfl, (· ≠ a), (· ≠ a), _, _, n, ds, ns, rfl, (Th.but B7).same S89, g, (Ts6.but b7).same S89, hn, fun H10 S10 => ?_⟩
        refine ⟨_, rfl, r, xs', rfl, .inl (SqL.of (S10 _ _ hr9)), ?_⟩
        refine ⟨fun _ => True, fun _ => True, _, _, .int (idxD ds ns).length, rfl, .int _, (by rw [lx]; exact .int _), rfl, fun H11 S11 => ⟨_, rfl, ?_⟩⟩
        refine ite2 (fun z => by cases z) (fun _ => ?_)
        have S11' := S89.trans (S10.trans S11)
        refine ⟨_, rfl, _, rfl, _, _, _, _, (Th.but B7).same S11', (Tt.but B7).same S11', shp, shp, _, rfl, ?_⟩
        rw [PySem.SeqAt.eqv_refl _ lay0]
        refine ite2 (fun z => by cases z) (fun _ => ?_)
        have hp11 := (S9.trans (S10.trans S11)) _ _ hp8
        have p2a := W7.ne hp2
        refine ⟨_, rfl, .inl ⟨rfl, _, SqL.of hp11⟩, p2, _, _, rfl, rfl, hp11, ?_, ?_⟩
        · rw [List.length_map]
          exact small1000 (by omega)
        refine ⟨_, _, rfl, fun b o hb ho => ?_, ?_⟩
        · have hbp : b ≠ p2 := fun e => by
            rw [e] at ho
            have := b7 _ _ p2a ho
            rw [this] at hp2
            cases hp2
          rw [upd_ne hbp]
          exact S11' _ _ (b7 _ _ hb ho)
        · obtain ⟨x, y, hw⟩ := W7.same S11'
          exact ⟨x, y, by rw [upd_ne (Ne.symm p2a)]; exact hw⟩
      · obtain ⟨z8, z9, rfl, b7, W7⟩ := p
        exact ⟨_, _, _, _, _, rfl, B6.trans b7, W7⟩
    · obtain ⟨z5, z6, z7, z8, z9, rfl, b', W'⟩ := p
      exact k2 _ b' W'
end
end K03
end
section
set_option Elab.async false
set_option maxRecDepth 10000
set_option linter.all false
namespace K03
open PySem PySem.Spec PyProof.Rows L2 Bc
theorem sc_law_heap : FnScope ["well", "ways", "most", "many", "marks", "boxes", "alike", "k", "box"] ["well", "ways", "most"] (defScope s_law_heap) := ⟨rfl, rfl, rfl, by decide +kernel, rfl, by decide +kernel, by decide +kernel⟩
theorem sc_law_some_heap : FnScope ["well", "ways"] ["well"] (defScope s_law_some_heap) := ⟨rfl, rfl, rfl, by decide +kernel, rfl, by decide +kernel, by decide +kernel⟩
section
variable {P : Program} {w : World} {K : PySem.W.Frag} {mg : Str → Option Value} {base : Heap}
theorem big_bx {m lo hi : Int} (h : (if (if hi < 0 then -hi else hi) > (if lo < 0 then -lo else lo) then (if hi < 0 then -hi else hi) else (if lo < 0 then -lo else lo)) ≤ m) (hm : m ≤ 10 ^ 9) : nr lo = true ∧ nr hi = true := by
  simp only [nr, Bool.and_eq_true, decide_eq_true_eq]
  split at h <;> split at h <;> split at h <;> omega
set_option maxHeartbeats 4000000 in
theorem ok_law_heap {f : Addr} {fd : FuncData} (F : Fun K "_law_heap" "_law_heap" s_law_heap f fd) (B : Blt mg) (c_law_draw : Cal P w K mg base "_law_draw" 1 ["well", "many"] spDraw) (c_law_marks : Cal P w K mg base "_law_marks" 2 ["well", "many"] spMarks)
    (c_law_stretch : Cal P w K mg base "_law_stretch" 2 ["well", "marks"] spLStretch) (c_law_near : Cal P w K mg base "_law_near" 3 ["well", "box", "marks"] spNear) :
    FnOk P w K mg base CX0 4 f fd ["well", "ways", "most"] spMkHeap := by
  refine F.ok sc_law_heap (fun vs H Q E h => ?_) (fun cdv A outer s H vs Q E hr h => ?_)
  · obtain ⟨a, n, most, rfl, _⟩ := h
    rfl
  obtain ⟨a, n, most, rfl, W, n1, n3, m0, m20, k⟩ := h
  refine ⟨_, (@pss_cons _ _ _ _ _ (@ps_set _ _ 3 _ _ _ _ sc_law_heap.nd rfl (Or.inr rfl) (pe_ix (ix_listK (K := K) rfl) (@pe_lst _ _ _ _ (@pa_cons _ _ _ _ _ (pe_callC c_law_draw hr (by omega) rfl (@pa_cons _ _ _ _ _ (pv 0) (@pa_cons _ _ _ _ _ (@pe_op _ _ _ _ _ _ _ _ op_add (pe_callB (call_min2 rfl) rfl (B.is "min") bt_min (@pa_cons _ _ _ _ _ (pv 2) (@pa_cons _ _ _ _ _ (@pe_int _ _ _ _) (@pa_nil _) (by rfl)) (by rfl))) (@pe_int _ _ _ _)) (@pa_nil _) (by rfl)) (by rfl))) (@pa_cons _ _ _ _ _ (pe_callC c_law_draw hr (by omega) rfl (@pa_cons _ _ _ _ _ (pv 0) (@pa_cons _ _ _ _ _ (@pe_op _ _ _ _ _ _ _ _ op_add (pv 2) (@pe_int _ _ _ _)) (@pa_nil _) (by rfl)) (by rfl))) (@pa_cons _ _ _ _ _ (pv 2) (@pa_nil _) (by rfl)) (by rfl)) (by rfl))) (pe_callC c_law_draw hr (by omega) rfl (@pa_cons _ _ _ _ _ (pv 0) (@pa_cons _ _ _ _ _ (@pe_int _ _ _ _) (@pa_nil _) (by rfl)) (by rfl))) (fun _ _ => rfl)) (by rfl) (by first | exact .inl rfl | exact .inr rfl | assumption))
      (@pss_cons _ _ _ _ _ (@ps_set _ _ 4 _ _ _ _ sc_law_heap.nd rfl (Or.inr rfl) (pe_comp rfl (CompOk.of (sc := defScope s_law_heap) (N := ["well", "ways", "most", "many", "marks", "boxes", "alike", "k", "box"]) (N2 := ["way", "well", "many"]) (k := 1) (caps := [0, 3]) (by decide +kernel)) (low_name (by decide)) (pi_range1 rfl (B.is "range") (@pa_cons _ _ _ _ _ (pv 1) (@pa_nil _) (by rfl))) (fun _ _ _ _ _ => ⟨(pg_name (i := 0) (show List.Nodup (["way", "well", "many"] : List Str) by decide +kernel) rfl (Or.inl rfl)), pts_nil, (pe_callC c_law_marks hr (by omega) rfl (@pa_cons _ _ _ _ _ (pv 1) (@pa_cons _ _ _ _ _ (pv 2) (@pa_nil _) (by rfl)) (by rfl)))⟩)) (by rfl) (by first | exact .inl rfl | exact .inr rfl | assumption))
      (@pss_cons _ _ _ _ _ (@ps_set _ _ 5 _ _ _ _ sc_law_heap.nd rfl (Or.inl rfl) (@pe_lst _ _ _ _ (@pa_nil _)) (by rfl) (by first | exact .inl rfl | exact .inr rfl | assumption))
      (@pss_cons _ _ _ _ _ (@ps_set _ _ 6 _ _ _ _ sc_law_heap.nd rfl (Or.inl rfl) (pe_callC c_law_draw hr (by omega) rfl (@pa_cons _ _ _ _ _ (pv 0) (@pa_cons _ _ _ _ _ (@pe_int _ _ _ _) (@pa_nil _) (by rfl)) (by rfl))) (by rfl) (by first | exact .inl rfl | exact .inr rfl | assumption))
      (@pss_cons _ _ _ _ _ (ps_for PassesOwn.never rfl (pi_range1 rfl (B.is "range") (@pa_cons _ _ _ _ _ (pv 3) (@pa_nil _) (by rfl))) (pg_name (i := 7) sc_law_heap.nd rfl (Or.inl rfl)) (@pss_cons _ _ _ _ _ (@ps_set _ _ 8 _ _ _ _ sc_law_heap.nd rfl (Or.inl rfl) (pe_callTy (call_tupleK (K := K) rfl) rfl (B.is "tuple") bt_tuple (@pa_cons _ _ _ _ _ (pe_comp rfl (CompOk.of (sc := defScope s_law_heap) (N := ["well", "ways", "most", "many", "marks", "boxes", "alike", "k", "box"]) (N2 := ["way", "well", "marks"]) (k := 1) (caps := [0, 4]) (by decide +kernel)) (low_name (by decide)) (pi_range1 rfl (B.is "range") (@pa_cons _ _ _ _ _ (pv 1) (@pa_nil _) (by rfl))) (fun _ _ _ _ _ => ⟨(pg_name (i := 0) (show List.Nodup (["way", "well", "marks"] : List Str) by decide +kernel) rfl (Or.inl rfl)), pts_nil, (pe_callC c_law_stretch hr (by omega) rfl (@pa_cons _ _ _ _ _ (pv 1) (@pa_cons _ _ _ _ _ (pe_ix (ix_listK (K := K) rfl) (pv 2) (pv 0) (fun _ _ => rfl)) (@pa_nil _) (by rfl)) (by rfl)))⟩)) (@pa_nil _) (by rfl))) (by rfl) (by first | exact .inl rfl | exact .inr rfl | assumption))
      (@pss_cons _ _ _ _ _ (@ps_if _ _ _ _ _ _ _ _ (PW.pt (pw_and (pt_cmpR (op_neD hr) (pv 5) (@pe_lst _ _ _ _ (@pa_nil _)) (nomark _)) (pw_and1 (pt_cmpR op_lt (pe_callC c_law_draw hr (by omega) rfl (@pa_cons _ _ _ _ _ (pv 0) (@pa_cons _ _ _ _ _ (@pe_int _ _ _ _) (@pa_nil _) (by rfl)) (by rfl))) (pv 6) (nomark _))))) (@pss_one _ _ _ (@ps_set _ _ 8 _ _ _ _ sc_law_heap.nd rfl (Or.inl rfl) (pe_callC c_law_near hr (by omega) rfl (@pa_cons _ _ _ _ _ (pv 0) (@pa_cons _ _ _ _ _ (pe_ix (ix_listK (K := K) rfl) (pv 5) (pe_callC c_law_draw hr (by omega) rfl (@pa_cons _ _ _ _ _ (pv 0) (@pa_cons _ _ _ _ _ (pe_callB (call_lenK (K := K) rfl) rfl (B.is "len") bt_len (@pa_cons _ _ _ _ _ (pv 5) (@pa_nil _) (by rfl))) (@pa_nil _) (by rfl)) (by rfl))) (fun _ _ => rfl)) (@pa_cons _ _ _ _ _ (pv 4) (@pa_nil _) (by rfl)) (by rfl)) (by rfl))) (by rfl) (by first | exact .inl rfl | exact .inr rfl | assumption))) (@pss_nil _))
      (@pss_one _ _ _ (@ps_if _ _ _ _ _ _ _ _ (pt_cmpR op_le (pe_callB (call_maxL rfl (K := K) rfl) rfl (B.is "max") bt_max (@pa_cons _ _ _ _ _ (pe_comp rfl (CompOk.of (sc := defScope s_law_heap) (N := ["well", "ways", "most", "many", "marks", "boxes", "alike", "k", "box"]) (N2 := ["low", "high"]) (k := 2) (caps := []) (by decide +kernel)) (low_two (by decide) (by decide)) (pi_tup (pv 8)) (fun _ _ _ _ _ => ⟨(pg_tupK (K := K) (n := 2) rfl rfl (pgs_cons (pg_name (i := 0) (show List.Nodup (["low", "high"] : List Str) by decide +kernel) rfl (Or.inl rfl)) (pgs_cons (pg_name (i := 1) (show List.Nodup (["low", "high"] : List Str) by decide +kernel) rfl (Or.inl rfl)) pgs_nil))), pts_nil, (pe_callB (call_max2 rfl) rfl (B.is "max") bt_max (@pa_cons _ _ _ _ _ (pe_callB call_abs rfl (B.is "abs") bt_abs (@pa_cons _ _ _ _ _ (pv 0) (@pa_nil _) (by rfl))) (@pa_cons _ _ _ _ _ (pe_callB call_abs rfl (B.is "abs") bt_abs (@pa_cons _ _ _ _ _ (pv 1) (@pa_nil _) (by rfl))) (@pa_nil _) (by rfl)) (by rfl)))⟩)) (@pa_nil _) (by rfl))) (@pe_op _ _ _ _ _ _ _ _ op_pow (@pe_int _ _ _ _) (@pe_int _ _ _ _)) (nomark _)) (@pss_one _ _ _ (ps_expr (pe_bm PySem.F.plainAttrs_list PySem.F.slot_list_append PySem.F.type_list_append mt_append (pv 5) (@pa_cons _ _ _ _ _ (pv 8) (@pa_nil _) (by rfl))))) (@pss_nil _))))))
      (@pss_one _ _ _ (@ps_ret _ _ _ _ (@pe_tup _ _ _ _ _ (@pa_cons _ _ _ _ _ (pv 1) (@pa_cons _ _ _ _ _ (pv 5) (@pa_nil _) (by rfl)) (by rfl)))))))))), ?_⟩
  refine ⟨_, rfl, _, rfl, _, _, rfl, _, _, rfl, rfl, a, _, rfl, W, by split <;> omega, by split <;> omega, fun c1 H1 c10 c11 b1 W1 => ?_⟩
  refine ⟨_, rfl, _, rfl, _, _, rfl, rfl, a, _, rfl, W1, by omega, by omega, fun c2 H2 c20 c21 b2 W2 => ?_⟩
  refine ⟨_, rfl, (by decide : 3 ≤ sizeLine), fun p0 hp0 => ?_⟩
  have S0 := same_new hp0 (.lst [.int c1, .int c2, .int most])
  refine ⟨_, rfl, a, _, rfl, W2.same S0, by decide, by decide, fun c3 H3 c30 c31 b3 W3 => ?_⟩
  have hp0a := W2.ne hp0
  obtain ⟨many, hat, y0, y1⟩ : ∃ many : Int, atI [V.int c1, V.int c2, V.int most] c3 = some (.int many) ∧ 0 ≤ many ∧ many ≤ most := by
    have hc1 : c1 ≤ most := by split at c11 <;> omega
    have hw : c3 = 0 ∨ c3 = 1 ∨ c3 = 2 := by omega
    rcases hw with rfl | rfl | rfl
    · exact ⟨c1, rfl, c10, hc1⟩
    · exact ⟨c2, rfl, c20, by omega⟩
    · exact ⟨most, rfl, m0, by omega⟩
  refine ⟨p0, _, c3, _, rfl, rfl, SqL.of (b3 _ _ hp0a upd_same), hat, ?_⟩
  have B3 := ((b1.trans b2).trans (But.of_same S0)).trans b3
  -- marks
  refine ⟨_, rfl, _, rfl, by omega, by omega, ?_⟩
  refine comp_range (fun i ys H4 => But a H3 H4 ∧ Well H4 a ∧ ys.length = i ∧ ∀ y ∈ ys, MK a H4 y) ⟨But.refl a H3, W3, rfl, fun y hy => by cases hy⟩ (fun i ys H4 hi p => ?_) (fun i ys H4 hi p => ?_) (fun ys H4 m p hm => ?_)
  · rw [p.2.2.1]
    exact small1000 (by omega)
  · obtain ⟨b4, W4, hl4, hy4⟩ := p
    refine ⟨_, rfl, _, rfl, a, _, rfl, W4, by omega, by omega, fun r H5 ms b5 W5 r1 r2 hm => L2.nx hi ⟨b4.trans b5, W5, by rw [List.length_append, hl4]; rfl, fun y hy => ?_⟩⟩
    rcases List.mem_append.mp hy with z | z
    · exact (hy4 y z).but b5
    · exact ⟨r, ms, List.mem_singleton.mp z, W4.ne r1, r2, hm⟩
  obtain ⟨b4, W4, hl4, hy4⟩ := p
  rw [Int.toNat_natCast] at hl4
  have Sm := same_new hm (.lst ys)
  have hma := W4.ne hm
  have W5 := W4.same Sm
  have B5 := (B3.trans b4).trans (But.of_same Sm)
  -- boxes = []
  refine ⟨(by decide : 0 ≤ sizeLine), fun q hq => ?_⟩
  have Sq := same_new hq (.lst [])
  have hqa := W5.ne hq
  have hqm : m ≠ q := fun e => by rw [← e, upd_same] at hq; cases hq
  have hq0 : H q = none := B5.none W5 hq
  have hyq : ∀ y ∈ ys, MK2 a q (L2.upd (L2.upd H4 m (.lst ys)) q (.lst [])) y := fun y hy => by
    obtain ⟨r, ms, e, hra, hr0, hM⟩ := (hy4 y hy).but (But.of_same Sm)
    exact ⟨r, ms, e, ⟨hra, fun z => by rw [z, hq] at hr0; cases hr0⟩, Sq _ _ hr0, hM⟩
  -- alike
  refine ⟨_, rfl, a, _, rfl, W5.same Sq, by decide, by decide, fun al H6 al0 al1 b6 W6 => ?_⟩
  have B6 := (B5.trans (But.of_same Sq)).trans b6
  refine ⟨_, rfl, _, rfl, by omega, by omega, ?_⟩
  refine for_range (fun i σ H7 => ∃ zk zb bs ds, σ = [some (.ref a), some (.int n), some (.int most), some (.int many), some (.ref m), some (.ref q), some (.int al), zk, zb] ∧ But a H H7 ∧ Wq a q bs H7 ∧ H7 m = some (.lst ys) ∧ (∀ y ∈ ys, MK2 a q H7 y) ∧
      TrAll (Nq a q) H7 bs ds ∧ ds.all (boxD n) = true ∧ ds.length ≤ i)
    ⟨_, _, [], [], rfl, B6, ⟨W6, b6 _ _ hqa upd_same, hqa⟩, b6 _ _ hma (Sq _ _ upd_same), fun y hy => (hyq y hy).but b6, .nil, rfl, Nat.le_refl _⟩ (fun i σ H7 hi p => ?_) (fun σ H7 p => ?_)
  · obtain ⟨zk, zb, bs, ds, rfl, B7, Y7, hm7, hy7, tb7, hds, hdl⟩ := p
    refine ⟨_, rfl, _, rfl, by omega, by omega, ?_⟩
    refine comp_range (fun j zs H8 => But a H7 H8 ∧ Well H8 a ∧ ∃ es, TrAll (Nq a q) H8 zs es ∧ es.all bx = true ∧ es.length = j) ⟨But.refl a _, Y7.w, [], .nil, rfl, rfl⟩ (fun j zs H8 hj p => ?_) (fun j zs H8 hj p => ?_) (fun zs H8 t p ht => ?_)
    · obtain ⟨_, _, es, te, _, hel⟩ := p
      rw [te.length, hel]
      exact small1000 (by omega)
    · obtain ⟨b8, W8, es, te, hes, hel⟩ := p
      have hlt : j < ys.length := by omega
      obtain ⟨r, ms, e5, nrr, hrr, hM⟩ := (hy7 _ (List.getElem_mem hlt)).but b8
      have hat2 := atI_nat (List.getElem?_eq_getElem hlt)
      rw [e5] at hat2
      refine ⟨_, rfl, _, rfl, _, rfl, m, ys, _, _, rfl, rfl, SqL.of (b8 _ _ hma hm7), (by rw [Int.zero_add]; exact hat2), a, r, ms, rfl, W8, nrr.1, hrr, hM, fun p9 H9 lo hi b9 W9 h9 h9a h9' lohi nl nh => L2.nx hj ⟨b8.trans b9, W9, es ++ [.tuple [.int lo, .int hi]], ?_, ?_, ?_⟩⟩
      · exact (te.butq b9).append (.cons (.tup ((Y7.but b8 W8).new h9) h9' (.cons (.int lo) (.cons (.int hi) .nil))) .nil)
      · refine app_all hes ?_
        show ((nr lo && nr hi && decide (lo < hi)) && true) = true
        rw [nr_of nl, nr_of nh, decide_eq_true lohi]
        rfl
      · rw [List.length_append, hel]
        rfl
    obtain ⟨b8, W8, es, te, hes, hel⟩ := p
    rw [Int.toNat_natCast] at hel
    have St := same_new ht (.lst zs)
    refine ⟨t, zs, rfl, .inl ⟨SqL.of upd_same, fun b hb => ?_⟩⟩
    have Sb := same_new hb (.tup zs)
    have b9 : But a H7 _ := b8.trans (But.of_same (St.trans Sb))
    have W9 : Well _ a := (W8.same St).same Sb
    have Y9 := Y7.but b9 W9
    have Tb : Tr (Nq a q) (L2.upd (L2.upd H8 t (.lst zs)) b (.tup zs)) (.ref b) (.tuple es) := .tup (((Y7.but b8 W8).same St).new hb) upd_same ((te.same St).same Sb)
    dsimp only [gName]
    refine seq_rest (fun σ' H' => ∃ v es, σ' = [some (.ref a), some (.int n), some (.int most), some (.int many), some (.ref m), some (.ref q), some (.int al), some (.int (0 + i)), some v] ∧ But a H7 H' ∧ Well H' a ∧ Tr (Nq a q) H' v (.tuple es) ∧ es.all isStretch = true ∧ es.length = n) (fun σ' H' p => ?_) (fun rest => ?_)
    · obtain ⟨v, fs, rfl, b10, W10, Tv, hfs, hfl⟩ := p
      have Y10 := Y7.but b10 W10
      obtain ⟨c, xs, rfl, nc, hc, tx⟩ := Tv.tupI
      have hxl := tx.length
      refine ⟨_, rfl, c, rfl, ⟨xs, SqT.of hc⟩, ?_⟩
      refine comp_tup (xs := xs) (fun j zs H11 => H11 = H' ∧ ∃ ns : List Int, zs = ns.map V.int ∧ ns.length = j ∧ ∀ l lo hi, l < j → fs[l]? = some (.tuple [.int lo, .int hi]) → (if (if hi < 0 then -hi else hi) > (if lo < 0 then -lo else lo) then (if hi < 0 then -hi else hi) else (if lo < 0 then -lo else lo)) ∈ ns)
        ⟨rfl, [], rfl, rfl, fun l lo hi h => by omega⟩ (fun j zs H11 hj p => ?_) (fun j x zs H11 hx p => ?_) (fun zs H11 p hp hn => ?_)
      · obtain ⟨rfl, ns, rfl, hnl, _⟩ := p
        refine ⟨SqT.of hc, ?_⟩
        rw [List.length_map, hnl]
        exact small1000 (by omega)
      · obtain ⟨rfl, ns, rfl, hnl, hns⟩ := p
        obtain ⟨dz, e6, tz⟩ := tx.get hx
        obtain ⟨c7, lo7, hi7, rfl, nc7, hc7, rfl, lohi7⟩ := str_inv tz (List.all_eq_true.mp hfs _ (List.mem_of_getElem? e6))
        refine ⟨c7, _, rfl, SqT.of hc7, rfl, _, _, rfl, _, _, rfl, rfl, ?_⟩
        refine ⟨_, rfl, _, rfl, _, rfl, _, rfl, _, _, rfl, L2.nx (List.getElem?_eq_some_iff.mp hx).1 ⟨rfl, ns ++ [_], by rw [List.map_append]; rfl, by rw [List.length_append, hnl]; rfl, fun l lo hi hlj hl => ?_⟩⟩
        by_cases z : l = j
        · rw [z, e6] at hl
          cases hl
          exact List.mem_append.mpr (.inr (List.mem_singleton.mpr rfl))
        · exact List.mem_append.mpr (.inl (hns l lo hi (by omega) hl))
      obtain ⟨rfl, ns, rfl, hnl, hns⟩ := hp
      have Sp := same_new hn (.lst (ns.map V.int))
      refine ⟨p, ns, rfl, SqL.of upd_same, fun z => by rw [z] at hnl; simp at hnl; omega, fun big hbig hall => ?_⟩
      refine ⟨_, _, rfl, rfl, ⟨by decide, by decide, by decide⟩, _, _, rfl, rfl, _, rfl, ?_⟩
      have e9 : (10 : Int) ^ (Int.toNat 9) = 10 ^ 9 := by decide
      refine ite2 (fun cc => ?_) (fun cc => ?_)
      · have hbg : big ≤ 10 ^ 9 := by rw [← e9]; exact of_decide_eq_true cc
        have Y12 := Y10.same Sp
        have hfb : fs.all bx = true := by
          rw [List.all_eq_true]
          intro d hd
          obtain ⟨l, hl, rfl⟩ := List.getElem_of_mem hd
          have hl' := List.getElem?_eq_getElem hl
          have hs := List.all_eq_true.mp hfs _ hd
          obtain ⟨lo, hi, e7, lh⟩ : ∃ lo hi, fs[l] = .tuple [.int lo, .int hi] ∧ lo < hi := by
            unfold isStretch at hs
            split at hs
            · rename_i lo hi hx; exact ⟨lo, hi, hx, of_decide_eq_true hs⟩
            · cases hs
          rw [e7] at hl' ⊢
          obtain ⟨z1, z2⟩ := big_bx (hall _ (hns l lo hi (by omega) hl')) hbg
          show (nr lo && nr hi && decide (lo < hi)) = true
          rw [z1, z2, decide_eq_true lh]
          rfl
        refine ⟨_, rfl, .inl ⟨rfl, bs, SqL.of Y12.at_⟩, _, rfl, q, bs, _, rfl, rfl, Y12.at_, ?_, ?_⟩
        · rw [tb7.length]
          exact small1000 (by omega)
        have b13 : But a H7 _ := b10.trans (But.of_same Sp)
        refine ⟨_, _, bs ++ [.ref c], ds ++ [.tuple fs], rfl, fun x o hx ho => ?_, ⟨?_, upd_same, hqa⟩, ?_, fun y hy => ((hy7 y hy).but b13).grow, ?_, ?_, ?_⟩
        · have hxq : x ≠ q := fun e => by rw [e, hq0] at ho; cases ho
          rw [upd_ne hxq]
          exact (B7.trans b13) _ _ hx ho
        · obtain ⟨x, y, hw⟩ := Y12.w
          exact ⟨x, y, by rw [upd_ne (Ne.symm hqa)]; exact hw⟩
        · rw [upd_ne hqm]
          exact b13 _ _ hma hm7
        · exact ((tb7.butq b13).append (.cons (Tv.same Sp) .nil)).grow
        · exact app_all hds (by rw [List.all_cons, boxD_mk hfl hfb]; rfl)
        · rw [List.length_append]
          show _ + 1 ≤ _
          omega
      · exact ⟨_, _, bs, ds, rfl, B7.trans (b10.trans (But.of_same Sp)), Y10.same Sp, (b10.trans (But.of_same Sp)) _ _ hma hm7, fun y hy => ((hy7 y hy).but b10).but (But.of_same Sp), (tb7.butq b10).same Sp, hds, by omega⟩
    · have skip : ∀ H', But a H7 H' → Well H' a → Tr (Nq a q) H' (.ref b) (.tuple es) → _ := fun H' b' W' T' => rest _ H' ⟨.ref b, es, rfl, b', W', T', all_imp hes fun d z => (bx_all z).2.2.2.2, hel⟩
      refine ⟨_, rfl, (by decide : 0 ≤ sizeLine), fun p3 hp3 => ?_⟩
      have S3 := same_new hp3 (.lst [])
      have Y13 := Y9.same S3
      have tl : Tr (fun _ => True) (L2.upd (L2.upd (L2.upd H8 t (.lst zs)) b (.tup zs)) p3 (.lst [])) (.ref q) (.list ds) := .lst trivial Y13.at_ (((tb7.butq b9).same S3).mono fun _ _ => trivial)
      have tn : Tr (fun _ => True) _ (.ref p3) (.list []) := .lst trivial (upd_same (H := L2.upd (L2.upd H8 t (.lst zs)) b (.tup zs)) (o := .lst [])) .nil
      refine ⟨_, _, _, _, tl, tn, shaped_boxes hds, rfl, _, rfl, ?_⟩
      rw [eqv_nil]
      have b13 : But a H7 _ := b9.trans (But.of_same S3)
      refine ite2 (fun cc => ?_) (fun cc => ?_)
      · have hne : 0 < ds.length := by cases ds with | nil => cases cc | cons _ _ => simp
        have hbl := tb7.length
        refine ⟨_, rfl, a, _, rfl, Y13.w, by decide, by decide, fun r H14 r0 r1 b14 W14 => ⟨_, rfl, _, _, rfl, rfl, _, rfl, ?_⟩⟩
        have Y14 := Y13.but b14 W14
        refine ite2 (fun _ => ?_) (fun _ => ?_)
        · refine ⟨_, rfl, _, rfl, _, rfl, _, rfl, q, bs, rfl, .inl (SqL.of Y14.at_), a, _, rfl, W14, by omega, by omega, fun r2 H15 r20 r21 b15 W15 => ?_⟩
          have Y15 := Y14.but b15 W15
          have hlt : r2.toNat < bs.length := by omega
          have hat3 := atI_nat (List.getElem?_eq_getElem hlt)
          rw [Int.toNat_of_nonneg r20] at hat3
          have b16 : But a H7 H15 := (b13.trans b14).trans b15
          obtain ⟨dz, e6, tz⟩ := (tb7.butq b16).get (List.getElem?_eq_getElem hlt)
          obtain ⟨fs, rfl, hfl, hfb⟩ := boxD_is (List.all_eq_true.mp hds _ (List.mem_of_getElem? e6))
          obtain ⟨c, xs, e7, nc, hc, tx⟩ := tz.tupI
          rw [e7] at hat3
          refine ⟨q, bs, r2, _, rfl, rfl, SqL.of Y15.at_, hat3, _, rfl, ?_⟩
          refine ⟨a, q, c, m, bs, ys, fs, rfl, Y15, .tup nc hc tx, hfb, by omega, by omega, ⟨hma, hqm⟩, b16 _ _ hma hm7, by omega, fun y hy => (hy7 y hy).but b16, fun v gs H17 b17 W17 Tg hg hgl => ?_⟩
          exact rest _ _ ⟨v, gs, rfl, b16.trans b17, W17, Tg, hg, by omega⟩
        · exact skip _ (b13.trans b14) W14 ((Tb.same S3).butq b14)
      · exact iteF (skip _ b13 Y13.w (Tb.same S3))
  · obtain ⟨zk, zb, bs, ds, rfl, B7, Y7, hm7, hy7, tb7, hds, hdl⟩ := p
    refine ⟨_, rfl, _, rfl, (by decide : 2 ≤ sizeLine), fun t ht => ?_⟩
    have St := same_new ht (.tup [.int n, .ref q])
    exact k t q bs ds _ (B7.trans (But.of_same St)) (Y7.same St) hq0 (B7.none Y7.w ht) (Y7.new ht) upd_same (tb7.same St) (by omega) hds
theorem ok_law_some_heap {f : Addr} {fd : FuncData} (F : Fun K "_law_some_heap" "_law_some_heap" s_law_some_heap f fd) (B : Blt mg) (c_law_draw : Cal P w K mg base "_law_draw" 1 ["well", "many"] spDraw) (c_law_heap : Cal P w K mg base "_law_heap" 4 ["well", "ways", "most"] spMkHeap) :
    FnOk P w K mg base CX0 5 f fd ["well"] spSome := by
  refine F.ok sc_law_some_heap (fun vs H Q E h => ?_) (fun cdv A outer s H vs Q E hr h => ?_)
  · obtain ⟨a, rfl, _⟩ := h
    rfl
  obtain ⟨a, rfl, W, k⟩ := h
  refine ⟨_, (@pss_cons _ _ _ _ _ (@ps_set _ _ 1 _ _ _ _ sc_law_some_heap.nd rfl (Or.inl rfl) (@pe_op _ _ _ _ _ _ _ _ op_add (@pe_int _ _ _ _) (pe_callC c_law_draw hr (by omega) rfl (@pa_cons _ _ _ _ _ (pv 0) (@pa_cons _ _ _ _ _ (@pe_int _ _ _ _) (@pa_nil _) (by rfl)) (by rfl)))) (by rfl) (by first | exact .inl rfl | exact .inr rfl | assumption))
      (@pss_one _ _ _ (@ps_ret _ _ _ _ (pe_callC c_law_heap hr (by omega) rfl (@pa_cons _ _ _ _ _ (pv 0) (@pa_cons _ _ _ _ _ (pv 1) (@pa_cons _ _ _ _ _ (pe_ix (ix_listK (K := K) rfl) (@pe_lst _ _ _ _ (@pa_cons _ _ _ _ _ (@pe_int _ _ _ _) (@pa_cons _ _ _ _ _ (@pe_int _ _ _ _) (@pa_cons _ _ _ _ _ (@pe_int _ _ _ _) (@pa_cons _ _ _ _ _ (@pe_int _ _ _ _) (@pa_nil _) (by rfl)) (by rfl)) (by rfl)) (by rfl))) (pv 1) (fun _ _ => rfl)) (@pa_nil _) (by rfl)) (by rfl)) (by rfl)))))), ?_⟩
  refine ⟨_, rfl, a, _, rfl, W, by decide, by decide, fun r H1 r0 r1 b1 W1 => ⟨_, _, rfl, rfl, ?_⟩⟩
  obtain ⟨n, hn, n1, n3⟩ : ∃ n : Nat, (1 : Int) + r = n ∧ 1 ≤ n ∧ n ≤ 3 := ⟨(1 + r).toNat, by omega, by omega, by omega⟩
  show gName 1 (V.int (1 + r)) _ _ _
  rw [hn]
  have hat : atI [V.int 0, V.int 20, V.int 10, V.int 6] (n : Int) = some (.int (mostOf (.int n) : Int)) := by
    have hw : n = 1 ∨ n = 2 ∨ n = 3 := by omega
    rcases hw with rfl | rfl | rfl <;> rfl
  have hm : mostOf (.int n) ≤ 20 := by
    have hw : n = 1 ∨ n = 2 ∨ n = 3 := by omega
    rcases hw with rfl | rfl | rfl <;> decide
  refine ⟨_, rfl, _, rfl, (by decide : 4 ≤ sizeLine), fun p hp => ?_⟩
  have Sp := same_new hp (.lst [.int 0, .int 20, .int 10, .int 6])
  refine ⟨_, rfl, p, _, _, _, rfl, rfl, SqL.of upd_same, hat, a, n, _, rfl, W1.same Sp, n1, n3, by omega, by omega, fun t q bs ds H' b' Y' hq ht nt ht' tb hl hd => ?_⟩
  have b2 : But a H _ := b1.trans (But.of_same Sp)
  exact k n t q bs ds H' n1 n3 (b2.trans b') Y' (b2.none (W1.same Sp) hq) (b2.none (W1.same Sp) ht) nt ht' tb (by omega) hd
end
end K03
end
section
set_option Elab.async false
set_option maxRecDepth 10000
set_option linter.all false
namespace K03
open PySem PySem.Spec PyProof.Rows L2 Bc
theorem sc_law : FnScope ["script", "cell", "well", "heap"] ["script"] (defScope s_law) := ⟨rfl, rfl, rfl, by decide +kernel, rfl, by decide +kernel, by decide +kernel⟩
theorem tr_erase {N : Addr → Prop} {H : Hp} : ∀ {xs : List V} {ds : List PyData} (k : Nat), TrAll N H xs ds → TrAll N H (xs.eraseIdx k) (ds.eraseIdx k)
  | _, _, _, .nil => by simp only [List.eraseIdx_nil]; exact .nil
  | _, _, 0, .cons r t => by simp only [List.eraseIdx_cons_zero]; exact t
  | _, _, k + 1, .cons r t => by simp only [List.eraseIdx_cons_succ]; exact .cons r (tr_erase k t)
theorem good_erase {n : Nat} {ds : List PyData} (g : Good n ds) (k : Nat) : Good n (ds.eraseIdx k) :=
  ⟨g.n1, g.n3, Nat.le_trans (by rw [List.length_eraseIdx]; split <;> omega) g.le, List.all_eq_true.mpr fun x hx => List.all_eq_true.mp g.all x (List.mem_of_mem_eraseIdx hx)⟩
theorem cut8 (xs : List V) : (cutV xs none (some 8)).length ≤ 8 := by
  unfold cutV
  rw [List.length_take, List.length_drop]
  have : HT.sIx xs.length xs.length (some 8) ≤ 8 := by
    simp only [HT.sIx]
    split <;> omega
  omega
section
variable {P : Program} {w : World} {K : PySem.W.Frag} {mg : Str → Option Value} {base : Heap}
def spLaw (K : PySem.W.Frag) : Sp := fun vs H Q _ => ∃ (l : Addr) (ns : List Int), vs = [.ref l] ∧ SqL K H l (ns.map V.int) ∧ ∀ H', Q (.bl true) H'
set_option maxHeartbeats 8000000 in
theorem ok_law {f : Addr} {fd : FuncData} (F : Fun K "law" "law" s_law f fd) (B : Blt mg) (c_law_well : Cal P w K mg base "_law_well" 1 ["cell"] spWell) (c_law_draw : Cal P w K mg base "_law_draw" 1 ["well", "many"] spDraw) (c_law_some_heap : Cal P w K mg base "_law_some_heap" 5 ["well"] spSome)
    (c_law_right : Cal P w K mg base "_law_right" 8 ["well", "heap"] spRight) (c_size_of : Cal P w K mg base "size_of" 6 ["heap", "number"] spSizeOf) (c_boxes_at : Cal P w K mg base "boxes_at" 6 ["heap", "spot"] spBoxesAt) : FnOk P w K mg base CX0 9 f fd ["script"] (spLaw K) := by
  refine F.ok sc_law (fun vs H Q E h => ?_) (fun cdv A outer s H vs Q E hr h => ?_)
  · obtain ⟨l, ns, rfl, _⟩ := h
    rfl
  obtain ⟨l, ns, rfl, hl, k⟩ := h
  refine ⟨_, (@pss_cons _ _ _ _ _ (ps_for PassesOwn.never rfl (pi_list (@pe_op _ _ _ _ _ _ _ _ op_cat (@pe_lst _ _ _ _ (@pa_cons _ _ _ _ _ (@pe_int _ _ _ _) (@pa_cons _ _ _ _ _ (@pe_int _ _ _ _) (@pa_nil _) (by rfl)) (by rfl))) (@pe_slice _ _ _ _ _ _ _ _ _ _ (sl_listK (K := K) rfl) (pv 0) (@po_none _) (@po_some _ _ _ (@pe_int _ _ _ _))))) (pg_name (i := 1) sc_law.nd rfl (Or.inl rfl)) (@pss_cons _ _ _ _ _ (@ps_set _ _ 2 _ _ _ _ sc_law.nd rfl (Or.inl rfl) (pe_callC c_law_well hr (by omega) rfl (@pa_cons _ _ _ _ _ (pv 1) (@pa_nil _) (by rfl))) (by rfl) (by first | exact .inl rfl | exact .inr rfl | assumption))
      (@pss_cons _ _ _ _ _ (@ps_set _ _ 3 _ _ _ _ sc_law.nd rfl (Or.inl rfl) (pe_callC c_law_some_heap hr (by omega) rfl (@pa_cons _ _ _ _ _ (pv 2) (@pa_nil _) (by rfl))) (by rfl) (by first | exact .inl rfl | exact .inr rfl | assumption))
      (@pss_cons _ _ _ _ _ (@ps_if _ _ _ _ _ _ _ _ (pt_not (pt_val (pe_callC c_law_right hr (by omega) rfl (@pa_cons _ _ _ _ _ (pv 2) (@pa_cons _ _ _ _ _ (pv 3) (@pa_nil _) (by rfl)) (by rfl))))) (@pss_one _ _ _ (@ps_ret _ _ _ _ (@pe_bl _ _ _ _))) (@pss_nil _))
      (@pss_one _ _ _ (@ps_if _ _ _ _ _ _ _ _ (pt_cmpR (op_neD hr) (pe_ix (ix_tupK (K := K) rfl) (pv 3) (@pe_int _ _ _ _) (fun _ _ => rfl)) (@pe_lst _ _ _ _ (@pa_nil _)) (nomark _)) (@pss_cons _ _ _ _ _ (ps_expr (pe_bm PySem.F.plainAttrs_list PySem.F.slot_list_pop PySem.F.type_list_pop mt_popAt (pe_ix (ix_tupK (K := K) rfl) (pv 3) (@pe_int _ _ _ _) (fun _ _ => rfl)) (@pa_cons _ _ _ _ _ (pe_callC c_law_draw hr (by omega) rfl (@pa_cons _ _ _ _ _ (pv 2) (@pa_cons _ _ _ _ _ (pe_callB (call_lenK (K := K) rfl) rfl (B.is "len") bt_len (@pa_cons _ _ _ _ _ (pe_ix (ix_tupK (K := K) rfl) (pv 3) (@pe_int _ _ _ _) (fun _ _ => rfl)) (@pa_nil _) (by rfl))) (@pa_nil _) (by rfl)) (by rfl))) (@pa_nil _) (by rfl))))
      (@pss_one _ _ _ (@ps_if _ _ _ _ _ _ _ _ (pt_not (pt_val (pe_callC c_law_right hr (by omega) rfl (@pa_cons _ _ _ _ _ (pv 2) (@pa_cons _ _ _ _ _ (pv 3) (@pa_nil _) (by rfl)) (by rfl))))) (@pss_one _ _ _ (@ps_ret _ _ _ _ (@pe_bl _ _ _ _))) (@pss_nil _)))) (@pss_nil _)))))))
      (@pss_one _ _ _ (@ps_ret _ _ _ _ (pe_and (pe_cmpR op_eq (pe_callC c_size_of hr (by omega) rfl (@pa_cons _ _ _ _ _ (@pe_tup _ _ _ _ _ (@pa_cons _ _ _ _ _ (@pe_int _ _ _ _) (@pa_cons _ _ _ _ _ (@pe_lst _ _ _ _ (@pa_cons _ _ _ _ _ (@pe_tup _ _ _ _ _ (@pa_cons _ _ _ _ _ (@pe_tup _ _ _ _ _ (@pa_cons _ _ _ _ _ (@pe_int _ _ _ _) (@pa_cons _ _ _ _ _ (@pe_int _ _ _ _) (@pa_nil _) (by rfl)) (by rfl))) (@pa_cons _ _ _ _ _ (@pe_tup _ _ _ _ _ (@pa_cons _ _ _ _ _ (@pe_un _ _ _ _ _ _ un_neg (@pe_int _ _ _ _)) (@pa_cons _ _ _ _ _ (@pe_int _ _ _ _) (@pa_nil _) (by rfl)) (by rfl))) (@pa_nil _) (by rfl)) (by rfl))) (@pa_nil _) (by rfl))) (@pa_nil _) (by rfl)) (by rfl))) (@pa_cons _ _ _ _ _ (@pe_int _ _ _ _) (@pa_nil _) (by rfl)) (by rfl))) (@pe_int _ _ _ _) (nomark _)) (pe_one (pe_cmpR (op_eqD hr) (pe_callC c_boxes_at hr (by omega) rfl (@pa_cons _ _ _ _ _ (@pe_tup _ _ _ _ _ (@pa_cons _ _ _ _ _ (@pe_int _ _ _ _) (@pa_cons _ _ _ _ _ (@pe_lst _ _ _ _ (@pa_cons _ _ _ _ _ (@pe_tup _ _ _ _ _ (@pa_cons _ _ _ _ _ (@pe_tup _ _ _ _ _ (@pa_cons _ _ _ _ _ (@pe_int _ _ _ _) (@pa_cons _ _ _ _ _ (@pe_int _ _ _ _) (@pa_nil _) (by rfl)) (by rfl))) (@pa_nil _) (by rfl))) (@pa_cons _ _ _ _ _ (@pe_tup _ _ _ _ _ (@pa_cons _ _ _ _ _ (@pe_tup _ _ _ _ _ (@pa_cons _ _ _ _ _ (@pe_int _ _ _ _) (@pa_cons _ _ _ _ _ (@pe_int _ _ _ _) (@pa_nil _) (by rfl)) (by rfl))) (@pa_nil _) (by rfl))) (@pa_nil _) (by rfl)) (by rfl))) (@pa_nil _) (by rfl)) (by rfl))) (@pa_cons _ _ _ _ _ (@pe_tup _ _ _ _ _ (@pa_cons _ _ _ _ _ (@pe_int _ _ _ _) (@pa_nil _) (by rfl))) (@pa_nil _) (by rfl)) (by rfl))) (@pe_lst _ _ _ _ (@pa_cons _ _ _ _ _ (@pe_int _ _ _ _) (@pa_cons _ _ _ _ _ (@pe_int _ _ _ _) (@pa_nil _) (by rfl)) (by rfl))) (nomark _))))))), ?_⟩
  refine ⟨(by decide : 2 ≤ sizeLine), fun p1 hp1 => ⟨_, rfl, 8, rfl, l, _, rfl, (same_new hp1 _).seq hl, fun p2 hp2 => ?_⟩⟩
  refine ⟨p1, p2, _, _, rfl, rfl, same_new hp2 _ _ _ upd_same, upd_same, ?_, fun p3 hp3 => ?_⟩
  · refine Nat.le_of_lt (small1000 ?_)
    have := cut8 (ns.map V.int)
    show 2 + _ ≤ 1000
    omega
  refine ⟨p3, rfl, ⟨_, SqL.of upd_same⟩, ?_⟩
  have hints : ∀ x ∈ [V.int 0, V.int 5] ++ cutV (ns.map V.int) none (some 8), ∃ c, x = V.int c := fun x hx => by
    rcases List.mem_append.mp hx with z | z
    · simp only [List.mem_cons, List.not_mem_nil, or_false] at z
      rcases z with z | z
      · exact ⟨_, z⟩
      · exact ⟨_, z⟩
    · exact cut_ints z
  generalize hcs : [V.int 0, V.int 5] ++ cutV (ns.map V.int) none (some 8) = cs at hints
  refine for_list (xs := cs) (fun i σ H' => ∃ z1 z2 z3, σ = [some (.ref l), z1, z2, z3] ∧ H' p3 = some (.lst cs)) ⟨_, _, _, rfl, upd_same⟩ (fun i σ H' hi p => ?_) (fun i x σ H' hx p => ?_) (fun σ H' p => ?_)
  · obtain ⟨_, _, _, _, h⟩ := p
    exact SqL.of h
  · obtain ⟨z1, z2, z3, rfl, h3⟩ := p
    obtain ⟨c, rfl⟩ := hints x (List.mem_of_getElem? hx)
    clear hx hcs
    refine ⟨_, rfl, c, rfl, fun a x0 y0 ha => ?_⟩
    have W1 : Well _ a := ⟨x0, y0, upd_same (H := H')⟩
    have h3a : p3 ≠ a := ne_of_none h3 ha
    have h31 := same_new ha (.lst [.int x0, .int y0]) _ _ h3
    refine ⟨_, rfl, a, rfl, W1, fun n t q bs ds H2 n1 n3 b2 Y2 hq ht nt ht' tb hle hd => ?_⟩
    have h32 := b2 _ _ h3a h31
    have h3q : p3 ≠ q := fun e => by rw [← e, h31] at hq; cases hq
    have g : Good n ds := ⟨n1, n3, hle, hd⟩
    have hbl := tb.length
    refine ⟨_, rfl, _, rfl, a, t, q, bs, n, ds, rfl, Y2, nt, ht', tb, g, fun H3 b3 W3 => ⟨_, rfl, ?_⟩⟩
    refine ite2 (fun z => by cases z) (fun _ => ?_)
    have Y3 := Y2.but b3 W3
    have ht3 := b3 _ _ nt.1 ht'
    have tb3 := tb.butq b3
    have h33 := b3 _ _ h3a h32
    refine ⟨_, rfl, t, _, 1, _, rfl, rfl, SqT.of ht3, rfl, (by decide : 0 ≤ sizeLine), fun p4 hp4 => ?_⟩
    have S4 := same_new hp4 (.lst [])
    have Y4 := Y3.same S4
    have tl : Tr (fun _ => True) (L2.upd H3 p4 (.lst [])) (.ref q) (.list ds) := .lst trivial Y4.at_ ((tb3.same S4).mono fun _ _ => trivial)
    have tn : Tr (fun _ => True) (L2.upd H3 p4 (.lst [])) (.ref p4) (.list []) := .lst trivial upd_same .nil
    refine ⟨_, _, _, _, tl, tn, shaped_boxes hd, rfl, _, rfl, ?_⟩
    rw [eqv_nil]
    refine ite2 (fun cc => ?_) (fun cc => ?_)
    · have hne : 0 < ds.length := by cases ds with | nil => cases cc | cons _ _ => simp
      have ht4 := S4 _ _ ht3
      refine ⟨_, rfl, t, _, 1, _, rfl, rfl, SqT.of ht4, rfl, .inl ⟨rfl, bs, SqL.of Y4.at_⟩, ?_⟩
      refine ⟨_, rfl, _, rfl, t, _, 1, _, rfl, rfl, SqT.of ht4, rfl, q, bs, rfl, .inl (SqL.of Y4.at_), a, _, rfl, Y4.w, by omega, by have := g.most; omega, fun r H5 r0 r1 b5 W5 => ?_⟩
      have Y5 := Y4.but b5 W5
      have hlt : r.toNat < bs.length := by omega
      have hix : seqIndex? r bs.length = some r.toNat := by
        have h0 : ¬ r < 0 := by omega
        simp [seqIndex?, h0]
        omega
      refine ⟨q, bs, r, r.toNat, _, rfl, rfl, Y5.at_, by have := g.most; omega, by have := g.most; omega, hix, List.getElem?_eq_getElem hlt, ?_⟩
      have tb5 := tr_erase r.toNat ((tb3.same S4).butq b5)
      have ht5 := b5 _ _ nt.1 ht4
      have h35 := b5 _ _ h3a (S4 _ _ h33)
      have Y6 : Wq a q (bs.eraseIdx r.toNat) (L2.upd H5 q (.lst (bs.eraseIdx r.toNat))) := ⟨by
        obtain ⟨x, y, hw⟩ := Y5.w
        exact ⟨x, y, by rw [upd_ne (Ne.symm Y5.ne)]; exact hw⟩, upd_same, Y5.ne⟩
      refine ⟨_, rfl, _, rfl, a, t, q, _, n, _, rfl, Y6, nt, (by rw [upd_ne nt.2]; exact ht5), tb5.grow, good_erase g r.toNat, fun H7 b7 W7 => ⟨_, rfl, ?_⟩⟩
      refine ite2 (fun z => by cases z) (fun _ => ?_)
      exact ⟨_, _, _, rfl, b7 _ _ h3a (by rw [upd_ne h3q]; exact h35)⟩
    · exact ⟨_, _, _, rfl, S4 _ _ h33⟩
  · refine ⟨(by decide : 2 ≤ sizeLine), fun u1 h1 => ⟨_, rfl, (by decide : 2 ≤ sizeLine), fun u2 h2 => ⟨(by decide : 2 ≤ sizeLine), fun u3 h3 => ⟨(by decide : 1 ≤ sizeLine), fun u4 h4 => ⟨(by decide : 2 ≤ sizeLine), fun u5 h5 => ?_⟩⟩⟩⟩⟩
    have A1 : Tr (fun _ => True) _ (.ref u1) (.tuple [.int 0, .int 3]) := .tup trivial (upd_same (H := H') (o := .tup [.int 0, .int 3])) (.cons (.int 0) (.cons (.int 3) .nil))
    have A2 : Tr (fun _ => True) _ (.ref u2) (.tuple [.int (-1), .int 4]) := .tup trivial (upd_same (H := L2.upd H' u1 (.tup [.int 0, .int 3])) (o := .tup [.int (-1), .int 4])) (.cons (.int _) (.cons (.int 4) .nil))
    have A3 : Tr (fun _ => True) _ (.ref u3) (.tuple [.tuple [.int 0, .int 3], .tuple [.int (-1), .int 4]]) := .tup trivial upd_same (.cons ((A1.same (same_new h2 _)).same (same_new h3 _)) (.cons (A2.same (same_new h3 (.tup [.ref u1, .ref u2]))) .nil))
    have A4 : Tr (fun _ => True) _ (.ref u4) (.list [.tuple [.tuple [.int 0, .int 3], .tuple [.int (-1), .int 4]]]) := .lst trivial upd_same (.cons (A3.same (same_new h4 (.lst [.ref u3]))) .nil)
    have A5 : Tr (fun _ => True) _ (.ref u5) (.tuple [.int 2, .list [.tuple [.tuple [.int 0, .int 3], .tuple [.int (-1), .int 4]]]]) := .tup trivial upd_same (.cons (.int 2) (.cons (A4.same (same_new h5 (.tup [.int 2, .ref u4]))) .nil))
    refine ⟨fun _ => True, _, 2, _, 0, _, rfl, A5, ⟨by decide, by decide, by decide, by decide⟩, rfl, fun G S => ⟨rfl, _, rfl, ?_⟩⟩
    refine ite2 (fun _ => ?_) (fun c => absurd (by decide) c)
    refine ⟨(by decide : 2 ≤ sizeLine), fun v1 g1 => ⟨(by decide : 1 ≤ sizeLine), fun v2 g2 => ⟨(by decide : 2 ≤ sizeLine), fun v3 g3 => ⟨(by decide : 1 ≤ sizeLine), fun v4 g4 => ⟨(by decide : 2 ≤ sizeLine), fun v5 g5 => ⟨(by decide : 2 ≤ sizeLine), fun v6 g6 => ⟨(by decide : 1 ≤ sizeLine), fun v7 g7 => ?_⟩⟩⟩⟩⟩⟩⟩
    have C1 : Tr (fun _ => True) _ (.ref v1) (.tuple [.int 0, .int 2]) := .tup trivial (upd_same (H := G) (o := .tup [.int 0, .int 2])) (.cons (.int 0) (.cons (.int 2) .nil))
    have C2 : Tr (fun _ => True) _ (.ref v2) (.tuple [.tuple [.int 0, .int 2]]) := .tup trivial upd_same (.cons (C1.same (same_new g2 (.tup [.ref v1]))) .nil)
    have C3 : Tr (fun _ => True) _ (.ref v3) (.tuple [.int 1, .int 5]) := .tup trivial (upd_same (H := L2.upd (L2.upd G v1 (.tup [.int 0, .int 2])) v2 (.tup [.ref v1])) (o := .tup [.int 1, .int 5])) (.cons (.int 1) (.cons (.int 5) .nil))
    have C4 : Tr (fun _ => True) _ (.ref v4) (.tuple [.tuple [.int 1, .int 5]]) := .tup trivial upd_same (.cons (C3.same (same_new g4 (.tup [.ref v3]))) .nil)
    have C5 : Tr (fun _ => True) _ (.ref v5) (.list [.tuple [.tuple [.int 0, .int 2]], .tuple [.tuple [.int 1, .int 5]]]) := .lst trivial upd_same (.cons (((C2.same (same_new g3 (.tup [.int 1, .int 5]))).same (same_new g4 (.tup [.ref v3]))).same (same_new g5 (.lst [.ref v2, .ref v4]))) (.cons (C4.same (same_new g5 (.lst [.ref v2, .ref v4]))) .nil))
    have C6 : Tr (fun _ => True) _ (.ref v6) (.tuple [.int 1, .list [.tuple [.tuple [.int 0, .int 2]], .tuple [.tuple [.int 1, .int 5]]]]) := .tup trivial upd_same (.cons (.int 1) (.cons (C5.same (same_new g6 (.tup [.int 1, .ref v5]))) .nil))
    have C7 := C6.same (same_new g7 (.tup [.int 1]))
    refine ⟨fun _ => True, fun _ => True, _, _, 1, _, [1], rfl, C7, ⟨by decide, by decide, by decide, by decide⟩, .tup trivial upd_same (.cons (.int 1) .nil), rfl, fun p G' S' hp hp' => ⟨(by decide : 2 ≤ sizeLine), fun u8 h8 => ?_⟩⟩
    have e : idxD [.tuple [.tuple [.int 0, .int 2]], .tuple [.tuple [.int 1, .int 5]]] [1] = [0, 1] := by decide
    rw [e] at hp'
    have T8 : Tr (fun _ => True) (L2.upd G' u8 (.lst [.int 0, .int 1])) (.ref p) (.list [.int 0, .int 1]) := .lst trivial (same_new h8 _ _ _ hp') (.cons (.int 0) (.cons (.int 1) .nil))
    have T9 : Tr (fun _ => True) (L2.upd G' u8 (.lst [.int 0, .int 1])) (.ref u8) (.list [.int 0, .int 1]) := .lst trivial upd_same (.cons (.int 0) (.cons (.int 1) .nil))
    refine ⟨_, _, _, _, T8, T9, rfl, rfl, ?_⟩
    rw [PySem.SeqAt.eqv_refl _ rfl]
    exact k _
end
end K03
end
section
set_option Elab.async false
set_option maxRecDepth 10000
set_option linter.all false
namespace K03
open PySem PySem.Spec PyProof.Rows L2 Bc
/-! ### the top: the defs stand as the text says -/
theorem tops {l : PySem.W.OpenLaw} {w : World} {K : PySem.W.Frag} {h : Heap} {mg : Str → Option Value} {fa dM : Addr} {f1 f2 f3 f4 f5 f6 f7 f8 f9 f10 f11 f12 f13 f14 f15 f16 f17 f18 f19 f20 f21 f22 f23 f24 f25 f26 : Addr} (X : K.In h) (G : h.Ns mainGlobals mg) (hfa : mg "law" = some (.ref fa))
    {od1 an1 od2 an2 od3 an3 od4 an4 od5 an5 od6 an6 od7 an7 od8 an8 od9 an9 od10 an10 od11 an11 od12 an12 od13 an13 od14 an14 od15 an15 od16 an16 od17 an17 od18 an18 od19 an19 od20 an20 od21 an21 od22 an22 od23 an23 od24 an24 od25 an25 od26 an26 : Option Addr} {sl1 sl2 sl3 sl4 sl5 sl6 sl7 sl8 sl9 sl10 sl11 sl12 sl13 sl14 sl15 sl16 sl17 sl18 sl19 sl20 sl21 sl22 sl23 sl24 sl25 sl26 : Array (Option Value)} {oc1 kV1 dc1 pm1 cd1 ct1 oc2 kV2 dc2 pm2 cd2 ct2 oc3 kV3 dc3 pm3 cd3 ct3 oc4 kV4 dc4 pm4 cd4 ct4 oc5 kV5 dc5 pm5 cd5 ct5 oc6 kV6 dc6 pm6 cd6 ct6 oc7 kV7 dc7 pm7 cd7 ct7 oc8 kV8 dc8 pm8 cd8 ct8 oc9 kV9 dc9 pm9 cd9 ct9 oc10 kV10 dc10 pm10 cd10 ct10 oc11 kV11 dc11 pm11 cd11 ct11 oc12 kV12 dc12 pm12 cd12 ct12 oc13 kV13 dc13 pm13 cd13 ct13 oc14 kV14 dc14 pm14 cd14 ct14 oc15 kV15 dc15 pm15 cd15 ct15 oc16 kV16 dc16 pm16 cd16 ct16 oc17 kV17 dc17 pm17 cd17 ct17 oc18 kV18 dc18 pm18 cd18 ct18 oc19 kV19 dc19 pm19 cd19 ct19 oc20 kV20 dc20 pm20 cd20 ct20 oc21 kV21 dc21 pm21 cd21 ct21 oc22 kV22 dc22 pm22 cd22 ct22 oc23 kV23 dc23 pm23 cd23 ct23 oc24 kV24 dc24 pm24 cd24 ct24 oc25 kV25 dc25 pm25 cd25 ct25 oc26 kV26 dc26 pm26 cd26 ct26 : Value}
    (a1 : PySem.W.nsIn K mainGlobals "is_whole" = some (some (.ref f1))) (l1 : K.lookup f1 = some ⟨oc1, od1, .func (PySem.W.fnOf "is_whole" "is_whole" (defArgs s_is_whole) (defBody s_is_whole) (defScope s_is_whole) .none kV1 dc1 pm1 an1 cd1 ct1), sl1⟩) (c1 : PySem.W.codeIn K cd1 "is_whole" = true) (k1 : PySem.W.keepIn K (.ref f1) = true)
    (a2 : PySem.W.nsIn K mainGlobals "are_ways" = some (some (.ref f2))) (l2 : K.lookup f2 = some ⟨oc2, od2, .func (PySem.W.fnOf "are_ways" "are_ways" (defArgs s_are_ways) (defBody s_are_ways) (defScope s_are_ways) .none kV2 dc2 pm2 an2 cd2 ct2), sl2⟩) (c2 : PySem.W.codeIn K cd2 "are_ways" = true) (k2 : PySem.W.keepIn K (.ref f2) = true)
    (a3 : PySem.W.nsIn K mainGlobals "is_stretch" = some (some (.ref f3))) (l3 : K.lookup f3 = some ⟨oc3, od3, .func (PySem.W.fnOf "is_stretch" "is_stretch" (defArgs s_is_stretch) (defBody s_is_stretch) (defScope s_is_stretch) .none kV3 dc3 pm3 an3 cd3 ct3), sl3⟩) (c3 : PySem.W.codeIn K cd3 "is_stretch" = true) (k3 : PySem.W.keepIn K (.ref f3) = true)
    (a4 : PySem.W.nsIn K mainGlobals "is_box" = some (some (.ref f4))) (l4 : K.lookup f4 = some ⟨oc4, od4, .func (PySem.W.fnOf "is_box" "is_box" (defArgs s_is_box) (defBody s_is_box) (defScope s_is_box) .none kV4 dc4 pm4 an4 cd4 ct4), sl4⟩) (c4 : PySem.W.codeIn K cd4 "is_box" = true) (k4 : PySem.W.keepIn K (.ref f4) = true)
    (a5 : PySem.W.nsIn K mainGlobals "is_heap" = some (some (.ref f5))) (l5 : K.lookup f5 = some ⟨oc5, od5, .func (PySem.W.fnOf "is_heap" "is_heap" (defArgs s_is_heap) (defBody s_is_heap) (defScope s_is_heap) .none kV5 dc5 pm5 an5 cd5 ct5), sl5⟩) (c5 : PySem.W.codeIn K cd5 "is_heap" = true) (k5 : PySem.W.keepIn K (.ref f5) = true)
    (a6 : PySem.W.nsIn K mainGlobals "need_heap" = some (some (.ref f6))) (l6 : K.lookup f6 = some ⟨oc6, od6, .func (PySem.W.fnOf "need_heap" "need_heap" (defArgs s_need_heap) (defBody s_need_heap) (defScope s_need_heap) .none kV6 dc6 pm6 an6 cd6 ct6), sl6⟩) (c6 : PySem.W.codeIn K cd6 "need_heap" = true) (k6 : PySem.W.keepIn K (.ref f6) = true)
    (a7 : PySem.W.nsIn K mainGlobals "need_spot" = some (some (.ref f7))) (l7 : K.lookup f7 = some ⟨oc7, od7, .func (PySem.W.fnOf "need_spot" "need_spot" (defArgs s_need_spot) (defBody s_need_spot) (defScope s_need_spot) .none kV7 dc7 pm7 an7 cd7 ct7), sl7⟩) (c7 : PySem.W.codeIn K cd7 "need_spot" = true) (k7 : PySem.W.keepIn K (.ref f7) = true)
    (a8 : PySem.W.nsIn K mainGlobals "numbered_box" = some (some (.ref f8))) (l8 : K.lookup f8 = some ⟨oc8, od8, .func (PySem.W.fnOf "numbered_box" "numbered_box" (defArgs s_numbered_box) (defBody s_numbered_box) (defScope s_numbered_box) .none kV8 dc8 pm8 an8 cd8 ct8), sl8⟩) (c8 : PySem.W.codeIn K cd8 "numbered_box" = true) (k8 : PySem.W.keepIn K (.ref f8) = true)
    (a9 : PySem.W.nsIn K mainGlobals "box_size" = some (some (.ref f9))) (l9 : K.lookup f9 = some ⟨oc9, od9, .func (PySem.W.fnOf "box_size" "box_size" (defArgs s_box_size) (defBody s_box_size) (defScope s_box_size) .none kV9 dc9 pm9 an9 cd9 ct9), sl9⟩) (c9 : PySem.W.codeIn K cd9 "box_size" = true) (k9 : PySem.W.keepIn K (.ref f9) = true)
    (a10 : PySem.W.nsIn K mainGlobals "holds" = some (some (.ref f10))) (l10 : K.lookup f10 = some ⟨oc10, od10, .func (PySem.W.fnOf "holds" "holds" (defArgs s_holds) (defBody s_holds) (defScope s_holds) .none kV10 dc10 pm10 an10 cd10 ct10), sl10⟩) (c10 : PySem.W.codeIn K cd10 "holds" = true) (k10 : PySem.W.keepIn K (.ref f10) = true)
    (a11 : PySem.W.nsIn K mainGlobals "size_of" = some (some (.ref f11))) (l11 : K.lookup f11 = some ⟨oc11, od11, .func (PySem.W.fnOf "size_of" "size_of" (defArgs s_size_of) (defBody s_size_of) (defScope s_size_of) .none kV11 dc11 pm11 an11 cd11 ct11), sl11⟩) (c11 : PySem.W.codeIn K cd11 "size_of" = true) (k11 : PySem.W.keepIn K (.ref f11) = true)
    (a12 : PySem.W.nsIn K mainGlobals "boxes_at" = some (some (.ref f12))) (l12 : K.lookup f12 = some ⟨oc12, od12, .func (PySem.W.fnOf "boxes_at" "boxes_at" (defArgs s_boxes_at) (defBody s_boxes_at) (defScope s_boxes_at) .none kV12 dc12 pm12 an12 cd12 ct12), sl12⟩) (c12 : PySem.W.codeIn K cd12 "boxes_at" = true) (k12 : PySem.W.keepIn K (.ref f12) = true)
    (a13 : PySem.W.nsIn K mainGlobals "how_often" = some (some (.ref f13))) (l13 : K.lookup f13 = some ⟨oc13, od13, .func (PySem.W.fnOf "how_often" "how_often" (defArgs s_how_often) (defBody s_how_often) (defScope s_how_often) .none kV13 dc13 pm13 an13 cd13 ct13), sl13⟩) (c13 : PySem.W.codeIn K cd13 "how_often" = true) (k13 : PySem.W.keepIn K (.ref f13) = true)
    (a14 : PySem.W.nsIn K mainGlobals "_law_well" = some (some (.ref f14))) (l14 : K.lookup f14 = some ⟨oc14, od14, .func (PySem.W.fnOf "_law_well" "_law_well" (defArgs s_law_well) (defBody s_law_well) (defScope s_law_well) .none kV14 dc14 pm14 an14 cd14 ct14), sl14⟩) (c14 : PySem.W.codeIn K cd14 "_law_well" = true) (k14 : PySem.W.keepIn K (.ref f14) = true)
    (a15 : PySem.W.nsIn K mainGlobals "_law_draw" = some (some (.ref f15))) (l15 : K.lookup f15 = some ⟨oc15, od15, .func (PySem.W.fnOf "_law_draw" "_law_draw" (defArgs s_law_draw) (defBody s_law_draw) (defScope s_law_draw) .none kV15 dc15 pm15 an15 cd15 ct15), sl15⟩) (c15 : PySem.W.codeIn K cd15 "_law_draw" = true) (k15 : PySem.W.keepIn K (.ref f15) = true)
    (a16 : PySem.W.nsIn K mainGlobals "_law_marks" = some (some (.ref f16))) (l16 : K.lookup f16 = some ⟨oc16, od16, .func (PySem.W.fnOf "_law_marks" "_law_marks" (defArgs s_law_marks) (defBody s_law_marks) (defScope s_law_marks) .none kV16 dc16 pm16 an16 cd16 ct16), sl16⟩) (c16 : PySem.W.codeIn K cd16 "_law_marks" = true) (k16 : PySem.W.keepIn K (.ref f16) = true)
    (a17 : PySem.W.nsIn K mainGlobals "_law_stretch" = some (some (.ref f17))) (l17 : K.lookup f17 = some ⟨oc17, od17, .func (PySem.W.fnOf "_law_stretch" "_law_stretch" (defArgs s_law_stretch) (defBody s_law_stretch) (defScope s_law_stretch) .none kV17 dc17 pm17 an17 cd17 ct17), sl17⟩) (c17 : PySem.W.codeIn K cd17 "_law_stretch" = true) (k17 : PySem.W.keepIn K (.ref f17) = true)
    (a18 : PySem.W.nsIn K mainGlobals "_law_near" = some (some (.ref f18))) (l18 : K.lookup f18 = some ⟨oc18, od18, .func (PySem.W.fnOf "_law_near" "_law_near" (defArgs s_law_near) (defBody s_law_near) (defScope s_law_near) .none kV18 dc18 pm18 an18 cd18 ct18), sl18⟩) (c18 : PySem.W.codeIn K cd18 "_law_near" = true) (k18 : PySem.W.keepIn K (.ref f18) = true)
    (a19 : PySem.W.nsIn K mainGlobals "_law_heap" = some (some (.ref f19))) (l19 : K.lookup f19 = some ⟨oc19, od19, .func (PySem.W.fnOf "_law_heap" "_law_heap" (defArgs s_law_heap) (defBody s_law_heap) (defScope s_law_heap) .none kV19 dc19 pm19 an19 cd19 ct19), sl19⟩) (c19 : PySem.W.codeIn K cd19 "_law_heap" = true) (k19 : PySem.W.keepIn K (.ref f19) = true)
    (a20 : PySem.W.nsIn K mainGlobals "_law_some_heap" = some (some (.ref f20))) (l20 : K.lookup f20 = some ⟨oc20, od20, .func (PySem.W.fnOf "_law_some_heap" "_law_some_heap" (defArgs s_law_some_heap) (defBody s_law_some_heap) (defScope s_law_some_heap) .none kV20 dc20 pm20 an20 cd20 ct20), sl20⟩) (c20 : PySem.W.codeIn K cd20 "_law_some_heap" = true) (k20 : PySem.W.keepIn K (.ref f20) = true)
    (a21 : PySem.W.nsIn K mainGlobals "_law_holds" = some (some (.ref f21))) (l21 : K.lookup f21 = some ⟨oc21, od21, .func (PySem.W.fnOf "_law_holds" "_law_holds" (defArgs s_law_holds) (defBody s_law_holds) (defScope s_law_holds) .none kV21 dc21 pm21 an21 cd21 ct21), sl21⟩) (c21 : PySem.W.codeIn K cd21 "_law_holds" = true) (k21 : PySem.W.keepIn K (.ref f21) = true)
    (a22 : PySem.W.nsIn K mainGlobals "_law_size" = some (some (.ref f22))) (l22 : K.lookup f22 = some ⟨oc22, od22, .func (PySem.W.fnOf "_law_size" "_law_size" (defArgs s_law_size) (defBody s_law_size) (defScope s_law_size) .none kV22 dc22 pm22 an22 cd22 ct22), sl22⟩) (c22 : PySem.W.codeIn K cd22 "_law_size" = true) (k22 : PySem.W.keepIn K (.ref f22) = true)
    (a23 : PySem.W.nsIn K mainGlobals "_law_spot" = some (some (.ref f23))) (l23 : K.lookup f23 = some ⟨oc23, od23, .func (PySem.W.fnOf "_law_spot" "_law_spot" (defArgs s_law_spot) (defBody s_law_spot) (defScope s_law_spot) .none kV23 dc23 pm23 an23 cd23 ct23), sl23⟩) (c23 : PySem.W.codeIn K cd23 "_law_spot" = true) (k23 : PySem.W.keepIn K (.ref f23) = true)
    (a24 : PySem.W.nsIn K mainGlobals "_law_same" = some (some (.ref f24))) (l24 : K.lookup f24 = some ⟨oc24, od24, .func (PySem.W.fnOf "_law_same" "_law_same" (defArgs s_law_same) (defBody s_law_same) (defScope s_law_same) .none kV24 dc24 pm24 an24 cd24 ct24), sl24⟩) (c24 : PySem.W.codeIn K cd24 "_law_same" = true) (k24 : PySem.W.keepIn K (.ref f24) = true)
    (a25 : PySem.W.nsIn K mainGlobals "_law_right" = some (some (.ref f25))) (l25 : K.lookup f25 = some ⟨oc25, od25, .func (PySem.W.fnOf "_law_right" "_law_right" (defArgs s_law_right) (defBody s_law_right) (defScope s_law_right) .none kV25 dc25 pm25 an25 cd25 ct25), sl25⟩) (c25 : PySem.W.codeIn K cd25 "_law_right" = true) (k25 : PySem.W.keepIn K (.ref f25) = true)
    (a26 : PySem.W.nsIn K mainGlobals "law" = some (some (.ref f26))) (l26 : K.lookup f26 = some ⟨oc26, od26, .func (PySem.W.fnOf "law" "law" (defArgs s_law) (defBody s_law) (defScope s_law) .none kV26 dc26 pm26 an26 cd26 ct26), sl26⟩) (c26 : PySem.W.codeIn K cd26 "law" = true) (k26 : PySem.W.keepIn K (.ref f26) = true)
    (z1 : PySem.W.nsIn K mainGlobals "len" = some none)
    (z2 : PySem.W.nsIn K mainGlobals "isinstance" = some none)
    (z3 : PySem.W.nsIn K mainGlobals "all" = some none)
    (z4 : PySem.W.nsIn K mainGlobals "sorted" = some none)
    (z5 : PySem.W.nsIn K mainGlobals "min" = some none)
    (z6 : PySem.W.nsIn K mainGlobals "max" = some none)
    (z7 : PySem.W.nsIn K mainGlobals "abs" = some none)
    (z8 : PySem.W.nsIn K mainGlobals "repr" = some none)
    (z9 : PySem.W.nsIn K mainGlobals "set" = some none)
    (z10 : PySem.W.nsIn K mainGlobals "list" = some none)
    (z11 : PySem.W.nsIn K mainGlobals "tuple" = some none)
    (z12 : PySem.W.nsIn K mainGlobals "range" = some none)
    (z13 : PySem.W.nsIn K mainGlobals "int" = some none)
    (z14 : PySem.W.nsIn K mainGlobals "bool" = some none)
    (z15 : PySem.W.nsIn K mainGlobals "str" = some none)
    (zBe : PySem.W.nsIn K mainGlobals "enumerate" = some none)
    (zBz : PySem.W.nsIn K mainGlobals "zip" = some none)
    {ep : Nat} {h1 h2 h3 : Int} {t1 t2 t3 u1 u2 u3 : Tok} (aM : PySem.W.nsIn K mainGlobals "MOST_BOXES" = some (some (.ref dM))) (hM : (dM == sysModules) = false)
    (lM : K.lookup dM = some { cls := .type "dict", data := .dict #[⟨h1, .int 1 t1, .int 20 u1⟩, ⟨h2, .int 2 t2, .int 10 u2⟩, ⟨h3, .int 3 t3, .int 6 u3⟩] ep }) (e1 : h1 = hashInt 1) (e2 : h2 = hashInt 2) (e3 : h3 = hashInt 3) :
    ∃ fd : FuncData, (∀ (s : Shared) (v : Value), BindsTo s fd ⟨[v], []⟩ [("script", v)]) ∧ ∀ base : Heap, K.In base → base.Ns mainGlobals mg → FnOk l.prog w K mg base CX0 9 fa fd ["script"] (spLaw K) := by
  have e := hfa.symm.trans (PySem.W.mg_of X G a26)
  cases e
  have F1 := fun_mk (st := s_is_whole) l1 c1 k1
  have b1 := F1.binds (ps := ["thing"]) fun _ _ _ _ _ _ us hl => match us, hl with | [_], _ => rfl
  have F2 := fun_mk (st := s_are_ways) l2 c2 k2
  have b2 := F2.binds (ps := ["thing"]) fun _ _ _ _ _ _ us hl => match us, hl with | [_], _ => rfl
  have F3 := fun_mk (st := s_is_stretch) l3 c3 k3
  have b3 := F3.binds (ps := ["thing"]) fun _ _ _ _ _ _ us hl => match us, hl with | [_], _ => rfl
  have F4 := fun_mk (st := s_is_box) l4 c4 k4
  have b4 := F4.binds (ps := ["ways", "thing"]) fun _ _ _ _ _ _ us hl => match us, hl with | [_, _], _ => rfl
  have F5 := fun_mk (st := s_is_heap) l5 c5 k5
  have b5 := F5.binds (ps := ["thing"]) fun _ _ _ _ _ _ us hl => match us, hl with | [_], _ => rfl
  have F6 := fun_mk (st := s_need_heap) l6 c6 k6
  have b6 := F6.binds (ps := ["heap"]) fun _ _ _ _ _ _ us hl => match us, hl with | [_], _ => rfl
  have F7 := fun_mk (st := s_need_spot) l7 c7 k7
  have b7 := F7.binds (ps := ["heap", "spot"]) fun _ _ _ _ _ _ us hl => match us, hl with | [_, _], _ => rfl
  have F8 := fun_mk (st := s_numbered_box) l8 c8 k8
  have b8 := F8.binds (ps := ["heap", "number"]) fun _ _ _ _ _ _ us hl => match us, hl with | [_, _], _ => rfl
  have F9 := fun_mk (st := s_box_size) l9 c9 k9
  have b9 := F9.binds (ps := ["box"]) fun _ _ _ _ _ _ us hl => match us, hl with | [_], _ => rfl
  have F10 := fun_mk (st := s_holds) l10 c10 k10
  have b10 := F10.binds (ps := ["box", "spot"]) fun _ _ _ _ _ _ us hl => match us, hl with | [_, _], _ => rfl
  have F11 := fun_mk (st := s_size_of) l11 c11 k11
  have b11 := F11.binds (ps := ["heap", "number"]) fun _ _ _ _ _ _ us hl => match us, hl with | [_, _], _ => rfl
  have F12 := fun_mk (st := s_boxes_at) l12 c12 k12
  have b12 := F12.binds (ps := ["heap", "spot"]) fun _ _ _ _ _ _ us hl => match us, hl with | [_, _], _ => rfl
  have F13 := fun_mk (st := s_how_often) l13 c13 k13
  have b13 := F13.binds (ps := ["heap", "spot"]) fun _ _ _ _ _ _ us hl => match us, hl with | [_, _], _ => rfl
  have F14 := fun_mk (st := s_law_well) l14 c14 k14
  have b14 := F14.binds (ps := ["cell"]) fun _ _ _ _ _ _ us hl => match us, hl with | [_], _ => rfl
  have F15 := fun_mk (st := s_law_draw) l15 c15 k15
  have b15 := F15.binds (ps := ["well", "many"]) fun _ _ _ _ _ _ us hl => match us, hl with | [_, _], _ => rfl
  have F16 := fun_mk (st := s_law_marks) l16 c16 k16
  have b16 := F16.binds (ps := ["well", "many"]) fun _ _ _ _ _ _ us hl => match us, hl with | [_, _], _ => rfl
  have F17 := fun_mk (st := s_law_stretch) l17 c17 k17
  have b17 := F17.binds (ps := ["well", "marks"]) fun _ _ _ _ _ _ us hl => match us, hl with | [_, _], _ => rfl
  have F18 := fun_mk (st := s_law_near) l18 c18 k18
  have b18 := F18.binds (ps := ["well", "box", "marks"]) fun _ _ _ _ _ _ us hl => match us, hl with | [_, _, _], _ => rfl
  have F19 := fun_mk (st := s_law_heap) l19 c19 k19
  have b19 := F19.binds (ps := ["well", "ways", "most"]) fun _ _ _ _ _ _ us hl => match us, hl with | [_, _, _], _ => rfl
  have F20 := fun_mk (st := s_law_some_heap) l20 c20 k20
  have b20 := F20.binds (ps := ["well"]) fun _ _ _ _ _ _ us hl => match us, hl with | [_], _ => rfl
  have F21 := fun_mk (st := s_law_holds) l21 c21 k21
  have b21 := F21.binds (ps := ["box", "spot"]) fun _ _ _ _ _ _ us hl => match us, hl with | [_, _], _ => rfl
  have F22 := fun_mk (st := s_law_size) l22 c22 k22
  have b22 := F22.binds (ps := ["box"]) fun _ _ _ _ _ _ us hl => match us, hl with | [_], _ => rfl
  have F23 := fun_mk (st := s_law_spot) l23 c23 k23
  have b23 := F23.binds (ps := ["well", "heap"]) fun _ _ _ _ _ _ us hl => match us, hl with | [_, _], _ => rfl
  have F24 := fun_mk (st := s_law_same) l24 c24 k24
  have b24 := F24.binds (ps := ["found", "due"]) fun _ _ _ _ _ _ us hl => match us, hl with | [_, _], _ => rfl
  have F25 := fun_mk (st := s_law_right) l25 c25 k25
  have b25 := F25.binds (ps := ["well", "heap"]) fun _ _ _ _ _ _ us hl => match us, hl with | [_, _], _ => rfl
  have F26 := fun_mk (st := s_law) l26 c26 k26
  have mM := PySem.W.mg_of X G aM
  have B : Blt mg := fun x hx => by
    simp only [bltNames, List.mem_cons, List.not_mem_nil, or_false] at hx
    rcases hx with rfl | rfl | rfl | rfl | rfl | rfl | rfl | rfl | rfl | rfl | rfl | rfl | rfl | rfl | rfl
    · exact PySem.W.mg_none_of X G z1
    · exact PySem.W.mg_none_of X G z2
    · exact PySem.W.mg_none_of X G z3
    · exact PySem.W.mg_none_of X G z4
    · exact PySem.W.mg_none_of X G z5
    · exact PySem.W.mg_none_of X G z6
    · exact PySem.W.mg_none_of X G z7
    · exact PySem.W.mg_none_of X G z8
    · exact PySem.W.mg_none_of X G z9
    · exact PySem.W.mg_none_of X G z10
    · exact PySem.W.mg_none_of X G z11
    · exact PySem.W.mg_none_of X G z12
    · exact PySem.W.mg_none_of X G z13
    · exact PySem.W.mg_none_of X G z14
    · exact PySem.W.mg_none_of X G z15
  have Be : mg "enumerate" = none := PySem.W.mg_none_of X G zBe
  have Bz : mg "zip" = none := PySem.W.mg_none_of X G zBz
  refine ⟨PySem.W.fnOf "law" "law" (defArgs s_law) (defBody s_law) (defScope s_law) .none kV26 dc26 pm26 an26 cd26 ct26, fun s v => .of_eq rfl, fun base _ _ => ?_⟩
  have C_is_whole : Cal l.prog w K mg base "is_whole" 1 ["thing"] spWhole := ⟨_, _, ok_is_whole F1 B, b1, k1, PySem.W.mg_of X G a1⟩
  have C_are_ways : Cal l.prog w K mg base "are_ways" 2 ["thing"] spWays := ⟨_, _, ok_are_ways F2 C_is_whole mM (tab3 hM lM e1 e2 e3 (by decide)), b2, k2, PySem.W.mg_of X G a2⟩
  have C_is_stretch : Cal l.prog w K mg base "is_stretch" 2 ["thing"] spStretch := ⟨_, _, ok_is_stretch F3 B C_is_whole, b3, k3, PySem.W.mg_of X G a3⟩
  have C_is_box : Cal l.prog w K mg base "is_box" 3 ["ways", "thing"] spBox := ⟨_, _, ok_is_box F4 B C_are_ways C_is_stretch, b4, k4, PySem.W.mg_of X G a4⟩
  have C_is_heap : Cal l.prog w K mg base "is_heap" 4 ["thing"] spHeap := ⟨_, _, ok_is_heap F5 B C_are_ways C_is_box mM (tab3 hM lM e1 e2 e3 (by decide)), b5, k5, PySem.W.mg_of X G a5⟩
  have C_need_heap : Cal l.prog w K mg base "need_heap" 5 ["heap"] spNeedHeap := ⟨_, _, ok_need_heap F6 C_is_heap, b6, k6, PySem.W.mg_of X G a6⟩
  have C_need_spot : Cal l.prog w K mg base "need_spot" 2 ["heap", "spot"] spNeedSpot := ⟨_, _, ok_need_spot F7 B C_is_whole, b7, k7, PySem.W.mg_of X G a7⟩
  have C_numbered_box : Cal l.prog w K mg base "numbered_box" 2 ["heap", "number"] spNumbered := ⟨_, _, ok_numbered_box F8 B C_is_whole, b8, k8, PySem.W.mg_of X G a8⟩
  have C_box_size : Cal l.prog w K mg base "box_size" 1 ["box"] spBoxSize := ⟨_, _, ok_box_size F9, b9, k9, PySem.W.mg_of X G a9⟩
  have C_holds : Cal l.prog w K mg base "holds" 1 ["box", "spot"] spHolds := ⟨_, _, ok_holds F10 B Bz, b10, k10, PySem.W.mg_of X G a10⟩
  have C_size_of : Cal l.prog w K mg base "size_of" 6 ["heap", "number"] spSizeOf := ⟨_, _, ok_size_of F11 C_need_heap C_numbered_box C_box_size, b11, k11, PySem.W.mg_of X G a11⟩
  have C_boxes_at : Cal l.prog w K mg base "boxes_at" 6 ["heap", "spot"] spBoxesAt := ⟨_, _, ok_boxes_at F12 B Be C_need_heap C_need_spot C_holds, b12, k12, PySem.W.mg_of X G a12⟩
  have C_how_often : Cal l.prog w K mg base "how_often" 7 ["heap", "spot"] spHowOften := ⟨_, _, ok_how_often F13 B C_boxes_at, b13, k13, PySem.W.mg_of X G a13⟩
  have C_law_well : Cal l.prog w K mg base "_law_well" 1 ["cell"] spWell := ⟨_, _, ok_law_well F14, b14, k14, PySem.W.mg_of X G a14⟩
  have C_law_draw : Cal l.prog w K mg base "_law_draw" 1 ["well", "many"] spDraw := ⟨_, _, ok_law_draw F15 B, b15, k15, PySem.W.mg_of X G a15⟩
  have C_law_marks : Cal l.prog w K mg base "_law_marks" 2 ["well", "many"] spMarks := ⟨_, _, ok_law_marks F16 B C_law_draw, b16, k16, PySem.W.mg_of X G a16⟩
  have C_law_stretch : Cal l.prog w K mg base "_law_stretch" 2 ["well", "marks"] spLStretch := ⟨_, _, ok_law_stretch F17 B C_law_draw, b17, k17, PySem.W.mg_of X G a17⟩
  have C_law_near : Cal l.prog w K mg base "_law_near" 3 ["well", "box", "marks"] spNear := ⟨_, _, ok_law_near F18 B C_law_draw C_law_stretch, b18, k18, PySem.W.mg_of X G a18⟩
  have C_law_heap : Cal l.prog w K mg base "_law_heap" 4 ["well", "ways", "most"] spMkHeap := ⟨_, _, ok_law_heap F19 B C_law_draw C_law_marks C_law_stretch C_law_near, b19, k19, PySem.W.mg_of X G a19⟩
  have C_law_some_heap : Cal l.prog w K mg base "_law_some_heap" 5 ["well"] spSome := ⟨_, _, ok_law_some_heap F20 B C_law_draw C_law_heap, b20, k20, PySem.W.mg_of X G a20⟩
  have C_law_holds : Cal l.prog w K mg base "_law_holds" 1 ["box", "spot"] spHolds := ⟨_, _, ok_law_holds F21 B, b21, k21, PySem.W.mg_of X G a21⟩
  have C_law_size : Cal l.prog w K mg base "_law_size" 1 ["box"] spBoxSize := ⟨_, _, ok_law_size F22, b22, k22, PySem.W.mg_of X G a22⟩
  have C_law_spot : Cal l.prog w K mg base "_law_spot" 2 ["well", "heap"] spSpot := ⟨_, _, ok_law_spot F23 B C_law_draw, b23, k23, PySem.W.mg_of X G a23⟩
  have C_s0 : Cal l.prog w K mg base "_law_same" 1 ["found", "due"] (spS 0) := ⟨_, _, ok_same_no F24, b24, k24, PySem.W.mg_of X G a24⟩
  have C_s1 : Cal l.prog w K mg base "_law_same" 2 ["found", "due"] (spS 1) := ⟨_, _, ok_law_same F24 B C_s0, b24, k24, PySem.W.mg_of X G a24⟩
  have C_s2 : Cal l.prog w K mg base "_law_same" 3 ["found", "due"] (spS 2) := ⟨_, _, ok_law_same F24 B C_s1, b24, k24, PySem.W.mg_of X G a24⟩
  have C_law_same := C_s2
  have C_law_right : Cal l.prog w K mg base "_law_right" 8 ["well", "heap"] spRight := ⟨_, _, ok_law_right F25 B Be C_law_same C_size_of C_law_size C_law_spot C_law_holds C_boxes_at C_how_often, b25, k25, PySem.W.mg_of X G a25⟩
  exact ok_law F26 B C_law_well C_law_draw C_law_some_heap C_law_right C_size_of C_boxes_at
theorem walk {l : PySem.W.OpenLaw} {q : Program} {loose : List Str} {XP : (Str → Option Value) → Heap → Prop} {YP : World → Heap → Prop} {d : DefRec} {K : Params → PySem.W.Frag} (hn : l.most = some 63) (hdf : d.params.defaults = [])
    (hY : ∀ (w : World) (h : Heap), YP w h → (K w.params).In h)
    (F : ∀ (w : World) (mg : Str → Option Value) (fa : Addr) (h : Heap), (K w.params).In h → h.Ns mainGlobals mg → mg d.name = some (.ref fa) →
      ∃ fd : FuncData, (∀ (s : Shared) (u : Value), BindsTo s fd ⟨[u], []⟩ [("script", u)]) ∧ ∀ base : Heap, (K w.params).In base → base.Ns mainGlobals mg → FnOk l.prog w (K w.params) mg base CX0 9 fa fd ["script"] (spLaw (K w.params))) :
    PySem.W.WalkO q loose XP YP l.row.toRowW d [] (fun f vs => PySem.call f vs) :=
  L2.walk_ofK (n := 63) (k := 9) (x := "script") (CX := CX0) (sp := spLaw) hn (by decide) hdf ⟨rfl, by decide, by decide, rfl⟩ hY F (fun _ _ a ns _ _ hS => ⟨a, ns, rfl, hS, fun _ => rfl⟩) fun _ _ _ _ z => z
end K03
open PySem PySem.W PyProof.Rows
set_option maxRecDepth 100000 in
set_option maxHeartbeats 0 in
theorem PySem.Challenge.cw_boxcover_k03_sizes_and_spots_holds : PySem.Challenge.rw_boxcover_k03_sizes_and_spots.Holds := by
  w_on; o_law; k_head; (case hw => w_witness2)
  k_fill
  refine K03.walk (l := PySem.Challenge.rw_boxcover_k03_sizes_and_spots) rfl rfl (fun w h Y => PySem.W.kIn_of Y) ?F
  case F =>
    intro w mg fa h KX G hmg
    refine' K03.tops KX G hmg ?a1 ?l1 ?c1 ?k1 ?a2 ?l2 ?c2 ?k2 ?a3 ?l3 ?c3 ?k3 ?a4 ?l4 ?c4 ?k4 ?a5 ?l5 ?c5 ?k5 ?a6 ?l6 ?c6 ?k6 ?a7 ?l7 ?c7 ?k7 ?a8 ?l8 ?c8 ?k8 ?a9 ?l9 ?c9 ?k9 ?a10 ?l10 ?c10 ?k10 ?a11 ?l11 ?c11 ?k11 ?a12 ?l12 ?c12 ?k12 ?a13 ?l13 ?c13 ?k13 ?a14 ?l14 ?c14 ?k14 ?a15 ?l15 ?c15 ?k15 ?a16 ?l16 ?c16 ?k16 ?a17 ?l17 ?c17 ?k17 ?a18 ?l18 ?c18 ?k18 ?a19 ?l19 ?c19 ?k19 ?a20 ?l20 ?c20 ?k20 ?a21 ?l21 ?c21 ?k21 ?a22 ?l22 ?c22 ?k22 ?a23 ?l23 ?c23 ?k23 ?a24 ?l24 ?c24 ?k24 ?a25 ?l25 ?c25 ?k25 ?a26 ?l26 ?c26 ?k26 ?z1 ?z2 ?z3 ?z4 ?z5 ?z6 ?z7 ?z8 ?z9 ?z10 ?z11 ?z12 ?z13 ?z14 ?z15 ?zBe ?zBz ?aM ?hM ?lM ?e1 ?e2 ?e3
    (case a1 => k_is); (case l1 => k_is); (case c1 => k_is); (case k1 => k_is)
    (case a2 => k_is); (case l2 => k_is); (case c2 => k_is); (case k2 => k_is)
    (case a3 => k_is); (case l3 => k_is); (case c3 => k_is); (case k3 => k_is)
    (case a4 => k_is); (case l4 => k_is); (case c4 => k_is); (case k4 => k_is)
    (case a5 => k_is); (case l5 => k_is); (case c5 => k_is); (case k5 => k_is)
    (case a6 => k_is); (case l6 => k_is); (case c6 => k_is); (case k6 => k_is)
    (case a7 => k_is); (case l7 => k_is); (case c7 => k_is); (case k7 => k_is)
    (case a8 => k_is); (case l8 => k_is); (case c8 => k_is); (case k8 => k_is)
    (case a9 => k_is); (case l9 => k_is); (case c9 => k_is); (case k9 => k_is)
    (case a10 => k_is); (case l10 => k_is); (case c10 => k_is); (case k10 => k_is)
    (case a11 => k_is); (case l11 => k_is); (case c11 => k_is); (case k11 => k_is)
    (case a12 => k_is); (case l12 => k_is); (case c12 => k_is); (case k12 => k_is)
    (case a13 => k_is); (case l13 => k_is); (case c13 => k_is); (case k13 => k_is)
    (case a14 => k_is); (case l14 => k_is); (case c14 => k_is); (case k14 => k_is)
    (case a15 => k_is); (case l15 => k_is); (case c15 => k_is); (case k15 => k_is)
    (case a16 => k_is); (case l16 => k_is); (case c16 => k_is); (case k16 => k_is)
    (case a17 => k_is); (case l17 => k_is); (case c17 => k_is); (case k17 => k_is)
    (case a18 => k_is); (case l18 => k_is); (case c18 => k_is); (case k18 => k_is)
    (case a19 => k_is); (case l19 => k_is); (case c19 => k_is); (case k19 => k_is)
    (case a20 => k_is); (case l20 => k_is); (case c20 => k_is); (case k20 => k_is)
    (case a21 => k_is); (case l21 => k_is); (case c21 => k_is); (case k21 => k_is)
    (case a22 => k_is); (case l22 => k_is); (case c22 => k_is); (case k22 => k_is)
    (case a23 => k_is); (case l23 => k_is); (case c23 => k_is); (case k23 => k_is)
    (case a24 => k_is); (case l24 => k_is); (case c24 => k_is); (case k24 => k_is)
    (case a25 => k_is); (case l25 => k_is); (case c25 => k_is); (case k25 => k_is)
    (case a26 => k_is); (case l26 => k_is); (case c26 => k_is); (case k26 => k_is)
    (case z1 => k_is); (case z2 => k_is); (case z3 => k_is); (case z4 => k_is); (case z5 => k_is); (case z6 => k_is); (case z7 => k_is); (case z8 => k_is); (case z9 => k_is); (case z10 => k_is); (case z11 => k_is); (case z12 => k_is); (case z13 => k_is); (case z14 => k_is); (case z15 => k_is)
    (case zBe => k_is)
    (case zBz => k_is)
    (case aM => k_is); (case lM => k_is)
    (case hM => rfl); (case e1 => rfl); (case e2 => rfl); (case e3 => rfl)
end
