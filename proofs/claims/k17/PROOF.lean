import PyProof.Rows.All
import Wide.All
import OpenK.AllK
import Wide.FinOn
import Lean
import PyProof.EqAt
import PyProof.EqKinds
import PyProof.TupleCall
import PyProof.NeKinds
import PyProof.EnumMake
import PyProof.EnumStmt
import PyProof.Draws
import PyProof.WalksT
import PyProof.StrWalks
import PyProof.Rows.EnumRows
import PyProof.StrLawsIdx
import PyProof.StrBlockI
import PyProof.CompUse
import PyProof.CompFree
import PyProof.SetKind
import PyProof.SetScanFacts
import PyProof.SetRoads
import PyProof.SetNew
import PyProof.Rows.SetFrom
import PyProof.CollectWalk
import PyProof.Rows.SortShell
import PyProof.Cells
import PyProof.ListRange
import PyProof.ConsumeWalk
import PyProof.Tail
import PySem.Challenge.RW_holdtalk_k17_contraries
set_option Elab.async false
set_option linter.all false
set_option maxRecDepth 100000
/-! THE HAND LAYER, for ints, bools, texts, own classes, LISTS and tuples (index, slices, in, append, pop ..), calls, loops. Paste it whole ahead of your own text; what your proof does not reach may be deleted. -/
namespace L2
open PySem PySem.Spec PyProof.Rows

/-- a key: an int or a str -/
abbrev Key := Sum Int Str
def keyIs : Key → Value → Bool
  | .inl k, v => Value.isInt k v
  | .inr x, v => Value.isStrOf x v
def keyH (w : World) : Key → Int
  | .inl k => hashInt k
  | .inr x => hashStr w x
theorem keyIs_shape : ∀ {k : Key} {v : Value}, keyIs k v = true → (∃ i t, k = Sum.inl i ∧ v = Value.int i t) ∨ (∃ x t, k = Sum.inr x ∧ v = Value.str x t)
  | .inl i, v, h => by
    obtain ⟨t, e⟩ := Value.isInt_shape (k := i) (v := v) h
    exact .inl ⟨i, t, rfl, e⟩
  | .inr x, v, h => by
    obtain ⟨t, e⟩ := Value.isStrOf_shape (x := x) (v := v) h
    exact .inr ⟨x, t, rfl, e⟩
theorem keyIs_int (i : Int) (t : Tok) : keyIs (.inl i) (.int i t) = true := by simp [keyIs, Value.isInt]
theorem keyIs_str (x : Str) (t : Tok) : keyIs (.inr x) (.str x t) = true := by simp [keyIs, Value.isStrOf]
theorem key_ll (a b : Int) : decide ((Sum.inl a : Key) = Sum.inl b) = (a == b) := by
  by_cases e : a = b
  · subst e; simp
  · have h : ¬ (Sum.inl a : Key) = Sum.inl b := fun q => e (Sum.inl.inj q)
    rw [decide_eq_false h]
    exact (beq_eq_false_iff_ne.mpr e).symm
theorem key_rr (a b : Str) : decide ((Sum.inr a : Key) = Sum.inr b) = decide (a = b) := by
  by_cases e : a = b
  · subst e; simp
  · have h : ¬ (Sum.inr a : Key) = Sum.inr b := fun q => e (Sum.inr.inj q)
    rw [decide_eq_false h, decide_eq_false e]
theorem key_lr (a : Int) (b : Str) : decide ((Sum.inl a : Key) = Sum.inr b) = false := decide_eq_false (fun q => nomatch q)
theorem key_rl (a : Str) (b : Int) : decide ((Sum.inr a : Key) = Sum.inl b) = false := decide_eq_false (fun q => nomatch q)

def mixKind (prog : Program) (w : World) : PySem.KeyKind prog w Key where
  is := keyIs
  hash := keyH w
  inj := fun v a b ha hb => by
    rcases keyIs_shape ha with ⟨i, t, rfl, rfl⟩ | ⟨x, t, rfl, rfl⟩
    · rcases keyIs_shape hb with ⟨j, u, rfl, e⟩ | ⟨y, u, rfl, e⟩
      · injection e with e1 _; rw [e1]
      · exact nomatch e
    · rcases keyIs_shape hb with ⟨j, u, rfl, e⟩ | ⟨y, u, rfl, e⟩
      · exact nomatch e
      · injection e with e1 _; rw [e1]
  byValue := fun k v h => by
    rcases keyIs_shape h with ⟨i, t, rfl, rfl⟩ | ⟨x, t, rfl, rfl⟩ <;> rfl
  pyHash := fun hv h => by
    rcases keyIs_shape hv with ⟨i, t, rfl, rfl⟩ | ⟨x, t, rfl, rfl⟩
    · exact wpAny_pyHash_int h
    · exact wpAny_pyHash_str h
  eqBool := fun hu hv h => by
    rcases keyIs_shape hu with ⟨i, t, rfl, rfl⟩ | ⟨x, t, rfl, rfl⟩
    · rcases keyIs_shape hv with ⟨j, u, rfl, rfl⟩ | ⟨y, u, rfl, rfl⟩
      · rw [key_ll] at h; exact wpAny_eqBool_int h
      · rw [key_lr] at h; exact SeqAt.EqAt.int_str i t y u _ _ _ _ h
    · rcases keyIs_shape hv with ⟨j, u, rfl, rfl⟩ | ⟨y, u, rfl, rfl⟩
      · rw [key_rl] at h; exact SeqAt.EqAt.str_int x t j u _ _ _ _ h
      · rw [key_rr] at h; exact wpAny_eqBool_str h
  «strs» := fun k x t v h => by
    rcases keyIs_shape h with ⟨i, u, rfl, e⟩ | ⟨y, u, rfl, e⟩
    · exact nomatch e
    · injection e with e1 _
      subst e1
      cases v <;> rfl

theorem mixKind_is (prog : Program) (w : World) (k : Key) (v : Value) : (mixKind prog w).is k v = keyIs k v := rfl
theorem mixKind_int (prog : Program) (w : World) (i : Int) (t : Tok) : (mixKind prog w).is (.inl i) (.int i t) = true := keyIs_int i t
theorem mixKind_str (prog : Program) (w : World) (x : Str) (t : Tok) : (mixKind prog w).is (.inr x) (.str x t) = true := keyIs_str x t
end L2

namespace L2
open PySem PySem.Spec PyProof.Rows

/-- a value, without the heap -/
inductive V where
  | non | bl (b : Bool) | int (i : Int) | str (x : Str) | byt (b : Array UInt8) | flt (b : UInt64) | ref (a : Addr) | ty (n : String)
  deriving DecidableEq

def RelV : V → Value → Prop
  | .non, u => u = Value.none
  | .bl b, u => u = Value.bool b
  | .int i, u => ∃ t, u = Value.int i t
  | .str x, u => ∃ t, u = Value.str x t
  | .byt b, u => ∃ t, u = Value.bytes b t
  | .flt b, u => ∃ t, u = Value.float b t
  | .ref a, u => u = Value.ref a
  | .ty n, u => u = Value.type n

abbrev Vals : List V → List Value → Prop := Paired RelV
theorem Vals.length {xs : List V} {us : List Value} (r : Vals xs us) : xs.length = us.length := Paired.length r
theorem Vals.get : ∀ {xs : List V} {us : List Value} {i : Nat} {x : V}, Vals xs us → xs[i]? = some x → ∃ u, us[i]? = some u ∧ RelV x u
  | _, _, _, _, .nil, e => by simp at e
  | _, _, 0, _, .cons r _, e => by simp at e; subst e; exact ⟨_, rfl, r⟩
  | _, _, i + 1, x, .cons _ t, e => by
    obtain ⟨u, h1, h2⟩ := Vals.get (i := i) (x := x) t (by simpa using e)
    exact ⟨u, by simpa using h1, h2⟩
theorem Vals.set {x : V} {u : Value} (r : RelV x u) : ∀ {xs : List V} {us : List Value} (i : Nat), Vals xs us → Vals (xs.set i x) (us.set i u)
  | _, _, _, .nil => .nil
  | _, _, 0, .cons _ t => .cons r t
  | _, _, i + 1, .cons q t => .cons q (Vals.set r i t)
theorem Vals.append : ∀ {xs ys : List V} {us ws : List Value}, Vals xs us → Vals ys ws → Vals (xs ++ ys) (us ++ ws)
  | _, _, _, _, .nil, s => s
  | _, _, _, _, .cons r t, s => .cons r (Vals.append t s)
theorem Vals.take : ∀ {xs : List V} {us : List Value} (n : Nat), Vals xs us → Vals (xs.take n) (us.take n)
  | _, _, 0, _ => .nil
  | _, _, _ + 1, .nil => .nil
  | _, _, n + 1, .cons r t => .cons r (Vals.take n t)
theorem Vals.drop : ∀ {xs : List V} {us : List Value} (n : Nat), Vals xs us → Vals (xs.drop n) (us.drop n)
  | _, _, 0, r => r
  | _, _, _ + 1, .nil => .nil
  | _, _, n + 1, .cons _ t => Vals.drop n t
theorem Vals.none_of : ∀ {xs : List V} {us : List Value} {i : Nat}, Vals xs us → xs[i]? = none → us[i]? = none := fun {xs us i} r e => by
  have h1 := r.length
  have h2 : xs.length ≤ i := List.getElem?_eq_none_iff.mp e
  exact List.getElem?_eq_none_iff.mpr (by omega)

def RelO : Option V → Option Value → Prop
  | some v, some u => RelV v u
  | none, none => True
  | _, _ => False
def KV {κ : Type} : List (κ × V) → List (κ × Value) → Prop := Paired fun (p : κ × V) (q : κ × Value) => p.1 = q.1 ∧ RelV p.2 q.2

/-- a key of a dict (00_mix): an int or a text -/
def kV : Key → V
  | .inl i => .int i
  | .inr x => .str x

/-- what stands at a tracked address -/
inductive HO where
  /-- a list -/
  | lst (xs : List V)
  /-- a tuple (never changes) -/
  | tup (xs : List V)
  /-- a dict whose keys are ints and texts; one whose keys are tuples of ints and texts (the empty one is both) -/
  | dK (kvs : List (Key × V)) | dT (kvs : List (List Key × V))
  /-- a set of ints: its members, its size -/
  | set (S : Int → Bool) (n : Nat)
  /-- an instance of the class at C, its dict at dx, its attributes -/
  | ins (C dx : Addr) (fs : List (Str × V))
  /-- the dict of the instance at x -/
  | own (x : Addr)
  /-- the dict of an exception -/
  | xd (fs : List (Str × V))
  /-- a bound method, f of x -/
  | met (f x : Addr)
  /-- a range object lo, lo + 1, .. below hi -/
  | rng (lo hi : Int)
  /-- a thing that is known to the object (the script; a dict while a loop walks it): read, never written while it is so -/
  | frz (o : Obj) (u : HO)
  /-- a code object's table -/
  | tbl (ps : Array Value)
  /-- any other thing, by what is true of its one object (a def of one's own: SetO a S n := HO.ext fun h => ..) -/
  | ext (φ : Heap → Prop)

abbrev Hp := Addr → Option HO
def upd (H : Hp) (a : Addr) (o : HO) : Hp := fun b => if b = a then some o else H b
theorem upd_same {H : Hp} {a : Addr} {o : HO} : upd H a o a = some o := by unfold upd; rw [if_pos rfl]
theorem upd_ne {H : Hp} {a b : Addr} {o : HO} (h : b ≠ a) : upd H a o b = H b := by unfold upd; rw [if_neg h]
theorem upd_upd {H : Hp} {a : Addr} {o u : HO} : upd (upd H a o) a u = upd H a u := by
  funext b; unfold upd; split <;> rfl
/-- two objects of different content stand apart -/
theorem ne_of {H : Hp} {a b : Addr} {o u : HO} (h : H a = some o) (h' : H b = some u) (d : o ≠ u) : a ≠ b := by
  intro e; subst e; rw [h] at h'; exact d (Option.some.inj h')
theorem ne_of_none {H : Hp} {a b : Addr} {o : HO} (h : H a = some o) (h' : H b = none) : a ≠ b := by
  intro e; subst e; rw [h] at h'; cases h'

section
variable (P : Program) (w : World)
def ObjOk (H : Hp) (h : Heap) (a : Addr) : HO → Prop
  | .lst xs => xs.length ≤ sizeLine ∧ ∃ (its : List Value) (n : Nat), Vals xs its ∧ h.get? a = some { cls := .type "list", data := .seq its.toArray n }
  | .tup xs => xs.length ≤ sizeLine ∧ ∃ its : List Value, Vals xs its ∧ IsTup h a its.toArray
  | .dK kvs => kvs.length ≤ sizeLine ∧ (a == sysModules) = false ∧ ∃ vs, KV kvs vs ∧ h.DictOf (mixKind P w) a vs
  | .dT kvs => kvs.length ≤ sizeLine ∧ (a == sysModules) = false ∧ ∃ xs : List (List Key × Addr × Value),
      Paired (fun (p : List Key × V) (q : List Key × Addr × Value) => p.1 = q.1 ∧ H q.2.1 = some (.tup (p.1.map kV)) ∧ RelV p.2 q.2.2) kvs xs ∧
      ∃ o es ep, h.get? a = some o ∧ o.ExactDict ∧ o.data = .dict es ep ∧ es.toList = xs.map (entryOfKey (tupleKind (mixKind P w))) ∧ (xs.map (·.1)).Nodup
  | .set S n => h.SetOf (intKind P w) a S n
  | .ins C dx fs => H dx = some (.own a) ∧ fs.length ≤ 1000 ∧ dx ≠ a ∧ h.get? a = some (PySem.W.instObj C dx) ∧
      ∃ mA, h.Ns1 dx mA ∧ (∀ f, RelO (fs.lookup f) (mA f)) ∧ PySem.Within mA (fs.map (·.1))
  | .own _ => ∃ o, h.get? a = some o
  | .xd fs => ∃ mA, h.Ns1 a mA ∧ ∀ f, RelO (fs.lookup f) (mA f)
  | .rng lo hi => ∃ t u v, h.get? a = some { cls := .type "range", data := .fields #[.int lo t, .int hi u, .int 1 v] }
  | .frz o u => h.get? a = some o ∧ ObjOk H h a u
  | .tbl ps => h.get? a = some { cls := .none, data := .fields ps }
  | .met f x => h.get? a = some (PySem.W.methodObj (.ref f) (.ref x))
  | .ext φ => φ h ∧ (∃ o, h.get? a = some o) ∧ ∀ h1 h2 : Heap, φ h1 → (∀ o, h1.get? a = some o → h2.get? a = some o) → φ h2
/-- the abstract heap is held -/
def HOk (H : Hp) (h : Heap) : Prop := ∀ a o, H a = some o → ObjOk P w H h a o
end

section
variable {P : Program} {w : World} {H H' : Hp} {h h' : Heap} {a : Addr} {o : HO}
theorem ObjOk.lt (x : ObjOk P w H h a o) : a < h.objs.size := by
  cases o with
  | lst xs => obtain ⟨_, _, _, _, e⟩ := x; exact Heap.lt_size e
  | tup xs => obtain ⟨_, _, _, p⟩ := x; exact p.lt
  | dK kvs => obtain ⟨_, _, _, _, o, _, _, e, _⟩ := x; exact Heap.lt_size e
  | dT kvs => obtain ⟨_, _, _, _, o, _, _, e, _⟩ := x; exact Heap.lt_size e
  | set S n => obtain ⟨o, _, _, _, e, _⟩ := x; exact Heap.lt_size e
  | ins C dx fs => obtain ⟨_, _, _, e, _⟩ := x; exact Heap.lt_size e
  | own y => obtain ⟨_, e⟩ := x; exact Heap.lt_size e
  | xd fs => obtain ⟨_, ⟨_, _, _, e, _⟩, _⟩ := x; exact Heap.lt_size e
  | rng lo hi => obtain ⟨_, _, _, e⟩ := x; exact Heap.lt_size e
  | frz ob u => obtain ⟨e, _⟩ := x; exact Heap.lt_size e
  | tbl ps => exact Heap.lt_size (show h.get? a = some _ from x)
  | met f y => exact Heap.lt_size (show h.get? a = some _ from x)
  | ext φ => obtain ⟨_, ⟨_, e⟩, _⟩ := x; exact Heap.lt_size e
theorem Paired.mapP {α β : Type} {F G : α → β → Prop} : ∀ {l₁ : List α} {l₂ : List β}, Paired F l₁ l₂ → (∀ a b, F a b → G a b) → Paired G l₁ l₂
  | _, _, .nil, _ => .nil
  | _, _, .cons r t, f => .cons (f _ _ r) (Paired.mapP t f)
theorem Paired.imp' {α β : Type} {F G : α → β → Prop} (f : ∀ a b, F a b → G a b) {l₁ : List α} {l₂ : List β} (r : Paired F l₁ l₂) : Paired G l₁ l₂ := Paired.mapP r f
/-- what an object's description leans on: its own object, its own dict, the tuples -/
theorem ObjOk.stay (x : ObjOk P w H h a o) (k : ∀ b u, (b = a ∨ H b = some (.own a)) → h.get? b = some u → h'.get? b = some u)
    (ho : ∀ b, H b = some (.own a) → H' b = some (.own a)) (ht : ∀ b xs, H b = some (.tup xs) → H' b = some (.tup xs)) : ObjOk P w H' h' a o := by
  induction o with
  | lst xs => obtain ⟨z, its, n, r, e⟩ := x; exact ⟨z, its, n, r, k _ _ (.inl rfl) e⟩
  | tup xs => obtain ⟨z, its, r, ob, e, c⟩ := x; exact ⟨z, its, r, ob, k _ _ (.inl rfl) e, c⟩
  | dK kvs => obtain ⟨z, y, vs, r, ob, es, ep, e, c⟩ := x; exact ⟨z, y, vs, r, ob, es, ep, k _ _ (.inl rfl) e, c⟩
  | dT kvs =>
    obtain ⟨z, y, xs, r, ob, es, ep, e, c⟩ := x
    exact ⟨z, y, xs, Paired.mapP r fun p q z => ⟨z.1, ht _ _ z.2.1, z.2.2⟩, ob, es, ep, k _ _ (.inl rfl) e, c⟩
  | set S n => obtain ⟨ob, es, ep, t, e, c⟩ := x; exact ⟨ob, es, ep, t, k _ _ (.inl rfl) e, c⟩
  | ins C dx fs =>
    obtain ⟨d, z, ne, e, mA, ⟨od, es, ep, e2, c⟩, r⟩ := x
    exact ⟨ho _ d, z, ne, k _ _ (.inl rfl) e, mA, ⟨od, es, ep, k _ _ (.inr d) e2, c⟩, r⟩
  | own y => obtain ⟨ob, e⟩ := x; exact ⟨ob, k _ _ (.inl rfl) e⟩
  | xd fs => obtain ⟨mA, ⟨od, es, ep, e, c⟩, r⟩ := x; exact ⟨mA, ⟨od, es, ep, k _ _ (.inl rfl) e, c⟩, r⟩
  | rng lo hi => obtain ⟨t, u, v, e⟩ := x; exact ⟨t, u, v, k _ _ (.inl rfl) e⟩
  | frz ob u ih => obtain ⟨e, q⟩ := x; exact ⟨k _ _ (.inl rfl) e, ih q⟩
  | tbl ps =>
    have e : h.get? a = some { cls := .none, data := .fields ps } := x
    show h'.get? a = some { cls := .none, data := .fields ps }
    exact k a _ (.inl rfl) e
  | met f y =>
    have e : h.get? a = some (PySem.W.methodObj (.ref f) (.ref y)) := x
    show h'.get? a = some (PySem.W.methodObj (.ref f) (.ref y))
    exact k a _ (.inl rfl) e
  | ext φ => obtain ⟨p, ⟨o, e⟩, st⟩ := x; exact ⟨st _ _ p fun o q => k _ _ (.inl rfl) q, ⟨o, k _ _ (.inl rfl) e⟩, st⟩
theorem HOk.lt (x : HOk P w H h) (e : H a = some o) : a < h.objs.size := (x a o e).lt
theorem HOk.fresh (x : HOk P w H h) (e : h.objs.size ≤ a) : H a = none := by
  cases q : H a with
  | none => rfl
  | some u => exact absurd (Nat.lt_of_lt_of_le (x.lt q) e) (Nat.lt_irrefl _)
/-- every object of the heap is kept -/
theorem HOk.kept (x : HOk P w H h) (k : ∀ b u, h.get? b = some u → h'.get? b = some u) : HOk P w H h' := fun a o e =>
  (x a o e).stay (fun b u _ q => k b u q) (fun _ q => q) fun _ _ q => q
/-- a new object is laid and tracked -/
theorem HOk.laid (x : HOk P w H h) (k : ∀ b u, h.get? b = some u → h'.get? b = some u) (hp : h.objs.size ≤ a) (new : ObjOk P w (upd H a o) h' a o) : HOk P w (upd H a o) h' := fun b u e => by
  have hn := x.fresh hp
  by_cases hb : b = a
  · subst hb; rw [upd_same] at e; cases e; exact new
  · rw [upd_ne hb] at e
    exact (x b u e).stay (fun c v _ q => k c v q) (fun c q => by rw [upd_ne (ne_of_none q hn)]; exact q) fun c xs q => by rw [upd_ne (ne_of_none q hn)]; exact q
end

/-- what may be read as u: it is u, or a known u -/
def Rd (H : Hp) (a : Addr) (u : HO) : Prop := H a = some u ∨ ∃ o, H a = some (.frz o u)
theorem Rd.of {H : Hp} {a : Addr} {u : HO} (h : H a = some u) : Rd H a u := .inl h
theorem Rd.ok {P : Program} {w : World} {H : Hp} {h : Heap} {a : Addr} {u : HO} (r : Rd H a u) (x : HOk P w H h) : ObjOk P w H h a u := by
  rcases r with r | ⟨o, r⟩
  · exact x a u r
  · obtain ⟨_, q⟩ := x a _ r
    exact q
/-- what may be written -/
def Mut : Option HO → Prop
  | some (.lst _) => True
  | some (.dK _) => True
  | some (.dT _) => True
  | some (.set _ _) => True
  | some (.ins _ _ _) => True
  | some (.ext _) => True
  | _ => False
section
variable {P : Program} {w : World} {H : Hp} {h h' : Heap} {x e : Addr} {o' : HO}
/-- the object at e is changed: x itself, or the dict of the instance x -/
theorem HOk.write (ok : HOk P w H h) (mu : Mut (H x)) (he : e = x ∨ H e = some (.own x)) (k : ∀ b u, b ≠ e → h.get? b = some u → h'.get? b = some u) (heo : ∃ u, h'.get? e = some u)
    (new : ObjOk P w (upd H x o') h' x o') : HOk P w (upd H x o') h' := fun b u q => by
  have nown : ∀ c y, H c = some (.own y) → c ≠ x := fun c y r z => by subst z; rw [r] at mu; exact mu
  have ntup : ∀ c xs, H c = some (.tup xs) → c ≠ x := fun c xs r z => by subst z; rw [r] at mu; exact mu
  by_cases hb : b = x
  · subst hb; rw [upd_same] at q; cases q; exact new
  · rw [upd_ne hb] at q
    by_cases hbe : b = e
    · have q' : H b = some (.own x) := by
        rcases he with z | z
        · exact absurd (hbe.trans z) hb
        · rw [hbe]; exact z
      rw [q] at q'; cases q'
      obtain ⟨v, hv⟩ := heo
      exact ⟨v, by rw [hbe]; exact hv⟩
    · refine (ok b u q).stay (fun c v hc r => k c v ?_ r) (fun c r => by rw [upd_ne (nown c b r)]; exact r) fun c xs r => by rw [upd_ne (ntup c xs r)]; exact r
      rcases hc with rfl | hc
      · exact hbe
      · rintro rfl
        rcases he with z | z
        · exact nown c b hc z
        · rw [hc] at z; cases z; exact hb rfl
end

/-! ### kept unless tracked; of the frames at fs (the callers') the slots may change (an exception that passes writes there); of the records at ex (iterators) nothing is said -/
structure Un (fs ex : List Addr) (H H' : Hp) (h h' : Heap) : Prop where
  keep : ∀ b o, h.get? b = some o → H b = none → b ∉ fs → b ∉ ex → h'.get? b = some o
  slot : ∀ b o, h.get? b = some o → H b = none → b ∈ fs → b ∉ ex → ∃ sl, h'.get? b = some { o with slots := sl }
  free : ∀ b o, h.get? b = some o → H b = none → b ∉ ex → H' b = none
  there : ∀ b o, h.get? b = some o → b ∉ ex → ∃ o', h'.get? b = some o'
  tups : ∀ b xs, H b = some (.tup xs) → H' b = some (.tup xs)
  frzs : ∀ b o u, H b = some (.frz o u) → H' b = some (.frz o u)
  tbls : ∀ b ps, H b = some (.tbl ps) → ∃ more, H' b = some (.tbl (ps ++ more))
section
variable {fs fs' ex ex' : List Addr} {H H1 H2 : Hp} {h h1 h2 h' : Heap} {a x e : Addr} {o : HO}
theorem Un.any (u : Un fs ex H H1 h h1) {b : Addr} {ob : Obj} (q : h.get? b = some ob) (n : H b = none) (hx : b ∉ ex) : ∃ sl, h1.get? b = some { ob with slots := sl } := by
  by_cases hb : b ∈ fs
  · exact u.slot b ob q n hb hx
  · exact ⟨ob.slots, u.keep b ob q n hb hx⟩
theorem Un.trans (a : Un fs ex H H1 h h1) (b : Un fs ex H1 H2 h1 h2) : Un fs ex H H2 h h2 where
  keep := fun c ob q n hc hx => b.keep c ob (a.keep c ob q n hc hx) (a.free c ob q n hx) hc hx
  slot := fun c ob q n hc hx => by
    obtain ⟨sl, e1⟩ := a.slot c ob q n hc hx
    obtain ⟨sl', e2⟩ := b.slot c _ e1 (a.free c ob q n hx) hc hx
    exact ⟨sl', e2⟩
  free := fun c ob q n hx => by
    obtain ⟨o', e1⟩ := a.there c ob q hx
    exact b.free c o' e1 (a.free c ob q n hx) hx
  there := fun c ob q hx => by
    obtain ⟨o', e1⟩ := a.there c ob q hx
    exact b.there c o' e1 hx
  tups := fun c xs q => b.tups c xs (a.tups c xs q)
  frzs := fun c ob xs q => b.frzs c ob xs (a.frzs c ob xs q)
  tbls := fun c ps q => by
    obtain ⟨m1, e1⟩ := a.tbls c ps q
    obtain ⟨m2, e2⟩ := b.tbls c _ e1
    exact ⟨m1 ++ m2, by rw [e2, Array.append_assoc]⟩
theorem Un.kept (k : ∀ b u, h.get? b = some u → h'.get? b = some u) : Un fs ex H H h h' :=
  ⟨fun b ob q _ _ _ => k b ob q, fun b ob q _ _ _ => ⟨ob.slots, k b ob q⟩, fun _ _ _ n _ => n, fun b ob q _ => ⟨ob, k b ob q⟩, fun _ _ q => q, fun _ _ _ q => q, fun _ ps q => ⟨#[], by rw [q]; simp⟩⟩
theorem Un.refl : Un fs ex H H h h := Un.kept fun _ _ q => q
theorem Un.laid (k : ∀ b u, h.get? b = some u → h'.get? b = some u) (hp : h.objs.size ≤ a) (hn : H a = none) : Un fs ex H (upd H a o) h h' where
  keep := fun b u q _ _ _ => k b u q
  slot := fun b u q _ _ _ => ⟨u.slots, k b u q⟩
  free := fun b u q n _ => by rw [upd_ne (Nat.ne_of_lt (Nat.lt_of_lt_of_le (Heap.lt_size q) hp))]; exact n
  there := fun b u q _ => ⟨u, k b u q⟩
  tups := fun b xs q => by rw [upd_ne (ne_of_none q hn)]; exact q
  frzs := fun b u xs q => by rw [upd_ne (ne_of_none q hn)]; exact q
  tbls := fun b ps q => ⟨#[], by rw [upd_ne (ne_of_none q hn), q]; simp⟩
theorem Un.write (mu : Mut (H x)) (he : e = x ∨ H e = some (.own x)) (k : ∀ b u, b ≠ e → h.get? b = some u → h'.get? b = some u) (heo : ∃ u, h'.get? e = some u) : Un fs ex H (upd H x o) h h' := by
  have hx : ∀ b, H b = none → b ≠ x := fun b n z => by subst z; rw [n] at mu; exact mu
  have hb : ∀ b, H b = none → b ≠ e := fun b n z => by
    subst z
    rcases he with r | r
    · exact hx b n r
    · rw [n] at r; cases r
  have hm : ∀ b u, H b = some u → ¬ Mut (some u) → b ≠ x := fun b u q nm z => by subst z; rw [q] at mu; exact nm mu
  refine ⟨fun b u q n _ _ => k b u (hb b n) q, fun b u q n _ _ => ⟨u.slots, k b u (hb b n) q⟩, fun b u q n _ => by rw [upd_ne (hx b n)]; exact n, fun b u q _ => ?_,
    fun b xs q => by rw [upd_ne (hm b _ q fun z => z)]; exact q, fun b u xs q => by rw [upd_ne (hm b _ q fun z => z)]; exact q, fun b ps q => ⟨#[], by rw [upd_ne (hm b _ q fun z => z), q]; simp⟩⟩
  by_cases hbe : b = e
  · subst hbe; exact heo
  · exact ⟨u, k b u hbe q⟩
theorem Un.mono (u : Un fs ex H H1 h h1) (hs : ∀ b ∈ fs, b ∈ fs') (hx : ∀ b ∈ ex, b ∈ ex') : Un fs' ex' H H1 h h1 :=
  ⟨fun b ob q n hb he => u.keep b ob q n (fun z => hb (hs b z)) fun z => he (hx b z), fun _ _ q n _ he => u.any q n fun z => he (hx _ z), fun b ob q n he => u.free b ob q n fun z => he (hx b z), fun b ob q he => u.there b ob q fun z => he (hx b z), u.tups, u.frzs, u.tbls⟩
end

/-! ### the heap without what is tracked -/
def trk (h : Heap) (H : Hp) : List Addr := (List.range h.objs.size).filter fun a => (H a).isSome
def hidT (h : Heap) (H : Hp) : Heap := PySem.W.hideAll h (trk h H)
theorem hidT_size (h : Heap) (H : Hp) : (hidT h H).objs.size = h.objs.size := PySem.W.hideAll_size _ _
theorem hidT_get {h : Heap} {H : Hp} {b : Addr} {o : Obj} (e : h.get? b = some o) (n : H b = none) : (hidT h H).get? b = some o :=
  PySem.W.hideAll_get _ e fun hm => by
    have q : (H b).isSome = true := (List.mem_filter.mp hm).2
    rw [n] at q; simp at q
theorem of_hidT {h : Heap} {H : Hp} {b : Addr} {o : Obj} (e : (hidT h H).get? b = some o) : h.get? b = some o ∧ H b = none := by
  have e' : h.get? b = some o := PySem.W.of_hideAll (trk h H) e
  refine ⟨e', ?_⟩
  cases q : H b with
  | none => rfl
  | some x =>
    have hm : b ∈ trk h H := List.mem_filter.mpr ⟨List.mem_range.mpr (Heap.lt_size e'), by simp [q]⟩
    have z : (hidT h H).get? b = none := PySem.W.hideAll_none (trk h H) hm
    rw [z] at e; cases e

/-! ### OpenK's ledger, filled with every new object but one -/
def allNews (g h : Heap) (L : Addr) : List (Addr × Obj) := (List.range h.objs.size).filterMap fun a => if a = L ∨ (g.get? a).isSome = true then none else (h.get? a).map fun o => (a, o)
theorem mem_allNews {g h : Heap} {L a : Addr} {o : Obj} (h1 : a ≠ L) (h2 : g.get? a = none) (h3 : h.get? a = some o) : (a, o) ∈ allNews g h L :=
  List.mem_filterMap.mpr ⟨a, List.mem_range.mpr (Heap.lt_size h3), by simp [h1, h2, h3]⟩
theorem of_mem_allNews {g h : Heap} {L : Addr} {p : Addr × Obj} (hp : p ∈ allNews g h L) : p.1 ≠ L ∧ g.get? p.1 = none ∧ h.get? p.1 = some p.2 := by
  obtain ⟨b, _, e⟩ := List.mem_filterMap.mp hp
  split at e
  · cases e
  · rename_i hn
    cases q : h.get? b with
    | none => rw [q] at e; simp at e
    | some u =>
      rw [q] at e
      simp only [Option.map_some, Option.some.injEq] at e
      subst e
      refine ⟨fun z => hn (.inl z), ?_, q⟩
      show g.get? b = none
      cases r : g.get? b with
      | none => rfl
      | some v => exact (hn (.inr (by simp [r]))).elim
def rest (g h : Heap) (L d : Addr) : List (Addr × Obj) := (allNews g h L).filter fun p => decide (p.1 ≠ d)
theorem rest_ne {g h : Heap} {L d : Addr} : ∀ p ∈ rest g h L d, p.1 ≠ d := fun p hp => of_decide_eq_true (List.mem_filter.mp hp).2
theorem mem_rest {g h : Heap} {L d a : Addr} {o : Obj} (h1 : a ≠ L) (h2 : g.get? a = none) (h3 : h.get? a = some o) (h4 : a ≠ d) : (a, o) ∈ rest g h L d :=
  List.mem_filter.mpr ⟨mem_allNews h1 h2 h3, decide_eq_true h4⟩
theorem news_all {g h : Heap} {L : Addr} : News g L h (allNews g h L) := fun p hp => let ⟨a, b, c⟩ := of_mem_allNews hp; ⟨c, a, b⟩
theorem news_at {g h : Heap} {L d : Addr} {o : Obj} (h1 : d ≠ L) (h2 : g.get? d = none) (h3 : h.get? d = some o) : News g L h ((d, o) :: rest g h L d) := fun p hp => by
  rcases List.mem_cons.mp hp with rfl | hp
  · exact ⟨h3, h1, h2⟩
  · exact news_all p (List.mem_filter.mp hp).1
/-- behind a rule that changed d alone: all else but the frame is kept -/
theorem kept_of_news {g h h' : Heap} {L d : Addr} {m : Str → Option Value} (k : ∀ b o, g.get? b = some o → h.get? b = some o) (F : Fr g L h' m) (N : News g L h' (rest g h L d)) :
    ∀ b o, b ≠ L → b ≠ d → h.get? b = some o → h'.get? b = some o := fun b o h1 h2 e => by
  cases q : g.get? b with
  | some u =>
    have := k b u q
    rw [e] at this; cases this
    exact F.keep b _ q
  | none => exact (N (b, o) (mem_rest h1 q e h2)).1
end L2

namespace L2
open PySem PySem.Spec PyProof.Rows

/-- the module's facts, over the base: the heap at the law's entry without what is tracked there -/
structure Mod (K : PySem.W.Frag) (mg : Str → Option Value) (base : Heap) : Prop where
  kin : K.In base
  glob : base.Ns mainGlobals mg
  blt : ∃ mb, base.Ns builtinsNs mb ∧ ∀ x : Str, x ≠ "__name__" → mb x = bootBuiltins x
  nolimit : base.NoLimit

/-- the context: a def's body (or a comprehension's block) running. base: fixed through the whole law; s₀, H₀: the entry; outer: the frames whose slots others may change (a def's callers); stack: all frames that run;
   ex: iterators that were made ahead of the entry and are walked here (a comprehension's); fn: the names whose cells were made at the entry (a def: all; a comprehension's block: its own); calm: not within an except suite; pn: pins that every state bears; xe: what is wanted of an exception that leaves the code -/
structure Cx where
  prog : Program
  w : World
  K : PySem.W.Frag
  mg : Str → Option Value
  base : Heap
  A : Around
  N : List Str
  s₀ : Shared
  H₀ : Hp
  env : Env
  outer : List Env
  stack : List Env
  ex : List Addr
  fn : Str → Bool
  calm : Bool
  pn : List (Addr × Obj)
  xe : Value → Shared → Prop
/-- the callers' frames -/
def frs (l : List Env) : List Addr := l.filterMap (·.frame)
abbrev Cx.fs (X : Cx) : List Addr := frs X.outer

def Vis (sc : Scope) (x : Str) : Prop := sc.names.lookup x = some .local ∨ sc.names.lookup x = some .cell ∨ sc.names.lookup x = some .free
def Loc (sc : Scope) (x : Str) : Prop := sc.names.lookup x = some .local ∨ sc.names.lookup x = some .cell
def Look (env : Env) (h : Heap) (m : Str → Option Value) (x : Str) (u : Value) : Prop :=
  (env.kindOf x = some .local ∧ m x = some u) ∨ ((env.kindOf x = some .cell ∨ env.kindOf x = some .free) ∧ ∃ c, env.cells.lookup x = some c ∧ h.IsCell c (some u))

structure Cx.Ok (X : Cx) : Prop where
  mod : Mod X.K X.mg X.base
  kind : X.env.scope.kind = .function
  glob : X.env.globals = mainGlobals
  blt : X.env.builtins = builtinsNs
  above : X.s₀.heap.objs.size ≤ X.env.locals
  inj : ∀ x y c, X.env.cells.lookup x = some c → X.env.cells.lookup y = some c → x = y
  has : ∀ x, (X.env.kindOf x = some .cell ∨ X.env.kindOf x = some .free) → ∃ c, X.env.cells.lookup x = some c
  cab : ∀ x c, X.fn x = true → X.env.cells.lookup x = some c → X.s₀.heap.objs.size ≤ c
  hd : X.calm = true → X.A.handled = none
  frames : X.A.frames = some X.stack
  stk : X.stack = X.outer ∨ (X.stack = X.env :: X.outer ∧ X.env.frame = some X.env.locals)
  exf : ∀ b ∈ X.ex, b ≠ X.env.locals ∧ ∀ x c, X.env.cells.lookup x = some c → c ≠ b
  bs : ∀ b o, X.base.get? b = some o → X.s₀.heap.get? b = some o ∧ X.H₀ b = none
  bsz : X.base.objs.size ≤ X.s₀.heap.objs.size
  noex : ∀ b o, X.base.get? b = some o → b ∉ X.ex
  exfs : ∀ b ∈ X.ex, b ∉ X.fs
  funs : X.s₀.heap.FunFrames X.base X.outer
  frf : ∀ b ∈ X.fs, X.H₀ b = none

structure Inv (X : Cx) (pins : List (Addr × Obj)) (σ : List (Option V)) (H : Hp) (s : Shared) : Prop where
  ok : X.Ok
  os : s.os = X.s₀.os
  bare : AllBare s.gens
  base : Un X.fs X.ex X.H₀ H X.s₀.heap s.heap
  loc : ∃ m, s.heap.Ns X.env.locals m ∧ ∀ (i : Nat) (x : Str) (v : V), X.N[i]? = some x → σ[i]? = some (some v) → Vis X.env.scope x → ∃ u, RelV v u ∧ Look X.env s.heap m x u
  cell : ∀ x c, X.env.cells.lookup x = some c → ∃ v, s.heap.IsCell c v
  free : H X.env.locals = none
  freeC : ∀ x c, X.env.cells.lookup x = some c → H c = none
  pin : ∀ p ∈ X.pn ++ pins, s.heap.get? p.1 = some p.2 ∧ H p.1 = none ∧ p.1 ≠ X.env.locals ∧ p.1 ∉ X.fs ∧ ∀ v, p.2.data ≠ .cell v
  hok : HOk X.prog X.w H s.heap
  len : σ.length = X.N.length

section
variable {X : Cx} {pins : List (Addr × Obj)} {σ : List (Option V)} {H H' : Hp} {s : Shared} {h' : Heap}

theorem Cx.Ok.nofr (ok : X.Ok) {b : Addr} {o : Obj} (e : X.base.get? b = some o) : b ∉ X.fs := fun hb => by
  have := (ok.funs.mem hb).1
  rw [e] at this; cases this
theorem Inv.bs (I : Inv X pins σ H s) : ∀ b o, X.base.get? b = some o → s.heap.get? b = some o ∧ H b = none := fun b o e =>
  ⟨I.base.keep b o (I.ok.bs b o e).1 (I.ok.bs b o e).2 (I.ok.nofr e) (I.ok.noex b o e), I.base.free b o (I.ok.bs b o e).1 (I.ok.bs b o e).2 (I.ok.noex b o e)⟩
theorem Inv.bk (I : Inv X pins σ H s) : ∀ b o, X.base.get? b = some o → s.heap.get? b = some o := fun b o e => (I.bs b o e).1
theorem Inv.mod (I : Inv X pins σ H s) : Mod X.K X.mg X.base := I.ok.mod
theorem Inv.kIn (I : Inv X pins σ H s) : X.K.In s.heap := I.ok.mod.kin.keeps I.bk
theorem Inv.nolimit (I : Inv X pins σ H s) : s.heap.NoLimit := I.ok.mod.nolimit.keeps I.bk
/-- the frame over the base: for OpenK's rules (K.In X.base is I.mod.kin) -/
theorem Inv.fr (I : Inv X pins σ H s) : ∃ m, Fr X.base X.env.locals s.heap m :=
  let ⟨m, hn, _⟩ := I.loc
  ⟨m, hn, I.bk, Nat.le_trans I.ok.bsz I.ok.above⟩
theorem Inv.lt (I : Inv X pins σ H s) : X.env.locals < s.heap.objs.size := let ⟨_, hn, _⟩ := I.loc; hn.lt
theorem Inv.sz (I : Inv X pins σ H s) : X.s₀.heap.objs.size ≤ s.heap.objs.size := Nat.le_trans I.ok.above (Nat.le_of_lt I.lt)
theorem Inv.nofs (I : Inv X pins σ H s) {a : Addr} (h : s.heap.objs.size ≤ a) : a ∉ X.fs := fun hb => by
  obtain ⟨_, o, ho, _⟩ := I.ok.funs.mem hb
  exact absurd (Nat.lt_of_lt_of_le (Heap.lt_size ho) (Nat.le_trans I.sz h)) (Nat.lt_irrefl _)
theorem Inv.cne (I : Inv X pins σ H s) : ∀ x c, X.env.cells.lookup x = some c → c ≠ X.env.locals := fun x c e z => by
  obtain ⟨v, o, ho, hd⟩ := I.cell x c e
  obtain ⟨m, ⟨o', es, ep, ho', hd', _⟩, _⟩ := I.loc
  rw [z, ho'] at ho; cases ho; rw [hd'] at hd; cases hd
theorem Inv.funs (I : Inv X pins σ H s) : s.heap.FunFrames X.base X.outer := by
  have all : ∀ (l : List Env), (∀ b ∈ frs l, b ∈ X.fs) → X.s₀.heap.FunFrames X.base l → s.heap.FunFrames X.base l := by
    intro l
    induction l with
    | nil => intro _ _; trivial
    | cons env r ih =>
      intro hs hl
      obtain ⟨hk, ⟨L, o, hf, hn, ho, hd⟩, hr⟩ := hl
      have hL : L ∈ X.fs := hs L (by unfold frs; rw [List.filterMap_cons, hf]; exact List.mem_cons_self)
      obtain ⟨sl, e⟩ := I.base.slot L o ho (I.ok.frf L hL) hL fun z => I.ok.exfs L z hL
      exact ⟨hk, ⟨L, _, hf, hn, e, hd⟩, ih (fun b hb => hs b (by unfold frs; rw [List.filterMap_cons, hf]; exact List.mem_cons_of_mem _ hb)) hr⟩
  exact all X.outer (fun _ hb => hb) I.ok.funs

/-- the frames that run, for a call -/
theorem Inv.stack (I : Inv X pins σ H s) : s.heap.FunFrames X.base X.stack := by
  rcases I.ok.stk with e | ⟨e, hf⟩
  · rw [e]; exact I.funs
  · rw [e]
    obtain ⟨m, hn, _⟩ := I.loc
    refine .cons (by rw [I.ok.kind]; decide) hf hn ?_ I.funs
    exact Heap.get?_none_of_le (Nat.le_trans I.ok.bsz I.ok.above)
theorem Inv.stkSub (I : Inv X pins σ H s) : ∀ b ∈ frs X.stack, b ∈ X.env.locals :: X.fs := fun b hb => by
  rcases I.ok.stk with e | ⟨e, hf⟩
  · rw [e] at hb; exact List.mem_cons_of_mem _ hb
  · rw [e] at hb
    unfold frs at hb
    rw [List.filterMap_cons, hf] at hb
    exact hb
theorem Inv.stkFree (I : Inv X pins σ H s) : ∀ b ∈ frs X.stack, H b = none := fun b hb => by
  rcases List.mem_cons.mp (I.stkSub b hb) with e | hb
  · rw [e]; exact I.free
  · obtain ⟨_, o, ho, _⟩ := I.ok.funs.mem hb
    exact I.base.free b o ho (I.ok.frf b hb) fun z => I.ok.exfs b z hb

/-- THE STEP: the untracked objects but the frame and the records at ch are kept (the callers' frames up to slots), the frame's map is kept, the new abstract heap is held -/
theorem Inv.step {g' : Array GenState} {t' : Nat} {d' : Drawn} {ch : List Addr} (I : Inv X pins σ H s)
    (hch : ∀ b ∈ ch, (b ∈ X.ex ∨ X.s₀.heap.objs.size ≤ b) ∧ b ≠ X.env.locals ∧ (∀ x c, X.env.cells.lookup x = some c → c ≠ b) ∧ ∀ p ∈ X.pn ++ pins, p.1 ≠ b)
    (keep : ∀ b o, b ≠ X.env.locals → b ∉ X.fs → b ∉ ch → s.heap.get? b = some o → H b = none → h'.get? b = some o)
    (slot : ∀ b o, b ≠ X.env.locals → b ∈ X.fs → b ∉ ch → s.heap.get? b = some o → H b = none → ∃ sl, h'.get? b = some { o with slots := sl }) (free : ∀ b o, b ∉ ch → s.heap.get? b = some o → H b = none → H' b = none)
    (there : ∀ b o, b ∉ ch → s.heap.get? b = some o → ∃ o', h'.get? b = some o')
    (tups : ∀ b xs, H b = some (.tup xs) → H' b = some (.tup xs)) (frzs : ∀ b o u, H b = some (.frz o u) → H' b = some (.frz o u)) (tbls : ∀ b ps, H b = some (.tbl ps) → ∃ more, H' b = some (.tbl (ps ++ more)))
    (ns : ∀ m, s.heap.Ns X.env.locals m → h'.Ns X.env.locals m) (hok : HOk X.prog X.w H' h') (hg : AllBare g') :
    Inv X pins σ H' { s with heap := h', gens := g', drawn := d', toks := t' } := by
  have neL : ∀ b o, X.s₀.heap.get? b = some o → b ≠ X.env.locals := fun b o e => Nat.ne_of_lt (Nat.lt_of_lt_of_le (Heap.lt_size e) I.ok.above)
  have neC : ∀ b o, X.s₀.heap.get? b = some o → b ∉ X.ex → b ∉ ch := fun b o e hx hb => by
    rcases (hch b hb).1 with z | z
    · exact hx z
    · exact absurd (Nat.lt_of_lt_of_le (Heap.lt_size e) z) (Nat.lt_irrefl _)
  have cellK : ∀ x c, X.env.cells.lookup x = some c → ∀ v, s.heap.IsCell c v → h'.IsCell c v := fun x c e v ⟨o, ho, hd⟩ => by
    have nch : c ∉ ch := fun z => (hch c z).2.2.1 x c e rfl
    by_cases hc : c ∈ X.fs
    · obtain ⟨sl, q⟩ := slot c o (I.cne x c e) hc nch ho (I.freeC x c e)
      exact ⟨_, q, hd⟩
    · exact ⟨o, keep c o (I.cne x c e) hc nch ho (I.freeC x c e), hd⟩
  refine ⟨I.ok, I.os, hg, ⟨fun b o e n hb hx => ?_, fun b o e n hb hx => ?_, fun b o e n hx => ?_, fun b o e hx => ?_, fun b xs e => tups b xs (I.base.tups b xs e), fun b o xs e => frzs b o xs (I.base.frzs b o xs e), fun b ps e => ?_⟩, ?_, fun x c e => ?_, ?_, fun x c e => ?_, fun p hp => ?_, hok, I.len⟩
  · exact keep b o (neL b o e) hb (neC b o e hx) (I.base.keep b o e n hb hx) (I.base.free b o e n hx)
  · obtain ⟨sl, e1⟩ := I.base.slot b o e n hb hx
    obtain ⟨sl', e2⟩ := slot b _ (neL b o e) hb (neC b o e hx) e1 (I.base.free b o e n hx)
    exact ⟨sl', e2⟩
  · obtain ⟨o', e1⟩ := I.base.there b o e hx
    exact free b o' (neC b o e hx) e1 (I.base.free b o e n hx)
  · obtain ⟨o', e1⟩ := I.base.there b o e hx
    exact there b o' (neC b o e hx) e1
  · obtain ⟨m1, e1⟩ := I.base.tbls b ps e
    obtain ⟨m2, e2⟩ := tbls b _ e1
    exact ⟨m1 ++ m2, by rw [e2, Array.append_assoc]⟩
  · obtain ⟨m, hn, hl⟩ := I.loc
    refine ⟨m, ns m hn, fun i x v e1 e2 e3 => ?_⟩
    obtain ⟨u, r, l⟩ := hl i x v e1 e2 e3
    refine ⟨u, r, ?_⟩
    rcases l with l | ⟨k, c, e, z⟩
    · exact .inl l
    · exact .inr ⟨k, c, e, cellK x c e _ z⟩
  · obtain ⟨v, z⟩ := I.cell x c e
    exact ⟨v, cellK x c e v z⟩
  · obtain ⟨m, ⟨o, _, _, ho, _⟩, _⟩ := I.loc
    exact free _ o (fun z => (hch _ z).2.1 rfl) ho I.free
  · obtain ⟨v, o, ho, hd⟩ := I.cell x c e
    exact free c o (fun z => (hch c z).2.2.1 x c e rfl) ho (I.freeC x c e)
  · obtain ⟨e, n, ne, nf, d⟩ := I.pin p hp
    have nch : p.1 ∉ ch := fun z => (hch p.1 z).2.2.2 p hp rfl
    exact ⟨keep p.1 p.2 ne nf nch e n, free p.1 p.2 nch e n, ne, nf, d⟩
/-- .. where the frame's own object is kept too -/
theorem Inv.un {t' : Nat} (I : Inv X pins σ H s) (u : Un X.fs [] H H' s.heap h') (hok : HOk X.prog X.w H' h') : Inv X pins σ H' { s with heap := h', toks := t' } := by
  obtain ⟨m, ⟨o, es, ep, ho, r⟩, _⟩ := id I.loc
  obtain ⟨sl, hL⟩ := u.any ho I.free (by simp)
  exact I.step (g' := s.gens) (d' := s.drawn) (ch := []) (fun _ z => nomatch z) (fun b o _ hb _ e n => u.keep b o e n hb (by simp)) (fun b o _ hb _ e n => u.slot b o e n hb (by simp)) (fun b o _ e n => u.free b o e n (by simp)) (fun b o _ e => u.there b o e (by simp)) u.tups u.frzs u.tbls (fun m' hm => by
    obtain ⟨o', es', ep', ho', r'⟩ := hm
    rw [ho] at ho'; cases ho'
    exact ⟨_, es', ep', hL, r'⟩) hok I.bare
/-- behind a call (or a comprehension's block): the slots of this frame may have changed too, the records at ch may have turned -/
theorem Inv.call {g' : Array GenState} {t' : Nat} {d' : Drawn} {ch : List Addr} (I : Inv X pins σ H s) (u : Un (frs X.stack) ch H H' s.heap h') (hok : HOk X.prog X.w H' h') (hg : AllBare g')
    (hch : ∀ b ∈ ch, (b ∈ X.ex ∨ X.s₀.heap.objs.size ≤ b) ∧ b ≠ X.env.locals ∧ (∀ x c, X.env.cells.lookup x = some c → c ≠ b) ∧ ∀ p ∈ X.pn ++ pins, p.1 ≠ b) :
    Inv X pins σ H' { s with heap := h', gens := g', drawn := d', toks := t' } := by
  obtain ⟨m, ⟨o, es, ep, ho, r⟩, _⟩ := id I.loc
  obtain ⟨sl, hL⟩ := u.any ho I.free fun z => (hch _ z).2.1 rfl
  exact I.step (ch := ch) hch (fun b o hL hb hc e n => u.keep b o e n (fun z => (List.mem_cons.mp (I.stkSub b z)).elim hL hb) hc) (fun b o _ _ hc e n => u.any e n hc) (fun b o hc e n => u.free b o e n hc) (fun b o hc e => u.there b o e hc) u.tups u.frzs u.tbls (fun m' hm => by
    obtain ⟨o', es', ep', ho', r'⟩ := hm
    rw [ho] at ho'; cases ho'
    exact ⟨_, es', ep', hL, r'⟩) hok hg
/-- an untracked record of ours (an iterator) has turned -/
theorem Inv.turned {t' : Nat} {it : Addr} (I : Inv X pins σ H s) (k : ∀ b o, b ≠ it → s.heap.get? b = some o → h'.get? b = some o) (hn : H it = none) (hL : it ≠ X.env.locals)
    (h1 : it ∈ X.ex ∨ X.s₀.heap.objs.size ≤ it) (h2 : ∀ x c, X.env.cells.lookup x = some c → c ≠ it) (h3 : ∀ p ∈ X.pn ++ pins, p.1 ≠ it) : Inv X pins σ H { s with heap := h', toks := t' } := by
  have nit : ∀ b u, H b = some u → b ≠ it := fun b u e z => by rw [z, hn] at e; cases e
  refine I.step (g' := s.gens) (d' := s.drawn) (ch := [it]) (fun b hb => ?_) (fun b o _ _ hc e _ => k b o (fun z => hc (by simp [z])) e) (fun b o _ _ hc e _ => ⟨o.slots, k b o (fun z => hc (by simp [z])) e⟩) (fun _ _ _ _ n => n)
    (fun b o hc e => ⟨o, k b o (fun z => hc (by simp [z])) e⟩) (fun _ _ e => e) (fun _ _ _ e => e) (fun b ps e => ⟨#[], by rw [e]; simp⟩) (fun m hm => ?_) (fun b u e => ?_) I.bare
  · have e : b = it := by simpa using hb
    subst e
    exact ⟨h1, hL, h2, h3⟩
  · obtain ⟨o, es, ep, ho, r⟩ := hm
    exact ⟨o, es, ep, k _ o (Ne.symm hL) ho, r⟩
  · refine (I.hok b u e).stay (fun c v hc q => k c v ?_ q) (fun _ q => q) fun _ _ q => q
    rcases hc with z | z
    · rw [z]; exact nit b u e
    · exact nit c _ z
theorem Inv.tok (I : Inv X pins σ H s) (t : Nat) : Inv X pins σ H { s with toks := t } := I.un (h' := s.heap) (t' := t) Un.refl I.hok
/-- all objects kept -/
theorem Inv.kept {t' : Nat} (I : Inv X pins σ H s) (k : ∀ b u, s.heap.get? b = some u → h'.get? b = some u) : Inv X pins σ H { s with heap := h', toks := t' } := I.un (Un.kept k) (I.hok.kept k)
/-- a new object laid and tracked -/
theorem Inv.laid {a : Addr} {o : HO} {t' : Nat} (I : Inv X pins σ H s) (k : ∀ b u, s.heap.get? b = some u → h'.get? b = some u) (hp : s.heap.objs.size ≤ a) (new : ObjOk X.prog X.w (upd H a o) h' a o) :
    Inv X pins σ (upd H a o) { s with heap := h', toks := t' } := I.un (Un.laid k hp (I.hok.fresh hp)) (I.hok.laid k hp new)
/-- an object written -/
theorem Inv.write {x e : Addr} {o : HO} {t' : Nat} (I : Inv X pins σ H s) (mu : Mut (H x)) (he : e = x ∨ H e = some (.own x)) (k : ∀ b u, b ≠ e → s.heap.get? b = some u → h'.get? b = some u) (heo : ∃ u, h'.get? e = some u)
    (new : ObjOk X.prog X.w (upd H x o) h' x o) : Inv X pins σ (upd H x o) { s with heap := h', toks := t' } := I.un (Un.write mu he k heo) (I.hok.write mu he k heo new)
/-- forgetting slots, pins -/
theorem Inv.weak {σ' : List (Option V)} (I : Inv X pins σ H s) (hl : σ'.length = σ.length) (w : ∀ (i : Nat) v, σ'[i]? = some (some v) → σ[i]? = some (some v)) : Inv X pins σ' H s :=
  ⟨I.ok, I.os, I.bare, I.base, let ⟨m, hn, hl'⟩ := I.loc; ⟨m, hn, fun i x v e1 e2 e3 => hl' i x v e1 (w i v e2) e3⟩, I.cell, I.free, I.freeC, I.pin, I.hok, hl.trans I.len⟩
theorem Inv.pins_of {pins' : List (Addr × Obj)} (I : Inv X pins σ H s) (h : ∀ p ∈ pins', s.heap.get? p.1 = some p.2 ∧ H p.1 = none ∧ p.1 ≠ X.env.locals ∧ p.1 ∉ X.fs ∧ ∀ v, p.2.data ≠ .cell v) : Inv X pins' σ H s :=
  ⟨I.ok, I.os, I.bare, I.base, I.loc, I.cell, I.free, I.freeC, fun p hp => (List.mem_append.mp hp).elim (fun z => I.pin p (List.mem_append_left _ z)) (h p), I.hok, I.len⟩

theorem nodup_ix {N : List Str} (hN : N.Nodup) {i j : Nat} {x : Str} (a : N[i]? = some x) (b : N[j]? = some x) : i = j := by
  obtain ⟨h1, e1⟩ := List.getElem?_eq_some_iff.mp a
  obtain ⟨h2, e2⟩ := List.getElem?_eq_some_iff.mp b
  exact (List.getElem_inj hN).mp (e1.trans e2.symm)

/-- a name is stored; what changed -/
theorem store_ok2 {M : Model} {A : Around} {E : Value → Shared → Prop} {i : Nat} {x : Str} {v : V} {u : Value} {Q : Unit → Shared → Prop} (I : Inv X pins σ H s) (hN : X.N.Nodup) (hi : X.N[i]? = some x) (hx : Loc X.env.scope x) (r : RelV v u)
    (h : ∀ s', Inv X pins (σ.set i (some v)) H s' → (∃ a, Heap.SameBut a s.heap s'.heap ∧ (a = X.env.locals ∨ X.env.cells.lookup x = some a)) → Q () s') (hf : X.fn x = true ∨ X.env.scope.names.lookup x = some .local := by first | exact .inl rfl | exact .inr rfl | assumption) : wpAny M A (storeName X.env x u) Q E s := by
  obtain ⟨m, hn, hl⟩ := id I.loc
  have hcls : (X.env.scope.kind == .class || (X.env.scope.kind == .module && X.env.locals != X.env.globals)) = false := by rw [I.ok.kind]; rfl
  have hiσ : i < σ.length := by rw [I.len]; exact (List.getElem?_eq_some_iff.mp hi).1
  have cne := I.cne
  have tracked : ∀ {a : Addr} {h' : Heap}, (∃ o, s.heap.get? a = some o ∧ H a = none) → Heap.SameBut a s.heap h' → HOk X.prog X.w H h' := fun {a h'} ha hs b ob e => by
    obtain ⟨_, _, hfree⟩ := ha
    refine (I.hok b ob e).stay (fun c w' hc q => (hs.2 c ?_).trans q) (fun _ q => q) fun _ _ q => q
    rintro rfl
    rcases hc with rfl | hc
    · rw [hfree] at e; cases e
    · rw [hfree] at hc; cases hc
  rcases hx with hk | hk
  · refine wpAny_storeName_local hk hn (fun h' hn' hs => ?_) hcls
    obtain ⟨oL, _, _, hoL, _⟩ := id hn
    refine h _ ⟨I.ok, I.os, I.bare, ⟨fun b o e n hb hx => ?_, fun b o e n hb hx => ?_, I.base.free, fun b o e hx => ?_, I.base.tups, I.base.frzs, I.base.tbls⟩, ⟨_, hn', fun j y v' e1 e2 e3 => ?_⟩, fun y c e => ?_, I.free, I.freeC, fun p hp => ?_, tracked ⟨oL, hoL, I.free⟩ hs, by simpa using I.len⟩ ⟨_, hs, .inl rfl⟩
    · exact (hs.2 b (Nat.ne_of_lt (Nat.lt_of_lt_of_le (Heap.lt_size e) I.ok.above))).trans (I.base.keep b o e n hb hx)
    · obtain ⟨sl, e1⟩ := I.base.slot b o e n hb hx
      exact ⟨sl, (hs.2 b (Nat.ne_of_lt (Nat.lt_of_lt_of_le (Heap.lt_size e) I.ok.above))).trans e1⟩
    · obtain ⟨o', e1⟩ := I.base.there b o e hx
      exact ⟨o', (hs.2 b (Nat.ne_of_lt (Nat.lt_of_lt_of_le (Heap.lt_size e) I.ok.above))).trans e1⟩
    · by_cases hj : j = i
      · subst hj
        rw [hi] at e1; cases e1
        rw [List.getElem?_set_self hiσ] at e2
        cases e2
        exact ⟨u, r, .inl ⟨hk, by simp⟩⟩
      · rw [List.getElem?_set_ne (Ne.symm hj)] at e2
        obtain ⟨u', r', q⟩ := hl j y v' e1 e2 e3
        refine ⟨u', r', ?_⟩
        rcases q with ⟨k, e⟩ | ⟨k, c, e, z⟩
        · refine .inl ⟨k, ?_⟩
          have : y ≠ x := fun e => hj (nodup_ix hN e1 (e ▸ hi))
          simp [this, e]
        · exact .inr ⟨k, c, e, z.sameBut hs (cne y c e)⟩
    · obtain ⟨w', z⟩ := I.cell y c e
      exact ⟨w', z.sameBut hs (cne y c e)⟩
    · obtain ⟨e, n, ne, nf, d⟩ := I.pin p hp
      exact ⟨(hs.2 p.1 ne).trans e, n, ne, nf, d⟩
  · have hfn : X.fn x = true := by
      rcases hf with z | z
      · exact z
      · rw [z] at hk; cases hk
    obtain ⟨c, hc⟩ := I.ok.has x (.inl hk)
    obtain ⟨w', z⟩ := I.cell x c hc
    refine wpAny_storeName_cell I.ok.kind hk hc z (fun h' hc' hs => ?_)
    obtain ⟨oc, hoc, hocd⟩ := id z
    refine h { s with heap := h' } ⟨I.ok, I.os, I.bare, ⟨fun b o e n hb hx => ?_, fun b o e n hb hx => ?_, I.base.free, fun b o e hx => ?_, I.base.tups, I.base.frzs, I.base.tbls⟩, ⟨m, hn.sameBut hs (Ne.symm (cne x c hc)), fun j y v' e1 e2 e3 => ?_⟩, fun y c' e => ?_, I.free, I.freeC, fun p hp => ?_, tracked ⟨oc, hoc, I.freeC x c hc⟩ hs, by simpa using I.len⟩ ⟨c, hs, .inr hc⟩
    · exact (hs.2 b (Nat.ne_of_lt (Nat.lt_of_lt_of_le (Heap.lt_size e) (I.ok.cab x c hfn hc)))).trans (I.base.keep b o e n hb hx)
    · obtain ⟨sl, e1⟩ := I.base.slot b o e n hb hx
      exact ⟨sl, (hs.2 b (Nat.ne_of_lt (Nat.lt_of_lt_of_le (Heap.lt_size e) (I.ok.cab x c hfn hc)))).trans e1⟩
    · obtain ⟨o', e1⟩ := I.base.there b o e hx
      exact ⟨o', (hs.2 b (Nat.ne_of_lt (Nat.lt_of_lt_of_le (Heap.lt_size e) (I.ok.cab x c hfn hc)))).trans e1⟩
    · by_cases hj : j = i
      · subst hj
        rw [hi] at e1; cases e1
        rw [List.getElem?_set_self hiσ] at e2
        cases e2
        exact ⟨u, r, .inr ⟨.inl hk, c, hc, hc'⟩⟩
      · rw [List.getElem?_set_ne (Ne.symm hj)] at e2
        obtain ⟨u', r', q⟩ := hl j y v' e1 e2 e3
        refine ⟨u', r', ?_⟩
        rcases q with q | ⟨k, c', e, z'⟩
        · exact .inl q
        · refine .inr ⟨k, c', e, z'.sameBut hs ?_⟩
          rintro rfl
          exact hj (nodup_ix hN e1 (I.ok.inj _ _ _ e hc ▸ hi))
    · by_cases hcc : c' = c
      · subst hcc; exact ⟨_, hc'⟩
      · obtain ⟨w2, z2⟩ := I.cell y c' e
        exact ⟨w2, z2.sameBut hs hcc⟩
    · obtain ⟨e, n, ne, nf, d⟩ := I.pin p hp
      refine ⟨(hs.2 p.1 ?_).trans e, n, ne, nf, d⟩
      intro q
      rw [q, hoc] at e
      have q' : oc = p.2 := Option.some.inj e
      exact d w' (by rw [← q']; exact hocd)
theorem store_ok {M : Model} {A : Around} {E : Value → Shared → Prop} {i : Nat} {x : Str} {v : V} {u : Value} {Q : Unit → Shared → Prop} (I : Inv X pins σ H s) (hN : X.N.Nodup) (hi : X.N[i]? = some x) (hx : Loc X.env.scope x) (r : RelV v u)
    (h : ∀ s', Inv X pins (σ.set i (some v)) H s' → Q () s') (hf : X.fn x = true ∨ X.env.scope.names.lookup x = some .local := by first | exact .inl rfl | exact .inr rfl | assumption) : wpAny M A (storeName X.env x u) Q E s :=
  store_ok2 I hN hi hx r (fun s' I' _ => h s' I') hf
/-- behind a call or a block, the state as it is -/
theorem Inv.call' {s' : Shared} {ch : List Addr} (I : Inv X pins σ H s) (ho : s'.os = s.os) (u : Un (frs X.stack) ch H H' s.heap s'.heap) (hok : HOk X.prog X.w H' s'.heap) (hg : AllBare s'.gens)
    (hch : ∀ b ∈ ch, (b ∈ X.ex ∨ X.s₀.heap.objs.size ≤ b) ∧ b ≠ X.env.locals ∧ (∀ x c, X.env.cells.lookup x = some c → c ≠ b) ∧ ∀ p ∈ X.pn ++ pins, p.1 ≠ b) : Inv X pins σ H' s' := by
  obtain ⟨h', g', d', t', o'⟩ := s'
  have e : o' = s.os := ho
  subst e
  exact I.call (g' := g') (t' := t') (d' := d') u hok hg hch
end

/-! ### the judgements -/
/-- an exception: its class, its own dict's address (where it has one), the abstract heap behind it -/
abbrev XK := Value → Option Addr → Hp → Prop
abbrev St := List (Option V)
abbrev VK := V → Hp → Prop
/-- an expression's reading; a test's; an argument list's -/
abbrev TE := St → Hp → VK → Prop
abbrev TT := St → Hp → (Bool → Hp → Prop) → Prop
abbrev TA := St → Hp → (List V → Hp → Prop) → Prop
/-- what is wanted behind a statement -/
structure Ends where
  nx : St → Hp → Prop
  rt : VK
  bk : St → Hp → Prop := fun _ _ => False
  ct : St → Hp → Prop := fun _ _ => False
abbrev TS := Ends → St → Hp → Prop

def EP (X : Cx) (pins : List (Addr × Obj)) (σ : St) (Q : VK) (u : Value) (s' : Shared) : Prop := ∃ v H', Inv X pins σ H' s' ∧ RelV v u ∧ Q v H'
def TP (X : Cx) (pins : List (Addr × Obj)) (σ : St) (Q : Bool → Hp → Prop) (b : Bool) (s' : Shared) : Prop := ∃ H', Inv X pins σ H' s' ∧ Q b H'
def AP (X : Cx) (pins : List (Addr × Obj)) (σ : St) (Q : List V → Hp → Prop) (us : List Value) (s' : Shared) : Prop := ∃ vs H', Inv X pins σ H' s' ∧ Vals vs us ∧ Q vs H'
def SP (X : Cx) (pins : List (Addr × Obj)) (D : Ends) (f : Flow) (s' : Shared) : Prop :=
  match f with
  | .next => ∃ σ' H', Inv X pins σ' H' s' ∧ D.nx σ' H'
  | .brk => ∃ σ' H', Inv X pins σ' H' s' ∧ D.bk σ' H'
  | .cont => ∃ σ' H', Inv X pins σ' H' s' ∧ D.ct σ' H'
  | .ret u => ∃ v σ' H', Inv X pins σ' H' s' ∧ RelV v u ∧ D.rt v H'

def PE (X : Cx) (e : Expr) (t : TE) : Prop :=
  ∀ (pins : List (Addr × Obj)) (s : Shared) (σ : St) (H : Hp) (Q : VK), Inv X pins σ H s → t σ H Q → wpAny (model X.prog X.w) X.A (eval e X.env) (EP X pins σ Q) X.xe s
def PT (X : Cx) (e : Expr) (t : TT) : Prop :=
  ∀ (pins : List (Addr × Obj)) (s : Shared) (σ : St) (H : Hp) (Q : Bool → Hp → Prop), Inv X pins σ H s → t σ H Q → wpAny (model X.prog X.w) X.A (isTrue e X.env (eval e X.env)) (TP X pins σ Q) X.xe s
/-- a test whatever its 'whole' is (and, or) -/
def PW (X : Cx) (e : Expr) (t : TT) : Prop :=
  ∀ (whole : Sem Value) (pins : List (Addr × Obj)) (s : Shared) (σ : St) (H : Hp) (Q : Bool → Hp → Prop), Inv X pins σ H s → t σ H Q → wpAny (model X.prog X.w) X.A (isTrue e X.env whole) (TP X pins σ Q) X.xe s
theorem PW.pt {X : Cx} {e : Expr} {t : TT} (h : PW X e t) : PT X e t := h _
/-- an argument list (no star), from the left -/
def PA (X : Cx) (es : List Expr) (t : TA) : Prop :=
  ∀ (pos : Pos) (pins : List (Addr × Obj)) (s : Shared) (σ : St) (H : Hp) (Q : List V → Hp → Prop), Inv X pins σ H s → t σ H Q → wpAny (model X.prog X.w) X.A (spliced (backTo pos (starEach es X.env))) (AP X pins σ Q) X.xe s
def PS (X : Cx) (st : Stmt) (t : TS) : Prop :=
  ∀ (pins : List (Addr × Obj)) (s : Shared) (σ : St) (H : Hp) (D : Ends), Inv X pins σ H s → t D σ H → wpAny (model X.prog X.w) X.A (exec st X.env) (SP X pins D) X.xe s
def PSs (X : Cx) (st : List Stmt) (t : TS) : Prop :=
  ∀ (pins : List (Addr × Obj)) (s : Shared) (σ : St) (H : Hp) (D : Ends), Inv X pins σ H s → t D σ H → wpAny (model X.prog X.w) X.A (execs st X.env) (SP X pins D) X.xe s
/-- weaken the end -/
theorem thn {α : Type} {t : Sem α} {Q Q' : α → Shared → Prop} {M : Model} {A : Around} {E : Value → Shared → Prop} {s : Shared} (h : wpAny M A t Q E s) (hQ : ∀ a s, Q a s → Q' a s) : wpAny M A t Q' E s := wpAny_mono h hQ fun _ _ x => x
end L2

namespace L2
open PySem PySem.Spec PyProof.Rows
section
variable {X : Cx}

/-- two expressions in a row -/
theorem bin {a b : Expr} {ta tb : TE} (ha : PE X a ta) (hb : PE X b tb) {pins : List (Addr × Obj)} {s : Shared} {σ : St} {H : Hp} {R : V → V → Hp → Prop} (I : Inv X pins σ H s) (h : ta σ H fun x H1 => tb σ H1 fun y H2 => R x y H2)
    {α : Type} {Q : α → Shared → Prop} {f : Value → Value → Sem α}
    (hf : ∀ v u s2 x y H2, Inv X pins σ H2 s2 → RelV x v → RelV y u → R x y H2 → wpAny (model X.prog X.w) X.A (f v u) Q X.xe s2) :
    wpAny (model X.prog X.w) X.A (eval a X.env) (fun v s₁ => wpAny (model X.prog X.w) X.A (eval b X.env) (fun u s₂ => wpAny (model X.prog X.w) X.A (f v u) Q X.xe s₂) X.xe s₁) X.xe s := by
  refine thn (ha pins s σ H _ I h) fun v s1 ⟨x, H1, I1, r1, q1⟩ => ?_
  refine thn (hb pins s1 σ H1 _ I1 q1) fun u s2 ⟨y, H2, I2, r2, q2⟩ => ?_
  exact hf v u s2 x y H2 I2 r1 r2 q2

/-! ### names and constants -/
def tVar (i : Nat) : TE := fun σ H Q => ∃ v, σ[i]? = some (some v) ∧ Q v H
def tC (v : V) : TE := fun _ H Q => Q v H
theorem pe_var {i : Nat} {x : Str} {pos : Pos} (hN : X.N[i]? = some x) (hv : Vis X.env.scope x) (hd : (x == ("__debug__" : Str)) = false := by decide) (hcd : (x == ("__classdict__" : Str)) = false := by decide) : PE X (.Name x pos) (tVar i) := by
  intro pins s σ H Q I h
  obtain ⟨v, e, h⟩ := h
  obtain ⟨m, hn, hl⟩ := I.loc
  obtain ⟨u, r, l⟩ := hl i x v hN e hv
  have fin : EP X pins σ Q u s := ⟨v, H, I, r, h⟩
  rcases l with ⟨hk, hm⟩ | ⟨hk, c, hc, hcell⟩
  · exact wpAny_Name (wpAny_loadName_local I.ok.kind hk hn hm fin) hd
  · rcases hk with hk | hk
    · exact wpAny_Name (wpAny_loadName_cell I.ok.kind hk hc hcell fin) hd
    · exact wpAny_Name (wpAny_loadName_free I.ok.kind hk hc hcell fin hcd) hd
theorem pe_int {i j pos} : PE X (.Constant (.int i) j pos) (tC (.int i)) := fun _ _ _ H _ I h => wpAny_Constant_int ⟨.int i, H, I.tok _, ⟨_, rfl⟩, h⟩
theorem pe_bl {b j pos} : PE X (.Constant (.bool b) j pos) (tC (.bl b)) := fun _ _ _ H _ I h => Constant_bool ⟨.bl b, H, I, rfl, h⟩
theorem pe_non {j pos} : PE X (.Constant .none j pos) (tC .non) := fun _ _ _ H _ I h => Constant_none ⟨.non, H, I, rfl, h⟩
theorem pe_str {x j pos} : PE X (.Constant (.str x) j pos) (tC (.str x)) := fun _ _ _ H _ I h => Calls.Constant_str ⟨.str x, H, I.tok _, ⟨_, rfl⟩, h⟩

/-- a global name of the def -/
def Gl (X : Cx) (x : Str) : Prop := X.env.kindOf x = some .globalImplicit
theorem ld_glob {E : Value → Shared → Prop} {pins : List (Addr × Obj)} {s : Shared} {σ : St} {H : Hp} {x : Str} {u : Value} {pos : Pos} {Q : Value → Shared → Prop} (I : Inv X pins σ H s) (hg : Gl X x) (hm : X.mg x = some u) (h : Q u s)
    (hd : (x == ("__debug__" : Str)) = false := by decide) : wpAny (model X.prog X.w) X.A (eval (.Name x pos) X.env) Q E s :=
  Calls.Name_function_global I.ok.kind hg (Calls.loadGlobal_global (by rw [I.ok.glob]; exact I.mod.glob.keeps I.bk) hm h) hd
theorem ld_blt {E : Value → Shared → Prop} {pins : List (Addr × Obj)} {s : Shared} {σ : St} {H : Hp} {x : Str} {u : Value} {pos : Pos} {Q : Value → Shared → Prop} (I : Inv X pins σ H s) (hg : Gl X x) (hm : X.mg x = none) (hv : bootBuiltins x = some u) (h : Q u s)
    (hn : x ≠ "__name__" := by decide) (hd : (x == ("__debug__" : Str)) = false := by decide) : wpAny (model X.prog X.w) X.A (eval (.Name x pos) X.env) Q E s := by
  obtain ⟨mb, h1, h2⟩ := I.mod.blt
  exact Calls.Name_function_global I.ok.kind hg (Calls.loadGlobal_builtin (by rw [I.ok.glob]; exact I.mod.glob.keeps I.bk) hm (by rw [I.ok.blt]; exact h1.keeps I.bk) ((h2 x hn).trans hv) h) hd
/-- a module's constant, a class, a function, as a value -/
theorem pe_glob {x : Str} {v : V} {u : Value} {pos : Pos} (hg : Gl X x) (hm : X.mg x = some u) (r : RelV v u) (hd : (x == ("__debug__" : Str)) = false := by decide) : PE X (.Name x pos) (tC v) :=
  fun _ _ _ H _ I h => ld_glob I hg hm ⟨v, H, I, r, h⟩ hd
theorem pe_bltn {x : Str} {v : V} {u : Value} {pos : Pos} (hg : Gl X x) (hm : X.mg x = none) (hv : bootBuiltins x = some u) (r : RelV v u) (hn : x ≠ "__name__" := by decide) (hd : (x == ("__debug__" : Str)) = false := by decide) : PE X (.Name x pos) (tC v) :=
  fun _ _ _ H _ I h => ld_blt I hg hm hv ⟨v, H, I, r, h⟩ hn hd

/-! ### arithmetic -/
/-- two ints -/
def t2I (ta tb : TE) (k : Int → Int → Hp → Prop) : St → Hp → Prop := fun σ H => ta σ H fun x H1 => tb σ H1 fun y H2 => ∃ i j, x = .int i ∧ y = .int j ∧ k i j H2
def tAdd (ta tb : TE) : TE := fun σ H Q => t2I ta tb (fun i j H2 => Q (.int (i + j)) H2) σ H
def tSub (ta tb : TE) : TE := fun σ H Q => t2I ta tb (fun i j H2 => Q (.int (i - j)) H2) σ H
/-- the left factor below 2^64 -/
def tMul (ta tb : TE) : TE := fun σ H Q => t2I ta tb (fun i j H2 => (-(2 ^ 64) < i ∧ i < 2 ^ 64) ∧ Q (.int (i * j)) H2) σ H
variable {a b : Expr} {ta tb : TE} {pos : Pos}
theorem pe_add (ha : PE X a ta) (hb : PE X b tb) : PE X (.BinOp a .Add b pos) (tAdd ta tb) := by
  intro pins s σ H Q I h
  refine wpAny_BinOp (bin ha hb I h fun v u s2 x y H2 I2 rx ry q => ?_)
  obtain ⟨i, j, rfl, rfl, q⟩ := q
  obtain ⟨t, rfl⟩ := rx
  obtain ⟨t', rfl⟩ := ry
  exact add_int ⟨.int _, H2, I2.tok _, ⟨_, rfl⟩, q⟩
theorem pe_sub (ha : PE X a ta) (hb : PE X b tb) : PE X (.BinOp a .Sub b pos) (tSub ta tb) := by
  intro pins s σ H Q I h
  refine wpAny_BinOp (bin ha hb I h fun v u s2 x y H2 I2 rx ry q => ?_)
  obtain ⟨i, j, rfl, rfl, q⟩ := q
  obtain ⟨t, rfl⟩ := rx
  obtain ⟨t', rfl⟩ := ry
  exact sub_int ⟨.int _, H2, I2.tok _, ⟨_, rfl⟩, q⟩
theorem pe_mul (ha : PE X a ta) (hb : PE X b tb) : PE X (.BinOp a .Mult b pos) (tMul ta tb) := by
  intro pins s σ H Q I h
  refine wpAny_BinOp (bin ha hb I h fun v u s2 x y H2 I2 rx ry q => ?_)
  obtain ⟨i, j, rfl, rfl, ⟨q1, q2⟩, q⟩ := q
  obtain ⟨t, rfl⟩ := rx
  obtain ⟨t', rfl⟩ := ry
  exact mul_int ⟨.int _, H2, I2.tok _, ⟨_, rfl⟩, q⟩ (.of_left (intBits_le_64 q1 q2))

/-! ### comparisons -/
def PC (X : Cx) (op : CmpOp) (a b : Expr) (t : TE) : Prop :=
  ∀ (pins : List (Addr × Obj)) (s : Shared) (σ : St) (H : Hp) (Q : VK), Inv X pins σ H s → t σ H Q →
    wpAny (model X.prog X.w) X.A (eval a X.env) (fun v s₁ => wpAny (model X.prog X.w) X.A (eval b X.env) (fun u s₂ => wpAny (model X.prog X.w) X.A (compareOp op v u) (EP X pins σ Q) X.xe s₂) X.xe s₁) X.xe s
theorem nobehind (b : Expr) {op : CmpOp} (h : op ≠ .In) (h2 : op ≠ .NotIn) : behindInMarks op b = false := by
  have e1 : (op == CmpOp.In) = false := by cases op <;> first | rfl | exact absurd rfl h
  have e2 : (op == CmpOp.NotIn) = false := by cases op <;> first | rfl | exact absurd rfl h2
  cases b <;> simp [behindInMarks, e1, e2]
def tCmp (p : Int → Int → Bool) (ta tb : TE) : TE := fun σ H Q => t2I ta tb (fun i j H2 => Q (.bl (p i j)) H2) σ H
abbrev tLt : TE → TE → TE := tCmp fun i j => decide (i < j)
abbrev tLe : TE → TE → TE := tCmp fun i j => decide (i ≤ j)
abbrev tGt : TE → TE → TE := tCmp fun i j => decide (j < i)
abbrev tGe : TE → TE → TE := tCmp fun i j => decide (j ≤ i)
abbrev tEqI : TE → TE → TE := tCmp fun i j => decide (i = j)
abbrev tNeI : TE → TE → TE := tCmp fun i j => !decide (i = j)
/-- a comparison of two ints, by its rule -/
theorem pc_int {op : CmpOp} {p : Int → Int → Bool} (ha : PE X a ta) (hb : PE X b tb)
    (rule : ∀ (i j : Int) (t u : Tok) (Q : Value → Shared → Prop) (s : Shared), Q (.bool (p i j)) s → wpAny (model X.prog X.w) X.A (compareOp op (.int i t) (.int j u)) Q X.xe s) : PC X op a b (tCmp p ta tb) := by
  intro pins s σ H Q I h
  refine bin ha hb I h fun v u s2 x y H2 I2 rx ry q => ?_
  obtain ⟨i, j, rfl, rfl, q⟩ := q
  obtain ⟨t, rfl⟩ := rx
  obtain ⟨t', rfl⟩ := ry
  exact rule i j t t' _ s2 ⟨.bl _, H2, I2, rfl, q⟩
theorem pc_lt (ha : PE X a ta) (hb : PE X b tb) : PC X .Lt a b (tLt ta tb) := pc_int ha hb fun _ _ _ _ _ _ h => lt_int h
theorem pc_le (ha : PE X a ta) (hb : PE X b tb) : PC X .LtE a b (tLe ta tb) := pc_int ha hb fun _ _ _ _ _ _ h => le_int h
theorem pc_gt (ha : PE X a ta) (hb : PE X b tb) : PC X .Gt a b (tGt ta tb) := pc_int ha hb fun _ _ _ _ _ _ h => gt_int h
theorem pc_ge (ha : PE X a ta) (hb : PE X b tb) : PC X .GtE a b (tGe ta tb) := pc_int ha hb fun _ _ _ _ _ _ h => ge_int h
theorem pc_eqI (ha : PE X a ta) (hb : PE X b tb) : PC X .Eq a b (tEqI ta tb) := pc_int ha hb fun _ _ _ _ _ _ h => eq_int (by rw [Bool.beq_eq_decide_eq]; exact h)
theorem pc_neI (ha : PE X a ta) (hb : PE X b tb) : PC X .NotEq a b (tNeI ta tb) := pc_int ha hb fun _ _ _ _ _ _ h => ne_int (by rw [bne, Bool.beq_eq_decide_eq]; exact h)
/-- is None -/
def tIsN (ta : TE) : TE := fun σ H Q => ta σ H fun x H1 => Q (.bl (decide (x = .non))) H1
def tNotN (ta : TE) : TE := fun σ H Q => ta σ H fun x H1 => Q (.bl (!decide (x = .non))) H1
theorem RelV.none_iff {x : V} {v : Value} (r : RelV x v) : (v == Value.none) = decide (x = .non) := by
  cases x with
  | non => cases r; rfl
  | bl _ => cases r; rfl
  | int _ => obtain ⟨t, rfl⟩ := r; rfl
  | str _ => obtain ⟨t, rfl⟩ := r; rfl
  | byt _ => obtain ⟨t, rfl⟩ := r; rfl
  | flt _ => obtain ⟨t, rfl⟩ := r; rfl
  | ref _ => cases r; rfl
  | ty _ => cases r; rfl
theorem pc_isN {j pos'} (ha : PE X a ta) : PC X .Is a (.Constant .none j pos') (tIsN ta) := by
  intro pins s σ H Q I h
  refine thn (ha pins s σ H _ I h) fun v s1 ⟨x, H1, I1, r1, q1⟩ => ?_
  exact Constant_none (is_none_gen ⟨.bl _, H1, I1, by rw [r1.none_iff]; rfl, q1⟩)
theorem pc_notN {j pos'} (ha : PE X a ta) : PC X .IsNot a (.Constant .none j pos') (tNotN ta) := by
  intro pins s σ H Q I h
  refine thn (ha pins s σ H _ I h) fun v s1 ⟨x, H1, I1, r1, q1⟩ => ?_
  exact Constant_none (isnot_none_gen ⟨.bl _, H1, I1, by rw [r1.none_iff]; rfl, q1⟩)
/-- a comparison as a value, as a test -/
def tB (t : TE) : TT := fun σ H Q => t σ H fun x H1 => ∃ c, x = .bl c ∧ Q c H1
theorem pe_cmp {op : CmpOp} {t : TE} (h : PC X op a b t) (h1 : behindInMarks op b = false := by first | exact nobehind _ (by decide) (by decide) | rfl) : PE X (.Compare a [op] [b] pos) t := fun pins s σ H Q I hw => wpAny_Compare1 (h pins s σ H Q I hw) h1
theorem pt_cmp {op : CmpOp} {t : TE} (h : PC X op a b t) (h1 : behindInMarks op b = false := by first | exact nobehind _ (by decide) (by decide) | rfl) : PT X (.Compare a [op] [b] pos) (tB t) := by
  intro pins s σ H Q I hw
  refine wpAny_isTrue_Compare1 (thn (h pins s σ H _ I hw) fun v s1 h1 => thn h1 fun u s2 h2 => thn h2 fun c s3 ⟨x, H1, I1, r1, q1⟩ => ?_) h1
  obtain ⟨d, rfl, q⟩ := q1
  cases r1
  exact wpAny_truthy_bool ⟨H1, I1, q⟩
/-- an expression whose value is a bool, as a test -/
theorem pt_val {e : Expr} {t : TE} (h : PE X e t) (he : ∀ whole, isTrue e X.env whole = (do let v ← whole; standAt e.pos; holding [v] (truthy v)) := by intro _; rfl) : PT X e (tB t) := by
  intro pins s σ H Q I hw
  refine isTrue_plain (thn (h pins s σ H _ I hw) fun v s1 ⟨x, H1, I1, r1, q1⟩ => ?_) (he _)
  obtain ⟨d, rfl, q⟩ := q1
  cases r1
  exact wpAny_truthy_bool ⟨H1, I1, q⟩

/-! ### and, or, not -/
variable {tA tB' : TT} {rest : List Expr}
def tAnd (t u : TT) : TT := fun σ H Q => t σ H fun c H1 => if c = true then u σ H1 Q else Q false H1
def tOr (t u : TT) : TT := fun σ H Q => t σ H fun c H1 => if c = true then Q true H1 else u σ H1 Q
def tNot (t : TT) : TT := fun σ H Q => t σ H fun c H1 => Q (!c) H1
theorem pw_and1 (ha : PT X a tA) : PW X (.BoolOp .And [a] pos) tA := by
  intro wh pins s σ H Q I h
  refine isTrue_and (thn (ha pins s σ H Q I h) fun c s1 e => ?_)
  cases c with
  | true => exact isTrue_and_nil e
  | false => exact e
theorem pw_or1 (ha : PT X a tA) : PW X (.BoolOp .Or [a] pos) tA := by
  intro wh pins s σ H Q I h
  refine isTrue_or (thn (ha pins s σ H Q I h) fun c s1 e => ?_)
  cases c with
  | false => exact isTrue_or_nil e
  | true => exact e
theorem pw_and (ha : PT X a tA) (hb : PW X (.BoolOp .And (b :: rest) pos) tB') : PW X (.BoolOp .And (a :: b :: rest) pos) (tAnd tA tB') := by
  intro wh pins s σ H Q I h
  refine isTrue_and (thn (ha pins s σ H _ I h) fun c s1 ⟨H1, I1, q1⟩ => ?_)
  cases c with
  | true => exact hb wh pins s1 σ H1 Q I1 q1
  | false => exact ⟨H1, I1, q1⟩
theorem pw_or (ha : PT X a tA) (hb : PW X (.BoolOp .Or (b :: rest) pos) tB') : PW X (.BoolOp .Or (a :: b :: rest) pos) (tOr tA tB') := by
  intro wh pins s σ H Q I h
  refine isTrue_or (thn (ha pins s σ H _ I h) fun c s1 ⟨H1, I1, q1⟩ => ?_)
  cases c with
  | true => exact ⟨H1, I1, q1⟩
  | false => exact hb wh pins s1 σ H1 Q I1 q1
theorem pt_not (ha : PT X a tA) : PT X (.UnaryOp .Not a pos) (tNot tA) := by
  intro pins s σ H Q I h
  exact isTrue_not (ha pins s σ H (fun c H1 => Q (!c) H1) I h)
/-- .. as values (bools) -/
def tAndV (ta tb : TE) : TE := fun σ H Q => ta σ H fun x H1 => ∃ c, x = .bl c ∧ if c = true then tb σ H1 Q else Q (.bl false) H1
def tOrV (ta tb : TE) : TE := fun σ H Q => ta σ H fun x H1 => ∃ c, x = .bl c ∧ if c = true then Q (.bl true) H1 else tb σ H1 Q
def tNotV (ta : TE) : TE := fun σ H Q => ta σ H fun x H1 => ∃ c, x = .bl c ∧ Q (.bl (!c)) H1
theorem pe_one {op} {t : TE} (h : PE X a t) : PE X (.BoolOp op [a] pos) t := fun pins s σ H Q I hw => BoolOp_one (h pins s σ H Q I hw)
theorem pe_and (ha : PE X a ta) (hb : PE X (.BoolOp .And (b :: rest) pos) tb) : PE X (.BoolOp .And (a :: b :: rest) pos) (tAndV ta tb) := by
  intro pins s σ H Q I h
  refine BoolOp_and (thn (ha pins s σ H _ I h) fun v s1 ⟨x, H1, I1, r1, q1⟩ => ?_)
  obtain ⟨c, rfl, q1⟩ := q1
  cases r1
  refine wpAny_truthy_bool ?_
  cases c with
  | true => exact hb pins s1 σ H1 Q I1 q1
  | false => exact ⟨.bl false, H1, I1, rfl, q1⟩
theorem pe_or (ha : PE X a ta) (hb : PE X (.BoolOp .Or (b :: rest) pos) tb) : PE X (.BoolOp .Or (a :: b :: rest) pos) (tOrV ta tb) := by
  intro pins s σ H Q I h
  refine BoolOp_or (thn (ha pins s σ H _ I h) fun v s1 ⟨x, H1, I1, r1, q1⟩ => ?_)
  obtain ⟨c, rfl, q1⟩ := q1
  cases r1
  refine wpAny_truthy_bool ?_
  cases c with
  | false => exact hb pins s1 σ H1 Q I1 q1
  | true => exact ⟨.bl true, H1, I1, rfl, q1⟩
theorem pe_not (ha : PE X a ta) : PE X (.UnaryOp .Not a pos) (tNotV ta) := by
  intro pins s σ H Q I h
  refine UnaryOp_ (thn (ha pins s σ H _ I h) fun v s1 ⟨x, H1, I1, r1, q1⟩ => ?_)
  obtain ⟨c, rfl, q1⟩ := q1
  cases r1
  exact not_of (wpAny_truthy_bool ⟨.bl (!c), H1, I1, rfl, q1⟩)
/-- a if t else b -/
def tIf (t : TT) (ta tb : TE) : TE := fun σ H Q => t σ H fun c H1 => if c = true then ta σ H1 Q else tb σ H1 Q
theorem pe_ifExp {c : Expr} (hc : PT X c tA) (ha : PE X a ta) (hb : PE X b tb) : PE X (.IfExp c a b pos) (tIf tA ta tb) := by
  intro pins s σ H Q I h
  refine wpAny_IfExp (thn (hc pins s σ H _ I h) fun d s1 ⟨H1, I1, q1⟩ => ?_)
  cases d with
  | true => exact ha pins s1 σ H1 Q I1 q1
  | false => exact hb pins s1 σ H1 Q I1 q1
end
end L2

namespace L2
open PySem PySem.Spec PyProof.Rows

/-! ### a list, a tuple that is read: tracked, frozen, or an object of the module -/
def SqL (K : PySem.W.Frag) (H : Hp) (a : Addr) (xs : List V) : Prop :=
  Rd H a (.lst xs) ∨
    ∃ (o : Obj) (its : Array Value) (n : Nat), K.lookup a = some o ∧ o.cls = .type "list" ∧ o.dict = none ∧ o.data = .seq its n ∧ its.size ≤ sizeLine ∧ Vals xs its.toList
def SqT (K : PySem.W.Frag) (H : Hp) (a : Addr) (xs : List V) : Prop :=
  Rd H a (.tup xs) ∨
    ∃ (o : Obj) (its : Array Value) (n : Nat), K.lookup a = some o ∧ o.cls = .type "tuple" ∧ o.data = .seq its n ∧ its.size ≤ sizeLine ∧ Vals xs its.toList
def absV : Value → Option V
  | .none => some .non
  | .bool b => some (.bl b)
  | .int i _ => some (.int i)
  | .str x _ => some (.str x)
  | .bytes b _ => some (.byt b)
  | .float b _ => some (.flt b)
  | .ref a => some (.ref a)
  | .type n => some (.ty n)
  | _ => none
theorem RelV.abs {x : V} {u : Value} (r : RelV x u) : absV u = some x := by
  cases x with
  | non => cases r; rfl
  | bl _ => cases r; rfl
  | int _ => obtain ⟨t, rfl⟩ := r; rfl
  | str _ => obtain ⟨t, rfl⟩ := r; rfl
  | byt _ => obtain ⟨t, rfl⟩ := r; rfl
  | flt _ => obtain ⟨t, rfl⟩ := r; rfl
  | ref _ => cases r; rfl
  | ty _ => cases r; rfl
theorem RelV.inj {x y : V} {u : Value} (r : RelV x u) (q : RelV y u) : x = y := Option.some.inj (r.abs.symm.trans q.abs)
theorem Vals.inj : ∀ {xs ys : List V} {us : List Value}, Vals xs us → Vals ys us → xs = ys
  | _, _, _, .nil, .nil => rfl
  | _, _, _, .cons r t, .cons r' t' => by rw [r.inj r', Vals.inj t t']
section
variable {X : Cx} {pins : List (Addr × Obj)} {σ : St} {H : Hp} {s : Shared} {a : Addr} {xs ys : List V}
theorem SqL.of {K : PySem.W.Frag} (h : H a = some (.lst xs)) : SqL K H a xs := .inl (.inl h)
theorem SqT.of {K : PySem.W.Frag} (h : H a = some (.tup xs)) : SqT K H a xs := .inl (.inl h)
theorem Inv.list (I : Inv X pins σ H s) (h : SqL X.K H a xs) : ∃ its : List Value, Vals xs its ∧ PlainL s.heap a its.toArray ∧ xs.length ≤ sizeLine := by
  rcases h with h | ⟨o, its, n, hk, hc, hd, hs, hz, r⟩
  · obtain ⟨z, its, n, r, e⟩ := h.ok I.hok
    exact ⟨its, r, ⟨_, n, e, rfl, rfl, rfl⟩, z⟩
  · refine ⟨its.toList, r, ⟨o, n, I.kIn a o hk, hc, hd, by simpa using hs⟩, ?_⟩
    have e := r.length
    simp only [Array.length_toList] at e
    omega
theorem Inv.tuple (I : Inv X pins σ H s) (h : SqT X.K H a xs) : ∃ its : List Value, Vals xs its ∧ IsTup s.heap a its.toArray ∧ xs.length ≤ sizeLine := by
  rcases h with h | ⟨o, its, n, hk, hc, hs, hz, r⟩
  · obtain ⟨z, its, r, p⟩ := h.ok I.hok
    exact ⟨its, r, p, z⟩
  · refine ⟨its.toList, r, ⟨o, I.kIn a o hk, hc, n, by simpa using hs⟩, ?_⟩
    have e := r.length
    simp only [Array.length_toList] at e
    omega
theorem Inv.list_inj (I : Inv X pins σ H s) (h : SqL X.K H a xs) (h' : SqL X.K H a ys) : xs = ys := by
  obtain ⟨its, r, ⟨o, n, e, _, _, d⟩, _⟩ := I.list h
  obtain ⟨its', r', ⟨o', n', e', _, _, d'⟩, _⟩ := I.list h'
  rw [e] at e'; cases e'
  rw [d] at d'
  injection d' with d1 _
  have : its = its' := by simpa using congrArg Array.toList d1
  subst this
  exact r.inj r'
theorem Inv.tuple_inj (I : Inv X pins σ H s) (h : SqT X.K H a xs) (h' : SqT X.K H a ys) : xs = ys := by
  obtain ⟨its, r, ⟨o, e, _, n, d⟩, _⟩ := I.tuple h
  obtain ⟨its', r', ⟨o', e', _, n', d'⟩, _⟩ := I.tuple h'
  rw [e] at e'; cases e'
  rw [d] at d'
  injection d' with d1 _
  have : its = its' := by simpa using congrArg Array.toList d1
  subst this
  exact r.inj r'
end

/-! ### another wish about exceptions -/
abbrev Cx.wish (X : Cx) (E : Value → Shared → Prop) : Cx := { X with xe := E }
/-- no exception leaves -/
abbrev Cx.nox (X : Cx) : Cx := X.wish fun _ _ => False
theorem Cx.Ok.wish {X : Cx} (ok : X.Ok) (E : Value → Shared → Prop) : (X.wish E).Ok :=
  ⟨ok.mod, ok.kind, ok.glob, ok.blt, ok.above, ok.inj, ok.has, ok.cab, ok.hd, ok.frames, ok.stk, ok.exf, ok.bs, ok.bsz, ok.noex, ok.exfs, ok.funs, ok.frf⟩
theorem Cx.Ok.unwish {X : Cx} {E : Value → Shared → Prop} (ok : (X.wish E).Ok) : X.Ok :=
  ⟨ok.mod, ok.kind, ok.glob, ok.blt, ok.above, ok.inj, ok.has, ok.cab, ok.hd, ok.frames, ok.stk, ok.exf, ok.bs, ok.bsz, ok.noex, ok.exfs, ok.funs, ok.frf⟩
section
variable {X : Cx} {pins : List (Addr × Obj)} {σ : St} {H : Hp} {s : Shared} {E : Value → Shared → Prop}
theorem Inv.wish (I : Inv X pins σ H s) (E : Value → Shared → Prop) : Inv (X.wish E) pins σ H s := ⟨I.ok.wish E, I.os, I.bare, I.base, I.loc, I.cell, I.free, I.freeC, I.pin, I.hok, I.len⟩
theorem Inv.unwish (I : Inv (X.wish E) pins σ H s) : Inv X pins σ H s := ⟨I.ok.unwish, I.os, I.bare, I.base, I.loc, I.cell, I.free, I.freeC, I.pin, I.hok, I.len⟩
theorem SP.unwish {D : Ends} {f : Flow} {s' : Shared} (h : SP (X.wish E) pins D f s') : SP X pins D f s' := by
  cases f with
  | next => obtain ⟨σ', H', I, q⟩ := h; exact ⟨σ', H', I.unwish, q⟩
  | brk => obtain ⟨σ', H', I, q⟩ := h; exact ⟨σ', H', I.unwish, q⟩
  | cont => obtain ⟨σ', H', I, q⟩ := h; exact ⟨σ', H', I.unwish, q⟩
  | ret u => obtain ⟨v, σ', H', I, r, q⟩ := h; exact ⟨v, σ', H', I.unwish, r, q⟩
theorem PE.nox {e : Expr} {t : TE} (h : PE X.nox e t) : PE X e t := fun pins s σ H Q I hw =>
  wpAny_mono (h pins s σ H Q (I.wish _) hw) (fun _ _ ⟨v, H', I', r, q⟩ => ⟨v, H', I'.unwish, r, q⟩) fun _ _ z => False.elim z
theorem PT.nox {e : Expr} {t : TT} (h : PT X.nox e t) : PT X e t := fun pins s σ H Q I hw =>
  wpAny_mono (h pins s σ H Q (I.wish _) hw) (fun _ _ ⟨H', I', q⟩ => ⟨H', I'.unwish, q⟩) fun _ _ z => False.elim z
theorem PSs.nox {st : List Stmt} {t : TS} (h : PSs X.nox st t) : PSs X st t := fun pins s σ H D I hw =>
  wpAny_mono (h pins s σ H D (I.wish _) hw) (fun _ _ q => q.unwish) fun _ _ z => False.elim z
end

/-! ### blocks and small statements -/
section
variable {X : Cx} {st : Stmt} {rest : List Stmt} {t u : TS} {e : Expr} {te : TE} {pos : Pos}
def tNext : TS := fun D σ H => D.nx σ H
def tSeq (t u : TS) : TS := fun D σ H => t { D with nx := u D } σ H
theorem pss_nil : PSs X [] tNext := fun _ _ σ H _ I h => wpAny_execs_nil ⟨σ, H, I, h⟩
theorem pss_cons (h1 : PS X st t) (h2 : PSs X rest u) : PSs X (st :: rest) (tSeq t u) := by
  intro pins s σ H D I h
  refine wpAny_execs_cons (thn (h1 pins s σ H { D with nx := u D } I h) fun f s1 q => ?_)
  cases f with
  | next =>
    obtain ⟨σ', H', I', q⟩ := q
    exact h2 pins s1 σ' H' D I' q
  | ret v => exact q
  | brk => exact q
  | cont => exact q
theorem pss_one (h1 : PS X st t) : PSs X [st] t := by
  intro pins s σ H D I h
  refine wpAny_execs_cons (thn (h1 pins s σ H D I h) fun f s1 q => ?_)
  cases f with
  | next => exact wpAny_execs_nil q
  | ret v => exact q
  | brk => exact q
  | cont => exact q
def tBreak : TS := fun D σ H => D.bk σ H
def tCont : TS := fun D σ H => D.ct σ H
theorem ps_pass : PS X (.Pass pos) tNext := fun _ _ σ H _ I h => wpAny_Pass ⟨σ, H, I, h⟩
theorem ps_break : PS X (.Break pos) tBreak := fun _ _ σ H _ I h => wpAny_Break ⟨σ, H, I, h⟩
theorem ps_continue : PS X (.Continue pos) tCont := fun _ _ σ H _ I h => wpAny_Continue ⟨σ, H, I, h⟩
/-- in a def's body nothing is shown -/
theorem Inv.quiet {pins : List (Addr × Obj)} {σ : St} {H : Hp} {s : Shared} (I : Inv X pins σ H s) : interactive X.env = false := by simp [interactive, I.ok.kind]
/-- a docstring -/
theorem ps_doc {x j pos pos'} : PS X (.Expr (.Constant (.str x) j pos) pos') tNext := fun _ s σ H _ I h => wpAny_Expr (Calls.Constant_str (show SP X _ _ .next { s with toks := s.toks + 1 } from ⟨σ, H, I.tok _, h⟩)) I.quiet
/-- an expression whose value is dropped -/
def tDrop (te : TE) : TS := fun D σ H => te σ H fun _ H1 => D.nx σ H1
theorem ps_expr (he : PE X e te) (hs : swapsWith e none pos.line X.env = pure false := by rfl) : PS X (.Expr e pos) (tDrop te) := by
  intro pins s σ H D I h
  exact wpAny_Expr_any (thn (he pins s σ H _ I h) fun v s1 ⟨x, H1, I1, r1, q1⟩ => ⟨σ, H1, I1, q1⟩) I.quiet hs
def tRet (te : TE) : TS := fun D σ H => te σ H D.rt
theorem ps_ret (he : PE X e te) : PS X (.Return (some e) pos) (tRet te) := by
  intro pins s σ H D I h
  exact wpAny_Return_some (thn (he pins s σ H _ I h) fun v s1 ⟨x, H1, I1, r1, q1⟩ => ⟨x, σ, H1, I1, r1, q1⟩)
def tRetN : TS := fun D _ H => D.rt .non H
theorem ps_retN : PS X (.Return none pos) tRetN := fun _ _ σ H _ I h => wpAny_Return_none ⟨.non, σ, H, I, rfl, h⟩
def tIfS (c : TT) (t u : TS) : TS := fun D σ H => c σ H fun b H1 => if b = true then t D σ H1 else u D σ H1
theorem ps_if {c : Expr} {a b : List Stmt} {tc : TT} (hc : PT X c tc) (ha : PSs X a t) (hb : PSs X b u) : PS X (.If c a b pos) (tIfS tc t u) := by
  intro pins s σ H D I h
  refine wpAny_If (thn (hc pins s σ H _ I h) fun d s1 ⟨H1, I1, q1⟩ => ?_)
  cases d with
  | true => exact ha pins s1 σ H1 D I1 q1
  | false => exact hb pins s1 σ H1 D I1 q1
/-- code that the proof never comes to -/
def tNever : TS := fun _ _ _ => False
theorem ps_never : PS X st tNever := fun _ _ _ _ _ _ h => h.elim
theorem pss_never {sts : List Stmt} : PSs X sts tNever := fun _ _ _ _ _ _ h => h.elim
end

/-! ### targets -/
abbrev TG := V → St → Hp → (St → Hp → Prop) → Prop
abbrev TGs := List V → St → Hp → (St → Hp → Prop) → Prop
def PG (X : Cx) (target : Expr) (t : TG) : Prop :=
  ∀ (pins : List (Addr × Obj)) (s : Shared) (σ : St) (H : Hp) (v : V) (u : Value) (Q : St → Hp → Prop), Inv X pins σ H s → RelV v u → t v σ H Q →
    wpAny (model X.prog X.w) X.A (assign target X.env u) (fun _ s' => ∃ σ' H', Inv X pins σ' H' s' ∧ Q σ' H') X.xe s
/-- several targets, one after another -/
def PGs (X : Cx) (ts : List Expr) (t : TGs) : Prop :=
  ∀ (pins : List (Addr × Obj)) (s : Shared) (σ : St) (H : Hp) (vs : List V) (us : List Value) (Q : St → Hp → Prop), Inv X pins σ H s → Vals vs us → t vs σ H Q →
    wpAny (model X.prog X.w) X.A (assignInOrder ((assignEach ts X.env).map (·.2)) us) (fun _ s' => ∃ σ' H', Inv X pins σ' H' s' ∧ Q σ' H') X.xe s
/-- o[i] = v, by values -/
abbrev TSet := V → V → V → Hp → (Hp → Prop) → Prop
def PSet (X : Cx) (t : TSet) : Prop :=
  ∀ (pins : List (Addr × Obj)) (s : Shared) (σ : St) (H : Hp) (o i v : V) (ov iv u : Value) (Q : Hp → Prop), Inv X pins σ H s → RelV o ov → RelV i iv → RelV v u → t o i v H Q →
    wpAny (model X.prog X.w) X.A (setItem ov iv u) (fun _ s' => ∃ H', Inv X pins σ H' s' ∧ Q H') X.xe s
/-- a op= b, by values -/
abbrev TIp := V → V → Hp → VK → Prop
def PIp (X : Cx) (op : Operator) (t : TIp) : Prop :=
  ∀ (pins : List (Addr × Obj)) (s : Shared) (σ : St) (H : Hp) (x y : V) (v u : Value) (Q : VK), Inv X pins σ H s → RelV x v → RelV y u → t x y H Q →
    wpAny (model X.prog X.w) X.A (inplaceOp op v u) (EP X pins σ Q) X.xe s
section
variable {X : Cx} {pos : Pos}
def gName (i : Nat) : TG := fun v σ H Q => Q (σ.set i (some v)) H
theorem pg_name {i : Nat} {x : Str} (hN : X.N.Nodup) (hi : X.N[i]? = some x) (hx : Loc X.env.scope x) (hf : X.fn x = true ∨ X.env.scope.names.lookup x = some .local := by first | exact .inl rfl | exact .inr rfl | assumption) : PG X (.Name x pos) (gName i) := by
  intro pins s σ H v u Q I r h
  exact wpAny_assign_Name (store_ok I hN hi hx r (fun s' I' => ⟨_, H, I', h⟩) hf)
def gNil : TGs := fun vs σ H Q => vs = [] ∧ Q σ H
def gCons (t : TG) (u : TGs) : TGs := fun vs σ H Q => ∃ v r, vs = v :: r ∧ t v σ H fun σ' H' => u r σ' H' Q
theorem pgs_nil : PGs X [] gNil := by
  intro pins s σ H vs us Q I r h
  obtain ⟨e, h⟩ := h
  subst e
  cases r
  exact assignInOrder_nil ⟨σ, H, I, h⟩
theorem pgs_cons {e : Expr} {es : List Expr} {t : TG} {u : TGs} (h1 : PG X e t) (h2 : PGs X es u)
    (hs : (assignEach (e :: es) X.env).map (·.2) = assign e X.env :: (assignEach es X.env).map (·.2) := by rfl) : PGs X (e :: es) (gCons t u) := by
  intro pins s σ H vs us Q I r h
  obtain ⟨v, vr, e1, h⟩ := h
  subst e1
  cases r with
  | cons r rr =>
    rw [hs]
    refine assignInOrder_cons (thn (h1 pins s σ H _ _ _ I r h) fun _ s1 ⟨σ1, H1, I1, q1⟩ => ?_)
    exact h2 pins s1 σ1 H1 _ _ Q I1 rr q1
/-- (a, b, ..) = a tuple of that length -/
def gTup (K : PySem.W.Frag) (n : Nat) (t : TGs) : TG := fun v σ H Q => ∃ a xs, v = .ref a ∧ SqT K H a xs ∧ xs.length = n ∧ t xs σ H Q
theorem pg_tup {es : List Expr} {k : Nat} {t : TGs} {n : Nat} (hc : X.calm = true) (h : PGs X es t)
    (hn : (assignEach es X.env).length = n := by rfl) (hst : (assignEach es X.env).findIdx? (·.1) = none := by rfl) : PG X (.Tuple es k pos) (gTup X.K n t) := by
  intro pins s σ H v u Q I r hw
  obtain ⟨a, xs, e1, hq, hl, hw⟩ := hw
  subst e1
  cases r
  obtain ⟨its, rv, ht, hz⟩ := I.tuple hq
  refine assign_Tuple_tuple (I.ok.hd hc) ht (by simp [hn, ← hl, rv.length]) hst fun h' hx => ?_
  have I1 : Inv X pins σ H { s with heap := h' } := I.kept (t' := s.toks) fun b o e => hx b o (Nat.ne_of_lt (Heap.lt_size e)) e
  exact h pins _ σ H xs _ Q I1 (by simpa using rv) hw
/-- o[i] = .. -/
def gSub (to ti : TE) (t : TSet) : TG := fun v σ H Q => to σ H fun o H1 => ti σ H1 fun i H2 => t o i v H2 fun H3 => Q σ H3
theorem pg_sub {o i : Expr} {to ti : TE} {t : TSet} (ho : PE X o to) (hi : PE X i ti) (hs : PSet X t)
    (ha : ∀ v, assign (.Subscript o i pos) X.env v = (do
      let ov ← holding [v] (eval o X.env)
      let iv ← holding [v, ov] (eval i X.env)
      standAt pos
      holding [v, ov, iv] (setItem ov iv v)
      release [v, ov, iv] []) := by intro _; rfl) : PG X (.Subscript o i pos) (gSub to ti t) := by
  intro pins s σ H v u Q I r h
  rw [ha]
  refine wpAny_bind (wpAny_holding (thn (ho pins s σ H _ I h) fun ov s1 ⟨x, H1, I1, r1, q1⟩ => ?_))
  refine wpAny_bind (wpAny_holding (thn (hi pins s1 σ H1 _ I1 q1) fun iv s2 ⟨y, H2, I2, r2, q2⟩ => ?_))
  refine wpAny_bind (wpAny_standAt (wpAny_bind (wpAny_holding (thn (hs pins s2 σ H2 x y v ov iv u _ I2 r1 r2 r q2) fun _ s3 ⟨H3, I3, q3⟩ => ?_))))
  exact wpAny_release ⟨σ, H3, I3, q3⟩
/-- target = value -/
def tAsg (te : TE) (g : TG) : TS := fun D σ H => te σ H fun x H1 => g x σ H1 D.nx
theorem ps_asg {tg e : Expr} {te : TE} {g : TG} (he : PE X e te) (hg : PG X tg g) (hs : swapsWithSole [tg] e pos.line X.env = pure false := by rfl) (hw : swappedStores [tg] e X.env = pure none := by rfl)
    (h1 : (assignEach [tg] X.env).map (·.2) = [assign tg X.env] := by rfl) : PS X (.Assign [tg] e pos) (tAsg te g) := by
  intro pins s σ H D I h
  refine wpAny_Assign_stores (thn (he pins s σ H _ I h) fun v s1 ⟨x, H1, I1, r1, q1⟩ => ?_) hs hw
  rw [h1]
  exact thn (hg pins s1 σ H1 x v _ I1 r1 q1) fun _ s2 q => q
/-- name = value -/
theorem ps_set {i : Nat} {x : Str} {e : Expr} {te : TE} {pos' : Pos} (hN : X.N.Nodup) (hi : X.N[i]? = some x) (hx : Loc X.env.scope x) (he : PE X e te) (hs : swapsWith e (some (.Name x pos')) pos.line X.env = pure false := by rfl) (hf : X.fn x = true ∨ X.env.scope.names.lookup x = some .local := by first | exact .inl rfl | exact .inr rfl | assumption) :
    PS X (.Assign [.Name x pos'] e pos) (tAsg te (gName i)) := by
  intro pins s σ H D I h
  refine wpAny_Assign_Name (thn (he pins s σ H _ I h) fun v s1 ⟨y, H1, I1, r1, q1⟩ => ?_) hs
  exact store_ok I1 hN hi hx r1 (fun s2 I2 => ⟨_, H1, I2, q1⟩) hf
/-- a, b = x, y with plain local names: stored from the right; the pair itself is not tracked (the opening rows as in PyProof/Rows/TupAssign.lean:23) -/
def tPar (i j : Nat) (ta : TA) : TS := fun D σ H => ta σ H fun vs H1 => ∃ v w, vs = [v, w] ∧ D.nx ((σ.set i (some v)).set j (some w)) H1
theorem ps_par {i j : Nat} {x y : Str} {a b : Expr} {ta : TA} {px py pt : Pos} {kt k2 pt2} (hc : X.calm = true) (hN : X.N.Nodup) (hi : X.N[i]? = some x) (hj : X.N[j]? = some y) (hij : i ≠ j)
    (hx : X.env.scope.names.lookup x = some .local) (hy : X.env.scope.names.lookup y = some .local) (ha : PA X [a, b] ta)
    (hw : swappedStores [.Tuple [.Name x px, .Name y py] kt pt] (.Tuple [a, b] k2 pt2) X.env = pure (some [x, y]))
    (hs : swapsWithSole [.Tuple [.Name x px, .Name y py] kt pt] (.Tuple [a, b] k2 pt2) pos.line X.env = pure false := by rfl) :
    PS X (.Assign [.Tuple [.Name x px, .Name y py] kt pt] (.Tuple [a, b] k2 pt2) pos) (tPar i j ta) := by
  intro pins s σ H D I h
  rw [exec_Assign_arm]
  refine wpAny_bind (wpAny_standAt ?_)
  rw [hs]
  refine wpAny_bind (wpAny_pure ?_)
  rw [if_neg (by decide)]
  refine wpAny_bind (Tuple_ (thn (ha _ pins s σ H _ I h) fun us s1 ⟨vs, H1, I1, r1, q1⟩ => ?_))
  obtain ⟨v, w, e1, q1⟩ := q1
  subst e1
  obtain ⟨u1, u2, rfl, rv, rw'⟩ : ∃ u1 u2, us = [u1, u2] ∧ RelV v u1 ∧ RelV w u2 := by
    cases r1 with
    | cons p q =>
      cases q with
      | cons p' q' =>
        cases q'
        exact ⟨_, _, rfl, p, p'⟩
  refine wpAny_newObj_type ?_ (by show 2 ≤ sizeLine; decide)
  have I2 : Inv X pins σ H1 { s1 with heap := s1.heap.push { cls := .type "tuple", data := .seq [u1, u2].toArray } } := I1.kept (t' := s1.toks) fun b o e => Heap.get?_push_of_some _ e
  rw [hw]
  refine wpAny_bind (wpAny_pure ?_)
  show wpAny (model X.prog X.w) X.A (do rule "assign.swapped-stores"; let items ← unpackItems (.ref s1.heap.objs.size) 2 none; assignInOrder [fun v => bindName X.env y v, fun v => bindName X.env x v] items.reverse; pure Flow.next) _ _ _
  refine wpAny_bind (wpAny_rule (wpAny_bind (unpackItems_tuple (items := #[u1, u2]) (I.ok.hd hc) (IsTup.new s1.heap _) fun h' hx' => ?_)))
  have I3 := I2.kept (h' := h') (t' := s1.toks) fun b o e => hx' b o (Nat.ne_of_lt (Heap.lt_size e)) e
  show wpAny _ _ (assignInOrder [fun v => bindName X.env y v, fun v => bindName X.env x v] [u2, u1] >>= fun _ => pure Flow.next) _ _ _
  refine wpAny_bind (assignInOrder_cons (wpAny_bindName (store_ok I3 hN hj (.inl hy) rw' (fun s2 I4 => ?_) (.inr hy))))
  refine assignInOrder_cons (wpAny_bindName (store_ok I4 hN hi (.inl hx) rv (fun s3 I5 => assignInOrder_nil (wpAny_pure ?_)) (.inr hx)))
  rw [List.set_comm _ _ (Ne.symm hij)] at I5
  exact ⟨_, H1, I5, q1⟩
/-- name op= e -/
def tAug (i : Nat) (te : TE) (ti : TIp) : TS := fun D σ H => ∃ x, σ[i]? = some (some x) ∧ te σ H fun y H1 => ti x y H1 fun z H2 => D.nx (σ.set i (some z)) H2
theorem ps_aug {i : Nat} {x : Str} {e : Expr} {te : TE} {op : Operator} {ti : TIp} {pos' : Pos} (hN : X.N.Nodup) (hi : X.N[i]? = some x) (hx : Loc X.env.scope x) (he : PE X e te) (ho : PIp X op ti) (hf : X.fn x = true ∨ X.env.scope.names.lookup x = some .local := by first | exact .inl rfl | exact .inr rfl | assumption) :
    PS X (.AugAssign (.Name x pos') op e pos) (tAug i te ti) := by
  intro pins s σ H D I h
  obtain ⟨v, e1, h⟩ := h
  obtain ⟨m, hn, hl⟩ := I.loc
  have vis : Vis X.env.scope x := by rcases hx with k | k; exact .inl k; exact .inr (.inl k)
  obtain ⟨u, r, l⟩ := hl i x v hi e1 vis
  refine wpAny_AugAssign_Name ?_
  have go : wpAny (model X.prog X.w) X.A (eval e X.env) (fun w s₂ => wpAny (model X.prog X.w) X.A (inplaceOp op u w) (fun r s₃ => wpAny (model X.prog X.w) X.A (storeName X.env x r) (fun _ => SP X pins D .next) X.xe s₃) X.xe s₂) X.xe s := by
    refine thn (he pins s σ H _ I h) fun w s1 ⟨y, H1, I1, r1, q1⟩ => ?_
    refine thn (ho pins s1 σ H1 v y u w _ I1 r r1 q1) fun z s2 ⟨zv, H2, I2, r2, q2⟩ => ?_
    exact store_ok I2 hN hi hx r2 (fun s3 I3 => ⟨_, H2, I3, q2⟩) hf
  rcases l with ⟨hk, hm⟩ | ⟨hk, c, hc, hcell⟩
  · exact wpAny_loadName_local I.ok.kind hk hn hm go
  · rcases hk with hk | hk
    · exact wpAny_loadName_cell I.ok.kind hk hc hcell go
    · rcases hx with k | k
      · have : X.env.scope.names.lookup x = some .free := hk
        rw [k] at this; cases this
      · have : X.env.scope.names.lookup x = some .free := hk
        rw [k] at this; cases this
/-- o[i] op= e -/
def tAugS (to ti te : TE) (tget : V → V → Hp → VK → Prop) (tip : TIp) (tset : TSet) : TS := fun D σ H => to σ H fun o H1 => ti σ H1 fun i H2 => tget o i H2 fun x H3 => te σ H3 fun y H4 => tip x y H4 fun z H5 => tset o i z H5 fun H6 => D.nx σ H6
/-- o[i], by values -/
def PGet (X : Cx) (t : V → V → Hp → VK → Prop) : Prop :=
  ∀ (pins : List (Addr × Obj)) (s : Shared) (σ : St) (H : Hp) (o i : V) (ov iv : Value) (Q : VK), Inv X pins σ H s → RelV o ov → RelV i iv → t o i H Q →
    wpAny (model X.prog X.w) X.A (getItem ov iv) (EP X pins σ Q) X.xe s
theorem ps_augS {o i e : Expr} {to ti te : TE} {tget : V → V → Hp → VK → Prop} {tip : TIp} {tset : TSet} {op : Operator} {tpos : Pos} (ho : PE X o to) (hi : PE X i ti) (hg : PGet X tget) (he : PE X e te) (hp : PIp X op tip) (hs : PSet X tset)
    (ha : ∀ ov iv new, augStore i ov iv new = (do holding [new, ov, iv] (setItem ov iv new); release [new, ov, iv] []; pure .next) := by intros; rfl) : PS X (.AugAssign (.Subscript o i tpos) op e pos) (tAugS to ti te tget tip tset) := by
  intro pins s σ H D I h
  refine wpAny_AugAssign_SubscriptAny (thn (ho pins s σ H _ I h) fun ov s1 ⟨x1, H1, I1, r1, q1⟩ => ?_) ha
  refine thn (hi pins s1 σ H1 _ I1 q1) fun iv s2 ⟨x2, H2, I2, r2, q2⟩ => ?_
  refine thn (hg pins s2 σ H2 x1 x2 ov iv _ I2 r1 r2 q2) fun old s3 ⟨x3, H3, I3, r3, q3⟩ => ?_
  refine thn (he pins s3 σ H3 _ I3 q3) fun v s4 ⟨x4, H4, I4, r4, q4⟩ => ?_
  refine thn (hp pins s4 σ H4 x3 x4 old v _ I4 r3 r4 q4) fun new s5 ⟨x5, H5, I5, r5, q5⟩ => ?_
  exact thn (hs pins s5 σ H5 x1 x2 x5 ov iv new _ I5 r1 r2 r5 q5) fun _ s6 ⟨H6, I6, q6⟩ => ⟨σ, H6, I6, q6⟩
/-- ints -/
def ipI (f : Int → Int → Int) : TIp := fun x y H Q => ∃ i j, x = .int i ∧ y = .int j ∧ Q (.int (f i j)) H
theorem ip_add : PIp X .Add (ipI fun i j => i + j) := by
  intro pins s σ H x y v u Q I r1 r2 h
  obtain ⟨i, j, e1, e2, q⟩ := h
  subst e1; subst e2
  obtain ⟨t, rfl⟩ := r1
  obtain ⟨t', rfl⟩ := r2
  exact iadd_int ⟨.int _, H, I.tok _, ⟨_, rfl⟩, q⟩
theorem ip_sub : PIp X .Sub (ipI fun i j => i - j) := by
  intro pins s σ H x y v u Q I r1 r2 h
  obtain ⟨i, j, e1, e2, q⟩ := h
  subst e1; subst e2
  obtain ⟨t, rfl⟩ := r1
  obtain ⟨t', rfl⟩ := r2
  exact isub_int ⟨.int _, H, I.tok _, ⟨_, rfl⟩, q⟩
end

/-! ### while -/
section
variable {X : Cx} {pos : Pos}
/-- the invariant W with its measure -/
def tWhile (c : TT) (tb : TS) : TS := fun D σ H => ∃ W : Nat → St → Hp → Prop, (∃ m, W m σ H) ∧ ∀ m σ H, W m σ H →
  c σ H fun b H1 => if b = true then ∃ N : St → Hp → Prop, (∀ σ' H', N σ' H' → ∃ m', m' < m ∧ W m' σ' H') ∧ tb { D with nx := N, ct := N, bk := D.nx } σ H1 else D.nx σ H1
theorem ps_while {c : Expr} {body : List Stmt} {tc : TT} {tb : TS} (hp : PassesOwn (model X.prog X.w) X.A X.env X.xe) (hc : PT X c tc) (hb : PSs X body tb) : PS X (.While c body [] pos) (tWhile tc tb) := by
  intro pins s σ H D I h
  obtain ⟨W, ⟨m0, w0⟩, turn⟩ := h
  refine wpAny_While (codeAny_whileLoop (fun n s' => ∃ σ' H', Inv X pins σ' H' s' ∧ W n σ' H') ?_ m0 ⟨σ, H, I, w0⟩)
  rintro n s1 ⟨σ1, H1, I1, w1⟩
  refine wpAny_passesOwn hp (thn (hc pins s1 σ1 H1 _ I1 (turn n σ1 H1 w1)) fun b s2 ⟨H2, I2, q2⟩ => ?_)
  cases b with
  | true =>
    obtain ⟨N, hN, q2⟩ := q2
    rw [if_pos rfl]
    refine wpAny_passesOwn hp (thn (hb pins s2 σ1 H2 _ I2 q2) fun f s3 q3 => ?_)
    cases f with
    | next =>
      obtain ⟨σ3, H3, I3, n3⟩ := q3
      obtain ⟨m', hm, w3⟩ := hN σ3 H3 n3
      exact ⟨m', hm, σ3, H3, I3, w3⟩
    | cont =>
      obtain ⟨σ3, H3, I3, n3⟩ := q3
      obtain ⟨m', hm, w3⟩ := hN σ3 H3 n3
      exact ⟨m', hm, σ3, H3, I3, w3⟩
    | brk => exact q3
    | ret v => exact q3
  | false =>
    rw [if_neg Bool.false_ne_true]
    exact wpAny_execs_nil ⟨σ1, H2, I2, q2⟩
end

/-! ### what a loop or a comprehension walks -/
/-- at turn i: it yields x (the heap may grow), or it stops -/
structure It where
  go : Nat → Hp → Prop
  yld : Nat → Hp → V → Hp → Prop
  stop : Nat → Hp → Prop
/-- the iterator's own objects may turn: they are not the frame's, not pinned, younger than the entry (or a comprehension's own) -/
def FpOk (X : Cx) (pins : List (Addr × Obj)) (H : Hp) (b : Addr) : Prop :=
  H b = none ∧ b ≠ X.env.locals ∧ b ∉ X.fs ∧ (b ∈ X.ex ∨ X.s₀.heap.objs.size ≤ b) ∧ (∀ x c, X.env.cells.lookup x = some c → c ≠ b) ∧ ∀ p ∈ X.pn ++ pins, p.1 ≠ b
theorem Inv.fpOk {X : Cx} {pins : List (Addr × Obj)} {σ : St} {H H' : Hp} {s : Shared} {b : Addr} (I : Inv X pins σ H s) (hb : s.heap.objs.size ≤ b) (hn : H' b = none) : FpOk X pins H' b := by
  refine ⟨hn, Nat.ne_of_gt (Nat.lt_of_lt_of_le I.lt hb), I.nofs hb, .inr (Nat.le_trans I.sz hb), fun x c e z => ?_, fun p hp z => ?_⟩
  · obtain ⟨v, q⟩ := I.cell x c e
    exact absurd (Nat.lt_of_lt_of_le q.lt (by rw [z]; exact hb)) (Nat.lt_irrefl _)
  · exact absurd (Nat.lt_of_lt_of_le (Heap.lt_size (I.pin p hp).1) (by rw [z]; exact hb)) (Nat.lt_irrefl _)
structure Turn (P : Program) (w : World) (K : PySem.W.Frag) (tg : Expr) (J : It) (fp : List Addr) (it : Addr) (tn : Nat → Heap → Prop) : Prop where
  mem : it ∈ fp
  obj : ∀ i h, tn i h → ∀ b ∈ fp, ∃ o, h.get? b = some o ∧ ∀ v, o.data ≠ .cell v
  keep : ∀ i h h', tn i h → (∀ b ∈ fp, ∀ o, h.get? b = some o → h'.get? b = some o) → tn i h'
  item : ∀ (X : Cx), X.prog = P → X.w = w → X.K = K → X.calm = true → ∀ (i : Nat) (pins : List (Addr × Obj)) (s : Shared) (σ : St) (H : Hp) (E : Value → Shared → Prop), Inv X pins σ H s → (∀ b ∈ fp, FpOk X pins H b) → tn i s.heap → J.go i H →
    wpAny (model P w) X.A (pyNext (.ref it)) (fun r s1 => ∃ u, r = some u ∧
      wpAny (model P w) X.A (letOwnedTupleGo tg (.ref it) u) (fun _ s2 => ∃ x H', Inv X pins σ H' s2 ∧ RelV x u ∧ J.yld i H x H' ∧ tn (i + 1) s2.heap ∧ ∀ b ∈ fp, H' b = none) E s1) E s
  done : ∀ (X : Cx), X.prog = P → X.w = w → X.K = K → X.calm = true → ∀ (i : Nat) (pins : List (Addr × Obj)) (s : Shared) (σ : St) (H : Hp) (E : Value → Shared → Prop), Inv X pins σ H s → (∀ b ∈ fp, FpOk X pins H b) → tn i s.heap → J.stop i H →
    wpAny (model P w) X.A (pyNext (.ref it)) (fun r s1 => r = none ∧ Inv X pins σ H s1) E s
  self : ∀ (A : Around) (i : Nat) (s : Shared) (Q : Value → Shared → Prop) (E : Value → Shared → Prop), tn i s.heap → Q (.ref it) s → wpAny (model P w) A (pyIter (.ref it)) Q E s
abbrev TI := St → Hp → (It → Hp → Prop) → Prop
/-- an iterator has come -/
def PIE (X : Cx) (pins : List (Addr × Obj)) (σ : St) (tg : Expr) (R : It → Hp → Prop) (itv : Value) (s2 : Shared) : Prop :=
  ∃ (it : Addr) (fp : List Addr) (tn : Nat → Heap → Prop) (J : It) (H' : Hp), itv = .ref it ∧ Inv X pins σ H' s2 ∧ Turn X.prog X.w X.K tg J fp it tn ∧ tn 0 s2.heap ∧ (∀ b ∈ fp, FpOk X pins H' b) ∧ R J H'
def PI (X : Cx) (tg iter : Expr) (wi : TI) : Prop :=
  ∀ (pins : List (Addr × Obj)) (s : Shared) (σ : St) (H : Hp) (R : It → Hp → Prop), Inv X pins σ H s → wi σ H R →
    wpAny (model X.prog X.w) X.A (eval iter X.env) (fun v s1 => wpAny (model X.prog X.w) X.A (pyIter v) (PIE X pins σ tg R) X.xe s1) X.xe s

/-- the step ahead of the store is nothing for an iterator that keeps no tuple -/
theorem go_of {M : Model} {A : Around} {E : Value → Shared → Prop} {s : Shared} {tg : Expr} {it : Addr} {u : Value} {o : Obj} {n : String} {vs : Array Value} {Q : Unit → Shared → Prop} (ho : s.heap.get? it = some o) (hc : o.cls = .type n) (hd : o.data = .fields vs)
    (hn : ["enumerate", "zip", "dict_itemiterator", "dict_reverseitemiterator", "odict_iterator", "itertools.zip_longest", "itertools.pairwise"].contains n = false) (hQ : Q () s) : wpAny M A (letOwnedTupleGo tg (.ref it) u) Q E s := by
  unfold letOwnedTupleGo
  cases tg <;> first
    | exact wpAny_pure hQ
    | (cases u <;> first
        | exact wpAny_pure hQ
        | (refine wpAny_bind (wpAny_load ho ?_)
           rw [hc, hd]
           show wpAny M A (if (["enumerate", "zip", "dict_itemiterator", "dict_reverseitemiterator", "odict_iterator", "itertools.zip_longest", "itertools.pairwise"].contains n && vs[0]? == some (rawInt _)) = true then _ else _) Q E s
           rw [if_neg (by intro h; rw [hn, Bool.false_and] at h; cases h)]
           exact wpAny_pure hQ))

/-- the list at a, as it stands at each turn (a loop may append to it) -/
def Itl (K : PySem.W.Frag) (a : Addr) : It :=
  ⟨fun i H => ∃ xs x, SqL K H a xs ∧ xs[i]? = some x, fun i H x H' => H' = H ∧ ∀ xs, SqL K H a xs → xs[i]? = some x, fun i H => ∃ xs, SqL K H a xs ∧ xs.length ≤ i⟩
def Itt (K : PySem.W.Frag) (a : Addr) : It :=
  ⟨fun i H => ∃ xs x, SqT K H a xs ∧ xs[i]? = some x, fun i H x H' => H' = H ∧ ∀ xs, SqT K H a xs → xs[i]? = some x, fun i H => ∃ xs, SqT K H a xs ∧ xs.length ≤ i⟩
/-- lo, lo + 1, .. (n of them) -/
def Itr (lo : Int) (n : Nat) : It := ⟨fun i _ => i < n, fun i H x H' => H' = H ∧ x = .int (lo + i), fun i _ => n ≤ i⟩
theorem turn_list {P : Program} {w : World} {K : PySem.W.Frag} {tg : Expr} (a it : Addr) : Turn P w K tg (Itl K a) [it] it (fun i h => h.IsListIter it a i) where
  mem := by simp
  obj := fun i h st b hb => by
    have e : b = it := by simpa using hb
    subst e
    obtain ⟨o, e, c, d⟩ := st
    exact ⟨o, e, fun v z => by rw [d] at z; cases z⟩
  keep := fun i h h' st k => st.at fun o e => k it (by simp) o e
  item := by
    intro X hP hw hK hc i pins s σ H E I hf st hg
    subst hP hw hK
    obtain ⟨xs, x, hq, hx⟩ := hg
    obtain ⟨its, rv, p, hz⟩ := I.list hq
    obtain ⟨u, hu, ru⟩ := rv.get hx
    obtain ⟨f0, f1, f2, f3, f4, f5⟩ := hf it (by simp)
    refine wpAny_pyNext_list_item st p.isList (x := u) (by simpa using hu) fun h' st' sb => ?_
    have I1 : Inv X pins σ H { s with heap := h' } := I.turned (t' := s.toks) (fun b o hb e => (sb.2 b hb).trans e) f0 f1 f3 f4 f5
    obtain ⟨o, e, c, d⟩ := id st'
    exact ⟨u, rfl, go_of (s := { s with heap := h' }) e c d (by decide) ⟨x, H, I1, ru, ⟨rfl, fun ys hy => by rw [I.list_inj hy hq]; exact hx⟩, st', fun b hb => (hf b hb).1⟩⟩
  done := by
    intro X hP hw hK hc i pins s σ H E I hf st hg
    subst hP hw hK
    obtain ⟨xs, hq, hx⟩ := hg
    obtain ⟨its, rv, p, hz⟩ := I.list hq
    obtain ⟨f0, f1, f2, f3, f4, f5⟩ := hf it (by simp)
    have hl := rv.length
    exact wpAny_pyNext_list_end (I.ok.hd hc) st p.isList (by simp; omega) fun h' eb => ⟨rfl, I.turned (t' := s.toks) (fun b o hb e => eb b o hb e) f0 f1 f3 f4 f5⟩
  self := fun _ _ _ _ _ st h => wpAny_pyIter_listiter st h
theorem turn_tuple {P : Program} {w : World} {K : PySem.W.Frag} {tg : Expr} (a it : Addr) : Turn P w K tg (Itt K a) [it] it (fun i h => h.IsTupleIter it a i) where
  mem := by simp
  obj := fun i h st b hb => by
    have e : b = it := by simpa using hb
    subst e
    obtain ⟨o, e, c, d⟩ := st
    exact ⟨o, e, fun v z => by rw [d] at z; cases z⟩
  keep := fun i h h' st k => st.at fun o e => k it (by simp) o e
  item := by
    intro X hP hw hK hc i pins s σ H E I hf st hg
    subst hP hw hK
    obtain ⟨xs, x, hq, hx⟩ := hg
    obtain ⟨its, rv, p, hz⟩ := I.tuple hq
    obtain ⟨u, hu, ru⟩ := rv.get hx
    obtain ⟨f0, f1, f2, f3, f4, f5⟩ := hf it (by simp)
    refine wpAny_pyNext_tuple_item st (show s.heap.IsTuple a its.toArray from p) (x := u) (by simpa using hu) fun h' st' sb => ?_
    have I1 : Inv X pins σ H { s with heap := h' } := I.turned (t' := s.toks) (fun b o hb e => (sb.2 b hb).trans e) f0 f1 f3 f4 f5
    obtain ⟨o, e, c, d⟩ := id st'
    exact ⟨u, rfl, go_of (s := { s with heap := h' }) e c d (by decide) ⟨x, H, I1, ru, ⟨rfl, fun ys hy => by rw [I.tuple_inj hy hq]; exact hx⟩, st', fun b hb => (hf b hb).1⟩⟩
  done := by
    intro X hP hw hK hc i pins s σ H E I hf st hg
    subst hP hw hK
    obtain ⟨xs, hq, hx⟩ := hg
    obtain ⟨its, rv, p, hz⟩ := I.tuple hq
    obtain ⟨f0, f1, f2, f3, f4, f5⟩ := hf it (by simp)
    have hl := rv.length
    exact wpAny_pyNext_tuple_end (I.ok.hd hc) st (show s.heap.IsTuple a its.toArray from p) (by simp; omega) fun h' eb => ⟨rfl, I.turned (t' := s.toks) (fun b o hb e => eb b o hb e) f0 f1 f3 f4 f5⟩
  self := fun _ _ _ _ _ st h => wpAny_pyIter_tupleiter st h
theorem turn_range {P : Program} {w : World} {K : PySem.W.Frag} {tg : Expr} (it : Addr) (lo : Int) (n : Nat) : Turn P w K tg (Itr lo n) [it] it (fun i h => IsRangeIter h it (lo + (i : Nat) * 1) ((n : Int) - (i : Nat)) 1) where
  mem := by simp
  obj := fun i h st b hb => by
    have e : b = it := by simpa using hb
    subst e
    exact ⟨_, st, fun v z => by
      have z' : Data.fields _ = Data.cell v := z
      cases z'⟩
  keep := fun i h h' st k => k it (by simp) _ st
  item := by
    intro X hP hw hK hc i pins s σ H E I hf st hg
    subst hP hw hK
    obtain ⟨f0, f1, f2, f3, f4, f5⟩ := hf it (by simp)
    have W := Walks.range (prog := X.prog) (w := X.w) (I.ok.hd hc) it lo 1 n
    refine W.item i s _ _ hg st fun v h' tk hv st' kk => ?_
    obtain ⟨t, rfl⟩ := hv
    have I1 : Inv X pins σ H { s with heap := h', toks := tk } := I.turned (fun b o hb e => kk b o (by simpa using hb) e) f0 f1 f3 f4 f5
    refine ⟨_, rfl, go_of (s := { s with heap := h', toks := tk }) (n := "range_iterator") st' rfl rfl (by decide) ⟨.int (lo + i), H, I1, ⟨t, ?_⟩, ⟨rfl, rfl⟩, st', fun b hb => (hf b hb).1⟩⟩
    rw [Int.mul_one]
  done := by
    intro X hP hw hK hc i pins s σ H E I hf st hg
    subst hP hw hK
    obtain ⟨f0, f1, f2, f3, f4, f5⟩ := hf it (by simp)
    exact wpAny_pyNext_range_end (I.ok.hd hc) st (by have : n ≤ i := hg; omega) fun h' eb => ⟨rfl, I.turned (t' := s.toks) (fun b o hb e => eb b o hb e) f0 f1 f3 f4 f5⟩
  self := fun _ _ _ _ _ st h => wpAny_pyIter_rangeiter st h
end L2

namespace L2
open PySem PySem.Spec PyProof.Rows
section
variable {X : Cx} {tg : Expr}
def iList (K : PySem.W.Frag) (tl : TE) : TI := fun σ H R => tl σ H fun x H1 => ∃ a, x = .ref a ∧ (∃ xs, SqL K H1 a xs) ∧ R (Itl K a) H1
def iTup (K : PySem.W.Frag) (tl : TE) : TI := fun σ H R => tl σ H fun x H1 => ∃ a, x = .ref a ∧ (∃ xs, SqT K H1 a xs) ∧ R (Itt K a) H1
theorem pi_list {l : Expr} {tl : TE} (hl : PE X l tl) : PI X tg l (iList X.K tl) := by
  intro pins s σ H R I h
  refine thn (hl pins s σ H _ I h) fun v s1 ⟨x, H1, I1, r1, q1⟩ => ?_
  obtain ⟨a, e, ⟨xs, hq⟩, q⟩ := q1
  subst e
  cases r1
  obtain ⟨its, rv, p, hz⟩ := I1.list hq
  refine wpAny_pyIter_list p.isList ?_
  refine ⟨s1.heap.objs.size, [s1.heap.objs.size], _, _, H1, rfl, I1.kept (t' := s1.toks) fun b o e => Heap.get?_push_of_some _ e, turn_list a _, ⟨_, Heap.get?_push_size _ rfl, rfl, rfl⟩, fun b hb => ?_, q⟩
  have e : b = s1.heap.objs.size := by simpa using hb
  subst e
  exact I1.fpOk (Nat.le_refl _) (I1.hok.fresh (Nat.le_refl _))
theorem pi_tup {l : Expr} {tl : TE} (hl : PE X l tl) : PI X tg l (iTup X.K tl) := by
  intro pins s σ H R I h
  refine thn (hl pins s σ H _ I h) fun v s1 ⟨x, H1, I1, r1, q1⟩ => ?_
  obtain ⟨a, e, ⟨xs, hq⟩, q⟩ := q1
  subst e
  cases r1
  obtain ⟨its, rv, p, hz⟩ := I1.tuple hq
  refine wpAny_pyIter_tuple (show s1.heap.IsTuple a its.toArray from p) ?_
  refine ⟨s1.heap.objs.size, [s1.heap.objs.size], _, _, H1, rfl, I1.kept (t' := s1.toks) fun b o e => Heap.get?_push_of_some _ e, turn_tuple a _, ⟨_, Heap.get?_push_size _ rfl, rfl, rfl⟩, fun b hb => ?_, q⟩
  have e : b = s1.heap.objs.size := by simpa using hb
  subst e
  exact I1.fpOk (Nat.le_refl _) (I1.hok.fresh (Nat.le_refl _))
/-- a range object just made, walked -/
theorem range_it {pins : List (Addr × Obj)} {σ : St} {H : Hp} {s : Shared} {R : It → Hp → Prop} {E : Value → Shared → Prop} {lo hi : Int} {t u v : Tok} {tk : Nat} (I : Inv X pins σ H s) (h1 : -(2 ^ 62) ≤ lo) (h2 : lo < 2 ^ 62) (h3 : -(2 ^ 62) ≤ hi) (h4 : hi < 2 ^ 62)
    (q : R (Itr lo (hi - lo).toNat) H) : wpAny (model X.prog X.w) X.A (pyIter (.ref s.heap.objs.size)) (PIE X pins σ tg R) E { s with heap := s.heap.push { cls := .type "range", data := .fields #[.int lo t, .int hi u, .int 1 v] }, toks := tk } := by
  refine wpAny_pyIter_range (IsRange.new ..) (small_one h1 h2 h3 h4) ?_
  have I1 : Inv X pins σ H { s with heap := s.heap.push { cls := .type "range", data := .fields #[.int lo t, .int hi u, .int 1 v] }, toks := tk } := I.kept fun b o e => Heap.get?_push_of_some _ e
  refine ⟨(s.heap.push { cls := .type "range", data := .fields #[.int lo t, .int hi u, .int 1 v] }).objs.size, [(s.heap.push { cls := .type "range", data := .fields #[.int lo t, .int hi u, .int 1 v] }).objs.size], _, _, H, rfl,
    I1.kept (t' := tk) fun b o e => Heap.get?_push_of_some _ e, turn_range _ lo (hi - lo).toNat, ?_, fun b hb => ?_, q⟩
  · have e1 : lo + ((0 : Nat) : Int) * 1 = lo := by simp
    have e2 : (((hi - lo).toNat : Nat) : Int) - ((0 : Nat) : Int) = Builtin.Range.rangeSize lo hi 1 := by rw [rangeSize_one]; split <;> omega
    show IsRangeIter _ _ (lo + ((0 : Nat) : Int) * 1) ((((hi - lo).toNat : Nat) : Int) - ((0 : Nat) : Int)) 1
    rw [e1, e2]
    exact Heap.get?_push_size _ rfl
  · have e : b = (s.heap.push { cls := .type "range", data := .fields #[.int lo t, .int hi u, .int 1 v] }).objs.size := by simpa using hb
    subst e
    exact I1.fpOk (Nat.le_refl _) (I1.hok.fresh (Nat.le_refl _))
def iRng1 (ta : TA) : TI := fun σ H R => ta σ H fun vs H1 => ∃ j : Int, vs = [.int j] ∧ -(2 ^ 62) ≤ j ∧ j < 2 ^ 62 ∧ R (Itr 0 j.toNat) H1
def iRng2 (ta : TA) : TI := fun σ H R => ta σ H fun vs H1 => ∃ i j : Int, vs = [.int i, .int j] ∧ (-(2 ^ 62) ≤ i ∧ i < 2 ^ 62 ∧ -(2 ^ 62) ≤ j ∧ j < 2 ^ 62) ∧ R (Itr i (j - i).toNat) H1
theorem pi_range1 {a : Expr} {ta : TA} {p pos : Pos} (hg : Gl X "range") (hm : X.mg "range" = none) (ha : PA X [a] ta) (hs : starEach [a] X.env = [(false, eval a X.env)] := by rfl) : PI X tg (.Call (.Name "range" p) [a] [] pos) (iRng1 ta) := by
  intro pins s σ H R I h
  refine Call_ (ld_blt I hg hm boot_range (PyProof.Rows.callWith_type1 (thn (ha pos pins s σ H _ I h) fun us s1 ⟨vs, H1, I1, r1, q1⟩ => ?_) hs rfl))
  obtain ⟨j, e, q1, q2, q⟩ := q1
  subst e
  cases r1 with
  | cons r rr =>
    cases rr
    obtain ⟨t, rfl⟩ := r
    exact call_range_1 (range_it I1 (by omega) (by omega) q1 q2 (by simpa using q))
theorem pi_range2 {a b : Expr} {ta : TA} {p pos : Pos} (hg : Gl X "range") (hm : X.mg "range" = none) (ha : PA X [a, b] ta) (hs : starEach [a, b] X.env = [(false, eval a X.env), (false, eval b X.env)] := by rfl) (hs2 : starEach [b] X.env = [(false, eval b X.env)] := by rfl) :
    PI X tg (.Call (.Name "range" p) [a, b] [] pos) (iRng2 ta) := by
  intro pins s σ H R I h
  refine Call_ (ld_blt I hg hm boot_range (PyProof.Rows.callWith_type1 (thn (ha pos pins s σ H _ I h) fun us s1 ⟨vs, H1, I1, r1, q1⟩ => ?_) (by rw [hs, hs2]) (by rw [hs2]; rfl)))
  obtain ⟨i, j, e, ⟨q1, q2, q3, q4⟩, q⟩ := q1
  subst e
  cases r1 with
  | cons r rr =>
    cases rr with
    | cons r' rr =>
      cases rr
      obtain ⟨t, rfl⟩ := r
      obtain ⟨t', rfl⟩ := r'
      exact call_range_2 (range_it I1 q1 q2 q3 q4 q)

/-! ### for -/
/-- W: the invariant by the turn and a measure; N: what the body is to reach -/
def tFor (wi : TI) (g : TG) (tb : TS) : TS := fun D σ H => wi σ H fun J H1 => ∃ W : Nat → Nat → St → Hp → Prop, (∃ m, W 0 m σ H1) ∧ ∀ i m σ H, W i m σ H →
  (J.stop i H ∧ D.nx σ H) ∨ (J.go i H ∧ ∃ N : St → Hp → Prop, (∀ σ' H', N σ' H' → ∃ m', m' < m ∧ W (i + 1) m' σ' H') ∧ ∀ x H', J.yld i H x H' → g x σ H' fun σ2 H2 => tb { D with nx := N, ct := N, bk := D.nx } σ2 H2)
/-- the records at fp as they stand -/
def pinsAt (fp : List Addr) (h : Heap) : List (Addr × Obj) := fp.filterMap fun b => (h.get? b).map fun o => (b, o)
theorem mem_pinsAt {fp : List Addr} {h : Heap} {b : Addr} {o : Obj} (hb : b ∈ fp) (e : h.get? b = some o) : (b, o) ∈ pinsAt fp h := List.mem_filterMap.mpr ⟨b, hb, by rw [e]; rfl⟩
theorem of_pinsAt {fp : List Addr} {h : Heap} {p : Addr × Obj} (hp : p ∈ pinsAt fp h) : p.1 ∈ fp ∧ h.get? p.1 = some p.2 := by
  obtain ⟨b, hb, e⟩ := List.mem_filterMap.mp hp
  cases q : h.get? b with
  | none => rw [q] at e; cases e
  | some o =>
    rw [q] at e
    have e' : (b, o) = p := Option.some.inj e
    subst e'
    exact ⟨hb, q⟩
theorem Inv.pinned {pins : List (Addr × Obj)} {σ : St} {H : Hp} {s : Shared} {fp : List Addr} (I : Inv X pins σ H s) (hf : ∀ b ∈ fp, FpOk X pins H b) (ho : ∀ b ∈ fp, ∃ o, s.heap.get? b = some o ∧ ∀ v, o.data ≠ .cell v) : Inv X (pins ++ pinsAt fp s.heap) σ H s :=
  I.pins_of fun p hp => (List.mem_append.mp hp).elim (fun z => I.pin p (List.mem_append_right _ z)) fun z => by
    obtain ⟨hb, e⟩ := of_pinsAt z
    obtain ⟨f0, f1, f2, _⟩ := hf p.1 hb
    obtain ⟨o, e', d⟩ := ho p.1 hb
    rw [e] at e'; cases e'
    exact ⟨e, f0, f1, f2, d⟩
theorem Inv.unpinned {pins pl : List (Addr × Obj)} {σ : St} {H : Hp} {s : Shared} (I : Inv X (pins ++ pl) σ H s) : Inv X pins σ H s := I.pins_of fun p hp => I.pin p (List.mem_append_right _ (List.mem_append_left _ hp))
theorem ps_for {iter : Expr} {body : List Stmt} {wi : TI} {g : TG} {tb : TS} {pos : Pos} (hp : PassesOwn (model X.prog X.w) X.A X.env X.xe) (hc : X.calm = true) (hi : PI X tg iter wi) (hg : PG X tg g) (hb : PSs X body tb)
    (hs : ∀ x, foldedSetIterable iter X.env x = pure x := by intro _; rfl) : PS X (.For tg iter body [] pos) (tFor wi g tb) := by
  intro pins s σ H D I h
  refine wpAny_For (thn (hi pins s σ H _ I h) fun v s1 h1 => thn h1 fun itv s2 h2 => ?_) hs
  obtain ⟨it, fp, tn, J, H2, e, I2, T, st2, f2, W, ⟨m0, w0⟩, turn⟩ := h2
  subst e
  -- what stays true of the iterator's objects through the loop
  have stat : ∀ {H' : Hp}, (∀ b ∈ fp, H' b = none) → ∀ b ∈ fp, FpOk X pins H' b := fun hn b hb => ⟨hn b hb, (f2 b hb).2⟩
  refine codeAny_forLoop_any (fun n s' => ∃ i σ' H', Inv X pins σ' H' s' ∧ tn i s'.heap ∧ (∀ b ∈ fp, H' b = none) ∧ W i n σ' H') ?_ m0 ⟨0, σ, H2, I2, st2, fun b hb => (f2 b hb).1, w0⟩
  rintro n s3 ⟨i, σ3, H3, I3, st3, fr3, w3⟩
  rcases turn i n σ3 H3 w3 with ⟨stop, qn⟩ | ⟨go, N, hN, step⟩
  · refine wpAny_passesOwn hp (thn (T.done X rfl rfl rfl hc i pins s3 σ3 H3 X.xe I3 (stat fr3) st3 stop) fun r s4 ⟨hr, I4⟩ => ?_)
    subst hr
    exact wpAny_execs_nil ⟨σ3, H3, I4, qn⟩
  · refine wpAny_passesOwn hp (thn (T.item X rfl rfl rfl hc i pins s3 σ3 H3 X.xe I3 (stat fr3) st3 go) fun r s4 ⟨u, hr, h4⟩ => ?_)
    subst hr
    refine wpAny_passesOwn hp (thn h4 fun _ s5 ⟨x, H5, I5, r5, y5, st5, fr5⟩ => ?_)
    have I5' := I5.pinned (stat fr5) (T.obj _ _ st5)
    refine wpAny_passesOwn hp (thn (hg _ s5 σ3 H5 x u _ I5' r5 (step x H5 y5)) fun _ s6 ⟨σ6, H6, I6, q6⟩ => ?_)
    refine wpAny_passesOwn hp (thn (hb _ s6 σ6 H6 _ I6 q6) fun f s7 q7 => ?_)
    have again : ∀ {σ7 : St} {H7 : Hp}, Inv X (pins ++ pinsAt fp s5.heap) σ7 H7 s7 → N σ7 H7 → ∃ m, m < n ∧ ∃ i σ' H', Inv X pins σ' H' s7 ∧ tn i s7.heap ∧ (∀ b ∈ fp, H' b = none) ∧ W i m σ' H' := fun {σ7 H7} I7 n7 => by
      obtain ⟨m', hm, w7⟩ := hN σ7 H7 n7
      refine ⟨m', hm, i + 1, σ7, H7, I7.unpinned, T.keep _ _ _ st5 fun b hb o e => (I7.pin (b, o) (List.mem_append_right _ (List.mem_append_right _ (mem_pinsAt hb e)))).1, fun b hb => ?_, w7⟩
      obtain ⟨o, e, d⟩ := T.obj _ _ st5 b hb
      exact (I7.pin (b, o) (List.mem_append_right _ (List.mem_append_right _ (mem_pinsAt hb e)))).2.1
    cases f with
    | next => obtain ⟨σ7, H7, I7, n7⟩ := q7; exact again I7 n7
    | cont => obtain ⟨σ7, H7, I7, n7⟩ := q7; exact again I7 n7
    | brk => obtain ⟨σ7, H7, I7, q7⟩ := q7; exact ⟨σ7, H7, I7.unpinned, q7⟩
    | ret v => obtain ⟨x7, σ7, H7, I7, r7, q7⟩ := q7; exact ⟨x7, σ7, H7, I7.unpinned, r7, q7⟩
end

/-! ### the forms one uses -/
/-- over a list that the body leaves as it is -/
theorem for_list {K : PySem.W.Frag} {a : Addr} {xs : List V} {g : TG} {tb : TS} {D : Ends} {σ : St} {H : Hp} (Pv : Nat → St → Hp → Prop) (h0 : Pv 0 σ H) (hl : ∀ i σ H, i ≤ xs.length → Pv i σ H → SqL K H a xs)
    (hs : ∀ i x σ H, xs[i]? = some x → Pv i σ H → g x σ H fun σ2 H2 => tb { D with nx := Pv (i + 1), ct := Pv (i + 1), bk := D.nx } σ2 H2) (hd : ∀ σ H, Pv xs.length σ H → D.nx σ H) :
    ∃ W : Nat → Nat → St → Hp → Prop, (∃ m, W 0 m σ H) ∧ ∀ i m σ H, W i m σ H →
      ((Itl K a).stop i H ∧ D.nx σ H) ∨ ((Itl K a).go i H ∧ ∃ N : St → Hp → Prop, (∀ σ' H', N σ' H' → ∃ m', m' < m ∧ W (i + 1) m' σ' H') ∧ ∀ x H', (Itl K a).yld i H x H' → g x σ H' fun σ2 H2 => tb { D with nx := N, ct := N, bk := D.nx } σ2 H2) := by
  refine ⟨fun i m σ H => m = xs.length - i ∧ i ≤ xs.length ∧ Pv i σ H, ⟨xs.length, by simp, Nat.zero_le _, h0⟩, ?_⟩
  rintro i m σ H ⟨rfl, hi, p⟩
  have q := hl i σ H hi p
  by_cases hlt : i < xs.length
  · refine .inr ⟨⟨xs, xs[i], q, by simp [hlt]⟩, Pv (i + 1), fun σ' H' p' => ⟨xs.length - (i + 1), by omega, rfl, hlt, p'⟩, fun x H' y => ?_⟩
    obtain ⟨e, y⟩ := y
    subst e
    exact hs i x σ _ (y xs q) p
  · have e : i = xs.length := by omega
    subst e
    exact .inl ⟨⟨xs, q, Nat.le_refl _⟩, hd σ H p⟩
theorem for_tup {K : PySem.W.Frag} {a : Addr} {xs : List V} {g : TG} {tb : TS} {D : Ends} {σ : St} {H : Hp} (Pv : Nat → St → Hp → Prop) (h0 : Pv 0 σ H) (hl : ∀ i σ H, i ≤ xs.length → Pv i σ H → SqT K H a xs)
    (hs : ∀ i x σ H, xs[i]? = some x → Pv i σ H → g x σ H fun σ2 H2 => tb { D with nx := Pv (i + 1), ct := Pv (i + 1), bk := D.nx } σ2 H2) (hd : ∀ σ H, Pv xs.length σ H → D.nx σ H) :
    ∃ W : Nat → Nat → St → Hp → Prop, (∃ m, W 0 m σ H) ∧ ∀ i m σ H, W i m σ H →
      ((Itt K a).stop i H ∧ D.nx σ H) ∨ ((Itt K a).go i H ∧ ∃ N : St → Hp → Prop, (∀ σ' H', N σ' H' → ∃ m', m' < m ∧ W (i + 1) m' σ' H') ∧ ∀ x H', (Itt K a).yld i H x H' → g x σ H' fun σ2 H2 => tb { D with nx := N, ct := N, bk := D.nx } σ2 H2) := by
  refine ⟨fun i m σ H => m = xs.length - i ∧ i ≤ xs.length ∧ Pv i σ H, ⟨xs.length, by simp, Nat.zero_le _, h0⟩, ?_⟩
  rintro i m σ H ⟨rfl, hi, p⟩
  have q := hl i σ H hi p
  by_cases hlt : i < xs.length
  · refine .inr ⟨⟨xs, xs[i], q, by simp [hlt]⟩, Pv (i + 1), fun σ' H' p' => ⟨xs.length - (i + 1), by omega, rfl, hlt, p'⟩, fun x H' y => ?_⟩
    obtain ⟨e, y⟩ := y
    subst e
    exact hs i x σ _ (y xs q) p
  · have e : i = xs.length := by omega
    subst e
    exact .inl ⟨⟨xs, q, Nat.le_refl _⟩, hd σ H p⟩
theorem for_range {lo : Int} {n : Nat} {g : TG} {tb : TS} {D : Ends} {σ : St} {H : Hp} (Pv : Nat → St → Hp → Prop) (h0 : Pv 0 σ H)
    (hs : ∀ i σ H, i < n → Pv i σ H → g (.int (lo + i)) σ H fun σ2 H2 => tb { D with nx := Pv (i + 1), ct := Pv (i + 1), bk := D.nx } σ2 H2) (hd : ∀ σ H, Pv n σ H → D.nx σ H) :
    ∃ W : Nat → Nat → St → Hp → Prop, (∃ m, W 0 m σ H) ∧ ∀ i m σ H, W i m σ H →
      ((Itr lo n).stop i H ∧ D.nx σ H) ∨ ((Itr lo n).go i H ∧ ∃ N : St → Hp → Prop, (∀ σ' H', N σ' H' → ∃ m', m' < m ∧ W (i + 1) m' σ' H') ∧ ∀ x H', (Itr lo n).yld i H x H' → g x σ H' fun σ2 H2 => tb { D with nx := N, ct := N, bk := D.nx } σ2 H2) := by
  refine ⟨fun i m σ H => m = n - i ∧ i ≤ n ∧ Pv i σ H, ⟨n, by simp, Nat.zero_le _, h0⟩, ?_⟩
  rintro i m σ H ⟨rfl, hi, p⟩
  by_cases hlt : i < n
  · refine .inr ⟨hlt, Pv (i + 1), fun σ' H' p' => ⟨n - (i + 1), by omega, rfl, hlt, p'⟩, fun x H' y => ?_⟩
    obtain ⟨e, y⟩ := y
    subst e y
    exact hs i σ _ hlt p
  · have e : i = n := by omega
    subst e
    exact .inl ⟨Nat.le_refl _, hd σ H p⟩
/-- while, by a word and a measure of the state -/
theorem while_by {c : TT} {tb : TS} {D : Ends} {σ : St} {H : Hp} (Pv : St → Hp → Prop) (μ : St → Hp → Nat) (h0 : Pv σ H)
    (hs : ∀ σ H, Pv σ H → c σ H fun b H1 => if b = true then tb { D with nx := fun σ' H' => Pv σ' H' ∧ μ σ' H' < μ σ H, ct := fun σ' H' => Pv σ' H' ∧ μ σ' H' < μ σ H, bk := D.nx } σ H1 else D.nx σ H1)
    (mono : ∀ σ H Q Q', (∀ b H1, Q b H1 → Q' b H1) → c σ H Q → c σ H Q') : tWhile c tb D σ H := by
  refine ⟨fun m σ H => m = μ σ H ∧ Pv σ H, ⟨_, rfl, h0⟩, ?_⟩
  rintro m σ H ⟨rfl, p⟩
  refine mono σ H _ _ (fun b H1 q => ?_) (hs σ H p)
  cases b with
  | true => exact ⟨_, fun σ' H' ⟨p', l⟩ => ⟨_, l, rfl, p'⟩, q⟩
  | false => exact q
end L2

namespace L2
open PySem PySem.Spec PyProof.Rows

abbrev R2 := V → V → Hp → VK → Prop
/-- a two-place operation on values: f is binaryOp op, inplaceOp op or compareOp op -/
def OpR (X : Cx) (f : Value → Value → Sem Value) (r : R2) : Prop :=
  ∀ (pins : List (Addr × Obj)) (s : Shared) (σ : St) (H : Hp) (x y : V) (v u : Value) (Q : VK), Inv X pins σ H s → RelV x v → RelV y u → r x y H Q →
    wpAny (model X.prog X.w) X.A (f v u) (EP X pins σ Q) X.xe s
/-- a one-place operation -/
def UnR (X : Cx) (f : Value → Sem Value) (r : V → Hp → VK → Prop) : Prop :=
  ∀ (pins : List (Addr × Obj)) (s : Shared) (σ : St) (H : Hp) (x : V) (v : Value) (Q : VK), Inv X pins σ H s → RelV x v → r x H Q →
    wpAny (model X.prog X.w) X.A (f v) (EP X pins σ Q) X.xe s
/-- a call of a value that is known (a builtin, a type) with values -/
def CallR (X : Cx) (f : Value) (r : List V → Hp → VK → Prop) : Prop :=
  ∀ (pins : List (Addr × Obj)) (s : Shared) (σ : St) (H : Hp) (xs : List V) (us : List Value) (Q : VK), Inv X pins σ H s → Vals xs us → r xs H Q →
    wpAny (model X.prog X.w) X.A (call f us) (EP X pins σ Q) X.xe s
/-- a value's truth -/
def TruR (X : Cx) (r : V → Hp → (Bool → Hp → Prop) → Prop) : Prop :=
  ∀ (pins : List (Addr × Obj)) (s : Shared) (σ : St) (H : Hp) (x : V) (v : Value) (Q : Bool → Hp → Prop), Inv X pins σ H s → RelV x v → r x H Q →
    wpAny (model X.prog X.w) X.A (truthy v) (TP X pins σ Q) X.xe s

def tOp (r : R2) (ta tb : TE) : TE := fun σ H Q => ta σ H fun x H1 => tb σ H1 fun y H2 => r x y H2 Q
def tUn (r : V → Hp → VK → Prop) (ta : TE) : TE := fun σ H Q => ta σ H fun x H1 => r x H1 Q
/-- ints in, under C, and a value out -/
def rI (C : Int → Int → Prop) (g : Int → Int → V) : R2 := fun x y H Q => ∃ i j, x = .int i ∧ y = .int j ∧ C i j ∧ Q (g i j) H
def rI0 (g : Int → Int → V) : R2 := fun x y H Q => ∃ i j, x = .int i ∧ y = .int j ∧ Q (g i j) H
def rU (g : Int → V) : V → Hp → VK → Prop := fun x H Q => ∃ i, x = .int i ∧ Q (g i) H

section
variable {X : Cx} {a b c : Expr} {ta tb tc : TE} {pos : Pos}

theorem binT (ha : PE X a ta) (hb : PE X b tb) {pins : List (Addr × Obj)} {s : Shared} {σ : St} {H : Hp} {R : V → V → Hp → Prop} (I : Inv X pins σ H s)
    (h : ta σ H fun x H1 => tb σ H1 fun y H2 => R x y H2) {Q : Value → Shared → Prop} {f : Value → Value → Sem Value}
    (hf : ∀ v u s2 x y H2, Inv X pins σ H2 s2 → RelV x v → RelV y u → R x y H2 → wpAny (model X.prog X.w) X.A (f v u) Q X.xe s2) :
    wpAny (model X.prog X.w) X.A (eval a X.env) (fun v s₁ => wpAny (model X.prog X.w) X.A (eval b X.env) (fun u s₂ => wpAny (model X.prog X.w) X.A (f v u) Q X.xe s₂) X.xe s₁) X.xe s := by
  refine thn (ha pins s σ H _ I h) fun v s1 ⟨x, H1, I1, r1, q1⟩ => ?_
  refine thn (hb pins s1 σ H1 _ I1 q1) fun u s2 ⟨y, H2, I2, r2, q2⟩ => ?_
  exact hf v u s2 x y H2 I2 r1 r2 q2

theorem pe_op {op : Operator} {r : R2} (ho : OpR X (binaryOp op) r) (ha : PE X a ta) (hb : PE X b tb) : PE X (.BinOp a op b pos) (tOp r ta tb) := by
  intro pins s σ H Q I h
  exact wpAny_BinOp (binT ha hb I h fun v u s2 x y H2 I2 rx ry q => ho pins s2 σ H2 x y v u Q I2 rx ry q)
theorem pe_un {op : UnaryOp} {r : V → Hp → VK → Prop} (ho : UnR X (unaryOp op) r) (ha : PE X a ta) : PE X (.UnaryOp op a pos) (tUn r ta) := by
  intro pins s σ H Q I h
  exact UnaryOp_ (thn (ha pins s σ H _ I h) fun v s1 ⟨x, H1, I1, r1, q1⟩ => ho pins s1 σ H1 x v Q I1 r1 q1)
/-- a op= e at a name: the name's slot i -/
theorem augR {op : Operator} {r : R2} (ho : OpR X (inplaceOp op) r) {pins : List (Addr × Obj)} {s : Shared} {σ : St} {H : Hp} {x y : V} {v u : Value} {Q : VK} (I : Inv X pins σ H s)
    (rx : RelV x v) (ry : RelV y u) (q : r x y H Q) : wpAny (model X.prog X.w) X.A (inplaceOp op v u) (EP X pins σ Q) X.xe s := ho pins s σ H x y v u Q I rx ry q

/-! ### ints -/
theorem opI {f : Value → Value → Sem Value} {C : Int → Int → Prop} {g : Int → Int → Int}
    (rule : ∀ (i j : Int) (t u : Tok) (s : Shared) (Q : Value → Shared → Prop) (E : Value → Shared → Prop), C i j → Q (.int (g i j) s.toks) { s with toks := s.toks + 1 } → wpAny (model X.prog X.w) X.A (f (.int i t) (.int j u)) Q E s) :
    OpR X f (rI C fun i j => .int (g i j)) := by
  intro pins s σ H x y v u Q I rx ry h
  obtain ⟨i, j, rfl, rfl, hc, q⟩ := h
  obtain ⟨t, rfl⟩ := rx
  obtain ⟨t', rfl⟩ := ry
  exact rule i j t t' s _ _ hc ⟨.int (g i j), H, I.tok _, ⟨_, rfl⟩, q⟩
theorem opI0 {f : Value → Value → Sem Value} {g : Int → Int → Int}
    (rule : ∀ (i j : Int) (t u : Tok) (s : Shared) (Q : Value → Shared → Prop) (E : Value → Shared → Prop), Q (.int (g i j) s.toks) { s with toks := s.toks + 1 } → wpAny (model X.prog X.w) X.A (f (.int i t) (.int j u)) Q E s) :
    OpR X f (rI0 fun i j => .int (g i j)) := by
  intro pins s σ H x y v u Q I rx ry h
  obtain ⟨i, j, rfl, rfl, q⟩ := h
  obtain ⟨t, rfl⟩ := rx
  obtain ⟨t', rfl⟩ := ry
  exact rule i j t t' s _ _ ⟨.int (g i j), H, I.tok _, ⟨_, rfl⟩, q⟩
theorem opB0 {f : Value → Value → Sem Value} {g : Int → Int → Bool}
    (rule : ∀ (i j : Int) (t u : Tok) (s : Shared) (Q : Value → Shared → Prop) (E : Value → Shared → Prop), Q (.bool (g i j)) s → wpAny (model X.prog X.w) X.A (f (.int i t) (.int j u)) Q E s) :
    OpR X f (rI0 fun i j => .bl (g i j)) := by
  intro pins s σ H x y v u Q I rx ry h
  obtain ⟨i, j, rfl, rfl, q⟩ := h
  obtain ⟨t, rfl⟩ := rx
  obtain ⟨t', rfl⟩ := ry
  exact rule i j t t' s _ _ ⟨.bl (g i j), H, I, rfl, q⟩

def CDiv (i j : Int) : Prop := 0 < j ∧ j < 1073741824
def CDivN (i j : Int) : Prop := j ≠ 0 ∧ j.natAbs < 1073741824
def CPow (i j : Int) : Prop := 0 ≤ j ∧ j ≤ 1000000 ∧ i.natAbs < 2 ^ 64
def CMul (i j : Int) : Prop := (-(2 ^ 64) < i ∧ i < 2 ^ 64) ∨ (-(2 ^ 64) < j ∧ j < 2 ^ 64)
theorem CMul.ok {i j : Int} (h : CMul i j) : IntMulOk i j := by
  rcases h with ⟨h1, h2⟩ | ⟨h1, h2⟩
  · exact .of_left (intBits_le_64 h1 h2)
  · exact .of_right (intBits_le_64 h1 h2)
theorem two_pow_nn (k : Nat) : (0 : Int) ≤ 2 ^ k := by
  rw [two_pow_cast]
  exact Int.natCast_nonneg _

theorem op_add : OpR X (binaryOp .Add) (rI0 fun i j => .int (i + j)) := opI0 fun _ _ _ _ _ _ _ q => add_int q
theorem op_sub : OpR X (binaryOp .Sub) (rI0 fun i j => .int (i - j)) := opI0 fun _ _ _ _ _ _ _ q => sub_int q
theorem op_mul : OpR X (binaryOp .Mult) (rI CMul fun i j => .int (i * j)) := opI fun _ _ _ _ _ _ _ hc q => mul_int q hc.ok
/-- // by a positive divisor -/
theorem op_fdiv : OpR X (binaryOp .FloorDiv) (rI CDiv fun i j => .int (i / j)) := opI fun i j _ _ _ _ _ hc q => by
  have h1 : (0 : Int) < j := hc.1
  have h2 : j < 1073741824 := hc.2
  exact floordiv_int (by omega) (by rw [Int.fdiv_eq_ediv_of_nonneg i (by omega)]; exact q) (.inl (PyProof.noPylong_small (by omega)))
theorem op_fdivN : OpR X (binaryOp .FloorDiv) (rI CDivN fun i j => .int (i.fdiv j)) := opI fun _ _ _ _ _ _ _ hc q => floordiv_int hc.1 q (.inl (PyProof.noPylong_small hc.2))
/-- % by a positive divisor of any size -/
theorem op_mod : OpR X (binaryOp .Mod) (rI (fun _ j => 0 < j) fun i j => .int (i % j)) := opI fun i j _ _ _ _ _ hc q => by
  have h1 : (0 : Int) < j := hc
  exact mod_int' (by omega) (by rw [Int.fmod_eq_emod_of_nonneg i (by omega)]; exact q)
theorem op_modN : OpR X (binaryOp .Mod) (rI (fun _ j => j ≠ 0) fun i j => .int (i.fmod j)) := opI fun _ _ _ _ _ _ _ hc q => mod_int' hc q
theorem op_pow : OpR X (binaryOp .Pow) (rI CPow fun i j => .int (i ^ j.toNat)) := opI fun _ _ _ _ _ _ _ hc q => pow_int_small hc.1 hc.2.1 hc.2.2 q
theorem op_shl : OpR X (binaryOp .LShift) (rI CPow fun i j => .int (i * 2 ^ j.toNat)) := opI fun _ _ _ _ _ _ _ hc q => lshift_int_small hc.1 hc.2.1 hc.2.2 q
theorem op_shr : OpR X (binaryOp .RShift) (rI (fun _ j => 0 ≤ j) fun i j => .int (i / 2 ^ j.toNat)) := opI fun i j _ _ _ _ _ hc q =>
  rshift_int hc (by rw [Int.fdiv_eq_ediv_of_nonneg i (two_pow_nn _)]; exact q)
theorem op_and : OpR X (binaryOp .BitAnd) (rI0 fun i j => .int (Builtin.bitAnd i j)) := opI0 fun _ _ _ _ _ _ _ q => and_int q
theorem op_or : OpR X (binaryOp .BitOr) (rI0 fun i j => .int (Builtin.bitOr i j)) := opI0 fun _ _ _ _ _ _ _ q => or_int q
theorem op_xor : OpR X (binaryOp .BitXor) (rI0 fun i j => .int (Builtin.bitXor i j)) := opI0 fun _ _ _ _ _ _ _ q => xor_int q

theorem iop_add : OpR X (inplaceOp .Add) (rI0 fun i j => .int (i + j)) := opI0 fun _ _ _ _ _ _ _ q => iadd_int q
theorem iop_sub : OpR X (inplaceOp .Sub) (rI0 fun i j => .int (i - j)) := opI0 fun _ _ _ _ _ _ _ q => isub_int q
theorem iop_mul : OpR X (inplaceOp .Mult) (rI CMul fun i j => .int (i * j)) := opI fun _ _ _ _ _ _ _ hc q => imul_int q hc.ok
theorem iop_fdiv : OpR X (inplaceOp .FloorDiv) (rI CDiv fun i j => .int (i / j)) := opI fun i j _ _ _ _ _ hc q => by
  have h1 : (0 : Int) < j := hc.1
  have h2 : j < 1073741824 := hc.2
  exact ifloordiv_int (by omega) (by rw [Int.fdiv_eq_ediv_of_nonneg i (by omega)]; exact q) (.inl (PyProof.noPylong_small (by omega)))
theorem iop_mod : OpR X (inplaceOp .Mod) (rI (fun _ j => 0 < j) fun i j => .int (i % j)) := opI fun i j _ _ _ _ _ hc q => by
  have h1 : (0 : Int) < j := hc
  exact imod_int (by omega) (by rw [Int.fmod_eq_emod_of_nonneg i (by omega)]; exact q)
theorem iop_shl : OpR X (inplaceOp .LShift) (rI CPow fun i j => .int (i * 2 ^ j.toNat)) := opI fun _ _ _ _ _ _ _ hc q => ilshift_int_small hc.1 hc.2.1 hc.2.2 q
theorem iop_shr : OpR X (inplaceOp .RShift) (rI (fun _ j => 0 ≤ j) fun i j => .int (i / 2 ^ j.toNat)) := opI fun i j _ _ _ _ _ hc q =>
  irshift_int hc (by rw [Int.fdiv_eq_ediv_of_nonneg i (two_pow_nn _)]; exact q)
theorem iop_and : OpR X (inplaceOp .BitAnd) (rI0 fun i j => .int (Builtin.bitAnd i j)) := opI0 fun _ _ _ _ _ _ _ q => iand_int q
theorem iop_or : OpR X (inplaceOp .BitOr) (rI0 fun i j => .int (Builtin.bitOr i j)) := opI0 fun _ _ _ _ _ _ _ q => ior_int q
theorem iop_xor : OpR X (inplaceOp .BitXor) (rI0 fun i j => .int (Builtin.bitXor i j)) := opI0 fun _ _ _ _ _ _ _ q => ixor_int q

theorem unI {f : Value → Sem Value} {g : Int → Int}
    (rule : ∀ (i : Int) (t : Tok) (s : Shared) (Q : Value → Shared → Prop) (E : Value → Shared → Prop), Q (.int (g i) s.toks) { s with toks := s.toks + 1 } → wpAny (model X.prog X.w) X.A (f (.int i t)) Q E s) :
    UnR X f (rU fun i => .int (g i)) := by
  intro pins s σ H x v Q I rx h
  obtain ⟨i, rfl, q⟩ := h
  obtain ⟨t, rfl⟩ := rx
  exact rule i t s _ _ ⟨.int (g i), H, I.tok _, ⟨_, rfl⟩, q⟩
theorem un_neg : UnR X (unaryOp .USub) (rU fun i => .int (-i)) := unI fun _ _ _ _ _ q => neg_int q
theorem un_inv : UnR X (unaryOp .Invert) (rU fun i => .int (Builtin.bitNot i)) := unI fun _ _ _ _ _ q => invert_int q

/-! ### bools among ints: n += (a < b) -/
theorem op_add_ib : OpR X (binaryOp .Add) (fun x y H Q => ∃ i k, x = .int i ∧ y = .bl k ∧ Q (.int (i + b2i k)) H) := by
  intro pins s σ H x y v u Q I rx ry h
  obtain ⟨i, k, rfl, rfl, q⟩ := h
  obtain ⟨t, rfl⟩ := rx
  cases ry
  exact add_int_bool ⟨.int (i + b2i k), H, I.tok _, ⟨_, rfl⟩, q⟩
end

/-! ### comparisons -/
/-- the scalars that == tells apart as data does -/
def scal : V → V → Bool
  | .non, .non => true | .non, .int _ => true | .int _, .non => true | .non, .bl _ => true | .bl _, .non => true | .non, .str _ => true | .str _, .non => true
  | .int _, .int _ => true | .bl _, .bl _ => true | .str _, .str _ => true | .byt _, .byt _ => true
  | .int _, .str _ => true | .str _, .int _ => true | .bl _, .str _ => true | .str _, .bl _ => true
  | _, _ => false
def rEq : R2 := fun x y H Q => scal x y = true ∧ Q (.bl (decide (x = y))) H
def rNe : R2 := fun x y H Q => scal x y = true ∧ Q (.bl (!decide (x = y))) H

theorem dec_int {i j : Int} : decide (V.int i = V.int j) = (i == j) := by
  rw [Bool.eq_iff_iff]
  simp
theorem dec_bl {i j : Bool} : decide (V.bl i = V.bl j) = (i == j) := by
  rw [Bool.eq_iff_iff]
  simp
theorem dec_str {i j : Str} : decide (V.str i = V.str j) = (i == j) := by
  rw [Bool.eq_iff_iff]
  simp
theorem dec_byt {i j : Array UInt8} : decide (V.byt i = V.byt j) = (i.toList == j.toList) := by
  rw [Bool.eq_iff_iff]
  cases i
  cases j
  simp

section
variable {X : Cx} {a b c : Expr} {ta tb tc : TE} {pos : Pos}
theorem fin_bl {pins : List (Addr × Obj)} {σ : St} {H : Hp} {s : Shared} {Q : VK} {k k' : Bool} (I : Inv X pins σ H s) (q : Q (.bl k) H) (e : k = k') : EP X pins σ Q (.bool k') s := by
  subst e
  exact ⟨.bl k, H, I, rfl, q⟩
theorem op_eq : OpR X (compareOp .Eq) rEq := by
  intro pins s σ H x y v u Q I rx ry h
  obtain ⟨hs, q⟩ := h
  cases x with
  | non =>
    cases rx
    cases y with
    | non => cases ry; exact PySem.EqNone.eq_none_none (fin_bl I q (by simp))
    | bl j => cases ry; exact PySem.EqNone.eq_none_bool (fin_bl I q (by simp))
    | int j => obtain ⟨t', rfl⟩ := ry; exact PySem.EqNone.eq_none_int (fin_bl I q (by simp))
    | str j => obtain ⟨t', rfl⟩ := ry; exact PySem.EqNone.eq_none_str (fin_bl I q (by simp))
    | _ => exact absurd (show false = true from hs) Bool.false_ne_true
  | bl i =>
    cases rx
    cases y with
    | non => cases ry; exact PySem.EqNone.eq_bool_none (fin_bl I q (by simp))
    | bl j => cases ry; exact eq_bool (fin_bl I q dec_bl)
    | str j => obtain ⟨t', rfl⟩ := ry; exact PySem.EqMixed.eq_bool_str (fin_bl I q (by simp))
    | _ => exact absurd (show false = true from hs) Bool.false_ne_true
  | int i =>
    obtain ⟨t, rfl⟩ := rx
    cases y with
    | non => cases ry; exact PySem.EqNone.eq_int_none (fin_bl I q (by simp))
    | int j => obtain ⟨t', rfl⟩ := ry; exact eq_int (fin_bl I q dec_int)
    | str j => obtain ⟨t', rfl⟩ := ry; exact PySem.EqMixed.eq_int_str (fin_bl I q (by simp))
    | _ => exact absurd (show false = true from hs) Bool.false_ne_true
  | str i =>
    obtain ⟨t, rfl⟩ := rx
    cases y with
    | non => cases ry; exact PySem.EqNone.eq_str_none (fin_bl I q (by simp))
    | bl j => cases ry; exact PySem.EqMixed.eq_str_bool (fin_bl I q (by simp))
    | int j => obtain ⟨t', rfl⟩ := ry; exact PySem.EqMixed.eq_str_int (fin_bl I q (by simp))
    | str j => obtain ⟨t', rfl⟩ := ry; exact eq_str (fin_bl I q dec_str)
    | _ => exact absurd (show false = true from hs) Bool.false_ne_true
  | byt i =>
    obtain ⟨t, rfl⟩ := rx
    cases y with
    | byt j => obtain ⟨t', rfl⟩ := ry; exact PySem.W.eq_bytes (fin_bl I q dec_byt)
    | _ => exact absurd (show false = true from hs) Bool.false_ne_true
  | _ => cases y <;> exact absurd (show false = true from hs) Bool.false_ne_true
theorem op_ne : OpR X (compareOp .NotEq) rNe := by
  intro pins s σ H x y v u Q I rx ry h
  obtain ⟨hs, q⟩ := h
  cases x with
  | non =>
    cases rx
    cases y with
    | non => cases ry; exact PySem.EqNone.ne_none_none (fin_bl I q (by simp))
    | bl j => cases ry; exact PySem.EqNone.ne_none_bool (fin_bl I q (by simp))
    | int j => obtain ⟨t', rfl⟩ := ry; exact PySem.EqNone.ne_none_int (fin_bl I q (by simp))
    | str j => obtain ⟨t', rfl⟩ := ry; exact PySem.EqNone.ne_none_str (fin_bl I q (by simp))
    | _ => exact absurd (show false = true from hs) Bool.false_ne_true
  | bl i =>
    cases rx
    cases y with
    | non => cases ry; exact PySem.EqNone.ne_bool_none (fin_bl I q (by simp))
    | bl j => cases ry; exact ne_bool (fin_bl I q (congrArg not dec_bl))
    | str j => obtain ⟨t', rfl⟩ := ry; exact PySem.EqMixed.ne_bool_str (fin_bl I q (by simp))
    | _ => exact absurd (show false = true from hs) Bool.false_ne_true
  | int i =>
    obtain ⟨t, rfl⟩ := rx
    cases y with
    | non => cases ry; exact PySem.EqNone.ne_int_none (fin_bl I q (by simp))
    | int j => obtain ⟨t', rfl⟩ := ry; exact ne_int (fin_bl I q (congrArg not dec_int))
    | str j => obtain ⟨t', rfl⟩ := ry; exact PySem.EqMixed.ne_int_str (fin_bl I q (by simp))
    | _ => exact absurd (show false = true from hs) Bool.false_ne_true
  | str i =>
    obtain ⟨t, rfl⟩ := rx
    cases y with
    | non => cases ry; exact PySem.EqNone.ne_str_none (fin_bl I q (by simp))
    | bl j => cases ry; exact PySem.EqMixed.ne_str_bool (fin_bl I q (by simp))
    | int j => obtain ⟨t', rfl⟩ := ry; exact PySem.EqMixed.ne_str_int (fin_bl I q (by simp))
    | str j => obtain ⟨t', rfl⟩ := ry; exact ne_str (fin_bl I q (congrArg not dec_str))
    | _ => exact absurd (show false = true from hs) Bool.false_ne_true
  | byt i =>
    obtain ⟨t, rfl⟩ := rx
    cases y with
    | byt j => obtain ⟨t', rfl⟩ := ry; exact PySem.W.ne_bytes (fin_bl I q (congrArg not dec_byt))
    | _ => exact absurd (show false = true from hs) Bool.false_ne_true
  | _ => cases y <;> exact absurd (show false = true from hs) Bool.false_ne_true

theorem op_lt : OpR X (compareOp .Lt) (rI0 fun i j => .bl (decide (i < j))) := opB0 fun _ _ _ _ _ _ _ q => lt_int q
theorem op_le : OpR X (compareOp .LtE) (rI0 fun i j => .bl (decide (i ≤ j))) := opB0 fun _ _ _ _ _ _ _ q => le_int q
theorem op_gt : OpR X (compareOp .Gt) (rI0 fun i j => .bl (decide (j < i))) := opB0 fun _ _ _ _ _ _ _ q => gt_int q
theorem op_ge : OpR X (compareOp .GtE) (rI0 fun i j => .bl (decide (j ≤ i))) := opB0 fun _ _ _ _ _ _ _ q => ge_int q
theorem op_lt_str : OpR X (compareOp .Lt) (fun x y H Q => ∃ i j, x = .str i ∧ y = .str j ∧ Q (.bl (decide (i.cps.toList < j.cps.toList))) H) := by
  intro pins s σ H x y v u Q I rx ry h
  obtain ⟨i, j, rfl, rfl, q⟩ := h
  obtain ⟨t, rfl⟩ := rx
  obtain ⟨t', rfl⟩ := ry
  exact lt_str (fin_bl I q rfl)
/-- the one string within the other -/
theorem op_in_str : OpR X (compareOp .In) (fun x y H Q => ∃ i j, x = .str i ∧ y = .str j ∧ Q (.bl (!(Builtin.Str.occurrences j i 0 j.length 1).isEmpty)) H) := by
  intro pins s σ H x y v u Q I rx ry h
  obtain ⟨i, j, rfl, rfl, q⟩ := h
  obtain ⟨t, rfl⟩ := rx
  obtain ⟨t', rfl⟩ := ry
  exact in_str (fin_bl I q rfl)

/-- is None, is not None: the right side a value none -/
theorem op_isN : OpR X (compareOp .Is) (fun x y H Q => y = .non ∧ Q (.bl (decide (x = .non))) H) := by
  intro pins s σ H x y v u Q I rx ry h
  obtain ⟨rfl, q⟩ := h
  cases ry
  refine is_none_gen (fin_bl I q ?_)
  cases x <;> first
    | (cases rx; rfl)
    | (obtain ⟨t, rfl⟩ := rx; rfl)
theorem op_notN : OpR X (compareOp .IsNot) (fun x y H Q => y = .non ∧ Q (.bl (!decide (x = .non))) H) := by
  intro pins s σ H x y v u Q I rx ry h
  obtain ⟨rfl, q⟩ := h
  cases ry
  refine isnot_none_gen (fin_bl I q ?_)
  cases x <;> first
    | (cases rx; rfl)
    | (obtain ⟨t, rfl⟩ := rx; rfl)

theorem op_notin_str : OpR X (compareOp .NotIn) (fun x y H Q => ∃ i j, x = .str i ∧ y = .str j ∧ Q (.bl (!(!(Builtin.Str.occurrences j i 0 j.length 1).isEmpty))) H) := by
  intro pins s σ H x y v u Q I rx ry h
  obtain ⟨i, j, rfl, rfl, q⟩ := h
  obtain ⟨t, rfl⟩ := rx
  obtain ⟨t', rfl⟩ := ry
  exact notIn_str (fin_bl I q rfl)
/-- is, is not of two objects that are tracked lists or instances -/
def isObj : HO → Bool
  | .lst _ => true
  | .ins _ _ _ => true
  | _ => false
theorem obj_there {pins : List (Addr × Obj)} {s : Shared} {σ : St} {H : Hp} {a : Addr} {o : HO} (I : Inv X pins σ H s) (h : H a = some o) (p : isObj o = true) : ∃ ob, s.heap.get? a = some ob ∧ ob.cls ≠ .type "tuple" := by
  cases o with
  | lst xs =>
    obtain ⟨_, its, n, _, e⟩ : xs.length ≤ sizeLine ∧ ∃ (its : List Value) (n : Nat), Vals xs its ∧ s.heap.get? a = some { cls := .type "list", data := .seq its.toArray n } := I.hok a _ h
    exact ⟨_, e, (by show Value.type "list" ≠ .type "tuple"; decide +kernel)⟩
  | ins C dx fs =>
    have x := I.hok a _ h
    obtain ⟨_, _, _, e, _⟩ := x
    exact ⟨_, e, (by show Value.ref C ≠ .type "tuple"; exact fun z => by cases z)⟩
  | _ => exact absurd (show false = true from p) Bool.false_ne_true
theorem op_is_ref : OpR X (compareOp .Is) (fun x y H Q => ∃ a b oa ob, x = .ref a ∧ y = .ref b ∧ H a = some oa ∧ isObj oa = true ∧ H b = some ob ∧ isObj ob = true ∧ Q (.bl (decide (a = b))) H) := by
  intro pins s σ H x y v u Q I rx ry h
  obtain ⟨a, b, oa, ob, rfl, rfl, ha, pa, hb, pb, q⟩ := h
  cases rx
  cases ry
  obtain ⟨o1, e1, n1⟩ := obj_there I ha pa
  obtain ⟨o2, e2, _⟩ := obj_there I hb pb
  by_cases z : a = b
  · subst z
    exact wpAny_is_ref_self (fin_bl I q (by simp))
  · exact wpAny_is_ref_other z e1 e2 n1 (fin_bl I q (by simp [z]))
theorem op_isnot_ref : OpR X (compareOp .IsNot) (fun x y H Q => ∃ a b oa ob, x = .ref a ∧ y = .ref b ∧ H a = some oa ∧ isObj oa = true ∧ H b = some ob ∧ isObj ob = true ∧ Q (.bl (!decide (a = b))) H) := by
  intro pins s σ H x y v u Q I rx ry h
  obtain ⟨a, b, oa, ob, rfl, rfl, ha, pa, hb, pb, q⟩ := h
  cases rx
  cases ry
  obtain ⟨o1, e1, n1⟩ := obj_there I ha pa
  obtain ⟨o2, e2, _⟩ := obj_there I hb pb
  by_cases z : a = b
  · subst z
    exact wpAny_isNot_ref_self (fin_bl I q (by simp))
  · exact wpAny_isNot_ref_other z e1 e2 n1 (fin_bl I q (by simp [z]))

/-- two rules for one operation: by cases -/
theorem OpR.or {f : Value → Value → Sem Value} {r r' : R2} (h : OpR X f r) (h' : OpR X f r') : OpR X f (fun x y H Q => r x y H Q ∨ r' x y H Q) := by
  intro pins s σ H x y v u Q I rx ry q
  rcases q with q | q
  · exact h pins s σ H x y v u Q I rx ry q
  · exact h' pins s σ H x y v u Q I rx ry q

theorem nomark (b : Expr) {op : CmpOp} (h : op ≠ .In := by decide) (h2 : op ≠ .NotIn := by decide) : behindInMarks op b = false := by
  have e1 : (op == CmpOp.In) = false := by cases op <;> first | rfl | exact absurd rfl h
  have e2 : (op == CmpOp.NotIn) = false := by cases op <;> first | rfl | exact absurd rfl h2
  cases b <;> simp [behindInMarks, e1, e2]
/-- a comparison as a value; hm: nomark b, or (for in, not in) by with_unfolding_all rfl -/
theorem pe_cmpR {op : CmpOp} {r : R2} (ho : OpR X (compareOp op) r) (ha : PE X a ta) (hb : PE X b tb) (hm : behindInMarks op b = false) : PE X (.Compare a [op] [b] pos) (tOp r ta tb) := by
  intro pins s σ H Q I h
  exact wpAny_Compare1 (binT ha hb I h fun v u s2 x y H2 I2 rx ry q => ho pins s2 σ H2 x y v u Q I2 rx ry q) hm
/-- a reading of a value as a test -/
def tTest (t : TE) : TT := fun σ H Q => t σ H fun x H' => ∃ k, x = .bl k ∧ Q k H'
theorem pt_cmpR {op : CmpOp} {r : R2} (ho : OpR X (compareOp op) r) (ha : PE X a ta) (hb : PE X b tb) (hm : behindInMarks op b = false) : PT X (.Compare a [op] [b] pos) (tTest (tOp r ta tb)) := by
  intro pins s σ H Q I h
  refine wpAny_isTrue_Compare1 (thn (ha pins s σ H _ I h) fun v s1 ⟨x, H1, I1, r1, q1⟩ => thn (hb pins s1 σ H1 _ I1 q1) fun u s2 ⟨y, H2, I2, r2, q2⟩ =>
    thn (ho pins s2 σ H2 x y v u _ I2 r1 r2 q2) fun c s3 ⟨z, H3, I3, r3, k, e, q3⟩ => ?_) hm
  subst e
  cases r3
  exact wpAny_truthy_bool ⟨H3, I3, q3⟩
/-- a op1 b op2 c -/
def tChain (r r' : R2) (ta tb tc : TE) : TE := fun σ H Q => ta σ H fun x H1 => tb σ H1 fun y H2 => r x y H2 fun z H3 => ∃ k, z = .bl k ∧
  (if k = true then tc σ H3 fun w' H4 => r' y w' H4 Q else Q (.bl false) H3)
theorem pe_chain {op op' : CmpOp} {r r' : R2} (ho : OpR X (compareOp op) r) (ho' : OpR X (compareOp op') r') (ha : PE X a ta) (hb : PE X b tb) (hc : PE X c tc)
    (hm : lastMarks [op, op'] [b, c] = false := by with_unfolding_all rfl) : PE X (.Compare a [op, op'] [b, c] pos) (tChain r r' ta tb tc) := by
  intro pins s σ H Q I h
  refine Compare_chain (thn (ha pins s σ H _ I h) fun v s1 ⟨x, H1, I1, r1, q1⟩ => chain_link (thn (hb pins s1 σ H1 _ I1 q1) fun u s2 ⟨y, H2, I2, r2, q2⟩ =>
    thn (ho pins s2 σ H2 x y v u _ I2 r1 r2 q2) fun d s3 ⟨z, H3, I3, r3, k, e, q3⟩ => ?_)) hm
  subst e
  cases r3
  refine wpAny_truthy_bool ?_
  cases k with
  | false => exact ite_ff ⟨.bl false, H3, I3, rfl, q3⟩
  | true => exact ite_tt (chain_last (thn (hc pins s3 σ H3 _ I3 q3) fun w' s4 ⟨z', H4, I4, r4, q4⟩ => ho' pins s4 σ H4 y z' u w' Q I4 r2 r4 q4))
theorem pt_chain {op op' : CmpOp} {r r' : R2} (ho : OpR X (compareOp op) r) (ho' : OpR X (compareOp op') r') (ha : PE X a ta) (hb : PE X b tb) (hc : PE X c tc)
    (hm : lastMarks [op, op'] [b, c] = false := by with_unfolding_all rfl) : PT X (.Compare a [op, op'] [b, c] pos) (tTest (tChain r r' ta tb tc)) := by
  intro pins s σ H Q I h
  refine isTrue_chain (thn (ha pins s σ H _ I h) fun v s1 ⟨x, H1, I1, r1, q1⟩ => test_link (thn (hb pins s1 σ H1 _ I1 q1) fun u s2 ⟨y, H2, I2, r2, q2⟩ =>
    thn (ho pins s2 σ H2 x y v u _ I2 r1 r2 q2) fun d s3 ⟨z, H3, I3, r3, k, e, q3⟩ => ?_)) hm
  subst e
  cases r3
  refine wpAny_truthy_bool ?_
  cases k with
  | false =>
    obtain ⟨k', e', q'⟩ := q3
    cases e'
    exact ite_ff ⟨H3, I3, q'⟩
  | true =>
    refine ite_tt (test_last (thn (hc pins s3 σ H3 _ I3 q3) fun w' s4 ⟨z', H4, I4, r4, q4⟩ => thn (ho' pins s4 σ H4 y z' u w' _ I4 r2 r4 q4) fun d' s5 ⟨z2, H5, I5, r5, k2, e2, q5⟩ => ?_))
    subst e2
    cases r5
    exact wpAny_truthy_bool ⟨H5, I5, q5⟩

/-! ### truth -/
/-- a value's truth by the abstract heap -/
def TruV (K : PySem.W.Frag) (x : V) (H : Hp) (k : Bool) : Prop :=
  match x with
  | .non => k = false
  | .bl b => k = b
  | .int i => k = (i != 0)
  | .str y => y.length ≤ sizeLine ∧ k = ((y.length : Int) != 0)
  | .byt y => y.size ≤ sizeLine ∧ k = ((y.size : Int) != 0)
  | .ref p => (∃ xs, SqL K H p xs ∧ k = !xs.isEmpty) ∨ (∃ xs, SqT K H p xs ∧ k = !xs.isEmpty) ∨ ∃ kvs, H p = some (.dK kvs) ∧ k = !kvs.isEmpty
  | _ => False
theorem isEmpty_kv {κ : Type} {kvs : List (κ × V)} {vs : List (κ × Value)} (r : KV kvs vs) : (!vs.isEmpty) = !kvs.isEmpty := by
  cases r <;> rfl
theorem isEmpty_of {xs : List V} {its : List Value} (r : Vals xs its) : (!its.toArray.isEmpty) = !xs.isEmpty := by
  cases r <;> simp
theorem line63 : (sizeLine : Nat) < 2 ^ 63 := by rw [sizeLine_eq]; decide
theorem tru_ok : TruR X (fun x H Q => ∃ k, TruV X.K x H k ∧ Q k H) := by
  intro pins s σ H x v Q I rx h
  obtain ⟨k, e, q⟩ := h
  have hl := line63
  have hs : sizeLine = 16777216 := sizeLine_eq
  cases x with
  | non =>
    cases rx
    have e' : k = false := e
    subst e'
    exact truthy_none ⟨H, I, q⟩
  | bl b =>
    cases rx
    have e' : k = b := e
    subst e'
    exact wpAny_truthy_bool ⟨H, I, q⟩
  | int i =>
    obtain ⟨t, rfl⟩ := rx
    have e' : k = (i != 0) := e
    subst e'
    exact PySem.P.truthy_int ⟨H, I, q⟩
  | str y =>
    obtain ⟨t, rfl⟩ := rx
    obtain ⟨hy, e'⟩ : y.length ≤ sizeLine ∧ k = ((y.length : Int) != 0) := e
    subst e'
    exact PySem.P.truthy_str (by omega) ⟨H, I.tok _, q⟩
  | byt y =>
    obtain ⟨t, rfl⟩ := rx
    obtain ⟨hy, e'⟩ : y.size ≤ sizeLine ∧ k = ((y.size : Int) != 0) := e
    subst e'
    exact PySem.W.truthy_bytes (by omega) ⟨H, I.tok _, q⟩
  | ref p =>
    cases rx
    have e' : (∃ xs, SqL X.K H p xs ∧ k = !xs.isEmpty) ∨ (∃ xs, SqT X.K H p xs ∧ k = !xs.isEmpty) ∨ ∃ kvs, H p = some (.dK kvs) ∧ k = !kvs.isEmpty := e
    rcases e' with ⟨xs, hx, e'⟩ | ⟨xs, hx, e'⟩ | ⟨kvs, hx, e'⟩
    · subst e'
      obtain ⟨its, r, pl, hz⟩ := I.list hx
      have hlen := r.length
      exact wpAny_truthy_list pl.isList (by simp only [List.size_toArray]; omega) ⟨H, I.tok _, by rw [isEmpty_of r]; exact q⟩
    · subst e'
      obtain ⟨its, r, pl, hz⟩ := I.tuple hx
      have hlen := r.length
      exact truthy_tuple pl (by simp only [List.size_toArray]; omega) ⟨H, I.tok _, by rw [isEmpty_of r]; exact q⟩
    · subst e'
      obtain ⟨hz, hS, vs, r, m⟩ : kvs.length ≤ sizeLine ∧ (p == sysModules) = false ∧ ∃ vs, KV kvs vs ∧ s.heap.DictOf (mixKind X.prog X.w) p vs := I.hok p _ hx
      have hlen : kvs.length = vs.length := Paired.length r
      exact wpAny_truthy_dict hS m (by omega) ⟨H, I.tok _, by rw [isEmpty_kv r]; exact q⟩
  | _ => exact (show False from e).elim
/-- any expression whose test is its value's truth (a name, a call, a subscript, a field ..: he by fun _ => rfl) -/
theorem pt_truth (ha : PE X a ta) (he : ∀ whole, isTrue a X.env whole = (do let v ← whole; standAt a.pos; holding [v] (truthy v))) :
    PT X a (fun σ H Q => ta σ H fun x H' => ∃ k, TruV X.K x H' k ∧ Q k H') := by
  intro pins s σ H Q I h
  exact isTrue_plain (thn (ha pins s σ H _ I h) fun v s1 ⟨x, H1, I1, r1, q1⟩ => tru_ok pins s1 σ H1 x v Q I1 r1 q1) (he _)

/-! ### strs and bytes -/
theorem pe_byt {x : List UInt8} {k : Nat} : PE X (.Constant (.bytes x) k pos) (fun _ H Q => Q (.byt x.toArray) H) := fun _ _ _ H _ I h => PySem.W.Constant_bytes ⟨.byt x.toArray, H, I.tok _, ⟨_, rfl⟩, h⟩
theorem op_add_str : OpR X (binaryOp .Add) (fun x y H Q => ∃ i j, x = .str i ∧ y = .str j ∧ i.length + j.length ≤ sizeLine ∧ Q (.str (i ++ j)) H) := by
  intro pins s σ H x y v u Q I rx ry h
  obtain ⟨i, j, rfl, rfl, hz, q⟩ := h
  obtain ⟨t, rfl⟩ := rx
  obtain ⟨t', rfl⟩ := ry
  exact add_str (fun t' tk => ⟨.str (i ++ j), H, I.tok _, ⟨_, rfl⟩, q⟩) hz
theorem iop_add_str : OpR X (inplaceOp .Add) (fun x y H Q => ∃ i j, x = .str i ∧ y = .str j ∧ i.length + j.length ≤ sizeLine ∧ Q (.str (i ++ j)) H) := by
  intro pins s σ H x y v u Q I rx ry h
  obtain ⟨i, j, rfl, rfl, hz, q⟩ := h
  obtain ⟨t, rfl⟩ := rx
  obtain ⟨t', rfl⟩ := ry
  exact iadd_str (fun t' tk => ⟨.str (i ++ j), H, I.tok _, ⟨_, rfl⟩, q⟩) hz
theorem op_add_byt : OpR X (binaryOp .Add) (fun x y H Q => ∃ i j, x = .byt i ∧ y = .byt j ∧ i.size + j.size ≤ 16777216 ∧ Q (.byt (i ++ j)) H) := by
  intro pins s σ H x y v u Q I rx ry h
  obtain ⟨i, j, rfl, rfl, hz, q⟩ := h
  obtain ⟨t, rfl⟩ := rx
  obtain ⟨t', rfl⟩ := ry
  exact PySem.W.KBy.add_bytes hz (fun t' tk => ⟨.byt (i ++ j), H, I.tok _, ⟨_, rfl⟩, q⟩)

def PlainIxT (b : Expr) : Prop := ∀ o i, subscripted b false o i = operate [o, i] (getItem o i)
/-- s[i], 0 ≤ i < len -/
theorem pe_item_str (ha : PE X a ta) (hb : PE X b tb) (hs : PlainIxT b) :
    PE X (.Subscript a b pos) (tOp (fun x y H Q => ∃ z i c, x = .str z ∧ y = .int i ∧ 0 ≤ i ∧ i < 2 ^ 63 ∧ i < z.length ∧ z.cps[i.toNat]? = some c ∧ Q (.str ⟨#[c]⟩) H) ta tb) := by
  intro pins s σ H Q I h
  refine Subscript_ (binT ha hb I h fun v u s2 x y H2 I2 rx ry q => ?_)
  obtain ⟨z, i, c, rfl, rfl, h0, h63, h1, hc, q⟩ := q
  obtain ⟨t, rfl⟩ := rx
  obtain ⟨t', rfl⟩ := ry
  have e : seqIndex? i z.length = some i.toNat := PySem.StrLaws.seqIndex_nonneg h0 h1
  exact tail_any (typeIs_str s2 z t) slot_str_getitem.lookup (getItem_str (c := c) (by
    have e1 : decide (i < -(2 ^ 63 : Int)) = false := decide_eq_false (by omega)
    have e2 : decide (i ≥ 2 ^ 63) = false := decide_eq_false (by omega)
    rw [e1, e2] <;> rfl) (by rw [e]; exact hc) ⟨.str ⟨#[c]⟩, H2, I2.tok _, ⟨_, rfl⟩, q⟩) (hs _ _)
/-- b[i], 0 ≤ i < len -/
theorem pe_item_byt (ha : PE X a ta) (hb : PE X b tb) (hs : PlainIxT b) :
    PE X (.Subscript a b pos) (tOp (fun x y H Q => ∃ (z : List UInt8) (i : Int), x = .byt z.toArray ∧ y = .int i ∧ z.length ≤ sizeLine ∧ 0 ≤ i ∧ i < z.length ∧ Q (.int ((z.getD i.toNat 0).toNat : Nat)) H) ta tb) := by
  intro pins s σ H Q I h
  refine Subscript_ (binT ha hb I h fun v u s2 x y H2 I2 rx ry q => ?_)
  obtain ⟨z, i, rfl, rfl, hz, h0, h1, q⟩ := q
  obtain ⟨t, rfl⟩ := rx
  obtain ⟨t', rfl⟩ := ry
  have hl : sizeLine = 16777216 := sizeLine_eq
  exact tail_any (PySem.W.typeIs_bytes s2 z.toArray t) PySem.W.FB.slot_bytes_getitem.lookup (PySem.W.getItem_bytes (by omega) h0 h1 ⟨.int ((z.getD i.toNat 0).toNat : Nat), H2, I2.tok _, ⟨_, rfl⟩, q⟩) (hs _ _)

/-! ### scalar builtins, by CallR -/
theorem vals1 {x : V} {us : List Value} (r : Vals [x] us) : ∃ u, us = [u] ∧ RelV x u := by
  cases r with
  | cons r1 r2 => cases r2; exact ⟨_, rfl, r1⟩
theorem vals2 {x y : V} {us : List Value} (r : Vals [x, y] us) : ∃ u w', us = [u, w'] ∧ RelV x u ∧ RelV y w' := by
  cases r with
  | cons r1 r2 =>
    cases r2 with
    | cons r3 r4 => cases r4; exact ⟨_, _, rfl, r1, r3⟩
theorem call_abs : CallR X (.builtin "abs") (fun xs H Q => ∃ i, xs = [.int i] ∧ Q (.int (if i < 0 then -i else i)) H) := by
  intro pins s σ H xs us Q I r h
  obtain ⟨i, rfl, q⟩ := h
  obtain ⟨u, rfl, t, rfl⟩ := vals1 r
  exact call_abs_int fun u tk => ⟨.int (if i < 0 then -i else i), H, I.tok _, ⟨_, rfl⟩, q⟩
theorem call_max2 (hc : X.calm = true) : CallR X (.builtin "max") (fun xs H Q => ∃ i j, xs = [.int i, .int j] ∧ Q (.int (if j > i then j else i)) H) := by
  intro pins s σ H xs us Q I r h
  obtain ⟨i, j, rfl, q⟩ := h
  obtain ⟨u, w', rfl, ⟨t, rfl⟩, ⟨t', rfl⟩⟩ := vals2 r
  refine max_two_ints (I.ok.hd hc) fun h' tk k => ⟨_, H, I.kept k, ?_, q⟩
  by_cases hj : j > i
  · rw [if_pos hj, if_pos hj]; exact ⟨_, rfl⟩
  · rw [if_neg hj, if_neg hj]; exact ⟨_, rfl⟩
theorem call_min2 (hc : X.calm = true) : CallR X (.builtin "min") (fun xs H Q => ∃ i j, xs = [.int i, .int j] ∧ Q (.int (if j < i then j else i)) H) := by
  intro pins s σ H xs us Q I r h
  obtain ⟨i, j, rfl, q⟩ := h
  obtain ⟨u, w', rfl, ⟨t, rfl⟩, ⟨t', rfl⟩⟩ := vals2 r
  refine min_two_ints (I.ok.hd hc) fun h' tk k => ⟨_, H, I.kept k, ?_, q⟩
  by_cases hj : j < i
  · rw [if_pos hj, if_pos hj]; exact ⟨_, rfl⟩
  · rw [if_neg hj, if_neg hj]; exact ⟨_, rfl⟩
theorem call_int1 : CallR X (.type "int") (fun xs H Q => (∃ i, xs = [.int i] ∧ Q (.int i) H) ∨ ∃ k, xs = [.bl k] ∧ Q (.int (if k then 1 else 0)) H) := by
  intro pins s σ H xs us Q I r h
  rcases h with ⟨i, rfl, q⟩ | ⟨k, rfl, q⟩
  · obtain ⟨u, rfl, t, rfl⟩ := vals1 r
    exact call_int_int ⟨.int i, H, I, ⟨_, rfl⟩, q⟩
  · obtain ⟨u, rfl, r1⟩ := vals1 r
    cases r1
    exact call_int_bool ⟨.int (if k then 1 else 0), H, I.tok _, ⟨_, rfl⟩, q⟩
theorem call_bool1 : CallR X (.type "bool") (fun xs H Q => (∃ i, xs = [.int i] ∧ Q (.bl (i != 0)) H) ∨ ∃ k, xs = [.bl k] ∧ Q (.bl k) H) := by
  intro pins s σ H xs us Q I r h
  rcases h with ⟨i, rfl, q⟩ | ⟨k, rfl, q⟩
  · obtain ⟨u, rfl, t, rfl⟩ := vals1 r
    exact call_bool_int ⟨.bl (i != 0), H, I, rfl, q⟩
  · obtain ⟨u, rfl, r1⟩ := vals1 r
    cases r1
    exact call_bool_bool ⟨.bl k, H, I, rfl, q⟩
theorem call_str_int : CallR X (.type "str") (fun xs H Q => ∃ i, xs = [.int i] ∧ i.natAbs.log2 < 1920 ∧ Q (.str (toString i)) H) := by
  intro pins s σ H xs us Q I r h
  obtain ⟨i, rfl, hz, q⟩ := h
  obtain ⟨u, rfl, t, rfl⟩ := vals1 r
  exact PySem.P.str_of_int hz ⟨.str _, H, I.tok _, ⟨_, rfl⟩, q⟩
theorem call_ord : CallR X (.builtin "ord") (fun xs H Q => ∃ x, xs = [.str x] ∧ x.length = 1 ∧ Q (.int (x.cps.getD 0 0 : Nat)) H) := by
  intro pins s σ H xs us Q I r h
  obtain ⟨x, rfl, hz, q⟩ := h
  obtain ⟨u, rfl, t, rfl⟩ := vals1 r
  exact ord_of_one hz ⟨.int _, H, I.tok _, ⟨_, rfl⟩, q⟩
theorem call_chr : CallR X (.builtin "chr") (fun xs H Q => ∃ i, xs = [.int i] ∧ 0 ≤ i ∧ i ≤ 1114111 ∧ Q (.str ⟨#[i.toNat]⟩) H) := by
  intro pins s σ H xs us Q I r h
  obtain ⟨i, rfl, h0, h1, q⟩ := h
  obtain ⟨u, rfl, t, rfl⟩ := vals1 r
  exact chr_of_range h0 h1 ⟨.str _, H, I.tok _, ⟨_, rfl⟩, q⟩
/-- len of a str, a bytes, a list, a tuple -/
def LenV (K : PySem.W.Frag) (x : V) (H : Hp) (n : Nat) : Prop :=
  match x with
  | .str y => y.length ≤ sizeLine ∧ n = y.length
  | .byt y => y.size ≤ sizeLine ∧ n = y.size
  | .ref p => (∃ xs, SqL K H p xs ∧ n = xs.length) ∨ ∃ xs, SqT K H p xs ∧ n = xs.length
  | _ => False
theorem call_len : CallR X (.builtin "len") (fun xs H Q => ∃ x n, xs = [x] ∧ LenV X.K x H n ∧ Q (.int n) H) := by
  intro pins s σ H xs us Q I r h
  obtain ⟨x, n, rfl, e, q⟩ := h
  obtain ⟨u, rfl, rx⟩ := vals1 r
  have hl := line63
  have hs : sizeLine = 16777216 := sizeLine_eq
  cases x with
  | str y =>
    obtain ⟨t, rfl⟩ := rx
    obtain ⟨hy, e'⟩ : y.length ≤ sizeLine ∧ n = y.length := e
    subst e'
    exact len_str (by omega) ⟨.int _, H, I.tok _, ⟨_, rfl⟩, q⟩
  | byt y =>
    obtain ⟨t, rfl⟩ := rx
    obtain ⟨hy, e'⟩ : y.size ≤ sizeLine ∧ n = y.size := e
    subst e'
    exact PySem.W.len_bytes (by omega) ⟨.int _, H, I.tok _, ⟨_, rfl⟩, q⟩
  | ref p =>
    cases rx
    have e' : (∃ xs, SqL X.K H p xs ∧ n = xs.length) ∨ ∃ xs, SqT X.K H p xs ∧ n = xs.length := e
    rcases e' with ⟨xs, hx, e'⟩ | ⟨xs, hx, e'⟩
    · subst e'
      obtain ⟨its, r', pl, hz⟩ := I.list hx
      have hlen := r'.length
      exact Calls.call_len_list pl.isList (by simp only [List.size_toArray]; omega) ⟨.int xs.length, H, I.tok _, ⟨_, by simp only [List.size_toArray]; rw [hlen]⟩, q⟩
    · subst e'
      obtain ⟨its, r', pl, hz⟩ := I.tuple hx
      have hlen := r'.length
      exact len_tuple pl (by simp only [List.size_toArray]; omega) ⟨.int xs.length, H, I.tok _, ⟨_, by simp only [List.size_toArray]; rw [hlen]⟩, q⟩
  | _ => exact (show False from e).elim
/-- divmod: a new tuple -/
theorem call_divmod : CallR X (.builtin "divmod") (fun xs H Q => ∃ i j, xs = [.int i, .int j] ∧ CDiv i j ∧ ∀ p, H p = none → Q (.ref p) (upd H p (.tup [.int (i / j), .int (i % j)]))) := by
  intro pins s σ H xs us Q I r h
  obtain ⟨i, j, rfl, ⟨h1, h2⟩, q⟩ := h
  obtain ⟨u, w', rfl, ⟨t, rfl⟩, ⟨t', rfl⟩⟩ := vals2 r
  refine divmod_int (by omega) ?_ (.inl (PyProof.noPylong_small (by omega)))
  rw [Int.fdiv_eq_ediv_of_nonneg i (by omega), Int.fmod_eq_emod_of_nonneg i (by omega)]
  have hn : H s.heap.objs.size = none := I.hok.fresh (Nat.le_refl _)
  refine ⟨.ref s.heap.objs.size, _, ?_, rfl, q _ hn⟩
  refine I.laid (fun b o e => Heap.get?_push_of_some _ e) (Nat.le_refl _) ⟨by simp only [List.length_cons, List.length_nil]; rw [sizeLine_eq]; decide, [.int (i / j) s.toks, .int (i % j) (s.toks + 1)], .cons ⟨_, rfl⟩ (.cons ⟨_, rfl⟩ .nil), ?_⟩
  exact ⟨_, Heap.get?_push_size s.heap rfl, rfl, 0, rfl⟩
end
end L2

namespace L2
open PySem PySem.Spec PyProof.Rows

/-! ### an instance, its attributes a map -/
structure ObjM (h : Heap) (x dx C : Addr) (mA : Str → Option Value) : Prop where
  obj : h.get? x = some (PySem.W.instObj C dx)
  ns : h.Ns1 dx mA
  ne : dx ≠ x

theorem lookIn_ns {h : Heap} {dx : Addr} {mA : Str → Option Value} (n : h.Ns1 dx mA) : ∃ od, h.get? dx = some od ∧ ∀ name, PySem.W.lookIn name od = some (mA name) := by
  obtain ⟨o, es, ep, ho, hd, hk, _, hm⟩ := n
  refine ⟨o, ho, fun name => ?_⟩
  have e := hm name
  unfold nsFind findBy at e
  rw [← Array.find?_toList] at e
  unfold PySem.W.lookIn
  rw [hd]
  dsimp only
  split
  · rename_i y q
    rw [q] at e
    exact congrArg some e
  · rename_i q
    rw [q] at e
    have a : es.toList.any (·.refKey) = false := by
      rw [List.any_eq_false]
      intro y hy
      obtain ⟨z, t, hkey⟩ := hk y (Array.mem_toList_iff.mp hy)
      simp [DictEntry.refKey, hkey]
    have a' : ¬ es.toList.any (·.refKey) = true := by rw [a]; exact Bool.false_ne_true
    rw [if_neg a']
    exact congrArg some e

theorem ObjM.look {h : Heap} {x dx C : Addr} {mA : Str → Option Value} (I : ObjM h x dx C mA) : ∃ od, PySem.W.InstAt h x (PySem.W.instObj C dx) C (some od) ∧ ∀ name, PySem.W.lookIn name od = some (mA name) :=
  let ⟨od, ho, hl⟩ := lookIn_ns I.ns
  ⟨od, ⟨I.obj, rfl, rfl, ho⟩, hl⟩

section
variable {prog : Program} {w : World} {A : Around} {E : Value → Shared → Prop} {s : Shared} {K : PySem.W.Frag} {x dx C f : Addr} {mA : Str → Option Value} {name : Str} {v : Value}

theorem get_map {expr : Bool} {Q : Value → Shared → Prop} (X : K.In s.heap) (I : ObjM s.heap x dx C mA) (hg : PySem.W.plainGet K C name = true) (hh : PySem.W.hasDictIn K C = true)
    (ha : PySem.W.findIn K (.ref C) name = some none) (hv : mA name = some v) (hv' : PySem.W.handedIn v = true) (h : Q v { s with toks := s.toks + 1 }) :
    wpAny (model prog w) A (getAttr (.ref x) name expr) Q E s := by
  obtain ⟨od, J, hl⟩ := I.look
  exact PySem.W.get_value X J (PySem.W.plainGet_of hg).1 (PySem.W.findObj_own hh ha rfl (by rw [hl, hv])) hv' h

theorem get_const {expr : Bool} {a : Value} {Q : Value → Shared → Prop} (X : K.In s.heap) (I : ObjM s.heap x dx C mA) (hg : PySem.W.plainGet K C name = true) (hh : PySem.W.hasDictIn K C = true)
    (ha : PySem.W.findIn K (.ref C) name = some (some a)) (hn : PySem.W.specialIn K a "__get__" = some none) (hc : PySem.W.copiedNames.contains name = false) (hv : mA name = none) (hv' : PySem.W.handedIn a = true)
    (h : Q a { s with toks := s.toks + 1 }) : wpAny (model prog w) A (getAttr (.ref x) name expr) Q E s := by
  obtain ⟨od, J, hl⟩ := I.look
  exact PySem.W.get_value X J (PySem.W.plainGet_of hg).1 (PySem.W.findObj_cls hh ha hn hv' hc (by rw [hl, hv])) hv' h

theorem get_meth {pl : Sem Bool} {Q : Value × List Value → Shared → Prop} (X : K.In s.heap) (I : ObjM s.heap x dx C mA) (hg : PySem.W.plainGet K C name = true)
    (hf : PySem.W.findIn K (.ref C) name = some (some (.ref f))) (ht : PySem.W.isFn K (.ref f) = true) (hv : mA name = none) (h : Q (.ref f, [.ref x]) s) :
    wpAny (model prog w) A (getMethod (.ref x) name pl) Q E s := by
  obtain ⟨od, J, hl⟩ := I.look
  exact PySem.W.method_fn X J (PySem.W.plainGet_of hg).1 (PySem.W.plainGet_of hg).2 hf (beq_iff_eq.mp ht) (by show (PySem.W.lookIn name od).map (·.isSome) = some false; rw [hl, hv]; rfl) h

theorem set_map {ns : List Str} {Q : Unit → Shared → Prop} (X : K.In s.heap) (I : ObjM s.heap x dx C mA)
    (hs : PySem.W.findIn K (.ref C) "__setattr__" = some (some (.builtin "object.__setattr__"))) (hp : PySem.W.plainOver K C = true) (ht : PySem.W.takerIn K C name = some none) (hh : PySem.W.hasDictIn K C = true)
    (hw : PySem.Within mA ns) (hsz : ns.length ≤ sizeLine)
    (h : ∀ h', ObjM h' x dx C (fun y => if y = name then some v else mA y) → Heap.SameBut dx s.heap h' → Q () { s with heap := h', toks := s.toks + 2 }) :
    wpAny (model prog w) A (setAttr (.ref x) name v) Q E s := by
  obtain ⟨od, J, hl⟩ := I.look
  refine PySem.W.set_plain X J hs (PySem.W.osa_open (s := { s with toks := s.toks + 1 }) (r := none) X J hp ht fun b => ?_)
  obtain ⟨cd, hc, hd'⟩ := PySem.W.any_some hh
  have hx : s.heap.get? x = some ⟨.ref C, some dx, .plain, #[]⟩ := I.obj
  refine wpAny_bind (wpAny_pure (wpAny_bind (wpAny_bind (wpAny_loadPart hx (wpAny_bind (PySem.W.Looks.here (s := { s with toks := s.toks + 1 }) (PySem.W.looks_clsIn X hc) ?_))))))
  rw [hd']
  refine wpAny_pure (a := some dx) (wpAny_bind (wpAny_pure (wpAny_bind ?_)))
  refine wpAny_nsSet1 (s := { s with toks := s.toks + 1 }) I.ns fun h' hn2 hs2 => ?_
  obtain ⟨oD, esD, epD, hoD, hdD, hcD⟩ := hn2.count (PySem.Within.cons name v hw)
  refine wpAny_bind (wpAny_lookBehind hoD (by rw [hdD]; exact pastItsLine_dict (Nat.le_trans hcD (by rw [List.length_cons]; omega))) ?_)
  exact wpAny_pure (h _ ⟨(hs2.2 _ (Ne.symm I.ne)).trans I.obj, hn2, I.ne⟩ hs2)

/-- C(..): the dict at the heap's end, the instance behind it; then its __init__ -/
theorem make_map {R : Result → Shared → Prop} {vs : List Value} {kw : List (Str × Value)} (X : K.In s.heap) (hm : PySem.W.makesIn K C = true)
    (hi : PySem.W.findIn K (.ref C) "__init__" = some (some (.ref f))) (hf : PySem.W.typeIn K (.ref f) = some (.type "function"))
    (h : codeAny (model prog w) (A.under (.builtin "type.__call__" ⟨.ref C :: vs, kw⟩)) (.call (.ref f) ⟨.ref (s.heap.objs.size + 1) :: vs, kw⟩) (PySem.W.InitBack (s.heap.objs.size + 1) R)
      { s with heap := (s.heap.push PySem.W.emptyDict).push (PySem.W.instObj C s.heap.objs.size) }) :
    codeAny (model prog w) A (.call (.ref C) ⟨vs, kw⟩) R s := by
  obtain ⟨hh, g, d, t, os⟩ := s
  exact PySem.W.make_core (PySem.W.makes_of X hm) (PySem.W.looks_findIn X hi) (fun self => PySem.W.bind_fn X self hf) (.inl rfl) h
/-- C() where there is no __init__ but object's -/
theorem make_map0 {R : Result → Shared → Prop} (X : K.In s.heap) (hm : PySem.W.makesIn K C = true)
    (hi : PySem.W.findIn K (.ref C) "__init__" = some (some (.builtin "object.__init__")))
    (hb : ∀ self, PySem.W.Looks (model prog w) s.heap (bindSpecial (.builtin "object.__init__") self) (.builtin "object.__init__", [self]))
    (h : codeAny (model prog w) (A.under (.builtin "type.__call__" ⟨[.ref C], []⟩)) (.call (.builtin "object.__init__") ⟨[.ref (s.heap.objs.size + 1)], []⟩) (PySem.W.InitBack (s.heap.objs.size + 1) R)
      { s with heap := (s.heap.push PySem.W.emptyDict).push (PySem.W.instObj C s.heap.objs.size) }) :
    codeAny (model prog w) A (.call (.ref C) ⟨[], []⟩) R s := by
  obtain ⟨hh, g, d, t, os⟩ := s
  exact PySem.W.make_core (PySem.W.makes_of X hm) (PySem.W.looks_findIn X hi) hb (.inr ⟨rfl, rfl⟩) h
end

/-! ### the attributes as a list of pairs -/
def putF (f : Str) (v : V) : List (Str × V) → List (Str × V)
  | [] => [(f, v)]
  | (g, x) :: r => if g = f then (g, v) :: r else (g, x) :: putF f v r
theorem lookup_putF (f g : Str) (v : V) : ∀ fs : List (Str × V), (putF f v fs).lookup g = if g = f then some v else fs.lookup g
  | [] => by
    show List.lookup g [(f, v)] = _
    by_cases h : g = f
    · have hb : (g == f) = true := beq_iff_eq.mpr h
      simp only [List.lookup, hb, if_pos h]
    · have hb : (g == f) = false := beq_eq_false_iff_ne.mpr h
      simp only [List.lookup, hb, if_neg h]
  | (k, x) :: r => by
    have ih := lookup_putF f g v r
    rw [show putF f v ((k, x) :: r) = (if k = f then (k, v) :: r else (k, x) :: putF f v r) from rfl]
    by_cases hk : k = f
    · rw [if_pos hk]
      by_cases h : g = k
      · have hb : (g == k) = true := beq_iff_eq.mpr h
        simp only [List.lookup, hb, if_pos (h.trans hk)]
      · have hb : (g == k) = false := beq_eq_false_iff_ne.mpr h
        simp only [List.lookup, hb, if_neg (fun e : g = f => h (e.trans hk.symm))]
    · rw [if_neg hk]
      by_cases h : g = k
      · have hb : (g == k) = true := beq_iff_eq.mpr h
        simp only [List.lookup, hb, if_neg (fun e : g = f => hk (h.symm.trans e))]
      · have hb : (g == k) = false := beq_eq_false_iff_ne.mpr h
        simp only [List.lookup, hb]
        exact ih
theorem keys_putF (f : Str) (v : V) : ∀ fs : List (Str × V), f ∈ (putF f v fs).map (·.1) ∧ ∀ g, g ∈ fs.map (·.1) → g ∈ (putF f v fs).map (·.1)
  | [] => ⟨by simp [putF], fun g h => by simp at h⟩
  | (k, x) :: r => by
    obtain ⟨i1, i2⟩ := keys_putF f v r
    rw [show putF f v ((k, x) :: r) = (if k = f then (k, v) :: r else (k, x) :: putF f v r) from rfl]
    by_cases hk : k = f
    · rw [if_pos hk]
      subst hk
      exact ⟨by simp, fun g h => by simpa using h⟩
    · rw [if_neg hk]
      refine ⟨?_, fun g h => ?_⟩
      · rw [List.map_cons]
        exact List.mem_cons_of_mem _ i1
      · rw [List.map_cons] at h ⊢
        rcases List.mem_cons.mp h with e | e
        · exact List.mem_cons.mpr (.inl e)
        · exact List.mem_cons_of_mem _ (i2 g e)
theorem length_putF (f : Str) (v : V) : ∀ fs : List (Str × V), (putF f v fs).length ≤ fs.length + 1
  | [] => by simp [putF]
  | (k, x) :: r => by
    have ih := length_putF f v r
    rw [show putF f v ((k, x) :: r) = (if k = f then (k, v) :: r else (k, x) :: putF f v r) from rfl]
    by_cases hk : k = f
    · rw [if_pos hk, List.length_cons, List.length_cons]; omega
    · rw [if_neg hk, List.length_cons, List.length_cons]; omega

theorem RelO.some_of {v : V} {o : Option Value} (r : RelO (some v) o) : ∃ u, o = some u ∧ RelV v u := by
  cases o with
  | none => exact (show False from r).elim
  | some u => exact ⟨u, rfl, r⟩
theorem RelO.none_of {o : Option Value} (r : RelO none o) : o = none := by
  cases o with
  | none => rfl
  | some u => exact (show False from r).elim
theorem handed_of {v : V} {u : Value} (r : RelV v u) : PySem.W.handedIn u = true := by
  cases v with
  | non => cases (show u = Value.none from r); rfl
  | bl b => cases (show u = Value.bool b from r); rfl
  | int i => obtain ⟨t, e⟩ := (show ∃ t, u = Value.int i t from r); cases e; rfl
  | str x => obtain ⟨t, e⟩ := (show ∃ t, u = Value.str x t from r); cases e; rfl
  | byt b => obtain ⟨t, e⟩ := (show ∃ t, u = Value.bytes b t from r); cases e; rfl
  | flt b => obtain ⟨t, e⟩ := (show ∃ t, u = Value.float b t from r); cases e; rfl
  | ref a => cases (show u = Value.ref a from r); rfl
  | ty n => cases (show u = Value.type n from r); rfl

section
variable {P : Program} {w : World} {H H' : Hp} {h h' : Heap} {a C dx : Addr} {fs fs' : List (Str × V)}
theorem ins_get (hok : HOk P w H h) (e : H a = some (.ins C dx fs)) : ∃ mA, ObjM h a dx C mA ∧ (∀ f, RelO (fs.lookup f) (mA f)) ∧ PySem.Within mA (fs.map (·.1)) ∧ fs.length ≤ 1000 ∧ H dx = some (.own a) := by
  obtain ⟨d, z, ne, ob, mA, n, r, q⟩ := (show ObjOk P w H h a (.ins C dx fs) from hok a _ e)
  exact ⟨mA, ⟨ob, n, ne⟩, r, q, z, d⟩
end

/-! ### what of the text a class must have -/
structure Cls (K : PySem.W.Frag) (C : Addr) : Prop where
  pg : PySem.W.plainGet K C Str.empty = true
  hd : PySem.W.hasDictIn K C = true
  po : PySem.W.plainOver K C = true
  sa : PySem.W.findIn K (.ref C) "__setattr__" = some (some (.builtin "object.__setattr__"))
theorem Cls.get {K : PySem.W.Frag} {C : Addr} (c : Cls K C) (f : Str) : PySem.W.plainGet K C f = true := c.pg
/-- no class of it has the name -/
def NoAttr (K : PySem.W.Frag) (C : Addr) (f : Str) : Prop := PySem.W.findIn K (.ref C) f = some none
theorem NoAttr.taker {K : PySem.W.Frag} {C : Addr} {f : Str} (n : NoAttr K C f) : PySem.W.takerIn K C f = some none := by
  unfold PySem.W.takerIn
  rw [show PySem.W.findIn K (.ref C) f = some none from n]
  rfl
/-- a constant of the class -/
structure Con (K : PySem.W.Frag) (C : Addr) (f : Str) (v : V) (u : Value) : Prop where
  at_ : PySem.W.findIn K (.ref C) f = some (some u)
  rel : RelV v u
  get : PySem.W.specialIn K u "__get__" = some none
  cp : PySem.W.copiedNames.contains f = false
/-- a method: a plain def of the class or of one above it -/
structure Meth (K : PySem.W.Frag) (C : Addr) (m : Str) (f : Addr) : Prop where
  at_ : PySem.W.findIn K (.ref C) m = some (some (.ref f))
  fn : PySem.W.isFn K (.ref f) = true
  kp : PySem.W.keepIn K (.ref f) = true

section
variable {X : Cx} {pins : List (Addr × Obj)} {σ : St} {H : Hp} {s : Shared} {a C dx : Addr} {fs : List (Str × V)} {f : Str} {v : V} {A : Around} {E : Value → Shared → Prop}

theorem getattr_ok {b : Bool} {Q : Value → Shared → Prop} (I : Inv X pins σ H s) (e : H a = some (.ins C dx fs)) (c : Cls X.K C) (n : NoAttr X.K C f) (l : fs.lookup f = some v)
    (h : ∀ u s', Inv X pins σ H s' → RelV v u → Q u s') : wpAny (model X.prog X.w) A (getAttr (.ref a) f b) Q E s := by
  obtain ⟨mA, O, r, _, _, _⟩ := ins_get I.hok e
  obtain ⟨u, hu, ru⟩ := RelO.some_of (v := v) (o := mA f) (by rw [← l]; exact r f)
  exact get_map I.kIn O (c.get f) c.hd n hu (handed_of ru) (h u _ (I.tok _) ru)

theorem getcon_ok {b : Bool} {u : Value} {Q : Value → Shared → Prop} (I : Inv X pins σ H s) (e : H a = some (.ins C dx fs)) (c : Cls X.K C) (k : Con X.K C f v u) (l : fs.lookup f = none)
    (h : ∀ s', Inv X pins σ H s' → Q u s') : wpAny (model X.prog X.w) A (getAttr (.ref a) f b) Q E s := by
  obtain ⟨mA, O, r, _, _, _⟩ := ins_get I.hok e
  have hn : mA f = none := RelO.none_of (by rw [← l]; exact r f)
  exact get_const I.kIn O (c.get f) c.hd k.at_ k.get k.cp hn (handed_of k.rel) (h _ (I.tok _))

theorem getmeth_ok {m : Str} {g : Addr} {pl : Sem Bool} {Q : Value × List Value → Shared → Prop} (I : Inv X pins σ H s) (e : H a = some (.ins C dx fs)) (c : Cls X.K C) (k : Meth X.K C m g) (l : fs.lookup m = none)
    (h : Q (.ref g, [.ref a]) s) : wpAny (model X.prog X.w) A (getMethod (.ref a) m pl) Q E s := by
  obtain ⟨mA, O, r, _, _, _⟩ := ins_get I.hok e
  have hn : mA m = none := RelO.none_of (by rw [← l]; exact r m)
  exact get_meth I.kIn O (c.get m) k.at_ k.fn hn h

theorem setattr_ok {y : V} {u : Value} {Q : Unit → Shared → Prop} (I : Inv X pins σ H s) (e : H a = some (.ins C dx fs)) (c : Cls X.K C) (n : NoAttr X.K C f) (hl : fs.length < 1000) (ry : RelV y u)
    (h : ∀ s', Inv X pins σ (upd H a (.ins C dx (putF f y fs))) s' → Q () s') : wpAny (model X.prog X.w) A (setAttr (.ref a) f u) Q E s := by
  obtain ⟨mA, O, r, wi, _, ho⟩ := ins_get I.hok e
  have hz : (fs.map (·.1)).length ≤ sizeLine := by rw [List.length_map, sizeLine_eq]; omega
  refine set_map I.kIn O c.sa c.po n.taker c.hd wi hz fun h' O' sb => h _ ?_
  have hd : ∃ o, h'.get? dx = some o := let ⟨o, _, _, e', _⟩ := O'.ns; ⟨o, e'⟩
  refine I.write (x := a) (e := dx) (by rw [e]; exact True.intro) (.inr ho) (fun b q hb z => (sb.2 b hb).trans z) hd ?_
  refine ⟨by rw [upd_ne O.ne]; exact ho, ?_, O.ne, O'.obj, _, O'.ns, fun g => ?_, fun g hg => ?_⟩
  · have := length_putF f y fs; omega
  · show RelO ((putF f y fs).lookup g) (if g = f then some u else mA g)
    rw [lookup_putF]
    by_cases q : g = f
    · rw [if_pos q, if_pos q]; exact ry
    · rw [if_neg q, if_neg q]; exact r g
  · by_cases q : g = f
    · rw [q]; exact (keys_putF f y fs).1
    · refine (keys_putF f y fs).2 g (wi g fun z => hg ?_)
      show (if g = f then some u else mA g) = none
      rw [if_neg q]; exact z

/-- a new instance, tracked, without attributes -/
theorem Inv.made (I : Inv X pins σ H s) : Inv X pins σ (upd (upd H s.heap.objs.size (.own (s.heap.objs.size + 1))) (s.heap.objs.size + 1) (.ins C s.heap.objs.size []))
    { s with heap := (s.heap.push PySem.W.emptyDict).push (PySem.W.instObj C s.heap.objs.size) } := by
  have e1 : (s.heap.push PySem.W.emptyDict).get? s.heap.objs.size = some PySem.W.emptyDict := Heap.get?_push_size s.heap rfl
  have e2 : ((s.heap.push PySem.W.emptyDict).push (PySem.W.instObj C s.heap.objs.size)).get? (s.heap.objs.size + 1) = some (PySem.W.instObj C s.heap.objs.size) := by
    have := Heap.get?_push_size (s.heap.push PySem.W.emptyDict) (o := PySem.W.instObj C s.heap.objs.size) rfl
    rwa [Heap.size_push] at this
  have e3 : (s.heap.push PySem.W.emptyDict).Ns s.heap.objs.size (fun _ => none) := ⟨PySem.W.emptyDict, #[], _, e1, rfl, (fun e he => absurd he (by simp)), fun _ => rfl⟩
  have I1 := I.laid (a := s.heap.objs.size) (o := .own (s.heap.objs.size + 1)) (h' := s.heap.push PySem.W.emptyDict) (t' := s.toks) (fun b u q => Heap.get?_push_of_some _ q) (Nat.le_refl _) ⟨_, e1⟩
  refine I1.laid (a := s.heap.objs.size + 1) (o := .ins C s.heap.objs.size []) (t' := s.toks) (fun b u q => Heap.get?_push_of_some _ q) (Nat.le_of_eq (Heap.size_push _ _)) ?_
  have ne : s.heap.objs.size ≠ s.heap.objs.size + 1 := Nat.ne_of_lt (Nat.lt_succ_self _)
  refine ⟨by rw [upd_ne ne, upd_same], Nat.zero_le _, ne, e2, fun _ => none, (Heap.Ns1.of_empty e3).at fun o q => Heap.get?_push_of_some _ q, fun _ => True.intro, fun y hy => absurd rfl hy⟩

/-- e.f where nothing but the object is asked: through attributeBase (super) and the last hold -/
theorem attr_of {prog : Program} {w : World} {env : Env} {e : Expr} {f : Str} {pos : Pos} {s : Shared} {Q : Value → Shared → Prop} (hb : attributeBase e f env (eval e env) = eval e env)
    (h : wpAny (model prog w) A (eval e env) (fun o s₁ => wpAny (model prog w) A (getAttr o f true) Q E s₁) E s) : wpAny (model prog w) A (eval (.Attribute e f pos) env) Q E s :=
  Attribute_any_ h (by rw [arm_eval_Attribute, hb])
end

/-! ### readings and rules -/
/-- e.f, an attribute of the instance -/
def tFld (K : PySem.W.Frag) (ta : TE) (f : Str) : TE := fun σ H Q => ta σ H fun x H1 => ∃ a C dx fs v, x = .ref a ∧ H1 a = some (.ins C dx fs) ∧ Cls K C ∧ NoAttr K C f ∧ fs.lookup f = some v ∧ Q v H1
/-- e.f, a constant of the class -/
def tCon (K : PySem.W.Frag) (ta : TE) (f : Str) : TE := fun σ H Q => ta σ H fun x H1 => ∃ a C dx fs v u, x = .ref a ∧ H1 a = some (.ins C dx fs) ∧ Cls K C ∧ Con K C f v u ∧ fs.lookup f = none ∧ Q v H1
/-- e.f = value -/
def sFld (K : PySem.W.Frag) (ta tv : TE) (f : Str) : TS := fun D σ H => tv σ H fun y H1 => ta σ H1 fun x H2 => ∃ a C dx fs, x = .ref a ∧ H2 a = some (.ins C dx fs) ∧ Cls K C ∧ NoAttr K C f ∧ fs.length < 1000 ∧
  D.nx σ (upd H2 a (.ins C dx (putF f y fs)))
/-- an augmented operator on two values -/
def InOp (X : Cx) (op : Operator) (rd : V → V → Hp → VK → Prop) : Prop :=
  ∀ (pins : List (Addr × Obj)) (s : Shared) (σ : St) (H : Hp) (x y : V) (u v : Value) (Q : VK), Inv X pins σ H s → RelV x u → RelV y v → rd x y H Q → wpAny (model X.prog X.w) X.A (inplaceOp op u v) (EP X pins σ Q) X.xe s
/-- e.f op= value -/
def sFldAug (K : PySem.W.Frag) (ta tv : TE) (rd : V → V → Hp → VK → Prop) (f : Str) : TS := fun D σ H => ta σ H fun x H1 => ∃ a C dx fs v, x = .ref a ∧ H1 a = some (.ins C dx fs) ∧ Cls K C ∧ NoAttr K C f ∧ fs.lookup f = some v ∧
  tv σ H1 fun y H2 => rd v y H2 fun z H3 => ∃ dx' fs', H3 a = some (.ins C dx' fs') ∧ fs'.length < 1000 ∧ D.nx σ (upd H3 a (.ins C dx' (putF f z fs')))

section
variable {X : Cx} {o e value : Expr} {f : Str} {pos pos' tpos : Pos} {ta tv : TE}
theorem pe_fld (he : PE X e ta) (hb : attributeBase e f X.env (eval e X.env) = eval e X.env) : PE X (.Attribute e f pos) (tFld X.K ta f) := by
  intro pins s σ H Q I h
  refine attr_of hb (thn (he pins s σ H _ I h) fun u s1 ⟨x, H1, I1, rx, a, C, dx, fs, v, ex, ea, c, n, l, q⟩ => ?_)
  subst ex
  obtain rfl : u = Value.ref a := rx
  exact getattr_ok I1 ea c n l fun u' s2 I2 ru => ⟨v, H1, I2, ru, q⟩
theorem pe_con (he : PE X e ta) (hb : attributeBase e f X.env (eval e X.env) = eval e X.env) : PE X (.Attribute e f pos) (tCon X.K ta f) := by
  intro pins s σ H Q I h
  refine attr_of hb (thn (he pins s σ H _ I h) fun u s1 ⟨x, H1, I1, rx, a, C, dx, fs, v, u0, ex, ea, c, k, l, q⟩ => ?_)
  subst ex
  obtain rfl : u = Value.ref a := rx
  exact getcon_ok I1 ea c k l fun s2 I2 => ⟨v, H1, I2, k.rel, q⟩
theorem ps_fld (ha : PE X o ta) (hv : PE X value tv) (hs : swapsWith value (some (.Attribute o f pos')) pos.line X.env = pure false) : PS X (.Assign [.Attribute o f pos'] value pos) (sFld X.K ta tv f) := by
  intro pins s σ H D I h
  refine plainObj_wpAny_Assign_Attribute (thn (hv pins s σ H _ I h) fun u s1 ⟨y, H1, I1, ry, q⟩ => thn (ha pins s1 σ H1 _ I1 q) fun ov s2 ⟨x, H2, I2, rx, a, C, dx, fs, ex, ea, c, n, l, q2⟩ => ?_) hs
  subst ex
  obtain rfl : ov = Value.ref a := rx
  exact setattr_ok I2 ea c n l ry fun s3 I3 => ⟨σ, _, I3, q2⟩
theorem ps_fldaug {op : Operator} {rd : V → V → Hp → VK → Prop} (ha : PE X o ta) (hv : PE X value tv) (hop : InOp X op rd) : PS X (.AugAssign (.Attribute o f tpos) op value pos) (sFldAug X.K ta tv rd f) := by
  intro pins s σ H D I h
  refine wpAny_AugAssign_AttributeAny (thn (ha pins s σ H _ I h) fun ov s1 ⟨x, H1, I1, rx, a, C, dx, fs, v, ex, ea, c, n, l, q⟩ => ?_)
  subst ex
  obtain rfl : ov = Value.ref a := rx
  refine getattr_ok I1 ea c n l fun u s2 I2 ru => thn (hv pins s2 σ H1 _ I2 q) fun w3 s3 ⟨y, H2, I3, ry, q3⟩ => thn (hop pins s3 σ H2 v y u w3 _ I3 ru ry q3) fun w4 s4 ⟨z, H3, I4, rz, dx', fs', ea', l', q4⟩ => ?_
  exact setattr_ok I4 ea' c n l' rz fun s5 I5 => ⟨σ, _, I5, q4⟩
def rAdd : V → V → Hp → VK → Prop := fun x y H Q => ∃ i j, x = .int i ∧ y = .int j ∧ Q (.int (i + j)) H
def rSub : V → V → Hp → VK → Prop := fun x y H Q => ∃ i j, x = .int i ∧ y = .int j ∧ Q (.int (i - j)) H
theorem in_add : InOp X .Add rAdd := by
  rintro pins s σ H x y u v Q I rx ry ⟨i, j, rfl, rfl, q⟩
  obtain ⟨t, rfl⟩ := (show ∃ t, u = Value.int i t from rx)
  obtain ⟨t', rfl⟩ := (show ∃ t', v = Value.int j t' from ry)
  exact PyProof.Rows.iadd_int ⟨.int (i + j), H, I.tok _, ⟨_, rfl⟩, q⟩
theorem in_sub : InOp X .Sub rSub := by
  rintro pins s σ H x y u v Q I rx ry ⟨i, j, rfl, rfl, q⟩
  obtain ⟨t, rfl⟩ := (show ∃ t, u = Value.int i t from rx)
  obtain ⟨t', rfl⟩ := (show ∃ t', v = Value.int j t' from ry)
  exact PyProof.Rows.isub_int ⟨.int (i - j), H, I.tok _, ⟨_, rfl⟩, q⟩

/-- what is between an instance and its method: the tree of a method call -/
theorem methcall_of {pl : Sem Bool} {m : Str} {apos : Pos} {args : List Expr} {pins : List (Addr × Obj)} {s : Shared} {σ : St} {H : Hp} {Q : Value → Shared → Prop} {te : TE} (he : PE X e te) (I : Inv X pins σ H s)
    (h : te σ H fun x H1 => ∃ a C dx fs g, x = .ref a ∧ H1 a = some (.ins C dx fs) ∧ Cls X.K C ∧ Meth X.K C m g ∧ fs.lookup m = none ∧
      ∀ s1, Inv X pins σ H1 s1 → wpAny (model X.prog X.w) X.A (callWith pos (.ref g) [.ref a] (backTo pos (starEach args X.env)) (backToKw pos (keywordEach [] X.env))) Q X.xe s1)
    (ht : eval (.Call (.Attribute e m apos) args [] pos) X.env = (do
      let ov ← eval e X.env
      standAt apos.atName
      let (f, first) ← holding [ov] (getMethod ov m pl)
      callWith pos f first (backTo pos (starEach args X.env)) (backToKw pos (keywordEach [] X.env)))) :
    wpAny (model X.prog X.w) X.A (eval (.Call (.Attribute e m apos) args [] pos) X.env) Q X.xe s := by
  refine PySem.W.methodCall_KW (pl := pl) (thn (he pins s σ H _ I h) fun u s1 ⟨x, H1, I1, rx, a, C, dx, fs, g, ex, ea, c, k, l, q⟩ => ?_) ht
  subst ex
  obtain rfl : u = Value.ref a := rx
  exact getmeth_ok I1 ea c k l (q s1 I1)
end

/-! ### isinstance -/
section
variable {X : Cx} {pins : List (Addr × Obj)} {σ : St} {H : Hp} {s : Shared} {A : Around} {E : Value → Shared → Prop} {Q : Value → Shared → Prop} {c : Value} {b : Bool}
/-- the type of a value, as the fragment's deciders take it; for an instance its class -/
inductive TyOf (K : PySem.W.Frag) (H : Hp) : V → Value → Prop where
  | non : TyOf K H .non (.type "NoneType")
  | bl (x : Bool) : TyOf K H (.bl x) (.type "bool")
  | int (i : Int) : TyOf K H (.int i) (.type "int")
  | str (x : Str) : TyOf K H (.str x) (.type "str")
  | flt (x : UInt64) : TyOf K H (.flt x) (.type "float")
  | lst {a : Addr} {xs : List V} (e : H a = some (.lst xs)) : TyOf K H (.ref a) (.type "list")
  | frz {a : Addr} {o : Obj} {xs : List V} (e : H a = some (.frz o (.lst xs))) : TyOf K H (.ref a) (.type "list")
  | tup {a : Addr} {xs : List V} (e : H a = some (.tup xs)) : TyOf K H (.ref a) (.type "tuple")
  | dK {a : Addr} {kvs : List (Key × V)} (e : H a = some (.dK kvs)) : TyOf K H (.ref a) (.type "dict")
  | dT {a : Addr} {kvs : List (List Key × V)} (e : H a = some (.dT kvs)) : TyOf K H (.ref a) (.type "dict")
  | ins {a C dx : Addr} {fs : List (Str × V)} (e : H a = some (.ins C dx fs)) (cl : Cls K C) (ha : PySem.W.findIn K (.ref C) "__class__" = some (some (.builtin "object.__class__")))
      (hn : PySem.W.specialIn K (.builtin "object.__class__") "__get__" = some (some (.builtin "getset_descriptor.__get__"))) (htk : PySem.W.takesIn K (.builtin "object.__class__") = some true)
      (hm : PySem.W.mroIn K C (.type "object") = some true) : TyOf K H (.ref a) (.ref C)
/-- isinstance(x, c) for one class c, a built-in or an own one: kitOne's answer -/
theorem isinst_ok {x : V} {u t : Value} (I : Inv X pins σ H s) (rx : RelV x u) (ty : TyOf X.K H x t) (e : PySem.W.kitOne X.K t c = some b) (h : ∀ tk, Q (.bool b) { s with toks := tk }) :
    wpAny (model X.prog X.w) A (call (.builtin "isinstance") [u, c]) Q E s := by
  cases ty with
  | non => cases (show u = Value.none from rx); exact PySem.W.kia_one PySem.W.kitx_none I.kIn True.intro e (fun z => nomatch z) h
  | bl y => cases (show u = Value.bool y from rx); exact PySem.W.kia_one PySem.W.kitx_bool I.kIn True.intro e (fun z => nomatch z) h
  | int i => obtain ⟨t, q⟩ := (show ∃ t, u = Value.int i t from rx); cases q; exact PySem.W.kia_one PySem.W.kitx_int I.kIn True.intro e (fun z => nomatch z) h
  | str y => obtain ⟨t, q⟩ := (show ∃ t, u = Value.str y t from rx); cases q; exact PySem.W.kia_one PySem.W.kitx_str I.kIn True.intro e (fun z => nomatch z) h
  | flt y => obtain ⟨t, q⟩ := (show ∃ t, u = Value.float y t from rx); cases q; exact PySem.W.kia_one PySem.W.kitx_float I.kIn True.intro e (fun z => nomatch z) h
  | @lst a xs ea =>
    cases (show u = Value.ref a from rx)
    obtain ⟨_, _, n, _, h1⟩ := (show ObjOk X.prog X.w H s.heap a (.lst xs) from I.hok a _ ea)
    exact PySem.W.kia_one PySem.W.kitx_list I.kIn ⟨_, h1, rfl⟩ e (fun z => nomatch z) h
  | @frz a ob xs ea =>
    cases (show u = Value.ref a from rx)
    obtain ⟨_, _, _, n, _, h1⟩ := (show ObjOk X.prog X.w H s.heap a (.frz ob (.lst xs)) from I.hok a _ ea)
    exact PySem.W.kia_one PySem.W.kitx_list I.kIn ⟨_, h1, rfl⟩ e (fun z => nomatch z) h
  | @tup a xs ea =>
    cases (show u = Value.ref a from rx)
    obtain ⟨_, _, _, p⟩ := (show ObjOk X.prog X.w H s.heap a (.tup xs) from I.hok a _ ea)
    obtain ⟨o, h1, h2, _⟩ := p
    exact PySem.W.kia_one PySem.W.kitx_tuple I.kIn ⟨o, h1, h2⟩ e (fun z => nomatch z) h
  | @dK a kvs ea =>
    cases (show u = Value.ref a from rx)
    obtain ⟨_, _, vs, _, p⟩ := (show ObjOk X.prog X.w H s.heap a (.dK kvs) from I.hok a _ ea)
    obtain ⟨o, es, ep, h1, h2, _⟩ := p
    exact PySem.W.kia_one PySem.W.kitx_dict I.kIn ⟨o, h1, h2.1⟩ e (fun z => nomatch z) h
  | @dT a kvs ea =>
    cases (show u = Value.ref a from rx)
    obtain ⟨_, _, xs, _, o, es, ep, h1, h2, _⟩ := (show ObjOk X.prog X.w H s.heap a (.dT kvs) from I.hok a _ ea)
    exact PySem.W.kia_one PySem.W.kitx_dict I.kIn ⟨o, h1, h2.1⟩ e (fun z => nomatch z) h
  | @ins a C dx fs ea cl ha hn htk hm =>
    cases (show u = Value.ref a from rx)
    obtain ⟨mA, O, _⟩ := ins_get I.hok ea
    obtain ⟨od, J, _⟩ := O.look
    exact PySem.W.kia_one (PySem.W.kitx_own (cl.get _) cl.hd ha hn htk hm) I.kIn J e (fun z => nomatch z) h
end
end L2

namespace L2
open PySem PySem.Spec PyProof.Rows

/-! ### room -/
structure Room (k : Nat) (A : Around) : Prop where
  hd : A.handled = none
  dp : A.depth + 3 * k + 5 < recursionLimit
  un : A.units + 16 * k + 200 < cLine
theorem Room.mono {j k : Nat} {A : Around} (r : Room k A) (h : j ≤ k) : Room j A := ⟨r.hd, by have := r.dp; omega, by have := r.un; omega⟩
theorem Room.deeper {k : Nat} {A : Around} (r : Room (k + 1) A) (env : Env) : Room k (A.deeper env) :=
  ⟨r.hd, by have := r.dp; show A.depth + 1 + 3 * k + 5 < _; omega, by have := r.un; show A.units + 3 + 16 * k + 200 < _; omega⟩
theorem Room.in1 {k : Nat} {A : Around} (r : Room (k + 1) A) : Room k A.in1 :=
  ⟨r.hd, by have := r.dp; show A.depth + 3 * k + 5 < _; omega, by have := r.un; show A.units + 1 + 16 * k + 200 < _; omega⟩
theorem make_depth {A : Around} {C : Addr} {us : List Value} {kw : List (Str × Value)} : (A.under (.builtin "type.__call__" ⟨.ref C :: us, kw⟩)).depth = A.depth + 1 := by
  first | rfl | simp [Around.under, Code.weight, Code.isCreation, Code.isGuard, Code.isCaller, Code.frames, Code.isFrame, guardIds]
theorem make_units {A : Around} {C : Addr} {us : List Value} {kw : List (Str × Value)} : (A.under (.builtin "type.__call__" ⟨.ref C :: us, kw⟩)).units = A.units + 1 := by
  first | rfl | simp [Around.under, Code.cUnits, Code.frames, Code.isFrame]
theorem Room.make {k : Nat} {A : Around} (r : Room (k + 1) A) (C : Addr) (us : List Value) (kw : List (Str × Value)) : Room k (A.under (.builtin "type.__call__" ⟨.ref C :: us, kw⟩)) :=
  ⟨r.hd, by have := r.dp; rw [make_depth]; omega, by have := r.un; rw [make_units]; omega⟩
theorem Room.depth {k : Nat} {A : Around} (r : Room k A) : A.depth < recursionLimit := by have := r.dp; omega
theorem Room.units {k : Nat} {A : Around} (r : Room k A) : A.units + 64 < cLine := by have := r.un; omega
theorem Room.units0 {k : Nat} {A : Around} (r : Room k A) : A.units < cLine := by have := r.un; omega

/-! ### argument lists and displays -/
def tNil : TA := fun _ H Q => Q [] H
def tCons (ta : TE) (tr : TA) : TA := fun σ H Q => ta σ H fun x H1 => tr σ H1 fun xs H2 => Q (x :: xs) H2
section
variable {X : Cx} {e : Expr} {es : List Expr} {te : TE} {t : TA} {pos : Pos}
theorem pa_nil : PA X [] tNil := fun _ _ _ _ H Q I h => Calls.spliced_nil ⟨[], H, I, .nil, h⟩
theorem pa_cons (ha : PE X e te) (hr : PA X es t) (hs : starEach (e :: es) X.env = (false, eval e X.env) :: starEach es X.env := by rfl) : PA X (e :: es) (tCons te t) := by
  intro pos pins s σ H Q I h
  rw [hs]
  show wpAny _ _ (spliced ((false, eval e X.env) :: backTo pos (starEach es X.env))) _ _ s
  refine Calls.spliced_cons (thn (ha pins s σ H _ I h) fun u s1 ⟨x, H1, I1, r1, q1⟩ => ?_)
  exact thn (hr pos pins s1 σ H1 _ I1 q1) fun us s2 ⟨xs, H2, I2, r2, q2⟩ => ⟨x :: xs, H2, I2, .cons r1 r2, q2⟩

/-- a tuple, a list of written items -/
def tTup (t : TA) : TE := fun σ H Q => t σ H fun xs H1 => xs.length ≤ sizeLine ∧ ∀ p, H1 p = none → Q (.ref p) (upd H1 p (.tup xs))
def tLst (t : TA) : TE := fun σ H Q => t σ H fun xs H1 => xs.length ≤ sizeLine ∧ ∀ p, H1 p = none → Q (.ref p) (upd H1 p (.lst xs))
theorem pe_tup {x1} (h : PA X es t) : PE X (.Tuple es x1 pos) (tTup t) := by
  intro pins s σ H Q I hq
  refine wpAny_Tuple_spliced (thn (h pos pins s σ H _ I hq) fun us s1 ⟨xs, H1, I1, r, z, q⟩ => ⟨by rw [← r.length]; exact z, ?_⟩)
  have hf : H1 s1.heap.objs.size = none := I1.hok.fresh (Nat.le_refl _)
  refine ⟨.ref s1.heap.objs.size, upd H1 s1.heap.objs.size (.tup xs), I1.laid (t' := s1.toks) (fun b u e => Heap.get?_push_of_some _ e) (Nat.le_refl _) ?_, rfl, q _ hf⟩
  exact ⟨z, us, r, ⟨_, Heap.get?_push_size _ rfl, rfl, _, rfl⟩⟩
theorem pe_lst (h : PA X es t) : PE X (.List es pos) (tLst t) := by
  intro pins s σ H Q I hq
  refine wpAny_List_spliced (thn (h pos pins s σ H _ I hq) fun us s1 ⟨xs, H1, I1, r, z, q⟩ => ⟨by rw [← r.length]; exact z, ?_⟩)
  have hf : H1 s1.heap.objs.size = none := I1.hok.fresh (Nat.le_refl _)
  refine ⟨.ref s1.heap.objs.size, upd H1 s1.heap.objs.size (.lst xs), I1.laid (t' := s1.toks) (fun b u e => Heap.get?_push_of_some _ e) (Nat.le_refl _) ?_, rfl, q _ hf⟩
  exact ⟨z, us, 0, r, Heap.get?_push_size _ rfl⟩
end

/-! ### what a def promises -/
/-- a def's promise: the bound arguments in the parameters' order, the heap, the wanted end, the wanted exception -/
abbrev Sp := List V → Hp → VK → XK → Prop
/-- how an exception lies behind a call (file 08 gives it): the callers' frames, abstract heap and state ahead of the call, the wish, the exception, the state -/
abbrev CXT := List Env → Hp → Shared → XK → Value → Shared → Prop

/-- the state at a call -/
structure Env0 (P : Program) (w : World) (K : PySem.W.Frag) (mg : Str → Option Value) (base : Heap) (A : Around) (outer : List Env) (s : Shared) (H : Hp) : Prop where
  frames : A.frames = some outer
  mod : Mod K mg base
  bs : ∀ b o, base.get? b = some o → s.heap.get? b = some o ∧ H b = none
  bsz : base.objs.size ≤ s.heap.objs.size
  funs : s.heap.FunFrames base outer
  frf : ∀ b ∈ frs outer, H b = none
  hok : HOk P w H s.heap
  bare : AllBare s.gens
/-- a call's end -/
def CE (outer : List Env) (P : Program) (w : World) (H : Hp) (s : Shared) (Q : VK) (u : Value) (s' : Shared) : Prop :=
  ∃ v H', s'.os = s.os ∧ AllBare s'.gens ∧ Un (frs outer) [] H H' s.heap s'.heap ∧ HOk P w H' s'.heap ∧ RelV v u ∧ Q v H'
def CR (CX : CXT) (outer : List Env) (P : Program) (w : World) (H : Hp) (s : Shared) (Q : VK) (E : XK) (r : Result) (s' : Shared) : Prop :=
  match r with
  | .ok (.ret u) => CE outer P w H s Q u s'
  | .ok _ => False
  | .error e => CX outer H s E e s'
structure FnOk (P : Program) (w : World) (K : PySem.W.Frag) (mg : Str → Option Value) (base : Heap) (CX : CXT) (k : Nat) (f : Addr) (fd : FuncData) (ps : List Str) (sp : Sp) : Prop where
  len : ∀ vs H Q E, sp vs H Q E → vs.length = ps.length
  run : ∀ (A : Around) (outer : List Env) (s : Shared) (H : Hp) (args : Args) (us : List Value) (vs : List V) (Q : VK) (E : XK), Room k A → Env0 P w K mg base A outer s H → BindsTo s fd args (ps.zip us) → Vals vs us → sp vs H Q E →
    codeAny (model P w) A (.call (.ref f) args) (CR CX outer P w H s Q E) s
theorem FnOk.mono {P : Program} {w : World} {K : PySem.W.Frag} {mg : Str → Option Value} {base : Heap} {CX : CXT} {j k : Nat} {f : Addr} {fd : FuncData} {ps : List Str} {sp : Sp} (F : FnOk P w K mg base CX j f fd ps sp) (h : j ≤ k) :
    FnOk P w K mg base CX k f fd ps sp := ⟨F.len, fun A outer s H args us vs Q E hr => F.run A outer s H args us vs Q E (hr.mono h)⟩
/-- a weaker promise -/
theorem FnOk.imp {P : Program} {w : World} {K : PySem.W.Frag} {mg : Str → Option Value} {base : Heap} {CX : CXT} {k : Nat} {f : Addr} {fd : FuncData} {ps : List Str} {sp sp' : Sp} (F : FnOk P w K mg base CX k f fd ps sp)
    (h : ∀ vs H Q E, sp' vs H Q E → sp vs H Q E) : FnOk P w K mg base CX k f fd ps sp' :=
  ⟨fun vs H Q E q => F.len vs H Q E (h _ _ _ _ q), fun A outer s H args us vs Q E hr he hb hv hs => F.run A outer s H args us vs Q E hr he hb hv (h _ _ _ _ hs)⟩

theorem Env0.make {P : Program} {w : World} {K : PySem.W.Frag} {mg : Str → Option Value} {base : Heap} {A : Around} {outer : List Env} {s : Shared} {H : Hp} (e : Env0 P w K mg base A outer s H) (C : Addr) (us : List Value) (kw : List (Str × Value)) :
    Env0 P w K mg base (A.under (.builtin "type.__call__" ⟨.ref C :: us, kw⟩)) outer s H := ⟨by first | exact e.frames | (simpa [Around.under, Code.envs, Code.isFrame, pushEnvs] using e.frames), e.mod, e.bs, e.bsz, e.funs, e.frf, e.hok, e.bare⟩
theorem Env0.in1 {P : Program} {w : World} {K : PySem.W.Frag} {mg : Str → Option Value} {base : Heap} {A : Around} {outer : List Env} {s : Shared} {H : Hp} (e : Env0 P w K mg base A outer s H) :
    Env0 P w K mg base A.in1 outer s H := ⟨e.frames, e.mod, e.bs, e.bsz, e.funs, e.frf, e.hok, e.bare⟩

section
variable {X : Cx} {pins : List (Addr × Obj)} {σ : St} {H : Hp} {s s' : Shared}
/-- from a body: what a callee wants -/
theorem Inv.env0 (I : Inv X pins σ H s) : Env0 X.prog X.w X.K X.mg X.base X.A X.stack s H :=
  ⟨I.ok.frames, I.ok.mod, I.bs, Nat.le_trans I.ok.bsz I.sz, I.stack, I.stkFree, I.hok, I.bare⟩
/-- behind a call -/
theorem Inv.after {Q : VK} {u : Value} (I : Inv X pins σ H s) (h : CE X.stack X.prog X.w H s Q u s') : EP X pins σ Q u s' := by
  obtain ⟨v, H', os, bare, un, hok, r, q⟩ := h
  obtain ⟨hh, g, d, t, os'⟩ := s'
  obtain rfl : os' = s.os := os
  exact ⟨v, H', I.call (h' := hh) (g' := g) (d' := d) (t' := t) (ch := []) un hok bare (fun b z => absurd z (by simp)), r, q⟩
end

/-! ### calls -/
/-- f(..): the written arguments, then the defaults dvs; E: what is wanted of an exception -/
def tCall (sp : Sp) (dvs : List V) (E : XK) (t : TA) : TE := fun σ H Q => t σ H fun vs H1 => sp (vs ++ dvs) H1 Q E
/-- o.m(..) of an instance of the class at C -/
def tMeth (C : Addr) (m : Str) (sp : Sp) (dvs : List V) (E : XK) (ta : TE) (t : TA) : TE := fun σ H Q => ta σ H fun x H1 => ∃ a dx fs, x = .ref a ∧ H1 a = some (.ins C dx fs) ∧ fs.lookup m = none ∧
  t σ H1 fun vs H2 => sp (x :: (vs ++ dvs)) H2 Q E
/-- C(..): a new instance and its dict, then __init__ -/
def tMake (C : Addr) (sp : Sp) (dvs : List V) (E : XK) (t : TA) : TE := fun σ H Q => t σ H fun vs H1 => ∀ x dx, H1 x = none → H1 dx = none → dx ≠ x →
  sp (.ref x :: (vs ++ dvs)) (upd (upd H1 dx (.own x)) x (.ins C dx [])) (fun v H2 => v = .non ∧ Q (.ref x) H2) E

/-- how the parameters are bound: us the positional arguments, kw the keywords' values by name, ds the defaults that fill up -/
def Binds (K : PySem.W.Frag) (fd : FuncData) (ps : List Str) (ds : List Value) : Prop :=
  ∀ (s : Shared) (us : List Value), K.In s.heap → (us ++ ds).length = ps.length → BindsTo s fd ⟨us, []⟩ (ps.zip (us ++ ds))
/-- every parameter is given -/
theorem Binds.all {K : PySem.W.Frag} {fd : FuncData} {ps : List Str} (h : ∀ us : List Value, us.length = ps.length → bindArgs fd ⟨us, []⟩ = pure (ps.zip us)) : Binds K fd ps [] := fun s us _ hl => by
  rw [List.append_nil] at hl ⊢
  exact .of_eq (h us hl)

/-- an exception of a callee reaches what this body wants of exceptions -/
def Passes (CX : CXT) (X : Cx) (E : XK) : Prop := ∀ (pins : List (Addr × Obj)) (σ : St) (H : Hp) (s : Shared) (e : Value) (s' : Shared), Inv X pins σ H s → CX X.stack H s E e s' → X.xe e s'

section
variable {X : Cx} {CX : CXT} {k : Nat} {f C : Addr} {fd : FuncData} {ps : List Str} {sp : Sp} {dvs : List V} {ds : List Value} {E : XK} {x m : Str} {p pos apos : Pos} {e o : Expr} {es : List Expr} {ta : TE} {t : TA}

/-- the callee runs -/
theorem run_fn {pins : List (Addr × Obj)} {σ : St} {H : Hp} {s : Shared} {Q : VK} {us : List Value} {vs : List V} (F : FnOk X.prog X.w X.K X.mg X.base CX k f fd ps sp) (hr : Room k X.A) (hb : Binds X.K fd ps ds) (hd : Vals dvs ds) (hx : Passes CX X E)
    (I : Inv X pins σ H s) (r : Vals vs us) (h : sp (vs ++ dvs) H Q E) : wpAny (model X.prog X.w) X.A (call (.ref f) us) (EP X pins σ Q) X.xe s := by
  have r2 : Vals (vs ++ dvs) (us ++ ds) := r.append hd
  have hl : (us ++ ds).length = ps.length := by rw [← r2.length]; exact F.len _ _ _ _ h
  refine wpAny_call (codeAny_mono (F.run X.A X.stack s H ⟨us, []⟩ (us ++ ds) (vs ++ dvs) Q E hr I.env0 (hb s us I.kIn hl) r2 h) fun r s' hq => ?_)
  cases r with
  | error e => exact hx pins σ H s e s' I hq
  | ok fl =>
    cases fl with
    | ret u => exact I.after hq
    | next => exact False.elim hq
    | brk => exact False.elim hq
    | cont => exact False.elim hq

theorem pe_call (F : FnOk X.prog X.w X.K X.mg X.base CX k f fd ps sp) (hr : Room k X.A) (hg : Gl X x) (hm : X.mg x = some (.ref f)) (hk : PySem.W.keepIn X.K (.ref f) = true) (hb : Binds X.K fd ps ds) (hd : Vals dvs ds) (hx : Passes CX X E)
    (ha : PA X (e :: es) t) (hdb : (x == ("__debug__" : Str)) = false := by decide) (he : starEach (e :: es) X.env = (false, eval e X.env) :: starEach es X.env := by rfl) (hpl : (backTo pos (starEach es X.env)).any (·.1) = false := by rfl) :
    PE X (.Call (.Name x p) (e :: es) [] pos) (tCall sp dvs E t) := by
  intro pins s σ H Q I h
  refine wpAny_Call_Name_kw (ld_glob I hg hm ?_ hdb)
  refine PySem.W.callWith_K (h₀ := X.base) I.ok.mod.kin hk (thn (ha pos pins s σ H _ I h) fun us s1 ⟨vs, H1, I1, r, q⟩ => ⟨I1.kIn, ?_⟩) he hpl
  exact run_fn F hr hb hd hx I1 r q
theorem pe_call0 (F : FnOk X.prog X.w X.K X.mg X.base CX k f fd ps sp) (hr : Room k X.A) (hg : Gl X x) (hm : X.mg x = some (.ref f)) (hk : PySem.W.keepIn X.K (.ref f) = true) (hb : Binds X.K fd ps ds) (hd : Vals dvs ds) (hx : Passes CX X E)
    (hdb : (x == ("__debug__" : Str)) = false := by decide) : PE X (.Call (.Name x p) [] [] pos) (tCall sp dvs E tNil) := by
  intro pins s σ H Q I h
  refine wpAny_Call_Name_kw (ld_glob I hg hm ?_ hdb)
  exact PySem.W.callWith_K0 I.kIn hk (run_fn (us := []) F hr hb hd hx I .nil h)

/-- o.m(e, ..) -/
theorem pe_meth {pl : Sem Bool} (he : PE X o ta) (c : Cls X.K C) (hm : Meth X.K C m f) (F : FnOk X.prog X.w X.K X.mg X.base CX k f fd ps sp) (hr : Room k X.A) (hb : Binds X.K fd ps ds) (hd : Vals dvs ds) (hx : Passes CX X E) (ha : PA X (e :: es) t)
    (hst : starEach (e :: es) X.env = (false, eval e X.env) :: starEach es X.env := by rfl) (hpl : (backTo pos (starEach es X.env)).any (·.1) = false := by rfl)
    (ht : eval (.Call (.Attribute o m apos) (e :: es) [] pos) X.env = (do
      let ov ← eval o X.env
      standAt apos.atName
      let (f, first) ← holding [ov] (getMethod ov m pl)
      callWith pos f first (backTo pos (starEach (e :: es) X.env)) (backToKw pos (keywordEach [] X.env))) := by rfl) :
    PE X (.Call (.Attribute o m apos) (e :: es) [] pos) (tMeth C m sp dvs E ta t) := by
  intro pins s σ H Q I h
  refine PySem.W.methodCall_KW (pl := pl) (thn (he pins s σ H _ I h) fun u s1 ⟨x, H1, I1, rx, a, dx, fs, ex, ea, l, q⟩ => ?_) ht
  subst ex
  obtain rfl : u = Value.ref a := rx
  refine getmeth_ok I1 ea c hm l ?_
  refine PySem.W.callWith_K (first := [.ref a]) (h₀ := X.base) I.ok.mod.kin hm.kp (thn (ha pos pins s1 σ H1 _ I1 q) fun us s2 ⟨vs, H2, I2, r, q2⟩ => ⟨I2.kIn, ?_⟩) hst hpl
  exact run_fn (us := .ref a :: us) (vs := .ref a :: vs) F hr hb hd hx I2 (.cons rfl r) q2
/-- o.m() -/
theorem pe_meth0 {pl : Sem Bool} (he : PE X o ta) (c : Cls X.K C) (hm : Meth X.K C m f) (F : FnOk X.prog X.w X.K X.mg X.base CX k f fd ps sp) (hr : Room k X.A) (hb : Binds X.K fd ps ds) (hd : Vals dvs ds) (hx : Passes CX X E)
    (ht : eval (.Call (.Attribute o m apos) [] [] pos) X.env = (do
      let ov ← eval o X.env
      standAt apos.atName
      let (f, first) ← holding [ov] (getMethod ov m pl)
      callWith pos f first (backTo pos (starEach [] X.env)) (backToKw pos (keywordEach [] X.env))) := by rfl) :
    PE X (.Call (.Attribute o m apos) [] [] pos) (tMeth C m sp dvs E ta tNil) := by
  intro pins s σ H Q I h
  refine PySem.W.methodCall_KW (pl := pl) (thn (he pins s σ H _ I h) fun u s1 ⟨x, H1, I1, rx, a, dx, fs, ex, ea, l, q⟩ => ?_) ht
  subst ex
  obtain rfl : u = Value.ref a := rx
  refine getmeth_ok I1 ea c hm l ?_
  exact PySem.W.callWith_K0 (first := [.ref a]) I1.kIn hm.kp (run_fn (us := [.ref a]) (vs := [.ref a]) F hr hb hd hx I1 (.cons rfl .nil) q)

/-- what a class must have to be made -/
structure Mk (K : PySem.W.Frag) (C f : Addr) : Prop where
  makes : PySem.W.makesIn K C = true
  init : PySem.W.findIn K (.ref C) "__init__" = some (some (.ref f))
  fn : PySem.W.isFn K (.ref f) = true
  kp : PySem.W.keepIn K (.ref C) = true

theorem run_make {pins : List (Addr × Obj)} {σ : St} {H : Hp} {s : Shared} {Q : VK} {us : List Value} {vs : List V} (M : Mk X.K C f) (F : FnOk X.prog X.w X.K X.mg X.base CX k f fd ps sp) (hr : Room (k + 1) X.A) (hb : Binds X.K fd ps ds) (hd : Vals dvs ds)
    (hx : Passes CX X E) (I : Inv X pins σ H s) (r : Vals vs us)
    (h : ∀ x dx, H x = none → H dx = none → dx ≠ x → sp (.ref x :: (vs ++ dvs)) (upd (upd H dx (.own x)) x (.ins C dx [])) (fun v H2 => v = .non ∧ Q (.ref x) H2) E) :
    wpAny (model X.prog X.w) X.A (call (.ref C) us) (EP X pins σ Q) X.xe s := by
  have hq := h (s.heap.objs.size + 1) s.heap.objs.size (I.hok.fresh (Nat.le_succ _)) (I.hok.fresh (Nat.le_refl _)) (Nat.ne_of_lt (Nat.lt_succ_self _))
  have I2 := Inv.made (C := C) I
  have r2 : Vals (V.ref (s.heap.objs.size + 1) :: (vs ++ dvs)) (Value.ref (s.heap.objs.size + 1) :: (us ++ ds)) := .cons rfl (r.append hd)
  have hl : (Value.ref (s.heap.objs.size + 1) :: us ++ ds).length = ps.length := by
    have e := r2.length
    rw [F.len _ _ _ _ hq] at e
    exact e.symm
  refine wpAny_call (make_map (f := f) I.kIn M.makes M.init (beq_iff_eq.mp M.fn) (codeAny_mono (F.run _ X.stack _ _ ⟨Value.ref (s.heap.objs.size + 1) :: us, []⟩ (Value.ref (s.heap.objs.size + 1) :: (us ++ ds)) _ _ E (hr.make C us [])
    (I2.env0.make C us []) (hb _ (Value.ref (s.heap.objs.size + 1) :: us) I2.kIn hl) r2 hq) fun r s' hq' => ?_))
  cases r with
  | error e => exact hx pins σ _ _ e s' I2 hq'
  | ok fl =>
    cases fl with
    | ret u =>
      obtain ⟨v, H', I3, rv, ev, q3⟩ := I2.after hq'
      subst ev
      exact ⟨rv, ⟨V.ref (s.heap.objs.size + 1), H', I3, rfl, q3⟩⟩
    | next => exact False.elim hq'
    | brk => exact False.elim hq'
    | cont => exact False.elim hq'
theorem pe_make (M : Mk X.K C f) (F : FnOk X.prog X.w X.K X.mg X.base CX k f fd ps sp) (hr : Room (k + 1) X.A) (hg : Gl X x) (hm : X.mg x = some (.ref C)) (hb : Binds X.K fd ps ds) (hd : Vals dvs ds) (hx : Passes CX X E)
    (ha : PA X (e :: es) t) (hdb : (x == ("__debug__" : Str)) = false := by decide) (he : starEach (e :: es) X.env = (false, eval e X.env) :: starEach es X.env := by rfl) (hpl : (backTo pos (starEach es X.env)).any (·.1) = false := by rfl) :
    PE X (.Call (.Name x p) (e :: es) [] pos) (tMake C sp dvs E t) := by
  intro pins s σ H Q I h
  refine wpAny_Call_Name_kw (ld_glob I hg hm ?_ hdb)
  refine PySem.W.callWith_K (h₀ := X.base) I.ok.mod.kin M.kp (thn (ha pos pins s σ H _ I h) fun us s1 ⟨vs, H1, I1, r, q⟩ => ⟨I1.kIn, ?_⟩) he hpl
  exact run_make M F hr hb hd hx I1 r q
theorem pe_make0 (M : Mk X.K C f) (F : FnOk X.prog X.w X.K X.mg X.base CX k f fd ps sp) (hr : Room (k + 1) X.A) (hg : Gl X x) (hm : X.mg x = some (.ref C)) (hb : Binds X.K fd ps ds) (hd : Vals dvs ds) (hx : Passes CX X E)
    (hdb : (x == ("__debug__" : Str)) = false := by decide) : PE X (.Call (.Name x p) [] [] pos) (tMake C sp dvs E tNil) := by
  intro pins s σ H Q I h
  refine wpAny_Call_Name_kw (ld_glob I hg hm ?_ hdb)
  exact PySem.W.callWith_K0 I.kIn M.kp (run_make (us := []) M F hr hb hd hx I .nil h)
end

/-! ### keywords -/
/-- the values of the keywords, from the left -/
def PK (X : Cx) (kws : List Keyword) (t : TA) : Prop :=
  ∀ (pos : Pos) (pins : List (Addr × Obj)) (s : Shared) (σ : St) (H : Hp) (Q : List V → Hp → Prop), Inv X pins σ H s → t σ H Q → wpAny (model X.prog X.w) X.A (evalAll ((backToKw pos (keywordEach kws X.env)).map (·.2))) (AP X pins σ Q) X.xe s
section
variable {X : Cx} {CX : CXT} {k : Nat} {f C : Addr} {fd : FuncData} {ps ks : List Str} {sp : Sp} {E : XK} {x m : Str} {p pos apos kpos : Pos} {e o : Expr} {es : List Expr} {kws : List Keyword} {te ta : TE} {t tk : TA} {nm : Option Str}
theorem pk_nil : PK X [] tNil := fun _ _ _ _ H Q I h => wpAny_evalAll_nil ⟨[], H, I, .nil, h⟩
theorem pk_cons (ha : PE X e te) (hr : PK X kws t) : PK X (⟨nm, e, kpos⟩ :: kws) (tCons te t) := by
  intro pos pins s σ H Q I h
  show wpAny _ _ (evalAll ((do let v ← eval e X.env; standAt pos; pure v) :: (backToKw pos (keywordEach kws X.env)).map (·.2))) _ _ s
  refine wpAny_evalAll_cons (wpAny_bind (thn (ha pins s σ H _ I h) fun u s1 ⟨x, H1, I1, r1, q1⟩ => wpAny_bind (wpAny_standAt (wpAny_pure ?_))))
  exact thn (hr pos pins s1 σ H1 _ I1 q1) fun us s2 ⟨xs, H2, I2, r2, q2⟩ => ⟨x :: xs, H2, I2, .cons r1 r2, q2⟩

/-- how a call with keywords binds: g puts the positional values us and the keywords' values ws (names ks) in the parameters' order, defaults among them -/
structure KBinds (K : PySem.W.Frag) (fd : FuncData) (ps ks : List Str) (g : List Value → List Value → List Value) (gV : List V → List V → List V) : Prop where
  to : ∀ (s : Shared) (us ws : List Value), K.In s.heap → (g us ws).length = ps.length → BindsTo s fd ⟨us, ks.zip ws⟩ (ps.zip (g us ws))
  rel : ∀ {vs : List V} {us : List Value} {zs : List V} {ws : List Value}, Vals vs us → Vals zs ws → Vals (gV vs zs) (g us ws)
def tCallK (sp : Sp) (gV : List V → List V → List V) (E : XK) (t tk : TA) : TE := fun σ H Q => t σ H fun vs H1 => tk σ H1 fun zs H2 => sp (gV vs zs) H2 Q E
variable {g : List Value → List Value → List Value} {gV : List V → List V → List V}
theorem run_fnk {pins : List (Addr × Obj)} {σ : St} {H : Hp} {s : Shared} {Q : VK} {us ws : List Value} {vs zs : List V} (F : FnOk X.prog X.w X.K X.mg X.base CX k f fd ps sp) (hr : Room k X.A) (hb : KBinds X.K fd ps ks g gV) (hx : Passes CX X E)
    (I : Inv X pins σ H s) (r : Vals vs us) (rz : Vals zs ws) (h : sp (gV vs zs) H Q E) : wpAny (model X.prog X.w) X.A (call (.ref f) us (ks.zip ws)) (EP X pins σ Q) X.xe s := by
  have r2 := hb.rel r rz
  have hl : (g us ws).length = ps.length := by rw [← r2.length]; exact F.len _ _ _ _ h
  refine wpAny_call (codeAny_mono (F.run X.A X.stack s H ⟨us, ks.zip ws⟩ (g us ws) (gV vs zs) Q E hr I.env0 (hb.to s us ws I.kIn hl) r2 h) fun r s' hq => ?_)
  cases r with
  | error e => exact hx pins σ H s e s' I hq
  | ok fl =>
    cases fl with
    | ret u => exact I.after hq
    | next => exact False.elim hq
    | brk => exact False.elim hq
    | cont => exact False.elim hq
/-- f(e, .., k = v, ..) -/
theorem pe_callK (F : FnOk X.prog X.w X.K X.mg X.base CX k f fd ps sp) (hr : Room k X.A) (hg : Gl X x) (hm : X.mg x = some (.ref f)) (hk : PySem.W.keepIn X.K (.ref f) = true) (hb : KBinds X.K fd ps ks g gV) (hx : Passes CX X E)
    (ha : PA X (e :: es) t) (hkw : PK X kws tk) (hall : (backToKw pos (keywordEach kws X.env)).all (·.1.isSome) = true := by rfl) (hks : (backToKw pos (keywordEach kws X.env)).filterMap (·.1) = ks := by rfl)
    (hdb : (x == ("__debug__" : Str)) = false := by decide) (he : starEach (e :: es) X.env = (false, eval e X.env) :: starEach es X.env := by rfl)
    (hpl : ((backTo pos (starEach (e :: es) X.env)).any (·.1) || (backToKw pos (keywordEach kws X.env)).any (·.1.isNone)) = false := by rfl) :
    PE X (.Call (.Name x p) (e :: es) kws pos) (tCallK sp gV E t tk) := by
  intro pins s σ H Q I h
  refine wpAny_Call_Name_kw (ld_glob I hg hm ?_ hdb)
  refine PySem.W.callWith_KW (h₀ := X.base) I.ok.mod.kin hk hall (thn (ha pos pins s σ H _ I h) fun us s1 ⟨vs, H1, I1, r, q⟩ => ?_) hpl he
  refine thn (hkw pos pins s1 σ H1 _ I1 q) fun ws s2 ⟨zs, H2, I2, rz, q2⟩ => ⟨I2.kIn, ?_⟩
  rw [hks]
  exact run_fnk F hr hb hx I2 r rz q2
end

/-! ### a def's body keeps its promise -/
/-- names: the parameters first -/
structure FnScope (N P : List Str) (sc : Scope) : Prop where
  kind : sc.kind = .function
  co : sc.isCoroutine = false
  gen : sc.isGenerator = false
  nd : N.Nodup
  pre : N.take P.length = P
  par : ∀ x ∈ P, sc.names.lookup x = some .local ∨ sc.names.lookup x = some .cell
  nofree : ∀ y ∈ sc.names, y.2 ≠ .free

theorem bindL_out {kindOf : Str → Option NameKind} {x : Str} : ∀ {binds : List (Str × Value)} {m : Str → Option Value}, (∀ v, (x, v) ∉ binds) → bindL kindOf binds m x = m x
  | [], _, _ => rfl
  | (n, v) :: r, m, h => by
    unfold bindL
    rw [bindL_out fun w hw => h w (List.mem_cons_of_mem _ hw)]
    split
    · have : x ≠ n := by rintro rfl; exact h v List.mem_cons_self
      simp [this]
    · rfl
theorem bindC_out {kindOf : Str → Option NameKind} {x : Str} : ∀ {binds : List (Str × Value)} {m : Str → Option Value}, (∀ v, (x, v) ∉ binds) → bindC kindOf binds m x = m x
  | [], _, _ => rfl
  | (n, v) :: r, m, h => by
    unfold bindC
    rw [bindC_out fun w hw => h w (List.mem_cons_of_mem _ hw)]
    split
    · rfl
    · have : x ≠ n := by rintro rfl; exact h v List.mem_cons_self
      simp [this]
theorem bindL_get {kindOf : Str → Option NameKind} {x : Str} {v : Value} : ∀ {P : List Str} {vs : List Value} {i : Nat} {m : Str → Option Value}, P.Nodup → P[i]? = some x → vs[i]? = some v → kindOf x = some .local →
    bindL kindOf (P.zip vs) m x = some v
  | [], _, _, _, _, h, _, _ => by simp at h
  | _ :: _, [], _, _, _, _, h, _ => by simp at h
  | p :: P, w :: vs, 0, m, nd, h1, h2, hk => by
    simp at h1 h2; subst h1; subst h2
    show bindL kindOf ((p, w) :: P.zip vs) m p = _
    unfold bindL
    rw [bindL_out fun v hv => (List.nodup_cons.mp nd).1 (List.of_mem_zip hv).1, if_pos hk]
    simp
  | p :: P, w :: vs, i + 1, m, nd, h1, h2, hk => by
    show bindL kindOf ((p, w) :: P.zip vs) m x = _
    unfold bindL
    exact bindL_get (i := i) (List.nodup_cons.mp nd).2 (by simpa using h1) (by simpa using h2) hk
theorem bindC_get {kindOf : Str → Option NameKind} {x : Str} {v : Value} : ∀ {P : List Str} {vs : List Value} {i : Nat} {m : Str → Option Value}, P.Nodup → P[i]? = some x → vs[i]? = some v → kindOf x ≠ some .local →
    bindC kindOf (P.zip vs) m x = some v
  | [], _, _, _, _, h, _, _ => by simp at h
  | _ :: _, [], _, _, _, _, h, _ => by simp at h
  | p :: P, w :: vs, 0, m, nd, h1, h2, hk => by
    simp at h1 h2; subst h1; subst h2
    show bindC kindOf ((p, w) :: P.zip vs) m p = _
    unfold bindC
    rw [bindC_out fun v hv => (List.nodup_cons.mp nd).1 (List.of_mem_zip hv).1, if_neg hk]
    simp
  | p :: P, w :: vs, i + 1, m, nd, h1, h2, hk => by
    show bindC kindOf ((p, w) :: P.zip vs) m x = _
    unfold bindC
    exact bindC_get (i := i) (List.nodup_cons.mp nd).2 (by simpa using h1) (by simpa using h2) hk

/-- the names' values at the entry -/
def start (N : List Str) (vs : List V) : St := vs.map some ++ List.replicate (N.length - vs.length) none

/-- the context of a def's body, at its entry; an exception leaves the frame, then lies as CX says -/
def cxOf (CX : CXT) (P : Program) (w : World) (K : PySem.W.Frag) (mg : Str → Option Value) (base : Heap) (N : List Str) (qual : Str) (scope : Scope) (f : Addr) (cd : Value) (A : Around) (outer : List Env) (s : Shared) (H : Hp) (E : XK) : Cx where
  prog := P
  w := w
  K := K
  mg := mg
  base := base
  A := A.deeper (envOfC qual scope s.heap.objs.size f cd)
  N := N
  s₀ := s
  H₀ := H
  env := envOfC qual scope s.heap.objs.size f cd
  outer := outer
  stack := envOfC qual scope s.heap.objs.size f cd :: outer
  ex := []
  calm := true
  fn := fun _ => true
  pn := []
  xe := fun e s' => wpAny (model P w) (A.deeper (envOfC qual scope s.heap.objs.size f cd)) (leaving (envOfC qual scope s.heap.objs.size f cd) e) (fun _ s'' => CX outer H s E e s'') (fun e' s'' => CX outer H s E e' s'') s'

theorem cell_has {sc : Scope} {n : Nat} {x : Str} (h : sc.names.lookup x = some .cell) : ∃ c, (cellsFrom n sc.names []).lookup x = some c := by
  have q := PySem.W.cellsFrom_some sc.names n [] (.inl h)
  exact Option.isSome_iff_exists.mp q

theorem inv_start {CX : CXT} {P : Program} {w : World} {K : PySem.W.Frag} {mg : Str → Option Value} {base : Heap} {N ps : List Str} {qual : Str} {scope : Scope} {f : Addr} {cd : Value} {A : Around} {outer : List Env} {s s1 : Shared} {H : Hp} {E : XK} {us : List Value} {vs : List V}
    (S : FnScope N ps scope) (hd : A.handled = none) (e0 : Env0 P w K mg base A outer s H) (hl : vs.length = ps.length) (r : Vals vs us)
    (x : InCallC s s.heap.objs.size (bindL (envOfC qual scope s.heap.objs.size f cd).kindOf (ps.zip us) fun _ => none) (cellsFrom (s.heap.objs.size + 1) scope.names []) (bindC (envOfC qual scope s.heap.objs.size f cd).kindOf (ps.zip us) fun _ => none) s1) :
    Inv (cxOf CX P w K mg base N qual scope f cd A outer s H E) [] (start N vs) H s1 := by
  have hpl : ps.length ≤ N.length := by have := congrArg List.length S.pre; rw [List.length_take] at this; omega
  obtain ⟨h1, tk, rfl, hk⟩ := x.done
  have noA : ∀ b : Addr, b ∉ (cxOf CX P w K mg base N qual scope f cd A outer s H E).ex := fun b z => absurd (show b ∈ ([] : List Addr) from z) (by simp)
  refine ⟨⟨e0.mod, S.kind, rfl, rfl, Nat.le_refl _, fun y z c h1 h2 => ?_, fun y hy => ?_, fun y c _ h => ?_, fun _ => hd, Around.frames_deeper e0.frames, .inr ⟨rfl, rfl⟩, fun b z => absurd z (noA b), e0.bs, e0.bsz, fun b _ _ => noA b, fun b z => absurd z (noA b), e0.funs, e0.frf⟩,
    rfl, e0.bare, Un.kept hk, ⟨_, x.toInCall.ns, fun i y v h1 h2 h3 => ?_⟩, fun y c h => ⟨_, x.cell y c h⟩, e0.hok.fresh (Nat.le_refl _), fun y c h => ?_, fun p hp => absurd (show p ∈ ([] : List (Addr × Obj)) from hp) (by simp), e0.hok.kept hk, ?_⟩
  · exact name_of_addr x.apart (PySem.mem_of_lookup h1) (PySem.mem_of_lookup h2)
  · have hy : scope.names.lookup y = some .cell ∨ scope.names.lookup y = some .free := hy
    rcases hy with hy | hy
    · exact cell_has hy
    · exact absurd rfl (S.nofree _ (PySem.mem_of_lookup hy))
  · exact Nat.le_of_lt (x.above y c (PySem.mem_of_lookup h))
  · have hi : i < vs.length := by
      unfold start at h2
      by_cases hi : i < vs.length
      · exact hi
      · rw [List.getElem?_append_right (by simpa using hi)] at h2
        rw [List.getElem?_replicate] at h2
        split at h2 <;> cases h2
    have ha : vs[i]? = some v := by
      unfold start at h2
      rw [List.getElem?_append_left (by simpa using hi), List.getElem?_map] at h2
      cases e : vs[i]? with
      | none => rw [e] at h2; cases h2
      | some a => rw [e] at h2; cases h2; rfl
    obtain ⟨u, hu, rv⟩ := r.get ha
    have hp : ps[i]? = some y := by
      rw [← S.pre, List.getElem?_take_of_lt (by omega)]; exact h1
    have ndP : ps.Nodup := by rw [← S.pre]; exact S.nd.sublist (List.take_sublist _ _)
    refine ⟨u, rv, ?_⟩
    rcases S.par y (List.mem_of_getElem? hp) with k | k
    · exact .inl ⟨k, bindL_get ndP hp hu k⟩
    · obtain ⟨c, e⟩ := cell_has (n := s.heap.objs.size + 1) k
      refine .inr ⟨.inl k, c, e, ?_⟩
      have q := x.cell y c e
      rw [bindC_get ndP hp hu (by show scope.names.lookup y ≠ _; rw [k]; decide)] at q
      exact q
  · exact e0.hok.fresh (Nat.le_of_lt (x.above y c (PySem.mem_of_lookup h)))
  · unfold start
    show _ = N.length
    rw [List.length_append, List.length_map, List.length_replicate]
    omega

/-- THE RULE: a def (or a method) of the text, by its body. The body's reading t is chosen for each entry; it is run at the parameters' values -/
theorem fn_of {CX : CXT} {P : Program} {w : World} {K : PySem.W.Frag} {mg : Str → Option Value} {base : Heap} {k : Nat} {f : Addr} {name qual : Str} {params : Arguments} {body : List Stmt} {scope : Scope} {dV kV doc pm cdv ct oc : Value} {an od : Option Addr}
    {osl : Array (Option Value)} {N ps : List Str} {sp : Sp} (lk : K.lookup f = some ⟨oc, od, .func (PySem.W.fnOf name qual params body scope dV kV doc pm an cdv ct), osl⟩) (hcd : PySem.W.codeIn K cdv qual = true) (S : FnScope N ps scope)
    (len : ∀ vs H Q E, sp vs H Q E → vs.length = ps.length)
    (hbody : ∀ (A : Around) (outer : List Env) (s : Shared) (H : Hp) (vs : List V) (Q : VK) (E : XK), Room k (A.deeper (envOfC qual scope s.heap.objs.size f cdv)) → sp vs H Q E →
      ∃ t, PSs (cxOf CX P w K mg base N qual scope f cdv A outer s H E) body t ∧ t { nx := fun _ H' => Q .non H', rt := Q } (start N vs) H) :
    FnOk P w K mg base CX (k + 1) f (PySem.W.fnOf name qual params body scope dV kV doc pm an cdv ct) ps sp := by
  refine ⟨len, fun A outer s H args us vs Q E hr e0 hb r hsp => ?_⟩
  have hl := len _ _ _ _ hsp
  have KX : K.In s.heap := e0.mod.kin.keeps fun b o e => (e0.bs b o e).1
  have lim : s.heap.NoLimit := e0.mod.nolimit.keeps fun b o e => (e0.bs b o e).1
  have hkind : ∀ y ∈ ps.zip us, scope.names.lookup y.1 = some .local ∨ (scope.names.lookup y.1 = some .cell ∧ ((cellsFrom (s.heap.objs.size + 1) scope.names []).lookup y.1).isSome = true) := fun ⟨n, v⟩ hy => by
    rcases S.par n (List.of_mem_zip hy).1 with q | q
    · exact .inl q
    · exact .inr ⟨q, PySem.W.cellsFrom_some _ _ _ (.inl q)⟩
  refine codeAny_call_function hr.depth (KX _ _ lk) rfl S.co S.gen rfl (PySem.W.codeRec_of KX hcd) (hb _ _ _ _ ?_)
  refine wpAny_newFunctionEnv_cells S.kind hkind fun env he s1 x => ?_
  subst he
  refine ⟨lim.keeps x.toInCall.keep, codeAny_func ?_⟩
  obtain ⟨t, ht, hq⟩ := hbody A outer s H vs Q E (hr.deeper _) hsp
  have I : Inv (cxOf CX P w K mg base N qual scope f cdv A outer s H E) [] (start N vs) H s1 := inv_start S hr.hd e0 hl r x
  refine wpAny_mono (ht [] s1 (start N vs) H _ I hq) (fun fl s' hs => ?_) fun e s' hs => hs
  have fin : ∀ {σ' : St} {H' : Hp} {v : V} {u : Value}, Inv (cxOf CX P w K mg base N qual scope f cdv A outer s H E) [] σ' H' s' → RelV v u → Q v H' → CE outer P w H s Q u s' :=
    fun {σ' H' v u} J rv q => ⟨v, H', J.os, J.bare, J.base, J.hok, rv, q⟩
  cases fl with
  | ret u =>
    obtain ⟨v, σ', H', J, rv, q⟩ := hs
    exact fin J rv q
  | next =>
    obtain ⟨σ', H', J, q⟩ := hs
    exact fin (v := V.non) (u := Value.none) J rfl q
  | brk =>
    obtain ⟨_, _, _, q⟩ := hs
    exact False.elim q
  | cont =>
    obtain ⟨_, _, _, q⟩ := hs
    exact False.elim q
end L2

namespace L2
open PySem PySem.Spec PyProof.Rows
section
variable {X : Cx} {x : Str} {p pos : Pos} {e : Expr} {es : List Expr} {t : TA} {id T : String} {r : List V → Hp → VK → Prop}

def tCB (r : List V → Hp → VK → Prop) (t : TA) : TE := fun σ H Q => t σ H fun vs H1 => r vs H1 Q
/-- f(e, ..), f a built-in function -/
theorem pe_callB (hc : CallR X (.builtin id) r) (hg : Gl X x) (hm : X.mg x = none) (hv : bootBuiltins x = some (.builtin id)) (ha : PA X (e :: es) t) (hn : x ≠ "__name__" := by decide) (hdb : (x == ("__debug__" : Str)) = false := by decide)
    (he : starEach (e :: es) X.env = (false, eval e X.env) :: starEach es X.env := by rfl) (hpl : (backTo pos (starEach es X.env)).any (·.1) = false := by rfl) : PE X (.Call (.Name x p) (e :: es) [] pos) (tCB r t) := by
  intro pins s σ H Q I h
  refine wpAny_Call_Name_kw (ld_blt I hg hm hv ?_ hn hdb)
  exact PyProof.Rows.callWith_builtin1 (thn (ha pos pins s σ H _ I h) fun us s1 ⟨vs, H1, I1, r1, q1⟩ => hc pins s1 σ H1 vs us Q I1 r1 q1) he hpl
/-- T(e, ..), T a built-in type -/
theorem pe_callTy (hc : CallR X (.type T) r) (hg : Gl X x) (hm : X.mg x = none) (hv : bootBuiltins x = some (.type T)) (ha : PA X (e :: es) t) (hn : x ≠ "__name__" := by decide) (hdb : (x == ("__debug__" : Str)) = false := by decide)
    (he : starEach (e :: es) X.env = (false, eval e X.env) :: starEach es X.env := by rfl) (hpl : (backTo pos (starEach es X.env)).any (·.1) = false := by rfl) : PE X (.Call (.Name x p) (e :: es) [] pos) (tCB r t) := by
  intro pins s σ H Q I h
  refine wpAny_Call_Name_kw (ld_blt I hg hm hv ?_ hn hdb)
  exact PyProof.Rows.callWith_type1 (thn (ha pos pins s σ H _ I h) fun us s1 ⟨vs, H1, I1, r1, q1⟩ => hc pins s1 σ H1 vs us Q I1 r1 q1) he hpl
/-- T() -/
theorem pe_callTy0 (hc : CallR X (.type T) r) (hg : Gl X x) (hm : X.mg x = none) (hv : bootBuiltins x = some (.type T)) (hn : x ≠ "__name__" := by decide) (hdb : (x == ("__debug__" : Str)) = false := by decide) :
    PE X (.Call (.Name x p) [] [] pos) (tCB r tNil) := by
  intro pins s σ H Q I h
  refine wpAny_Call_Name_kw (ld_blt I hg hm hv ?_ hn hdb)
  exact PyProof.Rows.callWith_type0 (hc pins s σ H [] [] Q I .nil h)
end
end L2

namespace HT
open PySem PyProof.Rows

/-- t < u of tuples of ints -/
def lexLt : List Int → List Int → Bool
  | [], [] => false
  | [], _ :: _ => true
  | _ :: _, [] => false
  | x :: xs, y :: ys => if x = y then lexLt xs ys else decide (x < y)
theorem lexLt_cons (x y : Int) (xs ys : List Int) : lexLt (x :: xs) (y :: ys) = if x = y then lexLt xs ys else decide (x < y) := rfl
theorem lexLt_nil_nil : lexLt [] [] = false := rfl
theorem lexLt_nil_cons (y : Int) (ys : List Int) : lexLt [] (y :: ys) = true := rfl
theorem lexLt_cons_nil (x : Int) (xs : List Int) : lexLt (x :: xs) [] = false := rfl

theorem eqAt_int (A : Around) (s : Shared) (a : Int) (t : Tok) (c : Int) (u : Tok) : ∃ e, SeqAt.EqAt A s (.int a t) (.int c u) e ∧ (e = true ↔ a = c) :=
  ⟨(a == c), SeqAt.EqAt.int_int a t c u, by simp⟩
theorem rcLt_int (A : Around) (s : Shared) (a : Int) (t : Tok) (c : Int) (u : Tok) (prog : Program) (w : World) (E : Value → Shared → Prop) (Q : Value → Shared → Prop) (h : Q (.bool (decide (a < c))) s) :
    wpAny (model prog w) A (richCompare .Lt (.int a t) (.int c u)) Q E s :=
  (PyProof.Rows.lt_int h : wpAny (model prog w) A (compareOp .Lt (.int a t) (.int c u)) Q E s)

section
open PySem.SeqAt
open PySem.AutoSeq1 (wpAny_loadPart')
open PySem.MeetsSeq PySem.MeetsSeq2 PySem.MeetsSeq3

theorem tuple_lt_ints (l b : Addr) (items items2 : Array Value) (n n2 : Nat) (dd dd2 : Option Addr) (sl sl2 : Array (Option Value)) (ns ms : List Int) (hi : IntsAre items.toList ns) (hj : IntsAre items2.toList ms) :
    Meets (Builtin.«tuple.__lt__» ⟨[.ref l, .ref b], []⟩)
      (fun _ R s => s.heap.get? l = some { cls := .type "tuple", dict := dd, data := .seq items n, slots := sl } ∧ s.heap.get? b = some { cls := .type "tuple", dict := dd2, data := .seq items2 n2, slots := sl2 } ∧
        R (.ok (.ret (.bool (lexLt ns ms)))) s) :=
  .of_wp fun prog w A R s h => by
    obtain ⟨hp, g, d, tk, os⟩ := s; obtain ⟨hl, hb, h⟩ := h
    have f2 := AutoSeq1.sub_tuple_tuple
    have z1 : items.size = ns.length := by rw [← hi.length]; simp
    have z2 : items2.size = ms.length := by rw [← hj.length]; simp
    wp_walk using wpAny_loadPart' hl, wpAny_loadPart' hb, wpAny_forIn_list _ (fun rest b s' => b.1 = none ∧ s' = ⟨hp, g, d, tk, os⟩ ∧ ∃ (vs ws : List Value) (ns' ms' : List Int), rest = vs.zip ws ∧
      IntsAre vs ns' ∧ IntsAre ws ms' ∧ ns'.length + items2.size = ms'.length + items.size ∧ R (.ok (.ret (.bool (lexLt ns' ms')))) ⟨hp, g, d, tk, os⟩) _
    case turn =>
      rintro ⟨y, x⟩ rest b s' ⟨hb', rfl, vs, ws, ns', ms', hz, hvi, hwi, hlen, hR⟩
      cases hvi with
      | nil => rw [List.zip_nil_left] at hz; cases hz
      | cons a t hvi' =>
        cases hwi with
        | nil => rw [List.zip_nil_right] at hz; cases hz
        | cons c u hwi' =>
          rw [List.zip_cons_cons] at hz
          injection hz with hyx hrest
          injection hyx with hy hx
          subst hy hx
          rw [lexLt_cons] at hR
          simp only [List.length_cons] at hlen
          obtain ⟨e, he, hiff⟩ := eqAt_int A.in1 ⟨hp, g, d, tk, os⟩ a t c u
          refine wpAny_bind (he prog w _ _ ?_)
          cases e with
          | true =>
            rw [if_pos (hiff.mp rfl)] at hR
            wp_walk
            exact ⟨rfl, rfl, _, _, _, _, hrest, hvi', hwi', by omega, hR⟩
          | false =>
            rw [if_neg (fun q => absurd (hiff.mpr q) Bool.false_ne_true)] at hR
            have hri := rcLt_int A.in1 ⟨hp, g, d, tk, os⟩ a t c u prog w
            wp_walk using hri
            exact ⟨_, rfl, by simpa using hR⟩
    case fin =>
      rintro ⟨b1, b2⟩ s' ⟨hb', rfl, vs, ws, ns', ms', hz, hvi, hwi, hlen, hR⟩
      simp only at hb'
      subst hb'
      have hv : lexLt ns' ms' = decide (items.size < items2.size) := by
        cases hvi with
        | nil =>
          cases hwi with
          | nil =>
            simp only [List.length_nil] at hlen
            rw [lexLt_nil_nil]
            exact (decide_eq_false (by omega)).symm
          | cons c u hw =>
            simp only [List.length_nil, List.length_cons] at hlen
            rw [lexLt_nil_cons]
            exact (decide_eq_true (by omega)).symm
        | cons a t hv =>
          cases hwi with
          | nil =>
            simp only [List.length_nil, List.length_cons] at hlen
            rw [lexLt_cons_nil]
            exact (decide_eq_false (by omega)).symm
          | cons c u hw =>
            rw [List.zip_cons_cons] at hz
            cases hz
      rw [hv] at hR
      wp_walk
      exact ⟨_, rfl, by simpa [Builtin.Tuple.tupleCompareSizes] using hR⟩
    case h =>
      exact ⟨rfl, rfl, items.toList, items2.toList, ns, ms, rfl, hi, hj, by omega, h⟩
end

section
variable {prog : Program} {w : World} {A : Around} {E : Value → Shared → Prop} {s : Shared}

theorem lt_tupInts {l b : Addr} {items items2 : Array Value} {ns ms : List Int} {Q : Value → Shared → Prop} (hl : IsTup s.heap l items) (hb : IsTup s.heap b items2) (hi : IntsAre items.toList ns) (hj : IntsAre items2.toList ms)
    (hu : A.units < cLine) (h : Q (.bool (lexLt ns ms)) s) : wpAny (model prog w) A (compareOp .Lt (.ref l) (.ref b)) Q E s := by
  obtain ⟨⟨cls, dd, data, sl⟩, ho, hc, n, hd⟩ := id hl
  obtain ⟨⟨cls2, dd2, data2, sl2⟩, ho2, hc2, n2, hd2⟩ := id hb
  simp only at hc hd hc2 hd2
  subst hc hd hc2 hd2
  exact richCompare_meets_room (op := .Lt) ⟨_, ho, rfl⟩ ⟨_, ho2, rfl⟩ PySem.F.slot_tuple_lt PySem.F.entry_tuple_lt (PySem.F.args_tuple_lt_2 _ _) (tuple_lt_ints l b items items2 n n2 dd dd2 sl sl2 ns ms hi hj)
    ⟨ho, ho2, show Value.bool (lexLt ns ms) ≠ Value.notImplemented ∧ Q (.bool (lexLt ns ms)) s from ⟨(fun x => nomatch x), h⟩⟩ hu

/-- t + u, t not empty -/
theorem cat_tup {t b : Addr} {vs ws : List Value} {Q : Value → Shared → Prop} (ht : IsTup s.heap t vs.toArray) (hb : IsTup s.heap b ws.toArray) (hv : vs ≠ [])
    (h1 : ws = [] → Q (.ref t) s) (h2 : ws ≠ [] → Q (.ref s.heap.objs.size) { s with heap := s.heap.push { cls := .type "tuple", data := .seq (vs ++ ws).toArray } })
    (hsz : vs.length + ws.length ≤ sizeLine) : wpAny (model prog w) A (binaryOp .Add (.ref t) (.ref b)) Q E s := by
  obtain ⟨⟨cls, dd, data, sl⟩, ho, hc, n, hd⟩ := id ht
  obtain ⟨⟨cls2, dd2, data2, sl2⟩, ho2, hc2, n2, hd2⟩ := id hb
  simp only at hc hd hc2 hd2
  subst hc hd hc2 hd2
  have e : vs.toArray ++ ws.toArray = (vs ++ ws).toArray := by simp
  by_cases hw : ws = []
  · exact concat_meets ⟨_, ho, rfl⟩ ⟨_, ho2, rfl⟩ noFill_tuple_add seq_tuple_add PySem.F.slot_tuple_add PySem.F.entry_tuple_add (PySem.F.args_tuple_add_2 _ _)
      (tuple_addW1 t b vs.toArray ws.toArray n n2 dd dd2 sl sl2 (by simpa using hv) (by simp [hw])) ⟨ho, ho2, h1 hw⟩
  · refine concat_meets ⟨_, ho, rfl⟩ ⟨_, ho2, rfl⟩ noFill_tuple_add seq_tuple_add PySem.F.slot_tuple_add PySem.F.entry_tuple_add (PySem.F.args_tuple_add_2 _ _)
      (tuple_addW2 t b vs.toArray ws.toArray n n2 dd dd2 sl sl2 (by simpa using hv) (by simpa using hw) (by rw [List.size_toArray, List.size_toArray]; exact hsz)) ⟨ho, ho2, ?_⟩
    rw [e]
    exact h2 hw

/-! ### t[a:b], not the whole -/
/-- a slice's bound as a place among n (d where it is left out) -/
def sIx (n d : Nat) : Option Int → Nat
  | none => d
  | some v => if v < 0 then (v + (n : Int)).toNat else min v.toNat n
theorem sIx_none (n d : Nat) : sIx n d none = d := rfl
theorem sIx_nat (n d k : Nat) : sIx n d (some (k : Int)) = min k n := by
  show (if (k : Int) < 0 then ((k : Int) + (n : Int)).toNat else min (k : Int).toNat n) = min k n
  rw [if_neg (by omega), Int.toNat_natCast]
theorem sIx_le (n d : Nat) (hd : d ≤ n) (o : Option Int) : sIx n d o ≤ n := by
  cases o with
  | none => exact hd
  | some v =>
    show (if v < 0 then (v + (n : Int)).toNat else min v.toNat n) ≤ n
    by_cases hv : v < 0
    · rw [if_pos hv]; omega
    · rw [if_neg hv]; exact Nat.min_le_right _ _
theorem clip_eq (v : Int) (n d : Nat) : (if v < 0 then max (v + (n : Int)) 0 else min v (n : Int)) = ((sIx n d (some v) : Nat) : Int) := by
  show (if v < 0 then max (v + (n : Int)) 0 else min v (n : Int)) = (((if v < 0 then (v + (n : Int)).toNat else min v.toNat n) : Nat) : Int)
  by_cases hv : v < 0
  · simp only [if_pos hv]; omega
  · simp only [if_neg hv]; omega
theorem adjust_gen (lo hi : Option Int) (n : Nat) : Builtin.Slice.sliceAdjust lo hi 1 (n : Int) = (((sIx n 0 lo : Nat) : Int), ((sIx n n hi : Nat) : Int)) := by
  have h1 : ¬ ((1 : Int) < 0) := by omega
  unfold Builtin.Slice.sliceAdjust
  simp only [h1, if_false]
  refine Prod.ext ?_ ?_
  · cases lo with
    | none => rfl
    | some v => exact clip_eq v n 0
  · cases hi with
    | none => rfl
    | some v => exact clip_eq v n n
theorem places_gen (i j : Nat) : Builtin.Slice.slicePlaces (i : Int) (j : Int) 1 = j - i := by
  unfold Builtin.Slice.slicePlaces
  have h1 : (1 : Int) > 0 := by omega
  simp only [h1, if_true, Int.ediv_one]
  split <;> omega
theorem slicePart_ {v : Value} {o : Option Int} {Q : Option Int → Shared → Prop} (p : IsPart v o) (h : Q o s) : wpAny (model prog w) A (Builtin.Slice.slicePartIndex v) Q E s := by
  cases p with
  | none => exact slicePart_none h
  | int i t => exact slicePart_int h
theorem sliceApplied_gen {sl : Addr} {vl vu : Value} {lo hi : Option Int} {n : Nat} {Q : Int × Int × Nat → Shared → Prop} (hs : s.heap.IsSliceOf sl vl vu .none) (pl : IsPart vl lo) (pu : IsPart vu hi)
    (h : Q (((sIx n 0 lo : Nat) : Int), 1, sIx n n hi - sIx n 0 lo) s) : wpAny (model prog w) A (Builtin.Slice.sliceApplied (.ref sl) (pure (n : Int))) Q E s := by
  obtain ⟨os, hos, hcs, hds⟩ := id hs
  unfold Builtin.Slice.sliceApplied Builtin.Slice.sliceFields
  refine wpAny_bind (wpAny_bind (wpAny_field hos hds (x := vl) rfl (wpAny_bind (wpAny_field hos hds (x := vu) rfl (wpAny_bind (wpAny_field hos hds (x := .none) rfl (wpAny_pure ?_)))))))
  refine wpAny_bind (slicePart_none ?_)
  show wpAny _ _ (if ((1 : Int) == 0) = true then _ else _) _ _ s
  rw [if_neg (by decide)]
  refine wpAny_bind (slicePart_ pl (wpAny_bind (slicePart_ pu (wpAny_bind (wpAny_pure ?_)))))
  show wpAny _ _ (match Builtin.Slice.sliceAdjust lo hi 1 (n : Int) with | (lo, hi) => pure (lo, (1 : Int), Builtin.Slice.slicePlaces lo hi 1)) _ _ s
  rw [adjust_gen lo hi n]
  show wpAny _ _ (pure (((sIx n 0 lo : Nat) : Int), (1 : Int), Builtin.Slice.slicePlaces ((sIx n 0 lo : Nat) : Int) ((sIx n n hi : Nat) : Int) 1)) _ _ s
  rw [places_gen]
  exact wpAny_pure h
theorem pick_gen (xs : Array Value) (i k : Nat) : ((List.range k).filterMap fun (m : Nat) => xs[((i : Int) + (m : Int) * 1).toNat]?).toArray = ((xs.toList.drop i).take k).toArray := by
  have e : (fun (m : Nat) => xs[((i : Int) + (m : Int) * 1).toNat]?) = fun m => xs[i + m]? := by
    funext m
    have : ((i : Int) + (m : Int) * 1).toNat = i + m := by omega
    rw [this]
  rw [e]
  have := pick_run xs i k
  rw [List.filterMap_map] at this
  have e2 : ((fun x => xs[x]?) ∘ fun x => i + x) = fun m => xs[i + m]? := rfl
  rw [e2] at this
  rw [this]

theorem getItem_tuple_cut {t sl : Addr} {items : Array Value} {vl vu : Value} {lo hi : Option Int} {Q : Value → Shared → Prop} (ht : IsTup s.heap t items) (hs : s.heap.IsSliceOf sl vl vu .none) (pl : IsPart vl lo) (pu : IsPart vu hi)
    (hw : ¬ (sIx items.size 0 lo = 0 ∧ sIx items.size items.size hi = items.size))
    (h : Q (.ref s.heap.objs.size) { s with heap := s.heap.push { cls := .type "tuple", data := .seq ((items.toList.drop (sIx items.size 0 lo)).take (sIx items.size items.size hi - sIx items.size 0 lo)).toArray } })
    (hsz : items.size ≤ sizeLine) : wpAny (model prog w) A (getItem (.ref t) (.ref sl)) Q E s := by
  have htake : sizeOk (.seq ((items.toList.drop (sIx items.size 0 lo)).take (sIx items.size items.size hi - sIx items.size 0 lo)).toArray) := by
    show ((items.toList.drop (sIx items.size 0 lo)).take (sIx items.size items.size hi - sIx items.size 0 lo)).toArray.size ≤ sizeLine
    rw [List.size_toArray, List.length_take, List.length_drop, Array.length_toList]
    omega
  have hj : sIx items.size items.size hi ≤ items.size := sIx_le _ _ (Nat.le_refl _) hi
  obtain ⟨os, hos, hcs, hds⟩ := id hs
  have hTs : s.TypeIs (.ref sl) "slice" := ⟨os, hos, hcs⟩
  unfold getItem
  try with_reducible refine wpAny_holding ?_
  first | refine wpAny_bind (wpAny_pure ?_) | skip
  refine wpAny_bind (wpAny_sequenceKey ht.typeIs (by decide) ?_)
  refine wpAny_bind (wpAny_callSpecial?_slot (name := Str.ofString "__getitem__") ht.typeIs PyProof.Rows.slot_tuple_getitem
    (wpAny_call_entry PyProof.Rows.slot_tuple_getitem ht.typeIs entry_tuple_getitem ?_ (args_tuple_getitem _ _)))
  show wpAny _ _ (Builtin.Tuple.tupleItemsOf (.ref t) >>= _) _ _ s
  refine wpAny_bind (tupleItemsOf_ ht ?_)
  refine wpAny_bind (wpAny_typeOf hTs ?_)
  rw [if_pos (by decide)]
  refine wpAny_bind (sliceApplied_gen hs pl pu ?_)
  have hno : ¬ ((((sIx items.size 0 lo : Nat) : Int) == 0 && (1 : Int) == 1 && (sIx items.size items.size hi - sIx items.size 0 lo) == items.size) = true) := by
    intro q
    rw [Bool.and_eq_true, Bool.and_eq_true] at q
    have q1 : ((sIx items.size 0 lo : Nat) : Int) = 0 := eq_of_beq q.1.1
    have q2 : sIx items.size items.size hi - sIx items.size 0 lo = items.size := eq_of_beq q.2
    exact hw ⟨by omega, by omega⟩
  show wpAny _ _ (if (((sIx items.size 0 lo : Nat) : Int) == 0 && (1 : Int) == 1 && (sIx items.size items.size hi - sIx items.size 0 lo) == items.size) = true then _ else _) _ _ s
  rw [if_neg hno, pick_gen]
  first
    | exact wpAny_bind (m := Builtin.Tuple.tupleExact _) (wpAny_newObj_type (wpAny_pure ⟨_, rfl, wpAny_pure h⟩) htake)
    | exact wpAny_bind (m := Builtin.Tuple.tupleExact _) (wpAny_newObj_type (wpAny_bind (wpAny_pure (wpAny_pure ⟨_, rfl, wpAny_pure h⟩))) htake)
    | exact wpAny_bind (wpAny_bind (m := Builtin.Tuple.tupleExact _) (wpAny_newObj_type (wpAny_pure (wpAny_pure ⟨_, rfl, wpAny_pure h⟩)) htake))
    | exact wpAny_bind (wpAny_bind (m := Builtin.Tuple.tupleExact _) (wpAny_newObj_type (wpAny_pure ⟨_, rfl, wpAny_pure h⟩) htake))
end
end HT

namespace L2
open PySem PySem.Spec PyProof.Rows

/-! ### the parts of a slice -/
abbrev TO := St → Hp → (Option Int → Hp → Prop) → Prop
/-- a slice's part (left out, or an int) -/
def PO (X : Cx) (e : Option Expr) (t : TO) : Prop :=
  ∀ (pins : List (Addr × Obj)) (s : Shared) (σ : St) (H : Hp) (Q : Option Int → Hp → Prop), Inv X pins σ H s → t σ H Q →
    wpAny (model X.prog X.w) X.A (evalPart e X.env) (fun u s' => ∃ o H', Inv X pins σ H' s' ∧ IsPart u o ∧ Q o H') X.xe s
def tNoPart : TO := fun _ H Q => Q none H
def tPart (t : TE) : TO := fun σ H Q => t σ H fun x H1 => ∃ i, x = .int i ∧ Q (some i) H1

theorem intsAre_of {ns : List Int} : ∀ {us : List Value}, Vals (ns.map V.int) us → IntsAre us ns := by
  induction ns with
  | nil => intro us r; rw [List.map_nil] at r; cases r; exact .nil
  | cons n ns ih =>
    intro us r
    rw [List.map_cons] at r
    cases r with
    | cons r1 r2 =>
      obtain ⟨t, e⟩ := r1
      subst e
      exact .cons n t (ih r2)

section
variable {X : Cx} {e : Expr} {te : TE} {lo hi : Option Expr} {tl th : TO} {pos p2 : Pos}

theorem po_none : PO X none tNoPart := by
  intro pins s σ H Q I h
  rw [evalPart_none]
  exact wpAny_pure ⟨none, H, I, .none, h⟩
theorem po_some (h : PE X e te) : PO X (some e) (tPart te) := by
  intro pins s σ H Q I hw
  rw [evalPart_some]
  refine thn (h pins s σ H _ I hw) fun u s1 ⟨x, H1, I1, r1, q1⟩ => ?_
  obtain ⟨i, rfl, q⟩ := q1
  obtain ⟨t, rfl⟩ := r1
  exact ⟨some i, H1, I1, .int i t, q⟩

/-- what a slice of a value is, by values: the slice object stands at sl -/
def SlR (X : Cx) (r : V → Option Int → Option Int → Hp → VK → Prop) : Prop :=
  ∀ (pins : List (Addr × Obj)) (s : Shared) (σ : St) (H : Hp) (x : V) (v vl vu : Value) (lo hi : Option Int) (sl : Addr) (Q : VK), Inv X pins σ H s → RelV x v → s.heap.IsSliceOf sl vl vu .none → IsPart vl lo → IsPart vu hi → r x lo hi H Q →
    ∃ T id, typeLookup (.type T) "__getitem__" = pure (some (.builtin id)) ∧ s.TypeIs v T ∧ wpAny (model X.prog X.w) X.A (getItem v (.ref sl)) (EP X pins σ Q) X.xe s
theorem SlR.or {r r' : V → Option Int → Option Int → Hp → VK → Prop} (h : SlR X r) (h' : SlR X r') : SlR X (fun x lo hi H Q => r x lo hi H Q ∨ r' x lo hi H Q) := by
  intro pins s σ H x v vl vu lo hi sl Q I rx hs pl pu q
  rcases q with q | q
  · exact h pins s σ H x v vl vu lo hi sl Q I rx hs pl pu q
  · exact h' pins s σ H x v vl vu lo hi sl Q I rx hs pl pu q
def tSl (r : V → Option Int → Option Int → Hp → VK → Prop) (te : TE) (tl th : TO) : TE := fun σ H Q => te σ H fun x H1 => tl σ H1 fun l H2 => th σ H2 fun u H3 => r x l u H3 Q
/-- a[lo:hi], any a -/
theorem pe_slice {r : V → Option Int → Option Int → Hp → VK → Prop} (hr : SlR X r) (he : PE X e te) (hl : PO X lo tl) (hu : PO X hi th) : PE X (.Subscript e (.Slice lo hi none p2) pos) (tSl r te tl th) := by
  intro pins s σ H Q I h
  refine Subscript_ (thn (he pins s σ H _ I h) fun v s1 ⟨x, H1, I1, r1, q1⟩ => ?_)
  refine wpAny_Slice (thn (hl pins s1 σ H1 _ I1 q1) fun vl s2 ⟨l, H2, I2, pl, q2⟩ => thn (hu pins s2 σ H2 _ I2 q2) fun vu s3 ⟨u, H3, I3, pu, q3⟩ => ?_)
  rw [evalPart_none]
  refine wpAny_pure ?_
  have I4 : Inv X pins σ H3 { s3 with heap := s3.heap.push { cls := .type "slice", data := .fields #[vl, vu, .none] } } := I3.kept (t' := s3.toks) fun b ob q => Heap.get?_push_of_some _ q
  obtain ⟨T, id, hT, ht, hg⟩ := hr pins { s3 with heap := s3.heap.push { cls := .type "slice", data := .fields #[vl, vu, .none] } } σ H3 x v vl vu l u s3.heap.objs.size Q I4 r1 (Heap.IsSliceOf.new ..) pl pu q3
  show wpAny (model X.prog X.w) X.A (subscriptTail e (.Slice lo hi none p2) v (.ref s3.heap.objs.size)) (EP X pins σ Q) X.xe { s3 with heap := s3.heap.push { cls := .type "slice", data := .fields #[vl, vu, .none] } }
  exact tail_any (ops := [.ref s3.heap.objs.size, v]) ht hT hg (by with_unfolding_all rfl)

/-- the items of xs[lo:hi] -/
def cutV (xs : List V) (lo hi : Option Int) : List V := (xs.drop (HT.sIx xs.length 0 lo)).take (HT.sIx xs.length xs.length hi - HT.sIx xs.length 0 lo)
theorem cutV_length (xs : List V) (lo hi : Option Int) : (cutV xs lo hi).length ≤ xs.length := by
  unfold cutV
  rw [List.length_take, List.length_drop]
  omega
/-- t[lo:hi], not the whole of it (the whole would be t itself) -/
def rSlT (K : PySem.W.Frag) : V → Option Int → Option Int → Hp → VK → Prop := fun x lo hi H Q => ∃ a xs, x = .ref a ∧ SqT K H a xs ∧
  ¬ (HT.sIx xs.length 0 lo = 0 ∧ HT.sIx xs.length xs.length hi = xs.length) ∧ ∀ p, H p = none → Q (.ref p) (upd H p (.tup (cutV xs lo hi)))
theorem sl_tup : SlR X (rSlT X.K) := by
  intro pins s σ H x v vl vu lo hi sl Q I rx hs pl pu h
  obtain ⟨a, xs, rfl, hx, hw, q⟩ := h
  cases rx
  obtain ⟨its, r, ht, hz⟩ := I.tuple hx
  have hlen : its.toArray.size = xs.length := by rw [List.size_toArray]; exact r.length.symm
  refine ⟨"tuple", _, PyProof.Rows.slot_tuple_getitem.lookup, ht.typeIs, ?_⟩
  refine HT.getItem_tuple_cut ht hs pl pu (by rw [hlen]; exact hw) ?_ (by rw [hlen]; exact hz)
  rw [hlen]
  refine ⟨.ref s.heap.objs.size, _, I.laid (t' := s.toks) (o := .tup (cutV xs lo hi)) (fun b ob q => Heap.get?_push_of_some _ q) (Nat.le_refl _) ?_, rfl, q _ (I.hok.fresh (Nat.le_refl _))⟩
  exact ⟨Nat.le_trans (cutV_length xs lo hi) hz, _, (r.drop (HT.sIx xs.length 0 lo)).take (HT.sIx xs.length xs.length hi - HT.sIx xs.length 0 lo), IsTup.new _ _⟩

/-! ### t < u, t + u -/
def rLtT (K : PySem.W.Frag) : R2 := fun x y H Q => ∃ a b ns ms, x = .ref a ∧ y = .ref b ∧ SqT K H a (ns.map V.int) ∧ SqT K H b (ms.map V.int) ∧ Q (.bl (HT.lexLt ns ms)) H
theorem op_ltT (hu : X.A.units < cLine) : OpR X (compareOp .Lt) (rLtT X.K) := by
  intro pins s σ H x y v u Q I rx ry h
  obtain ⟨a, b, ns, ms, rfl, rfl, ha, hb, q⟩ := h
  cases rx
  cases ry
  obtain ⟨its, r1, p1, _⟩ := I.tuple ha
  obtain ⟨its2, r2, p2, _⟩ := I.tuple hb
  have i1 : IntsAre its.toArray.toList ns := intsAre_of r1
  have i2 : IntsAre its2.toArray.toList ms := intsAre_of r2
  exact HT.lt_tupInts p1 p2 i1 i2 hu ⟨.bl (HT.lexLt ns ms), H, I, rfl, q⟩
/-- t + u, t not empty: u empty gives t itself -/
def rCatT (K : PySem.W.Frag) : R2 := fun x y H Q => ∃ a b xs ys, x = .ref a ∧ y = .ref b ∧ SqT K H a xs ∧ SqT K H b ys ∧ xs ≠ [] ∧ xs.length + ys.length ≤ sizeLine ∧
  (ys = [] → Q (.ref a) H) ∧ (ys ≠ [] → ∀ p, H p = none → Q (.ref p) (upd H p (.tup (xs ++ ys))))
theorem Vals.nil_iff {xs : List V} {us : List Value} (r : Vals xs us) : us = [] ↔ xs = [] := by
  cases r with
  | nil => simp
  | cons _ _ => simp
theorem op_catT : OpR X (binaryOp .Add) (rCatT X.K) := by
  intro pins s σ H x y v u Q I rx ry h
  obtain ⟨a, b, xs, ys, rfl, rfl, ha, hb, hx, hz, q1, q2⟩ := h
  cases rx
  cases ry
  obtain ⟨its, r1, p1, _⟩ := I.tuple ha
  obtain ⟨its2, r2, p2, _⟩ := I.tuple hb
  refine HT.cat_tup p1 p2 (fun z => hx (r1.nil_iff.mp z)) (fun z => ⟨.ref a, H, I, rfl, q1 (r2.nil_iff.mp z)⟩) (fun z => ?_) (by rw [← r1.length, ← r2.length]; exact hz)
  refine ⟨.ref s.heap.objs.size, _, I.laid (t' := s.toks) (o := .tup (xs ++ ys)) (fun b ob q => Heap.get?_push_of_some _ q) (Nat.le_refl _) ?_, rfl, q2 (fun w => z (r2.nil_iff.mpr w)) _ (I.hok.fresh (Nat.le_refl _))⟩
  exact ⟨by rw [List.length_append]; exact hz, _, r1.append r2, IsTup.new _ _⟩
/-- tuple(t) -/
theorem call_tupleT : CallR X (.type "tuple") (fun xs H Q => ∃ a ys, xs = [.ref a] ∧ SqT X.K H a ys ∧ Q (.ref a) H) := by
  intro pins s σ H xs us Q I r h
  obtain ⟨a, ys, rfl, ha, q⟩ := h
  obtain ⟨u, rfl, ru⟩ := vals1 r
  cases ru
  obtain ⟨its, _, p1, _⟩ := I.tuple ha
  exact call_tuple_same (items := its.toArray) p1 ⟨.ref a, H, I, rfl, q⟩
end
end L2

namespace L2
open PySem PySem.Spec PyProof.Rows

/-! ### places -/
/-- the place that an index of any sign means -/
def ixN (n : Nat) (i : Int) : Option Nat := if 0 ≤ i then (if i < n then some i.toNat else none) else if -(n : Int) ≤ i then some (i + n).toNat else none
def atI {α : Type} (xs : List α) (i : Int) : Option α := (ixN xs.length i).bind fun j => xs[j]?
theorem ixN_seq {n : Nat} {i : Int} {j : Nat} (h : ixN n i = some j) : seqIndex? i n = some j ∧ j < n ∧ -(n : Int) ≤ i ∧ i < n := by
  unfold ixN at h
  by_cases h0 : 0 ≤ i
  · rw [if_pos h0] at h
    by_cases h1 : i < n
    · rw [if_pos h1] at h
      have e : i.toNat = j := Option.some.inj h
      exact ⟨by rw [seqIndex_of h0 h1, e], by omega, by omega, h1⟩
    · rw [if_neg h1] at h; cases h
  · rw [if_neg h0] at h
    by_cases h1 : -(n : Int) ≤ i
    · rw [if_pos h1] at h
      have e : (i + n).toNat = j := Option.some.inj h
      exact ⟨by rw [seqIndex_neg (by omega) h1, e], by omega, h1, by omega⟩
    · rw [if_neg h1] at h; cases h
theorem atI_get {α : Type} {xs : List α} {i : Int} {v : α} (h : atI xs i = some v) : ∃ j, seqIndex? i xs.length = some j ∧ xs[j]? = some v ∧ j < xs.length ∧ -(xs.length : Int) ≤ i ∧ i < xs.length := by
  unfold atI at h
  cases e : ixN xs.length i with
  | none => rw [e] at h; cases h
  | some j =>
    rw [e] at h
    obtain ⟨h1, h2, h3, h4⟩ := ixN_seq e
    exact ⟨j, h1, h, h2, h3, h4⟩
theorem atI_nat {α : Type} {xs : List α} {j : Nat} {v : α} (h : xs[j]? = some v) : atI xs (j : Int) = some v := by
  have hj : j < xs.length := (List.getElem?_eq_some_iff.mp h).1
  have e : ixN xs.length (j : Int) = some j := by
    unfold ixN
    rw [if_pos (by omega), if_pos (by omega)]; simp
  unfold atI; rw [e]; exact h
theorem atI_last {α : Type} (xs : List α) (v : α) : atI (xs ++ [v]) (-1) = some v := by
  have hl : (xs ++ [v]).length = xs.length + 1 := by simp
  have e : ixN (xs ++ [v]).length (-1) = some xs.length := by
    unfold ixN
    rw [hl, if_neg (by decide), if_pos (by omega)]
    congr 1
    omega
  unfold atI
  rw [e]
  show (xs ++ [v])[xs.length]? = some v
  simp

/-! ### what may be subscripted -/
/-- what stands as an index of a plain subscript -/
def PlainIx (b : Expr) : Prop := ∀ o i, subscripted b false o i = operate [o, i] (getItem o i)
/-- a subscript by values -/
def IxR (X : Cx) (r : R2) : Prop :=
  ∀ (value slice : Expr) (pins : List (Addr × Obj)) (s : Shared) (σ : St) (H : Hp) (x y : V) (v u : Value) (Q : VK), Inv X pins σ H s → RelV x v → RelV y u → r x y H Q →
    subscripted slice false v u = operate [v, u] (getItem v u) → wpAny (model X.prog X.w) X.A (subscriptTail value slice v u) (EP X pins σ Q) X.xe s
/-- a call of a builtin's method by values: the receiver, the arguments -/
def MtR (X : Cx) (id : String) (r : V → List V → Hp → VK → Prop) : Prop :=
  ∀ (pins : List (Addr × Obj)) (s : Shared) (σ : St) (H : Hp) (x : V) (xs : List V) (v : Value) (us : List Value) (Q : VK), Inv X pins σ H s → RelV x v → Vals xs us → r x xs H Q →
    wpAny (model X.prog X.w) X.A (call (.builtin id) (v :: us)) (EP X pins σ Q) X.xe s
section
variable {X : Cx} {a b : Expr} {ta tb : TE} {pos : Pos}
theorem IxR.or {r r' : R2} (h : IxR X r) (h' : IxR X r') : IxR X (fun x y H Q => r x y H Q ∨ r' x y H Q) := by
  intro value slice pins s σ H x y v u Q I rx ry q hs
  rcases q with q | q
  · exact h value slice pins s σ H x y v u Q I rx ry q hs
  · exact h' value slice pins s σ H x y v u Q I rx ry q hs
theorem MtR.or {id : String} {r r' : V → List V → Hp → VK → Prop} (h : MtR X id r) (h' : MtR X id r') : MtR X id (fun x xs H Q => r x xs H Q ∨ r' x xs H Q) := by
  intro pins s σ H x xs v us Q I rx rs q
  rcases q with q | q
  · exact h pins s σ H x xs v us Q I rx rs q
  · exact h' pins s σ H x xs v us Q I rx rs q
/-- a[b] -/
theorem pe_ix {r : R2} (hr : IxR X r) (ha : PE X a ta) (hb : PE X b tb) (hs : PlainIx b) : PE X (.Subscript a b pos) (tOp r ta tb) := by
  intro pins s σ H Q I h
  exact Subscript_ (binT ha hb I h fun v u s2 x y H2 I2 rx ry q => hr a b pins s2 σ H2 x y v u Q I2 rx ry q (hs _ _))

def rIxL (K : PySem.W.Frag) : R2 := fun x y H Q => ∃ p xs i v, x = .ref p ∧ y = .int i ∧ SqL K H p xs ∧ atI xs i = some v ∧ Q v H
def rIxT (K : PySem.W.Frag) : R2 := fun x y H Q => ∃ p xs i v, x = .ref p ∧ y = .int i ∧ SqT K H p xs ∧ atI xs i = some v ∧ Q v H
def rIxS : R2 := fun x y H Q => ∃ z i c, x = .str z ∧ y = .int i ∧ z.length ≤ sizeLine ∧ atI z.cps.toList i = some c ∧ Q (.str ⟨#[c]⟩) H
theorem ix_list : IxR X (rIxL X.K) := by
  intro value slice pins s σ H x y v u Q I rx ry h hs
  obtain ⟨p, xs, i, z, rfl, rfl, hq, he, q⟩ := h
  cases rx
  obtain ⟨t, rfl⟩ := ry
  obtain ⟨its, r, pl, hz⟩ := I.list hq
  obtain ⟨j, h1, h2, h3, h4, h5⟩ := atI_get he
  obtain ⟨w, ew, rw'⟩ := r.get h2
  have hl := r.length
  have hn := line63
  have fin : EP X pins σ Q w s := ⟨z, H, I, rw', q⟩
  by_cases h0 : 0 ≤ i
  · have hj : i.toNat = j := by
      rw [seqIndex_of h0 h5] at h1
      exact Option.some.inj h1
    exact item_listR pl.isList h0 (by omega) (by rw [hj]; simpa using ew) fin hs
  · have hj : (i + (its.toArray.size : Int)).toNat = j := by
      rw [seqIndex_neg (by omega) h4] at h1
      rw [List.size_toArray, ← hl]
      exact Option.some.inj h1
    exact subscriptTail_builtinR (x := w) pl.isList.typeIs slot_list_getitem.lookup
      (wpAny_getItem_list_neg (Q := fun r s' => r = w ∧ EP X pins σ Q r s') pl.isList (by omega) (by rw [List.size_toArray] <;> omega) (by omega) (by rw [hj]; simpa using ew) ⟨rfl, fin⟩) hs
theorem ix_tup : IxR X (rIxT X.K) := by
  intro value slice pins s σ H x y v u Q I rx ry h hs
  obtain ⟨p, xs, i, z, rfl, rfl, hq, he, q⟩ := h
  cases rx
  obtain ⟨t, rfl⟩ := ry
  obtain ⟨its, r, pl, hz⟩ := I.tuple hq
  obtain ⟨j, h1, h2, h3, h4, h5⟩ := atI_get he
  obtain ⟨w, ew, rw'⟩ := r.get h2
  have hl := r.length
  have hn := line63
  have fin : EP X pins σ Q w s := ⟨z, H, I, rw', q⟩
  exact subscriptTail_builtinR (x := w) pl.typeIs slot_tuple_getitem.lookup
    (getItem_tuple (j := j) (Q := fun r s' => r = w ∧ EP X pins σ Q r s') pl (by omega) (by omega) (by rw [List.size_toArray, ← hl]; exact h1) (by simpa using ew) ⟨rfl, fin⟩) hs
theorem ix_str : IxR X rIxS := by
  intro value slice pins s σ H x y v u Q I rx ry h hs
  obtain ⟨z, i, c, rfl, rfl, hz, he, q⟩ := h
  obtain ⟨t, rfl⟩ := rx
  obtain ⟨t', rfl⟩ := ry
  obtain ⟨j, h1, h2, h3, h4, h5⟩ := atI_get he
  have hl : z.cps.toList.length = z.length := by simp [Str.length]
  rw [hl] at h1 h4 h5
  have hn := line63
  exact tail_any (typeIs_str s z t) slot_str_getitem.lookup (getItem_str (c := c) (by
    have e1 : decide (i < -(2 ^ 63 : Int)) = false := decide_eq_false (by omega)
    have e2 : decide (i ≥ 2 ^ 63) = false := decide_eq_false (by omega)
    rw [e1, e2, Bool.or_false]) (by rw [h1]; simpa using h2) ⟨.str ⟨#[c]⟩, H, I.tok _, ⟨_, rfl⟩, q⟩) hs
/-- list, tuple or str -/
def rIx (K : PySem.W.Frag) : R2 := fun x y H Q => rIxL K x y H Q ∨ rIxT K x y H Q ∨ rIxS x y H Q
theorem ix_seq : IxR X (rIx X.K) := ix_list.or (ix_tup.or ix_str)

/-! ### xs[i] = v, any sign -/
/-- the list's object behind a store -/
theorem mapSeq_set (its : List Value) (n j : Nat) (u : Value) : Obj.mapSeq (·.setIfInBounds j u) { cls := .type "list", data := .seq its.toArray n } = { cls := .type "list", data := .seq (its.set j u).toArray n } := by
  simp [Obj.mapSeq]
theorem Inv.lst {pins : List (Addr × Obj)} {σ : St} {H : Hp} {s : Shared} {p : Addr} {xs : List V} (I : Inv X pins σ H s) (h : H p = some (.lst xs)) :
    ∃ (its : List Value) (n : Nat), Vals xs its ∧ s.heap.get? p = some { cls := .type "list", data := .seq its.toArray n } ∧ xs.length ≤ sizeLine := by
  obtain ⟨z, its, n, r, e⟩ := I.hok p _ h
  exact ⟨its, n, r, e, z⟩
/-- the list at p is written by an update of its object -/
theorem Inv.lstUpd {pins : List (Addr × Obj)} {σ : St} {H : Hp} {s : Shared} {p : Addr} {xs ys : List V} {its its' : List Value} {n n' : Nat} {f : Obj → Obj} (I : Inv X pins σ H s) (h : H p = some (.lst xs))
    (ho : s.heap.get? p = some { cls := .type "list", data := .seq its.toArray n }) (hf : f { cls := .type "list", data := .seq its.toArray n } = { cls := .type "list", data := .seq its'.toArray n' }) (r : Vals ys its') (hz : ys.length ≤ sizeLine) (t : Nat) :
    Inv X pins σ (upd H p (.lst ys)) { s with heap := s.heap.update p f, toks := t } := by
  have e : (s.heap.update p f).get? p = some { cls := .type "list", data := .seq its'.toArray n' } := by
    rw [Heap.get?_update_self f ho (by rw [hf] <;> rfl), hf]
  refine I.write (x := p) (e := p) (by rw [h]; trivial) (.inl rfl) (fun b u hb q => (Heap.get?_update_other _ _ (Ne.symm hb)).trans q) ⟨_, e⟩ ?_
  exact ⟨hz, its', n', r, e⟩
def rSetL : V → V → V → Hp → (Hp → Prop) → Prop := fun o i v H Q => ∃ p xs k j, o = .ref p ∧ i = .int k ∧ H p = some (.lst xs) ∧ ixN xs.length k = some j ∧ Q (upd H p (.lst (xs.set j v)))
theorem set_list : PSet X rSetL := by
  intro pins s σ H o i v ov iv u Q I ro ri rv h
  obtain ⟨p, xs, k, j, rfl, rfl, hp, hj, q⟩ := h
  cases ro
  obtain ⟨t, rfl⟩ := ri
  obtain ⟨its, n, r, ho, hz⟩ := I.lst hp
  obtain ⟨h1, h2, h3, h4⟩ := ixN_seq hj
  have hl := r.length
  have hn := line63
  have I' : Inv X pins σ (upd H p (.lst (xs.set j v))) { s with heap := s.heap.update p (Obj.mapSeq (·.setIfInBounds j u)) } :=
    I.lstUpd hp ho (mapSeq_set its n j u) (r.set rv j) (by rw [List.length_set]; exact hz) s.toks
  by_cases h0 : 0 ≤ k
  · have hk : k.toNat = j := by
      rw [seqIndex_of h0 h4] at h1
      exact Option.some.inj h1
    exact PySem.W.ki_setAt ho h0 (by omega) (by rw [List.size_toArray, ← hl]; exact h4) (by rw [hk]; exact ⟨_, I', q⟩)
  · have hk : (k + (its.toArray.size : Int)).toNat = j := by
      rw [seqIndex_neg (by omega) h3] at h1
      rw [List.size_toArray, ← hl]
      exact Option.some.inj h1
    exact PySem.W.ki_setBack ho (by omega) (by rw [List.size_toArray, ← hl]; exact h3) (by omega) (by rw [hk]; exact ⟨_, I', q⟩)

/-! ### slices -/
theorem slice_bounds (lo hi : Option Int) (n : Nat) : (sliceBounds lo hi none n).1 = ((HT.sIx n 0 lo : Nat) : Int) ∧ (sliceBounds lo hi none n).2.1 = ((HT.sIx n n hi : Nat) : Int) ∧ (sliceBounds lo hi none n).2.2 = 1 := by
  refine ⟨?_, ?_, rfl⟩
  · cases lo with
    | none => simp [sliceBounds, HT.sIx]
    | some i =>
      simp only [sliceBounds, HT.sIx, Option.getD_none, show (1 : Int) > 0 by decide, if_true]
      by_cases h : i < 0
      · simp only [h, if_true] <;> omega
      · simp only [h, if_false] <;> omega
  · cases hi with
    | none => simp [sliceBounds, HT.sIx]
    | some i =>
      simp only [sliceBounds, HT.sIx, Option.getD_none, show (1 : Int) > 0 by decide, if_true]
      by_cases h : i < 0
      · simp only [h, if_true] <;> omega
      · simp only [h, if_false] <;> omega
theorem slicePick_cut (its : List Value) (lo hi : Option Int) : slicePick its.toArray lo hi none = ((its.drop (HT.sIx its.length 0 lo)).take (HT.sIx its.length its.length hi - HT.sIx its.length 0 lo)).toArray := by
  obtain ⟨h1, h2, h3⟩ := slice_bounds lo hi its.toArray.size
  unfold slicePick
  rw [h1, h2, h3]
  simp only [sliceRange_one, pick_run, List.size_toArray] <;> rfl
/-- xs[lo:hi] of a list: a new list -/
def rSlL (K : PySem.W.Frag) : V → Option Int → Option Int → Hp → VK → Prop := fun x lo hi H Q => ∃ a xs, x = .ref a ∧ SqL K H a xs ∧ ∀ p, H p = none → Q (.ref p) (upd H p (.lst (cutV xs lo hi)))
theorem sl_list : SlR X (rSlL X.K) := by
  intro pins s σ H x v vl vu lo hi sl Q I rx hs pl pu h
  obtain ⟨a, xs, rfl, hx, q⟩ := h
  cases rx
  obtain ⟨its, r, ht, hz⟩ := I.list hx
  have hlen := r.length
  refine ⟨"list", _, slot_list_getitem.lookup, ht.isList.typeIs, ?_⟩
  refine wpAny_getItem_list_slice ht.isList hs pl pu .none (by simp) ?_ (by rw [List.size_toArray] <;> omega)
  rw [slicePick_cut, ← hlen]
  refine ⟨.ref s.heap.objs.size, _, I.laid (t' := s.toks) (o := .lst (cutV xs lo hi)) (fun b ob q => Heap.get?_push_of_some _ q) (Nat.le_refl _) ?_, rfl, q _ (I.hok.fresh (Nat.le_refl _))⟩
  exact ⟨Nat.le_trans (cutV_length xs lo hi) hz, _, 0, (r.drop (HT.sIx xs.length 0 lo)).take (HT.sIx xs.length xs.length hi - HT.sIx xs.length 0 lo), Heap.get?_push_size _ rfl⟩

/-! ### in, not in: flat items -/
def flatV : V → Bool
  | .non => true
  | .bl _ => true
  | .int _ => true
  | .str _ => true
  | _ => false
/-- == of flat values -/
def eqV : V → V → Bool
  | .non, .non => true
  | .bl a, .bl b => a == b
  | .bl a, .int b => (if a then 1 else 0) == b
  | .int a, .bl b => a == (if b then 1 else 0)
  | .int a, .int b => a == b
  | .str a, .str b => a == b
  | _, _ => false
theorem eqAt_V {A : Around} {s : Shared} {y x : V} {u v : Value} (ry : RelV y u) (rx : RelV x v) (fy : flatV y = true) (fx : flatV x = true) : SeqAt.EqAt A s u v (eqV y x) := by
  cases y with
  | non =>
    cases ry
    cases x with
    | non => cases rx; exact SeqAt.EqAt.same _
    | bl b => cases rx; exact SeqAt.EqAt.none_bool b
    | int b => obtain ⟨t, rfl⟩ := rx; exact SeqAt.EqAt.none_int b t
    | str b => obtain ⟨t, rfl⟩ := rx; exact SeqAt.EqAt.none_str b t
    | _ => exact absurd (show false = true from fx) Bool.false_ne_true
  | bl a =>
    cases ry
    cases x with
    | non => cases rx; exact SeqAt.EqAt.bool_none a
    | bl b => cases rx; exact SeqAt.EqAt.bool_bool a b
    | int b => obtain ⟨t, rfl⟩ := rx; exact SeqAt.EqAt.bool_int a b t
    | str b => obtain ⟨t, rfl⟩ := rx; exact SeqAt.EqAt.bool_str a b t
    | _ => exact absurd (show false = true from fx) Bool.false_ne_true
  | int a =>
    obtain ⟨t', rfl⟩ := ry
    cases x with
    | non => cases rx; exact SeqAt.EqAt.int_none a t'
    | bl b => cases rx; exact SeqAt.EqAt.int_bool a t' b
    | int b => obtain ⟨t, rfl⟩ := rx; exact SeqAt.EqAt.int_int a t' b t
    | str b => obtain ⟨t, rfl⟩ := rx; exact SeqAt.EqAt.int_str a t' b t
    | _ => exact absurd (show false = true from fx) Bool.false_ne_true
  | str a =>
    obtain ⟨t', rfl⟩ := ry
    cases x with
    | non => cases rx; exact SeqAt.EqAt.str_none a t'
    | bl b => cases rx; exact SeqAt.EqAt.str_bool a t' b
    | int b => obtain ⟨t, rfl⟩ := rx; exact SeqAt.EqAt.str_int a t' b t
    | str b => obtain ⟨t, rfl⟩ := rx; exact SeqAt.EqAt.str_str a t' b t
    | _ => exact absurd (show false = true from fx) Bool.false_ne_true
  | _ => exact absurd (show false = true from fy) Bool.false_ne_true
/-- the items' answers, read off the values (a value's own answer does not lean on its token) -/
def eqU (x : V) (u : Value) : Bool := match u with
  | .none => eqV .non x
  | .bool b => eqV (.bl b) x
  | .int i _ => eqV (.int i) x
  | .str z _ => eqV (.str z) x
  | _ => false
theorem eqU_of {x y : V} {u : Value} (r : RelV y u) (f : flatV y = true) : eqU x u = eqV y x := by
  cases y with
  | non => cases r; rfl
  | bl b => cases r; rfl
  | int i => obtain ⟨t, rfl⟩ := r; rfl
  | str z => obtain ⟨t, rfl⟩ := r; rfl
  | _ => exact absurd (show false = true from f) Bool.false_ne_true
theorem any_eqU {x : V} : ∀ {xs : List V} {us : List Value}, Vals xs us → xs.all flatV = true → us.any (eqU x) = xs.any fun y => eqV y x
  | _, _, .nil, _ => rfl
  | y :: xs, u :: us, .cons r t, f => by
    rw [List.all_cons, Bool.and_eq_true] at f
    rw [List.any_cons, List.any_cons, eqU_of r f.1, any_eqU t f.2]
theorem mem_eqAt {A : Around} {s : Shared} {x : V} {v : Value} (rx : RelV x v) (fx : flatV x = true) : ∀ {xs : List V} {us : List Value}, Vals xs us → xs.all flatV = true → ∀ u ∈ us, SeqAt.EqAt A s u v (eqU x u)
  | _, _, .nil, _ => fun u hu => by cases hu
  | y :: xs, u :: us, .cons r t, f => fun u' hu => by
    rw [List.all_cons, Bool.and_eq_true] at f
    rcases List.mem_cons.mp hu with rfl | hu
    · rw [eqU_of r f.1]; exact eqAt_V r rx f.1 fx
    · exact mem_eqAt rx fx t f.2 u' hu
def inV (x : V) (xs : List V) : Bool := xs.any fun y => eqV y x
/-- x in a list or tuple of flat items -/
def rIn (K : PySem.W.Frag) (neg : Bool) : R2 := fun x y H Q => ∃ p xs, y = .ref p ∧ (SqL K H p xs ∨ SqT K H p xs) ∧ flatV x = true ∧ xs.all flatV = true ∧ Q (.bl (if neg then !inV x xs else inV x xs)) H
theorem op_in_seq : OpR X (compareOp .In) (rIn X.K false) := by
  intro pins s σ H x y v u Q I rx ry h
  obtain ⟨p, xs, rfl, hq, fx, fs, q⟩ := h
  cases ry
  rcases hq with hq | hq
  · obtain ⟨its, r, pl, hz⟩ := I.list hq
    refine SeqAt.in_listAt (eqU x) pl.isList (fun w hw => mem_eqAt rx fx r fs w (by simpa using hw)) ⟨.bl _, H, I, rfl, ?_⟩
    rw [show its.toArray.any (eqU x) = its.any (eqU x) by simp, any_eqU r fs]
    exact q
  · obtain ⟨its, r, pl, hz⟩ := I.tuple hq
    refine SeqAt.in_tupleAt (eqU x) pl (fun w hw => mem_eqAt rx fx r fs w (by simpa using hw)) ⟨.bl _, H, I, rfl, ?_⟩
    rw [show its.toArray.any (eqU x) = its.any (eqU x) by simp, any_eqU r fs]
    exact q
theorem op_notIn_seq : OpR X (compareOp .NotIn) (rIn X.K true) := by
  intro pins s σ H x y v u Q I rx ry h
  obtain ⟨p, xs, rfl, hq, fx, fs, q⟩ := h
  cases ry
  rcases hq with hq | hq
  · obtain ⟨its, r, pl, hz⟩ := I.list hq
    refine SeqAt.notIn_listAt (eqU x) pl.isList (fun w hw => mem_eqAt rx fx r fs w (by simpa using hw)) ⟨.bl _, H, I, rfl, ?_⟩
    rw [show its.toArray.any (eqU x) = its.any (eqU x) by simp, any_eqU r fs]
    exact q
  · obtain ⟨its, r, pl, hz⟩ := I.tuple hq
    refine SeqAt.notIn_tupleAt (eqU x) pl (fun w hw => mem_eqAt rx fx r fs w (by simpa using hw)) ⟨.bl _, H, I, rfl, ?_⟩
    rw [show its.toArray.any (eqU x) = its.any (eqU x) by simp, any_eqU r fs]
    exact q
theorem op_notIn_str : OpR X (compareOp .NotIn) (fun x y H Q => ∃ i j, x = .str i ∧ y = .str j ∧ Q (.bl (!(!(Builtin.Str.occurrences j i 0 j.length 1).isEmpty))) H) := by
  intro pins s σ H x y v u Q I rx ry h
  obtain ⟨i, j, rfl, rfl, q⟩ := h
  obtain ⟨t, rfl⟩ := rx
  obtain ⟨t', rfl⟩ := ry
  exact notIn_str ⟨.bl _, H, I, rfl, q⟩

/-! ### len, list(x), tuple(x) of any list or tuple that is read -/
theorem call_len_seq : CallR X (.builtin "len") (fun xs H Q => ∃ p ys, xs = [.ref p] ∧ (SqL X.K H p ys ∨ SqT X.K H p ys) ∧ Q (.int ys.length) H) := by
  intro pins s σ H xs us Q I r h
  obtain ⟨p, ys, rfl, hq, q⟩ := h
  obtain ⟨u, rfl, rx⟩ := vals1 r
  cases rx
  have hn := line63
  rcases hq with hq | hq
  · obtain ⟨its, r', pl, hz⟩ := I.list hq
    have hlen := r'.length
    exact Calls.call_len_list pl.isList (by simp only [List.size_toArray] <;> omega) ⟨.int ys.length, H, I.tok _, ⟨s.toks + 1, by rw [List.size_toArray, hlen]⟩, q⟩
  · obtain ⟨its, r', pl, hz⟩ := I.tuple hq
    have hlen := r'.length
    exact len_tuple pl (by simp only [List.size_toArray] <;> omega) ⟨.int ys.length, H, I.tok _, ⟨s.toks + 1, by rw [List.size_toArray, hlen]⟩, q⟩
theorem call_len_str : CallR X (.builtin "len") (fun xs H Q => ∃ z, xs = [.str z] ∧ z.length ≤ sizeLine ∧ Q (.int z.length) H) := by
  intro pins s σ H xs us Q I r h
  obtain ⟨z, rfl, hz, q⟩ := h
  obtain ⟨u, rfl, t, rfl⟩ := vals1 r
  have hn := line63
  exact len_str (by omega) ⟨.int z.length, H, I.tok _, ⟨_, rfl⟩, q⟩
theorem CallR.or {f : Value} {r r' : List V → Hp → VK → Prop} (h : CallR X f r) (h' : CallR X f r') : CallR X f (fun xs H Q => r xs H Q ∨ r' xs H Q) := by
  intro pins s σ H xs us Q I rs q
  rcases q with q | q
  · exact h pins s σ H xs us Q I rs q
  · exact h' pins s σ H xs us Q I rs q
theorem call_list_of : CallR X (.type "list") (fun xs H Q => ∃ p ys, xs = [.ref p] ∧ (SqL X.K H p ys ∨ SqT X.K H p ys) ∧ ∀ l, H l = none → Q (.ref l) (upd H l (.lst ys))) := by
  intro pins s σ H xs us Q I r h
  obtain ⟨p, ys, rfl, hq, q⟩ := h
  obtain ⟨u, rfl, rx⟩ := vals1 r
  cases rx
  have fin : ∀ (its : List Value), Vals ys its → ys.length ≤ sizeLine → ∀ (h' : Heap) (c' : Nat), (∀ b o', s.heap.get? b = some o' → h'.get? b = some o') →
      h'.get? s.heap.objs.size = some { cls := .type "list", dict := none, data := .seq its.toArray c', slots := #[] } → EP X pins σ Q (.ref s.heap.objs.size) { s with heap := h' } := fun its r' hz h' c' kp e =>
    ⟨.ref s.heap.objs.size, _, I.laid (t' := s.toks) kp (Nat.le_refl _) (show ObjOk X.prog X.w _ h' _ (.lst ys) from ⟨hz, its, c', r', e⟩), rfl, q _ (I.hok.fresh (Nat.le_refl _))⟩
  rcases hq with hq | hq
  · obtain ⟨its, r', pl, hz⟩ := I.list hq
    have hlen := r'.length
    obtain ⟨o, ho, hc, n, hd⟩ := pl.isList
    exact call_list_seq p (.inl rfl) ho hc hd (fun h' c' kp e => fin its r' hz h' c' kp e) (by simp only [List.size_toArray] <;> omega)
  · obtain ⟨its, r', pl, hz⟩ := I.tuple hq
    have hlen := r'.length
    obtain ⟨o, ho, hc, n, hd⟩ := pl
    exact call_list_seq p (.inr rfl) ho hc hd (fun h' c' kp e => fin its r' hz h' c' kp e) (by simp only [List.size_toArray] <;> omega)
theorem call_tuple_of : CallR X (.type "tuple") (fun xs H Q => ∃ p ys, xs = [.ref p] ∧ ((SqL X.K H p ys ∧ ∀ l, H l = none → Q (.ref l) (upd H l (.tup ys))) ∨ (SqT X.K H p ys ∧ Q (.ref p) H))) := by
  intro pins s σ H xs us Q I r h
  obtain ⟨p, ys, rfl, h⟩ := h
  obtain ⟨u, rfl, rx⟩ := vals1 r
  cases rx
  rcases h with ⟨hq, q⟩ | ⟨hq, q⟩
  · obtain ⟨its, r', pl, hz⟩ := I.list hq
    have hlen := r'.length
    refine call_tuple_list pl.isList (fun h' kp => ?_) (by simp only [List.size_toArray] <;> omega)
    have I1 : Inv X pins σ H { s with heap := h' } := I.kept (t' := s.toks) kp
    have I2 : Inv X pins σ (upd H h'.objs.size (.tup ys)) { s with heap := h'.push { cls := .type "tuple", data := .seq its.toArray } } :=
      I1.laid (t' := s.toks) (fun b o e => Heap.get?_push_of_some _ e) (Nat.le_refl _) (show ObjOk X.prog X.w _ _ _ (.tup ys) from ⟨hz, its, r', IsTup.new _ _⟩)
    exact ⟨.ref h'.objs.size, _, I2, rfl, q _ (I1.hok.fresh (Nat.le_refl _))⟩
  · obtain ⟨its, r', pl, hz⟩ := I.tuple hq
    exact call_tuple_same pl ⟨.ref p, H, I, rfl, q⟩

/-! ### the call of a builtin's method: o.m(..) -/
/-- the value is of that builtin type -/
def tyV (K : PySem.W.Frag) (T : String) (x : V) (H : Hp) : Prop := match x with
  | .str _ => T = "str"
  | .int _ => T = "int"
  | .ref p => (T = "list" ∧ ∃ xs, SqL K H p xs) ∨ (T = "tuple" ∧ ∃ o, K.lookup p = some o ∧ o.cls = .type "tuple" ∧ o.dict = none) ∨
      (T = "dict" ∧ ((∃ kvs, H p = some (.dK kvs)) ∨ ∃ kvs, H p = some (.dT kvs))) ∨ (T = "set" ∧ ∃ S n, H p = some (.set S n))
  | _ => False
theorem tyV_is {pins : List (Addr × Obj)} {σ : St} {H : Hp} {s : Shared} {T : String} {x : V} {v : Value} (I : Inv X pins σ H s) (r : RelV x v) (ty : tyV X.K T x H) :
    s.TypeIs v T ∧ ∀ a, v = .ref a → ∃ ob, s.heap.get? a = some ob ∧ ob.dict = none := by
  cases x with
  | str z =>
    obtain ⟨t, rfl⟩ := r
    cases (show T = "str" from ty)
    exact ⟨typeIs_str s z t, fun _ e => nomatch e⟩
  | int i =>
    obtain ⟨t, rfl⟩ := r
    cases (show T = "int" from ty)
    exact ⟨typeIs_int s i t, fun _ e => nomatch e⟩
  | ref p =>
    cases r
    rcases ty with ⟨rfl, xs, hq⟩ | ⟨rfl, o, hk, hc, hd⟩ | ⟨rfl, hk⟩ | ⟨rfl, S, n, hk⟩
    · obtain ⟨its, _, pl, _⟩ := I.list hq
      refine ⟨pl.isList.typeIs, fun a e => ?_⟩
      cases e
      obtain ⟨o, n, e, c, hd, _⟩ := pl
      exact ⟨o, e, hd⟩
    · refine ⟨⟨o, I.kIn p o hk, hc⟩, fun a e => ?_⟩
      cases e
      exact ⟨o, I.kIn _ o hk, hd⟩
    · have z : ∃ o, s.heap.get? p = some o ∧ o.ExactDict := by
        rcases hk with ⟨kvs, hk⟩ | ⟨kvs, hk⟩
        · obtain ⟨_, _, _, _, o, _, _, e, ex, _⟩ := I.hok p _ hk
          exact ⟨o, e, ex⟩
        · obtain ⟨_, _, _, _, o, _, _, e, ex, _⟩ := I.hok p _ hk
          exact ⟨o, e, ex⟩
      obtain ⟨o, e, ex⟩ := z
      refine ⟨⟨o, e, ex.1⟩, fun a e2 => ?_⟩
      cases e2
      exact ⟨o, e, ex.2.1⟩
    · obtain ⟨o, _, _, _, e, ex, _⟩ := I.hok p _ hk
      refine ⟨⟨o, e, ex.1⟩, fun a e2 => ?_⟩
      cases e2
      exact ⟨o, e, ex.2.1⟩
  | _ => exact False.elim ty
def tBM0 (K : PySem.W.Frag) (T : String) (r : V → List V → Hp → VK → Prop) (to : TE) : TE := fun σ H Q => to σ H fun x H1 => tyV K T x H1 ∧ r x [] H1 Q
def tBM (K : PySem.W.Frag) (T : String) (r : V → List V → Hp → VK → Prop) (to : TE) (t : TA) : TE := fun σ H Q => to σ H fun x H1 => tyV K T x H1 ∧ t σ H1 fun xs H2 => r x xs H2 Q
variable {o e : Expr} {es : List Expr} {to : TE} {t : TA} {name : Str} {apos cpos : Pos} {T id : String} {r : V → List V → Hp → VK → Prop}
theorem pe_bm0 (pa : PlainAttrs T) (slot : Slot T name id) (hty : typeOf (.builtin id) = pure (.type "method_descriptor")) (hm : MtR X id r) (ho : PE X o to)
    (hbase : attributeBase o name X.env (eval o X.env) = eval o X.env := by rfl) (hline : (apos.endLine == cpos.line) = true := by rfl) : PE X (.Call (.Attribute o name apos) [] [] cpos) (tBM0 X.K T r to) := by
  intro pins s σ H Q I h
  refine wpAny_Call_method0_late hbase hline (thn (ho pins s σ H _ I h) fun v s1 ⟨x, H1, I1, r1, ty, q1⟩ => ?_)
  obtain ⟨h1, h2⟩ := tyV_is I1 r1 ty
  exact ⟨T, id, pa, slot, hty, h1, h2, Calls.callWith_builtin rfl (PySem.evalArgs_none (hm pins s1 σ H1 x [] v [] Q I1 r1 .nil q1))⟩
theorem pe_bm (pa : PlainAttrs T) (slot : Slot T name id) (hty : typeOf (.builtin id) = pure (.type "method_descriptor")) (hm : MtR X id r) (ho : PE X o to) (ha : PA X (e :: es) t)
    (hbase : attributeBase o name X.env (eval o X.env) = eval o X.env := by rfl)
    (hfew : ((backTo cpos (starEach (e :: es) X.env)).all (fun x => !x.1) && (backToKw cpos (keywordEach [] X.env)).all (fun x => x.1.isSome)
      && decide ((e :: es).length + ([] : List Keyword).length + (if ([] : List Keyword).isEmpty then 0 else 1) < 30)) = true := by rfl)
    (hline : (apos.endLine == cpos.line) = true := by rfl) (hs : starEach (e :: es) X.env = (false, eval e X.env) :: starEach es X.env := by rfl) (hplain : (backTo cpos (starEach es X.env)).any (·.1) = false := by rfl) :
    PE X (.Call (.Attribute o name apos) (e :: es) [] cpos) (tBM X.K T r to t) := by
  intro pins s σ H Q I h
  refine wpAny_Call_method_late hbase hfew hline rfl (thn (ho pins s σ H _ I h) fun v s1 ⟨x, H1, I1, r1, ty, q1⟩ => ?_)
  obtain ⟨h1, h2⟩ := tyV_is I1 r1 ty
  refine ⟨T, id, pa, slot, hty, h1, h2, ?_⟩
  have hA := ha cpos pins s1 σ H1 _ I1 q1
  rw [hs] at hA ⊢
  refine Calls.callWith_builtin (by show (false || (backTo cpos (starEach es X.env)).any (·.1)) = false; rw [hplain] <;> rfl) (Calls.evalArgs_plain ?_)
  exact thn hA fun us s2 ⟨vs, H2, I2, r2, q2⟩ => hm pins s2 σ H2 x vs v us Q I2 r1 r2 q2
/- xs.append(e), list.index on a module's tuple .. are MtR facts of 06m -/
end
end L2

namespace L2
open PySem PySem.Spec PyProof.Rows

def MtM (X : Cx) (id : String) (r : V → List V → Hp → VK → Prop) : Prop :=
  ∀ (pins : List (Addr × Obj)) (s : Shared) (σ : St) (H : Hp) (x : V) (xs : List V) (v : Value) (us : List Value) (Q : VK), Inv X pins σ H s → RelV x v → Vals xs us → r x xs H Q →
    wpAny (model X.prog X.w) X.A (call (.builtin id) (v :: us)) (EP X pins σ Q) X.xe s

/-! ### lists of values -/
theorem Vals.one : ∀ {x : V} {us : List Value}, Vals [x] us → ∃ u, us = [u] ∧ RelV x u
  | _, _, .cons r .nil => ⟨_, rfl, r⟩
theorem Vals.two : ∀ {x y : V} {us : List Value}, Vals [x, y] us → ∃ u v, us = [u, v] ∧ RelV x u ∧ RelV y v
  | _, _, _, .cons r (.cons q .nil) => ⟨_, _, rfl, r, q⟩
theorem Vals.zero : ∀ {us : List Value}, Vals [] us → us = []
  | _, .nil => rfl
theorem Vals.dropLast {xs : List V} {us : List Value} (h : Vals xs us) : Vals xs.dropLast us.dropLast := by
  induction h with
  | nil => exact .nil
  | cons r t ih =>
    cases t with
    | nil => exact .nil
    | cons q t' => exact .cons r ih
theorem Vals.eraseIdx : ∀ {xs : List V} {us : List Value} (i : Nat), Vals xs us → Vals (xs.eraseIdx i) (us.eraseIdx i)
  | _, _, _, .nil => .nil
  | _, _, 0, .cons _ t => t
  | _, _, i + 1, .cons r t => .cons r (Vals.eraseIdx i t)
theorem Vals.reverse {xs : List V} {us : List Value} (h : Vals xs us) : Vals xs.reverse us.reverse := by
  induction h with
  | nil => exact .nil
  | cons r t ih => rw [List.reverse_cons, List.reverse_cons]; exact Vals.append ih (.cons r .nil)
theorem Vals.rep {xs : List V} {us : List Value} (h : Vals xs us) : ∀ k : Nat, Vals (List.replicate k xs).flatten (List.replicate k us).flatten
  | 0 => .nil
  | k + 1 => by
    rw [List.replicate_succ, List.replicate_succ, List.flatten_cons, List.flatten_cons]
    exact Vals.append h (Vals.rep h k)
theorem erase_last {α : Type} (l : List α) : l.eraseIdx (l.length - 1) = l.dropLast := by
  induction l with
  | nil => rfl
  | cons a r ih =>
    cases r with
    | nil => rfl
    | cons b r =>
      have e : (a :: b :: r).length - 1 = ((b :: r).length - 1) + 1 := by
        have h1 : (a :: b :: r).length = r.length + 2 := rfl
        have h2 : (b :: r).length = r.length + 1 := rfl
        omega
      rw [e, List.eraseIdx_cons_succ, ih]
      all_goals rfl
theorem len_erase {α : Type} : ∀ (l : List α) (i : Nat), (l.eraseIdx i).length ≤ l.length
  | [], _ => Nat.le_refl _
  | _ :: _, 0 => Nat.le_succ _
  | _ :: r, i + 1 => Nat.succ_le_succ (len_erase r i)
theorem foldl_rep (its : List Value) : ∀ (k : Nat) (acc : List Value),
    List.foldl (fun x1 x2 => x1 ++ x2) acc.toArray (List.replicate k its.toArray) = (acc ++ (List.replicate k its).flatten).toArray
  | 0, acc => by simp
  | k + 1, acc => by
    have e : acc.toArray ++ its.toArray = (acc ++ its).toArray := by simp
    have e2 : (acc ++ its) ++ (List.replicate k its).flatten = acc ++ (List.replicate (k + 1) its).flatten := by
      rw [List.replicate_succ, List.flatten_cons, List.append_assoc]
    rw [← e2, ← foldl_rep its k (acc ++ its), ← e, List.replicate_succ, List.foldl_cons]

section
variable {X : Cx} {pins : List (Addr × Obj)} {σ : St} {H : Hp} {s : Shared} {l b : Addr} {xs ys zs : List V}

/-! ### the two steps: a tracked list is rewritten, a new list is laid -/
theorem Inv.lset {its its' : List Value} {n : Nat} {f : Array Value → Array Value} {t' : Nat} (I : Inv X pins σ H s) (hH : H l = some (.lst xs))
    (e : s.heap.get? l = some { cls := .type "list", data := .seq its.toArray n }) (hf : f its.toArray = its'.toArray) (hv : Vals ys its') (hz : ys.length ≤ sizeLine) :
    Inv X pins σ (upd H l (.lst ys)) { s with heap := s.heap.update l (Obj.mapSeq f), toks := t' } := by
  have q := PySem.IsL.update e f
  rw [hf] at q
  refine I.write (x := l) (e := l) (by rw [hH]; exact trivial) (.inl rfl) (fun b' u hb hu => (Heap.get?_update_other s.heap (Obj.mapSeq f) (Ne.symm hb)).trans hu) ⟨_, q⟩ ?_
  exact ⟨hz, its', _, hv, q⟩
theorem Inv.lnew {its : List Value} {t' : Nat} (I : Inv X pins σ H s) (hv : Vals ys its) (hz : ys.length ≤ sizeLine) :
    Inv X pins σ (upd H s.heap.objs.size (.lst ys)) { s with heap := s.heap.push { cls := .type "list", data := .seq its.toArray }, toks := t' } :=
  I.laid (fun _ _ q => Heap.get?_push_of_some _ q) (Nat.le_refl _) ⟨hz, its, 0, hv, Heap.get?_push_size _ rfl⟩
theorem Inv.fresh (I : Inv X pins σ H s) : H s.heap.objs.size = none := I.hok.fresh (Nat.le_refl _)
theorem Inv.lstM (I : Inv X pins σ H s) (hH : H l = some (.lst xs)) : xs.length ≤ sizeLine ∧ ∃ (its : List Value) (n : Nat), Vals xs its ∧ xs.length = its.length ∧ s.heap.get? l = some { cls := .type "list", data := .seq its.toArray n } := by
  obtain ⟨z, its, n, r, e⟩ := I.hok l _ hH
  exact ⟨z, its, n, r, r.length, e⟩

theorem notLongL {n : Nat} (h : n ≤ sizeLine) : Builtin.List.listTooLong n = false := by
  unfold Builtin.List.listTooLong
  exact decide_eq_false (by omega)
end

section
variable {X : Cx}

/-! ### methods -/
def rAppend : V → List V → Hp → VK → Prop := fun x vs H Q => ∃ l xs y, x = .ref l ∧ vs = [y] ∧ H l = some (.lst xs) ∧ xs.length < sizeLine ∧ Q .non (upd H l (.lst (xs ++ [y])))
theorem mt_append : MtM X "list.append" rAppend := by
  intro pins s σ H x vs v us Q I rx rv h
  obtain ⟨l, xs, y, rfl, rfl, hH, hz, q⟩ := h
  cases rx
  obtain ⟨u, rfl, ru⟩ := rv.one
  obtain ⟨z, its, n, r, hl, e⟩ := I.lstM hH
  refine call_meets F.slot_list_append ⟨_, e, rfl⟩ F.entry_list_append (F.args_list_append_2 _ _) (PySem.list_append l its.toArray n u (by rw [List.size_toArray]; omega)) ⟨e, ?_⟩
  refine ⟨.non, _, I.lset (its' := its ++ [u]) hH e (by simp) (r.append (.cons ru .nil)) ?_, rfl, q⟩
  rw [List.length_append, List.length_singleton]
  omega

def rExtend : V → List V → Hp → VK → Prop := fun x vs H Q => ∃ l b xs zs, x = .ref l ∧ vs = [.ref b] ∧ H l = some (.lst xs) ∧ H b = some (.lst zs) ∧ xs.length + zs.length ≤ sizeLine ∧ Q .non (upd H l (.lst (xs ++ zs)))
theorem mt_extend : MtM X "list.extend" rExtend := by
  intro pins s σ H x vs v us Q I rx rv h
  obtain ⟨l, b, xs, zs, rfl, rfl, hH, hB, hz, q⟩ := h
  cases rx
  obtain ⟨u, rfl, ru⟩ := rv.one
  cases ru
  obtain ⟨z, its, n, r, hl, e⟩ := I.lstM hH
  obtain ⟨z2, its2, n2, r2, hl2, e2⟩ := I.lstM hB
  have hsz : its.toArray.size + its2.toArray.size ≤ sizeLine := by rw [List.size_toArray, List.size_toArray]; omega
  have hlong : ¬ (!its.toArray.isEmpty && Builtin.List.listTooLong (its.toArray.size + its2.toArray.size)) = true := by
    rw [notLongL hsz, Bool.and_false]
    exact Bool.false_ne_true
  refine call_meets F.slot_list_extend ⟨_, e, rfl⟩ F.entry_list_extend (F.args_list_extend_2 _ _)
    (AutoSeq1.list_extend_list_list_0 l its.toArray n b its2.toArray n2 hlong (by rw [List.size_toArray]; omega) (by omega)) ⟨e, e2, ?_⟩
  refine ⟨.non, _, I.lset (its' := its ++ its2) hH e (by simp) (r.append r2) ?_, rfl, q⟩
  rw [List.length_append]
  omega

def rPop : V → List V → Hp → VK → Prop := fun x vs H Q => ∃ l xs y, x = .ref l ∧ vs = [] ∧ H l = some (.lst xs) ∧ xs[xs.length - 1]? = some y ∧ Q y (upd H l (.lst xs.dropLast))
theorem mt_pop : MtM X "list.pop" rPop := by
  intro pins s σ H x vs v us Q I rx rv h
  obtain ⟨l, xs, y, rfl, rfl, hH, hy, q⟩ := h
  cases rx
  have hus := rv.zero
  subst hus
  obtain ⟨z, its, n, r, hl, e⟩ := I.lstM hH
  obtain ⟨u, hu, ru⟩ := r.get hy
  have hy' : its.toArray[its.toArray.size - 1]? = some u := by
    show its.toArray[its.length - 1]? = some u
    rw [← Array.getElem?_toList, ← hl]
    exact hu
  refine call_meets F.slot_list_pop ⟨_, e, rfl⟩ F.entry_list_pop (F.args_list_pop_1 _) (MeetsSeq.list_pop_last l its.toArray n u hy' (by rw [List.size_toArray]; omega)) ⟨e, ?_⟩
  refine ⟨y, _, I.lset (its' := its.dropLast) hH e ?_ r.dropLast ?_, ru, q⟩
  · show its.toArray.eraseIdxIfInBounds (its.toArray.size - 1) = its.dropLast.toArray
    rw [List.size_toArray, List.eraseIdxIfInBounds_toArray, erase_last]
  · rw [List.length_dropLast]
    omega

def rPopAt : V → List V → Hp → VK → Prop := fun x vs H Q => ∃ l xs i k y, x = .ref l ∧ vs = [.int i] ∧ H l = some (.lst xs) ∧ -(2 ^ 63) ≤ i ∧ i < 2 ^ 63 ∧ seqIndex? i xs.length = some k ∧ xs[k]? = some y ∧ Q y (upd H l (.lst (xs.eraseIdx k)))
theorem mt_popAt : MtM X "list.pop" rPopAt := by
  intro pins s σ H x vs v us Q I rx rv h
  obtain ⟨l, xs, i, k, y, rfl, rfl, hH, h1, h2, hk, hy, q⟩ := h
  cases rx
  obtain ⟨u, rfl, ru⟩ := rv.one
  obtain ⟨t, rfl⟩ := ru
  obtain ⟨z, its, n, r, hl, e⟩ := I.lstM hH
  obtain ⟨w, hw, rw'⟩ := r.get hy
  refine call_meets F.slot_list_pop ⟨_, e, rfl⟩ F.entry_list_pop (F.args_list_pop_2 _ _)
    (MeetsSeq.list_pop_at l its.toArray n i t k w (fitsIndex_both h1 h2) (by rw [List.size_toArray, ← hl]; exact hk) (by rw [← Array.getElem?_toList]; exact hw) (by rw [List.size_toArray]; omega)) ⟨e, ?_⟩
  refine ⟨y, _, I.lset (its' := its.eraseIdx k) hH e ?_ (r.eraseIdx k) ?_, rw', q⟩
  · show its.toArray.eraseIdxIfInBounds k = (its.eraseIdx k).toArray
    rw [List.eraseIdxIfInBounds_toArray]
  · have := len_erase xs k
    omega

def rReverse : V → List V → Hp → VK → Prop := fun x vs H Q => ∃ l xs, x = .ref l ∧ vs = [] ∧ H l = some (.lst xs) ∧ Q .non (upd H l (.lst xs.reverse))
theorem mt_reverse : MtM X "list.reverse" rReverse := by
  intro pins s σ H x vs v us Q I rx rv h
  obtain ⟨l, xs, rfl, rfl, hH, q⟩ := h
  cases rx
  have hus := rv.zero
  subst hus
  obtain ⟨z, its, n, r, hl, e⟩ := I.lstM hH
  refine call_meets F.slot_list_reverse ⟨_, e, rfl⟩ F.entry_list_reverse (F.args_list_reverse_1 _) (AutoSeq1.list_reverse_list_0 l its.toArray n (by rw [List.size_toArray]; omega)) ⟨e, ?_⟩
  refine ⟨.non, _, I.lset (its' := its.reverse) hH e (by simp) r.reverse ?_, rfl, q⟩
  rw [List.length_reverse]
  omega

def rClear : V → List V → Hp → VK → Prop := fun x vs H Q => ∃ l xs, x = .ref l ∧ vs = [] ∧ H l = some (.lst xs) ∧ Q .non (upd H l (.lst []))
theorem mt_clear : MtM X "list.clear" rClear := by
  intro pins s σ H x vs v us Q I rx rv h
  obtain ⟨l, xs, rfl, rfl, hH, q⟩ := h
  cases rx
  have hus := rv.zero
  subst hus
  obtain ⟨z, its, n, r, hl, e⟩ := I.lstM hH
  refine call_meets F.slot_list_clear ⟨_, e, rfl⟩ F.entry_list_clear (F.args_list_clear_1 _) (AutoSeq1.list_clear_list_0 l its.toArray n (by rw [List.size_toArray]; omega)) ⟨e, ?_⟩
  exact ⟨.non, _, I.lset (its' := []) (ys := []) hH e rfl .nil (Nat.zero_le _), rfl, q⟩

/-! ### list + list, list += list, list * int -/
def rCat : R2 := fun x y H Q => ∃ l b xs zs, x = .ref l ∧ y = .ref b ∧ H l = some (.lst xs) ∧ H b = some (.lst zs) ∧ xs.length + zs.length ≤ sizeLine ∧ ∀ p, H p = none → Q (.ref p) (upd H p (.lst (xs ++ zs)))
theorem op_cat : OpR X (binaryOp .Add) rCat := by
  intro pins s σ H x y v u Q I rx ry h
  obtain ⟨l, b, xs, zs, rfl, rfl, hH, hB, hz, q⟩ := h
  cases rx
  cases ry
  obtain ⟨z, its, n, r, hl, e⟩ := I.lstM hH
  obtain ⟨z2, its2, n2, r2, hl2, e2⟩ := I.lstM hB
  refine PySem.P.add_list e e2 ?_ (by rw [List.size_toArray, List.size_toArray]; omega)
  have ea : its.toArray ++ its2.toArray = (its ++ its2).toArray := by simp
  rw [ea]
  exact ⟨.ref _, _, I.lnew (t' := s.toks) (r.append r2) (by rw [List.length_append]; omega), rfl, q _ I.fresh⟩
/-- a list times an int (a negative one is nothing) -/
def rRep : R2 := fun x y H Q => ∃ l k xs, x = .ref l ∧ y = .int k ∧ H l = some (.lst xs) ∧ -(2 ^ 63) ≤ k ∧ k < 2 ^ 63 ∧ xs.length * k.toNat ≤ sizeLine ∧
  ∀ p, H p = none → Q (.ref p) (upd H p (.lst (List.replicate k.toNat xs).flatten))
theorem len_rep {α : Type} (xs : List α) (k : Nat) : (List.replicate k xs).flatten.length = k * xs.length := by
  induction k with
  | zero => simp
  | succ k ih => rw [List.replicate_succ, List.flatten_cons, List.length_append, ih, Nat.succ_mul, Nat.add_comm]
theorem op_rep : OpR X (binaryOp .Mult) rRep := by
  intro pins s σ H x y v u Q I rx ry h
  obtain ⟨l, k, xs, rfl, rfl, hH, h1, h2, hz, q⟩ := h
  cases rx
  obtain ⟨t, rfl⟩ := ry
  obtain ⟨z, its, n, r, hl, e⟩ := I.lstM hH
  have hlen : its.toArray.size * k.toNat ≤ sizeLine := by rw [List.size_toArray, ← hl]; exact hz
  have hcap : ¬ its.toArray.size * k.toNat > (2 ^ 63 - 1) / 8 := by
    have : (sizeLine : Nat) ≤ (2 ^ 63 - 1) / 8 := by decide
    omega
  have hfit : ¬ (!Builtin.List.listFitsIndex k) = true := by
    rw [fitsIndex_both h1 h2]
    exact Bool.false_ne_true
  have hlong : ¬ Builtin.List.listTooLong (its.toArray.size * k.toNat) = true := by
    rw [notLongL hlen]
    exact Bool.false_ne_true
  have hnew : List.foldl (fun x1 x2 => x1 ++ x2) #[] (List.replicate (if its.toArray.isEmpty = true then 0 else k.toNat) its.toArray) = (List.replicate k.toNat its).flatten.toArray := by
    have f0 : ∀ m : Nat, List.foldl (fun x1 x2 => x1 ++ x2) #[] (List.replicate m its.toArray) = (List.replicate m its).flatten.toArray := fun m => by
      have := foldl_rep its m []
      rw [List.nil_append] at this
      exact this
    rw [f0]
    cases its with
    | nil => simp
    | cons a r' => rw [if_neg (by simp)]
  refine wpAny_binaryOp_repeat_ref (T := "list") (U := "int") (by decide) ⟨_, e, rfl⟩ (fun s' => typeIs_int s' k t) noFill_list_mul F.fills_int_mul F.slot_int_rmul repeat_list F.slot_int_index.lookup
    (call_meets F.slot_int_rmul (typeIs_int s k t) F.entry_int_rmul (F.args_int_rmul_2 _ _) (int___rmul___int_list k t l its.toArray n)
      ⟨e, rfl, ⟨_, e, rfl⟩, call_meets F.slot_list_mul ⟨_, e, rfl⟩ F.entry_list_mul (F.args_list_mul_2 _ _) (AutoListH.list___mul___list_int_3 l its.toArray n k t hfit hcap hlong) ⟨e, ?_⟩⟩)
  rw [hnew]
  exact ⟨.ref _, _, I.lnew (t' := s.toks) (r.rep k.toNat) (by rw [len_rep, Nat.mul_comm]; exact hz), rfl, q _ I.fresh⟩

/-! ### del xs[i] -/
theorem del_list {pins : List (Addr × Obj)} {s : Shared} {σ : St} {H : Hp} {l : Addr} {xs : List V} {i : Int} {t : Tok} {k : Nat} {Q : Unit → Shared → Prop} (I : Inv X pins σ H s) (hH : H l = some (.lst xs))
    (h1 : -(2 ^ 63) ≤ i) (h2 : i < 2 ^ 63) (hk : seqIndex? i xs.length = some k) (h : ∀ s', Inv X pins σ (upd H l (.lst (xs.eraseIdx k))) s' → Q () s') :
    wpAny (model X.prog X.w) X.A (delItem (.ref l) (.int i t)) Q X.xe s := by
  obtain ⟨z, its, n, r, hl, e⟩ := I.lstM hH
  refine PySem.P.delItem_list (k := k) e (fitsIndex_both h1 h2) (by rw [List.size_toArray, ← hl]; exact hk) (h _ ?_) (by rw [List.size_toArray]; omega)
  refine I.lset (its' := its.eraseIdx k) (t' := s.toks) hH e ?_ (r.eraseIdx k) ?_
  · show its.toArray.eraseIdxIfInBounds k = (its.eraseIdx k).toArray
    rw [List.eraseIdxIfInBounds_toArray]
  · have := len_erase xs k
    omega
end

/-! ### xs[a:b] = ys -/
section
variable {prog : Program} {w : World} {A : Around} {E : Value → Shared → Prop} {s : Shared}
theorem splice_eq (its its2 : List Value) (a c : Nat) : its.toArray.extract 0 a ++ its2.toArray ++ its.toArray.extract c its.toArray.size = (its.take a ++ its2 ++ its.drop c).toArray := by
  apply Array.toList_inj.mp
  first
    | (simp
       exact List.take_of_length_le (by simp))
    | simp [List.take_of_length_le]
    | simp
theorem bounds_run {a c n : Nat} (hac : a ≤ c) (hc : c ≤ n) : sliceBounds (some (a : Int)) (some (c : Int)) none n = ((a : Int), (c : Int), 1) := by
  simp only [sliceBounds, Option.getD_none]
  have h1 : ¬ ((a : Int) < 0) := by omega
  have h2 : ¬ ((c : Int) < 0) := by omega
  simp only [h1, h2, if_false, show (1 : Int) > 0 by decide, if_true]
  congr 1
  · omega
  · congr 1; omega
set_option maxRecDepth 100000 in
/-- list.__setitem__ with a slice of step one and another list -/
theorem setItem_slice {l b sl : Addr} {items new : Array Value} {n n2 : Nat} {vl vu : Value} {a c : Nat} {Q : Unit → Shared → Prop}
    (e : s.heap.get? l = some { cls := .type "list", data := .seq items n }) (e2 : s.heap.get? b = some { cls := .type "list", data := .seq new n2 }) (hne : l ≠ b)
    (hs : s.heap.IsSliceOf sl vl vu .none) (pl : IsPart vl (some (a : Int))) (pu : IsPart vu (some (c : Int))) (hac : a ≤ c) (hc : c ≤ items.size)
    (hsz : items.size + new.size ≤ sizeLine) (h : Q () { s with heap := s.heap.update l (Obj.mapSeq fun xs => xs.extract 0 a ++ new ++ xs.extract c xs.size) }) :
    wpAny (model prog w) A (setItem (.ref l) (.ref sl) (.ref b)) Q E s := by
  have hl : s.heap.IsList l items := PySem.IsL.isList e
  have hb : s.heap.IsList b new := PySem.IsL.isList e2
  obtain ⟨os, hos, hcs, hds⟩ := id hs
  have hTs : s.TypeIs (.ref sl) "slice" := ⟨os, hos, hcs⟩
  have hstep : ¬ ((rawPart none == rawInt 0) = true) := Bool.false_ne_true
  have hsame : Builtin.List.listSameRef (.ref l) (.ref b) = false := by
    unfold Builtin.List.listSameRef
    exact beq_eq_false_iff_ne.mpr hne
  have hmax : (max (a : Int) (c : Int)).toNat = c := by omega
  have hz' : ((fun xs : Array Value => xs.extract 0 a ++ new ++ xs.extract c xs.size) items).size ≤ sizeLine + 1 := by
    simp only [Array.size_append, Array.size_extract]
    omega
  unfold setItem
  try with_reducible refine wpAny_holding ?_
  first | refine wpAny_bind (wpAny_pure ?_) | skip
  refine wpAny_bind (wpAny_sequenceKey hl.typeIs (by decide) ?_)
  refine wpAny_bind (wpAny_callSpecial?_slot (name := Str.ofString "__setitem__") hl.typeIs slot_list_setitem
    (wpAny_call_entry slot_list_setitem hl.typeIs entry_list_setitem ?_ (args_list_setitem _ _ _)))
  show wpAny _ _ (Builtin.List.listSubscript? (.ref sl) >>= _) _ _ s
  refine wpAny_bind ?_
  unfold Builtin.List.listSubscript?
  refine wpAny_bind (wpAny_specialOf hTs slice_no_index ?_)
  simp only [Option.isNone_none, if_true]
  refine wpAny_pure ?_
  show wpAny _ _ (typeOf (.ref sl) >>= _) _ _ s
  refine wpAny_bind (wpAny_typeOf hTs ?_)
  first
    | rw [if_neg (by decide)]
    | refine PySem.W.KFB.if_not (by decide) ?_
  rw [listSliceParts_eq]
  refine wpAny_bind (wpAny_bind (wpAny_field hos hds (x := .none) rfl (wpAny_bind (wpAny_listPart .none ?_))))
  rw [if_neg hstep]
  refine wpAny_bind (wpAny_field hos hds (x := vl) rfl (wpAny_bind (wpAny_listPart pl ?_)))
  refine wpAny_bind (wpAny_field hos hds (x := vu) rfl (wpAny_bind (wpAny_listPart pu (wpAny_pure ?_))))
  first
    | simp only [hsame, Bool.false_eq_true, if_false]
    | refine PySem.W.KFB.if_not hsame ?_
    | (dsimp only
       rw [if_neg (by rw [hsame]; exact Bool.false_ne_true)])
  refine wpAny_bind (m := Builtin.List.listAllItems (.ref b) "must assign iterable to extended slice") ?_
  unfold Builtin.List.listAllItems
  refine wpAny_bind (wpAny_typeOf hb.typeIs ?_)
  first
    | refine PySem.W.KFB.if_so (by decide) ?_
    | rw [if_pos (by decide)]
    | simp only [beq_self_eq_true, Bool.true_or, if_true]
  unfold Builtin.List.listItems
  refine wpAny_bind (wpAny_seqItems e2 rfl (wpAny_pure ?_))
  refine wpAny_bind (wpAny_bind (wpAny_seqItems e rfl (wpAny_pure ?_)))
  refine wpAny_bind (wpAny_of_eq ((sliceIndices_raw (some (a : Int)) (some (c : Int)) none items.size (by simp)).trans (congrArg (pure : Int × Int × Int → Sem (Int × Int × Int)) (bounds_run hac hc))) ?_)
  show wpAny _ _ (if ((1 : Int) == 1) = true then _ else _) _ _ s
  rw [if_pos (by decide)]
  refine wpAny_bind (wpAny_rule ?_)
  first
    | simp only [notLongL hsz, Bool.false_eq_true, if_false]
    | refine PySem.W.KFB.if_not (notLongL hsz) ?_
  first | refine wpAny_bind (wpAny_pure ?_) | skip
  show wpAny _ _ (updateSeq l (fun xs => xs.extract 0 ((a : Int)).toNat ++ new ++ xs.extract (max (a : Int) (c : Int)).toNat xs.size) >>= _) _ _ s
  rw [hmax, Int.toNat_natCast]
  refine wpAny_bind (wpAny_updateSeq (hz := Nat.le_trans (Nat.le_add_right _ _) hsz) (_hz' := hz') e rfl ?_)
  refine wpAny_bind (wpAny_letGo ?_)
  first
    | exact wpAny_bind (wpAny_pure (wpAny_pure ⟨.none, rfl, wpAny_pure h⟩))
    | exact wpAny_pure ⟨.none, rfl, wpAny_pure h⟩
end

section
variable {X : Cx}
/-- xs[a:c] = ys of another list, at the value level: sl is the slice object that was just made -/
theorem set_slice {pins : List (Addr × Obj)} {s : Shared} {σ : St} {H : Hp} {l b sl : Addr} {xs ys : List V} {a c : Int} {vl vu : Value} {Q : Unit → Shared → Prop} (I : Inv X pins σ H s)
    (hH : H l = some (.lst xs)) (hB : H b = some (.lst ys)) (hne : l ≠ b) (hs : s.heap.IsSliceOf sl vl vu .none) (ra : RelV (.int a) vl) (rc : RelV (.int c) vu) (h0 : 0 ≤ a) (hac : a ≤ c) (hc : c ≤ xs.length)
    (hz : xs.length + ys.length ≤ sizeLine) (h : ∀ s', Inv X pins σ (upd H l (.lst (xs.take a.toNat ++ ys ++ xs.drop c.toNat))) s' → Q () s') :
    wpAny (model X.prog X.w) X.A (setItem (.ref l) (.ref sl) (.ref b)) Q X.xe s := by
  obtain ⟨ta, rfl⟩ := ra
  obtain ⟨tc, rfl⟩ := rc
  obtain ⟨z, its, n, r, hl, e⟩ := I.lstM hH
  obtain ⟨z2, its2, n2, r2, hl2, e2⟩ := I.lstM hB
  obtain ⟨a', rfl⟩ := Int.eq_ofNat_of_zero_le h0
  obtain ⟨c', rfl⟩ := Int.eq_ofNat_of_zero_le (Int.le_trans h0 hac)
  simp only [Int.toNat_natCast] at h
  refine setItem_slice (a := a') (c := c') e e2 hne hs (.int _ _) (.int _ _) (by omega) (by rw [List.size_toArray]; omega) (by rw [List.size_toArray, List.size_toArray]; omega) (h _ ?_)
  refine I.lset (its' := its.take a' ++ its2 ++ its.drop c') (t' := s.toks) hH e ?_ (Vals.append (Vals.append (r.take _) r2) (r.drop _)) ?_
  · exact splice_eq its its2 a' c'
  · rw [List.length_append, List.length_append, List.length_take, List.length_drop]
    omega
end
end L2

namespace Att
open PySem PySem.W PySem.Calls PyProof.Rows

/-! ### the script -/
theorem ints_of_wellAll {P : Params} {h : Heap} : ∀ (ns : List Int) (vs : List Value), WellAll P h vs (ns.map WData.int) → IntsAre vs ns := by
  intro ns
  induction ns with
  | nil =>
    intro vs w
    rw [List.map_nil] at w
    cases w
    exact .nil
  | cons n ns ih =>
    intro vs w
    rw [List.map_cons] at w
    cases w with
    | cons a b =>
      cases a
      exact .cons _ _ (ih _ b)

theorem script_of {l : OpenLaw} {n : Nat} (hn : l.most = some n) {P : Params} {h : Heap} {args : List WData} {vals : List Value}
    (hpre : l.row.toRowW.claim.pre args = true) (hwl : WellAll P h vals args) :
    ∃ a vs ns, vals = [Value.ref a] ∧ args = [WData.list (ns.map WData.int)] ∧ h.get? a = some { cls := .type "list", data := .seq vs.toArray } ∧ IntsAre vs ns ∧ ns.length ≤ n := by
  have hsh : WShape.hasAll [] args [.list .int] = true := (pre_splitW hpre).1
  have hc : l.pre.holds [] { args := args } = true := (pre_splitW hpre).2
  obtain ⟨d, r, rfl, h1, h2⟩ := hasAllW_cons hsh
  obtain rfl := hasAllW_nil h2
  obtain ⟨xs, rfl, h3⟩ := hasW_list h1
  obtain ⟨ns, rfl⟩ := items_int h3
  have hlen : ns.length ≤ n := by
    unfold OpenLaw.pre at hc
    have h4 : (WTm.not (.lt (.lit (.int (n : Int))) (.len (.arg 0)))).holds [] { args := [.list (ns.map .int)] } = true := by
      have h4 := (holds_andW hc).1
      rw [hn] at h4
      exact h4
    have h5 := condW_of h4 (w_not (w_lt w_lit (w_len_list (w_arg rfl))))
    rw [List.length_map] at h5
    refine Nat.le_of_not_lt fun q => ?_
    have q' : (n : Int) < ((ns.length : Nat) : Int) := by omega
    first
      | (rw [decide_eq_true q'] at h5; exact absurd h5 (by decide))
      | (simp at h5; omega)
  cases hwl with
  | cons w1 w2 =>
    cases w2
    cases w1 with
    | list ho hall => exact ⟨_, _, ns, rfl, rfl, ho, ints_of_wellAll ns _ hall, hlen⟩

theorem post_true (l : OpenLaw) (args : List WData) : l.row.toRowW.claim.post args (.bool true) args = true :=
  postW_of (r := l.row.toRowW) (X := (true == true))
    (show WShape.has [] (.bool true) .bool = true by first | rfl | decide | simp [WShape.has, WShape.arms, WShape.armsAll])
    (show (WTm.eq .res (.lit (.bool true))).value [] { args := args, res := some (.bool true), after := args } = some (.bool (true == true)) from w_eq_bool (w_res rfl) w_lit) rfl

/-! ### the attachment: holds_open's last premise (the goal 'hc' behind k_head) from a wpAny of the law's body -/
theorem attach {l : OpenLaw} {n : Nat} {q : Program} {loose : List Str} {XP : (Str → Option Value) → Heap → Prop} {YP : World → Heap → Prop} {d : DefRec} {x : Str}
    (hn : l.most = some n) (hdf : d.params.defaults = [])
    (hbind : ∀ pm cd doc v : Value, bindArgs (docDef d.name d.params d.body d.scope pm cd doc) ⟨[v], []⟩ = pure [(x, v)])
    (hx : d.scope.names.lookup x = some .local ∨ d.scope.names.lookup x = some .cell)
    (hk : d.scope.kind = .function) (hco : d.scope.isCoroutine = false) (hgen : d.scope.isGenerator = false)
    (body : ∀ (w : World) (s₀ s₁ s : Shared) (mg mb : Str → Option Value) (fa : Addr) (o : Obj) (pm cd doc : Value) (a : Addr) (vs : List Value) (ns : List Int),
      Ground q loose [] XP w s₀ mg mb s₁.heap → YP w s₁.heap →
      s₁.heap.get? fa = some o → o.data = .func (docDef d.name d.params d.body d.scope pm cd doc) → s₁.heap.CodeRec cd d.name → mg d.name = some (.ref fa) →
      s₁.heap.get? a = some { cls := .type "list", data := .seq vs.toArray } → IntsAre vs ns → ns.length ≤ n →
      s.gens = #[] → s.os = s₁.os →
      Fr s₁.heap s₁.heap.objs.size s.heap (bindL (envOfC d.name d.scope s₁.heap.objs.size fa cd).kindOf [(x, .ref a)] fun _ => none) →
      Cl s₁.heap.objs.size (cellsFrom (s₁.heap.objs.size + 1) d.scope.names []) s.heap (bindC (envOfC d.name d.scope s₁.heap.objs.size fa cd).kindOf [(x, .ref a)] fun _ => none) →
      wpAny (model l.prog w) (callerA.deeper (envOfC d.name d.scope s₁.heap.objs.size fa cd)) (execs d.body (envOfC d.name d.scope s₁.heap.objs.size fa cd))
        (fun f s' => f = .ret (.bool true) ∧ OldK s₁.heap s'.heap ∧ s'.os = s₁.os ∧ AllBare s'.gens) (fun _ _ => False) s) :
    WalkO q loose XP YP l.row.toRowW d [] (fun f vs => PySem.call f vs) := by
  intro w s₀ s₁ mg mb G Y fa o pm cd doc dV kV ho hd hcd hD hmg hg args vals as hpre hlay hrd hwl hlo
  obtain rfl : dV = .none := Dflts.none hD hdf
  obtain rfl : kV = .none := Dflts.noKw hD
  obtain ⟨a, vs, ns, rfl, rfl, hobj, hints, hlen⟩ := script_of hn hpre hwl
  refine enter_call ?_
  refine call_cells_ret (o := o) (by rw [depth_caller]; decide) ho (fd_plain hd) G.T.nolimit hcd (hbind pm cd doc (.ref a)) (fun y hy => ?_) (fun h₁ tk F X => ?_) hco hgen hk
  · obtain rfl : y = (x, Value.ref a) := List.mem_singleton.mp hy
    rcases hx with e | e
    · exact .inl e
    · exact .inr ⟨e, cellsFrom_some _ _ _ (.inl e)⟩
  · refine wpAny_mono (body w s₀ s₁ { s₁ with heap := h₁, toks := tk } mg mb fa o pm cd doc a vs ns G Y ho (fd_plain hd) hcd hmg hobj hints hlen hg rfl F X) (fun f s' hq => ?_) (fun _ _ hq => hq)
    obtain ⟨rfl, h2, h3, h4⟩ := hq
    exact ⟨.inl ⟨.bool true, .bool true, [], rfl, fun _ => rfl, .bool true, post_true l _, fun _ => ⟨List.Pairwise.nil, fun _ hm => (nomatch hm)⟩⟩, h2, h3, h4⟩

/-- the same from a codeAny of the CALL (for a layer whose function contracts speak of calls) -/
theorem attach_call {l : OpenLaw} {n : Nat} {q : Program} {loose : List Str} {XP : (Str → Option Value) → Heap → Prop} {YP : World → Heap → Prop} {d : DefRec}
    (hn : l.most = some n) (hdf : d.params.defaults = [])
    (call : ∀ (w : World) (s₀ s₁ : Shared) (mg mb : Str → Option Value) (fa : Addr) (o : Obj) (pm cd doc : Value) (a : Addr) (vs : List Value) (ns : List Int),
      Ground q loose [] XP w s₀ mg mb s₁.heap → YP w s₁.heap →
      s₁.heap.get? fa = some o → o.data = .func (docDef d.name d.params d.body d.scope pm cd doc) → s₁.heap.CodeRec cd d.name → mg d.name = some (.ref fa) →
      s₁.heap.get? a = some { cls := .type "list", data := .seq vs.toArray } → IntsAre vs ns → ns.length ≤ n → s₁.gens = #[] →
      codeAny (model l.prog w) callerA (.call (.ref fa) ⟨[.ref a], []⟩) (fun r s' => r = .ok (.ret (.bool true)) ∧ OldK s₁.heap s'.heap ∧ s'.os = s₁.os ∧ AllBare s'.gens) s₁) :
    WalkO q loose XP YP l.row.toRowW d [] (fun f vs => PySem.call f vs) := by
  intro w s₀ s₁ mg mb G Y fa o pm cd doc dV kV ho hd hcd hD hmg hg args vals as hpre hlay hrd hwl hlo
  obtain rfl : dV = .none := Dflts.none hD hdf
  obtain rfl : kV = .none := Dflts.noKw hD
  obtain ⟨a, vs, ns, rfl, rfl, hobj, hints, hlen⟩ := script_of hn hpre hwl
  refine enter_call (codeAny_mono (call w s₀ s₁ mg mb fa o pm cd doc a vs ns G Y ho (fd_plain hd) hcd hmg hobj hints hlen hg) fun r s' hq => ?_)
  obtain ⟨rfl, h2, h3, h4⟩ := hq
  exact ⟨.inl ⟨.bool true, .bool true, [], rfl, fun _ => rfl, .bool true, post_true l _, fun _ => ⟨List.Pairwise.nil, fun _ hm => (nomatch hm)⟩⟩, h2, h3, h4⟩

/-- the same where the top left finished generators (o_head chose holds_openN): nothing may have changed at all and no generator may be left -/
theorem attachN {l : OpenLaw} {n : Nat} {q : Program} {loose : List Str} {XP : (Str → Option Value) → Heap → Prop} {YP : World → Heap → Prop} {d : DefRec} {x : Str}
    (hn : l.most = some n) (hdf : d.params.defaults = [])
    (hbind : ∀ pm cd doc v : Value, bindArgs (docDef d.name d.params d.body d.scope pm cd doc) ⟨[v], []⟩ = pure [(x, v)])
    (hx : d.scope.names.lookup x = some .local ∨ d.scope.names.lookup x = some .cell)
    (hk : d.scope.kind = .function) (hco : d.scope.isCoroutine = false) (hgen : d.scope.isGenerator = false)
    (body : ∀ (w : World) (s₀ s₁ s : Shared) (mg mb : Str → Option Value) (fa : Addr) (o : Obj) (pm cd doc : Value) (a : Addr) (vs : List Value) (ns : List Int),
      Ground q loose [] XP w s₀ mg mb s₁.heap → YP w s₁.heap →
      s₁.heap.get? fa = some o → o.data = .func (docDef d.name d.params d.body d.scope pm cd doc) → s₁.heap.CodeRec cd d.name → mg d.name = some (.ref fa) →
      s₁.heap.get? a = some { cls := .type "list", data := .seq vs.toArray } → IntsAre vs ns → ns.length ≤ n →
      s.gens = #[] → s.os = s₁.os →
      Fr s₁.heap s₁.heap.objs.size s.heap (bindL (envOfC d.name d.scope s₁.heap.objs.size fa cd).kindOf [(x, .ref a)] fun _ => none) →
      Cl s₁.heap.objs.size (cellsFrom (s₁.heap.objs.size + 1) d.scope.names []) s.heap (bindC (envOfC d.name d.scope s₁.heap.objs.size fa cd).kindOf [(x, .ref a)] fun _ => none) →
      wpAny (model l.prog w) (callerA.deeper (envOfC d.name d.scope s₁.heap.objs.size fa cd)) (execs d.body (envOfC d.name d.scope s₁.heap.objs.size fa cd))
        (fun f s' => f = .ret (.bool true) ∧ (∀ b o, s₁.heap.get? b = some o → s'.heap.get? b = some o) ∧ s'.os = s₁.os ∧ s'.gens = #[]) (fun _ _ => False) s) :
    WalkN q loose XP YP l.row.toRowW d [] (fun f vs => PySem.call f vs) := by
  intro w s₀ s₁ mg mb G Y fa o pm cd doc dV kV ho hd hcd hD hmg hg args vals as hpre hlay hrd hwl hlo
  obtain rfl : dV = .none := Dflts.none hD hdf
  obtain rfl : kV = .none := Dflts.noKw hD
  obtain ⟨a, vs, ns, rfl, rfl, hobj, hints, hlen⟩ := script_of hn hpre hwl
  refine enter_callW ?_
  refine call_cells_ret (o := o) (by rw [depth_caller]; decide) ho (fd_plain hd) G.T.nolimit hcd (hbind pm cd doc (.ref a)) (fun y hy => ?_) (fun h₁ tk F X => ?_) hco hgen hk
  · obtain rfl : y = (x, Value.ref a) := List.mem_singleton.mp hy
    rcases hx with e | e
    · exact .inl e
    · exact .inr ⟨e, cellsFrom_some _ _ _ (.inl e)⟩
  · refine wpAny_mono (body w s₀ s₁ { s₁ with heap := h₁, toks := tk } mg mb fa o pm cd doc a vs ns G Y ho (fd_plain hd) hcd hmg hobj hints hlen hg rfl F X) (fun f s' hq => ?_) (fun _ _ hq => hq)
    obtain ⟨rfl, h2, h3, h4⟩ := hq
    exact ⟨.inl ⟨.bool true, .bool true, [], rfl, fun _ => rfl, .bool true, post_true l _, fun _ => ⟨List.Pairwise.nil, fun _ hm => (nomatch hm)⟩⟩, h2, h3, h4⟩

/-! ### rules over ANY heap (no ledger) from facts about the written part K: the library's own take a ledger (News) for what they write -/
section
variable {prog : Program} {w : World} {A : Around} {E : Value → Shared → Prop} {s : Shared} {K : Frag}

/-- a def of the module, or a method (qual 'C.m'), entered: the frame is the next address; cells behind it -/
theorem call_fn {R : Result → Shared → Prop} {name qual : Str} {params : Arguments} {body : List Stmt} {scope : Scope} {dV kV doc pm cdv ct oc : Value} {an od : Option Addr} {osl : Array (Option Value)} {f : Addr} {args : Args} {binds : List (Str × Value)}
    (X : K.In s.heap) (hlim : s.heap.NoLimit) (ho : K.lookup f = some ⟨oc, od, .func (fnOf name qual params body scope dV kV doc pm an cdv ct), osl⟩) (hcd : codeIn K cdv qual = true) (hroom : A.depth < recursionLimit)
    (hbind : BindsTo s (fnOf name qual params body scope dV kV doc pm an cdv ct) args binds)
    (hkind : (binds.all fun y => scope.names.lookup y.1 == some .local || scope.names.lookup y.1 == some .cell) = true)
    (h : ∀ s₁, InCallC s s.heap.objs.size (bindL (envOfC qual scope s.heap.objs.size f cdv).kindOf binds fun _ => none) (cellsFrom (s.heap.objs.size + 1) scope.names [])
        (bindC (envOfC qual scope s.heap.objs.size f cdv).kindOf binds fun _ => none) s₁ →
      wpAny (model prog w) (A.deeper (envOfC qual scope s.heap.objs.size f cdv)) (execs body (envOfC qual scope s.heap.objs.size f cdv))
        (fun fl s' => R (.ok (.ret (match fl with | .ret v => v | _ => .none))) s')
        (fun e s' => wpAny (model prog w) (A.deeper (envOfC qual scope s.heap.objs.size f cdv)) (leaving (envOfC qual scope s.heap.objs.size f cdv) e) (fun _ s'' => R (.error e) s'') (fun e' s'' => R (.error e') s'') s') s₁)
    (hco : scope.isCoroutine = false) (hgen : scope.isGenerator = false) (hk : scope.kind = .function) : codeAny (model prog w) A (.call (.ref f) args) R s := by
  refine codeAny_call_function hroom (X _ _ ho) rfl hco hgen rfl (codeRec_of X hcd) (hbind _ _ _ _ ?_)
  refine wpAny_newFunctionEnv_cells hk (kindsX hkind _) fun env he s₁ x => ?_
  subst he
  exact ⟨hlim.keeps x.toInCall.keep, codeAny_func (h s₁ x)⟩

/-- C(..): dict at size, instance at size + 1, then __init__ -/
theorem make_obj {R : Result → Shared → Prop} {C fI : Addr} {rest : List Value} {kw : List (Str × Value)}
    (X : K.In s.heap) (hm : makesIn K C = true) (hi : findIn K (.ref C) "__init__" = some (some (.ref fI))) (hf : isFn K (.ref fI) = true)
    (h : codeAny (model prog w) (A.under (.builtin "type.__call__" ⟨.ref C :: rest, kw⟩)) (.call (.ref fI) ⟨.ref (s.heap.objs.size + 1) :: rest, kw⟩) (InitBack (s.heap.objs.size + 1) R)
      { s with heap := (s.heap.push emptyDict).push (instObj C s.heap.objs.size) }) : codeAny (model prog w) A (.call (.ref C) ⟨rest, kw⟩) R s := by
  obtain ⟨hh, g, d, t, os⟩ := s
  exact make_core (makes_of X hm) (looks_findIn X hi) (fun self => bind_fn X self (beq_iff_eq.mp hf)) (.inl rfl) h

/-- x.name where the instance's dict holds the name and the class does not -/
theorem get_field {x C : Addr} {ox : Obj} {es : List DictEntry} {n : Nat} {name : Str} {expr : Bool} {v : Value} {Q : Value → Shared → Prop}
    (X : K.In s.heap) (I : PySem.W.InstAt s.heap x ox C (some (dictOf es n))) (hg : plainGet K C name = true) (hh : hasDictIn K C = true) (ha : findIn K (.ref C) name = some none)
    (hl : getL name es = some (some v)) (hv : handedIn v = true) (h : Q v { s with toks := s.toks + 1 }) : wpAny (model prog w) A (getAttr (.ref x) name expr) Q E s :=
  get_value X I (plainGet_of hg).1 (findObj_own hh ha rfl hl) hv h

/-- x.m(..): the method found in the class -/
theorem get_method {x C f : Addr} {ox : Obj} {es : List DictEntry} {n : Nat} {name : Str} {pl : Sem Bool} {Q : Value × List Value → Shared → Prop}
    (X : K.In s.heap) (I : PySem.W.InstAt s.heap x ox C (some (dictOf es n))) (hg : plainGet K C name = true) (hf : findIn K (.ref C) name = some (some (.ref f))) (ht : isFn K (.ref f) = true)
    (hl : getL name es = some none) (h : Q (.ref f, [.ref x]) s) : wpAny (model prog w) A (getMethod (.ref x) name pl) Q E s :=
  method_fn X I (plainGet_of hg).1 (plainGet_of hg).2 hf (beq_iff_eq.mp ht) (by show (lookIn name (dictOf es n)).map _ = _; rw [lookIn_dict, hl]; rfl) h

/-! the whole heap as the ledger: makes every rule that writes through a ledger a rule over any heap -/
def noObjs (h : Heap) : Heap := { h with objs := #[] }
theorem noObjs_get (h : Heap) (b : Addr) : (noObjs h).get? b = none := by
  cases e : (noObjs h).get? b with
  | none => rfl
  | some o => exact absurd (Heap.lt_size e) (Nat.not_lt_zero _)
def ledger (h : Heap) (L d : Addr) : List (Addr × Obj) := (List.range h.objs.size).filterMap fun a => if a = L ∨ a = d then none else (h.get? a).map fun o => (a, o)
theorem mem_ledger {h : Heap} {L d a : Addr} {o : Obj} : (a, o) ∈ ledger h L d ↔ a ≠ L ∧ a ≠ d ∧ h.get? a = some o := by
  unfold ledger
  rw [List.mem_filterMap]
  constructor
  · rintro ⟨b, _, e⟩
    split at e
    · cases e
    · rename_i hb
      obtain ⟨o', ho, e'⟩ := Option.map_eq_some_iff.mp e
      cases e'
      exact ⟨fun q => hb (.inl q), fun q => hb (.inr q), ho⟩
  · rintro ⟨n1, n2, ho⟩
    refine ⟨a, List.mem_range.mpr (Heap.lt_size ho), ?_⟩
    rw [if_neg (show ¬ (a = L ∨ a = d) from fun q => q.elim n1 n2), ho] <;> rfl
theorem news_ledger {h : Heap} {L d : Addr} {od : Obj} (hne : d ≠ L) (ho : h.get? d = some od) : News (noObjs h) L h ([] ++ (d, od) :: ledger h L d) := by
  rintro ⟨a, o⟩ hp
  rcases List.mem_cons.mp hp with e | hp
  · cases e
    exact ⟨ho, hne, noObjs_get _ _⟩
  · obtain ⟨n1, n2, e⟩ := mem_ledger.mp hp
    exact ⟨e, n1, noObjs_get _ _⟩
theorem fr_all {h : Heap} {L : Addr} {m : Str → Option Value} (n : h.Ns L m) : Fr (noObjs h) L h m :=
  ⟨n, fun b o e => (by rw [noObjs_get] at e; cases e), Nat.zero_le _⟩
/-- Upd of the head entry (for append_K, setItem_K ..) -/
theorem upd_ledger {h : Heap} {L d : Addr} {o o' : Obj} : Upd d o o' ((d, o) :: ledger h L d) ((d, o') :: ledger h L d) :=
  .head fun ⟨_, _⟩ hp => (mem_ledger.mp hp).2.1

/-- x.name = v over any heap: L is any namespace of the heap (the frame's, say): its map stays, its object is not told; all else but the dict stays -/
theorem set_field {x C dx L : Addr} {ox : Obj} {m : Str → Option Value} {es es' : List DictEntry} {n n' : Nat} {name : Str} {v : Value} {Q : Unit → Shared → Prop}
    (X : K.In s.heap) (I : PySem.W.InstAt s.heap x ox C (some (dictOf es n))) (hd : ox.dict = some dx) (hL : s.heap.Ns L m) (hne : dx ≠ L)
    (hs : findIn K (.ref C) "__setattr__" = some (some (.builtin "object.__setattr__"))) (hp : plainOver K C = true) (ht : takerIn K C name = some none) (hh : hasDictIn K C = true) (hl : (getL name es).isSome = true)
    (e : (putL name (PyData.keyHash w.params name) (.str name (s.toks + 1)) v es, putN name es n) = (es', n')) (hz : es'.length ≤ 1000)
    (h : ∀ h' : Heap, h'.Ns L m → h'.get? dx = some (dictOf es' n') → (∀ b o, b ≠ dx → b ≠ L → s.heap.get? b = some o → h'.get? b = some o) → Q () { s with heap := h', toks := s.toks + 2 }) :
    wpAny (model prog w) A (setAttr (.ref x) name v) Q E s := by
  obtain ⟨e1, e2⟩ := Prod.mk.inj e
  have hdx : s.heap.get? dx = some (dictOf es n) := by
    have := I.dict
    rw [hd] at this
    exact this
  refine set_plain X I hs (osa_dict (s := { s with toks := s.toks + 1 }) (h₀ := noObjs s.heap) (L := L) (m := m) (od := dictOf es n) (od' := dictOf es' n') (es := es') (n := n') (pre := []) (post := ledger s.heap L dx)
    (fr_all hL) (news_ledger hne hdx) X I hd hp ht hh hl (fun _ q => nomatch q) (fun ⟨_, _⟩ q => (mem_ledger.mp q).2.1) (by rw [putName_dict, e1, e2]) rfl hz fun h' F' N' => ?_)
  exact h h' F'.ns (N'.get (List.Mem.head _)) fun b o n1 n2 ho => N'.get (List.Mem.tail _ (mem_ledger.mpr ⟨n2, n1, ho⟩))
end
end Att

namespace L2
open PySem PySem.Spec PyProof.Rows

theorem vals_ints : ∀ {vs : List Value} {ns : List Int}, IntsAre vs ns → Vals (ns.map V.int) vs
  | _, _, .nil => .nil
  | _, _, .cons n t h => .cons ⟨t, rfl⟩ (vals_ints h)

/-- nothing is tracked but the script, known to the object (or it is an object of the module) -/
def Only (H : Hp) : Prop := ∀ b, H b = none ∨ ∃ o xs, H b = some (.frz o (.lst xs))

/-- THE HEAD: the law's promise, at the heap behind the top. F, the promise of the law's def, may use that base is part of the heap (so K.In base, base.Ns mainGlobals mg stand in Mod) -/
theorem law_call {P : Program} {w : World} {K : PySem.W.Frag} {mg mb : Str → Option Value} {CX : CXT} {k : Nat} {fa a : Addr} {fd : FuncData} {x : Str} {sp : Sp} {s₁ : Shared} {vs : List Value} {ns : List Int}
    (KX : K.In s₁.heap) (hns : s₁.heap.Ns mainGlobals mg) (hb : s₁.heap.Ns builtinsNs mb) (hbb : ∀ x : Str, x ≠ "__name__" → mb x = bootBuiltins x) (hlim : s₁.heap.NoLimit) (hg : s₁.gens = #[])
    (ha : s₁.heap.get? a = some { cls := .type "list", data := .seq vs.toArray }) (hi : IntsAre vs ns) (hl : ns.length ≤ sizeLine) (hr : Room k callerA)
    (F : ∀ base : Heap, K.In base → base.Ns mainGlobals mg → FnOk P w K mg base CX k fa fd [x] sp) (hbind : ∀ (s : Shared) (u : Value), BindsTo s fd ⟨[u], []⟩ [(x, u)])
    (hsp : ∀ H : Hp, Only H → SqL K H a (ns.map V.int) → sp [.ref a] H (fun v _ => v = .bl true) fun _ _ _ => False)
    (hCX : ∀ H e s', CX [] H s₁ (fun _ _ _ => False) e s' → False) :
    codeAny (model P w) callerA (.call (.ref fa) ⟨[.ref a], []⟩) (fun r s' => r = .ok (.ret (.bool true)) ∧ OldK s₁.heap s'.heap ∧ s'.os = s₁.os ∧ AllBare s'.gens) s₁ := by
  have rv := vals_ints hi
  have lenV := hi.length
  -- from an abstract heap in which nothing but the script may be tracked
  have core : ∀ H : Hp, Only H → SqL K H a (ns.map V.int) → HOk P w H s₁.heap → (∀ b, H b ≠ none → b = a) → (H a ≠ none → K.lookup a = none) →
      codeAny (model P w) callerA (.call (.ref fa) ⟨[.ref a], []⟩) (fun r s' => r = .ok (.ret (.bool true)) ∧ OldK s₁.heap s'.heap ∧ s'.os = s₁.os ∧ AllBare s'.gens) s₁ := by
    intro H hO hS hok hA hK
    have base_of : ∀ {b : Addr} {o : Obj}, s₁.heap.get? b = some o → H b = none → (hidT s₁.heap H).get? b = some o := fun e n => hidT_get e n
    have noA : ∀ {b : Addr} {o : Obj} {es : Array DictEntry} {ep : Nat}, s₁.heap.get? b = some o → o.data = .dict es ep → H b = none := fun {b o es ep} e d => by
      cases q : H b with
      | none => rfl
      | some u =>
        have e' : b = a := hA b (by rw [q]; simp)
        subst e'
        rw [ha] at e; cases e
        have d' : Data.seq vs.toArray _ = Data.dict es ep := d
        cases d'
    have nsK : ∀ {b : Addr} {m : Str → Option Value}, s₁.heap.Ns b m → (hidT s₁.heap H).Ns b m := fun {b m} ⟨o, es, ep, e, d, r⟩ => ⟨o, es, ep, base_of e (noA e d), d, r⟩
    have hKb : K.In (hidT s₁.heap H) := fun b o e => base_of (KX b o e) (by
      cases q : H b with
      | none => rfl
      | some u =>
        have e' : b = a := hA b (by rw [q]; simp)
        subst e'
        rw [hK (by rw [q]; simp)] at e; cases e)
    have hM : Mod K mg (hidT s₁.heap H) := ⟨hKb, nsK hns, ⟨mb, nsK hb, hbb⟩, let ⟨mc, h1, h2⟩ := hlim; ⟨mc, nsK h1, h2⟩⟩
    have e0 : Env0 P w K mg (hidT s₁.heap H) callerA [] s₁ H := ⟨rfl, hM, fun b o e => of_hidT e, Nat.le_of_eq (hidT_size _ _), trivial, fun b hb => absurd (show b ∈ ([] : List Addr) from hb) (by simp), hok, .of_eq hg⟩
    refine codeAny_mono ((F _ hKb (nsK hns)).run callerA [] s₁ H ⟨[.ref a], []⟩ [.ref a] [.ref a] _ _ hr e0 (hbind s₁ (.ref a)) (.cons rfl .nil) (hsp H hO hS)) fun r s' h => ?_
    cases r with
    | error e => exact (hCX H e s' h).elim
    | ok fl =>
      cases fl with
      | next => exact False.elim h
      | brk => exact False.elim h
      | cont => exact False.elim h
      | ret u =>
        obtain ⟨v, H', os, bare, un, hok', r', q⟩ := h
        have q' : v = .bl true := q
        subst q'
        obtain rfl : u = Value.bool true := r'
        refine ⟨rfl, OldK.of_keep fun b o e => ?_, os, bare⟩
        cases q : H b with
        | none => exact un.keep b o e q (by intro z; exact absurd (show b ∈ ([] : List Addr) from z) (by simp)) (by simp)
        | some u =>
          rcases hO b with z | ⟨ob, xs, z⟩
          · rw [q] at z; cases z
          · have z2 := un.frzs b ob _ z
            obtain ⟨e1, _⟩ := hok b _ z
            obtain ⟨e2, _⟩ := hok' b _ z2
            rw [e] at e1; cases e1
            exact e2
  cases hk : K.lookup a with
  | some o =>
    -- the script is one of the module's own objects
    have e := KX a o hk
    rw [ha] at e
    cases e
    refine core (fun _ => none) (fun _ => .inl rfl) (.inr ⟨_, vs.toArray, _, hk, rfl, rfl, rfl, by rw [List.size_toArray, lenV]; exact hl, by simpa using rv⟩) (fun b u z => by have z' : (none : Option HO) = some u := z; cases z') (fun b z => absurd rfl z) fun z => absurd rfl z
  | none =>
    refine core (fun b => if b = a then some (.frz { cls := .type "list", data := .seq vs.toArray } (.lst (ns.map V.int))) else none) (fun b => ?_) (.inl (.inr ⟨{ cls := .type "list", data := .seq vs.toArray }, if_pos rfl⟩)) (fun b u z => ?_) (fun b z => ?_) fun _ => hk
    · by_cases hb : b = a
      · exact .inr ⟨_, _, if_pos hb⟩
      · exact .inl (if_neg hb)
    · by_cases hb : b = a
      · have z' := (if_pos hb).symm.trans z
        cases z'
        subst hb
        exact ⟨ha, by rw [List.length_map]; exact hl, vs, _, rv, ha⟩
      · have z' := (if_neg hb).symm.trans z
        cases z'
    · by_cases hb : b = a
      · exact hb
      · exact absurd (if_neg hb) z
end L2

namespace L2
open PySem PySem.Spec PyProof.Rows

abbrev KOf {K : PySem.W.Frag} {h : Heap} (_ : K.In h) : PySem.W.Frag := K

/-- the goal that k_head leaves (case hc), from the law's promise. F gives the function object fd (K's own) once, then the promise over every base -/
theorem walk_of {l : PySem.W.OpenLaw} {n k : Nat} {q : Program} {loose : List Str} {XP : (Str → Option Value) → Heap → Prop} {YP : World → Heap → Prop} {d : DefRec} {K : Params → PySem.W.Frag} {CX : World → CXT} {sp : World → Sp} {x : Str}
    (hn : l.most = some n) (hn2 : n ≤ sizeLine) (hdf : d.params.defaults = []) (hr : Room k callerA)
    (hY : ∀ (w : World) (h : Heap), YP w h → (K w.params).In h)
    (F : ∀ (w : World) (mg : Str → Option Value) (fa : Addr) (h : Heap), (K w.params).In h → h.Ns mainGlobals mg → mg d.name = some (.ref fa) →
      ∃ fd : FuncData, (∀ (s : Shared) (u : Value), BindsTo s fd ⟨[u], []⟩ [(x, u)]) ∧
        ∀ base : Heap, (K w.params).In base → base.Ns mainGlobals mg → FnOk l.prog w (K w.params) mg base (CX w) k fa fd [x] (sp w))
    (hsp : ∀ (w : World) (H : Hp) (a : Addr) (ns : List Int), ns.length ≤ n → Only H → SqL (K w.params) H a (ns.map V.int) → sp w [.ref a] H (fun v _ => v = .bl true) fun _ _ _ => False)
    (hCX : ∀ (w : World) (H : Hp) (s : Shared) (e : Value) (s' : Shared), CX w [] H s (fun _ _ _ => False) e s' → False) :
    PySem.W.WalkO q loose XP YP l.row.toRowW d [] (fun f vs => PySem.call f vs) := by
  refine Att.attach_call hn hdf fun w s₀ s₁ mg mb fa o pm cd doc a vs ns G Y ho hd hcd hmg hobj hints hlen hg => ?_
  have KX := hY w _ Y
  obtain ⟨fd, hb, hF⟩ := F w mg fa _ KX G.T.g hmg
  exact law_call KX G.T.g G.T.b G.T.builtins G.T.nolimit hg hobj hints (Nat.le_trans hlen hn2) hr hF hb (fun H hO hS => hsp w H a ns hlen hO hS) fun H e s' => hCX w H s₁ e s'
/-- the same where the promise hangs on the written part alone: (sp := My.sp_law), no hole under a binder -/
theorem walk_ofK {l : PySem.W.OpenLaw} {n k : Nat} {q : Program} {loose : List Str} {XP : (Str → Option Value) → Heap → Prop} {YP : World → Heap → Prop} {d : DefRec} {K : Params → PySem.W.Frag} {CX : CXT} {sp : PySem.W.Frag → Sp} {x : Str}
    (hn : l.most = some n) (hn2 : n ≤ sizeLine) (hdf : d.params.defaults = []) (hr : Room k callerA)
    (hY : ∀ (w : World) (h : Heap), YP w h → (K w.params).In h)
    (F : ∀ (w : World) (mg : Str → Option Value) (fa : Addr) (h : Heap), (K w.params).In h → h.Ns mainGlobals mg → mg d.name = some (.ref fa) →
      ∃ fd : FuncData, (∀ (s : Shared) (u : Value), BindsTo s fd ⟨[u], []⟩ [(x, u)]) ∧
        ∀ base : Heap, (K w.params).In base → base.Ns mainGlobals mg → FnOk l.prog w (K w.params) mg base CX k fa fd [x] (sp (K w.params)))
    (hsp : ∀ (K : PySem.W.Frag) (H : Hp) (a : Addr) (ns : List Int), ns.length ≤ n → Only H → SqL K H a (ns.map V.int) → sp K [.ref a] H (fun v _ => v = .bl true) fun _ _ _ => False)
    (hCX : ∀ (H : Hp) (s : Shared) (e : Value) (s' : Shared), CX [] H s (fun _ _ _ => False) e s' → False) :
    PySem.W.WalkO q loose XP YP l.row.toRowW d [] (fun f vs => PySem.call f vs) :=
  walk_of (K := K) (CX := fun _ => CX) (sp := fun w => sp (K w.params)) hn hn2 hdf hr hY F (fun w H a ns h1 h2 h3 => hsp (K w.params) H a ns h1 h2 h3) fun _ H s e s' => hCX H s e s'
end L2

/- THE LAST THEOREM (shape; LID, My.* are yours):
   My.Adr: a structure of the addresses that your layer names (classes, functions); My.Txt K t: a structure (Prop) of the equations over K;
   My.txt_mk : {K} {implicit addresses ..} (e1 : nsIn K mainGlobals "law" = some (some (.ref f))) (e2 : K.lookup f = some ⟨oc, od, .func (fnOf "law" "law" params body scope dV kV doc pm an cdv ct), sl⟩) (e3 : codeIn K cdv "law" = true) .. : ∃ t, My.Txt K t

set_option maxRecDepth 100000 in
set_option maxHeartbeats 0 in
theorem PySem.Challenge.cw_LID_holds : PySem.Challenge.rw_LID.Holds := by
  w_on; o_law; k_head; (case hw => w_witness2)
  k_fill
  refine L2.walk_of (l := PySem.Challenge.rw_LID) (n := 63) (k := 40) (x := "script") (CX := fun w => ..) (sp := fun _ => My.sp_law) rfl (by decide) rfl ⟨rfl, by decide, by decide⟩ (fun w h Y => PySem.W.kIn_of Y) ?F ?S ?C
  case F =>
    intro w mg fa h KX G hmg
    have T : ∃ t, My.Txt (L2.KOf KX) t := by
      dsimp only [L2.KOf]                          -- K must stand as «<heap const> w.params» for k_is
      refine' My.txt_mk ?e1 ?e2 ?e3 ..
      (case e1 => PySem.W.k_is)                    -- in the order: a name -> its address -> its object -> its parts
      (case e2 => PySem.W.k_is)
      ..
    obtain ⟨t, T⟩ := T
    have e0 := hmg.symm.trans (PySem.W.mg_of KX G T.law)
    cases e0                                       -- fa is the law's own address
    exact ⟨_, fun s u => .of_eq rfl, fun base kb nb => My.law_fn T kb nb⟩     -- if «.of_eq rfl» comes too early: refine' ⟨_, ?b, fun base kb nb => My.law_fn T kb nb⟩; exact fun s u => .of_eq rfl
  case S => exact fun w H a ns hl hO hS => ..
  case C => exact ..
(the tactic k_is has no namespace: write k_is) -/

/-! SHORT WORDS over the layer: a def of the text, its body, what a loop and a test want. -/
namespace L2
open PySem PySem.Spec PyProof.Rows

/-! ### the text by places -/
/-- the j-th statement of a class's body -/
def inClass (s : Stmt) (j : Nat) : Stmt := match s with
  | .ClassDef _ _ _ body _ _ _ _ _ _ _ => body.getD j (.Pass ⟨0, 0, 0, 0⟩)
  | _ => .Pass ⟨0, 0, 0, 0⟩
def defArgs (s : Stmt) : Arguments := match s with
  | .FunctionDef _ a _ _ _ _ _ _ _ _ => a
  | _ => { posonlyargs := [], args := [], vararg := none, kwonlyargs := [], kw_defaults := [], kwarg := none, defaults := [] }
def defBody (s : Stmt) : List Stmt := match s with
  | .FunctionDef _ _ b _ _ _ _ _ _ _ => b
  | _ => []
def defScope (s : Stmt) : Scope := match s with
  | .FunctionDef _ _ _ _ _ _ sc _ _ _ => sc
  | _ => { kind := .function, names := [], isGenerator := false, isCoroutine := false }

/-! ### no exception leaves a def -/
abbrev CX0 : CXT := fun _ _ _ _ _ _ => False
abbrev E0 : XK := fun _ _ _ => False
theorem pass0 {X : Cx} : Passes CX0 X E0 := fun _ _ _ _ _ _ _ h => h.elim

/-! ### a def (or method) of the text as it stands behind the top -/
structure Fun (K : PySem.W.Frag) (x qual : Str) (st : Stmt) (f : Addr) (fd : FuncData) : Prop where
  ex : ∃ (oc : Value) (od : Option Addr) (kV doc pm : Value) (an : Option Addr) (cdv ct : Value) (osl : Array (Option Value)),
    fd = PySem.W.fnOf x qual (defArgs st) (defBody st) (defScope st) .none kV doc pm an cdv ct ∧ K.lookup f = some ⟨oc, od, .func fd, osl⟩ ∧ PySem.W.codeIn K cdv qual = true
  kp : PySem.W.keepIn K (.ref f) = true
section
variable {P : Program} {w : World} {K : PySem.W.Frag} {mg : Str → Option Value} {base : Heap}
/-- THE RULE for a def: its body as a term of rules, and the reading of that term -/
theorem Fun.ok {x qual : Str} {st : Stmt} {f : Addr} {fd : FuncData} {N ps : List Str} {k : Nat} {sp : Sp} (F : Fun K x qual st f fd) (S : FnScope N ps (defScope st)) (len : ∀ vs H Q E, sp vs H Q E → vs.length = ps.length)
    (hbody : ∀ (cdv : Value) (A : Around) (outer : List Env) (s : Shared) (H : Hp) (vs : List V) (Q : VK) (E : XK), Room k (A.deeper (envOfC qual (defScope st) s.heap.objs.size f cdv)) → sp vs H Q E →
      ∃ t, PSs (cxOf CX0 P w K mg base N qual (defScope st) f cdv A outer s H E).nox (defBody st) t ∧ t { nx := fun _ H' => Q .non H', rt := Q } (start N vs) H) : FnOk P w K mg base CX0 (k + 1) f fd ps sp := by
  obtain ⟨oc, od, kV, doc, pm, an, cdv, ct, osl, rfl, lk, hcd⟩ := F.ex
  refine fn_of lk hcd S len fun A outer s H vs Q E hr hsp => ?_
  obtain ⟨t, h, q⟩ := hbody cdv A outer s H vs Q E hr hsp
  exact ⟨t, h.nox, q⟩
/-- how its arguments bind (no defaults): h is «fun _ _ _ _ _ _ us hl => match us, hl with | [_, _], _ => rfl», one _ a parameter -/
theorem Fun.binds {x qual : Str} {st : Stmt} {f : Addr} {fd : FuncData} {ps : List Str} (F : Fun K x qual st f fd)
    (h : ∀ (kV doc pm : Value) (an : Option Addr) (cdv ct : Value) (us : List Value), us.length = ps.length → bindArgs (PySem.W.fnOf x qual (defArgs st) (defBody st) (defScope st) .none kV doc pm an cdv ct) ⟨us, []⟩ = pure (ps.zip us)) : Binds K fd ps [] := by
  obtain ⟨oc, od, kV, doc, pm, an, cdv, ct, osl, rfl, lk, hcd⟩ := F.ex
  exact .all (h kV doc pm an cdv ct)
theorem fun_mk {x qual : Str} {st : Stmt} {f : Addr} {oc : Value} {od an : Option Addr} {osl : Array (Option Value)} {kV doc pm cdv ct : Value} (l : K.lookup f = some ⟨oc, od, .func (PySem.W.fnOf x qual (defArgs st) (defBody st) (defScope st) .none kV doc pm an cdv ct), osl⟩)
    (c : PySem.W.codeIn K cdv qual = true) (k : PySem.W.keepIn K (.ref f) = true) : Fun K x qual st f (PySem.W.fnOf x qual (defArgs st) (defBody st) (defScope st) .none kV doc pm an cdv ct) := ⟨⟨oc, od, kV, doc, pm, an, cdv, ct, osl, rfl, l, c⟩, k⟩
end
theorem hu_of {A : Around} {k : Nat} (hr : Room k A) : A.units + 1 < cLine := Nat.lt_of_le_of_lt (Nat.add_le_add_left (by decide : 1 ≤ 64) _) hr.units
theorem small1000 {n : Nat} (h : n ≤ 1000) : n < sizeLine := Nat.lt_of_le_of_lt h (by decide)

/-! ### expressions in short: the name that stands in the i-th slot -/
section
variable {X : Cx}
theorem pv (i : Nat) {x : Str} {pos : Pos} (hN : X.N[i]? = some x := by rfl) (hv : Vis X.env.scope x := by first | exact Or.inl rfl | exact Or.inr (Or.inl rfl) | exact Or.inr (Or.inr rfl)) (hd : (x == ("__debug__" : Str)) = false := by decide)
    (hcd : (x == ("__classdict__" : Str)) = false := by decide) : PE X (.Name x pos) (tVar i) := pe_var hN hv hd hcd
end

/-! ### tests -/
theorem iteF {A B : Prop} (h : B) : if false = true then A else B := by
  rw [if_neg Bool.false_ne_true]
  exact h
theorem iteT {A B : Prop} (h : A) : if true = true then A else B := by
  rw [if_pos rfl]
  exact h
theorem ite2 {c A B : Prop} [Decidable c] (h1 : c → A) (h2 : ¬ c → B) : if c then A else B := by
  by_cases h : c
  · rw [if_pos h]
    exact h1 h
  · rw [if_neg h]
    exact h2 h
theorem iteNS {c A B : Prop} [Decidable c] (hc : c) (h : B) : if (!decide c) = true then A else B := by
  rw [decide_eq_true hc]
  exact iteF h

/-! ### heaps -/
/-- all that was tracked is as it was -/
def Same (H H' : Hp) : Prop := ∀ b o, H b = some o → H' b = some o
theorem Same.refl (H : Hp) : Same H H := fun _ _ h => h
theorem Same.trans {H H1 H2 : Hp} (a : Same H H1) (b : Same H1 H2) : Same H H2 := fun c o h => b c o (a c o h)
theorem Same.free {H H' : Hp} (e : Same H H') {l : Addr} (h : H' l = Option.none) : H l = Option.none := by
  cases q : H l with
  | none => rfl
  | some o =>
    rw [e l o q] at h
    cases h
theorem Same.seq {K : PySem.W.Frag} {H H' : Hp} {a : Addr} {xs : List V} (e : Same H H') (h : SqL K H a xs) : SqL K H' a xs := by
  rcases h with (h | ⟨o, h⟩) | h
  · exact .inl (.inl (e _ _ h))
  · exact .inl (.inr ⟨o, e _ _ h⟩)
  · exact .inr h

end L2
namespace L2
open PySem PySem.Spec PyProof.Rows
section
variable {X : Cx}
theorem call_isinst : CallR X (.builtin "isinstance") (fun xs H Q => ∃ x T t b, xs = [x, .ty T] ∧ TyOf X.K H x t ∧ PySem.W.kitOne X.K t (.type T) = some b ∧ Q (.bl b) H) := by
  intro pins s σ H xs us Q I r h
  obtain ⟨x, T, t, b, rfl, ty, e, q⟩ := h
  obtain ⟨u, w', rfl, rx, ry⟩ := vals2 r
  cases ry
  exact isinst_ok I rx ty e fun tk => ⟨.bl b, H, I.tok _, rfl, q⟩
theorem kit_same (K : PySem.W.Frag) (T : String) : PySem.W.kitOne K (.type T) (.type T) = some true := by
  unfold PySem.W.kitOne
  rw [if_pos (beq_self_eq_true _)]
theorem kit_tup_str (K : PySem.W.Frag) : PySem.W.kitOne K (.type "tuple") (.type "str") = some false := by
  with_unfolding_all rfl
theorem kit_int_bool (K : PySem.W.Frag) : PySem.W.kitOne K (.type "int") (.type "bool") = some false := by
  with_unfolding_all rfl
def rNeE (K : PySem.W.Frag) : R2 := fun x y H Q => ∃ a b xs, x = .ref a ∧ y = .ref b ∧ SqL K H a xs ∧ SqL K H b [] ∧ Q (.bl (!xs.isEmpty)) H
theorem op_neE (hu : X.A.units < cLine) : OpR X (compareOp .NotEq) (rNeE X.K) := by
  intro pins s σ H x y v u Q I rx ry h
  obtain ⟨a, b, xs, rfl, rfl, ha, hb, q⟩ := h
  cases rx
  cases ry
  obtain ⟨its, r, pl, hz⟩ := I.list ha
  obtain ⟨its2, r2, pl2, hz2⟩ := I.list hb
  cases r2
  cases r with
  | nil => exact SeqAt.RcNeAt.lists (e := fun _ => true) pl.isList pl2.isList rfl hu (fun j h1 => absurd h1 (Nat.not_lt_zero _)) _ _ _ _ ⟨.bl false, H, I, rfl, q⟩
  | cons r1 r2 => exact SeqAt.RcNeAt.lists_lengths pl.isList pl2.isList (by simp) hu _ _ _ _ ⟨.bl true, H, I, rfl, q⟩
def rEqE (K : PySem.W.Frag) : R2 := fun x y H Q => ∃ a b xs, x = .ref a ∧ y = .ref b ∧ SqL K H a xs ∧ SqL K H b [] ∧ Q (.bl xs.isEmpty) H
theorem op_eqE (hu : X.A.units < cLine) : OpR X (compareOp .Eq) (rEqE X.K) := by
  intro pins s σ H x y v u Q I rx ry h
  obtain ⟨a, b, xs, rfl, rfl, ha, hb, q⟩ := h
  cases rx
  cases ry
  obtain ⟨its, r, pl, hz⟩ := I.list ha
  obtain ⟨its2, r2, pl2, hz2⟩ := I.list hb
  cases r2
  cases r with
  | nil => exact SeqAt.RcAt.lists (e := fun _ => true) pl.isList pl2.isList rfl hu (fun j h1 => absurd h1 (Nat.not_lt_zero _)) _ _ _ _ ⟨.bl true, H, I, rfl, q⟩
  | cons r1 r2 => exact SeqAt.RcAt.lists_lengths pl.isList pl2.isList (by simp) hu _ _ _ _ ⟨.bl false, H, I, rfl, q⟩
/-- xs.index(y), the first place j at which it stands -/
def rIndex (K : PySem.W.Frag) : V → List V → Hp → VK → Prop := fun x vs H Q => ∃ l xs y j z, x = .ref l ∧ vs = [y] ∧ SqL K H l xs ∧ flatV y = true ∧ xs.all flatV = true ∧ xs[j]? = some z ∧ eqV z y = true ∧
  (∀ m c, m < j → xs[m]? = some c → eqV c y = false) ∧ Q (.int (j : Nat)) H
theorem mt_index : MtR X "list.index" (rIndex X.K) := by
  intro pins s σ H x vs v us Q I rx rv h
  obtain ⟨l, xs, y, j, z, rfl, rfl, hq, fy, fxs, hz, he, hno, q⟩ := h
  cases rx
  obtain ⟨u, rfl, ru⟩ := rv.one
  obtain ⟨its, r, pl, hs⟩ := I.list hq
  obtain ⟨o, n, ho, hc, hd, hdata⟩ := pl
  obtain ⟨cls, dd, data, sl⟩ := o
  simp only at hc hd hdata
  subst hc hd hdata
  have hl := r.length
  have hj : j < xs.length := (List.getElem?_eq_some_iff.mp hz).1
  have at' : ∀ m c, xs[m]? = some c → ∃ (hm : m < its.toArray.size), eqU y its.toArray[m] = eqV c y := fun m c hm => by
    obtain ⟨w', hw, rw'⟩ := r.get hm
    have hm' : m < its.length := (List.getElem?_eq_some_iff.mp hw).1
    refine ⟨by simpa using hm', ?_⟩
    have fc : flatV c = true := (List.all_eq_true.mp fxs) c (List.mem_of_getElem? hm)
    have e1 : its.toArray[m]'(by simpa using hm') = w' := by simpa using (List.getElem?_eq_some_iff.mp hw).2
    rw [e1]
    exact eqU_of rw' fc
  obtain ⟨hj', ej⟩ := at' j z hz
  have hline : sizeLine = 16777216 := sizeLine_eq
  refine call_meets F.slot_list_index ⟨_, ho, rfl⟩ F.entry_list_index (F.args_list_index_2 _ _) (SeqAt.list_indexAt l its.toArray n none sl u (eqU y) j hj' (by omega) (ej.trans he) (fun m hm hlt => ?_)) ⟨ho, ?_, ?_⟩
  · have hm2 : m < xs.length := by simp at hm; omega
    obtain ⟨_, em⟩ := at' m xs[m] (List.getElem?_eq_getElem hm2)
    exact em.trans (hno m _ hlt (List.getElem?_eq_getElem hm2))
  · exact fun w' hw => mem_eqAt ru fy r fxs w' (by simpa using hw)
  · exact ⟨.int j, H, I.tok _, ⟨_, rfl⟩, q⟩
theorem strsAre_of : ∀ {ys : List Str} {us : List Value}, Vals (ys.map V.str) us → StrsAre us ys
  | [], _, r => by cases r; exact .nil
  | y :: ys, _, r => by
    cases r with
    | cons r1 r2 =>
      obtain ⟨t, rfl⟩ := r1
      exact .cons y t (strsAre_of r2)
def rJoin (K : PySem.W.Frag) : V → List V → Hp → VK → Prop := fun x vs H Q => ∃ sep l ys, x = .str sep ∧ vs = [.ref l] ∧ SqL K H l (ys.map V.str) ∧ (ys.map (·.length)).sum + ys.length * sep.length ≤ 16777216 ∧ Q (.str (Txt.join sep ys)) H
theorem mt_join : MtR X "str.join" (rJoin X.K) := by
  intro pins s σ H x vs v us Q I rx rv h
  obtain ⟨sep, l, ys, rfl, rfl, hq, hz, q⟩ := h
  obtain ⟨t, rfl⟩ := rx
  obtain ⟨u, rfl, ru⟩ := rv.one
  cases ru
  obtain ⟨its, r, pl, hs⟩ := I.list hq
  exact join_list pl.isList (by simpa using strsAre_of r) hz fun t' k => ⟨.str _, H, I.tok _, ⟨_, rfl⟩, q⟩
/-- a dict of the module, by its text keys -/
def ModD (P : Program) (w : World) (K : PySem.W.Frag) (d : Addr) (f : Str → Option V) : Prop :=
  (d == sysModules) = false ∧ ∃ (o : Obj) (vs : List (Str × Value)), K.lookup d = some o ∧ o.IsDictOf (PySem.strKind P w) vs ∧ ∀ k, RelO (f k) (valueAt vs k)
def rIxM (P : Program) (w : World) (K : PySem.W.Frag) : R2 := fun x y H Q => ∃ d k v f, x = .ref d ∧ y = .str k ∧ ModD P w K d f ∧ f k = some v ∧ Q v H
theorem ix_mod : IxR X (rIxM X.prog X.w X.K) := by
  intro value slice pins s σ H x y v u Q I rx ry h hs
  obtain ⟨d, k, z, f, rfl, rfl, ⟨hm, o, vs, hk, hd, hv⟩, e, q⟩ := h
  cases rx
  obtain ⟨t, rfl⟩ := ry
  have hD : s.heap.DictOf (PySem.strKind X.prog X.w) d vs := Heap.dictOf_iff.mpr ⟨o, I.kIn d o hk, hd⟩
  have hr := hv k
  rw [e] at hr
  cases ev : valueAt vs k with
  | none => rw [ev] at hr; exact False.elim hr
  | some u' =>
    rw [ev] at hr
    exact tail_any hD.typeIs slot_dict_getitem.lookup (wpAny_getItem_of (strKind_is _ _ k t) hD.mapOf ev ⟨z, H, I.tok _, hr, q⟩) hs
def rInM (P : Program) (w : World) (K : PySem.W.Frag) : R2 := fun x y H Q => ∃ d k f, x = .str k ∧ y = .ref d ∧ ModD P w K d f ∧ Q (.bl (f k).isSome) H
theorem op_inM : OpR X (compareOp .In) (rInM X.prog X.w X.K) := by
  intro pins s σ H x y v u Q I rx ry h
  obtain ⟨d, k, f, rfl, rfl, ⟨hm, o, vs, hk, hd, hv⟩, q⟩ := h
  obtain ⟨t, rfl⟩ := rx
  cases ry
  have hD : s.heap.DictOf (PySem.strKind X.prog X.w) d vs := Heap.dictOf_iff.mpr ⟨o, I.kIn d o hk, hd⟩
  have hr := hv k
  refine wpAny_in_of (strKind_is _ _ k t) hm hD.mapOf ?_
  refine ⟨.bl (f k).isSome, H, I.tok _, ?_, q⟩
  cases e : f k with
  | none =>
    rw [e] at hr
    cases ev : valueAt vs k with
    | none => rfl
    | some u' => rw [ev] at hr; exact False.elim hr
  | some z =>
    rw [e] at hr
    cases ev : valueAt vs k with
    | none => rw [ev] at hr; exact False.elim hr
    | some u' => rfl
end
end L2
namespace HT2
open PySem L2
/-- tuples are kept -/
def TS (H H' : Hp) : Prop := ∀ p xs, H p = some (.tup xs) → H' p = some (.tup xs)
theorem TS.refl (H : Hp) : TS H H := fun _ _ e => e
theorem TS.trans {H H1 H2 : Hp} (a : TS H H1) (b : TS H1 H2) : TS H H2 := fun p xs e => b p xs (a p xs e)
theorem TS.same {H H' : Hp} (s : Same H H') : TS H H' := fun p xs e => s p _ e
theorem TS.lst {H : Hp} {l : Addr} {xs : List V} {o : HO} (h : H l = some (.lst xs)) : TS H (upd H l o) := fun p ys e => by
  rw [upd_ne (ne_of e h (by intro z; cases z))]
  exact e
theorem TS.new {H : Hp} {l : Addr} {o : HO} (h : H l = none) : TS H (upd H l o) := fun p ys e => by
  rw [upd_ne (ne_of_none e h)]
  exact e
theorem same_new {H : Hp} {p : Addr} (h : H p = none) (o : HO) : Same H (upd H p o) := fun b u q => by rw [upd_ne (ne_of_none q h)]; exact q
/-- a thing that was not there ahead may be rewritten -/
theorem same_put {H0 H : Hp} {p : Addr} (s : Same H0 H) (h : H0 p = none) (o : HO) : Same H0 (upd H p o) := fun b u q => by rw [upd_ne (ne_of_none q h)]; exact s b u q

inductive Tr where
  | lt (k : Nat)
  | nt (t : Tr)
  | bn (j : Nat) (a b : Tr)
  deriving DecidableEq
def jn : Nat → Str
  | 0 => "and"
  | 1 => "or"
  | 2 => "if"
  | _ => "same"
def Tr.At (H : Hp) : Tr → V → Prop
  | .lt k, v => ∃ p, v = .ref p ∧ H p = some (.tup [.str "let", .int k])
  | .nt t, v => ∃ p u, v = .ref p ∧ H p = some (.tup [.str "not", u]) ∧ t.At H u
  | .bn j a b, v => ∃ p x y, v = .ref p ∧ H p = some (.tup [.str (jn j), x, y]) ∧ a.At H x ∧ b.At H y
def Tr.size : Tr → Nat
  | .lt _ => 1
  | .nt t => t.size + 1
  | .bn _ a b => a.size + b.size + 1
def Tr.ok (m : Nat) : Tr → Prop
  | .lt k => k < m
  | .nt t => t.ok m
  | .bn j a b => j < 4 ∧ a.ok m ∧ b.ok m
theorem Tr.size_pos : ∀ t : Tr, 0 < t.size
  | .lt _ => Nat.one_pos
  | .nt _ => Nat.succ_pos _
  | .bn _ _ _ => Nat.succ_pos _
theorem Tr.At.keep {H H' : Hp} (s : TS H H') : ∀ {t : Tr} {v : V}, t.At H v → t.At H' v
  | .lt k, v, h => by
    obtain ⟨p, e, h⟩ := h
    exact ⟨p, e, s _ _ h⟩
  | .nt t, v, h => by
    obtain ⟨p, u, e, h, q⟩ := h
    exact ⟨p, u, e, s _ _ h, Tr.At.keep s q⟩
  | .bn j a b, v, h => by
    obtain ⟨p, x, y, e, h, q, r⟩ := h
    exact ⟨p, x, y, e, s _ _ h, Tr.At.keep s q, Tr.At.keep s r⟩
theorem Tr.ok.mono {m n : Nat} (h : m ≤ n) : ∀ {t : Tr}, t.ok m → t.ok n
  | .lt k, q => Nat.lt_of_lt_of_le q h
  | .nt t, q => Tr.ok.mono (t := t) h q
  | .bn j a b, q => ⟨q.1, Tr.ok.mono (t := a) h q.2.1, Tr.ok.mono (t := b) h q.2.2⟩

abbrev Pile (H : Hp) : List V → List Tr → Prop := Paired fun (v : V) (t : Tr) => t.At H v
theorem Pile.keep {H H' : Hp} (s : TS H H') : ∀ {xs : List V} {ts : List Tr}, Pile H xs ts → Pile H' xs ts
  | _, _, .nil => .nil
  | _, _, .cons r q => .cons (Tr.At.keep s r) (Pile.keep s q)
theorem Pile.len {H : Hp} : ∀ {xs : List V} {ts : List Tr}, Pile H xs ts → xs.length = ts.length
  | _, _, .nil => rfl
  | _, _, .cons _ q => congrArg (· + 1) (Pile.len q)
theorem Pile.snoc {H : Hp} {y : V} {t : Tr} (h : t.At H y) : ∀ {xs : List V} {ts : List Tr}, Pile H xs ts → Pile H (xs ++ [y]) (ts ++ [t])
  | _, _, .nil => .cons h .nil
  | _, _, .cons r q => .cons r (Pile.snoc h q)
theorem Pile.last {H : Hp} : ∀ {xs : List V} {ts : List Tr}, Pile H xs ts → 0 < ts.length → ∃ xs' y ts' t, xs = xs' ++ [y] ∧ ts = ts' ++ [t] ∧ Pile H xs' ts' ∧ Tr.At H t y
  | _, _, .nil, h => absurd h (Nat.lt_irrefl _)
  | _, _, .cons (a := v) (b := t) r .nil, _ => ⟨[], v, [], t, rfl, rfl, .nil, r⟩
  | _, _, .cons (a := v) (b := t) r (.cons r' q'), _ => by
    obtain ⟨xs', y, ts', u, e1, e2, q, a⟩ := Pile.last (Paired.cons r' q') (Nat.succ_pos _)
    exact ⟨v :: xs', y, t :: ts', u, by rw [e1]; rfl, by rw [e2]; rfl, .cons r q, a⟩
def sz (ts : List Tr) : Nat := (ts.map Tr.size).sum
theorem sz_snoc (ts : List Tr) (t : Tr) : sz (ts ++ [t]) = sz ts + t.size := by
  unfold sz
  rw [List.map_append, List.sum_append]
  simp
theorem last_at (xs : List V) (y : V) : (xs ++ [y])[(xs ++ [y]).length - 1]? = some y := by
  simp
theorem small {n : Nat} (h : n ≤ 1000) : n ≤ sizeLine := Nat.le_of_lt (small1000 h)
theorem le2 : 2 ≤ sizeLine := by decide
theorem le3 : 3 ≤ sizeLine := by decide
theorem le4 : 4 ≤ sizeLine := by decide
theorem le5 : 5 ≤ sizeLine := by decide
theorem le1 : 1 ≤ sizeLine := by decide
theorem le0 : 0 ≤ sizeLine := by decide
def joints : List V := [.str "and", .str "or", .str "if", .str "same"]
theorem joint_at {i : Int} (h0 : 0 ≤ i) (h1 : i < 4) : atI joints i = some (.str (jn i.toNat)) := by
  obtain ⟨n, rfl⟩ := Int.eq_ofNat_of_zero_le h0
  have hn : n < 4 := by omega
  rw [Int.toNat_natCast]
  refine atI_nat ?_
  match n, hn with
  | 0, _ => rfl
  | 1, _ => rfl
  | 2, _ => rfl
  | 3, _ => rfl
end HT2
namespace L2
open PySem PySem.Spec PyProof.Rows

abbrev NoE : Value → Shared → Prop := fun _ _ => False
theorem nox_any {α : Type} {t : Sem α} {Q : α → Shared → Prop} {M : Model} {A : Around} {E : Value → Shared → Prop} {s : Shared} (h : wpAny M A t Q NoE s) : wpAny M A t Q E s := wpAny_mono h (fun _ _ q => q) fun _ _ z => False.elim z
/-- a loop's reading behind its iterator -/
def loopR (J : It) (g : TG) (tb : TS) (D : Ends) (σ : St) (H : Hp) : Prop := ∃ W : Nat → Nat → St → Hp → Prop, (∃ m, W 0 m σ H) ∧ ∀ i m σ H, W i m σ H →
  (J.stop i H ∧ D.nx σ H) ∨ (J.go i H ∧ ∃ N : St → Hp → Prop, (∀ σ' H', N σ' H' → ∃ m', m' < m ∧ W (i + 1) m' σ' H') ∧ ∀ x H', J.yld i H x H' → g x σ H' fun σ2 H2 => tb { D with nx := N, ct := N, bk := D.nx } σ2 H2)
abbrev WBT := (Shared → Prop) → Shared → Prop
/-- a turn's inner part, by its wp -/
structure PB (X : Cx) (WB : WBT) (tb : TS) : Prop where
  mono : ∀ (Qa Qb : Shared → Prop) (s : Shared), (∀ s, Qa s → Qb s) → WB Qa s → WB Qb s
  run : ∀ (pins : List (Addr × Obj)) (s : Shared) (σ : St) (H : Hp) (D : Ends), Inv X pins σ H s → tb D σ H → WB (fun s' => ∃ σ' H', Inv X pins σ' H' s' ∧ D.nx σ' H') s
/-- how a turn is made of its parts -/
def HT (X : Cx) (e : Expr) (d : Nat) (it acc : Value) (tg : Expr) (WB : WBT) : Prop := ∀ (s : Shared) (Qd Qa : Shared → Prop),
  wpAny (model X.prog X.w) X.A (pyNext it) (fun r s1 => match r with | none => Qd s1 | some v => wpAny (model X.prog X.w) X.A (letOwnedTupleGo tg it v) (fun _ s2 => wpAny (model X.prog X.w) X.A (assign tg X.env v) (fun _ s3 => WB Qa s3) NoE s2) NoE s1) NoE s →
  wpAny (model X.prog X.w) X.A (compTurn e d it acc X.env) (fun fin s' => match fin with | .done f => f = .next ∧ Qd s' | .again c' => c' = .compLoop e d it acc X.env ∧ Qa s') NoE s
section
variable {X : Cx} {e tg : Expr} {d : Nat} {acc : Value} {it : Addr} {WB : WBT} {tb : TS} {g : TG} {J : It} {fp : List Addr} {tn : Nat → Heap → Prop} {D : Ends} {pins : List (Addr × Obj)} {σ : St} {H : Hp} {s : Shared}
theorem comp_loop (hxe : X.xe = NoE) (hc : X.calm = true) (ht : HT X e d (.ref it) acc tg WB) (hfr : (Code.compLoop e d (.ref it) acc X.env).isFrame = false) (hun : X.A.under (.compLoop e d (.ref it) acc X.env) = X.A) (hqu : (Code.compLoop e d (.ref it) acc X.env).quiet = true)
    (T : Turn X.prog X.w X.K tg J fp it tn) (hg : PG X tg g) (hb : PB X WB tb)
    (I : Inv X pins σ H s) (st : tn 0 s.heap) (f2 : ∀ b ∈ fp, FpOk X pins H b) (h : loopR J g tb D σ H) :
    codeAny (model X.prog X.w) X.A (.compLoop e d (.ref it) acc X.env) (fun r s' => r = .ok .next ∧ ∃ σ' H', Inv X pins σ' H' s' ∧ D.nx σ' H') s := by
  obtain ⟨W, ⟨m0, w0⟩, turn⟩ := h
  have stat : ∀ {H' : Hp}, (∀ b ∈ fp, H' b = none) → ∀ b ∈ fp, FpOk X pins H' b := fun hn b hb => ⟨hn b hb, (f2 b hb).2⟩
  refine codeAny_loop hqu (fun n s' => ∃ i σ' H', Inv X pins σ' H' s' ∧ tn i s'.heap ∧ (∀ b ∈ fp, H' b = none) ∧ W i n σ' H') (fun n s3 hI => ?_) m0 ⟨0, σ, H, I, st, fun b hb => (f2 b hb).1, w0⟩
  obtain ⟨i, σ3, H3, I3, st3, fr3, w3⟩ := hI
  have hden : (model X.prog X.w).den (.compLoop e d (.ref it) acc X.env) = (compTurn e d (.ref it) acc X.env).onRaise (fun x => do noteFrame x X.env; theTreesLotGoes x) := by
    show (if (Code.compLoop e d (.ref it) acc X.env).isFrame = true then _ else _) = _
    rw [hfr]
    rfl
  rw [hun, hden]
  refine wpAny_noted (nox_any ?_)
  rcases turn i n σ3 H3 w3 with ⟨stop, qn⟩ | ⟨go, N, hN, step⟩
  · refine wpAny_mono (ht s3 (fun s' => ∃ σ' H', Inv X pins σ' H' s' ∧ D.nx σ' H') (fun _ => False) (thn (T.done X rfl rfl rfl hc i pins s3 σ3 H3 NoE I3 (stat fr3) st3 stop) fun r s4 ⟨hr, I4⟩ => ?_)) (fun fin s' q => ?_) fun _ _ z => z
    · subst hr
      exact ⟨σ3, H3, I4, qn⟩
    · cases fin with
      | done f =>
        obtain ⟨rfl, q⟩ := q
        exact ⟨rfl, q⟩
      | again c' => exact False.elim q.2
  · refine wpAny_mono (ht s3 (fun _ => False) (fun s' => ∃ m, m < n ∧ ∃ i σ' H', Inv X pins σ' H' s' ∧ tn i s'.heap ∧ (∀ b ∈ fp, H' b = none) ∧ W i m σ' H') (thn (T.item X rfl rfl rfl hc i pins s3 σ3 H3 NoE I3 (stat fr3) st3 go) fun r s4 ⟨u, hr, h4⟩ => ?_)) (fun fin s' q => ?_) fun _ _ z => z
    · subst hr
      refine thn h4 fun _ s5 ⟨x, H5, I5, r5, y5, st5, fr5⟩ => ?_
      have I5' := I5.pinned (stat fr5) (T.obj _ _ st5)
      have hgx := hg _ s5 σ3 H5 x u _ I5' r5 (step x H5 y5)
      rw [hxe] at hgx
      refine thn hgx fun _ s6 ⟨σ6, H6, I6, q6⟩ => ?_
      have again : ∀ {s7 : Shared}, (∃ σ7 H7, Inv X (pins ++ pinsAt fp s5.heap) σ7 H7 s7 ∧ N σ7 H7) → ∃ m, m < n ∧ ∃ i σ' H', Inv X pins σ' H' s7 ∧ tn i s7.heap ∧ (∀ b ∈ fp, H' b = none) ∧ W i m σ' H' := fun {s7} ⟨σ7, H7, I7, n7⟩ => by
        obtain ⟨m', hm, w7⟩ := hN σ7 H7 n7
        refine ⟨m', hm, i + 1, σ7, H7, I7.unpinned, T.keep _ _ _ st5 fun b hb o e => (I7.pin (b, o) (List.mem_append_right _ (List.mem_append_right _ (mem_pinsAt hb e)))).1, fun b hb => ?_, w7⟩
        obtain ⟨o, e, d⟩ := T.obj _ _ st5 b hb
        exact (I7.pin (b, o) (List.mem_append_right _ (List.mem_append_right _ (mem_pinsAt hb e)))).2.1
      exact hb.mono _ _ s6 (fun s7 q7 => again q7) (hb.run _ s6 σ6 H6 _ I6 q6)
    · cases fin with
      | done f => exact False.elim q.2
      | again c' => exact q

/-! ### the tests of a clause -/
def clTests (ifs : List Expr) (env : Env) : Sem Bool := forIn ifs true fun c r => if r = true then do let ok ← isTrue c env (eval c env); pure (ForInStep.yield ok) else pure (ForInStep.yield r)
def PTs (X : Cx) (ifs : List Expr) (t : TT) : Prop :=
  ∀ (pins : List (Addr × Obj)) (s : Shared) (σ : St) (H : Hp) (Q : Bool → Hp → Prop), Inv X pins σ H s → t σ H Q → wpAny (model X.prog X.w) X.A (clTests ifs X.env) (TP X pins σ Q) X.xe s
def tYes : TT := fun _ H Q => Q true H
theorem pts_nil : PTs X [] tYes := fun pins s σ H Q I h => wpAny_tests_nil ⟨H, I, h⟩
theorem pts_one {c : Expr} {tc : TT} (h : PT X c tc) : PTs X [c] tc := fun pins s σ H Q I q => wpAny_tests_one (h pins s σ H Q I q)

/-! ### the last clause: the element goes onto the list -/
def emitWB (X : Cx) (ifs : List Expr) (elt : Expr) (acc : Value) : WBT := fun Qa s => wpAny (model X.prog X.w) X.A (clTests ifs X.env) (fun ok s1 => if ok = true then wpAny (model X.prog X.w) X.A (eval elt X.env) (fun x s2 => wpAny (model X.prog X.w) X.A (call (.builtin "list.append") [acc, x]) (fun _ s3 => Qa s3) NoE s2) NoE s1 else Qa s1) NoE s
def tEmit (acc : Addr) (te : TE) : TS := fun D σ H => te σ H fun x H1 => ∃ xs, H1 acc = some (.lst xs) ∧ xs.length < sizeLine ∧ D.nx σ (upd H1 acc (.lst (xs ++ [x])))
def tIfC (tc : TT) (tb : TS) : TS := fun D σ H => tc σ H fun b H1 => if b = true then tb D σ H1 else D.nx σ H1
theorem pb_emit {ifs : List Expr} {elt : Expr} {ac : Addr} {tc : TT} {te : TE} (hxe : X.xe = NoE) (hi : PTs X ifs tc) (he : PE X elt te) : PB X (emitWB X ifs elt (.ref ac)) (tIfC tc (tEmit ac te)) where
  mono := fun Qa Qb s hq h => thn h fun ok s1 h1 => by
    cases ok with
    | false => exact hq _ h1
    | true => exact thn h1 fun x s2 h2 => thn h2 fun _ s3 h3 => hq _ h3
  run := fun pins s σ H D I h => by
    have h1 := hi pins s σ H _ I h
    rw [hxe] at h1
    refine thn h1 fun ok s1 ⟨H1, I1, q1⟩ => ?_
    cases ok with
    | false => exact ⟨σ, H1, I1, q1⟩
    | true =>
      have q1' : tEmit ac te D σ H1 := q1
      have h2 := he pins s1 σ H1 _ I1 q1'
      rw [hxe] at h2
      refine thn h2 fun u s2 ⟨x, H2, I2, r2, xs, hl, hz, q2⟩ => ?_
      have h3 := mt_append (X := X) pins s2 σ H2 (.ref ac) [x] (.ref ac) [u] (fun _ H' => D.nx σ H') I2 rfl (.cons r2 .nil) ⟨ac, xs, x, rfl, rfl, hl, hz, q2⟩
      rw [hxe] at h3
      exact thn h3 fun _ s3 ⟨_, H3, I3, _, q3⟩ => ⟨σ, H3, I3, q3⟩
theorem ht_one {elt iter : Expr} {ifs : List Expr} {scope : Scope} {pos : Pos} {itv : Value} : HT X (.ListComp elt [⟨tg, iter, ifs, 0⟩] scope pos) 0 itv acc tg (emitWB X ifs elt acc) := by
  intro s Qd Qa h
  rw [compTurn_list]
  refine wpAny_bind (wpAny_standAt (wpAny_bind (thn h fun r s₁ h₁ => ?_)))
  cases r with
  | none => exact wpAny_pure ⟨rfl, h₁⟩
  | some v =>
    refine wpAny_bind (thn h₁ fun _ s2 h2 => wpAny_bind (thn h2 fun _ s3 h3 => wpAny_bind (thn h3 fun ok s4 h4 => ?_)))
    cases ok with
    | false => exact wpAny_pure ⟨rfl, h4⟩
    | true => exact wpAny_bind (wpAny_bind (thn h4 fun x s₄ h₄ => wpAny_bind (thn h₄ fun _ s₅ h₅ => wpAny_pure (wpAny_pure ⟨rfl, h₅⟩))))
/-! ### two clauses: the second one's turns, and the first one's inner part -/
theorem compTurn_in (elt tg0 iter0 tg iter : Expr) (ifs0 ifs : List Expr) (scope : Scope) (pos : Pos) (it acc : Value) (env : Env) :
    compTurn (.ListComp elt [⟨tg0, iter0, ifs0, 0⟩, ⟨tg, iter, ifs, 0⟩] scope pos) 1 it acc env = (do
      standAt iter.pos
      match ← pyNext it with
      | none => pure (.done .next)
      | some v =>
        letOwnedTupleGo tg it v
        assign tg env v
        let mut ok := true
        for c in ifs do
          if ok then ok ← isTrue c env (eval c env)
        if ok then
          (do let _ ← call (.builtin "list.append") [acc, ← eval elt env])
        again (.compLoop (.ListComp elt [⟨tg0, iter0, ifs0, 0⟩, ⟨tg, iter, ifs, 0⟩] scope pos) 1 it acc env)) := by rfl
theorem ht_in {elt tg0 iter0 iter : Expr} {ifs0 ifs : List Expr} {scope : Scope} {pos : Pos} {itv : Value} : HT X (.ListComp elt [⟨tg0, iter0, ifs0, 0⟩, ⟨tg, iter, ifs, 0⟩] scope pos) 1 itv acc tg (emitWB X ifs elt acc) := by
  intro s Qd Qa h
  rw [compTurn_in]
  refine wpAny_bind (wpAny_standAt (wpAny_bind (thn h fun r s₁ h₁ => ?_)))
  cases r with
  | none => exact wpAny_pure ⟨rfl, h₁⟩
  | some v =>
    refine wpAny_bind (thn h₁ fun _ s2 h2 => wpAny_bind (thn h2 fun _ s3 h3 => wpAny_bind (thn h3 fun ok s4 h4 => ?_)))
    cases ok with
    | false => exact wpAny_pure ⟨rfl, h4⟩
    | true => exact wpAny_bind (wpAny_bind (thn h4 fun x s₄ h₄ => wpAny_bind (thn h₄ fun _ s₅ h₅ => wpAny_pure (wpAny_pure ⟨rfl, h₅⟩))))
theorem compTurn_out (elt tg iter tg1 iter1 : Expr) (ifs ifs1 : List Expr) (scope : Scope) (pos : Pos) (it acc : Value) (env : Env) :
    compTurn (.ListComp elt [⟨tg, iter, ifs, 0⟩, ⟨tg1, iter1, ifs1, 0⟩] scope pos) 0 it acc env = (do
      standAt iter.pos
      match ← pyNext it with
      | none => pure (.done .next)
      | some v =>
        letOwnedTupleGo tg it v
        assign tg env v
        let mut ok := true
        for c in ifs do
          if ok then ok ← isTrue c env (eval c env)
        if ok then
          let x ← eval iter1 env
          standAt iter1.pos
          let x ← foldedSetIterable iter1 env x
          let _ ← runOwn (.compStart (.ListComp elt [⟨tg, iter, ifs, 0⟩, ⟨tg1, iter1, ifs1, 0⟩] scope pos) 1 (← holding [x] (pyIter x)) acc env) env
        again (.compLoop (.ListComp elt [⟨tg, iter, ifs, 0⟩, ⟨tg1, iter1, ifs1, 0⟩] scope pos) 0 it acc env)) := by rfl
def outWB (X : Cx) (ifs : List Expr) (e iter1 : Expr) (acc : Value) : WBT := fun Qa s => wpAny (model X.prog X.w) X.A (clTests ifs X.env) (fun ok s1 => if ok = true then
  wpAny (model X.prog X.w) X.A (eval iter1 X.env) (fun x s2 => wpAny (model X.prog X.w) X.A (pyIter x) (fun it s3 => codeAny (model X.prog X.w) X.A (.compStart e 1 it acc X.env) (fun r s4 => r = .ok .next ∧ Qa s4) s3) NoE s2) NoE s1 else Qa s1) NoE s
theorem ht_out {elt iter tg1 iter1 : Expr} {ifs ifs1 : List Expr} {scope : Scope} {pos : Pos} {itv : Value} (hs : ∀ x, foldedSetIterable iter1 X.env x = pure x) :
    HT X (.ListComp elt [⟨tg, iter, ifs, 0⟩, ⟨tg1, iter1, ifs1, 0⟩] scope pos) 0 itv acc tg (outWB X ifs (.ListComp elt [⟨tg, iter, ifs, 0⟩, ⟨tg1, iter1, ifs1, 0⟩] scope pos) iter1 acc) := by
  intro s Qd Qa h
  rw [compTurn_out]
  refine wpAny_bind (wpAny_standAt (wpAny_bind (thn h fun r s₁ h₁ => ?_)))
  cases r with
  | none => exact wpAny_pure ⟨rfl, h₁⟩
  | some v =>
    refine wpAny_bind (thn h₁ fun _ s2 h2 => wpAny_bind (thn h2 fun _ s3 h3 => wpAny_bind (thn h3 fun ok s4 h4 => ?_)))
    cases ok with
    | false => exact wpAny_pure ⟨rfl, h4⟩
    | true =>
      refine wpAny_bind (thn h4 fun x s₄ h₄ => wpAny_bind (wpAny_standAt (wpAny_bind (wpAny_of_eq (hs x) (wpAny_bind (wpAny_holding (thn h₄ fun it s₅ h₅ => ?_)))))))
      refine wpAny_bind (wpAny_runOwn (codeAny_mono h₅ fun r s₆ h₆ => ?_))
      obtain ⟨rfl, h₆⟩ := h₆
      exact wpAny_pure ⟨rfl, h₆⟩
theorem comp_start {itv : Value} {R : Result → Shared → Prop} (hcl : ((clausesOf e)[d]?).elim false (·.is_async != 0) = false) (hfr : (Code.compStart e d itv acc X.env).isFrame = false) (hun : X.A.under (.compStart e d itv acc X.env) = X.A)
    (hqu : ∀ it', (Code.compLoop e d it' acc X.env).quiet = true) (hposR : True)
    (h0 : codeAny (model X.prog X.w) X.A (.compLoop e d itv acc X.env) R s)
    (h : wpAny (model X.prog X.w) X.A (pyIter itv) (fun it' s' => codeAny (model X.prog X.w) X.A (.compLoop e d it' acc X.env) R s') NoE s) :
    codeAny (model X.prog X.w) X.A (.compStart e d itv acc X.env) R s := by
  refine codeAny_of_tree ?_
  have hden : (model X.prog X.w).den (.compStart e d itv acc X.env) = (compStart e d itv acc X.env).onRaise (fun x => do noteFrame x X.env; standAt theWindowsPlace) := by
    show (if (Code.compStart e d itv acc X.env).isFrame = true then _ else _) = _
    rw [hfr]
    rfl
  rw [hun, hden]
  refine wpAny_notedAt (nox_any ?_)
  unfold compStart
  rw [hcl]
  show wpAny _ _ (ask >>= _) _ _ s
  refine wpAny_bind (wpAny_askSetting (wpAny_ite ?_))
  split
  · first
      | exact wpAny_bind (wpAny_pure (wpAny_pure (And.intro (hqu _) h0)))
      | exact wpAny_pure (And.intro (hqu _) h0)
  · refine wpAny_bind (wpAny_rule ?_)
    cases hg : (clausesOf e)[d]? with
    | none => exact wpAny_bind (thn h fun it' s' h' => wpAny_pure (And.intro (hqu _) h'))
    | some g' => exact wpAny_bind (wpAny_standAt (wpAny_bind (thn h fun it' s' h' => wpAny_pure (And.intro (hqu _) h'))))

theorem pb_out {elt iter tg1 iter1 : Expr} {ifs ifs1 : List Expr} {scope : Scope} {pos : Pos} {ac : Addr} {tc : TT} {wi1 : TI} {g1 : TG} {tb1 : TS} (hxe : X.xe = NoE) (hc : X.calm = true)
    (hi : PTs X ifs tc) (hI : PI X tg1 iter1 wi1) (hg1 : PG X tg1 g1) (hb1 : PB X (emitWB X ifs1 elt (.ref ac)) tb1) :
    PB X (outWB X ifs (.ListComp elt [⟨tg, iter, ifs, 0⟩, ⟨tg1, iter1, ifs1, 0⟩] scope pos) iter1 (.ref ac)) (tIfC tc (tFor wi1 g1 tb1)) where
  mono := fun Qa Qb s hq h => thn h fun ok s1 h1 => by
    cases ok with
    | false => exact hq _ h1
    | true => exact thn h1 fun x s2 h2 => thn h2 fun it s3 h3 => codeAny_mono h3 fun r s4 h4 => ⟨h4.1, hq _ h4.2⟩
  run := fun pins s σ H D I h => by
    have h1 := hi pins s σ H _ I h
    rw [hxe] at h1
    refine thn h1 fun ok s1 ⟨H1, I1, q1⟩ => ?_
    cases ok with
    | false => exact ⟨σ, H1, I1, q1⟩
    | true =>
      have q1' : tFor wi1 g1 tb1 D σ H1 := q1
      have h2 := hI pins s1 σ H1 _ I1 q1'
      rw [hxe] at h2
      refine thn h2 fun u s2 h3 => thn h3 fun itv s3 h4 => ?_
      obtain ⟨it, fp, tn, J, H3, e, I3, T, st3, f3, hR⟩ := h4
      subst e
      have loop := comp_loop (e := .ListComp elt [⟨tg, iter, ifs, 0⟩, ⟨tg1, iter1, ifs1, 0⟩] scope pos) (d := 1) (D := D) hxe hc ht_in rfl rfl rfl T hg1 hb1 I3 st3 f3 hR
      exact comp_start (X := X) rfl rfl rfl (fun _ => rfl) True.intro loop (T.self _ 0 s3 _ _ st3 loop)
end
/-! ### the block's context -/
/-- what is fixed when a comprehension's block is entered: the state, the abstract heap, its first iterator's objects -/
structure CC where
  s : Shared
  H : Hp
  fp : List Addr
def Cx.cmp (X : Cx) (N : List Str) (scope : Scope) (cl : List (Str × Addr)) (c : CC) : Cx :=
  { X with N := N, s₀ := c.s, H₀ := c.H, env := compEnvC scope cl c.s.heap.objs.size X.env, outer := X.stack, ex := c.fp, fn := fun _ => false, pn := [] }
/-- the slots of the block's names: none, or the outer def's slot of the same name -/
def sub (js : List (Option Nat)) (σ : St) : St := js.map fun o => o.bind fun j => (σ[j]?).join
/-- the names that the block shares with the def stand there as cells -/
def shares (X : Cx) (N : List Str) (scope : Scope) (js : List (Option Nat)) : Prop :=
  ∀ (i : Nat) (x : Str) (j : Nat), N[i]? = some x → js[i]? = some (some j) → X.N[j]? = some x ∧ X.env.kindOf x = some .cell ∧ (relabel scope X.env).names.lookup x = some .cell
section
variable {X : Cx} {N : List Str} {scope : Scope} {cl : List (Str × Addr)} {js : List (Option Nat)} {pins : List (Addr × Obj)} {σ : St} {H : Hp} {s : Shared} {fp : List Addr}
theorem Inv.cmp {h' : Heap} {ob : Obj} (I : Inv X pins σ H s) (hf : ∀ b ∈ fp, FpOk X pins H b) (hfo : ∀ b ∈ fp, b < s.heap.objs.size) (hk : scope.kind = .function)
    (hcl : ∀ p ∈ cl, X.env.cells.lookup p.1 = some p.2) (hcn : ∀ x, ((relabel scope X.env).names.lookup x = some .cell ∨ (relabel scope X.env).names.lookup x = some .free) → ∃ c, cl.lookup x = some c)
    (hsh : shares X N scope js) (hl : js.length = N.length)
    (hns : h'.Ns s.heap.objs.size (fun _ => none)) (hsb : Heap.SameBut s.heap.objs.size (s.heap.push ob) h') {t' : Nat} :
    Inv (X.cmp N scope cl ⟨s, H, fp⟩) [] (sub js σ) H { s with heap := h', toks := t' } := by
  have hlook : ∀ x c, cl.lookup x = some c → X.env.cells.lookup x = some c := fun x c e => hcl (x, c) (PySem.mem_of_lookup e)
  have hkeep : ∀ b o, s.heap.get? b = some o → h'.get? b = some o := fun b o e => (hsb.2 b (Nat.ne_of_lt (Heap.lt_size e))).trans (Heap.get?_push_of_some _ e)
  refine ⟨⟨I.ok.mod, ?_, I.ok.glob, I.ok.blt, Nat.le_refl _, fun x y c h1 h2 => I.ok.inj x y c (hlook x c h1) (hlook y c h2), fun x hx => hcn x hx, fun x c h => ?_, I.ok.hd, I.ok.frames, .inl rfl, fun b hb => ⟨Nat.ne_of_lt (hfo b hb), fun x c e => (hf b hb).2.2.2.2.1 x c (hlook x c e)⟩,
      I.bs, Nat.le_trans I.ok.bsz I.sz, fun b o e hb => ?_, fun b hb hs => ?_, I.stack, I.stkFree⟩, rfl, I.bare, Un.kept hkeep, ⟨_, hns, fun i x v e1 e2 e3 => ?_⟩, fun x c e => ?_, I.hok.fresh (Nat.le_refl _), fun x c e => I.freeC x c (hlook x c e), fun p hp => ?_, I.hok.kept hkeep, ?_⟩
  · show (relabel scope X.env).kind = .function
    exact hk
  · exact absurd (show false = true from h) Bool.false_ne_true
  · rcases (hf b hb).2.2.2.1 with z | z
    · exact I.ok.noex b o e z
    · exact absurd (Nat.lt_of_lt_of_le (Heap.lt_size (I.ok.bs b o e).1) z) (Nat.lt_irrefl _)
  · rcases List.mem_cons.mp (I.stkSub b hs) with z | z
    · exact (hf b hb).2.1 z
    · exact (hf b hb).2.2.1 z
  · have e2' : (sub js σ)[i]? = some (some v) := e2
    unfold sub at e2'
    rw [List.getElem?_map] at e2'
    cases ej : js[i]? with
    | none => rw [ej] at e2'; cases e2'
    | some o =>
      rw [ej] at e2'
      cases o with
      | none => cases e2'
      | some j =>
        obtain ⟨a1, a2, a3⟩ := hsh i x j e1 ej
        have e4 : (σ[j]?).join = some v := Option.some.inj e2'
        have e5 : σ[j]? = some (some v) := by
          cases q : σ[j]? with
          | none => rw [q] at e4; cases e4
          | some o =>
            rw [q] at e4
            have : o = some v := e4
            rw [this]
        obtain ⟨m, hn, hloc⟩ := I.loc
        obtain ⟨u, r, l⟩ := hloc j x v a1 e5 (.inr (.inl a2))
        refine ⟨u, r, .inr ⟨.inl a3, ?_⟩⟩
        obtain ⟨c, hc⟩ := hcn x (.inl a3)
        refine ⟨c, hc, ?_⟩
        rcases l with ⟨k, _⟩ | ⟨_, c', hc', hcell⟩
        · rw [k] at a2; cases a2
        · have : c' = c := by
            have := hlook x c hc
            rw [hc'] at this
            exact Option.some.inj this
          subst this
          obtain ⟨o, ho, hd⟩ := hcell
          exact ⟨o, hkeep _ _ ho, hd⟩
  · obtain ⟨v, o, ho, hd⟩ := I.cell x c (hlook x c e)
    exact ⟨v, o, hkeep _ _ ho, hd⟩
  · exact absurd (show p ∈ ([] : List (Addr × Obj)) from hp) (by simp)
  · unfold sub
    rw [List.length_map]
    exact hl
/-- behind the block -/
theorem Inv.uncmp {σ' : St} {H' : Hp} {s' : Shared} {h'' : Heap} (I : Inv X pins σ H s) (hf : ∀ b ∈ fp, FpOk X pins H b) (J : Inv (X.cmp N scope cl ⟨s, H, fp⟩) [] σ' H' s') (hsb : Heap.SameBut s.heap.objs.size s'.heap h'') :
    Inv X pins σ H' { s' with heap := h'' } := by
  have u : Un (frs X.stack) fp H H' s.heap s'.heap := J.base
  have ne : ∀ b o, s.heap.get? b = some o → b ≠ s.heap.objs.size := fun b o e => Nat.ne_of_lt (Heap.lt_size e)
  have hfree : H' s.heap.objs.size = none := J.free
  refine I.call' (ch := fp) (s' := { s' with heap := h'' }) J.os ⟨fun b o e n hb hx => (hsb.2 b (ne b o e)).trans (u.keep b o e n hb hx), fun b o e n hb hx => ?_, u.free, fun b o e hx => ?_, u.tups, u.frzs, u.tbls⟩ (fun b ob e => ?_) J.bare fun b hb => ⟨(hf b hb).2.2.2.1, (hf b hb).2.1, (hf b hb).2.2.2.2.1, (hf b hb).2.2.2.2.2⟩
  · obtain ⟨sl, e1⟩ := u.slot b o e n hb hx
    exact ⟨sl, (hsb.2 b (ne b o e)).trans e1⟩
  · obtain ⟨o', e1⟩ := u.there b o e hx
    exact ⟨o', (hsb.2 b (ne b o e)).trans e1⟩
  · refine (J.hok b ob e).stay (fun c w' hc q => (hsb.2 c ?_).trans q) (fun _ q => q) fun _ _ q => q
    rintro rfl
    rcases hc with z | z
    · rw [← z, hfree] at e; cases e
    · rw [hfree] at z; cases z
end
/-! ### the rule -/
def tComp (wi : TI) (js : List (Option Nat)) (g : CC → TG) (tb : CC → Addr → TS) : TE := fun σ H Q => wi σ H fun J H1 => ∀ (c : CC) (acc : Addr), H1 acc = none →
  loopR J (g c) (tb c acc) { nx := fun _ H' => Q (.ref acc) H', rt := fun _ _ => False } (sub js σ) (upd H1 acc (.lst []))
section
variable {X : Cx} {N : List Str} {scope : Scope} {cl : List (Str × Addr)} {js : List (Option Nat)} {elt tg iter : Expr} {ifs : List Expr} {rest : List Comprehension} {pos : Pos} {wi : TI} {g : CC → TG} {tb : CC → Addr → TS}
theorem pe_compG {WB : CC → Value → WBT} (hxe : X.xe = NoE) (hc : X.calm = true) (hi : PI X tg iter wi) (hs : ∀ x, foldedSetIterable iter X.env x = pure x) (hclos : closureFor scope X.env = pure cl) (hk : scope.kind = .function)
    (hnames : ∀ x ∈ scope.names, x.2 = .local → scope.names.lookup x.1 = some .local) (hcell : ∀ x ∈ scope.names, x.2 ≠ .cell)
    (hcl : ∀ p ∈ cl, X.env.cells.lookup p.1 = some p.2) (hcn : ∀ x, ((relabel scope X.env).names.lookup x = some .cell ∨ (relabel scope X.env).names.lookup x = some .free) → ∃ c, cl.lookup x = some c)
    (hsh : shares X N scope js) (hl : js.length = N.length)
    (ht : ∀ c it ac, HT (X.cmp N scope cl c) (.ListComp elt (⟨tg, iter, ifs, 0⟩ :: rest) scope pos) 0 it ac tg (WB c ac))
    (hg : ∀ c, PG (X.cmp N scope cl c) tg (g c)) (hb : ∀ c ac, PB (X.cmp N scope cl c) (WB c (.ref ac)) (tb c ac)) :
    PE X (.ListComp elt (⟨tg, iter, ifs, 0⟩ :: rest) scope pos) (tComp wi js g tb) := by
  intro pins s σ H Q I h
  rw [eval_ListComp]
  have h0 := hi pins s σ H _ I h
  refine wpAny_comprehension_free (use := none) (cl := cl) rfl hs hclos hk hnames (thn h0 fun v s1 h1 => thn h1 fun itv s2 h2 => ?_)
  obtain ⟨it, fp, tn, J, H2, e, I2, T, st2, f2, hR⟩ := h2
  subst e
  refine wpAny_newObj_type (wpAny_newFunctionEnv hcell (by intro y hy; simp at hy) (fun h₁ hns₁ hsb₁ => ?_) hk)
  dsimp only at hns₁ hsb₁ ⊢
  have I3 := I2.lnew (ys := []) (its := []) (t' := s2.toks) .nil (Nat.zero_le _)
  have fpl : ∀ b ∈ fp, b < s2.heap.objs.size := fun b hb => by
    obtain ⟨o, e, _⟩ := T.obj 0 _ st2 b hb
    exact Heap.lt_size e
  have fpa : ∀ b ∈ fp, b ≠ s2.heap.objs.size := fun b hb => Nat.ne_of_lt (fpl b hb)
  have f3 : ∀ b ∈ fp, FpOk X pins (upd H2 s2.heap.objs.size (.lst [])) b := fun b hb => ⟨by rw [upd_ne (fpa b hb)]; exact (f2 b hb).1, (f2 b hb).2⟩
  have hR' := hR ⟨{ s2 with heap := s2.heap.push { cls := .type "list", data := .seq ([] : List Value).toArray } }, upd H2 s2.heap.objs.size (.lst []), fp⟩ s2.heap.objs.size I2.fresh
  have I4 := I3.cmp (N := N) (cl := cl) (js := js) (t' := s2.toks) f3 (fun b hb => by
    show b < (s2.heap.push _).objs.size
    rw [Heap.size_push]
    exact Nat.lt_succ_of_lt (fpl b hb)) hk hcl hcn hsh hl hns₁ hsb₁
  have st4 : tn 0 h₁ := T.keep 0 _ _ st2 fun b hb o e => (hsb₁.2 b (by
    rw [Heap.size_push]
    exact Nat.ne_of_lt (Nat.lt_succ_of_lt (fpl b hb)))).trans (Heap.get?_push_of_some _ (Heap.get?_push_of_some _ e))
  have f4 : ∀ b ∈ fp, FpOk (X.cmp N scope cl ⟨{ s2 with heap := s2.heap.push { cls := .type "list", data := .seq ([] : List Value).toArray } }, upd H2 s2.heap.objs.size (.lst []), fp⟩) [] (upd H2 s2.heap.objs.size (.lst [])) b := fun b hb =>
    ⟨(f3 b hb).1, (I4.ok.exf b hb).1, I4.ok.exfs b hb, .inl hb, (I4.ok.exf b hb).2, fun p hp => absurd (show p ∈ ([] : List (Addr × Obj)) from hp) (by simp)⟩
  have loop := codeAny_mono (comp_loop (X := X.cmp N scope cl ⟨{ s2 with heap := s2.heap.push { cls := .type "list", data := .seq ([] : List Value).toArray } }, upd H2 s2.heap.objs.size (.lst []), fp⟩) (e := .ListComp elt (⟨tg, iter, ifs, 0⟩ :: rest) scope pos) (d := 0) (acc := .ref s2.heap.objs.size) (pins := []) hxe hc (ht _ _ _) rfl rfl rfl T (hg _) (hb _ _) I4 st4 f4 hR') (R' := compPost (model X.prog X.w) X.A X.xe none (EP X pins σ Q) (.ref s2.heap.objs.size) (s2.heap.push { cls := .type "list", data := .seq ([] : List Value).toArray }).objs.size) (fun r s' hq => by
    obtain ⟨rfl, σ', H', J', q⟩ := hq
    obtain ⟨m, hn, _⟩ := id J'.loc
    exact ⟨m, hn, fun h'' hs'' => ⟨.ref s2.heap.objs.size, H', I3.uncmp f3 J' hs'', rfl, q⟩⟩)
  exact comp_start (X := X.cmp N scope cl ⟨{ s2 with heap := s2.heap.push { cls := .type "list", data := .seq ([] : List Value).toArray } }, upd H2 s2.heap.objs.size (.lst []), fp⟩) rfl rfl rfl (fun _ => rfl) True.intro loop (T.self _ 0 _ _ _ st4 loop)
end
/-- what a comprehension's scope must show: each by rfl -/
structure CompOk (X : Cx) (N : List Str) (scope : Scope) (cl : List (Str × Addr)) (js : List (Option Nat)) : Prop where
  clos : closureFor scope X.env = pure cl
  kind : scope.kind = .function
  loc : (scope.names.all fun x => (x.2 != .local || scope.names.lookup x.1 == some .local) && x.2 != .cell) = true
  ccl : ∀ p ∈ cl, X.env.cells.lookup p.1 = some p.2
  cn : ((relabel scope X.env).names.all fun p => !(p.2 == .cell || p.2 == .free) || (cl.lookup p.1).isSome) = true
  sh : ((N.zip js).all fun p => match p.2 with | none => true | some j => X.N[j]? == some p.1 && X.env.kindOf p.1 == some .cell && (relabel scope X.env).names.lookup p.1 == some .cell) = true
  len : js.length = N.length
section
variable {X : Cx} {N : List Str} {scope : Scope} {cl : List (Str × Addr)} {js : List (Option Nat)}
theorem CompOk.names (h : CompOk X N scope cl js) : ∀ x ∈ scope.names, x.2 = .local → scope.names.lookup x.1 = some .local := fun x hx e => by
  have q := (List.all_eq_true.mp h.loc) x hx
  rw [Bool.and_eq_true] at q
  rw [e] at q
  simpa using q.1
theorem CompOk.cell (h : CompOk X N scope cl js) : ∀ x ∈ scope.names, x.2 ≠ .cell := fun x hx e => by
  have q := (List.all_eq_true.mp h.loc) x hx
  rw [Bool.and_eq_true, e] at q
  exact absurd q.2 (by decide)
theorem CompOk.hcn (h : CompOk X N scope cl js) : ∀ x, ((relabel scope X.env).names.lookup x = some .cell ∨ (relabel scope X.env).names.lookup x = some .free) → ∃ c, cl.lookup x = some c := fun x hx => by
  rcases hx with e | e
  · have q := (List.all_eq_true.mp h.cn) _ (PySem.mem_of_lookup e)
    exact Option.isSome_iff_exists.mp (by simpa using q)
  · have q := (List.all_eq_true.mp h.cn) _ (PySem.mem_of_lookup e)
    exact Option.isSome_iff_exists.mp (by simpa using q)
theorem CompOk.shr (h : CompOk X N scope cl js) : shares X N scope js := fun i x j e1 e2 => by
  have hm : (x, some j) ∈ N.zip js := by
    have : (N.zip js)[i]? = some (x, some j) := by rw [List.getElem?_zip_eq_some]; exact ⟨e1, e2⟩
    exact List.mem_of_getElem? this
  have q := (List.all_eq_true.mp h.sh) _ hm
  simp only [Bool.and_eq_true] at q
  exact ⟨eq_of_beq q.1.1, eq_of_beq q.1.2, eq_of_beq q.2⟩
variable {elt tg iter tg1 iter1 : Expr} {ifs ifs1 : List Expr} {pos : Pos} {wi : TI} {wi1 : CC → TI} {g g1 : CC → TG} {tc tc1 : CC → TT} {te : CC → TE}
/-- [elt for tg in iter if ..] -/
theorem pe_comp1 (h : CompOk X N scope cl js) (hi : PI X tg iter wi) (hg : ∀ c, PG (X.cmp N scope cl c) tg (g c)) (hif : ∀ c, PTs (X.cmp N scope cl c) ifs (tc c)) (he : ∀ c, PE (X.cmp N scope cl c) elt (te c))
    (hxe : X.xe = NoE := by rfl) (hc : X.calm = true := by rfl) (hs : ∀ x, foldedSetIterable iter X.env x = pure x := by intro _; rfl) :
    PE X (.ListComp elt [⟨tg, iter, ifs, 0⟩] scope pos) (tComp wi js g fun c ac => tIfC (tc c) (tEmit ac (te c))) :=
  pe_compG (WB := fun c ac => emitWB (X.cmp N scope cl c) ifs elt ac) hxe hc hi hs h.clos h.kind h.names h.cell h.ccl h.hcn h.shr h.len (fun c it ac => ht_one) hg fun c ac => pb_emit hxe (hif c) (he c)
/-- [elt for tg in iter if .. for tg1 in iter1 if ..] -/
theorem pe_comp2 (h : CompOk X N scope cl js) (hi : PI X tg iter wi) (hg : ∀ c, PG (X.cmp N scope cl c) tg (g c)) (hif : ∀ c, PTs (X.cmp N scope cl c) ifs (tc c))
    (hi1 : ∀ c, PI (X.cmp N scope cl c) tg1 iter1 (wi1 c)) (hg1 : ∀ c, PG (X.cmp N scope cl c) tg1 (g1 c)) (hif1 : ∀ c, PTs (X.cmp N scope cl c) ifs1 (tc1 c)) (he : ∀ c, PE (X.cmp N scope cl c) elt (te c))
    (hs1 : ∀ c x, foldedSetIterable iter1 (X.cmp N scope cl c).env x = pure x := by intro _ _; rfl)
    (hxe : X.xe = NoE := by rfl) (hc : X.calm = true := by rfl) (hs : ∀ x, foldedSetIterable iter X.env x = pure x := by intro _; rfl) :
    PE X (.ListComp elt [⟨tg, iter, ifs, 0⟩, ⟨tg1, iter1, ifs1, 0⟩] scope pos) (tComp wi js g fun c ac => tIfC (tc c) (tFor (wi1 c) (g1 c) (tIfC (tc1 c) (tEmit ac (te c))))) :=
  pe_compG (WB := fun c ac => outWB (X.cmp N scope cl c) ifs (.ListComp elt [⟨tg, iter, ifs, 0⟩, ⟨tg1, iter1, ifs1, 0⟩] scope pos) iter1 ac) hxe hc hi hs h.clos h.kind h.names h.cell h.ccl h.hcn h.shr h.len (fun c it ac => ht_out (hs1 c)) hg
    fun c ac => pb_out hxe hc (hif c) (hi1 c) (hg1 c) (pb_emit hxe (hif1 c) (he c))
/-- max of a list of ints -/
theorem call_maxL (hc : X.calm = true) : CallR X (.builtin "max") (fun xs H Q => ∃ (l : Addr) (ns : List Int), xs = [.ref l] ∧ SqL X.K H l (ns.map V.int) ∧ 0 < ns.length ∧ ∀ M, M ∈ ns → (∀ a ∈ ns, a ≤ M) → Q (.int M) H) := by
  intro pins s σ H xs us Q I r h
  obtain ⟨l, ns, rfl, hq, hn, q⟩ := h
  obtain ⟨u, rfl, rx⟩ := vals1 r
  cases rx
  obtain ⟨its, rv, pl, hz⟩ := I.list hq
  have hi := intsAre_of rv
  have hall := hi.allInts
  obtain ⟨xs, e⟩ := hall.items
  have hsz : 0 < xs.size := by
    have h1 : its.toArray.size = xs.size := by rw [e]; simp [intItems]
    have h2 := rv.length
    rw [List.length_map] at h2
    simp at h1
    omega
  have en : numsOf its.toArray.toList = ns := by
    show numsOf its = ns
    exact hi.numsOf
  refine max_intList (I.ok.hd hc) (by rw [← e]; exact pl.isList) hsz fun v h' tk hv hk => ?_
  obtain ⟨t, rfl⟩ := intItems_at hv
  obtain ⟨h1, h2⟩ := argBest_gt (numAt xs) (xs.size - 1)
  rw [e, nums_intItems] at en
  refine ⟨.int _, H, I.kept hk, ⟨t, rfl⟩, q _ ?_ fun a ha => ?_⟩
  · rw [← en, numAt_eq]; exact getD_mem (by rw [List.length_map, Array.length_toList]; omega)
  · rw [← en] at ha
    obtain ⟨j, hj, rfl⟩ := mem_getD ha
    rw [List.length_map, Array.length_toList] at hj
    rw [← numAt_eq]; exact h2 j (by omega)
end
end L2
namespace L2
open PySem PySem.Spec PyProof.Rows
section
variable {X : Cx} {pins : List (Addr × Obj)} {σ : St} {H : Hp} {s : Shared} {fp : List Addr} {h' : Heap}
/-- several records of ours have turned -/
theorem Inv.turnedL {t' : Nat} (I : Inv X pins σ H s) (hf : ∀ b ∈ fp, FpOk X pins H b) (k : ∀ b o, b ∉ fp → s.heap.get? b = some o → h'.get? b = some o) : Inv X pins σ H { s with heap := h', toks := t' } := by
  have nfp : ∀ b u, H b = some u → b ∉ fp := fun b u e z => by rw [(hf b z).1] at e; cases e
  refine I.call' (ch := fp) (s' := { s with heap := h', toks := t' }) rfl ⟨fun b o e _ _ hx => k b o hx e, fun b o e _ _ hx => ⟨o.slots, k b o hx e⟩, fun _ _ _ n _ => n, fun b o e hx => ⟨o, k b o hx e⟩, fun _ _ q => q, fun _ _ _ q => q, fun _ ps q => ⟨#[], by rw [q]; simp⟩⟩ (fun b u e => ?_) I.bare
    fun b hb => ⟨(hf b hb).2.2.2.1, (hf b hb).2.1, (hf b hb).2.2.2.2.1, (hf b hb).2.2.2.2.2⟩
  refine (I.hok b u e).stay (fun c v hc q => k c v ?_ q) (fun _ q => q) fun _ _ q => q
  rcases hc with z | z
  · rw [z]; exact nfp b u e
  · exact nfp c _ z
/-- .. and a new tuple is tracked -/
theorem Inv.turnedT {t' : Nat} {T : Addr} {xs : List V} {its : List Value} (I : Inv X pins σ H s) (hf : ∀ b ∈ fp, FpOk X pins H b) (k : ∀ b o, b ∉ fp → s.heap.get? b = some o → h'.get? b = some o)
    (hT : s.heap.objs.size ≤ T) (hz : xs.length ≤ sizeLine) (rv : Vals xs its) (ht : IsTup h' T its.toArray) : Inv X pins σ (upd H T (.tup xs)) { s with heap := h', toks := t' } := by
  have nfp : ∀ b u, H b = some u → b ∉ fp := fun b u e z => by rw [(hf b z).1] at e; cases e
  have hn : H T = none := I.hok.fresh hT
  refine I.call' (ch := fp) (s' := { s with heap := h', toks := t' }) rfl ⟨fun b o e _ _ hx => k b o hx e, fun b o e _ _ hx => ⟨o.slots, k b o hx e⟩, fun b o e n _ => ?_, fun b o e hx => ⟨o, k b o hx e⟩, fun b q e => ?_, fun b o u e => ?_, fun b ps e => ⟨#[], ?_⟩⟩ (fun b u e => ?_) I.bare
    fun b hb => ⟨(hf b hb).2.2.2.1, (hf b hb).2.1, (hf b hb).2.2.2.2.1, (hf b hb).2.2.2.2.2⟩
  · rw [upd_ne (Nat.ne_of_lt (Nat.lt_of_lt_of_le (Heap.lt_size e) hT))]; exact n
  · rw [upd_ne (ne_of_none e hn)]; exact e
  · rw [upd_ne (ne_of_none e hn)]; exact e
  · rw [upd_ne (ne_of_none e hn), e]; simp
  · by_cases hb : b = T
    · subst hb
      rw [upd_same] at e
      cases e
      exact ⟨hz, its, rv, ht⟩
    · rw [upd_ne hb] at e
      refine (I.hok b u e).stay (fun c v hc q => k c v ?_ q) (fun c q => ?_) fun c xs q => ?_
      · rcases hc with z | z
        · rw [z]; exact nfp b u e
        · exact nfp c _ z
      · rw [upd_ne (ne_of_none q hn)]; exact q
      · rw [upd_ne (ne_of_none q hn)]; exact q
end
/-! ### a text's signs -/
def Its (z : Str) : It := ⟨fun i _ => i < z.length, fun i H x H' => H' = H ∧ ∃ c, z.cps[i]? = some c ∧ x = .str ⟨#[c]⟩, fun i _ => i = z.length⟩
theorem for_str {z : Str} {g : TG} {tb : TS} {D : Ends} {σ : St} {H : Hp} (Pv : Nat → St → Hp → Prop) (h0 : Pv 0 σ H)
    (hs : ∀ i c σ H, z.cps[i]? = some c → Pv i σ H → g (.str ⟨#[c]⟩) σ H fun σ2 H2 => tb { D with nx := Pv (i + 1), ct := Pv (i + 1), bk := D.nx } σ2 H2) (hd : ∀ σ H, Pv z.length σ H → D.nx σ H) : loopR (Its z) g tb D σ H := by
  refine ⟨fun i m σ H => m = z.length - i ∧ i ≤ z.length ∧ Pv i σ H, ⟨z.length, by simp, Nat.zero_le _, h0⟩, ?_⟩
  rintro i m σ H ⟨rfl, hi, p⟩
  by_cases hlt : i < z.length
  · refine .inr ⟨hlt, Pv (i + 1), fun σ' H' p' => ⟨z.length - (i + 1), by omega, rfl, hlt, p'⟩, fun x H' y => ?_⟩
    obtain ⟨e, c, ec, e2⟩ := y
    subst e e2
    exact hs i c σ _ ec p
  · have e : i = z.length := by omega
    subst e
    exact .inl ⟨rfl, hd σ H p⟩
theorem turn_str {P : Program} {w : World} {K : PySem.W.Frag} {tg : Expr} (ty : String) (hty : ["enumerate", "zip", "dict_itemiterator", "dict_reverseitemiterator", "odict_iterator", "itertools.zip_longest", "itertools.pairwise"].contains ty = false) (it : Addr) (z : Str) (t : Tok)
    (W : ∀ A' : Around, A'.handled = none → Walks P w A' it [it] [it] z.cps.size (SignAt z) (fun i h => h.IsStrIter it ty z t i)) (slf : ∀ (A : Around) (i : Nat) (s : Shared) (Q : Value → Shared → Prop) (E : Value → Shared → Prop), s.heap.IsStrIter it ty z t i → Q (.ref it) s → wpAny (model P w) A (pyIter (.ref it)) Q E s) : Turn P w K tg (Its z) [it] it (fun i h => h.IsStrIter it ty z t i) where
  mem := by simp
  obj := fun i h st b hb => by
    have e : b = it := by simpa using hb
    subst e
    obtain ⟨o, e, c, d⟩ := st
    exact ⟨o, e, fun v z => by rw [d] at z; cases z⟩
  keep := fun i h h' st k => let ⟨o, ho, r⟩ := st; ⟨o, k it (by simp) o ho, r⟩
  item := by
    intro X hP hw hK hc i pins s σ H E I hf st hg
    subst hP hw hK
    refine (W X.A (I.ok.hd hc)).item i s _ _ hg st fun v h' tk hv st' kk => ?_
    obtain ⟨c, u, ec, rfl⟩ := hv
    have I1 : Inv X pins σ H { s with heap := h', toks := tk } := I.turnedL hf kk
    obtain ⟨o, e, cl, d⟩ := id st'
    exact ⟨_, rfl, go_of (s := { s with heap := h', toks := tk }) e cl d hty ⟨.str ⟨#[c]⟩, H, I1, ⟨u, rfl⟩, ⟨rfl, c, ec, rfl⟩, st', fun b hb => (hf b hb).1⟩⟩
  done := by
    intro X hP hw hK hc i pins s σ H E I hf st hg
    subst hP hw hK
    have e : i = z.cps.size := hg
    subst e
    exact (W X.A (I.ok.hd hc)).done s _ _ st fun h' tk kk => ⟨rfl, I.turnedL hf kk⟩
  self := slf
/-! ### enumerate of a text -/
def Ite (z : Str) : It := ⟨fun i _ => i < z.length, fun i H x H' => ∃ T c, H T = none ∧ z.cps[i]? = some c ∧ x = .ref T ∧ H' = upd H T (.tup [.int (i : Nat), .str ⟨#[c]⟩]), fun i _ => i = z.length⟩
theorem for_enum {z : Str} {g : TG} {tb : TS} {D : Ends} {σ : St} {H : Hp} (Pv : Nat → St → Hp → Prop) (h0 : Pv 0 σ H)
    (hs : ∀ i c T σ H, z.cps[i]? = some c → H T = none → Pv i σ H → g (.ref T) σ (upd H T (.tup [.int (i : Nat), .str ⟨#[c]⟩])) fun σ2 H2 => tb { D with nx := Pv (i + 1), ct := Pv (i + 1), bk := D.nx } σ2 H2) (hd : ∀ σ H, Pv z.length σ H → D.nx σ H) : loopR (Ite z) g tb D σ H := by
  refine ⟨fun i m σ H => m = z.length - i ∧ i ≤ z.length ∧ Pv i σ H, ⟨z.length, by simp, Nat.zero_le _, h0⟩, ?_⟩
  rintro i m σ H ⟨rfl, hi, p⟩
  by_cases hlt : i < z.length
  · refine .inr ⟨hlt, Pv (i + 1), fun σ' H' p' => ⟨z.length - (i + 1), by omega, rfl, hlt, p'⟩, fun x H' y => ?_⟩
    obtain ⟨T, c, hT, ec, e1, e2⟩ := y
    subst e1 e2
    exact hs i c T σ _ ec hT p
  · have e : i = z.length := by omega
    subst e
    exact .inl ⟨rfl, hd σ H p⟩
theorem turn_enum {P : Program} {w : World} {K : PySem.W.Frag} {elts : List Expr} {k : Nat} {tp : Pos} (ty : String) (e it : Addr) (hei : e ≠ it) (z : Str) (t : Tok)
    (W : ∀ A' : Around, A'.handled = none → Draws P w A' it [it] z.cps.size (fun i v => ∃ c u, z.cps[i]? = some c ∧ v = .str ⟨#[c]⟩ u) (fun i h => h.IsStrIter it ty z t i)) :
    Turn P w K (.Tuple elts k tp) (Ite z) [e, it] e (fun i h => (∃ old, IsEnum h e it i old) ∧ h.IsStrIter it ty z t i) where
  mem := by simp
  obj := fun i h st b hb => by
    obtain ⟨⟨old, he⟩, o, ho, c, d⟩ := st
    rcases List.mem_cons.mp hb with q | q
    · subst q
      exact ⟨_, he, fun v z => by
        have z' : Data.fields _ = Data.cell v := z
        cases z'⟩
    · have q' : b = it := by simpa using q
      subst q'
      exact ⟨o, ho, fun v z => by rw [d] at z; cases z⟩
  keep := fun i h h' st k => by
    obtain ⟨⟨old, he⟩, o, ho, r⟩ := st
    exact ⟨⟨old, k e (by simp) _ he⟩, o, k it (by simp) o ho, r⟩
  item := by
    intro X hP hw hK hc i pins s σ H E I hf st hg
    subst hP hw hK
    have WT := WalksT.enumerateD (A := X.A) (W X.A.in1 (I.ok.hd hc)) e hei (by simpa using hei) (by simp)
    refine WT.item i s _ _ hg st fun T vals h1 tk hv hT htup hmid kk => ?_
    obtain ⟨t', x, ⟨c, u, ec, rfl⟩, rfl⟩ := hv
    have I1 : Inv X pins σ (upd H T (.tup [.int (i : Nat), .str ⟨#[c]⟩])) { s with heap := h1, toks := tk } := I.turnedT (its := [.int i t', .str ⟨#[c]⟩ u]) hf kk hT (by show 2 ≤ sizeLine; decide) (.cons ⟨_, rfl⟩ (.cons ⟨_, rfl⟩ .nil)) htup
    have nT : ∀ b ∈ [e, it], b ≠ T := fun b hb z => by
      subst z
      exact WT.apart _ _ _ hmid hb
    have hf1 : ∀ b ∈ [e, it], FpOk X pins (upd H T (.tup [.int (i : Nat), .str ⟨#[c]⟩])) b := fun b hb => ⟨by rw [upd_ne (nT b hb)]; exact (hf b hb).1, (hf b hb).2⟩
    refine ⟨_, rfl, WT.go elts k tp i T _ _ _ hmid fun h2 st2 kk2 => ?_⟩
    exact ⟨.ref T, _, I1.turnedL (t' := tk) hf1 kk2, rfl, ⟨T, c, I.hok.fresh hT, ec, rfl, rfl⟩, st2, fun b hb => (hf1 b hb).1⟩
  done := by
    intro X hP hw hK hc i pins s σ H E I hf st hg
    subst hP hw hK
    have e' : i = z.cps.size := hg
    subst e'
    have WT := WalksT.enumerateD (A := X.A) (W X.A.in1 (I.ok.hd hc)) e hei (by simpa using hei) (by simp)
    exact WT.done s _ _ st fun h' tk kk => ⟨rfl, I.turnedL hf kk⟩
  self := fun A i s Q E st h => by
    obtain ⟨⟨old, he⟩, _⟩ := st
    exact wpAny_pyIter_enum he h
section
variable {X : Cx} {tg : Expr}
def iStr (tl : TE) : TI := fun σ H R => tl σ H fun x H1 => ∃ z, x = .str z ∧ R (Its z) H1
theorem pi_str {l : Expr} {tl : TE} (hl : PE X l tl) : PI X tg l (iStr tl) := by
  intro pins s σ H R I h
  refine thn (hl pins s σ H _ I h) fun v s1 ⟨x, H1, I1, r1, q1⟩ => ?_
  obtain ⟨z, e, q⟩ := q1
  subst e
  obtain ⟨t, rfl⟩ := r1
  have fin : ∀ (o : Obj) (tn : Nat → Heap → Prop), Turn X.prog X.w X.K tg (Its z) [s1.heap.objs.size] s1.heap.objs.size tn → tn 0 (s1.heap.push o) → PIE X pins σ tg R (.ref s1.heap.objs.size) { s1 with heap := s1.heap.push o } := fun o tn T st => by
    refine ⟨s1.heap.objs.size, [s1.heap.objs.size], tn, _, H1, rfl, I1.kept (t' := s1.toks) fun b o e => Heap.get?_push_of_some _ e, T, st, fun b hb => ?_, q⟩
    have e : b = s1.heap.objs.size := by simpa using hb
    subst e
    exact I1.fpOk (Nat.le_refl _) (I1.hok.fresh (Nat.le_refl _))
  cases ha : z.cps.all (· < 128)
  · exact wpAny_pyIter_wide ha (fin _ _ (turn_str "str_iterator" (by decide) _ z t (fun A' hA => Walks.strWide hA _ z t) fun _ _ _ _ _ st h => wpAny_pyIter_striter_wide st h) ⟨_, Heap.get?_push_size _ rfl, rfl, rfl⟩)
  · exact wpAny_pyIter_ascii ha (fin _ _ (turn_str "str_ascii_iterator" (by decide) _ z t (fun A' hA => Walks.strAscii hA _ z t) fun _ _ _ _ _ st h => wpAny_pyIter_striter_ascii st h) ⟨_, Heap.get?_push_size _ rfl, rfl, rfl⟩)
def iEnumS (ta : TA) : TI := fun σ H R => ta σ H fun vs H1 => ∃ z, vs = [.str z] ∧ R (Ite z) H1
theorem pi_enumS {elts : List Expr} {k : Nat} {tp : Pos} {a : Expr} {ta : TA} {p pos : Pos} (hg : Gl X "enumerate") (hm : X.mg "enumerate" = none) (ha : PA X [a] ta) (hs : starEach [a] X.env = [(false, eval a X.env)] := by rfl) : PI X (.Tuple elts k tp) (.Call (.Name "enumerate" p) [a] [] pos) (iEnumS ta) := by
  intro pins s σ H R I h
  refine Call_ (ld_blt I hg hm boot_enumerate (PyProof.Rows.callWith_type1 (thn (ha pos pins s σ H _ I h) fun us s1 ⟨vs, H1, I1, r1, q1⟩ => ?_) hs rfl))
  obtain ⟨z, e, q⟩ := q1
  subst e
  cases r1 with
  | cons r rr =>
    cases rr
    obtain ⟨t, rfl⟩ := r
    refine call_enumerate_str fun h' he hit hsz hk => wpAny_pyIter_enum he ?_
    have I2 : Inv X pins σ H1 { s1 with heap := h' } := I1.kept (t' := s1.toks) hk
    have fp2 : ∀ b ∈ [s1.heap.objs.size + 1, s1.heap.objs.size], FpOk X pins H1 b := fun b hb => by
      have hle : s1.heap.objs.size ≤ b := by
        rcases List.mem_cons.mp hb with q | q
        · omega
        · have : b = s1.heap.objs.size := by simpa using q
          omega
      exact I1.fpOk hle (I1.hok.fresh hle)
    have T : Turn X.prog X.w X.K (.Tuple elts k tp) (Ite z) [s1.heap.objs.size + 1, s1.heap.objs.size] (s1.heap.objs.size + 1) (fun i h => (∃ old, IsEnum h (s1.heap.objs.size + 1) s1.heap.objs.size i old) ∧ h.IsStrIter s1.heap.objs.size (strIterType z) z t i) := by
      refine turn_enum (strIterType z) (s1.heap.objs.size + 1) s1.heap.objs.size (Nat.succ_ne_self _) z t fun A' hA => ?_
      unfold strIterType
      split
      · exact Draws.strAscii hA _ z t
      · exact Draws.strWide hA _ z t
    exact ⟨_, _, _, _, H1, rfl, I2, T, ⟨⟨_, he⟩, hit⟩, fp2, q⟩
/-! ### small operations on texts and tuples -/
/-- ' ' * n -/
theorem op_mulS : OpR X (binaryOp .Mult) (fun x y H Q => ∃ z n, x = .str z ∧ y = .int n ∧ -1000 ≤ n ∧ n ≤ 1000 ∧ z.length = 1 ∧ ∀ u : Str, u.cps.toList = (List.replicate n.toNat z.cps.toList).flatten → Q (.str u) H) := by
  intro pins s σ H x y v u Q I rx ry h
  obtain ⟨z, n, rfl, rfl, h0, h1, hz, q⟩ := h
  obtain ⟨t, rfl⟩ := rx
  obtain ⟨t', rfl⟩ := ry
  have fl : ∀ k : Nat, ∀ acc : Array Nat, ((List.replicate k z.cps).foldl (· ++ ·) acc).toList = acc.toList ++ (List.replicate k z.cps.toList).flatten := fun k => by
    induction k with
    | zero => intro acc; simp
    | succ k ih => intro acc; rw [List.replicate_succ, List.foldl_cons, ih, List.replicate_succ, List.flatten_cons]; simp
  refine PySem.P.mul_str (by
      rw [decide_eq_false (by omega), decide_eq_false (by omega)]; rfl) (fun hn1 _ => ?_) (fun _ _ => ?_) ?_
  · rw [hz]
    intro hgt
    have h3 : (1 : Int) ≤ (2 ^ 63 - 1) / n := by
      by_cases hn : n = 0
      · subst hn; omega
      · exact Int.le_ediv_of_mul_le (by omega) (by omega)
    have hgt' : (1 : Int) > (2 ^ 63 - 1) / n := hgt
    omega
  · rw [hz]
    unfold Builtin.Str.tooLong
    have : sizeLine = 16777216 := sizeLine_eq
    exact decide_eq_false (by omega)
  · by_cases hn : n < 1
    · rw [if_pos hn]
      have e0 : n.toNat = 0 := by omega
      exact ⟨by decide, ⟨.str _, H, I.tok _, ⟨_, rfl⟩, q _ (by rw [e0]; rfl)⟩⟩
    · rw [if_neg hn]
      by_cases h1' : (n == 1 || z.length == 0) = true
      · rw [if_pos h1']
        have e1 : n = 1 := by
          rw [hz] at h1'
          simpa using h1'
        subst e1
        exact ⟨.str z, H, I, ⟨_, rfl⟩, q z (by simp)⟩
      · rw [if_neg h1']
        refine ⟨?_, ⟨.str _, H, I.tok _, ⟨_, rfl⟩, q _ (by rw [fl]; simp)⟩⟩
        have e2 : (⟨(List.replicate n.toNat z.cps).foldl (· ++ ·) #[]⟩ : Str).length = n.toNat := by
          show ((List.replicate n.toNat z.cps).foldl (· ++ ·) #[]).size = n.toNat
          rw [← Array.length_toList, fl]
          have hz' : z.cps.toList.length = 1 := by
            rw [Array.length_toList]
            exact hz
          have : ∀ k : Nat, ((List.replicate k z.cps.toList).flatten).length = k := fun k => by
            induction k with
            | zero => rfl
            | succ k ih => rw [List.replicate_succ, List.flatten_cons, List.length_append, ih, hz']; omega
          simp [this]
        have hl : sizeLine = 16777216 := sizeLine_eq
        show _ ≤ sizeLine
        rw [e2]
        omega
/-- text.index(sign) -/
def rIndexT : V → List V → Hp → VK → Prop := fun x vs H Q => ∃ z y i rest, x = .str z ∧ vs = [.str y] ∧ Builtin.Str.occurrences z y 0 z.length 1 = i :: rest ∧ Q (.int (i : Nat)) H
theorem mt_indexT : MtR X "str.index" rIndexT := by
  intro pins s σ H x vs v us Q I rx rv h
  obtain ⟨z, y, i, rest, rfl, rfl, ho, q⟩ := h
  obtain ⟨t, rfl⟩ := rx
  obtain ⟨u, rfl, ru⟩ := rv.one
  obtain ⟨t', rfl⟩ := ru
  exact SC.index ho ⟨.int i, H, I.tok _, ⟨_, rfl⟩, q⟩
/-- t == u of tuples, the first a text, the other one a text alone -/
def rEqT1 (K : PySem.W.Frag) : R2 := fun x y H Q => ∃ a b u v xs, x = .ref a ∧ y = .ref b ∧ SqT K H a (.str u :: xs) ∧ SqT K H b [.str v] ∧ Q (.bl (decide (u = v) && xs.isEmpty)) H
theorem op_eqT1 (hu : X.A.units < cLine) : OpR X (compareOp .Eq) (rEqT1 X.K) := by
  intro pins s σ H x y v u Q I rx ry h
  obtain ⟨a, b, u1, v1, xs, rfl, rfl, ha, hb, q⟩ := h
  cases rx
  cases ry
  obtain ⟨its, r, pl, hz⟩ := I.tuple ha
  obtain ⟨its2, r2, pl2, hz2⟩ := I.tuple hb
  cases r with
  | cons r1 rr =>
    cases r2 with
    | cons r3 rr3 =>
      cases rr3
      obtain ⟨t1, rfl⟩ := r1
      obtain ⟨t3, rfl⟩ := r3
      rename_i us
      have hlen := rr.length
      refine SeqAt.eq_tupleAt (e := fun _ => decide (u1 = v1)) pl pl2 hu (fun j h1 h2 => ?_) ?_
      · have hj : j = 0 := by simp at h2; omega
        subst hj
        intro prog w E Q hq
        exact wpAny_eqBool_str hq
      · refine ⟨.bl _, H, I, ?_, q⟩
        show Value.bool _ = Value.bool _
        congr 1
        have e1 : min (Value.str u1 t1 :: us).toArray.size [Value.str v1 t3].toArray.size = 1 := by simp
        rw [e1]
        have e2 : ((Value.str u1 t1 :: us).toArray.size == [Value.str v1 t3].toArray.size) = xs.isEmpty := by
          cases xs with
          | nil => cases rr; rfl
          | cons p q => cases rr; simp
        rw [e2]
        simp
end
end L2
namespace L2
open PySem PySem.Spec PyProof.Rows
section
variable {X : Cx}
/-- z[lo:hi] of a text -/
def rSlS : V → Option Int → Option Int → Hp → VK → Prop := fun x lo hi H Q => ∃ z, x = .str z ∧ z.length ≤ sizeLine ∧ Q (.str (Txt.slice z lo hi)) H
theorem sl_str : SlR X rSlS := by
  intro pins s σ H x v vl vu lo hi sl Q I rx hs pl pu h
  obtain ⟨z, rfl, hz, q⟩ := h
  obtain ⟨t, rfl⟩ := rx
  refine ⟨"str", _, PySem.F.slot_str_getitem.lookup, typeIs_str _ _ _, ?_⟩
  have fin : ∀ t' k, EP X pins σ Q (.str (Txt.slice z lo hi) t') { s with toks := k } := fun t' k => ⟨.str _, H, I.tok _, ⟨_, rfl⟩, q⟩
  cases pl with
  | none =>
    cases pu with
    | none => exact wpAny_getItem_str_slice (l := none) (u := none) (st := none) hs rfl (post_val_or_str ⟨Nat.le_trans (Txt.slice_le z _ _) hz, fin⟩)
    | int j uj => exact wpAny_getItem_str_slice (l := none) (u := some (j, uj)) (st := none) hs rfl (post_val_or_str ⟨Nat.le_trans (Txt.slice_le z _ _) hz, fin⟩)
  | int i ui =>
    cases pu with
    | none => exact wpAny_getItem_str_slice (l := some (i, ui)) (u := none) (st := none) hs rfl (post_val_or_str ⟨Nat.le_trans (Txt.slice_le z _ _) hz, fin⟩)
    | int j uj => exact wpAny_getItem_str_slice (l := some (i, ui)) (u := some (j, uj)) (st := none) hs rfl (post_val_or_str ⟨Nat.le_trans (Txt.slice_le z _ _) hz, fin⟩)
end
theorem slice_to {z : Str} {j : Nat} (h : j ≤ z.cps.toList.length) : (Txt.slice z none (some (j : Int))).cps.toList = z.cps.toList.take j := by
  have e : Txt.slice z none (some (j : Int)) = _ := StrLaws.sliceText_to (x := z) (j := (j : Int)) ⟨by omega, by omega⟩
  rw [e]
  simp
theorem slice_from {z : Str} {i : Nat} (h : i ≤ z.cps.toList.length) : (Txt.slice z (some (i : Int)) none).cps.toList = z.cps.toList.drop i := by
  have e : Txt.slice z (some (i : Int)) none = _ := StrLaws.sliceText_from (x := z) (i := (i : Int)) ⟨by omega, by omega⟩
  rw [e]
  have e2 : ((z.cps.toList.length : Int) - (i : Int)).toNat = (z.cps.toList.drop i).length := by rw [List.length_drop]; omega
  show List.take _ (List.drop _ _) = _
  rw [Int.toNat_natCast, e2, List.take_length]
end L2
namespace L2
open PySem PySem.Spec PyProof.Rows
/-! ### enumerate of a list -/
def Itel (a : Addr) : It :=
  ⟨fun i H => ∃ xs x, H a = some (.lst xs) ∧ xs[i]? = some x, fun i H x H' => ∃ T y, H T = none ∧ (∀ xs, H a = some (.lst xs) → xs[i]? = some y) ∧ x = .ref T ∧ H' = upd H T (.tup [.int (i : Nat), y]), fun i H => ∃ xs, H a = some (.lst xs) ∧ xs.length = i⟩
theorem for_enumL {a : Addr} {xs : List V} {g : TG} {tb : TS} {D : Ends} {σ : St} {H : Hp} (Pv : Nat → St → Hp → Prop) (h0 : Pv 0 σ H) (hl : ∀ i σ H, i ≤ xs.length → Pv i σ H → H a = some (.lst xs))
    (hs : ∀ i y T σ H, xs[i]? = some y → H T = none → Pv i σ H → g (.ref T) σ (upd H T (.tup [.int (i : Nat), y])) fun σ2 H2 => tb { D with nx := Pv (i + 1), ct := Pv (i + 1), bk := D.nx } σ2 H2) (hd : ∀ σ H, Pv xs.length σ H → D.nx σ H) : loopR (Itel a) g tb D σ H := by
  refine ⟨fun i m σ H => m = xs.length - i ∧ i ≤ xs.length ∧ Pv i σ H, ⟨xs.length, by simp, Nat.zero_le _, h0⟩, ?_⟩
  rintro i m σ H ⟨rfl, hi, p⟩
  have q := hl i σ H hi p
  by_cases hlt : i < xs.length
  · refine .inr ⟨⟨xs, xs[i], q, by simp [hlt]⟩, Pv (i + 1), fun σ' H' p' => ⟨xs.length - (i + 1), by omega, rfl, hlt, p'⟩, fun x H' y => ?_⟩
    obtain ⟨T, y, hT, hy, e1, e2⟩ := y
    subst e1 e2
    exact hs i y T σ _ (hy xs q) hT p
  · have e : i = xs.length := by omega
    subst e
    exact .inl ⟨⟨xs, q, rfl⟩, hd σ H p⟩
theorem turn_enumL {P : Program} {w : World} {K : PySem.W.Frag} {elts : List Expr} {k : Nat} {tp : Pos} (a e it : Addr) (hei : e ≠ it) :
    Turn P w K (.Tuple elts k tp) (Itel a) [e, it] e (fun i h => (∃ old, IsEnum h e it i old) ∧ h.IsListIter it a i) where
  mem := by simp
  obj := fun i h st b hb => by
    obtain ⟨⟨old, he⟩, o, ho, c, d⟩ := st
    rcases List.mem_cons.mp hb with q | q
    · subst q
      exact ⟨_, he, fun v z => by
        have z' : Data.fields _ = Data.cell v := z
        cases z'⟩
    · have q' : b = it := by simpa using q
      subst q'
      exact ⟨o, ho, fun v z => by rw [d] at z; cases z⟩
  keep := fun i h h' st k => by
    obtain ⟨⟨old, he⟩, hi⟩ := st
    exact ⟨⟨old, k e (by simp) _ he⟩, hi.at fun o e => k it (by simp) o e⟩
  item := by
    intro X hP hw hK hc i pins s σ H E I hf st hg
    subst hP hw hK
    obtain ⟨xs, x, hq, hx⟩ := hg
    obtain ⟨its, rv, p, hz⟩ := I.list (SqL.of hq)
    obtain ⟨u, hu, ru⟩ := rv.get hx
    have hlen := rv.length
    have hi : i < xs.length := (List.getElem?_eq_some_iff.mp hx).1
    have nai : a ≠ it := ne_of_none hq (hf it (by simp)).1
    have nae : a ≠ e := ne_of_none hq (hf e (by simp)).1
    have D := Draws.list (prog := X.prog) (w := X.w) (A := X.A.in1) (I.ok.hd hc) it a nai its.toArray
    have WT := WalksT.enumerateD (A := X.A) D e hei (by simp [hei, nae.symm]) (by simp)
    refine WT.item i s _ _ (by simp; omega) ⟨st.1, st.2, p.isList⟩ fun T vals h1 tk hv hT htup hmid kk => ?_
    obtain ⟨t', x2, hx2, rfl⟩ := hv
    have hx2' : its[i]? = some x2 := by simpa using hx2
    have ex : x2 = u := by rw [hu] at hx2'; exact (Option.some.inj hx2').symm
    subst ex
    have I1 : Inv X pins σ (upd H T (.tup [.int (i : Nat), x])) { s with heap := h1, toks := tk } := I.turnedT (its := [.int i t', x2]) hf kk hT (by show 2 ≤ sizeLine; decide) (.cons ⟨_, rfl⟩ (.cons ru .nil)) htup
    have nT : ∀ b ∈ [e, it], b ≠ T := fun b hb z => by
      subst z
      exact WT.apart _ _ _ hmid hb
    have hf1 : ∀ b ∈ [e, it], FpOk X pins (upd H T (.tup [.int (i : Nat), x])) b := fun b hb => ⟨by rw [upd_ne (nT b hb)]; exact (hf b hb).1, (hf b hb).2⟩
    refine ⟨_, rfl, WT.go elts k tp i T _ _ _ hmid fun h2 st2 kk2 => ?_⟩
    refine ⟨.ref T, _, I1.turnedL (t' := tk) hf1 kk2, rfl, ⟨T, x, I.hok.fresh hT, fun zs hzs => ?_, rfl, rfl⟩, ⟨st2.1, st2.2.1⟩, fun b hb => (hf1 b hb).1⟩
    rw [hq] at hzs
    cases hzs
    exact hx
  done := by
    intro X hP hw hK hc i pins s σ H E I hf st hg
    subst hP hw hK
    obtain ⟨xs, hq, rfl⟩ := hg
    obtain ⟨its, rv, p, hz⟩ := I.list (SqL.of hq)
    have hlen := rv.length
    have nai : a ≠ it := ne_of_none hq (hf it (by simp)).1
    have nae : a ≠ e := ne_of_none hq (hf e (by simp)).1
    have D := Draws.list (prog := X.prog) (w := X.w) (A := X.A.in1) (I.ok.hd hc) it a nai its.toArray
    have WT := WalksT.enumerateD (A := X.A) D e hei (by simp [hei, nae.symm]) (by simp)
    refine WT.done s _ _ ?_ fun h' tk kk => ⟨rfl, I.turnedL hf kk⟩
    have e1 : its.toArray.size = xs.length := by simp; omega
    rw [e1]
    exact ⟨st.1, st.2, p.isList⟩
  self := fun A i s Q E st h => by
    obtain ⟨⟨old, he⟩, _⟩ := st
    exact wpAny_pyIter_enum he h
section
variable {X : Cx} {tg : Expr}
def iEnumL (ta : TA) : TI := fun σ H R => ta σ H fun vs H1 => ∃ a xs, vs = [.ref a] ∧ H1 a = some (.lst xs) ∧ R (Itel a) H1
theorem pi_enumL {elts : List Expr} {k : Nat} {tp : Pos} {a : Expr} {ta : TA} {p pos : Pos} (hg : Gl X "enumerate") (hm : X.mg "enumerate" = none) (ha : PA X [a] ta) (hs : starEach [a] X.env = [(false, eval a X.env)] := by rfl) : PI X (.Tuple elts k tp) (.Call (.Name "enumerate" p) [a] [] pos) (iEnumL ta) := by
  intro pins s σ H R I h
  refine Call_ (ld_blt I hg hm boot_enumerate (PyProof.Rows.callWith_type1 (thn (ha pos pins s σ H _ I h) fun us s1 ⟨vs, H1, I1, r1, q1⟩ => ?_) hs rfl))
  obtain ⟨l, xs, e, hq, q⟩ := q1
  subst e
  cases r1 with
  | cons r rr =>
    cases rr
    cases r
    obtain ⟨its, rv, pl, hz⟩ := I1.list (SqL.of hq)
    refine call_enumerate_list pl.isList fun h' he hit hsz hk => wpAny_pyIter_enum he ?_
    have I2 : Inv X pins σ H1 { s1 with heap := h' } := I1.kept (t' := s1.toks) hk
    have fp2 : ∀ b ∈ [s1.heap.objs.size + 1, s1.heap.objs.size], FpOk X pins H1 b := fun b hb => by
      have hle : s1.heap.objs.size ≤ b := by
        rcases List.mem_cons.mp hb with q | q
        · omega
        · have : b = s1.heap.objs.size := by simpa using q
          omega
      exact I1.fpOk hle (I1.hok.fresh hle)
    exact ⟨_, _, _, _, H1, rfl, I2, turn_enumL l (s1.heap.objs.size + 1) s1.heap.objs.size (Nat.succ_ne_self _), ⟨⟨_, he⟩, hit⟩, fp2, q⟩
end
end L2
namespace L2
open PySem PySem.Spec PyProof.Rows
/-! ### x = [..] on one line: the store comes ahead of the block's end -/
section
variable {X : Cx} {N : List Str} {scope : Scope} {cl : List (Str × Addr)} {js : List (Option Nat)} {elt tg iter : Expr} {ifs : List Expr} {rest : List Comprehension} {pos spos ypos : Pos} {wi : TI} {g : CC → TG} {tb : CC → Addr → TS} {i : Nat} {y : Str}
theorem ps_compG {WB : CC → Value → WBT} (hxe : X.xe = NoE) (hc : X.calm = true) (hi : PI X tg iter wi) (hs : ∀ x, foldedSetIterable iter X.env x = pure x) (hclos : closureFor scope X.env = pure cl) (hk : scope.kind = .function)
    (hnames : ∀ x ∈ scope.names, x.2 = .local → scope.names.lookup x.1 = some .local) (hcell : ∀ x ∈ scope.names, x.2 ≠ .cell)
    (hcl : ∀ p ∈ cl, X.env.cells.lookup p.1 = some p.2) (hcn : ∀ x, ((relabel scope X.env).names.lookup x = some .cell ∨ (relabel scope X.env).names.lookup x = some .free) → ∃ c, cl.lookup x = some c)
    (hsh : shares X N scope js) (hl : js.length = N.length)
    (ht : ∀ c it ac, HT (X.cmp N scope cl c) (.ListComp elt (⟨tg, iter, ifs, 0⟩ :: rest) scope pos) 0 it ac tg (WB c ac))
    (hg : ∀ c, PG (X.cmp N scope cl c) tg (g c)) (hb : ∀ c ac, PB (X.cmp N scope cl c) (WB c (.ref ac)) (tb c ac))
    (hN : X.N.Nodup) (hy : X.N[i]? = some y) (hyl : Loc X.env.scope y) (hsw : swapsWith (.ListComp elt (⟨tg, iter, ifs, 0⟩ :: rest) scope pos) (some (.Name y ypos)) spos.line X.env = pure true)
    (hf : X.fn y = true ∨ X.env.scope.names.lookup y = some .local) :
    PS X (.Assign [.Name y ypos] (.ListComp elt (⟨tg, iter, ifs, 0⟩ :: rest) scope pos) spos) (tAsg (tComp wi js g tb) (gName i)) := by
  intro pins s σ H D I h
  rw [exec_Assign_Name_used _ _ _ _ hsw]
  refine wpAny_bind (wpAny_standAt (wpAny_bind ?_))
  rw [arm_evalThenUse_ListComp]
  have h0 := hi pins s σ H _ I h
  refine wpAny_bind (wpAny_mono (wpAny_comprehension_free (use := some (assign (.Name y ypos) X.env)) (Q := fun _ s' => SP X pins D .next s') (cl := cl) rfl hs hclos hk hnames (thn h0 fun v s1 h1 => thn h1 fun itv s2 h2 => ?_)) (fun _ s' hq => wpAny_pure (wpAny_pure hq)) fun _ _ z => z)
  obtain ⟨it, fp, tn, J, H2, e, I2, T, st2, f2, hR⟩ := h2
  subst e
  refine wpAny_newObj_type (wpAny_newFunctionEnv hcell (by intro y hy; simp at hy) (fun h₁ hns₁ hsb₁ => ?_) hk)
  dsimp only at hns₁ hsb₁ ⊢
  have I3 := I2.lnew (ys := []) (its := []) (t' := s2.toks) .nil (Nat.zero_le _)
  have fpl : ∀ b ∈ fp, b < s2.heap.objs.size := fun b hb => by
    obtain ⟨o, e, _⟩ := T.obj 0 _ st2 b hb
    exact Heap.lt_size e
  have fpa : ∀ b ∈ fp, b ≠ s2.heap.objs.size := fun b hb => Nat.ne_of_lt (fpl b hb)
  have f3 : ∀ b ∈ fp, FpOk X pins (upd H2 s2.heap.objs.size (.lst [])) b := fun b hb => ⟨by rw [upd_ne (fpa b hb)]; exact (f2 b hb).1, (f2 b hb).2⟩
  have hR' := hR ⟨{ s2 with heap := s2.heap.push { cls := .type "list", data := .seq ([] : List Value).toArray } }, upd H2 s2.heap.objs.size (.lst []), fp⟩ s2.heap.objs.size I2.fresh
  have I4 := I3.cmp (N := N) (cl := cl) (js := js) (t' := s2.toks) f3 (fun b hb => by
    show b < (s2.heap.push _).objs.size
    rw [Heap.size_push]
    exact Nat.lt_succ_of_lt (fpl b hb)) hk hcl hcn hsh hl hns₁ hsb₁
  have st4 : tn 0 h₁ := T.keep 0 _ _ st2 fun b hb o e => (hsb₁.2 b (by
    rw [Heap.size_push]
    exact Nat.ne_of_lt (Nat.lt_succ_of_lt (fpl b hb)))).trans (Heap.get?_push_of_some _ (Heap.get?_push_of_some _ e))
  have f4 : ∀ b ∈ fp, FpOk (X.cmp N scope cl ⟨{ s2 with heap := s2.heap.push { cls := .type "list", data := .seq ([] : List Value).toArray } }, upd H2 s2.heap.objs.size (.lst []), fp⟩) [] (upd H2 s2.heap.objs.size (.lst [])) b := fun b hb =>
    ⟨(f3 b hb).1, (I4.ok.exf b hb).1, I4.ok.exfs b hb, .inl hb, (I4.ok.exf b hb).2, fun p hp => absurd (show p ∈ ([] : List (Addr × Obj)) from hp) (by simp)⟩
  have lt3 : ∀ b ob, ({ s2 with heap := s2.heap.push { cls := .type "list", data := .seq ([] : List Value).toArray } } : Shared).heap.get? b = some ob → b < (s2.heap.push { cls := .type "list", data := .seq ([] : List Value).toArray }).objs.size := fun b ob e => Heap.lt_size e
  have loop := codeAny_mono (comp_loop (X := X.cmp N scope cl ⟨{ s2 with heap := s2.heap.push { cls := .type "list", data := .seq ([] : List Value).toArray } }, upd H2 s2.heap.objs.size (.lst []), fp⟩) (e := .ListComp elt (⟨tg, iter, ifs, 0⟩ :: rest) scope pos) (d := 0) (acc := .ref s2.heap.objs.size) (pins := []) hxe hc (ht _ _ _) rfl rfl rfl T (hg _) (hb _ _) I4 st4 f4 hR') (R' := compPost (model X.prog X.w) X.A X.xe (some (assign (.Name y ypos) X.env)) (fun _ s' => SP X pins D .next s') (.ref s2.heap.objs.size) (s2.heap.push { cls := .type "list", data := .seq ([] : List Value).toArray }).objs.size) (fun r s' hq => by
    obtain ⟨rfl, σ', H', J', q⟩ := hq
    obtain ⟨m, hn, _⟩ := id J'.loc
    have I5 : Inv X pins σ H' s' := I3.uncmp f3 J' (Heap.SameBut.refl _ _)
    have nL : (s2.heap.push { cls := .type "list", data := .seq ([] : List Value).toArray }).objs.size ≠ X.env.locals := Nat.ne_of_gt I3.lt
    have nC : ∀ x c, X.env.cells.lookup x = some c → c ≠ (s2.heap.push { cls := .type "list", data := .seq ([] : List Value).toArray }).objs.size := fun x c e => by
      obtain ⟨v, o, ho, _⟩ := I3.cell x c e
      exact Nat.ne_of_lt (lt3 _ _ ho)
    show wpAny _ _ (assign (.Name y ypos) X.env (.ref s2.heap.objs.size)) _ _ _
    refine wpAny_assign_Name (store_ok2 I5 hN hy hyl (v := .ref s2.heap.objs.size) rfl (fun s6 I6 ⟨a, sb, ha⟩ => ?_) hf)
    have na : (s2.heap.push { cls := .type "list", data := .seq ([] : List Value).toArray }).objs.size ≠ a := by
      rcases ha with z | z
      · rw [z]; exact nL
      · exact Ne.symm (nC _ _ z)
    refine ⟨m, hn.sameBut sb na, fun h7 sb7 => ?_⟩
    refine ⟨_, H', I6.turned (t' := s6.toks) (it := (s2.heap.push { cls := .type "list", data := .seq ([] : List Value).toArray }).objs.size) (fun b ob nb e => (sb7.2 b nb).trans e) J'.free nL (.inr (Nat.le_trans I3.sz (Nat.le_refl _))) nC (fun p hp => Nat.ne_of_lt (lt3 _ _ (I3.pin p hp).1)), q⟩)
  exact comp_start (X := X.cmp N scope cl ⟨{ s2 with heap := s2.heap.push { cls := .type "list", data := .seq ([] : List Value).toArray } }, upd H2 s2.heap.objs.size (.lst []), fp⟩) rfl rfl rfl (fun _ => rfl) True.intro loop (T.self _ 0 _ _ _ st4 loop)
variable {tg1 iter1 : Expr} {ifs1 : List Expr} {wi1 : CC → TI} {g1 : CC → TG} {tc tc1 : CC → TT} {te : CC → TE}
/-- y = [elt for tg in iter if ..] -/
theorem ps_comp1 (hN : X.N.Nodup) (hy : X.N[i]? = some y) (hyl : Loc X.env.scope y) (h : CompOk X N scope cl js) (hi : PI X tg iter wi) (hg : ∀ c, PG (X.cmp N scope cl c) tg (g c)) (hif : ∀ c, PTs (X.cmp N scope cl c) ifs (tc c)) (he : ∀ c, PE (X.cmp N scope cl c) elt (te c))
    (hxe : X.xe = NoE := by rfl) (hc : X.calm = true := by rfl) (hs : ∀ x, foldedSetIterable iter X.env x = pure x := by intro _; rfl) (hsw : swapsWith (.ListComp elt [⟨tg, iter, ifs, 0⟩] scope pos) (some (.Name y ypos)) spos.line X.env = pure true := by rfl)
    (hf : X.fn y = true ∨ X.env.scope.names.lookup y = some .local := by first | exact .inl rfl | exact .inr rfl) :
    PS X (.Assign [.Name y ypos] (.ListComp elt [⟨tg, iter, ifs, 0⟩] scope pos) spos) (tAsg (tComp wi js g fun c ac => tIfC (tc c) (tEmit ac (te c))) (gName i)) :=
  ps_compG (WB := fun c ac => emitWB (X.cmp N scope cl c) ifs elt ac) hxe hc hi hs h.clos h.kind h.names h.cell h.ccl h.hcn h.shr h.len (fun c it ac => ht_one) hg (fun c ac => pb_emit hxe (hif c) (he c)) hN hy hyl hsw hf
/-- y = [elt for tg in iter if .. for tg1 in iter1 if ..] -/
theorem ps_comp2 (hN : X.N.Nodup) (hy : X.N[i]? = some y) (hyl : Loc X.env.scope y) (h : CompOk X N scope cl js) (hi : PI X tg iter wi) (hg : ∀ c, PG (X.cmp N scope cl c) tg (g c)) (hif : ∀ c, PTs (X.cmp N scope cl c) ifs (tc c))
    (hi1 : ∀ c, PI (X.cmp N scope cl c) tg1 iter1 (wi1 c)) (hg1 : ∀ c, PG (X.cmp N scope cl c) tg1 (g1 c)) (hif1 : ∀ c, PTs (X.cmp N scope cl c) ifs1 (tc1 c)) (he : ∀ c, PE (X.cmp N scope cl c) elt (te c))
    (hs1 : ∀ c x, foldedSetIterable iter1 (X.cmp N scope cl c).env x = pure x := by intro _ _; rfl)
    (hxe : X.xe = NoE := by rfl) (hc : X.calm = true := by rfl) (hs : ∀ x, foldedSetIterable iter X.env x = pure x := by intro _; rfl) (hsw : swapsWith (.ListComp elt [⟨tg, iter, ifs, 0⟩, ⟨tg1, iter1, ifs1, 0⟩] scope pos) (some (.Name y ypos)) spos.line X.env = pure true := by rfl)
    (hf : X.fn y = true ∨ X.env.scope.names.lookup y = some .local := by first | exact .inl rfl | exact .inr rfl) :
    PS X (.Assign [.Name y ypos] (.ListComp elt [⟨tg, iter, ifs, 0⟩, ⟨tg1, iter1, ifs1, 0⟩] scope pos) spos) (tAsg (tComp wi js g fun c ac => tIfC (tc c) (tFor (wi1 c) (g1 c) (tIfC (tc1 c) (tEmit ac (te c))))) (gName i)) :=
  ps_compG (WB := fun c ac => outWB (X.cmp N scope cl c) ifs (.ListComp elt [⟨tg, iter, ifs, 0⟩, ⟨tg1, iter1, ifs1, 0⟩] scope pos) iter1 ac) hxe hc hi hs h.clos h.kind h.names h.cell h.ccl h.hcn h.shr h.len (fun c it ac => ht_out (hs1 c)) hg
    (fun c ac => pb_out hxe hc (hif c) (hi1 c) (hg1 c) (pb_emit hxe (hif1 c) (he c))) hN hy hyl hsw hf
end
end L2
namespace L2
open PySem PySem.Spec PyProof.Rows
/-! ### the table of a set: its places rise -/
abbrev Up (xs : Array Nat) : Prop := xs.toList.Pairwise (· < ·)
theorem Up.lt {xs : Array Nat} (u : Up xs) {i j : Nat} {a b : Nat} (h : i < j) (ha : xs[i]? = some a) (hb : xs[j]? = some b) : a < b := by
  have ha' : xs.toList[i]? = some a := by simpa using ha
  have hb' : xs.toList[j]? = some b := by simpa using hb
  obtain ⟨h1, e1⟩ := List.getElem?_eq_some_iff.mp ha'
  obtain ⟨h2, e2⟩ := List.getElem?_eq_some_iff.mp hb'
  have := List.pairwise_iff_getElem.mp u i j h1 h2 h
  omega
/-- where j would stand -/
structure Bel (xs : Array Nat) (j p : Nat) : Prop where
  le : p ≤ xs.size
  lo : ∀ i a, i < p → xs[i]? = some a → a < j
  hi : ∀ i a, p ≤ i → xs[i]? = some a → j ≤ a
theorem below_go {xs : Array Nat} (u : Up xs) (j : Nat) : ∀ (fuel lo hi : Nat), hi - lo ≤ fuel → lo ≤ hi → hi ≤ xs.size → (∀ i a, i < lo → xs[i]? = some a → a < j) → (∀ i a, hi ≤ i → xs[i]? = some a → j ≤ a) →
    Bel xs j (SetTable.below.go xs j fuel lo hi)
  | 0, lo, hi, h1, h2, h3, h4, h5 => by
    have e : lo = hi := by omega
    subst e
    exact ⟨h3, h4, h5⟩
  | fuel + 1, lo, hi, h1, h2, h3, h4, h5 => by
    unfold SetTable.below.go
    by_cases hlt : lo < hi
    · rw [if_pos hlt]
      have hm : (lo + hi) / 2 < xs.size := by omega
      have eg : xs[(lo + hi) / 2]? = some xs[(lo + hi) / 2] := Array.getElem?_eq_getElem hm
      have ed : xs.getD ((lo + hi) / 2) j = xs[(lo + hi) / 2] := by simp [Array.getD, hm]
      show Bel xs j (if xs.getD ((lo + hi) / 2) j < j then _ else _)
      rw [ed]
      split
      · rename_i hl
        refine below_go u j fuel ((lo + hi) / 2 + 1) hi (by omega) (by omega) h3 (fun i a hi' ha => ?_) h5
        by_cases e : i = (lo + hi) / 2
        · subst e; rw [eg] at ha; cases ha; exact hl
        · exact Nat.lt_trans (u.lt (show i < (lo + hi) / 2 by omega) ha eg) hl
      · rename_i hl
        refine below_go u j fuel lo ((lo + hi) / 2) (by omega) (by omega) (by omega) h4 (fun i a hi' ha => ?_)
        by_cases e : i = (lo + hi) / 2
        · subst e; rw [eg] at ha; cases ha; omega
        · have := u.lt (show (lo + hi) / 2 < i by omega) eg ha
          omega
    · rw [if_neg hlt]
      have e : lo = hi := by omega
      subst e
      exact ⟨h3, h4, h5⟩
theorem below_is {xs : Array Nat} (u : Up xs) (j : Nat) : Bel xs j (SetTable.below xs j) :=
  below_go u j xs.size 0 xs.size (by omega) (Nat.zero_le _) (Nat.le_refl _) (fun i a h => absurd h (Nat.not_lt_zero _)) fun i a h e => by
    have := (Array.getElem?_eq_some_iff.mp e).1
    omega
/-- the next one is behind the last -/
theorem below_next {xs : Array Nat} (u : Up xs) {i a : Nat} (h : xs[i]? = some a) : SetTable.below xs (a + 1) = i + 1 := by
  have b := below_is u (a + 1)
  have hi : i < xs.size := (Array.getElem?_eq_some_iff.mp h).1
  have h1 : i < SetTable.below xs (a + 1) := by
    rcases Nat.lt_or_ge i (SetTable.below xs (a + 1)) with q | q
    · exact q
    · have := b.hi i a q h
      omega
  rcases Nat.lt_or_ge (i + 1) (SetTable.below xs (a + 1)) with q | q
  · have hs : i + 1 < xs.size := Nat.lt_of_lt_of_le q b.le
    have e2 := Array.getElem?_eq_getElem hs
    have := b.lo (i + 1) _ q e2
    have := u.lt (Nat.lt_succ_self i) h e2
    omega
  · omega
theorem below_zero {xs : Array Nat} (u : Up xs) : SetTable.below xs 0 = 0 := by
  have b := below_is u 0
  rcases Nat.eq_zero_or_pos (SetTable.below xs 0) with q | q
  · exact q
  · have hs : 0 < xs.size := Nat.lt_of_lt_of_le q b.le
    have := b.lo 0 _ q (Array.getElem?_eq_getElem hs)
    omega
theorem up_insert {xs : Array Nat} (u : Up xs) {j : Nat} (h : xs[SetTable.below xs j]? ≠ some j) : Up (SetTable.insertAt xs (SetTable.below xs j) j) := by
  have b := below_is u j
  generalize SetTable.below xs j = p at b h
  unfold Up
  rw [SetTable.toList_insertAt]
  have e1 : ∀ x ∈ xs.toList.take p, x < j := fun x hx => by
    obtain ⟨i, hi⟩ := List.mem_iff_getElem?.mp hx
    rw [List.getElem?_take] at hi
    split at hi
    · rename_i hlt
      exact b.lo i x hlt (by simpa using hi)
    · cases hi
  have e2 : ∀ x ∈ xs.toList.drop p, j < x := fun x hx => by
    obtain ⟨i, hi⟩ := List.mem_iff_getElem?.mp hx
    rw [List.getElem?_drop] at hi
    have hi' : xs[p + i]? = some x := by simpa using hi
    have := b.hi (p + i) x (Nat.le_add_right _ _) hi'
    have ne : x ≠ j := fun e => by
      subst e
      cases i with
      | zero => exact h hi'
      | succ i =>
        have hp : p < xs.size := by
          have := (Array.getElem?_eq_some_iff.mp hi').1
          omega
        have eg := Array.getElem?_eq_getElem hp
        have h3 := b.hi p _ (Nat.le_refl _) eg
        have h4 := u.lt (show p < p + (i + 1) by omega) eg hi'
        omega
    omega
  have u' : (xs.toList.take p ++ xs.toList.drop p).Pairwise (· < ·) := by rw [List.take_append_drop]; exact u
  obtain ⟨p1, p2, p3⟩ := List.pairwise_append.mp u'
  refine List.pairwise_append.mpr ⟨p1, List.pairwise_cons.mpr ⟨e2, p2⟩, fun x hx y hy => ?_⟩
  rcases List.mem_cons.mp hy with q | q
  · rw [q]; exact e1 x hx
  · exact Nat.lt_trans (e1 x hx) (e2 y q)
theorem up_range (n : Nat) : Up (Array.range n) := by
  unfold Up
  rw [Array.toList_range]
  exact List.pairwise_lt_range
end L2
namespace L2
open PySem PySem.Spec PyProof.Rows
structure TabOk (byT : Bool) (t : SetTable) : Prop where
  dum : t.dummies = #[]
  led : t.led = !byT
  up : Up t.place
/-- what a walk asks of a table -/
structure TabIt (byT : Bool) (t : SetTable) : Prop where
  led : t.led = !byT
  up : Up t.place
theorem TabOk.it {byT : Bool} {t : SetTable} (h : TabOk byT t) : TabIt byT t := ⟨h.led, h.up⟩
theorem TabOk.plain_off {byT : Bool} {t : SetTable} (h : TabOk byT t) : TabOk byT { t with plain := false } := ⟨h.dum, h.led, h.up⟩
theorem TabOk.standIn {byT : Bool} {t : SetTable} (h : TabOk byT t) (n : Nat) : TabOk byT (t.standIn n) := ⟨rfl, h.led, up_range n⟩
theorem TabOk.orStandIn {byT : Bool} {t : SetTable} (h : TabOk byT t) (n : Nat) : TabOk byT (t.orStandIn n) := by
  unfold SetTable.orStandIn
  split
  · exact h
  · exact h.standIn n
theorem TabOk.fresh (byT : Bool) (led : Bool) (e : led = !byT) : TabOk byT (.fresh 0 0 led) := ⟨rfl, e, List.Pairwise.nil⟩
theorem has_nil (j : Nat) : SetTable.has #[] j = false := by
  unfold SetTable.has
  simp
theorem advance_dummy (t : SetTable) (p : SetTable.Probe) : (t.advance p).dummy = p.dummy := by
  unfold SetTable.advance
  split
  · rfl
  · rfl
theorem probe_go {t : SetTable} (hd : t.dummies = #[]) {hashAt : Nat → Int} {h : Int} {j : Nat} {d : Option Nat} : ∀ (fuel : Nat) (p : SetTable.Probe), p.dummy = none → SetTable.probe.go t hashAt h fuel p = some (.empty j d) → d = none ∧ t.place[SetTable.below t.place j]? ≠ some j
  | 0, _, _, e => by cases e
  | fuel + 1, p, hp, e => by
    unfold SetTable.probe.go at e
    have hs : ∀ j, t.slot j = if t.place[SetTable.below t.place j]? == some j then .live (SetTable.below t.place j) else .empty := fun j => by
      unfold SetTable.slot
      rw [hd, has_nil]
      rfl
    rw [hs] at e
    split at e
    · rename_i hlive
      split at hlive
      · cases hlive
      · rename_i hne
        injection e with e
        injection e with e1 e2
        subst e1
        refine ⟨by rw [← e2, hp], fun z => hne (by rw [z]; simp)⟩
    · rename_i hlive
      split at hlive <;> cases hlive
    · split at e
      · cases e
      · exact probe_go hd fuel _ (by rw [advance_dummy]; exact hp) e
theorem TabOk.layNew {byT : Bool} {t : SetTable} (ok : TabOk byT t) (es : Array (Int × Value)) (h : Int) (x : Value) : TabOk byT (layNew t es h x).2.1 := by
  unfold PySem.layNew
  cases ef : t.freeSlot h with
  | none => exact ok.standIn _
  | some sw =>
    obtain ⟨slot, wd⟩ := sw
    show TabOk byT ((t.put slot).1.orStandIn _)
    refine TabOk.orStandIn ?_ _
    unfold SetTable.freeSlot at ef
    split at ef
    · rename_i j dummy eq
      have := probe_go ok.dum _ _ rfl eq
      obtain ⟨rfl, hne⟩ := this
      injection ef with ef
      injection ef with e1 e2
      have e1' : j = slot := e1
      subst e1'
      unfold SetTable.put
      refine ⟨?_, ok.led, up_insert ok.up hne⟩
      show (if SetTable.has t.dummies j then _ else t.dummies) = #[]
      rw [ok.dum, has_nil]
      rfl
    · cases ef
theorem TabOk.relayAll {byT : Bool} {t : SetTable} (ok : TabOk byT t) (es : Array (Int × Value)) (wanted : Nat) : TabOk byT (relayAll t es wanted).2.1 := by
  unfold PySem.relayAll
  cases er : t.relaid (es.map (·.1)) wanted with
  | none => exact ok.standIn _
  | some to =>
    obtain ⟨t', order⟩ := to
    dsimp only
    split
    · unfold SetTable.relaid SetTable.laid at er
      cases eo : SetTable.layClean (SetTable.sizeAbove wanted - 1) (es.map (·.1)) with
      | none => rw [eo] at er; cases er
      | some owner =>
        rw [eo] at er
        injection er with er
        injection er with e1 e2
        subst e1
        refine ⟨rfl, ok.led, ?_⟩
        show (List.map (fun x : Nat × Nat => x.fst) (List.filterMap (fun j => Option.map (fun x => (j, x)) (owner.getD j none)) (List.range (SetTable.sizeAbove wanted - 1 + 1)))).toArray.toList.Pairwise (· < ·)
        rw [List.toList_toArray]
        rw [List.map_filterMap]
        refine List.Pairwise.filterMap _ (R := (· < ·)) ?_ List.pairwise_lt_range
        intro a a' hlt b hb b' hb'
        have f : ∀ {a b : Nat}, Option.map (fun x : Nat × Nat => x.1) (Option.map (fun x => (a, x)) (owner.getD a none)) = some b → b = a := fun {a b} e => by
          cases q : owner.getD a none with
          | none => rw [q] at e; cases e
          | some y => rw [q] at e; injection e with e; exact e.symm
        rw [f hb, f hb']
        exact hlt
    · exact ok.standIn _
end L2
namespace L2
open PySem PySem.Spec PyProof.Rows
def keyOf (e : Int × Value) : Int := match e.2 with | .int k _ => k | _ => 0
def EGood (l : List (Int × Value)) : Prop := ∀ e ∈ l, e.1 = hashInt (keyOf e) ∧ ∃ t, e.2 = .int (keyOf e) t
abbrev byT (w : World) : Bool := w.params.followText "set-order"
/-- a set of ints: its members as they lie -/
def SetIs (w : World) (h : Heap) (a : Addr) (ks : List Int) : Prop :=
  ∃ o es ep t, h.get? a = some o ∧ o.ExactSet ∧ o.data = .set es ep t ∧ EGood es.toList ∧ es.toList.map keyOf = ks ∧ ks.Nodup ∧ ks.length < 2000 ∧ TabOk (byT w) t ∧ t.fits es.size = true
theorem SetIs.keep {w : World} {h h' : Heap} {a : Addr} {ks : List Int} (x : SetIs w h a ks) (k : ∀ o, h.get? a = some o → h'.get? a = some o) : SetIs w h' a ks := by
  obtain ⟨o, es, ep, t, ho, r⟩ := x
  exact ⟨o, es, ep, t, k o ho, r⟩
/-- the same, of a set of which members may have been taken out -/
def SetIt (w : World) (h : Heap) (a : Addr) (ks : List Int) : Prop :=
  ∃ o es ep t, h.get? a = some o ∧ o.ExactSet ∧ o.data = .set es ep t ∧ EGood es.toList ∧ es.toList.map keyOf = ks ∧ ks.Nodup ∧ ks.length < 2000 ∧ TabIt (byT w) t ∧ t.fits es.size = true
theorem SetIs.it {w : World} {h : Heap} {a : Addr} {ks : List Int} (x : SetIs w h a ks) : SetIt w h a ks := by
  obtain ⟨o, es, ep, t, h1, h2, h3, h4, h5, h6, h7, h8, h9⟩ := x
  exact ⟨o, es, ep, t, h1, h2, h3, h4, h5, h6, h7, h8.it, h9⟩
theorem SetIt.keep {w : World} {h h' : Heap} {a : Addr} {ks : List Int} (x : SetIt w h a ks) (k : ∀ o, h.get? a = some o → h'.get? a = some o) : SetIt w h' a ks := by
  obtain ⟨o, es, ep, t, ho, r⟩ := x
  exact ⟨o, es, ep, t, k o ho, r⟩
section
variable {prog : Program} {w : World} {A : Around} {E : Value → Shared → Prop} {s : Shared} {a : Addr} {ks : List Int} {k : Int} {tk : Tok}
theorem EGood.elems {l : List (Int × Value)} (h : EGood l) : ElemsOf (intKind prog w) l := fun e he => by
  obtain ⟨h1, t, h2⟩ := h e he
  refine ⟨⟨keyOf e, ?_, h1⟩, ?_⟩
  · rw [h2]; exact intKind_is _ _ _ _
  · rw [h2]; rfl
theorem EGood.is {l : List (Int × Value)} (h : EGood l) {e : Int × Value} (he : e ∈ l) {j : Int} : (intKind prog w).is j e.2 = true ↔ j = keyOf e := by
  obtain ⟨_, t, h2⟩ := h e he
  constructor
  · intro q
    exact (intKind prog w).inj e.2 j (keyOf e) q (by rw [h2]; exact intKind_is _ _ _ _)
  · rintro rfl
    rw [h2]
    exact intKind_is _ _ _ _
theorem sz_map {es : Array (Int × Value)} (e : es.toList.map keyOf = ks) : es.size = ks.length := by rw [← e, List.length_map, Array.length_toList]
theorem set_stored {h : Heap} {o : Obj} {es es' : Array (Int × Value)} {ep : Nat} {t t' : SetTable} (ho : h.get? a = some o) (hex : o.ExactSet) (hd : o.data = .set es ep t) (g : EGood es'.toList) (nd : (es'.toList.map keyOf).Nodup) (hl : es'.size < 2000) (ok : TabOk (byT w) t') (hf : t'.fits es'.size = true) :
    (h.update a (Obj.putSet es' t')).get? a = some { o with data := .set es' (ep + 1) t' } ∧ SetIs w (h.update a (Obj.putSet es' t')) a (es'.toList.map keyOf) := by
  have hg : (h.update a (Obj.putSet es' t')).get? a = some { o with data := .set es' (ep + 1) t' } := by
    have := Heap.get?_update_self (Obj.putSet es' t') ho (by rw [putSet_of es' t' hd]; rfl)
    rw [putSet_of es' t' hd] at this; exact this
  exact ⟨hg, _, es', ep + 1, t', hg, hex, rfl, g, rfl, nd, by rw [List.length_map, Array.length_toList]; exact hl, ok, hf⟩
theorem fit2000 {n : Nat} (h : n < 2000) : n < scanBound := by unfold scanBound; omega
theorem add_tail {g : Bool → Sem Unit} (hg : ∀ (b : Bool) (s₁ : Shared) (Q' : Unit → Shared → Prop), Q' () s₁ → wpAny (model prog w) A (g b) Q' E s₁)
    {o : Obj} {es es1 : Array (Int × Value)} {ep : Nat} {t t2 : SetTable} (ho : s.heap.get? a = some o) (hex : o.ExactSet) (hd : o.data = .set es ep t) (g1 : EGood es1.toList) (nd : (es1.toList.map keyOf).Nodup) (hl : es1.size < 2000) (ok : TabOk (byT w) t2) (hf : t2.fits es1.size = true) {wasDummy : Bool} {R : Option Bool → Shared → Prop}
    (h : ∀ h' ks', Heap.SameBut a s.heap h' → SetIs w h' a ks' → ks'.Perm (es1.toList.map keyOf) → R (some true) { s with heap := h' }) :
    wpAny (model prog w) A (do
        storeSet a es1 t2
        if (!wasDummy && t2.tooFull) = true then do
            g (relayAll t2 es1 (SetTable.grown es1.size)).2.2
            storeSet a (relayAll t2 es1 (SetTable.grown es1.size)).1 (relayAll t2 es1 (SetTable.grown es1.size)).2.1
            pure (some true)
          else pure (some true)) R E s := by
  refine wpAny_bind (wpAny_storeSet_of ho hd ?_ (fits_of_scanBound (fit2000 hl)))
  obtain ⟨ho1, hS1⟩ := set_stored (w := w) ho hex hd g1 nd hl ok hf
  have hsb1 := Heap.SameBut.update s.heap a (Obj.putSet es1 t2)
  split
  · have hp := relayAll_perm t2 es1 (SetTable.grown es1.size)
    have hfr := relayAll_fits t2 es1 (SetTable.grown es1.size)
    have okr := ok.relayAll es1 (SetTable.grown es1.size)
    generalize hRl : relayAll t2 es1 (SetTable.grown es1.size) = Rl at hp hfr okr ⊢
    obtain ⟨es2, t3, gave2⟩ := Rl
    dsimp only at hp hfr okr ⊢
    have hsz : es2.size = es1.size := by rw [← Array.length_toList, hp.length_eq, Array.length_toList]
    have hb2 : es2.size < 2000 := by rw [hsz]; exact hl
    have g2 : EGood es2.toList := fun e he => g1 e (hp.mem_iff.mp he)
    refine wpAny_bind (hg _ _ _ ?_)
    refine wpAny_bind (wpAny_storeSet_of ho1 rfl ?_ (fits_of_scanBound (fit2000 hb2)))
    obtain ⟨_, hS2⟩ := set_stored (w := w) ho1 hex rfl g2 ((hp.map keyOf).nodup_iff.mpr nd) hb2 okr hfr
    exact wpAny_pure (h _ _ (hsb1.trans (Heap.SameBut.update _ a _)) hS2 (hp.map keyOf))
  · exact wpAny_pure (h _ _ hsb1 hS1 (List.Perm.refl _))
theorem set_add {Q : Bool → Shared → Prop} (hS : SetIs w s.heap a ks) (hroom : ks.length + 1 < 2000)
    (h : ∀ h' ks', Heap.SameBut a s.heap h' → SetIs w h' a ks' → (∀ j, j ∈ ks' ↔ j ∈ ks ∨ j = k) → ks'.length ≤ ks.length + 1 → Q (!decide (k ∈ ks)) { s with heap := h' }) :
    wpAny (model prog w) A (setAddHashed a (.int k tk) (hashInt k)) Q E s := by
  obtain ⟨o, es, ep, t, ho, hex, hd, hg, hk, nd, hl, ok, hf⟩ := id hS
  have hsz := sz_map hk
  have hkey : (intKind prog w).is k (.int k tk) = true := intKind_is _ _ _ _
  unfold setAddHashed setAddHashedIn
  refine wpAny_holding (wpAny_bind (wpAny_setState_of ho hd hf ?_))
  dsimp only
  rw [byScan_of (knd := intKind prog w) rfl (by rw [hsz]; exact fit2000 hl) hg.elems]
  simp only [↓reduceIte]
  unfold setAddByScan
  refine wpAny_bind ?_
  refine wpAny_bind (wpAny_rule ?_)
  refine wpAny_bind (wpAny_setScan_of (knd := intKind prog w) hkey ho hd hf hg.elems ?_)
  cases hr : List.findIdx? (fun e => (intKind prog w).is k e.2) es.toList with
  | some j =>
    dsimp only
    obtain ⟨hj, hpj, _⟩ := List.findIdx?_eq_some_iff_getElem.mp hr
    have hmem : k ∈ ks := by
      rw [← hk, (hg.is (List.getElem_mem hj)).mp hpj]
      exact List.mem_map_of_mem (List.getElem_mem hj)
    refine wpAny_pure (wpAny_pure ?_)
    have e : s = { s with heap := s.heap } := by cases s; rfl
    have := h s.heap ks (Heap.SameBut.refl a s.heap) hS (fun j => ⟨.inl, fun z => z.elim id fun z => z ▸ hmem⟩) (Nat.le_succ _)
    rw [decide_eq_true hmem] at this; rw [e]; exact this
  | none =>
    dsimp only
    have hmem : k ∉ ks := fun z => by
      rw [← hk] at z
      obtain ⟨e, he, rfl⟩ := List.mem_map.mp z
      have := List.findIdx?_eq_none_iff.mp hr e he
      rw [(hg.is he).mpr rfl] at this
      cases this
    have hgw : ∀ (b : Bool) {s₁ : Shared} {Q' : Unit → Shared → Prop}, Q' () s₁ → wpAny (model prog w) A (match b with | true => rule "set.scan.the-table-gave-way" | false => pure ()) Q' E s₁ :=
      fun b s₁ Q' hq => by cases b <;> first | exact wpAny_pure hq | exact wpAny_rule hq
    have hperm := layNew_perm t es (hashInt k) (.int k tk)
    have hfits := layNew_fits t es (hashInt k) (.int k tk)
    have ok1 := ok.layNew es (hashInt k) (.int k tk)
    generalize hL : layNew t es (hashInt k) (.int k tk) = L at hperm hfits ok1
    have hL' : layNew t es ((intKind prog w).hash k) (.int k tk) = L := hL
    show wpAny (model prog w) A _ _ E s
    obtain ⟨es1, t1, wasDummy, gave⟩ := L
    simp only [hL]
    dsimp only at hperm hfits ok1 ⊢
    rw [Array.toList_push] at hperm
    have hg1 : EGood es1.toList := fun e he => by
      rcases List.mem_append.mp (hperm.mem_iff.mp he) with z | z
      · exact hg e z
      · rw [List.mem_singleton.mp z]
        exact ⟨rfl, tk, rfl⟩
    have hpk : (es1.toList.map keyOf).Perm (ks ++ [k]) := by
      have := hperm.map keyOf
      rw [List.map_append, hk] at this
      exact this
    have nd1 : (es1.toList.map keyOf).Nodup := hpk.nodup_iff.mpr (List.nodup_append.mpr ⟨nd, List.nodup_cons.mpr ⟨by simp, List.nodup_nil⟩, fun x hx y hy => by rw [List.mem_singleton.mp hy]; intro z; subst z; exact hmem hx⟩)
    have hl1 : es1.size < 2000 := by
      have := hpk.length_eq
      rw [List.length_map, Array.length_toList, List.length_append] at this
      rw [this]
      exact hroom
    refine wpAny_bind (hgw _ ?_)
    have hend : ∀ h' ks', Heap.SameBut a s.heap h' → SetIs w h' a ks' → ks'.Perm (es1.toList.map keyOf) → Q true { s with heap := h' } := by
      intro h' ks' hsb hS' hp'
      have hq := hp'.trans hpk
      have := h h' ks' hsb hS' (fun j => by rw [hq.mem_iff, List.mem_append, List.mem_singleton]) (by rw [hq.length_eq, List.length_append]; exact Nat.le_refl _)
      rw [decide_eq_false hmem] at this
      exact this
    split
    · refine wpAny_bind ?_
      rw [hashByValue_scannable 8 (x := .int k tk) rfl]
      refine wpAny_pure ?_
      refine add_tail ?_ ho hex hd hg1 nd1 hl1 ?_ ?_ ?_
      · intro b s₁ Q' hq; cases b <;> first | exact wpAny_pure hq | exact wpAny_rule hq
      · split
        · exact ok1
        · exact ok1.plain_off
      · split
        · exact hfits
        · exact SetTable.fits_plain_off hfits
      · intro h' ks' hsb hS' hp'; dsimp only; exact wpAny_pure (hend h' ks' hsb hS' hp')
    · refine wpAny_bind (wpAny_pure ?_)
      simp only [↓reduceIte]
      refine add_tail ?_ ho hex hd hg1 nd1 hl1 ok1 hfits ?_
      · intro b s₁ Q' hq; cases b <;> first | exact wpAny_pure hq | exact wpAny_rule hq
      · intro h' ks' hsb hS' hp'; dsimp only; exact wpAny_pure (hend h' ks' hsb hS' hp')
end
end L2
namespace L2
open PySem PySem.Spec PyProof.Rows
abbrev set0 (w : World) : Obj := { cls := .type "set", dict := none, data := .set #[] 0 (.fresh 0 0 (!byT w)) }
theorem set0_is {w : World} {h : Heap} : SetIs w (h.push (set0 w)) h.objs.size [] :=
  ⟨_, #[], 0, _, Heap.get?_push_size _ rfl, ⟨rfl, rfl, rfl⟩, rfl, fun e he => absurd he (by simp), rfl, List.nodup_nil, by decide, TabOk.fresh _ _ rfl, rfl⟩
section
variable {prog : Program} {w : World} {A : Around} {E : Value → Shared → Prop} {s : Shared} {a : Addr} {ks : List Int} {k : Int} {tk : Tok}
theorem SetIs.typeIs (hS : SetIs w s.heap a ks) : s.TypeIs (.ref a) "set" := let ⟨o, _, _, _, ho, hc, _⟩ := hS; ⟨o, ho, hc.1⟩
theorem SetIs.noDict (hS : SetIs w s.heap a ks) : ∀ b, Value.ref a = .ref b → ∃ ob, s.heap.get? b = some ob ∧ ob.dict = none :=
  fun b e => by injection e with e; subst e; exact let ⟨o, _, _, _, ho, hc, _⟩ := hS; ⟨o, ho, hc.2.1⟩
theorem SetIt.typeIs (hS : SetIt w s.heap a ks) : s.TypeIs (.ref a) "set" := let ⟨o, _, _, _, ho, hc, _⟩ := hS; ⟨o, ho, hc.1⟩
theorem SetIt.noDict (hS : SetIt w s.heap a ks) : ∀ b, Value.ref a = .ref b → ∃ ob, s.heap.get? b = some ob ∧ ob.dict = none :=
  fun b e => by injection e with e; subst e; exact let ⟨o, _, _, _, ho, hc, _⟩ := hS; ⟨o, ho, hc.2.1⟩
theorem code_new {vs : List Value} (hv : vs = [] ∨ ∃ x, vs = [x]) {Q₁ : Value → Shared → Prop}
    (h : Q₁ (.ref s.heap.objs.size) { s with heap := s.heap.push (set0 w) }) :
    codeAny (model prog w) A (.call (.builtin "set.__new__") ⟨.type "set" :: vs, []⟩) (wants Q₁ E) s := by
  have hn : checkBuiltinCall "set.__new__" ⟨.type "set" :: vs, []⟩ = pure () := by
    rcases hv with rfl | ⟨x, rfl⟩
    · exact F.newCall_set_0
    · exact F.newCall_set_1 x
  refine codeAny_of_tree ?_
  show wpAny _ A.in1 (do checkBuiltinCall "set.__new__" ⟨.type "set" :: vs, []⟩; again (.builtin "set.__new__" ⟨.type "set" :: vs, []⟩)) _ _ s
  refine wpAny_bind (wpAny_of_eq hn (wpAny_pure ⟨plainId_quiet F.plain_set_new _, codeAny_builtin F.entry_set_new ?_⟩))
  rw [Around.under_plainId F.plain_set_new _]
  have hsub := sub_set_self
  obtain ⟨hp, g, d, tk, os⟩ := s
  rcases hv with rfl | ⟨x, rfl⟩
  all_goals
    unfold Builtin.«set.__new__» Builtin.Frozenset.newClass
    dsimp only
    wp_walk
    refine wpAny_askSetting (wpAny_pure ?_)
    dsimp only
    simp only [newObj]
    refine wpAny_bind (wpAny_alloc (wpAny_pure ?_))
    exact wpAny_pure h
set_option maxHeartbeats 1000000 in
theorem call_new {Q : Value → Shared → Prop} (h : Q (.ref s.heap.objs.size) { s with heap := s.heap.push (set0 w) }) : wpAny (model prog w) A (call (.type "set") []) Q E s := by
  obtain ⟨c, tl, hmro⟩ := F.called_set.mro
  have hmade := F.called_set.made
  have hsub := F.called_set.sub
  refine wpAny_call (codeAny_of_tree ?_)
  show wpAny _ _ (callAny (.type "set") _) _ _ _
  refine wpAny_pure ⟨Code.quiet_builtin _ (by decide +kernel), codeAny_builtin F.entry_type_call ?_⟩
  rw [Around.under_plain (weight_type_call_type "set" [] []) rfl]
  have h1 := F.called_set.notType
  have h2 := F.called_set.canCreate
  have hct := F.typeCall_set_0
  repeat (any_goals (first | assumption | wp_step))
  refine codeAny_mono (code_new (E := E) (.inl rfl) (Q₁ := fun obj s₁ => obj = .ref s.heap.objs.size ∧ s₁ = { s with heap := s.heap.push (set0 w) }) ⟨rfl, rfl⟩) fun r s₁ hr => ?_
  cases r with
  | error e => exact hr
  | ok fl =>
    cases fl with
    | ret obj =>
      obtain ⟨rfl, rfl⟩ := hr
      have hS : (s.heap.push (set0 w)).get? s.heap.objs.size = some (set0 w) := Heap.get?_push_size _ rfl
      have hT : Shared.TypeIs { s with heap := s.heap.push (set0 w) } (.ref s.heap.objs.size) "set" := ⟨_, hS, rfl⟩
      have hli := F.called_set.init.lookup
      have hbi := F.called_set.init.bind (.ref s.heap.objs.size)
      repeat (any_goals (first | assumption | wp_step))
      refine codeAny_mono (codeAny_call_builtin (R := wants (fun r s₂ => r = .none ∧ Q (.ref s.heap.objs.size) s₂) E) F.called_set.init.plain F.entry_set_init (check_set_init hT ?_)) fun r₂ s₂ hr₂ => ?_
      · unfold Builtin.«set.__init__» noKeywords
        wp_walk
        exact ⟨rfl, h⟩
      · cases r₂ with
        | error e => exact hr₂
        | ok fl₂ =>
          cases fl₂ with
          | ret r =>
            obtain ⟨rfl, hQ⟩ := hr₂
            repeat (any_goals (first | assumption | wp_step))
          | _ => exact hr₂.elim
    | _ => exact hr.elim
theorem call_add {Q : Value → Shared → Prop} (hS : SetIs w s.heap a ks) (hroom : ks.length + 1 < 2000)
    (h : ∀ h' ks', Heap.SameBut a s.heap h' → SetIs w h' a ks' → (∀ j, j ∈ ks' ↔ j ∈ ks ∨ j = k) → ks'.length ≤ ks.length + 1 → Q .none { s with heap := h', toks := s.toks + 1 }) :
    wpAny (model prog w) A (call (.builtin "set.add") [.ref a, .int k tk]) Q E s := by
  refine wpAny_call_entry F.slot_set_add hS.typeIs F.entry_set_add ?_ (F.args_set_add_2 _ _)
  unfold Builtin.«set.add» Builtin.Frozenset.oneOther
  simp only [List.isEmpty_nil, bind_assoc]
  unfold Builtin.Frozenset.addrOf setAdd
  refine wpAny_bind (wpAny_pure ?_)
  try dsimp only
  refine wpAny_bind (wpAny_pure ?_)
  try dsimp only
  refine wpAny_bind ?_
  refine wpAny_holding ?_
  refine wpAny_bind ((intKind prog w).pyHash (k := k) (intKind_is _ _ _ _) ?_)
  refine set_add (s := { s with toks := s.toks + 1 }) hS hroom fun h' ks' hsb hS' hm hl => ?_
  show wpAny _ _ (ret Value.none) _ _ _
  exact wpAny_pure ⟨_, rfl, h h' ks' hsb hS' hm hl⟩
end
end L2
namespace L2
open PySem PySem.Spec PyProof.Rows
theorem slot_setit_next : Slot "set_iterator" "__next__" "set_iterator.__next__" :=
  .of (owner := "set_iterator") (n := "__next__") (by rw [typeLookup_type, builtinLookup_eq_fast]; kernel_rfl) (by decide +kernel) (by decide +kernel) (by decide +kernel)
    (by first | exact .inl (by decide +kernel) | exact .inr (by decide +kernel)) (by rw [isSubtype_type]; kernel_rfl)
theorem entry_setit_next : entryFor table "set_iterator.__next__" = some Builtin.«set_iterator.__next__» := entryFor_of_tree (by kernel_rfl)
theorem args_setit_next (a : Value) : argsOk "set_iterator.__next__" ⟨[a], []⟩ := by unfold argsOk; kernel_rfl
theorem entry_set_iter : entryFor table "set.__iter__" = some Builtin.«frozenset.__iter__» := entryFor_alias (id' := "frozenset.__iter__") (by kernel_rfl) rfl (by decide +kernel) (by kernel_rfl)
theorem slot_setit_iter : Slot "set_iterator" "__iter__" "set_iterator.__iter__" :=
  .of (owner := "set_iterator") (n := "__iter__") (by rw [typeLookup_type, builtinLookup_eq_fast]; kernel_rfl) (by decide +kernel) (by decide +kernel) (by decide +kernel)
    (by first | exact .inl (by decide +kernel) | exact .inr (by decide +kernel)) (by rw [isSubtype_type]; kernel_rfl)
theorem entry_setit_iter : entryFor table "set_iterator.__iter__" = some Builtin.«dict_keyiterator.__iter__» := entryFor_alias (id' := "dict_keyiterator.__iter__") (by kernel_rfl) rfl (by decide +kernel) (by kernel_rfl)
theorem args_setit_iter (a : Value) : argsOk "set_iterator.__iter__" ⟨[a], []⟩ := by unfold argsOk; kernel_rfl
theorem slot_set_len' : Slot "set" "__len__" "set.__len__" :=
  .of (owner := "set") (n := "__len__") (by rw [typeLookup_type, builtinLookup_eq_fast]; kernel_rfl) (by decide +kernel) (by decide +kernel) (by decide +kernel)
    (by first | exact .inl (by decide +kernel) | exact .inr (by decide +kernel)) (by rw [isSubtype_type]; kernel_rfl)

end L2
namespace L2
open PySem PySem.Spec PyProof.Rows
/-- how a set is walked: what the iterator keeps, and what comes -/
inductive Mode (w : World) (a : Addr) (es : Array (Int × Value)) (ep : Nat) (t : SetTable) (h : Heap) : (Nat → Value) → List Value → Prop where
  | text : byT w = true → Mode w a es ep t h (fun _ => rawInt 0) ((pickOrder (w.params.setOrder a ep) es).toList.map (·.2))
  | led : byT w = false → (!t.plain && decide (es.size > 1)) = false → Mode w a es ep t h (fun i => rawInt (((if i = 0 then 0 else t.place.getD (i - 1) 0 + 1 : Nat)) : Int)) (es.toList.map (·.2))
  | drw (T : Addr) (o : Obj) (c : Nat) (ps : List Nat) : byT w = false → h.get? T = some o → o.data = .seq (ps.map fun (i : Nat) => rawInt i).toArray c → (∀ p ∈ ps, p < es.size) → Mode w a es ep t h (fun _ => .ref T) (ps.map fun p => (es.getD p (0, .none)).2)
def ItAt (h : Heap) (it a : Addr) (first : Value) (i n ep : Nat) : Prop := ∃ o, h.get? it = some o ∧ o.cls = .type "set_iterator" ∧ o.data = .fields #[first, rawInt i, .ref a, rawInt n, rawInt ep]
theorem ItAt.typeIs {s : Shared} {it a : Addr} {first : Value} {i n ep : Nat} (x : ItAt s.heap it a first i n ep) : s.TypeIs (.ref it) "set_iterator" := let ⟨o, ho, hc, _⟩ := x; ⟨o, ho, hc⟩
section
variable {prog : Program} {w : World} {A : Around} {E : Value → Shared → Prop} {s : Shared} {a it : Addr} {o : Obj} {es : Array (Int × Value)} {ep i : Nat} {t : SetTable} {fst : Nat → Value} {ord : List Value}
theorem it_set2 {h : Heap} {first f2 : Value} {n : Nat} (x : ItAt h it a first i n ep) : ItAt ((h.update it (Obj.mapFields (·.setIfInBounds 0 f2))).update it (Obj.mapFields (·.setIfInBounds 1 (rawInt ((i : Int) + 1))))) it a f2 (i + 1) n ep := by
  obtain ⟨o, ho, hc, hd⟩ := x
  have h1 := Heap.get?_update_self (Obj.mapFields (·.setIfInBounds 0 f2)) ho (Obj.isFreed_of_fields (Obj.data_mapFields hd _))
  have hd1 := Obj.data_mapFields hd (·.setIfInBounds 0 f2)
  refine ⟨_, Heap.get?_update_self _ h1 (Obj.isFreed_of_fields (Obj.data_mapFields hd1 _)), (Obj.cls_mapFields ..).trans ((Obj.cls_mapFields ..).trans hc), ?_⟩
  rw [Obj.data_mapFields hd1]
  simp
theorem it_set1 {h : Heap} {first : Value} {n : Nat} (x : ItAt h it a first i n ep) : ItAt (h.update it (Obj.mapFields (·.setIfInBounds 1 (rawInt ((i : Int) + 1))))) it a first (i + 1) n ep := by
  obtain ⟨o, ho, hc, hd⟩ := x
  refine ⟨_, Heap.get?_update_self _ ho (Obj.isFreed_of_fields (Obj.data_mapFields hd _)), (Obj.cls_mapFields ..).trans hc, ?_⟩
  rw [Obj.data_mapFields hd]
  simp
theorem set_next {Q : Option (Value × Nat) → Shared → Prop} {slot : Nat} (ho : s.heap.get? a = some o) (hd : o.data = .set es ep t) (ok : TabIt (byT w) t) (hf : t.fits es.size = true) (hb : byT w = false) (hn : (!t.plain && decide (es.size > 1)) = false)
    (hs : slot = if i = 0 then 0 else t.place.getD (i - 1) 0 + 1) (hi : i ≤ es.size) (q : Q (match es[i]?, t.place[i]? with | some (_, x), some j => some (x, j + 1) | _, _ => none) s) : wpAny (model prog w) A (setNext a slot i ep) Q E s := by
  have hpl : t.place.size = es.size := by
    unfold SetTable.fits at hf
    exact beq_iff_eq.mp (Bool.and_eq_true_iff.mp hf).1
  have hbel : SetTable.below t.place slot = i := by
    rw [hs]
    split
    · rename_i e; rw [e]; exact below_zero ok.up
    · rename_i e
      have h1 : i - 1 < t.place.size := by omega
      have eg := Array.getElem?_eq_getElem h1
      have ed : t.place.getD (i - 1) 0 = t.place[i - 1] := by simp [Array.getD, h1]
      rw [ed, below_next ok.up eg]
      omega
  unfold setNext setsByText
  refine wpAny_bind (wpAny_setState_of ho hd hf ?_)
  dsimp only
  refine wpAny_bind (wpAny_bind (wpAny_askSetting (wpAny_pure ?_)))
  show wpAny _ _ (if byT w = true then _ else _) _ _ _
  rw [hb, if_neg Bool.false_ne_true]
  show wpAny _ _ (if (!t.plain && decide (es.size > 1)) = true then _ else _) _ _ _
  rw [hn, if_neg Bool.false_ne_true]
  refine wpAny_bind ?_
  show wpAny _ _ (if (!t.led && !es.isEmpty) = true then _ else _) _ _ _
  rw [ok.led, hb, if_neg (by simp)]
  refine wpAny_pure ?_
  rw [hbel]
  exact wpAny_pure q
theorem set_nextT {Q : Option (Value × Nat) → Shared → Prop} {slot : Nat} (ho : s.heap.get? a = some o) (hd : o.data = .set es ep t) (hf : t.fits es.size = true) (hb : byT w = true)
    (q : Q (((pickOrder (w.params.setOrder a ep) es)[i]?).map fun e => (e.2, slot)) s) : wpAny (model prog w) A (setNext a slot i ep) Q E s := by
  unfold setNext setsByText
  refine wpAny_bind (wpAny_setState_of ho hd hf ?_)
  dsimp only
  refine wpAny_bind (wpAny_bind (wpAny_askSetting (wpAny_pure ?_)))
  show wpAny _ _ (if byT w = true then _ else _) _ _ _
  rw [hb, if_pos rfl]
  show wpAny _ _ (if (ep != ep) = true then _ else _) _ _ _
  rw [if_neg (by simp)]
  refine wpAny_bind ?_
  unfold setWalk setsByText
  refine wpAny_bind (wpAny_setState_of ho hd hf ?_)
  dsimp only
  refine wpAny_bind (wpAny_bind (wpAny_askSetting (wpAny_pure ?_)))
  show wpAny _ _ (if byT w = true then _ else _) _ _ _
  rw [hb, if_pos rfl]
  refine wpAny_bind (wpAny_askSetting ?_)
  exact wpAny_pure (wpAny_pure q)
theorem set_nextD {Q : Value → Shared → Prop} {p : Nat} {e : Int × Value} (ho : s.heap.get? a = some o) (hd : o.data = .set es ep t) (hf : t.fits es.size = true) (hp : es[p]? = some e) (q : Q e.2 s) : wpAny (model prog w) A (setNextDrawn a p ep) Q E s := by
  unfold setNextDrawn
  refine wpAny_bind (wpAny_setState_of ho hd hf ?_)
  dsimp only
  show wpAny _ _ (if (ep != ep) = true then _ else _) _ _ _
  rw [if_neg (by simp)]
  simp only [hp]
  exact wpAny_pure q
/-- the iterator's step -/
theorem next_item {x : Value} {Q : Option Value → Shared → Prop} (hit : ItAt s.heap it a (fst i) i es.size ep) (ho : s.heap.get? a = some o) (hd : o.data = .set es ep t) (ok : TabIt (byT w) t) (hf : t.fits es.size = true) (M : Mode w a es ep t s.heap fst ord) (hx : ord[i]? = some x) (hl : ord.length = es.size)
    (hQ : ∀ h', ItAt h' it a (fst (i + 1)) (i + 1) es.size ep → Heap.SameBut it s.heap h' → Q (some x) { s with heap := h' }) : wpAny (model prog w) A (pyNext (.ref it)) Q E s := by
  obtain ⟨oi, hoi, hci, hdi⟩ := id hit
  have hix : i < es.size := by rw [← hl]; exact (List.getElem?_eq_some_iff.mp hx).1
  unfold pyNext
  refine wpAny_bind (wpAny_attempt (wpAny_callSpecial?_slot (name := Str.ofString "__next__") hit.typeIs slot_setit_next
    (wpAny_call_entry slot_setit_next hit.typeIs entry_setit_next ?_ (args_setit_next _))))
  show wpAny _ _ (fieldsOf (.ref it) >>= _) _ _ s
  refine wpAny_bind (wpAny_fieldsOf hoi hdi ?_)
  show wpAny _ _ (setEntries a >>= _) _ _ s
  refine wpAny_bind (wpAny_setEntries_of ho hd hf ?_)
  show wpAny _ _ (if (((es.size : Nat) : Int) != ((es.size : Nat) : Int)) = true then _ else _) _ _ _
  rw [if_neg (by simp)]
  have hd1 := fun f2 : Value => Obj.data_mapFields hdi (·.setIfInBounds 0 f2)
  have ho1 := fun f2 : Value => Heap.get?_update_self (Obj.mapFields (·.setIfInBounds 0 f2)) hoi (Obj.isFreed_of_fields (hd1 f2))
  cases M with
  | text hb =>
    rw [List.getElem?_map] at hx
    obtain ⟨e, he, rfl⟩ := Option.map_eq_some_iff.mp hx
    have he' : (pickOrder (w.params.setOrder a ep) es)[i]? = some e := by simpa using he
    refine wpAny_bind (set_nextT (i := i) (ep := ep) ho hd hf hb ?_)
    rw [he']
    refine wpAny_bind (wpAny_setField hoi hdi (by simp) ?_)
    refine wpAny_bind (wpAny_setField (ho1 _) (hd1 _) (by simp) (wpAny_pure ⟨e.2, rfl, wpAny_pure (hQ _ (it_set2 hit) ((Heap.SameBut.update ..).trans (Heap.SameBut.update ..)))⟩))
  | led hb hn =>
    rw [List.getElem?_map] at hx
    obtain ⟨e, he, rfl⟩ := Option.map_eq_some_iff.mp hx
    have he' : es[i]? = some e := by simpa using he
    have hpl : t.place.size = es.size := by
      unfold SetTable.fits at hf
      exact beq_iff_eq.mp (Bool.and_eq_true_iff.mp hf).1
    have hp1 : i < t.place.size := by omega
    have hp : t.place[i]? = some t.place[i] := Array.getElem?_eq_getElem hp1
    have ed : t.place.getD i 0 = t.place[i] := by simp [Array.getD, hp1]
    refine wpAny_bind (set_next (i := i) (ep := ep) ho hd ok hf hb hn rfl (Nat.le_of_lt hix) ?_)
    rw [he', hp]
    refine wpAny_bind (wpAny_setField hoi hdi (by simp) ?_)
    refine wpAny_bind (wpAny_setField (ho1 _) (hd1 _) (by simp) (wpAny_pure ⟨e.2, rfl, wpAny_pure (hQ _ ?_ ((Heap.SameBut.update ..).trans (Heap.SameBut.update ..)))⟩))
    have e2 : rawInt (((if i + 1 = 0 then 0 else t.place.getD (i + 1 - 1) 0 + 1 : Nat)) : Int) = rawInt ((t.place[i] + 1 : Nat) : Int) := by rw [if_neg (by omega), Nat.add_sub_cancel, ed]
    show ItAt _ it a (rawInt (((if i + 1 = 0 then 0 else t.place.getD (i + 1 - 1) 0 + 1 : Nat)) : Int)) (i + 1) es.size ep
    rw [e2]
    exact it_set2 hit
  | drw T oT c ps hb hT hdT hps =>
    rw [List.getElem?_map] at hx
    obtain ⟨p, hp, rfl⟩ := Option.map_eq_some_iff.mp hx
    have hpe : p < es.size := hps p (List.mem_of_getElem? hp)
    have ee : es[p]? = some es[p] := Array.getElem?_eq_getElem hpe
    have ed : es.getD p (0, .none) = es[p] := by simp [Array.getD, hpe]
    show wpAny _ _ (seqItems? (.ref T) >>= _) _ _ _
    refine wpAny_bind (wpAny_seqItems hT hdT ?_)
    have hpi : ((ps.map fun (i : Nat) => rawInt i).toArray)[i]? = some (rawInt p) := by simp [hp]
    simp only [Int.toNat_natCast, hpi]
    refine wpAny_bind (set_nextD (p := p) ho hd hf ee ?_)
    refine wpAny_bind (wpAny_setField hoi hdi (by simp) (wpAny_pure ⟨_, rfl, wpAny_pure ?_⟩))
    rw [ed] at hQ
    exact hQ _ (it_set1 hit) (Heap.SameBut.update ..)
theorem next_end {Q : Option Value → Shared → Prop} (hh : A.handled = none) (hit : ItAt s.heap it a (fst es.size) es.size es.size ep) (ho : s.heap.get? a = some o) (hd : o.data = .set es ep t) (ok : TabIt (byT w) t) (hf : t.fits es.size = true) (M : Mode w a es ep t s.heap fst ord) (hl : ord.length = es.size)
    (hQ : ∀ h', Heap.ExtBut it s.heap h' → Q none { s with heap := h' }) : wpAny (model prog w) A (pyNext (.ref it)) Q E s := by
  obtain ⟨oi, hoi, hci, hdi⟩ := id hit
  unfold pyNext
  refine wpAny_bind (wpAny_attempt (wpAny_callSpecial?_slot (name := Str.ofString "__next__") hit.typeIs slot_setit_next
    (wpAny_call_entry slot_setit_next hit.typeIs entry_setit_next ?_ (args_setit_next _))))
  show wpAny _ _ (fieldsOf (.ref it) >>= _) _ _ s
  refine wpAny_bind (wpAny_fieldsOf hoi hdi ?_)
  show wpAny _ _ (setEntries a >>= _) _ _ s
  refine wpAny_bind (wpAny_setEntries_of ho hd hf ?_)
  show wpAny _ _ (if (((es.size : Nat) : Int) != ((es.size : Nat) : Int)) = true then _ else _) _ _ _
  rw [if_neg (by simp)]
  have hd1 := fun f2 : Value => Obj.data_mapFields hdi (·.setIfInBounds 0 f2)
  have ho1 := fun f2 : Value => Heap.get?_update_self (Obj.mapFields (·.setIfInBounds 0 f2)) hoi (Obj.isFreed_of_fields (hd1 f2))
  cases M with
  | text hb =>
    have he' : (pickOrder (w.params.setOrder a ep) es)[es.size]? = none := by
      rw [List.length_map, Array.length_toList] at hl
      simp [hl]
    refine wpAny_bind (set_nextT (i := es.size) (ep := ep) ho hd hf hb ?_)
    rw [he']
    refine wpAny_bind (wpAny_setField hoi hdi (by simp) ?_)
    refine wpAny_bind ?_
    simp only [newExc, newTuple]
    refine wpAny_bind (wpAny_newObj_type ?_ (by size_fits))
    refine wpAny_bind (m := firstArgMember _ _) (wpAny_of_eq (a := Value.none) (by first | rfl | (simp only [firstArgMember]; rfl)) ?_)
    refine wpAny_newObj_type ?_ (by size_fits)
    simp only [raiseNew]
    refine wpAny_bind (wpAny_handled ?_)
    rw [show A.in1.handled = none from hh]
    refine wpAny_bind (wpAny_pure (wpAny_throw ?_))
    refine wpAny_bind (wpAny_isInstance (T := "StopIteration") (b := true) ⟨_, Heap.get?_push_size _ rfl, rfl⟩ isSubtype_stop ?_)
    exact wpAny_pure (hQ _ (((Heap.SameBut.update ..).extBut.push _).push _))
  | led hb hn =>
    have he' : es[es.size]? = none := by simp
    refine wpAny_bind (set_next (i := es.size) (ep := ep) ho hd ok hf hb hn rfl (Nat.le_refl _) ?_)
    rw [he']
    refine wpAny_bind (wpAny_setField hoi hdi (by simp) ?_)
    refine wpAny_bind ?_
    simp only [newExc, newTuple]
    refine wpAny_bind (wpAny_newObj_type ?_ (by size_fits))
    refine wpAny_bind (m := firstArgMember _ _) (wpAny_of_eq (a := Value.none) (by first | rfl | (simp only [firstArgMember]; rfl)) ?_)
    refine wpAny_newObj_type ?_ (by size_fits)
    simp only [raiseNew]
    refine wpAny_bind (wpAny_handled ?_)
    rw [show A.in1.handled = none from hh]
    refine wpAny_bind (wpAny_pure (wpAny_throw ?_))
    refine wpAny_bind (wpAny_isInstance (T := "StopIteration") (b := true) ⟨_, Heap.get?_push_size _ rfl, rfl⟩ isSubtype_stop ?_)
    exact wpAny_pure (hQ _ (((Heap.SameBut.update ..).extBut.push _).push _))
  | drw T oT c ps hb hT hdT hps =>
    rw [List.length_map] at hl
    show wpAny _ _ (seqItems? (.ref T) >>= _) _ _ _
    refine wpAny_bind (wpAny_seqItems hT hdT ?_)
    have hpi : ((ps.map fun (i : Nat) => rawInt i).toArray)[es.size]? = none := by simp [hl]
    simp only [Int.toNat_natCast, hpi]
    refine wpAny_bind (wpAny_setField hoi hdi (by simp) ?_)
    refine wpAny_bind (wpAny_setField (ho1 _) (hd1 _) (by simp) ?_)
    refine wpAny_bind ?_
    simp only [newExc, newTuple]
    refine wpAny_bind (wpAny_newObj_type ?_ (by size_fits))
    refine wpAny_bind (m := firstArgMember _ _) (wpAny_of_eq (a := Value.none) (by first | rfl | (simp only [firstArgMember]; rfl)) ?_)
    refine wpAny_newObj_type ?_ (by size_fits)
    simp only [raiseNew]
    refine wpAny_bind (wpAny_handled ?_)
    rw [show A.in1.handled = none from hh]
    refine wpAny_bind (wpAny_pure (wpAny_throw ?_))
    refine wpAny_bind (wpAny_isInstance (T := "StopIteration") (b := true) ⟨_, Heap.get?_push_size _ rfl, rfl⟩ isSubtype_stop ?_)
    exact wpAny_pure (hQ _ ((((Heap.SameBut.update ..).trans (Heap.SameBut.update ..)).extBut.push _).push _))
end
end L2
namespace L2
open PySem PySem.Spec PyProof.Rows
theorem erase_perm {α : Type} : ∀ (l : List α) (i : Nat) (h : i < l.length), (l[i] :: l.eraseIdx i).Perm l
  | x :: xs, 0, _ => List.Perm.refl _
  | x :: xs, i + 1, h => by
    have h' : i < xs.length := Nat.lt_of_succ_lt_succ h
    exact (List.Perm.swap x xs[i] (xs.eraseIdx i)).trans (List.Perm.cons x (erase_perm xs i h'))
theorem pick_perm {α : Type} (next : Nat → Nat) : ∀ (fuel k : Nat) (left : List α) (out : Array α), fuel = left.length → (pickOrder.go next fuel k left out).toList.Perm (out.toList ++ left)
  | 0, _, left, out, h => by
    have e : left = [] := List.length_eq_zero_iff.mp h.symm
    subst e
    unfold pickOrder.go
    simp
  | fuel + 1, k, left, out, h => by
    unfold pickOrder.go
    have hp : 0 < left.length := by omega
    have hi : next k % left.length < left.length := Nat.mod_lt _ hp
    rw [List.getElem?_eq_getElem hi]
    have hl : fuel = (left.eraseIdx (next k % left.length)).length := by rw [List.length_eraseIdx, if_pos hi]; omega
    refine (pick_perm next fuel (k + 1) _ _ hl).trans ?_
    rw [Array.toList_push, List.append_assoc]
    exact List.Perm.append_left _ (erase_perm _ _ hi)
theorem pickOrder_perm {α : Type} (next : Nat → Nat) (xs : Array α) : (pickOrder next xs).toList.Perm xs.toList := by
  unfold pickOrder
  have := pick_perm next xs.size 0 xs.toList #[] (Array.length_toList).symm
  simpa using this
section
variable {prog : Program} {w : World} {A : Around} {E : Value → Shared → Prop} {s : Shared} {a it T0 : Addr} {o oT : Obj} {es : Array (Int × Value)} {ep i : Nat} {t : SetTable} {fst : Nat → Value} {ord : List Value} {ks : List Int}
theorem wpAny_choose {M : Model} {src : Source} {n : Nat} {Q : Nat → Shared → Prop} (hn : n ≠ 0) (h : ∀ i, i < n → Q i { s with drawn := s.drawn.bump src }) : wpAny M A (choose src n) Q E s :=
  fun Γ p _ => ⟨hn, h _ (Nat.mod_lt _ (Nat.pos_of_ne_zero hn))⟩
theorem draw_order {α : Type} {M : Model} : ∀ (n : Nat) (xs : List α) (s : Shared) (Q : List α → Shared → Prop), xs.length = n → (∀ ys d', ys.Perm xs → Q ys { s with drawn := d' }) → wpAny M A (drawOrder n xs) Q E s
  | 0, xs, s, Q, h, q => by
    have e : xs = [] := List.length_eq_zero_iff.mp h
    subst e
    exact wpAny_pure (q [] s.drawn (List.Perm.refl _))
  | n + 1, x :: xs, s, Q, h, q => by
    unfold drawOrder
    refine wpAny_bind (wpAny_choose (by simp) fun i hi => ?_)
    rw [List.getElem?_eq_getElem hi]
    have hl : ((x :: xs).eraseIdx i).length = n := by rw [List.length_eraseIdx, if_pos hi, h]; rfl
    refine wpAny_bind (draw_order n _ _ _ hl fun ys d' hp => ?_)
    exact wpAny_pure (q _ d' ((List.Perm.cons _ hp).trans (erase_perm _ _ hi)))
/-- what a new iterator of a set is -/
structure Its1 (w : World) (s : Shared) (a : Addr) (ks : List Int) (h' : Heap) (it T0 : Addr) (o oT : Obj) (es : Array (Int × Value)) (ep : Nat) (t : SetTable) (fst : Nat → Value) (ord : List Value) : Prop where
  lo : s.heap.objs.size ≤ it
  kk : ∀ b o, s.heap.get? b = some o → h'.get? b = some o
  at' : ItAt h' it a (fst 0) 0 es.size ep
  ho : h'.get? a = some o
  hd : o.data = .set es ep t
  ok : TabIt (byT w) t
  hf : t.fits es.size = true
  hT : h'.get? T0 = some oT
  ne : T0 ≠ it
  md : ∀ h'', h''.get? T0 = some oT → Mode w a es ep t h'' fst ord
  pm : ord.Perm (es.toList.map (·.2))
  eg : EGood es.toList
  ek : es.toList.map keyOf = ks
  tl : T0 = a ∨ s.heap.objs.size ≤ T0
theorem iter_set {Q : Value → Shared → Prop} (hS : SetIt w s.heap a ks) (hQ : ∀ h' d' it T0 o oT es ep t fst ord, Its1 w s a ks h' it T0 o oT es ep t fst ord → Q (.ref it) { s with heap := h', drawn := d' }) : wpAny (model prog w) A (pyIter (.ref a)) Q E s := by
  obtain ⟨o, es, ep, t, ho, hex, hd, hg, hk, nd, hl, ok, hf⟩ := id hS
  have hna : a < s.heap.objs.size := Heap.lt_size ho
  refine wpAny_pyIter_slot hS.typeIs PySem.F.slot_set_iter (wpAny_call_entry PySem.F.slot_set_iter hS.typeIs entry_set_iter ?_ (PySem.F.args_set_iter_1 _))
  show wpAny _ _ (Builtin.Frozenset.sizeOf a >>= _) _ _ s
  refine wpAny_bind ?_
  unfold Builtin.Frozenset.sizeOf
  refine wpAny_bind (wpAny_setEntries_of ho hd hf (wpAny_pure ?_))
  refine wpAny_bind ?_
  unfold setDrawn setsByText
  refine wpAny_bind (wpAny_setState_of ho hd hf ?_)
  dsimp only
  refine wpAny_bind (wpAny_bind (wpAny_askSetting (wpAny_pure (wpAny_pure ?_))))
  show wpAny _ _ (if (!byT w && (!t.plain && decide (es.size > 1))) = true then _ else _) _ _ _
  by_cases hdr : (!byT w && (!t.plain && decide (es.size > 1))) = true
  · rw [if_pos hdr]
    have hb : byT w = false := by
      cases q : byT w with
      | false => rfl
      | true => rw [q] at hdr; cases hdr
    refine wpAny_bind (draw_order _ _ _ _ (List.length_range) fun ps d' hp => ?_)
    refine wpAny_bind (wpAny_newTuple ?_ (by rw [List.length_map, hp.length_eq, List.length_range, sz_map hk]; exact Nat.le_of_lt (Nat.lt_trans hl (by decide))))
    have kk : ∀ b ob, s.heap.get? b = some ob → (s.heap.push { cls := .type "tuple", data := .seq (ps.map fun (i : Nat) => rawInt i).toArray }).get? b = some ob := fun b ob e => Heap.get?_push_of_some _ e
    refine wpAny_bind ?_
    unfold setEpoch
    refine wpAny_bind (wpAny_setState_of (kk _ _ ho) hd hf (wpAny_pure ?_))
    refine wpAny_bind (wpAny_newObj_type (wpAny_pure ⟨_, rfl, "set_iterator", _, ⟨_, Heap.get?_push_size _ rfl, rfl⟩, slot_setit_next.lookup, ?_⟩))
    refine hQ _ d' _ s.heap.objs.size o _ es ep t (fun _ => .ref s.heap.objs.size) _ ⟨?_, fun b ob e => Heap.get?_push_of_some _ (kk b ob e), ⟨_, Heap.get?_push_size _ rfl, rfl, rfl⟩, Heap.get?_push_of_some _ (kk _ _ ho), hd, ok, hf, Heap.get?_push_of_some _ (Heap.get?_push_size _ rfl), ?_, fun h'' e => .drw _ _ _ ps hb e rfl ?_, ?_, hg, hk, .inr (Nat.le_refl _)⟩
    · rw [Heap.size_push]; exact Nat.le_succ _
    · rw [Heap.size_push]; exact Nat.ne_of_lt (Nat.lt_succ_self _)
    · exact fun p hp' => List.mem_range.mp (hp.mem_iff.mp hp')
    · refine (hp.map _).trans ?_
      have e : (List.range es.size).map (fun p => (es.getD p (0, .none)).2) = es.toList.map (·.2) := by
        refine List.ext_getElem (by simp) fun n h1 h2 => ?_
        have hn : n < es.size := by simpa using h1
        simp [Array.getD, hn]
      rw [e]
  · rw [if_neg hdr]
    refine wpAny_bind (wpAny_pure ?_)
    refine wpAny_bind ?_
    unfold setEpoch
    refine wpAny_bind (wpAny_setState_of ho hd hf (wpAny_pure ?_))
    refine wpAny_bind (wpAny_newObj_type (wpAny_pure ⟨_, rfl, "set_iterator", _, ⟨_, Heap.get?_push_size _ rfl, rfl⟩, slot_setit_next.lookup, ?_⟩))
    have kk : ∀ b ob, s.heap.get? b = some ob → (s.heap.push { cls := .type "set_iterator", data := .fields #[rawInt 0, rawInt 0, .ref a, rawInt es.size, rawInt ep] }).get? b = some ob := fun b ob e => Heap.get?_push_of_some _ e
    cases hb : byT w with
    | true =>
      refine hQ _ s.drawn _ a o o es ep t (fun _ => rawInt 0) _ ⟨Nat.le_refl _, kk, ⟨_, Heap.get?_push_size _ rfl, rfl, rfl⟩, kk _ _ ho, hd, ok, hf, kk _ _ ho, Nat.ne_of_lt hna, fun h'' e => .text hb, (pickOrder_perm _ _).map _, hg, hk, .inl rfl⟩
    | false =>
      rw [hb] at hdr
      refine hQ _ s.drawn _ a o o es ep t (fun i => rawInt (((if i = 0 then 0 else t.place.getD (i - 1) 0 + 1 : Nat)) : Int)) _ ⟨Nat.le_refl _, kk, ⟨_, Heap.get?_push_size _ rfl, rfl, rfl⟩, kk _ _ ho, hd, ok, hf, kk _ _ ho, Nat.ne_of_lt hna, fun h'' e => .led hb (by simpa using hdr), List.Perm.refl _, hg, hk, .inl rfl⟩
/-- the iterator of a set, as a walk -/
theorem walk_set (hh : A.handled = none) {ks : List Int} {s0 : Shared} {h0 : Heap} (I : Its1 w s0 a ks h0 it T0 o oT es ep t fst ord) : Walks prog w A it [it, a, T0] [it] es.size (fun i v => ord[i]? = some v) (fun i h => ItAt h it a (fst i) i es.size ep ∧ h.get? a = some o ∧ h.get? T0 = some oT) := by
  have hl : ord.length = es.size := by rw [I.pm.length_eq, List.length_map, Array.length_toList]
  have na : a ≠ it := fun e => by
    obtain ⟨oi, h1, _, h3⟩ := I.at'
    subst e
    rw [I.ho] at h1; cases h1
    rw [I.hd] at h3; cases h3
  refine ⟨fun b hb => by simp at hb; simp [hb], fun i h h' st k => ?_, fun i s Q E hi st hQ => ?_, fun s Q E st hQ => ?_, fun i s Q E st hQ => ?_⟩
  · obtain ⟨⟨oi, h1, r⟩, h2, h3⟩ := st
    exact ⟨⟨oi, k it (by simp) _ h1, r⟩, k a (by simp) _ h2, k T0 (by simp) _ h3⟩
  · obtain ⟨h1, h2, h3⟩ := st
    have hx : ord[i]? = some ord[i] := List.getElem?_eq_getElem (by omega)
    refine next_item h1 h2 I.hd I.ok I.hf (I.md _ h3) hx hl fun h' it' sb => ?_
    exact hQ _ h' s.toks hx ⟨it', (sb.2 a na).trans h2, (sb.2 T0 I.ne).trans h3⟩ fun b ob hb e => (sb.2 b (by simpa using hb)).trans e
  · obtain ⟨h1, h2, h3⟩ := st
    refine next_end hh h1 h2 I.hd I.ok I.hf (I.md _ h3) hl fun h' eb => ?_
    exact hQ h' s.toks fun b ob hb e => eb b ob (by simpa using hb) e
  · obtain ⟨h1, h2, h3⟩ := st
    refine wpAny_pyIter_slot h1.typeIs slot_setit_iter (wpAny_call_entry slot_setit_iter h1.typeIs entry_setit_iter ?_ (args_setit_iter _))
    exact wpAny_pure ⟨_, rfl, "set_iterator", _, h1.typeIs, slot_setit_next.lookup, hQ⟩
end
end L2
namespace L2
open PySem PySem.Spec PyProof.Rows
theorem ord_ints {es : Array (Int × Value)} {ord : List Value} {ks : List Int} (pm : ord.Perm (es.toList.map (·.2))) (eg : EGood es.toList) (ek : es.toList.map keyOf = ks) : ∃ ns, IntsAre ord ns ∧ ns.Perm ks := by
  let vk : Value → Int := fun v => match v with | .int k _ => k | _ => 0
  have each : ∀ v ∈ ord, ∃ t, v = .int (vk v) t := fun v hv => by
    obtain ⟨e, he, rfl⟩ := List.mem_map.mp (pm.mem_iff.mp hv)
    obtain ⟨_, t, h2⟩ := eg e he
    exact ⟨t, h2⟩
  refine ⟨ord.map vk, ?_, ?_⟩
  · clear pm
    induction ord with
    | nil => exact .nil
    | cons v r ih =>
      obtain ⟨t, e⟩ := each v List.mem_cons_self
      have := ih fun x hx => each x (List.mem_cons_of_mem _ hx)
      rw [List.map_cons]
      generalize vk v = k at e
      subst e
      exact .cons k t this
  · refine (pm.map vk).trans ?_
    rw [List.map_map, ← ek]
    exact List.Perm.refl _
section
variable {prog : Program} {w : World} {A : Around} {E : Value → Shared → Prop} {s : Shared} {a : Addr} {ks : List Int}
theorem len_hint {Q : Bool → Shared → Prop} (hS : SetIt w s.heap a ks) (q : Q false s) : wpAny (model prog w) A (Builtin.List.listLengthHint (.ref a)) Q E s := by
  unfold Builtin.List.listLengthHint
  refine wpAny_bind (wpAny_specialOf hS.typeIs slot_set_len'.lookup ?_)
  have hsp : splitId "set.__len__" = some ("set", "__len__") := by decide +kernel
  simp only [hsp]
  refine wpAny_bind (wpAny_isInstance hS.typeIs sub_set_self ?_)
  rw [if_neg (by simp)]
  show wpAny _ _ (typeOf (.ref a) >>= _) _ _ _
  refine wpAny_bind (wpAny_typeOf hS.typeIs ?_)
  exact wpAny_pure q
theorem collect_set {Q : List Value → Shared → Prop} (hh : A.handled = none) (hS : SetIt w s.heap a ks) (hQ : ∀ (s' : Shared) (acc : List Value) (ns : List Int), s.heap.objs.size ≤ s'.heap.objs.size → (∀ b o, s.heap.get? b = some o → s'.heap.get? b = some o) → s'.gens = s.gens → s'.os = s.os → IntsAre acc ns → ns.Perm ks → Q acc s') :
    wpAny (model prog w) A (collect (.ref a)) Q E s := by
  obtain ⟨o0, es0, ep0, t0, ho0, _, _, _, hk0, _, hl0, _⟩ := id hS
  have hlt : a < s.heap.objs.size := Heap.lt_size ho0
  unfold collect
  refine wpAny_bind (wpAny_runValue (codeAny_builtin F.entry_proto_collect ?_))
  rw [Around.under_plainId F.plain_proto_collect _]
  show wpAny _ A.in1 (newList [] >>= fun l => again (.builtin "list.__iadd__" ⟨[l, .ref a], []⟩)) _ _ s
  refine wpAny_bind (wpAny_newObj_type ?_)
  refine wpAny_pure ⟨plainId_quiet F.plain_list_iadd _, codeAny_builtin F.entry_list_iadd ?_⟩
  rw [Around.under_plainId F.plain_list_iadd _]
  have kk1 : ∀ b ob, s.heap.get? b = some ob → (s.heap.push { cls := .type "list", data := .seq ([] : List Value).toArray }).get? b = some ob := fun b ob e => Heap.get?_push_of_some _ e
  have hS1 : SetIt w ({ s with heap := s.heap.push { cls := .type "list", data := .seq ([] : List Value).toArray } } : Shared).heap a ks := hS.keep fun ob e => kk1 _ _ e
  show wpAny _ A.in1 (Builtin.List.listExtendWith (.ref s.heap.objs.size) (.ref a) (.ref s.heap.objs.size)) _ _ _
  unfold Builtin.List.listExtendWith
  refine wpAny_bind (wpAny_typeOf hS1.typeIs ?_)
  have h1 : Builtin.List.listSameRef (.ref s.heap.objs.size) (.ref a) = false := by simp [Builtin.List.listSameRef]; exact Nat.ne_of_gt hlt
  have h2 : (Value.type "set" == Value.type "list") = false := by decide
  have h3 : (Value.type "set" == Value.type "tuple") = false := by decide
  simp only [h1, h2, h3, Bool.or_false, Bool.false_eq_true, if_false]
  refine wpAny_bind (iter_set hS1 fun h' d' it T0 o oT es ep t fst ord I => ?_)
  have hS2 : SetIt w ({ s with heap := h', drawn := d' } : Shared).heap a ks := hS1.keep fun ob e => I.kk _ _ e
  refine wpAny_bind (wpAny_holding (len_hint (s := { s with heap := h', drawn := d' }) hS2 ?_))
  show wpAny _ A.in1 (rule "list.extend.makes-room" >>= fun _ => Builtin.List.listTouch (.ref s.heap.objs.size) >>= fun _ =>
    again (.builtin "list.extend.loop" ⟨[.ref s.heap.objs.size, .ref it, .ref s.heap.objs.size], []⟩)) _ _ _
  refine wpAny_bind (wpAny_rule ?_)
  have hS₁ : h'.get? s.heap.objs.size = some { cls := .type "list", data := .seq ([] : List Value).toArray } := I.kk _ _ (Heap.get?_push_size _ rfl)
  refine wpAny_bind ?_
  show wpAny _ A.in1 (updateSeq s.heap.objs.size (·.push .none) >>= fun _ => updateSeq s.heap.objs.size (·.pop)) _ _ _
  refine wpAny_bind (wpAny_updateSeq hS₁ rfl ?_)
  have hS₂ := Heap.get?_update_self (Obj.mapSeq (·.push Value.none)) hS₁ rfl
  refine wpAny_updateSeq hS₂ rfl ?_
  have hS₃ := Heap.get?_update_self (Obj.mapSeq (·.pop)) hS₂ rfl
  have oth : ∀ b ob, b ≠ s.heap.objs.size → h'.get? b = some ob → ((h'.update s.heap.objs.size (Obj.mapSeq (·.push Value.none))).update s.heap.objs.size (Obj.mapSeq (·.pop))).get? b = some ob :=
    fun b ob hb e => (Heap.get?_update_other _ _ (Ne.symm hb)).trans ((Heap.get?_update_other _ _ (Ne.symm hb)).trans e)
  have esz : ({ s with heap := s.heap.push { cls := .type "list", data := .seq ([] : List Value).toArray } } : Shared).heap.objs.size = s.heap.objs.size + 1 := Heap.size_push _ _
  have nit : it ≠ s.heap.objs.size := Nat.ne_of_gt (by have := I.lo; rw [esz] at this; exact this)
  have nT : T0 ≠ s.heap.objs.size := by
    rcases I.tl with z | z
    · rw [z]; exact Nat.ne_of_lt hlt
    · exact Nat.ne_of_gt (by rw [esz] at z; exact z)
  have hSf : s.heap.objs.size ∉ [it, a, T0] := by
    simp only [List.mem_cons, List.not_mem_nil, or_false, not_or]
    exact ⟨Ne.symm nit, Nat.ne_of_gt hlt, Ne.symm nT⟩
  have W := (walk_set (prog := prog) (A := A.in1) (by simpa using hh) I).toS
  have hn : es.size ≤ sizeLine := by rw [sz_map I.ek]; exact Nat.le_of_lt (Nat.lt_trans hl0 (by decide))
  obtain ⟨oi, hoi, ri⟩ := I.at'
  refine wpAny_pure ⟨plainId_quiet F.plain_extend_loop _, codeAny_extend_loopS W hn _ hSf _ es.size 0 _ _ _ rfl (Nat.zero_le _) ⟨⟨oi, oth _ _ nit hoi, ri⟩, oth _ _ (Nat.ne_of_lt hlt) I.ho, oth _ _ nT I.hT⟩ hS₃ (ItemsOf.nil _) fun s' acc' c' hm hS' hacc => ?_⟩
  show wpAny _ A (load s.heap.objs.size >>= _) _ _ s'
  refine wpAny_bind (wpAny_load hS' ?_)
  have hl : ord.length = es.size := by rw [I.pm.length_eq, List.length_map, Array.length_toList]
  have eo : acc'.toList = ord := by
    refine List.ext_getElem (by rw [Array.length_toList, hacc.1, hl]) fun n h1 h2 => ?_
    have hn1 : n < acc'.size := by simpa using h1
    have : ord[n]? = some acc'[n] := hacc.2 n _ (Array.getElem?_eq_getElem hn1)
    rw [List.getElem?_eq_getElem h2] at this
    have := Option.some.inj this
    simpa using this.symm
  obtain ⟨ns, hi, hp⟩ := ord_ints I.pm I.eg I.ek
  refine wpAny_pure (hQ s' acc'.toList ns (Nat.le_of_lt (Heap.lt_size hS')) (fun b ob e => ?_) hm.gens hm.os (by rw [eo]; exact hi) hp)
  have hb : b < s.heap.objs.size := Heap.lt_size e
  refine hm.heap b ob ?_ (oth b ob (Nat.ne_of_lt hb) (I.kk _ _ (kk1 _ _ e)))
  simp only [List.mem_cons, List.not_mem_nil, or_false, not_or]
  exact ⟨Nat.ne_of_lt hb, Nat.ne_of_lt (Nat.lt_trans hb (by have := I.lo; rw [esz] at this; exact this))⟩
/-- sorted(a set) -/
theorem sorted_set {Q : Value → Shared → Prop} (hh : A.handled = none) (hS : SetIt w s.heap a ks) (h64 : ks.length < 64)
    (h : ∀ (s' : Shared) (l : Addr) (out : Array Value) (n : Nat) (ns : List Int), (∀ b o, s.heap.get? b = some o → s'.heap.get? b = some o) → s'.gens = s.gens → s'.os = s.os → s.heap.objs.size ≤ l → s'.heap.get? l = some (seqObj "list" out n) → IntsAre out.toList ns → ns.Perm ks → ns.Pairwise (· ≤ ·) → Q (.ref l) s') :
    wpAny (model prog w) A (call (.builtin "sorted") [.ref a]) Q E s := by
  refine Calls.call_function_entry kind_sorted plain_sorted entry_sorted (args_sorted1 _) ?_
  unfold Builtin.«sorted»
  refine wpAny_bind (m := checkCount "sorted" 1 1 _) (wpAny_pure ?_)
  refine wpAny_bind (collect_set (by simpa using hh) hS fun s1 vs ns1 lo kk eg eo hi hp => ?_)
  have hlen : vs.length < 64 := by rw [IntsAre.length hi, hp.length_eq]; exact h64
  refine wpAny_bind (wpAny_newList ?_ (Nat.le_of_lt (Nat.lt_trans hlen (by decide))))
  have hoL : (s1.heap.push (seqObj "list" vs.toArray 0)).get? s1.heap.objs.size = some (seqObj "list" vs.toArray 0) := Heap.get?_push_size _ rfl
  show wpAny _ _ _ _ _ { s1 with heap := s1.heap.push (seqObj "list" vs.toArray 0) }
  refine wpAny_bind (wpAny_holding (wpAny_call_entry slot_list_sort ⟨_, hoL, rfl⟩ entry_list_sort (list_sort_tree hoL hi hlen fun out ns' a1 a2 a3 => ⟨_, rfl, ?_⟩) (args_list_sort _)))
  refine wpAny_pure ⟨_, rfl, ?_⟩
  obtain ⟨e1, ho1⟩ : ∃ e1, ((s1.heap.push (seqObj "list" vs.toArray 0)).update s1.heap.objs.size (Obj.mapSeq fun _ => #[])).get? s1.heap.objs.size = some (seqObj "list" #[] e1) := ⟨_, get?_update_seq hoL (fun _ => #[])⟩
  have ho2 : ((((s1.heap.push (seqObj "list" vs.toArray 0)).update s1.heap.objs.size (Obj.mapSeq fun _ => #[])).push (seqObj "tuple" vs.toArray 0)).push (seqObj "list" #[] 0)).get? s1.heap.objs.size = some (seqObj "list" #[] e1) := Heap.get?_push_of_some _ (Heap.get?_push_of_some _ ho1)
  refine h _ s1.heap.objs.size out _ ns' (fun b ob e => ?_) eg eo lo (get?_update_seq ho2 (fun _ => out)) a1 (a2.trans hp) a3
  have e2 := kk b ob e
  have nb : b ≠ s1.heap.objs.size := Nat.ne_of_lt (Heap.lt_size e2)
  exact (Heap.get?_update_other _ _ (Ne.symm nb)).trans (Heap.get?_push_of_some _ (Heap.get?_push_of_some _ ((Heap.get?_update_other _ _ (Ne.symm nb)).trans (Heap.get?_push_of_some _ e2))))
end
end L2
namespace L2
open PySem PySem.Spec PyProof.Rows
/-- a set of ints, under the layer: its members, and a bound of its size -/
abbrev SetO (w : World) (a : Addr) (S : Int → Bool) (n : Nat) : HO := .ext fun h => ∃ ks, SetIs w h a ks ∧ (∀ k, S k = true ↔ k ∈ ks) ∧ ks.length ≤ n
theorem setO_ok {P : Program} {w : World} {H : Hp} {h : Heap} {a : Addr} {S : Int → Bool} {n : Nat} {ks : List Int} (x : SetIs w h a ks) (m : ∀ k, S k = true ↔ k ∈ ks) (hl : ks.length ≤ n) : ObjOk P w H h a (SetO w a S n) :=
  ⟨⟨ks, x, m, hl⟩, let ⟨o, _, _, _, ho, _⟩ := x; ⟨o, ho⟩, fun h1 h2 ⟨ks, y, r⟩ k => ⟨ks, y.keep k, r⟩⟩
section
variable {X : Cx}
theorem Inv.setO {pins : List (Addr × Obj)} {σ : St} {H : Hp} {s : Shared} {a : Addr} {S : Int → Bool} {n : Nat} (I : Inv X pins σ H s) (h : H a = some (SetO X.w a S n)) : ∃ ks, SetIs X.w s.heap a ks ∧ (∀ k, S k = true ↔ k ∈ ks) ∧ ks.length ≤ n := (I.hok _ _ h).1
/-- set() -/
theorem call_set0 : CallR X (.type "set") (fun xs H Q => xs = [] ∧ ∀ a, H a = none → Q (.ref a) (upd H a (SetO X.w a (fun _ => false) 0))) := by
  intro pins s σ H xs us Q I r h
  obtain ⟨rfl, q⟩ := h
  cases r
  refine call_new (w := X.w) ⟨.ref s.heap.objs.size, _, I.laid (t' := s.toks) (o := SetO X.w s.heap.objs.size (fun _ => false) 0) (fun b ob e => Heap.get?_push_of_some _ e) (Nat.le_refl _) ?_, rfl, q _ (I.hok.fresh (Nat.le_refl _))⟩
  exact setO_ok set0_is (fun k => by simp) (Nat.le_refl _)
/-- a set of ints that is only looked at -/
abbrev SetR (w : World) (a : Addr) (S : Int → Bool) (n : Nat) : HO := .ext fun h => ∃ ks, SetIt w h a ks ∧ (∀ k, S k = true ↔ k ∈ ks) ∧ ks.length ≤ n
theorem setR_ok {P : Program} {w : World} {H : Hp} {h : Heap} {a : Addr} {S : Int → Bool} {n : Nat} {ks : List Int} (x : SetIt w h a ks) (m : ∀ k, S k = true ↔ k ∈ ks) (hl : ks.length ≤ n) : ObjOk P w H h a (SetR w a S n) :=
  ⟨⟨ks, x, m, hl⟩, let ⟨o, _, _, _, ho, _⟩ := x; ⟨o, ho⟩, fun h1 h2 ⟨ks, y, r⟩ k => ⟨ks, y.keep k, r⟩⟩
theorem Inv.setR {pins : List (Addr × Obj)} {σ : St} {H : Hp} {s : Shared} {a : Addr} {S : Int → Bool} {n : Nat} (I : Inv X pins σ H s) (h : H a = some (SetR X.w a S n)) : ∃ ks, SetIt X.w s.heap a ks ∧ (∀ k, S k = true ↔ k ∈ ks) ∧ ks.length ≤ n := (I.hok _ _ h).1
theorem sorted_core (hc : X.calm = true) {pins : List (Addr × Obj)} {s : Shared} {σ : St} {H : Hp} {Q : VK} {a : Addr} {ks : List Int} {S : Int → Bool} {n : Nat} (I : Inv X pins σ H s) (hS : SetIt X.w s.heap a ks) (hm : ∀ k, S k = true ↔ k ∈ ks) (hl : ks.length ≤ n) (hn : n < 64)
    (q : ∀ (l : Addr) (ns : List Int), H l = none → ns.Pairwise (· < ·) → (∀ k, k ∈ ns ↔ S k = true) → Q (.ref l) (upd H l (.lst (ns.map V.int)))) : wpAny (model X.prog X.w) X.A (call (.builtin "sorted") [.ref a]) (EP X pins σ Q) X.xe s := by
  have ndk : ks.Nodup := let ⟨_, _, _, _, _, _, _, _, _, nd, _⟩ := hS; nd
  refine sorted_set (w := X.w) (I.ok.hd hc) hS (by omega) fun s' l out c ns kk eg eo lo hl' hi hp hs => ?_
  have nd : ns.Nodup := hp.nodup_iff.mpr ndk
  have lt : ns.Pairwise (· < ·) := (List.Pairwise.and hs nd).imp fun {x y} h => by have h1 := h.1; have h2 := h.2; omega
  have hnone : H l = none := I.hok.fresh lo
  have old : ∀ b u, H b = some u → upd H l (.lst (ns.map V.int)) b = some u := fun b u e => by rw [upd_ne (ne_of_none e hnone)]; exact e
  have len : (ns.map V.int).length ≤ sizeLine := by
    rw [List.length_map, hp.length_eq]
    exact Nat.le_of_lt (Nat.lt_of_le_of_lt hl (Nat.lt_trans hn (by decide)))
  have un : Un (frs X.stack) [] H (upd H l (.lst (ns.map V.int))) s.heap s'.heap :=
    ⟨fun b o e _ _ _ => kk b o e, fun b o e _ _ _ => ⟨o.slots, kk b o e⟩, fun b o e n _ => by rw [upd_ne (Nat.ne_of_lt (Nat.lt_of_lt_of_le (Heap.lt_size e) lo))]; exact n, fun b o e _ => ⟨o, kk b o e⟩, fun b xs e => old b _ e, fun b o u e => old b _ e, fun b ps e => ⟨#[], by rw [old b _ e]; simp⟩⟩
  have hok : HOk X.prog X.w (upd H l (.lst (ns.map V.int))) s'.heap := fun b u e => by
    by_cases z : b = l
    · subst z
      rw [upd_same] at e
      cases e
      exact ⟨len, out.toList, c, vals_ints hi, by rw [hl', Array.toArray_toList]⟩
    · rw [upd_ne z] at e
      exact (I.hok b u e).stay (fun c v _ e => kk c v e) (fun c e => old c _ e) fun c xs e => old c _ e
  exact ⟨.ref l, _, I.call' (ch := []) eo un hok (by rw [eg]; exact I.bare) (fun b hb => absurd hb (by simp)), rfl, q l ns hnone lt fun k => by rw [hp.mem_iff]; exact (hm k).symm⟩
/-- sorted(s) of a set of ints -/
theorem call_sortedS (hc : X.calm = true) : CallR X (.builtin "sorted") (fun xs H Q => ∃ a S n, xs = [.ref a] ∧ H a = some (SetO X.w a S n) ∧ n < 64 ∧ ∀ (l : Addr) (ns : List Int), H l = none → ns.Pairwise (· < ·) → (∀ k, k ∈ ns ↔ S k = true) → Q (.ref l) (upd H l (.lst (ns.map V.int)))) := by
  intro pins s σ H xs us Q I r h
  obtain ⟨a, S, n, rfl, ha, hn, q⟩ := h
  obtain ⟨u, rfl, ru⟩ := vals1 r
  cases ru
  obtain ⟨ks, hS, hm, hl⟩ := I.setO ha
  exact sorted_core hc I hS.it hm hl hn q
theorem call_sortedR (hc : X.calm = true) : CallR X (.builtin "sorted") (fun xs H Q => ∃ a S n, xs = [.ref a] ∧ H a = some (SetR X.w a S n) ∧ n < 64 ∧ ∀ (l : Addr) (ns : List Int), H l = none → ns.Pairwise (· < ·) → (∀ k, k ∈ ns ↔ S k = true) → Q (.ref l) (upd H l (.lst (ns.map V.int)))) := by
  intro pins s σ H xs us Q I r h
  obtain ⟨a, S, n, rfl, ha, hn, q⟩ := h
  obtain ⟨u, rfl, ru⟩ := vals1 r
  cases ru
  obtain ⟨ks, hS, hm, hl⟩ := I.setR ha
  exact sorted_core hc I hS hm hl hn q
variable {o e : Expr} {es : List Expr} {to : TE} {t : TA} {apos cpos : Pos}
/-- s.add(k) -/
def tAdd' (X : Cx) (to : TE) (t : TA) : TE := fun σ H Q => to σ H fun x H1 => ∃ a S n, x = .ref a ∧ H1 a = some (SetO X.w a S n) ∧ t σ H1 fun xs H2 => ∃ k S2 n2, xs = [.int k] ∧ H2 a = some (SetO X.w a S2 n2) ∧ n2 + 1 < 2000 ∧ Q .non (upd H2 a (SetO X.w a (fun j => S2 j || decide (j = k)) (n2 + 1)))
theorem pe_sadd (ho : PE X o to) (hp : PA X (e :: es) t) (hbase : attributeBase o "add" X.env (eval o X.env) = eval o X.env := by rfl)
    (hfew : ((backTo cpos (starEach (e :: es) X.env)).all (fun x => !x.1) && (backToKw cpos (keywordEach [] X.env)).all (fun x => x.1.isSome)
      && decide ((e :: es).length + ([] : List Keyword).length + (if ([] : List Keyword).isEmpty then 0 else 1) < 30)) = true := by rfl)
    (hline : (apos.endLine == cpos.line) = true := by rfl) (hs : starEach (e :: es) X.env = (false, eval e X.env) :: starEach es X.env := by rfl) (hplain : (backTo cpos (starEach es X.env)).any (·.1) = false := by rfl) :
    PE X (.Call (.Attribute o "add" apos) (e :: es) [] cpos) (tAdd' X to t) := by
  intro pins s σ H Q I h
  refine wpAny_Call_method_late hbase hfew hline rfl (thn (ho pins s σ H _ I h) fun v s1 ⟨x, H1, I1, r1, a, S, n, ex, ha, q1⟩ => ?_)
  subst ex
  cases r1
  obtain ⟨ks, hS, hm, hl⟩ := I1.setO ha
  refine ⟨"set", "set.add", PySem.F.plainAttrs_set, PySem.F.slot_set_add, PySem.F.type_set_add, hS.typeIs, fun b eb => hS.noDict b eb, ?_⟩
  have hA := hp cpos pins s1 σ H1 _ I1 q1
  rw [hs] at hA ⊢
  refine Calls.callWith_builtin (by show (false || (backTo cpos (starEach es X.env)).any (·.1)) = false; rw [hplain] <;> rfl) (Calls.evalArgs_plain ?_)
  refine thn hA fun us s2 ⟨vs, H2, I2, r2, k, S2, n2, ek, ha2, hn2, q2⟩ => ?_
  subst ek
  obtain ⟨u, rfl, ru⟩ := vals1 r2
  obtain ⟨tk, rfl⟩ := ru
  obtain ⟨ks2, hS2, hm2, hl2⟩ := I2.setO ha2
  refine call_add (w := X.w) hS2 (by omega) fun h' ks' hsb hS' hm' hl' => ?_
  have mu : Mut (H2 a) := by rw [ha2]; exact True.intro
  refine ⟨.non, _, I2.write (x := a) (e := a) (t' := s2.toks + 1) mu (.inl rfl) (fun b ob nb eb => (hsb.2 b nb).trans eb) (let ⟨o, _, _, _, ho, _⟩ := hS'; ⟨o, ho⟩) (setO_ok hS' (fun j => ?_) (by omega)), rfl, q2⟩
  rw [hm' j, Bool.or_eq_true, decide_eq_true_eq, hm2 j]
end
end L2
namespace L2
open PySem PySem.Spec PyProof.Rows
/-! ### comprehensions with cells of their own -/
theorem cf_look : ∀ (names : List (Str × NameKind)) (h : Heap) (acc : List (Str × Addr)) (n : Str) (c : Addr), (cellsFrom h.objs.size names acc).lookup n = some c → acc.lookup n = some c ∨ (h.objs.size ≤ c ∧ (pushCells h names).IsCell c none)
  | [], _, _, _, _, e => .inl e
  | (name, kind) :: r, h, acc, n, c, e => by
    unfold cellsFrom at e
    unfold pushCells
    split at e
    · rename_i hk
      rw [if_pos hk]
      have e' : (cellsFrom (h.push { cls := .type "cell", data := .cell none }).objs.size r ((name, h.objs.size) :: acc)).lookup n = some c := by rw [Heap.size_push]; exact e
      rcases cf_look r _ _ n c e' with z | ⟨z1, z2⟩
      · rw [List.lookup_cons] at z
        cases hb : n == name with
        | true =>
          rw [hb] at z
          cases z
          exact .inr ⟨Nat.le_refl _, _, pushCells_keeps r _ _ _ (Heap.get?_push_size _ rfl), rfl⟩
        | false => rw [hb] at z; exact .inl z
      · rw [Heap.size_push] at z1
        exact .inr ⟨by omega, z2⟩
    · rename_i hk
      rw [if_neg hk]
      exact cf_look r h acc n c e
theorem cf_inj : ∀ (names : List (Str × NameKind)) (k : Nat) (acc : List (Str × Addr)), (∀ x y c, acc.lookup x = some c → acc.lookup y = some c → x = y) → (∀ x c, acc.lookup x = some c → c < k) → ∀ x y c, (cellsFrom k names acc).lookup x = some c → (cellsFrom k names acc).lookup y = some c → x = y
  | [], _, _, hi, _, x, y, c, e1, e2 => hi x y c e1 e2
  | (name, kind) :: r, k, acc, hi, hl, x, y, c, e1, e2 => by
    unfold cellsFrom at e1 e2
    split at e1
    · rename_i hk
      rw [if_pos hk] at e2
      have look : ∀ x c, ((name, k) :: acc).lookup x = some c → (x = name ∧ c = k) ∨ acc.lookup x = some c := fun x c e => by
        rw [List.lookup_cons] at e
        cases hb : x == name with
        | true => rw [hb] at e; cases e; exact .inl ⟨beq_iff_eq.mp hb, rfl⟩
        | false => rw [hb] at e; exact .inr e
      refine cf_inj r (k + 1) _ (fun x y c h1 h2 => ?_) (fun x c h => ?_) x y c e1 e2
      · rcases look x c h1 with ⟨a, b⟩ | a <;> rcases look y c h2 with ⟨a', b'⟩ | a'
        · rw [a, a']
        · have := hl y c a'; rw [b] at this; exact absurd this (Nat.lt_irrefl _)
        · have := hl x c a; rw [b'] at this; exact absurd this (Nat.lt_irrefl _)
        · exact hi x y c a a'
      · rcases look x c h with ⟨_, b⟩ | a
        · rw [b]; exact Nat.lt_succ_self _
        · exact Nat.lt_succ_of_lt (hl x c a)
    · rename_i hk
      rw [if_neg hk] at e2
      exact cf_inj r k acc hi hl x y c e1 e2
theorem cf_has : ∀ (names : List (Str × NameKind)) (k : Nat) (acc : List (Str × Addr)) (x : Str), (names.any fun p => p.1 == x && p.2 == .cell) = true ∨ (∃ c, acc.lookup x = some c) → ∃ c, (cellsFrom k names acc).lookup x = some c
  | [], _, _, _, h => by
    rcases h with z | z
    · cases z
    · exact z
  | (name, kind) :: r, k, acc, x, h => by
    unfold cellsFrom
    by_cases hk : (kind == NameKind.cell) = true
    · rw [if_pos hk]
      refine cf_has r (k + 1) _ x ?_
      rw [List.lookup_cons]
      cases hb : x == name with
      | true => exact .inr ⟨_, rfl⟩
      | false =>
        rcases h with z | z
        · rw [List.any_cons, Bool.or_eq_true] at z
          rcases z with z | z
          · rw [Bool.and_eq_true] at z
            have : x == name := by rw [beq_iff_eq]; exact (beq_iff_eq.mp z.1).symm
            rw [hb] at this
            cases this
          · exact .inl z
        · exact .inr z
    · rw [if_neg hk]
      refine cf_has r k acc x ?_
      rcases h with z | z
      · rw [List.any_cons, Bool.or_eq_true] at z
        rcases z with z | z
        · rw [Bool.and_eq_true] at z
          exact absurd z.2 hk
        · exact .inl z
      · exact .inr z
theorem new_comp {M : Model} {A : Around} {E : Value → Shared → Prop} {s : Shared} {scope : Scope} {globals : Addr} {cl : List (Str × Addr)} {qual : Str} {env : Env} {Q : Env → Shared → Prop}
    (h : Q (newEnv scope s.heap.objs.size globals (cellsFrom (s.heap.objs.size + 1) scope.names cl) qual none .none (some env) builtinsNs) { s with heap := pushCells (s.heap.push { cls := .type "dict", data := .dict #[] }) scope.names }) :
    wpAny M A (newFunctionEnv scope globals cl [] qual none .none (some env)) Q E s := by
  simp only [newFunctionEnv, Option.isSome_some, if_true]
  refine wpAny_bind (wpAny_alloc ?_)
  refine wpAny_bind (wpAny_layCells _ (fun name kind cells => by cases hkc : kind == NameKind.cell <;> simp [hkc]) _ _ _ _ ?_)
  rw [show ({ s with heap := s.heap.push { cls := .type "dict", data := .dict #[] } } : Shared).heap.objs.size = s.heap.objs.size + 1 from Heap.size_push ..]
  exact wpAny_bind (wpAny_pure (wpAny_pure h))
/-- the context of the block, its own cells among the names' -/
def Cx.cmk (X : Cx) (N : List Str) (scope : Scope) (cl : List (Str × Addr)) (c : CC) : Cx :=
  { X with N := N, s₀ := c.s, H₀ := c.H, env := compEnvC scope (cellsFrom (c.s.heap.objs.size + 1) scope.names cl) c.s.heap.objs.size X.env, outer := X.stack, ex := c.fp, fn := fun x => (scope.names.any fun p => p.1 == x && p.2 == .cell) && !(cl.any fun p => p.1 == x), pn := [] }
section
variable {X : Cx} {N : List Str} {scope : Scope} {cl : List (Str × Addr)} {js : List (Option Nat)} {pins : List (Addr × Obj)} {σ : St} {H : Hp} {s : Shared} {fp : List Addr}
theorem Inv.cmk {h' : Heap} (I : Inv X pins σ H s) (hf : ∀ b ∈ fp, FpOk X pins H b) (hfo : ∀ b ∈ fp, b < s.heap.objs.size) (hk : scope.kind = .function)
    (hcl : ∀ p ∈ cl, X.env.cells.lookup p.1 = some p.2) (hcn : ∀ x, ((relabel scope X.env).names.lookup x = some .cell ∨ (relabel scope X.env).names.lookup x = some .free) → ∃ c, (cellsFrom (s.heap.objs.size + 1) scope.names cl).lookup x = some c)
    (hsh : shares X N scope js) (hsc : ∀ (i : Nat) (x : Str) (j : Nat), N[i]? = some x → js[i]? = some (some j) → ∀ k, (cellsFrom k scope.names cl).lookup x = cl.lookup x) (hl : js.length = N.length)
    (e : h' = pushCells (s.heap.push { cls := .type "dict", data := .dict #[] }) scope.names) {t' : Nat} :
    Inv (X.cmk N scope cl ⟨s, H, fp⟩) [] (sub js σ) H { s with heap := h', toks := t' } := by
  have hlook : ∀ x c, cl.lookup x = some c → X.env.cells.lookup x = some c := fun x c e => hcl (x, c) (PySem.mem_of_lookup e)
  have hkeep : ∀ b o, s.heap.get? b = some o → h'.get? b = some o := fun b o q => by rw [e]; exact pushCells_keeps _ _ b o (Heap.get?_push_of_some _ q)
  have clt : ∀ x c, cl.lookup x = some c → c < s.heap.objs.size := fun x c q => by
    obtain ⟨v, o, ho, _⟩ := I.cell x c (hlook x c q)
    exact Heap.lt_size ho
  have hc : ∀ x c, (cellsFrom (s.heap.objs.size + 1) scope.names cl).lookup x = some c → cl.lookup x = some c ∨ (s.heap.objs.size + 1 ≤ c ∧ h'.IsCell c none) := fun x c q => by
    have q' : (cellsFrom (s.heap.push { cls := .type "dict", data := .dict #[] }).objs.size scope.names cl).lookup x = some c := by rw [Heap.size_push]; exact q
    have := cf_look _ _ _ x c q'
    rw [Heap.size_push] at this
    rw [e]
    exact this
  have hL : h'.Ns s.heap.objs.size (fun _ => none) := by
    rw [e]
    exact (Heap.Ns.new s.heap (.type "dict")).keeps (pushCells_keeps _ _)
  refine ⟨⟨I.ok.mod, ?_, I.ok.glob, I.ok.blt, Nat.le_refl _, ?_, fun x hx => hcn x hx, fun x c hx q => ?_, I.ok.hd, I.ok.frames, .inl rfl, fun b hb => ⟨Nat.ne_of_lt (hfo b hb), fun x c q => ?_⟩,
      I.bs, Nat.le_trans I.ok.bsz I.sz, fun b o q hb => ?_, fun b hb hs => ?_, I.stack, I.stkFree⟩, rfl, I.bare, Un.kept hkeep, ⟨_, hL, fun i x v e1 e2 e3 => ?_⟩, fun x c q => ?_, I.hok.fresh (Nat.le_refl _), fun x c q => ?_, fun p hp => ?_, I.hok.kept hkeep, ?_⟩
  · show (relabel scope X.env).kind = .function
    exact hk
  · refine cf_inj scope.names (s.heap.objs.size + 1) cl (fun x y c h1 h2 => I.ok.inj x y c (hlook x c h1) (hlook y c h2)) fun x c q => Nat.lt_succ_of_lt (clt x c q)
  · have hx' : ((scope.names.any fun p => p.1 == x && p.2 == .cell) && !(cl.any fun p => p.1 == x)) = true := hx
    rw [Bool.and_eq_true] at hx'
    rcases hc x c q with z | ⟨z, _⟩
    · have hm : (cl.any fun p => p.1 == x) = true := List.any_eq_true.mpr ⟨(x, c), PySem.mem_of_lookup z, by simp⟩
      rw [hm] at hx'
      cases hx'.2
    · exact Nat.le_trans (Nat.le_succ _) z
  · rcases hc x c q with z | ⟨z, _⟩
    · exact (hf b hb).2.2.2.2.1 x c (hlook x c z)
    · exact Nat.ne_of_gt (Nat.lt_of_lt_of_le (hfo b hb) (Nat.le_trans (Nat.le_succ _) z))
  · rcases (hf b hb).2.2.2.1 with z | z
    · exact I.ok.noex b o q z
    · exact absurd (Nat.lt_of_lt_of_le (Heap.lt_size (I.ok.bs b o q).1) z) (Nat.lt_irrefl _)
  · rcases List.mem_cons.mp (I.stkSub b hs) with z | z
    · exact (hf b hb).2.1 z
    · exact (hf b hb).2.2.1 z
  · have e2' : (sub js σ)[i]? = some (some v) := e2
    unfold sub at e2'
    rw [List.getElem?_map] at e2'
    cases ej : js[i]? with
    | none => rw [ej] at e2'; cases e2'
    | some o =>
      rw [ej] at e2'
      cases o with
      | none => cases e2'
      | some j =>
        obtain ⟨a1, a2, a3⟩ := hsh i x j e1 ej
        have e4 : (σ[j]?).join = some v := Option.some.inj e2'
        have e5 : σ[j]? = some (some v) := by
          cases q : σ[j]? with
          | none => rw [q] at e4; cases e4
          | some o =>
            rw [q] at e4
            have : o = some v := e4
            rw [this]
        obtain ⟨m, hn, hloc⟩ := I.loc
        obtain ⟨u, r, l⟩ := hloc j x v a1 e5 (.inr (.inl a2))
        refine ⟨u, r, .inr ⟨.inl a3, ?_⟩⟩
        obtain ⟨c, hc1⟩ := hcn x (.inl a3)
        have hc2 : cl.lookup x = some c := by rw [← hsc i x j e1 ej (s.heap.objs.size + 1)]; exact hc1
        refine ⟨c, hc1, ?_⟩
        rcases l with ⟨k, _⟩ | ⟨_, c', hc', hcell⟩
        · rw [k] at a2; cases a2
        · have : c' = c := by
            have := hlook x c hc2
            rw [hc'] at this
            exact Option.some.inj this
          subst this
          obtain ⟨o, ho, hd⟩ := hcell
          exact ⟨o, hkeep _ _ ho, hd⟩
  · rcases hc x c q with z | ⟨_, z⟩
    · obtain ⟨v, o, ho, hd⟩ := I.cell x c (hlook x c z)
      exact ⟨v, o, hkeep _ _ ho, hd⟩
    · exact ⟨none, z⟩
  · rcases hc x c q with z | ⟨z, _⟩
    · exact I.freeC x c (hlook x c z)
    · exact I.hok.fresh (Nat.le_trans (Nat.le_succ _) z)
  · exact absurd (show p ∈ ([] : List (Addr × Obj)) from hp) (by simp)
  · unfold sub
    rw [List.length_map]
    exact hl
/-- behind the block -/
theorem Inv.uncmk {σ' : St} {H' : Hp} {s' : Shared} {h'' : Heap} (I : Inv X pins σ H s) (hf : ∀ b ∈ fp, FpOk X pins H b) (J : Inv (X.cmk N scope cl ⟨s, H, fp⟩) [] σ' H' s') (hsb : Heap.SameBut s.heap.objs.size s'.heap h'') :
    Inv X pins σ H' { s' with heap := h'' } := by
  have u : Un (frs X.stack) fp H H' s.heap s'.heap := J.base
  have ne : ∀ b o, s.heap.get? b = some o → b ≠ s.heap.objs.size := fun b o e => Nat.ne_of_lt (Heap.lt_size e)
  have hfree : H' s.heap.objs.size = none := J.free
  refine I.call' (ch := fp) (s' := { s' with heap := h'' }) J.os ⟨fun b o e n hb hx => (hsb.2 b (ne b o e)).trans (u.keep b o e n hb hx), fun b o e n hb hx => ?_, u.free, fun b o e hx => ?_, u.tups, u.frzs, u.tbls⟩ (fun b ob e => ?_) J.bare fun b hb => ⟨(hf b hb).2.2.2.1, (hf b hb).2.1, (hf b hb).2.2.2.2.1, (hf b hb).2.2.2.2.2⟩
  · obtain ⟨sl, e1⟩ := u.slot b o e n hb hx
    exact ⟨sl, (hsb.2 b (ne b o e)).trans e1⟩
  · obtain ⟨o', e1⟩ := u.there b o e hx
    exact ⟨o', (hsb.2 b (ne b o e)).trans e1⟩
  · refine (J.hok b ob e).stay (fun c w' hc q => (hsb.2 c ?_).trans q) (fun _ q => q) fun _ _ q => q
    rintro rfl
    rcases hc with z | z
    · rw [← z, hfree] at e; cases e
    · rw [hfree] at z; cases z
end
/-- what such a comprehension's scope must show: each by rfl -/
structure CompK (X : Cx) (N : List Str) (scope : Scope) (cl : List (Str × Addr)) (js : List (Option Nat)) : Prop where
  clos : closureFor scope X.env = pure cl
  kind : scope.kind = .function
  loc : (scope.names.all fun x => x.2 != .local || scope.names.lookup x.1 == some .local) = true
  ccl : ∀ p ∈ cl, X.env.cells.lookup p.1 = some p.2
  cn : ((relabel scope X.env).names.all fun p => !(p.2 == .cell || p.2 == .free) || (scope.names.any fun q => q.1 == p.1 && q.2 == .cell) || (cl.lookup p.1).isSome) = true
  sh : ((N.zip js).all fun p => match p.2 with | none => true | some j => X.N[j]? == some p.1 && X.env.kindOf p.1 == some .cell && (relabel scope X.env).names.lookup p.1 == some .cell && !(scope.names.any fun q => q.1 == p.1 && q.2 == .cell)) = true
  len : js.length = N.length
theorem cf_other : ∀ (names : List (Str × NameKind)) (k : Nat) (acc : List (Str × Addr)) (x : Str), (names.any fun q => q.1 == x && q.2 == .cell) = false → (cellsFrom k names acc).lookup x = acc.lookup x
  | [], _, _, _, _ => rfl
  | (name, kind) :: r, k, acc, x, h => by
    rw [List.any_cons, Bool.or_eq_false_iff] at h
    unfold cellsFrom
    by_cases hk : (kind == NameKind.cell) = true
    · rw [if_pos hk, cf_other r (k + 1) _ x h.2, List.lookup_cons]
      have : (x == name) = false := by
        have h1 := h.1
        rw [hk, Bool.and_true] at h1
        have : name ≠ x := fun e => by rw [e] at h1; simp at h1
        exact beq_false_of_ne (Ne.symm this)
      rw [this]
    · rw [if_neg hk, cf_other r k acc x h.2]
section
variable {X : Cx} {N : List Str} {scope : Scope} {cl : List (Str × Addr)} {js : List (Option Nat)}
theorem CompK.names (h : CompK X N scope cl js) : ∀ x ∈ scope.names, x.2 = .local → scope.names.lookup x.1 = some .local := fun x hx e => by
  have q := (List.all_eq_true.mp h.loc) x hx
  rw [e] at q
  simpa using q
theorem CompK.hcn (h : CompK X N scope cl js) (k : Nat) : ∀ x, ((relabel scope X.env).names.lookup x = some .cell ∨ (relabel scope X.env).names.lookup x = some .free) → ∃ c, (cellsFrom k scope.names cl).lookup x = some c := fun x hx => by
  refine cf_has _ _ _ _ ?_
  rcases hx with e | e
  · have q := (List.all_eq_true.mp h.cn) _ (PySem.mem_of_lookup e)
    simp only [Bool.or_eq_true] at q
    rcases q with (q | q) | q
    · simp at q
    · exact .inl q
    · exact .inr (Option.isSome_iff_exists.mp q)
  · have q := (List.all_eq_true.mp h.cn) _ (PySem.mem_of_lookup e)
    simp only [Bool.or_eq_true] at q
    rcases q with (q | q) | q
    · simp at q
    · exact .inl q
    · exact .inr (Option.isSome_iff_exists.mp q)
theorem CompK.mem (h : CompK X N scope cl js) {i : Nat} {x : Str} {j : Nat} (e1 : N[i]? = some x) (e2 : js[i]? = some (some j)) : (X.N[j]? = some x ∧ X.env.kindOf x = some .cell ∧ (relabel scope X.env).names.lookup x = some .cell) ∧ (scope.names.any fun q => q.1 == x && q.2 == .cell) = false := by
  have hm : (x, some j) ∈ N.zip js := by
    have : (N.zip js)[i]? = some (x, some j) := by rw [List.getElem?_zip_eq_some]; exact ⟨e1, e2⟩
    exact List.mem_of_getElem? this
  have q := (List.all_eq_true.mp h.sh) _ hm
  simp only [Bool.and_eq_true] at q
  exact ⟨⟨eq_of_beq q.1.1.1, eq_of_beq q.1.1.2, eq_of_beq q.1.2⟩, by simpa using q.2⟩
variable {elt tg iter : Expr} {ifs : List Expr} {rest : List Comprehension} {pos : Pos} {wi : TI} {g : CC → TG} {tb : CC → Addr → TS}
theorem pe_compKG {WB : CC → Value → WBT} (hxe : X.xe = NoE) (hc : X.calm = true) (hi : PI X tg iter wi) (hs : ∀ x, foldedSetIterable iter X.env x = pure x) (K : CompK X N scope cl js)
    (ht : ∀ c it ac, HT (X.cmk N scope cl c) (.ListComp elt (⟨tg, iter, ifs, 0⟩ :: rest) scope pos) 0 it ac tg (WB c ac))
    (hg : ∀ c, PG (X.cmk N scope cl c) tg (g c)) (hb : ∀ c ac, PB (X.cmk N scope cl c) (WB c (.ref ac)) (tb c ac)) :
    PE X (.ListComp elt (⟨tg, iter, ifs, 0⟩ :: rest) scope pos) (tComp wi js g tb) := by
  intro pins s σ H Q I h
  rw [eval_ListComp]
  have h0 := hi pins s σ H _ I h
  refine wpAny_comprehension_free (use := none) (cl := cl) rfl hs K.clos K.kind K.names (thn h0 fun v s1 h1 => thn h1 fun itv s2 h2 => ?_)
  obtain ⟨it, fp, tn, J, H2, e, I2, T, st2, f2, hR⟩ := h2
  subst e
  refine wpAny_newObj_type (new_comp ?_)
  have I3 := I2.lnew (ys := []) (its := []) (t' := s2.toks) .nil (Nat.zero_le _)
  have fpl : ∀ b ∈ fp, b < s2.heap.objs.size := fun b hb => by
    obtain ⟨o, e, _⟩ := T.obj 0 _ st2 b hb
    exact Heap.lt_size e
  have fpa : ∀ b ∈ fp, b ≠ s2.heap.objs.size := fun b hb => Nat.ne_of_lt (fpl b hb)
  have f3 : ∀ b ∈ fp, FpOk X pins (upd H2 s2.heap.objs.size (.lst [])) b := fun b hb => ⟨by rw [upd_ne (fpa b hb)]; exact (f2 b hb).1, (f2 b hb).2⟩
  have hR' := hR ⟨{ s2 with heap := s2.heap.push { cls := .type "list", data := .seq ([] : List Value).toArray } }, upd H2 s2.heap.objs.size (.lst []), fp⟩ s2.heap.objs.size I2.fresh
  have I4 := I3.cmk (N := N) (cl := cl) (js := js) (scope := scope) (t' := s2.toks) f3 (fun b hb => by
    show b < (s2.heap.push _).objs.size
    rw [Heap.size_push]
    exact Nat.lt_succ_of_lt (fpl b hb)) K.kind K.ccl (K.hcn _) (fun i x j e1 e2 => (K.mem e1 e2).1) (fun i x j e1 e2 k => cf_other _ _ _ _ (K.mem e1 e2).2) K.len rfl
  have st4 : tn 0 (pushCells ((s2.heap.push { cls := .type "list", data := .seq ([] : List Value).toArray }).push { cls := .type "dict", data := .dict #[] }) scope.names) := T.keep 0 _ _ st2 fun b hb o e => pushCells_keeps _ _ _ _ (Heap.get?_push_of_some _ (Heap.get?_push_of_some _ e))
  have f4 : ∀ b ∈ fp, FpOk (X.cmk N scope cl ⟨{ s2 with heap := s2.heap.push { cls := .type "list", data := .seq ([] : List Value).toArray } }, upd H2 s2.heap.objs.size (.lst []), fp⟩) [] (upd H2 s2.heap.objs.size (.lst [])) b := fun b hb =>
    ⟨(f3 b hb).1, (I4.ok.exf b hb).1, I4.ok.exfs b hb, .inl hb, (I4.ok.exf b hb).2, fun p hp => absurd (show p ∈ ([] : List (Addr × Obj)) from hp) (by simp)⟩
  have loop := codeAny_mono (comp_loop (X := X.cmk N scope cl ⟨{ s2 with heap := s2.heap.push { cls := .type "list", data := .seq ([] : List Value).toArray } }, upd H2 s2.heap.objs.size (.lst []), fp⟩) (e := .ListComp elt (⟨tg, iter, ifs, 0⟩ :: rest) scope pos) (d := 0) (acc := .ref s2.heap.objs.size) (pins := []) hxe hc (ht _ _ _) rfl rfl rfl T (hg _) (hb _ _) I4 st4 f4 hR') (R' := compPost (model X.prog X.w) X.A X.xe none (EP X pins σ Q) (.ref s2.heap.objs.size) (s2.heap.push { cls := .type "list", data := .seq ([] : List Value).toArray }).objs.size) (fun r s' hq => by
    obtain ⟨rfl, σ', H', J', q⟩ := hq
    obtain ⟨m, hn, _⟩ := id J'.loc
    exact ⟨m, hn, fun h'' hs'' => ⟨.ref s2.heap.objs.size, H', I3.uncmk f3 J' hs'', rfl, q⟩⟩)
  exact comp_start (X := X.cmk N scope cl ⟨{ s2 with heap := s2.heap.push { cls := .type "list", data := .seq ([] : List Value).toArray } }, upd H2 s2.heap.objs.size (.lst []), fp⟩) rfl rfl rfl (fun _ => rfl) True.intro loop (T.self _ 0 _ _ _ st4 loop)
variable {tg1 iter1 : Expr} {ifs1 : List Expr} {wi1 : CC → TI} {g1 : CC → TG} {tc tc1 : CC → TT} {te : CC → TE}
/-- [elt for tg in iter if ..], names of it used within -/
theorem pe_compK1 (h : CompK X N scope cl js) (hi : PI X tg iter wi) (hg : ∀ c, PG (X.cmk N scope cl c) tg (g c)) (hif : ∀ c, PTs (X.cmk N scope cl c) ifs (tc c)) (he : ∀ c, PE (X.cmk N scope cl c) elt (te c))
    (hxe : X.xe = NoE := by rfl) (hc : X.calm = true := by rfl) (hs : ∀ x, foldedSetIterable iter X.env x = pure x := by intro _; rfl) :
    PE X (.ListComp elt [⟨tg, iter, ifs, 0⟩] scope pos) (tComp wi js g fun c ac => tIfC (tc c) (tEmit ac (te c))) :=
  pe_compKG (WB := fun c ac => emitWB (X.cmk N scope cl c) ifs elt ac) hxe hc hi hs h (fun c it ac => ht_one) hg fun c ac => pb_emit hxe (hif c) (he c)
end
end L2
namespace L2
open PySem PySem.Spec PyProof.Rows
theorem vals_at : ∀ {xs : List V} {us : List Value}, xs.length = us.length → (∀ (i : Nat) (x : V) (u : Value), xs[i]? = some x → us[i]? = some u → RelV x u) → Vals xs us
  | [], [], _, _ => .nil
  | [], _ :: _, h, _ => by cases h
  | _ :: _, [], h, _ => by cases h
  | x :: xs, u :: us, h, f => .cons (f 0 x u rfl rfl) (vals_at (Nat.succ.inj h) fun i y v hy hv => f (i + 1) y v (by simpa using hy) (by simpa using hv))
theorem map_range {α : Type} (bs : List α) (d : α) : (List.range bs.length).map (fun i => bs.getD i d) = bs := by
  refine List.ext_getElem (by simp) fun n h1 h2 => ?_
  simp [List.getD, h2]
theorem any_range (bs : List Bool) : (List.range bs.length).any (fun i => bs.getD i false) = bs.any id := by
  have := map_range bs false
  conv => rhs; rw [← this]
  rw [List.any_map]
  rfl
theorem all_range (bs : List Bool) : (List.range bs.length).all (fun i => bs.getD i false) = bs.all id := by
  have := map_range bs false
  conv => rhs; rw [← this]
  rw [List.all_map]
  rfl
theorem truth_bl {prog : Program} {w : World} {A : Around} {bs : List Bool} {its : List Value} (rv : Vals (bs.map V.bl) its) : TruthOf prog w A (fun i v => its.toArray[i]? = some v) (fun i => bs.getD i false) := by
  intro i v s Q E hv q
  have hv' : its[i]? = some v := by simpa using hv
  have hi : i < bs.length := by
    have h1 := (List.getElem?_eq_some_iff.mp hv').1
    have := rv.length
    rw [List.length_map] at this
    omega
  have hx : (bs.map V.bl)[i]? = some (.bl bs[i]) := by rw [List.getElem?_map, List.getElem?_eq_getElem hi]; rfl
  obtain ⟨u, hu, ru⟩ := rv.get hx
  rw [hv'] at hu
  cases hu
  cases (show v = Value.bool bs[i] from ru)
  refine wpAny_truthy_bool ?_
  have e : bs.getD i false = bs[i] := by simp [List.getD, hi]
  rw [← e]
  exact q
section
variable {X : Cx}
/-- range(n), as a thing -/
theorem call_rng1 : CallR X (.type "range") (fun xs H Q => ∃ j : Int, xs = [.int j] ∧ ∀ r, H r = none → Q (.ref r) (upd H r (.rng 0 j))) := by
  intro pins s σ H xs us Q I r h
  obtain ⟨j, rfl, q⟩ := h
  obtain ⟨u, rfl, ru⟩ := vals1 r
  obtain ⟨t, rfl⟩ := ru
  refine call_range_1 ⟨.ref s.heap.objs.size, _, I.laid (o := .rng 0 j) (fun b ob e => Heap.get?_push_of_some _ e) (Nat.le_refl _) ?_, rfl, q _ (I.hok.fresh (Nat.le_refl _))⟩
  exact ⟨_, _, _, Heap.get?_push_size _ rfl⟩
def upto (n : Nat) : List Int := (List.range n).map fun (k : Nat) => (k : Int)
/-- list(range(n)) -/
theorem call_listR (hc : X.calm = true) : CallR X (.type "list") (fun xs H Q => ∃ (r : Addr) (n : Nat), xs = [.ref r] ∧ H r = some (.rng 0 (n : Int)) ∧ n ≤ 1000 ∧ ∀ l, H l = none → Q (.ref l) (upd H l (.lst ((upto n).map V.int)))) := by
  intro pins s σ H xs us Q I r h
  obtain ⟨rr, n, rfl, hr, hn, q⟩ := h
  obtain ⟨u, rfl, ru⟩ := vals1 r
  cases ru
  obtain ⟨t, u, v, ho⟩ := (show ObjOk X.prog X.w H s.heap rr (.rng 0 (n : Int)) from I.hok rr _ hr)
  have hsz : Builtin.Range.rangeSize 0 (n : Int) 1 = n := by rw [rangeSize_one]; split <;> omega
  refine call_list_range (n := n) (I.ok.hd hc) ho (small_one (by omega) (by omega) (by omega) (by omega)) hsz (by omega) fun h' tk acc c kk hl hi => ?_
  have lo : s.heap.objs.size ≤ s.heap.objs.size := Nat.le_refl _
  have hv : Vals ((upto n).map V.int) acc.toList := by
    have hal : acc.toList.length = n := by rw [Array.length_toList, hi.1]
    refine vals_at (by unfold upto; simp [hal]) fun i x u hx hu => ?_
    have hin : i < n := by
      have := (List.getElem?_eq_some_iff.mp hu).1
      omega
    obtain ⟨t, e⟩ := hi.2 i u (by simpa using hu)
    have ex : x = .int (i : Int) := by
      unfold upto at hx
      rw [List.map_map, List.getElem?_map, List.getElem?_range hin] at hx
      exact (Option.some.inj hx).symm
    subst ex
    refine ⟨t, ?_⟩
    rw [e]
    congr 1
    omega
  refine ⟨.ref s.heap.objs.size, _, I.laid (t' := tk) (o := .lst ((upto n).map V.int)) kk lo ?_, rfl, q _ (I.hok.fresh lo)⟩
  refine ⟨?_, acc.toList, c, hv, by rw [hl, Array.toArray_toList]⟩
  unfold upto
  rw [List.length_map, List.length_map, List.length_range]
  exact Nat.le_trans hn (by decide)
/-- any, all of a list of bools -/
theorem call_anyL (hc : X.calm = true) : CallR X (.builtin "any") (fun xs H Q => ∃ (l : Addr) (bs : List Bool), xs = [.ref l] ∧ SqL X.K H l (bs.map V.bl) ∧ Q (.bl (bs.any id)) H) := by
  intro pins s σ H xs us Q I r h
  obtain ⟨l, bs, rfl, hq, q⟩ := h
  obtain ⟨u, rfl, ru⟩ := vals1 r
  cases ru
  obtain ⟨its, rv, pl, hz⟩ := I.list hq
  have hlt : l < s.heap.objs.size := let ⟨o, ho, _⟩ := pl.isList; Heap.lt_size ho
  have hlen : its.length = bs.length := by rw [← rv.length, List.length_map]
  refine call_any_walk (wpAny_pyIter_list pl.isList ⟨s.heap.objs.size, _, _, _, _, _, fun i => bs.getD i false, rfl, Walks.list (by have := I.ok.hd hc; simpa using this) s.heap.objs.size l (Nat.ne_of_lt hlt) its.toArray, ⟨⟨_, Heap.get?_push_size _ rfl, rfl, rfl⟩, pl.isList.push _⟩, truth_bl rv, fun h' tk kk => ?_⟩)
  have e : (List.range its.toArray.size).any (fun i => bs.getD i false) = bs.any id := by rw [List.size_toArray, hlen, any_range]
  rw [e]
  exact ⟨.bl _, H, I.kept (t' := tk) fun b ob eb => kk b ob (by simp only [List.mem_singleton]; exact Nat.ne_of_lt (Heap.lt_size eb)) (Heap.get?_push_of_some _ eb), rfl, q⟩
theorem call_allL (hc : X.calm = true) : CallR X (.builtin "all") (fun xs H Q => ∃ (l : Addr) (bs : List Bool), xs = [.ref l] ∧ SqL X.K H l (bs.map V.bl) ∧ Q (.bl (bs.all id)) H) := by
  intro pins s σ H xs us Q I r h
  obtain ⟨l, bs, rfl, hq, q⟩ := h
  obtain ⟨u, rfl, ru⟩ := vals1 r
  cases ru
  obtain ⟨its, rv, pl, hz⟩ := I.list hq
  have hlt : l < s.heap.objs.size := let ⟨o, ho, _⟩ := pl.isList; Heap.lt_size ho
  have hlen : its.length = bs.length := by rw [← rv.length, List.length_map]
  refine call_all_walk (wpAny_pyIter_list pl.isList ⟨s.heap.objs.size, _, _, _, _, _, fun i => bs.getD i false, rfl, Walks.list (by have := I.ok.hd hc; simpa using this) s.heap.objs.size l (Nat.ne_of_lt hlt) its.toArray, ⟨⟨_, Heap.get?_push_size _ rfl, rfl, rfl⟩, pl.isList.push _⟩, truth_bl rv, fun h' tk kk => ?_⟩)
  have e : (List.range its.toArray.size).all (fun i => bs.getD i false) = bs.all id := by rw [List.size_toArray, hlen, all_range]
  rw [e]
  exact ⟨.bl _, H, I.kept (t' := tk) fun b ob eb => kk b ob (by simp only [List.mem_singleton]; exact Nat.ne_of_lt (Heap.lt_size eb)) (Heap.get?_push_of_some _ eb), rfl, q⟩
end
end L2
namespace L2
open PySem PySem.Spec PyProof.Rows
section
variable {prog : Program} {w : World} {A : Around} {R : Result → Shared → Prop} {I : Addr} {fp wr : List Addr} {G : Array GenState → Array GenState → Prop} {n : Nat} {P : Nat → Value → Prop} {St : Nat → Shared → Prop}
theorem upd_loop (W : WalksS prog w A.in1 I fp wr G n P St) (S : Addr) (hSf : S ∉ fp)
    (val : Nat → Int) (hval : ∀ i v, P i v → ∃ t, v = .int (val i) t) (hb : n < 1000) :
    ∀ (k i : Nat) (s : Shared) (ks : List Int), n - i = k → i ≤ n → St i s → SetIs w s.heap S ks → (∀ j, j ∈ ks ↔ ∃ m, m < i ∧ val m = j) → ks.length ≤ i →
      (∀ s' ks', Moved (S :: wr) G s s' → SetIs w s'.heap S ks' → (∀ j, j ∈ ks' ↔ ∃ m, m < n ∧ val m = j) → ks'.length ≤ n → R (.ok (.ret .none)) s') →
      codeAny (model prog w) A (.builtin "set.update.loop" ⟨[.ref S, .ref I], []⟩) R s := by
  have hSw : S ∉ wr := fun h => hSf (W.sub _ h)
  have hsub : ∀ b ∈ wr, b ∈ S :: wr := fun b hb => List.mem_cons_of_mem _ hb
  intro k
  induction k with
  | zero =>
    intro i s ks hk hi hst hS hm0 hl0 hR
    have hin : i = n := by omega
    subst hin
    refine codeAny_builtin F.entry_set_update_loop ?_
    rw [Around.under_plainId F.plain_set_update_loop _]
    show wpAny _ A.in1 (pyNext (.ref I) >>= _) _ _ s
    refine wpAny_bind (W.done s _ _ hst fun s' hm => ?_)
    show wpAny _ A.in1 (ret Value.none) _ _ s'
    exact wpAny_pure (hR s' ks (hm.mono hsub) (hS.keep fun o e => hm.heap S _ hSw e) hm0 hl0)
  | succ k ih =>
    intro i s ks hk hi hst hS hm0 hl0 hR
    have hlt : i < n := by omega
    refine codeAny_builtin F.entry_set_update_loop ?_
    rw [Around.under_plainId F.plain_set_update_loop _]
    show wpAny _ A.in1 (pyNext (.ref I) >>= _) _ _ s
    refine wpAny_bind (W.item i s _ _ hlt hst fun v s' hP hst' hm => ?_)
    obtain ⟨t, rfl⟩ := hval i v hP
    have hS' : SetIs w s'.heap S ks := hS.keep fun o e => hm.heap S _ hSw e
    show wpAny _ A.in1 (holding [Value.int (val i) t] (setAdd S (.int (val i) t)) >>= _) _ _ s'
    refine wpAny_bind (wpAny_holding ?_)
    unfold setAdd
    refine wpAny_holding ?_
    refine wpAny_bind ((intKind prog w).pyHash (k := val i) (intKind_is _ _ _ _) ?_)
    refine set_add (s := { s' with toks := s'.toks + 1 }) hS' (by omega) fun h' ks' hsb hS2 hm2 hl2 => ?_
    refine wpAny_pure ⟨plainId_quiet F.plain_set_update_loop _, ih (i + 1) _ ks' (by omega) hlt (W.frame _ s' _ _ hst' (Nat.le_succ _) fun b hb o e => ?_) hS2 (fun j => ?_) (by omega) fun s'' ks'' hm'' hS'' hmm hll => ?_⟩
    · rw [hsb.2 b (fun h : b = S => hSf (by rw [← h]; exact hb))]; exact e
    · rw [hm2 j, hm0 j]
      constructor
      · rintro (⟨m, h1, h2⟩ | h)
        · exact ⟨m, Nat.lt_succ_of_lt h1, h2⟩
        · exact ⟨i, Nat.lt_succ_self _, h.symm⟩
      · rintro ⟨m, h1, h2⟩
        rcases Nat.lt_succ_iff_lt_or_eq.mp h1 with z | z
        · exact .inl ⟨m, z, h2⟩
        · subst z; exact .inr h2.symm
    · refine hR s'' ks'' (Moved.trans W.gtrans ((hm.mono hsub).then_heap (Nat.le_succ _) fun b o hb e => ?_) hm'') hS'' hmm hll
      rw [hsb.2 b (fun h : b = S => hb (by rw [h]; exact List.mem_cons_self))]; exact e
end
section
variable {prog : Program} {w : World} {A : Around} {E : Value → Shared → Prop} {s : Shared}
set_option maxHeartbeats 3200000 in
/-- set(l) of a list of ints -/
theorem call_setl {l : Addr} {items : Array Value} {ns : List Int} {Q : Value → Shared → Prop}
    (hh : A.handled = none) (hl : s.heap.IsList l items) (hi : IntsAre items.toList ns) (hb : items.size < 1000)
    (h : ∀ (h' : Heap) (tk : Nat) (ks : List Int), SetIs w h' s.heap.objs.size ks → (∀ j, j ∈ ks ↔ j ∈ ns) → ks.length ≤ ns.length →
      (∀ b o, s.heap.get? b = some o → h'.get? b = some o) → Q (.ref s.heap.objs.size) { s with heap := h', toks := tk }) :
    wpAny (model prog w) A (call (.type "set") [.ref l]) Q E s := by
  have hlen : ns.length = items.size := by rw [← Array.length_toList]; exact (IntsAre.length hi).symm
  obtain ⟨c, tl, hmro⟩ := F.called_set.mro
  have hmade := F.called_set.made
  have hsub := F.called_set.sub
  refine wpAny_call (codeAny_of_tree ?_)
  show wpAny _ _ (callAny (.type "set") _) _ _ _
  refine wpAny_pure ⟨Code.quiet_builtin _ (by decide +kernel), codeAny_builtin F.entry_type_call ?_⟩
  rw [Around.under_plain (weight_type_call_type "set" [.ref l] []) rfl]
  have h1 := F.called_set.notType
  have h2 := F.called_set.canCreate
  have hct := F.typeCall_set_1 (.ref l)
  repeat (any_goals (first | assumption | wp_step))
  refine codeAny_mono (code_new (E := E) (.inr ⟨.ref l, rfl⟩) (Q₁ := fun obj s₁ => obj = .ref s.heap.objs.size ∧ s₁ = { s with heap := s.heap.push (set0 w) }) ⟨rfl, rfl⟩) fun r s₁ hr => ?_
  cases r with
  | error e => exact hr
  | ok fl =>
    cases fl with
    | ret obj =>
      obtain ⟨rfl, rfl⟩ := hr
      have hS : (s.heap.push (set0 w)).get? s.heap.objs.size = some (set0 w) := Heap.get?_push_size _ rfl
      have hT : Shared.TypeIs { s with heap := s.heap.push (set0 w) } (.ref s.heap.objs.size) "set" := ⟨_, hS, rfl⟩
      have hli := F.called_set.init.lookup
      have hbi := F.called_set.init.bind (.ref s.heap.objs.size)
      repeat (any_goals (first | assumption | wp_step))
      refine codeAny_mono (codeAny_call_builtin (R := wants (fun r s₂ => r = .none ∧ ∃ h' tk ks, s₂ = { s with heap := h', toks := tk } ∧ SetIs w h' s.heap.objs.size ks ∧ (∀ j, j ∈ ks ↔ j ∈ ns) ∧ ks.length ≤ ns.length ∧
          (∀ b o, s.heap.get? b = some o → h'.get? b = some o)) E) F.called_set.init.plain F.entry_set_init (check_set_init_1 hT ?_)) fun r₂ s₂ hr₂ => ?_
      · obtain ⟨ol, hol, hcl, nl, hdl⟩ := hl
        obtain ⟨ocls, odict, odata, oslots⟩ := ol
        simp only at hcl hdl
        subst hcl; subst hdl
        have hol' : (s.heap.push (set0 w)).get? l = some { cls := .type "list", dict := odict, data := .seq items nl, slots := oslots } := Heap.get?_push_of_some _ hol
        have hsls := F.sub_list_set
        have hslf := F.sub_list_frozenset
        have hne : (Value.type "list" == Value.type "dict") = false := by decide
        have hl1 : (s.heap.push (set0 w)).IsList l items := ⟨_, hol', rfl, nl, rfl⟩
        unfold Builtin.«set.__init__» noKeywords Builtin.Frozenset.updateFrom
        generalize hPI : pyIter = PI
        wp_walk
        subst hPI
        refine wpAny_pyIter_list hl1 ?_
        refine wpAny_bind (wpAny_runValue ?_)
        have hlS : l < s.heap.objs.size := Heap.lt_size hol
        have hh3 : A.in1.in1.in1.handled = none := by simp [hh]
        have hneI : l ≠ (s.heap.push (set0 w)).objs.size := by
          rw [Heap.size_push]; exact Nat.ne_of_lt (Nat.lt_succ_of_lt hlS)
        have hSf : s.heap.objs.size ∉ [(s.heap.push (set0 w)).objs.size, l] := by
          rw [Heap.size_push]; simp only [List.mem_cons, List.mem_singleton, List.not_mem_nil, or_false, not_or]
          exact ⟨Nat.ne_of_lt (Nat.lt_succ_self _), Nat.ne_of_gt hlS⟩
        have hval : ∀ (i : Nat) (v : Value), items[i]? = some v → ∃ t, v = .int ((fun i => ns.getD i 0) i) t := fun i v hv =>
          IntsAre.int_at hi i v (by rw [Array.getElem?_toList]; exact hv)
        refine upd_loop ((Walks.list hh3 _ l hneI items).toS) s.heap.objs.size
          hSf (fun i => ns.getD i 0) hval hb (items.size - 0) 0 _ [] (by omega) (Nat.zero_le _)
          ⟨⟨_, Heap.get?_push_size _ rfl, rfl, rfl⟩, (hl1.push _)⟩ ?hS0 (fun j => by simp) (Nat.le_refl _) ?hR
        case hS0 => exact set0_is.keep fun o e => Heap.get?_push_of_some _ e
        case hR =>
          intro s' ks hm hS' hmm hll
          obtain ⟨h', g', d', tk', os'⟩ := s'
          have eg : g' = s.gens := hm.gens
          have ed : d' = s.drawn := hm.drawn
          have eo : os' = s.os := hm.os
          subst eg; subst ed; subst eo
          show wpAny _ _ _ _ _ _
          refine wpAny_pure ?_
          show wpAny _ _ (ret Value.none) _ _ _
          refine wpAny_pure ⟨rfl, h', tk', ks, rfl, hS', fun j => ?_, by omega, fun b o e => ?_⟩
          · rw [hmm j, ← hlen, List.mem_iff_getElem]
            constructor
            · rintro ⟨m, hm, e⟩
              exact ⟨m, hm, by rw [← e, List.getD_eq_getElem?_getD, List.getElem?_eq_getElem hm]; rfl⟩
            · rintro ⟨m, hm, e⟩
              exact ⟨m, hm, by rw [← e, List.getD_eq_getElem?_getD, List.getElem?_eq_getElem hm]; rfl⟩
          · have hb := Heap.lt_size e
            have hb1 : b ≠ s.heap.objs.size := Nat.ne_of_lt hb
            have hb2 : b ≠ (s.heap.push (set0 w)).objs.size := by
              rw [Heap.size_push]; exact Nat.ne_of_lt (Nat.lt_succ_of_lt hb)
            exact hm.heap b o (by simp only [List.mem_cons, List.mem_singleton, List.not_mem_nil, or_false, not_or]; exact ⟨hb1, hb2⟩) (Heap.get?_push_of_some _ (Heap.get?_push_of_some _ e))
      · cases r₂ with
        | error e => exact hr₂
        | ok fl₂ =>
          cases fl₂ with
          | ret r =>
            obtain ⟨rfl, h', tk, ks, rfl, hS', hm', hl', hk'⟩ := hr₂
            repeat (any_goals (first | assumption | wp_step))
            exact h _ _ _ hS' hm' hl' hk'
          | _ => exact hr₂.elim
    | _ => exact hr.elim
end
end L2
namespace L2
open PySem PySem.Spec PyProof.Rows
section
variable {prog : Program} {w : World} {A : Around} {E : Value → Shared → Prop} {s : Shared} {a : Addr} {ks : List Int} {k : Int} {tk : Tok}
theorem set_find {Q : Option Nat → Shared → Prop} (hS : SetIt w s.heap a ks) (h : ∀ r : Option Nat, r.isSome = decide (k ∈ ks) → (∀ i, r = some i → ks[i]? = some k) → Q r s) :
    wpAny (model prog w) A (setFind a (.int k tk) (hashInt k)) Q E s := by
  obtain ⟨o, es, ep, t, ho, hex, hd, hg, hk, nd, hl, ok, hf⟩ := hS
  have hsz := sz_map hk
  have hkey : (intKind prog w).is k (.int k tk) = true := intKind_is _ _ _ _
  unfold setFind setFindIn
  refine wpAny_bind (wpAny_setState_of ho hd hf ?_)
  dsimp only
  rw [byScan_of (knd := intKind prog w) rfl (by rw [hsz]; exact fit2000 hl) hg.elems]
  simp only [↓reduceIte]
  refine wpAny_bind (wpAny_rule ?_)
  refine wpAny_bind (wpAny_setScan_of (knd := intKind prog w) hkey ho hd hf hg.elems ?_)
  cases hr : List.findIdx? (fun e => (intKind prog w).is k e.2) es.toList with
  | none =>
    dsimp only
    have hmem : k ∉ ks := fun z => by
      rw [← hk] at z
      obtain ⟨e, he, rfl⟩ := List.mem_map.mp z
      have := List.findIdx?_eq_none_iff.mp hr e he
      rw [(hg.is he).mpr rfl] at this
      cases this
    exact wpAny_pure (h none (by rw [decide_eq_false hmem]; rfl) fun i e => by cases e)
  | some j =>
    dsimp only
    obtain ⟨hj, hpj, _⟩ := List.findIdx?_eq_some_iff_getElem.mp hr
    have e1 : keyOf es.toList[j] = k := ((hg.is (List.getElem_mem hj)).mp hpj).symm
    have hmem : k ∈ ks := by
      rw [← hk, ← e1]
      exact List.mem_map_of_mem (List.getElem_mem hj)
    refine wpAny_pure (h (some (0 + j)) (by rw [decide_eq_true hmem]; rfl) fun i e => ?_)
    have e' : j = i := by injection e with e; omega
    subst e'
    rw [← hk, List.getElem?_map, List.getElem?_eq_getElem hj, ← e1]
    rfl
theorem set_quiet {Q : Bool → Shared → Prop} {l : List Addr} (hl : ∀ b ∈ l, ∃ kb, SetIt w s.heap b kb) (h : Q true s) : wpAny (model prog w) A (setsQuiet l) Q E s := by
  unfold setsQuiet
  refine wpAny_bind ?_
  refine wpAny_forIn_list _ (fun rest r s' => r.1 = none ∧ s' = s ∧ ∀ b ∈ rest, ∃ kb, SetIt w s.heap b kb) _ ?_ ?_ _ _ ⟨rfl, rfl, hl⟩
  · rintro b rest r s' ⟨hr, rfl, hall⟩
    obtain ⟨kb, o, es, ep, t, ho, hex, hd, hg, hk, nd, hl, ok, hf⟩ := hall b List.mem_cons_self
    unfold setEntries
    refine wpAny_bind (wpAny_bind (wpAny_setState_of ho hd hf (wpAny_pure ?_)))
    refine wpAny_bind ?_
    refine wpAny_forIn_array' _ (fun rest' r' s'' => r'.1 = none ∧ s'' = s' ∧ EGood rest') _ ?_ ?_ _ _ ⟨rfl, rfl, hg⟩
    · rintro ⟨hh, x⟩ rest' r' s' ⟨hr', rfl, g⟩
      obtain ⟨_, t', e⟩ := g _ List.mem_cons_self
      have e' : x = .int (keyOf (hh, x)) t' := e
      rw [e']
      exact wpAny_pure ⟨rfl, rfl, fun y hy => g y (List.mem_cons_of_mem _ hy)⟩
    · rintro ⟨r1, r2⟩ s' ⟨hr', rfl, _⟩
      simp only at hr'
      subst hr'
      exact wpAny_pure ⟨rfl, rfl, fun c hc => hall c (List.mem_cons_of_mem _ hc)⟩
  · rintro ⟨r1, r2⟩ s' ⟨hr, rfl, _⟩
    simp only at hr
    subst hr
    exact wpAny_pure h
theorem set_walk {o : Obj} {es : Array (Int × Value)} {ep : Nat} {t : SetTable} {Q : Array (Int × Value) → Shared → Prop} (ho : s.heap.get? a = some o) (hd : o.data = .set es ep t) (ok : TabIt (byT w) t) (hf : t.fits es.size = true)
    (hc : (byT w || (t.led && t.plain) || decide (es.size ≤ 1)) = true) (h : ∀ es' : Array (Int × Value), es'.toList.Perm es.toList → Q es' s) : wpAny (model prog w) A (setWalk a) Q E s := by
  unfold setWalk setsByText
  refine wpAny_bind (wpAny_setState_of ho hd hf ?_)
  dsimp only
  refine wpAny_bind (wpAny_bind (wpAny_askSetting (wpAny_pure ?_)))
  show wpAny _ _ (if byT w = true then _ else _) _ _ _
  cases hb : byT w with
  | true =>
    rw [if_pos rfl]
    refine wpAny_bind (wpAny_askSetting ?_)
    exact wpAny_pure (h _ (pickOrder_perm _ _))
  | false =>
    rw [if_neg Bool.false_ne_true]
    have hn : (!t.plain && decide (es.size > 1)) = false := by
      rw [hb, Bool.false_or] at hc
      cases hp : t.plain with
      | true => rfl
      | false =>
        rw [hp, Bool.and_false, Bool.false_or] at hc
        have := of_decide_eq_true hc
        simp
        omega
    show wpAny _ _ (if (!t.plain && decide (es.size > 1)) = true then _ else _) _ _ _
    rw [hn, if_neg Bool.false_ne_true]
    refine wpAny_bind ?_
    show wpAny _ _ (if (!t.led && decide (es.size > 1)) = true then _ else _) _ _ _
    rw [ok.led, hb, if_neg (by simp)]
    exact wpAny_pure (wpAny_pure (h es (List.Perm.refl _)))
/-- a walk that nobody sees, with the set that is filled by it -/
theorem walk_into {f : Addr} {others : List Addr} {kf : List Int} {Q : Array (Int × Value) → Shared → Prop} (hS : SetIt w s.heap a ks) (hF : SetIs w s.heap f kf) (hO : ∀ b ∈ others, ∃ kb, SetIt w s.heap b kb)
    (h : ∀ (es' : Array (Int × Value)) (h' : Heap), EGood es'.toList → (es'.toList.map keyOf).Perm ks → Heap.SameBut f s.heap h' → SetIs w h' f kf → Q es' { s with heap := h' }) : wpAny (model prog w) A (setWalkUnseen a others (some f)) Q E s := by
  obtain ⟨o, es, ep, t, ho, hex, hd, hg, hk, nd, hl, ok, hf⟩ := id hS
  have stay : ∀ es' : Array (Int × Value), es'.toList.Perm es.toList → Q es' s := fun es' hp => by
    have := h es' s.heap (fun e he => hg e (hp.mem_iff.mp he)) (by rw [← hk]; exact hp.map keyOf) (Heap.SameBut.refl _ _) hF
    have e : s = { s with heap := s.heap } := by cases s; rfl
    rw [e]; exact this
  unfold setWalkUnseen setsByText
  refine wpAny_bind (wpAny_setState_of ho hd hf ?_)
  dsimp only
  refine wpAny_bind (wpAny_bind (wpAny_askSetting (wpAny_pure ?_)))
  show wpAny _ _ (if (byT w || (t.led && t.plain) || decide (es.size ≤ 1)) = true then _ else _) _ _ _
  split
  · rename_i hc
    exact set_walk ho hd ok hf hc stay
  · rename_i hc
    have hb : byT w = false := by
      cases q : byT w with
      | true => rw [q] at hc; exact absurd rfl hc
      | false => rfl
    refine wpAny_bind (set_quiet (fun b hb => ?_) ?_)
    · rcases List.mem_cons.mp hb with e | e
      · subst e; exact ⟨_, hS⟩
      · exact hO b e
    simp only [Bool.not_true, Bool.false_eq_true, if_false]
    refine wpAny_bind (wpAny_rule ?_)
    obtain ⟨of, ef, epf, tf, hof, hexf, hdf, hgf, hkf, ndf, hlf, okf, hff⟩ := id hF
    refine wpAny_bind (wpAny_setState_of hof hdf hff ?_)
    dsimp only
    split
    · refine wpAny_bind (wpAny_storeSet_of hof hdf ?_ ?_)
      rotate_left
      exact (fits_of_scanBound (by rw [sz_map hkf]; exact fit2000 hlf))
      have := (set_stored (w := w) (t' := { tf with led := tf.led && t.led, plain := tf.plain && t.plain }) hof hexf hdf hgf (by rw [hkf]; exact ndf) (by rw [sz_map hkf]; exact hlf) ⟨okf.dum, by show (tf.led && t.led) = _; rw [okf.led, ok.led, Bool.and_self], okf.up⟩ hff).2
      rw [hkf] at this
      exact wpAny_pure (h es _ hg (by rw [hk]) (Heap.SameBut.update _ _ _) this)
    · exact wpAny_pure ((stay es (List.Perm.refl _)))
/-- a walk that nobody sees, with none filled -/
theorem walk_none {others : List Addr} {Q : Array (Int × Value) → Shared → Prop} (hS : SetIt w s.heap a ks) (hO : ∀ b ∈ others, ∃ kb, SetIt w s.heap b kb)
    (h : ∀ (es' : Array (Int × Value)), EGood es'.toList → (es'.toList.map keyOf).Perm ks → Q es' s) : wpAny (model prog w) A (setWalkUnseen a others none) Q E s := by
  obtain ⟨o, es, ep, t, ho, hex, hd, hg, hk, nd, hl, ok, hf⟩ := id hS
  have stay : ∀ es' : Array (Int × Value), es'.toList.Perm es.toList → Q es' s := fun es' hp =>
    h es' (fun e he => hg e (hp.mem_iff.mp he)) (by rw [← hk]; exact hp.map keyOf)
  unfold setWalkUnseen setsByText
  refine wpAny_bind (wpAny_setState_of ho hd hf ?_)
  dsimp only
  refine wpAny_bind (wpAny_bind (wpAny_askSetting (wpAny_pure ?_)))
  show wpAny _ _ (if (byT w || (t.led && t.plain) || decide (es.size ≤ 1)) = true then _ else _) _ _ _
  split
  · rename_i hc
    exact set_walk ho hd ok hf hc stay
  · refine wpAny_bind (set_quiet (fun b hb => ?_) ?_)
    · rcases List.mem_cons.mp hb with e | e
      · subst e; exact ⟨_, hS⟩
      · exact hO b e
    simp only [Bool.not_true, Bool.false_eq_true, if_false]
    refine wpAny_bind (wpAny_rule ?_)
    exact wpAny_pure (stay es (List.Perm.refl _))
end
end L2
namespace L2
open PySem PySem.Spec PyProof.Rows
namespace F
theorem entry_set_and : entryFor table "set.__and__" = some Builtin.«frozenset.__and__» := entryFor_alias (id' := "frozenset.__and__") (by kernel_rfl) rfl (by decide +kernel) (by kernel_rfl)
theorem entry_set_sub : entryFor table "set.__sub__" = some Builtin.«frozenset.__sub__» := entryFor_alias (id' := "frozenset.__sub__") (by kernel_rfl) rfl (by decide +kernel) (by kernel_rfl)
end F
section
variable {prog : Program} {w : World} {A : Around} {E : Value → Shared → Prop} {s : Shared} {a b r : Addr} {ka kb : List Int} {k : Int} {tk : Tok}
theorem size_of {Q : Nat → Shared → Prop} (hS : SetIt w s.heap a ka) (h : Q ka.length s) : wpAny (model prog w) A (Builtin.Frozenset.sizeOf a) Q E s := by
  obtain ⟨o, es, ep, t, ho, hex, hd, hg, hk, nd, hl, ok, hf⟩ := hS
  unfold Builtin.Frozenset.sizeOf setEntries
  refine wpAny_bind (wpAny_bind (wpAny_setState_of ho hd hf (wpAny_pure ?_)))
  rw [sz_map hk]
  exact wpAny_pure h
theorem any_set {Q : Bool → Shared → Prop} (hS : SetIt w s.heap a ka) (h : Q true s) : wpAny (model prog w) A (Builtin.Frozenset.isAnySet (.ref a)) Q E s := by
  unfold Builtin.Frozenset.isAnySet
  show wpAny _ _ (isInstance (.ref a) (.type "set") >>= _) _ _ _
  refine wpAny_bind (wpAny_isInstance hS.typeIs sub_set_self ?_)
  exact wpAny_pure h
theorem base_of {Q : Value → Shared → Prop} (hS : SetIt w s.heap a ka) (h : Q (.type "set") s) : wpAny (model prog w) A (Builtin.Frozenset.baseOf a) Q E s := by
  unfold Builtin.Frozenset.baseOf
  refine wpAny_bind (wpAny_isInstance hS.typeIs sub_set_self ?_)
  exact wpAny_pure h
theorem new_set {Q : Value → Shared → Prop} (h : Q (.ref s.heap.objs.size) { s with heap := s.heap.push (set0 w) }) : wpAny (model prog w) A (newSet (.type "set")) Q E s := by
  unfold newSet setsByText
  refine wpAny_bind (wpAny_bind (wpAny_askSetting (wpAny_pure ?_)))
  simp only [newObj]
  refine wpAny_bind (wpAny_alloc (wpAny_pure ?_))
  exact h
theorem epoch_is {Q : Nat → Shared → Prop} {o : Obj} {es : Array (Int × Value)} {ep : Nat} {t : SetTable} (ho : s.heap.get? a = some o) (hd : o.data = .set es ep t) (hf : t.fits es.size = true) (h : Q ep s) : wpAny (model prog w) A (setEpoch a) Q E s := by
  unfold setEpoch
  exact wpAny_bind (wpAny_setState_of ho hd hf (wpAny_pure h))
theorem unchanged_is {id : String} {Q : Unit → Shared → Prop} {o : Obj} {es : Array (Int × Value)} {ep : Nat} {t : SetTable} (ho : s.heap.get? a = some o) (hd : o.data = .set es ep t) (hf : t.fits es.size = true) (h : Q () s) : wpAny (model prog w) A (Builtin.Frozenset.unchanged id a ep) Q E s := by
  unfold Builtin.Frozenset.unchanged
  refine wpAny_bind (epoch_is ho hd hf ?_)
  rw [if_neg (by simp)]
  exact wpAny_pure h
/-- a set is filled from a walk, by what a test lets through -/
theorem fill_loop {body : (Int × Value) → PUnit → Sem (ForInStep PUnit)} {p : Int → Bool} {R : PUnit → Shared → Prop} {es : Array (Int × Value)} {kr : List Int}
    (hbody : ∀ (k : Int) (tk : Tok) (h1 : Heap) (k1 : List Int) (Q' : ForInStep PUnit → Shared → Prop), Heap.SameBut r s.heap h1 → SetIs w h1 r k1 → k1.length + 1 < 2000 →
      (∀ h' k2, Heap.SameBut r h1 h' → SetIs w h' r k2 → (∀ j, j ∈ k2 ↔ j ∈ k1 ∨ (p k = true ∧ j = k)) → k2.length ≤ k1.length + 1 → Q' (.yield ⟨⟩) { s with heap := h' }) →
      wpAny (model prog w) A (body (hashInt k, .int k tk) ⟨⟩) Q' E { s with heap := h1 })
    (hg : EGood es.toList) (hR : SetIs w s.heap r kr) (hn : kr.length + es.size < 1999)
    (h : ∀ h' k2, Heap.SameBut r s.heap h' → SetIs w h' r k2 → (∀ j, j ∈ k2 ↔ j ∈ kr ∨ (p j = true ∧ j ∈ es.toList.map keyOf)) → k2.length ≤ kr.length + es.size → R ⟨⟩ { s with heap := h' }) :
    wpAny (model prog w) A (forIn es PUnit.unit body) R E s := by
  refine wpAny_forIn_array' _ (fun rest _ s' => ∃ h1 k1, s' = { s with heap := h1 } ∧ Heap.SameBut r s.heap h1 ∧ SetIs w h1 r k1 ∧ EGood rest ∧ k1.length + rest.length ≤ kr.length + es.size ∧
    (∀ j, (j ∈ k1 ∨ (p j = true ∧ j ∈ rest.map keyOf)) ↔ j ∈ kr ∨ (p j = true ∧ j ∈ es.toList.map keyOf))) _ ?_ ?_ _ _ ⟨s.heap, kr, by cases s; rfl, Heap.SameBut.refl _ _, hR, hg, by rw [Array.length_toList]; exact Nat.le_refl _, fun j => Iff.rfl⟩
  · rintro ⟨hh, x⟩ rest u s' ⟨h1, k1, rfl, sb, hS, g, hl, hm⟩
    obtain ⟨e1, t', e2⟩ := g _ List.mem_cons_self
    generalize hk : keyOf (hh, x) = k at e1 e2
    dsimp only at e1 e2
    subst e1; subst e2
    rw [List.length_cons] at hl
    refine hbody k t' h1 k1 _ sb hS (by omega) fun h' k2 sb2 hS2 hm2 hl2 => ?_
    refine ⟨h', k2, rfl, sb.trans sb2, hS2, fun y hy => g y (List.mem_cons_of_mem _ hy), by omega, fun j => ?_⟩
    rw [← hm j, hm2 j, List.map_cons, List.mem_cons]
    constructor
    · rintro ((z | ⟨z1, z2⟩) | ⟨z1, z2⟩)
      · exact .inl z
      · exact .inr ⟨by rw [z2]; exact z1, .inl (by rw [hk]; exact z2)⟩
      · exact .inr ⟨z1, .inr z2⟩
    · rintro (z | ⟨z1, z2 | z2⟩)
      · exact .inl (.inl z)
      · exact .inl (.inr ⟨by rw [← hk, ← z2]; exact z1, by rw [← hk]; exact z2⟩)
      · exact .inr ⟨z1, z2⟩
  · rintro u s' ⟨h1, k1, rfl, sb, hS, g, hl, hm⟩
    refine h h1 k1 sb hS (fun j => ?_) (by simpa using hl)
    rw [← hm j]
    simp
theorem ne_push {h : Heap} {o : Obj} (e : h.get? a = some o) : a ≠ h.objs.size := Nat.ne_of_lt (Heap.lt_size e)
/-- s & t of two sets of ints -/
theorem set_and {Q : Value → Shared → Prop} (ha : SetIt w s.heap a ka) (hb : SetIt w s.heap b kb) (hab : a ≠ b) (hl : ka.length + kb.length < 1990)
    (h : ∀ h' k2, SetIs w h' s.heap.objs.size k2 → (∀ j, j ∈ k2 ↔ j ∈ ka ∧ j ∈ kb) → k2.length ≤ ka.length + kb.length → (∀ c o, s.heap.get? c = some o → h'.get? c = some o) → Q (.ref s.heap.objs.size) { s with heap := h' }) :
    wpAny (model prog w) A (binaryOp .BitAnd (.ref a) (.ref b)) Q E s := by
  refine wpAny_binaryOp_same ha.typeIs hb.typeIs PySem.F.fills_set_and PySem.F.slot_set_and ?_
  refine wpAny_call_entry PySem.F.slot_set_and ha.typeIs F.entry_set_and ?_ (PySem.F.args_set_and_2 _ _)
  show wpAny _ _ (do
    let (self, other) ← Builtin.Frozenset.slot1 "__and__" ⟨[.ref a, .ref b], []⟩
    let (l, r) := if false = true then (other, self) else (self, other)
    if !(← Builtin.Frozenset.isAnySet l <&&> Builtin.Frozenset.isAnySet r) then rule s!"frozenset.{"__and__"}.declined"; return ← ret .notImplemented
    ret (← Builtin.Frozenset.intersection s!"frozenset.{"__and__"}" (← Builtin.Frozenset.addrOf l) r)) _ _ _
  generalize s!"frozenset.{"__and__"}" = id0
  generalize s!"frozenset.{"__and__"}.declined" = id1
  show wpAny _ _ ((Builtin.Frozenset.isAnySet (.ref a) <&&> Builtin.Frozenset.isAnySet (.ref b)) >>= _) _ _ _
  refine wpAny_bind ?_
  show wpAny _ _ (Builtin.Frozenset.isAnySet (.ref a) >>= _) _ _ _
  refine wpAny_bind (any_set ha ?_)
  show wpAny _ _ (Builtin.Frozenset.isAnySet (.ref b)) _ _ _
  refine any_set hb ?_
  simp only [Bool.not_true, Bool.false_eq_true, if_false]
  show wpAny _ _ (Builtin.Frozenset.intersection id0 a (.ref b) >>= _) _ _ _
  refine wpAny_bind ?_
  unfold Builtin.Frozenset.intersection
  rw [if_neg (by intro z; have := beq_iff_eq.mp z; injection this with this; exact hab this.symm)]
  refine wpAny_bind (base_of ha (wpAny_bind (new_set ?_)))
  show wpAny _ _ (holding _ _ >>= _) _ _ _
  refine wpAny_bind (wpAny_holding ?_)
  have kk : ∀ c o, s.heap.get? c = some o → (s.heap.push (set0 w)).get? c = some o := fun c o e => Heap.get?_push_of_some _ e
  have ha1 := ha.keep (h' := s.heap.push (set0 w)) fun o e => kk _ _ e
  have hb1 := hb.keep (h' := s.heap.push (set0 w)) fun o e => kk _ _ e
  have hr1 : SetIs w (s.heap.push (set0 w)) s.heap.objs.size [] := set0_is
  have na : a ≠ s.heap.objs.size := let ⟨o, _, _, _, ho, _⟩ := ha; ne_push ho
  have nb : b ≠ s.heap.objs.size := let ⟨o, _, _, _, ho, _⟩ := hb; ne_push ho
  generalize er : s.heap.objs.size = r at *
  refine wpAny_bind (any_set hb1 ?_)
  simp only [if_true]
  show wpAny _ _ (Builtin.Frozenset.sizeOf b >>= _) _ _ _
  refine wpAny_bind (size_of hb1 ?_)
  refine wpAny_bind (size_of ha1 ?_)
  have hp : ∃ pa pw kpa kpw, (if kb.length > ka.length then (b, a) else (a, b)) = (pa, pw) ∧ SetIt w (s.heap.push (set0 w)) pa kpa ∧ SetIt w (s.heap.push (set0 w)) pw kpw ∧ pa ≠ r ∧ pw ≠ r ∧ (∀ j, j ∈ kpa ∧ j ∈ kpw ↔ j ∈ ka ∧ j ∈ kb) ∧ kpw.length ≤ ka.length + kb.length := by
    by_cases z : kb.length > ka.length
    · exact ⟨b, a, kb, ka, if_pos z, hb1, ha1, nb, na, fun j => and_comm, Nat.le_add_right _ _⟩
    · exact ⟨a, b, ka, kb, if_neg z, ha1, hb1, na, nb, fun j => Iff.rfl, Nat.le_add_left _ _⟩
  obtain ⟨pa, pw, kpa, kpw, e, hpa, hpw, npa, npw, hj, hlw⟩ := hp
  rw [e]
  dsimp only
  obtain ⟨o, es, ep, t, ho, hex, hd, hg, hk, nd, hlk, ok, hf⟩ := id hpw
  refine wpAny_bind (epoch_is ho hd hf ?_)
  refine wpAny_bind (walk_into hpw hr1 (fun c hc => ?_) fun es' h' hg' hp' sb hr' => ?_)
  · simp only [List.mem_cons, List.not_mem_nil, or_false] at hc
    rcases hc with rfl | rfl
    · exact ⟨_, hpa⟩
    · exact ⟨_, hr1.it⟩
  have hsz : es'.size = kpw.length := by rw [← hp'.length_eq, List.length_map, Array.length_toList]
  refine wpAny_bind (wpAny_mono (fill_loop (r := r) (p := fun j => decide (j ∈ kpa)) (R := fun _ s' => ∃ h' k2, s' = { s with heap := h' } ∧ Heap.SameBut r (s.heap.push (set0 w)) h' ∧ SetIs w h' r k2 ∧ (∀ j, j ∈ k2 ↔ j ∈ ka ∧ j ∈ kb) ∧ k2.length ≤ ka.length + kb.length) ?_ hg' hr' (by rw [hsz]; simp; omega) fun h2 k2 sb2 hS2 hm2 hl2 => ⟨h2, k2, rfl, sb.trans sb2, hS2, fun j => ?_, by rw [hsz] at hl2; simp at hl2; omega⟩) ?_ fun _ _ h' => h')
  · intro k tk h1 k1 Q' sb1 hS1 hl1 hQ
    have hpa1 : SetIt w h1 pa kpa := hpa.keep fun o e => by rw [sb1.2 _ npa, sb.2 _ npa]; exact e
    refine wpAny_bind ?_
    refine wpAny_holding ?_
    refine wpAny_bind (set_find (s := { s with heap := h1 }) hpa1 fun rr hrr _ => ?_)
    have fin : ∀ h' k2, Heap.SameBut r h1 h' → SetIs w h' r k2 → (∀ j, j ∈ k2 ↔ j ∈ k1 ∨ (decide (k ∈ kpa) = true ∧ j = k)) → k2.length ≤ k1.length + 1 → wpAny (model prog w) A.in1 (Builtin.Frozenset.unchanged id0 pw ep >>= fun _ => pure (ForInStep.yield PUnit.unit)) Q' E { s with heap := h' } := fun h' k2 sb' hS' hm' hl' => by
      have ho' : h'.get? pw = some o := by rw [sb'.2 _ npw, sb1.2 _ npw, sb.2 _ npw]; exact ho
      exact wpAny_bind (unchanged_is (s := { s with heap := h' }) ho' hd hf (wpAny_pure (hQ h' k2 sb' hS' hm' hl')))
    by_cases hmem : k ∈ kpa
    · rw [hrr, decide_eq_true hmem, if_pos rfl]
      refine wpAny_bind (set_add (s := { s with heap := h1 }) hS1 hl1 fun h' k2 sb' hS' hm' hl' => wpAny_pure ?_)
      exact fin h' k2 sb' hS' (fun j => by rw [hm' j, decide_eq_true hmem]; simp) hl'
    · rw [hrr, decide_eq_false hmem, if_neg Bool.false_ne_true]
      refine wpAny_pure ?_
      exact fin h1 k1 (Heap.SameBut.refl _ _) hS1 (fun j => by rw [decide_eq_false hmem]; simp) (Nat.le_succ _)
  · rw [hm2 j]
    rw [hp'.mem_iff, decide_eq_true_eq, ← hj j]
    simp
  · rintro u s' ⟨h', k2, rfl, sb', hS', hm', hl'⟩
    refine wpAny_pure ?_
    refine wpAny_pure ?_
    refine wpAny_pure ⟨_, rfl, by simp, ?_⟩
    exact h h' k2 hS' hm' hl' fun c o e => by
      have : c ≠ r := by rw [← er]; exact ne_push e
      rw [sb'.2 _ this]; exact kk c o e
end
end L2
namespace L2
open PySem PySem.Spec PyProof.Rows
theorem fm_congr {f g : Nat → Option Nat} : ∀ l : List Nat, (∀ x ∈ l, g x = f x) → l.filterMap g = l.filterMap f
  | [], _ => rfl
  | x :: l, h => by
    have ih := fm_congr l fun y hy => h y (List.mem_cons_of_mem _ hy)
    have e := h x List.mem_cons_self
    cases q : f x with
    | none => rw [List.filterMap_cons_none (e.trans q), List.filterMap_cons_none q, ih]
    | some v => rw [List.filterMap_cons_some (e.trans q), List.filterMap_cons_some q, ih]
theorem fm_put {f g : Nat → Option Nat} {j k : Nat} (hf : f j = none) (hg : g j = some k) (hne : ∀ x, x ≠ j → g x = f x) : ∀ l : List Nat, l.Nodup → j ∈ l → (l.filterMap g).Perm (k :: l.filterMap f)
  | [], _, h => by cases h
  | x :: l, nd, h => by
    have nd' := List.nodup_cons.mp nd
    by_cases e : x = j
    · subst e
      have : l.filterMap g = l.filterMap f := fm_congr l fun y hy => hne y fun z => nd'.1 (z ▸ hy)
      rw [List.filterMap_cons_some hg, List.filterMap_cons_none hf, this]
    · have hj : j ∈ l := by
        rcases List.mem_cons.mp h with z | z
        · exact absurd z.symm e
        · exact z
      have ih := fm_put hf hg hne l nd'.2 hj
      have ex := hne x e
      cases q : f x with
      | none => rw [List.filterMap_cons_none (ex.trans q), List.filterMap_cons_none q]; exact ih
      | some v => rw [List.filterMap_cons_some (ex.trans q), List.filterMap_cons_some q]; exact (ih.cons v).trans (List.Perm.swap _ _ _)
theorem fm_all {f : Nat → Option Nat} : ∀ l : List Nat, (∀ x ∈ l, f x ≠ none) → (l.filterMap f).length = l.length
  | [], _ => rfl
  | x :: l, h => by
    cases q : f x with
    | none => exact absurd q (h x List.mem_cons_self)
    | some v => rw [List.filterMap_cons_some q, List.length_cons, List.length_cons, fm_all l fun y hy => h y (List.mem_cons_of_mem _ hy)]
abbrev snds (n : Nat) (owner : Array (Option Nat)) : List Nat := (List.range n).filterMap fun j => owner.getD j none
def orb (mask : Nat) : Nat → Nat × Nat → Nat × Nat
  | 0, x => x
  | t + 1, x => orb mask t (SetTable.leap mask x.1 x.2)
theorem free_none {mask : Nat} {owner : Array (Option Nat)} {j : Nat} : ∀ (fuel i p : Nat), SetTable.layClean.free mask owner fuel i p = some j → owner.getD j (some 0) = none
  | 0, _, _, h => by cases h
  | fuel + 1, i, p, h => by
    unfold SetTable.layClean.free at h
    split at h
    · rename_i k e
      injection h with h
      subst h
      exact Option.isNone_iff_eq_none.mp (List.find?_some (p := fun k => (owner.getD (i + k) (some 0)).isNone) e)
    · exact free_none fuel _ _ h
theorem free_some {mask : Nat} {owner : Array (Option Nat)} : ∀ (fuel i p t : Nat), t < fuel → owner.getD (orb mask t (i, p)).1 (some 0) = none → ∃ j, SetTable.layClean.free mask owner fuel i p = some j
  | 0, _, _, t, h, _ => absurd h (Nat.not_lt_zero _)
  | fuel + 1, i, p, t, h, e => by
    unfold SetTable.layClean.free
    split
    · exact ⟨_, rfl⟩
    · rename_i q
      cases t with
      | zero =>
        have := List.find?_eq_none.mp q 0 (List.mem_range.mpr (by unfold SetTable.runEnd; split <;> omega))
        rw [Nat.add_zero] at this
        have e' : owner.getD i (some 0) = none := e
        rw [e'] at this
        exact absurd rfl this
      | succ t => exact free_some fuel _ _ t (Nat.lt_of_succ_lt_succ h) e
def visit (mask : Nat) : Nat → Nat → Nat → Nat
  | 0, _, acc => acc
  | n + 1, i, acc => visit mask n ((i * 5 + 1) % (mask + 1)) (acc ||| 1 <<< i)
theorem visit_is {mask j : Nat} : ∀ (n i acc : Nat), (visit mask n i acc).testBit j = true → acc.testBit j = true ∨ ∃ t, t < n ∧ (orb mask t (i, 0)).1 = j
  | 0, _, _, h => .inl h
  | n + 1, i, acc, h => by
    rcases visit_is n _ _ h with z | ⟨t, h1, h2⟩
    · rw [Nat.testBit_or, Bool.or_eq_true] at z
      rcases z with z | z
      · exact .inl z
      · rw [Nat.shiftLeft_eq, Nat.one_mul, Nat.testBit_two_pow] at z
        exact .inr ⟨0, Nat.succ_pos _, of_decide_eq_true z⟩
    · refine .inr ⟨t + 1, Nat.succ_lt_succ h1, ?_⟩
      show (orb mask t (SetTable.leap mask i 0)).1 = j
      unfold SetTable.leap
      rw [Nat.zero_div, Nat.add_zero]
      exact h2
def Cov (mask : Nat) : Prop := ∀ i j, i ≤ mask → j ≤ mask → ∃ t, t < mask + 1 ∧ (orb mask t (i, 0)).1 = j
theorem cov_of {mask : Nat} (h : (List.range (mask + 1)).all (fun i => visit mask (mask + 1) i 0 == 2 ^ (mask + 1) - 1) = true) : Cov mask := fun i j hi hj => by
  have := List.all_eq_true.mp h i (List.mem_range.mpr (Nat.lt_succ_of_le hi))
  have e := beq_iff_eq.mp this
  have : (visit mask (mask + 1) i 0).testBit j = true := by
    rw [e, Nat.testBit_two_pow_sub_one]
    exact decide_eq_true (Nat.lt_succ_of_le hj)
  rcases visit_is _ _ _ this with z | z
  · rw [Nat.zero_testBit] at z; cases z
  · exact z
theorem cov7 : Cov 7 := cov_of (by decide +kernel)
theorem cov15 : Cov 15 := cov_of (by decide +kernel)
theorem cov31 : Cov 31 := cov_of (by decide +kernel)
theorem cov63 : Cov 63 := cov_of (by decide +kernel)
theorem cov127 : Cov 127 := cov_of (by decide +kernel)
theorem getD_none {owner : Array (Option Nat)} {j : Nat} : owner.getD j (some 0) = none → j < owner.size ∧ owner.getD j none = none := fun h => by
  by_cases z : j < owner.size
  · refine ⟨z, ?_⟩
    simp [Array.getD, z] at h ⊢
    exact h
  · simp [Array.getD, z] at h
theorem lay_go {mask : Nat} (cov : Cov mask) : ∀ (hs : List Int) (owner : Array (Option Nat)) (k : Nat), owner.size = mask + 1 → (snds (mask + 1) owner).Perm (List.range k) → k + hs.length ≤ mask + 1 → (∀ h ∈ hs, SetTable.bits h < 32) →
    ∃ owner' : Array (Option Nat), hs.foldl (fun (acc : Option (Array (Option Nat) × Nat)) h => (do
      let (owner, k) ← acc
      let j ← SetTable.layClean.free mask owner (SetTable.turns mask) (SetTable.bits h % (mask + 1)) (SetTable.bits h)
      pure (owner.setIfInBounds j (some k), k + 1))) (some (owner, k)) = some (owner', k + hs.length) ∧ owner'.size = mask + 1 ∧ (snds (mask + 1) owner').Perm (List.range (k + hs.length))
  | [], owner, k, hz, hp, _, _ => ⟨owner, rfl, hz, hp⟩
  | h :: hs, owner, k, hz, hp, hl, hb => by
    rw [List.length_cons] at hl
    have hex : ∃ j, j ≤ mask ∧ owner.getD j none = none := Classical.byContradiction fun z => by
      have := fm_all (f := fun j => owner.getD j none) (List.range (mask + 1)) fun x hx e => z ⟨x, Nat.le_of_lt_succ (List.mem_range.mp hx), e⟩
      have e2 := hp.length_eq
      rw [List.length_range] at this e2
      change (snds (mask + 1) owner).length = _ at this
      omega
    obtain ⟨j0, hj0, e0⟩ := hex
    have e0' : owner.getD j0 (some 0) = none := by
      have : j0 < owner.size := by omega
      simp [Array.getD, this] at e0 ⊢
      exact e0
    have hb0 := hb h List.mem_cons_self
    have hd : SetTable.bits h / 32 = 0 := Nat.div_eq_of_lt hb0
    obtain ⟨t, ht, et⟩ := cov ((SetTable.bits h % (mask + 1) * 5 + 1) % (mask + 1)) j0 (Nat.le_of_lt_succ (Nat.mod_lt _ (Nat.succ_pos _))) hj0
    obtain ⟨j, ej⟩ := free_some (mask := mask) (owner := owner) (SetTable.turns mask) (SetTable.bits h % (mask + 1)) (SetTable.bits h) (t + 1) (by unfold SetTable.turns; omega) (by
      show owner.getD (orb mask t (SetTable.leap mask _ _)).1 (some 0) = none
      unfold SetTable.leap
      rw [hd, Nat.add_zero, et]
      exact e0')
    obtain ⟨jl, jn⟩ := getD_none (free_none _ _ _ ej)
    have hp' : (snds (mask + 1) (owner.setIfInBounds j (some k))).Perm (List.range (k + 1)) := by
      refine (fm_put (f := fun j => owner.getD j none) (g := fun x => (owner.setIfInBounds j (some k)).getD x none) (j := j) (k := k) jn ?_ (fun x hx => ?_) _ List.nodup_range (List.mem_range.mpr (by omega))).trans ?_
      · simp [Array.getD, jl]
      · simp only [Array.getD_eq_getD_getElem?]
        rw [Array.getElem?_setIfInBounds_ne (Ne.symm hx)]
      · refine (hp.cons k).trans ?_
        rw [List.range_succ (n := k)]
        exact List.perm_append_comm (l₁ := [k])
    obtain ⟨o', h1, h2, h3⟩ := lay_go cov hs (owner.setIfInBounds j (some k)) (k + 1) (by rw [Array.size_setIfInBounds]; exact hz) hp' (by omega) fun y hy => hb y (List.mem_cons_of_mem _ hy)
    have ek : k + 1 + hs.length = k + (hs.length + 1) := by omega
    refine ⟨o', ?_, h2, ?_⟩
    · rw [List.foldl_cons]
      show List.foldl _ (SetTable.layClean.free mask owner (SetTable.turns mask) (SetTable.bits h % (mask + 1)) (SetTable.bits h) >>= _) hs = _
      rw [ej, List.length_cons, ← ek]
      exact h1
    · rw [List.length_cons, ← ek]; exact h3
theorem laid_is {mask : Nat} (cov : Cov mask) (finger moves : Nat) (led plain : Bool) (hs : Array Int) (hl : hs.size ≤ mask) (hb : ∀ h ∈ hs.toList, SetTable.bits h < 32) :
    ∃ t order, SetTable.laid mask finger moves led plain hs = some (t, order) ∧ order.toList.Perm (List.range hs.size) ∧ t.dummies = #[] ∧ t.led = led ∧ Up t.place ∧ t.place.size = hs.size ∧ t.mask = mask := by
  have hr : (snds (mask + 1) (Array.replicate (mask + 1) none)).Perm (List.range 0) := by
    have : snds (mask + 1) (Array.replicate (mask + 1) none) = [] := by
      refine List.filterMap_eq_nil_iff.mpr fun x hx => ?_
      simp [Array.getD]
    rw [this]
    exact List.Perm.refl _
  obtain ⟨owner, h1, h2, h3⟩ := lay_go cov hs.toList _ 0 Array.size_replicate hr (by rw [Array.length_toList]; omega) hb
  rw [Nat.zero_add, Array.length_toList] at h1 h3
  have e : SetTable.layClean mask hs = some owner := by
    unfold SetTable.layClean
    rw [← Array.foldl_toList]
    exact congrArg (Option.map (·.1)) h1
  unfold SetTable.laid
  rw [e]
  refine ⟨_, _, rfl, ?_, rfl, rfl, ?_, ?_, rfl⟩
  · show (List.map (fun x : Nat × Nat => x.2) (List.filterMap (fun j => Option.map (fun x => (j, x)) (owner.getD j none)) (List.range (mask + 1)))).Perm _
    rw [List.map_filterMap]
    have : (fun j => Option.map (fun x : Nat × Nat => x.2) (Option.map (fun x => (j, x)) (owner.getD j none))) = fun j => owner.getD j none := by
      funext j
      cases owner.getD j none <;> rfl
    rw [this]
    exact h3
  · show (List.map (fun x : Nat × Nat => x.fst) (List.filterMap (fun j => Option.map (fun x => (j, x)) (owner.getD j none)) (List.range (mask + 1)))).toArray.toList.Pairwise (· < ·)
    rw [List.toList_toArray]
    rw [List.map_filterMap]
    refine List.Pairwise.filterMap _ (R := (· < ·)) ?_ List.pairwise_lt_range
    intro a a' hlt b hb b' hb'
    have f : ∀ {a b : Nat}, Option.map (fun x : Nat × Nat => x.1) (Option.map (fun x => (a, x)) (owner.getD a none)) = some b → b = a := fun {a b} e => by
      cases q : owner.getD a none with
      | none => rw [q] at e; cases e
      | some y => rw [q] at e; injection e with e; exact e.symm
    rw [f hb, f hb']
    exact hlt
  · show (List.map (fun x : Nat × Nat => x.fst) (List.filterMap (fun j => Option.map (fun x => (j, x)) (owner.getD j none)) (List.range (mask + 1)))).toArray.size = _
    have e3 := h3.length_eq
    rw [List.length_range] at e3
    rw [List.size_toArray, List.length_map, ← e3]
    have : ∀ l : List Nat, (List.filterMap (fun j => Option.map (fun x => (j, x)) (owner.getD j none)) l).length = (List.filterMap (fun j => owner.getD j none) l).length := fun l => by
      induction l with
      | nil => rfl
      | cons x l ih => cases q : owner.getD x none with
        | none => rw [List.filterMap_cons_none (by rw [q]; rfl), List.filterMap_cons_none (f := fun j => owner.getD j none) q]; exact ih
        | some v => rw [List.filterMap_cons_some (by rw [q]; rfl), List.filterMap_cons_some (f := fun j => owner.getD j none) q, List.length_cons, List.length_cons, ih]
    exact this _
end L2
namespace L2
open PySem PySem.Spec PyProof.Rows
theorem toList_eraseAt {α : Type} (xs : Array α) (p : Nat) : (SetTable.eraseAt xs p).toList = xs.toList.eraseIdx p := by
  simp [SetTable.eraseAt, List.extract_eq_take_drop, List.eraseIdx_eq_take_drop_succ, List.take_of_length_le]
/-- a set of which members are taken out: its mask, and a bound of its dummies -/
def SetDr (w : World) (h : Heap) (a : Addr) (ks : List Int) (m d : Nat) : Prop :=
  ∃ o es ep t, h.get? a = some o ∧ o.ExactSet ∧ o.data = .set es ep t ∧ EGood es.toList ∧ es.toList.map keyOf = ks ∧ ks.Nodup ∧ ks.length < 2000 ∧ TabIt (byT w) t ∧ t.fits es.size = true ∧ t.mask = m ∧ t.dummies.size ≤ d
theorem SetDr.it {w : World} {h : Heap} {a : Addr} {ks : List Int} {m d : Nat} (x : SetDr w h a ks m d) : SetIt w h a ks := by
  obtain ⟨o, es, ep, t, h1, h2, h3, h4, h5, h6, h7, h8, h9, _⟩ := x
  exact ⟨o, es, ep, t, h1, h2, h3, h4, h5, h6, h7, h8, h9⟩
theorem put_obj {h : Heap} {o : Obj} {a : Addr} {es es' : Array (Int × Value)} {ep : Nat} {t t' : SetTable} (ho : h.get? a = some o) (hd : o.data = .set es ep t) :
    (h.update a (Obj.putSet es' t')).get? a = some { o with data := .set es' (ep + 1) t' } := by
  have := Heap.get?_update_self (Obj.putSet es' t') ho (by rw [putSet_of es' t' hd]; rfl)
  rw [putSet_of es' t' hd] at this; exact this
theorem bits_small {k : Int} (h0 : 0 ≤ k) (h1 : k < 32) : SetTable.bits (hashInt k) < 32 := by
  obtain ⟨n, rfl⟩ := Int.eq_ofNat_of_zero_le h0
  have hn : n < 32 := by omega
  have : ∀ n : Fin 32, SetTable.bits (hashInt (n.val : Int)) < 32 := by decide +kernel
  exact this ⟨n, hn⟩
section
variable {prog : Program} {w : World} {A : Around} {E : Value → Shared → Prop} {s : Shared} {a b r : Addr} {ka kb ks : List Int} {k : Int} {tk : Tok}
theorem set_discard {Q : Bool → Shared → Prop} {m d : Nat} (hS : SetDr w s.heap a ks m d)
    (h : ∀ (bb : Bool) h' ks', Heap.SameBut a s.heap h' → SetDr w h' a ks' m (d + 1) → (∀ j, j ∈ ks' ↔ j ∈ ks ∧ j ≠ k) → ks'.length ≤ ks.length → Q bb { s with heap := h' }) :
    wpAny (model prog w) A (setDiscardHashed a (.int k tk) (hashInt k)) Q E s := by
  obtain ⟨o, es, ep, t, ho, hex, hd, hg, hk, nd, hl, ok, hf, em, ed⟩ := id hS
  unfold setDiscardHashed
  refine wpAny_bind (set_find hS.it fun rr hrr hat => ?_)
  cases rr with
  | none =>
    have hmem : k ∉ ks := by
      intro z
      rw [decide_eq_true z] at hrr
      cases hrr
    have e : s = { s with heap := s.heap } := by cases s; rfl
    have := h false s.heap ks (Heap.SameBut.refl _ _) ⟨o, es, ep, t, ho, hex, hd, hg, hk, nd, hl, ok, hf, em, Nat.le_succ_of_le ed⟩ (fun j => ⟨fun z => ⟨z, fun e => hmem (e ▸ z)⟩, fun z => z.1⟩) (Nat.le_refl _)
    rw [e]
    exact wpAny_pure this
  | some i =>
    have hki := hat i rfl
    obtain ⟨hi, eki⟩ := List.getElem?_eq_some_iff.mp hki
    have hsz := sz_map hk
    have hpl : t.place.size = es.size := by
      unfold SetTable.fits at hf
      exact beq_iff_eq.mp (Bool.and_eq_true_iff.mp hf).1
    have hfl : t.place.size + t.dummies.size ≤ t.mask := by
      unfold SetTable.fits at hf
      exact of_decide_eq_true (Bool.and_eq_true_iff.mp hf).2
    have hip : i < t.place.size := by omega
    have edrop : t.drop i = { t with place := SetTable.eraseAt t.place i, dummies := SetTable.insertAt t.dummies (SetTable.below t.dummies t.place[i]) t.place[i] } := by
      unfold SetTable.drop
      rw [Array.getElem?_eq_getElem hip]
    have hkeys : (SetTable.eraseAt es i).toList.map keyOf = ks.eraseIdx i := by
      rw [toList_eraseAt, ← hk, List.eraseIdx_eq_take_drop_succ, List.eraseIdx_eq_take_drop_succ, List.map_append, List.map_take, List.map_drop]
    have hpm := erase_perm ks i hi
    rw [eki] at hpm
    have nd' := hpm.nodup_iff.mpr nd
    have hlen : (ks.eraseIdx i).length + 1 = ks.length := by rw [← hpm.length_eq, List.length_cons]
    have hes : (SetTable.eraseAt es i).size = (ks.eraseIdx i).length := by rw [← hkeys, List.length_map, Array.length_toList]
    have hps : (SetTable.eraseAt t.place i).size + 1 = t.place.size := by
      rw [← Array.length_toList, toList_eraseAt, List.length_eraseIdx, Array.length_toList, if_pos hip]; omega
    have hds : (SetTable.insertAt t.dummies (SetTable.below t.dummies t.place[i]) t.place[i]).size = t.dummies.size + 1 := by
      rw [← Array.length_toList, (SetTable.insertAt_perm _ _ _).length_eq]
      simp
    dsimp only
    refine wpAny_bind (wpAny_setState_of ho hd hf ?_)
    dsimp only
    refine wpAny_bind (wpAny_storeSet_of ho hd ?_ (fits_of_scanBound (by rw [hes]; exact fit2000 (by omega))))
    refine wpAny_bind (wpAny_point (wpAny_pure ?_))
    refine h true _ (ks.eraseIdx i) (Heap.SameBut.update _ _ _) ⟨_, _, _, _, put_obj ho hd, hex, rfl, ?_, hkeys, (List.nodup_cons.mp nd').2, by omega, ?_, ?_, ?_, ?_⟩ (fun j => ?_) (by omega)
    · intro e he
      rw [toList_eraseAt] at he
      exact hg e (List.mem_of_mem_eraseIdx he)
    · rw [edrop]
      refine ⟨ok.led, ?_⟩
      show (SetTable.eraseAt t.place i).toList.Pairwise (· < ·)
      rw [toList_eraseAt]
      exact List.Pairwise.sublist (List.eraseIdx_sublist _ _) ok.up
    · rw [edrop]
      unfold SetTable.fits SetTable.fill
      show ((SetTable.eraseAt t.place i).size == _ && decide ((SetTable.eraseAt t.place i).size + (SetTable.insertAt t.dummies _ _).size ≤ t.mask)) = true
      rw [hds, Bool.and_eq_true_iff]
      exact ⟨beq_iff_eq.mpr (by omega), decide_eq_true (by omega)⟩
    · rw [edrop]; exact em
    · rw [edrop]
      show (SetTable.insertAt t.dummies _ _).size ≤ d + 1
      rw [hds]; omega
    · rw [← hpm.mem_iff, List.mem_cons]
      have hn := (List.nodup_cons.mp nd').1
      constructor
      · intro z; exact ⟨.inr z, fun e => hn (e ▸ z)⟩
      · rintro ⟨z | z, ne⟩
        · exact absurd z ne
        · exact z
theorem reorder {es : Array (Int × Value)} {t : SetTable} {order : Array Nat} (hp : order.toList.Perm (List.range es.size)) : (order.filterMap (es[·]?)).toList.Perm es.toList := by
  rw [Array.toList_filterMap]
  exact (hp.filterMap _).trans (by rw [filterMap_getElem?_range])
end
end L2
namespace L2
open PySem PySem.Spec PyProof.Rows
/-- what a copy's table is made of: the mask that it gets for n members -/
theorem mask_ok (n : Nat) (hn : n ≤ 32) : ∃ m, (∀ led : Bool, (SetTable.fresh 0 0 led).roomFor n = if m = 7 then none else some (2 * n)) ∧ (m ≠ 7 → SetTable.sizeAbove (2 * n) - 1 = m) ∧ n ≤ m ∧ Cov m ∧ SetTable.sizeAbove (2 * n) ≤ 128 := by
  have key : ∀ n : Fin 33, (decide (n.val ≤ 4) && decide (n.val * 5 < 21)) || (decide (4 < n.val) && decide (21 ≤ n.val * 5) && (SetTable.sizeAbove (2 * n.val) - 1 == 15 || SetTable.sizeAbove (2 * n.val) - 1 == 31 || SetTable.sizeAbove (2 * n.val) - 1 == 63 || SetTable.sizeAbove (2 * n.val) - 1 == 127) && decide (n.val ≤ SetTable.sizeAbove (2 * n.val) - 1)) = true := by decide +kernel
  have key2 : ∀ n : Fin 33, SetTable.sizeAbove (2 * n.val) ≤ 128 := by decide +kernel
  have hk := key ⟨n, by omega⟩
  have hk2 := key2 ⟨n, by omega⟩
  dsimp only at hk hk2
  have hfill : ∀ led : Bool, (SetTable.fresh 0 0 led).roomFor n = if (0 + n) * 5 ≥ 7 * 3 then some ((0 + n) * 2) else none := fun led => rfl
  by_cases h4 : n ≤ 4
  · refine ⟨7, fun led => ?_, fun h => absurd rfl h, by omega, cov7, hk2⟩
    rw [hfill, if_neg (by omega), if_pos rfl]
  · have hgt : ¬ decide (n ≤ 4) = true := by simpa using h4
    simp only [Bool.or_eq_true, Bool.and_eq_true, decide_eq_true_eq, beq_iff_eq] at hk
    rcases hk with ⟨z, _⟩ | ⟨⟨⟨_, h21⟩, hm⟩, hnm⟩
    · exact absurd z h4
    · have hf : ∀ m, m ≠ 7 → ∀ led : Bool, (SetTable.fresh 0 0 led).roomFor n = if m = 7 then none else some (2 * n) := fun m hm led => by
        rw [hfill, if_pos (by omega), if_neg hm, Nat.zero_add, Nat.mul_comm]
      rcases hm with ((e | e) | e) | e
      · exact ⟨15, hf 15 (by decide), fun _ => e, by omega, cov15, hk2⟩
      · exact ⟨31, hf 31 (by decide), fun _ => e, by omega, cov31, hk2⟩
      · exact ⟨63, hf 63 (by decide), fun _ => e, by omega, cov63, hk2⟩
      · exact ⟨127, hf 127 (by decide), fun _ => e, by omega, cov127, hk2⟩
section
variable {prog : Program} {w : World} {A : Around} {E : Value → Shared → Prop} {s : Shared} {a b r : Addr} {ka kb ks : List Int} {k : Int} {tk : Tok}
/-- room made in an empty set -/
theorem room_for {n m : Nat} {Q : Unit → Shared → Prop} (ho : s.heap.get? r = some (set0 w)) (hr : ∀ led : Bool, (SetTable.fresh 0 0 led).roomFor n = if m = 7 then none else some (2 * n)) (hm : m ≠ 7 → SetTable.sizeAbove (2 * n) - 1 = m) (cov : Cov m) (h128 : SetTable.sizeAbove (2 * n) ≤ 128)
    (h : ∀ h' o' ep t, Heap.SameBut r s.heap h' → h'.get? r = some o' → o'.ExactSet → o'.data = .set #[] ep t → t.fits 0 = true → t.mask = m → t.place.size = 0 → t.dummies = #[] → t.led = !byT w → Q () { s with heap := h' }) :
    wpAny (model prog w) A (setRoomFor r n) Q E s := by
  unfold setRoomFor
  refine wpAny_bind (wpAny_setState_of ho rfl rfl ?_)
  dsimp only
  rw [hr]
  by_cases z : m = 7
  · rw [if_pos z]
    dsimp only
    have e : s = { s with heap := s.heap } := by cases s; rfl
    rw [e]
    exact wpAny_pure (h s.heap _ 0 _ (Heap.SameBut.refl _ _) ho ⟨rfl, rfl, rfl⟩ rfl rfl z.symm rfl rfl rfl)
  · rw [if_neg z]
    dsimp only
    unfold setRelay
    refine wpAny_bind (wpAny_setState_of ho rfl rfl ?_)
    dsimp only
    rw [if_neg (by have := sizeLine_eq; omega)]
    have hm' := hm z
    obtain ⟨t, order, e1, hp, hdm, hld, hup, hps, hmk⟩ := laid_is cov 0 ((SetTable.fresh 0 0 (!byT w)).movedTo m) (!byT w) true #[] (Nat.zero_le _) (fun h hh => by simp at hh)
    have e2 : (SetTable.fresh 0 0 (!byT w)).relaid (Array.map (·.1) (#[] : Array (Int × Value))) (2 * n) = some (t, order) := by
      have em : Array.map (·.1) (#[] : Array (Int × Value)) = #[] := by simp
      unfold SetTable.relaid
      rw [hm', em]
      exact e1
    have hop : (order.filterMap ((#[] : Array (Int × Value))[·]?)) = #[] := by
      have := reorder (t := t) (es := #[]) (order := order) hp
      exact Array.toList_inj.mp (List.perm_nil.mp this)
    have hft : t.fits 0 = true := by
      unfold SetTable.fits SetTable.fill
      rw [hps, hdm]
      rfl
    refine wpAny_bind ?_
    rw [e2]
    show wpAny _ _ (if (order.filterMap ((#[] : Array (Int × Value))[·]?)).size != (#[] : Array (Int × Value)).size then _ else _) _ _ _
    rw [hop, if_neg (by simp)]
    refine wpAny_pure ?_
    dsimp only
    refine wpAny_storeSet_of ho rfl ?_ (by simp)
    exact h _ _ _ _ (Heap.SameBut.update _ _ _) (put_obj ho rfl) ⟨rfl, rfl, rfl⟩ rfl hft hmk hps hdm hld
/-- the members of a set, laid into an empty one -/
theorem merge_into {Q : Unit → Shared → Prop} (ha : SetIt w s.heap a ka) (ho : s.heap.get? r = some (set0 w)) (hne : r ≠ a) (h32 : ∀ j ∈ ka, 0 ≤ j ∧ j < 32) (hl : ka.length ≤ 32)
    (h : ∀ h' k2 m, Heap.SameBut r s.heap h' → SetDr w h' r k2 m 0 → k2.Perm ka → ka.length ≤ m → Q () { s with heap := h' }) :
    wpAny (model prog w) A (setMerge r a) Q E s := by
  obtain ⟨o, es, ep, t, hoa, hex, hd, hg, hk, nd, hlk, ok, hf⟩ := id ha
  have hsz := sz_map hk
  unfold setMerge
  rw [if_neg (by simpa using hne)]
  refine wpAny_bind (wpAny_setState_of hoa hd hf ?_)
  dsimp only
  by_cases hem : es.isEmpty = true
  · rw [if_pos hem]
    have e0 : ka = [] := List.eq_nil_of_length_eq_zero (by rw [← hsz]; exact Array.isEmpty_iff_size_eq_zero.mp hem)
    have e : s = { s with heap := s.heap } := by cases s; rfl
    have := h s.heap [] 7 (Heap.SameBut.refl _ _) ⟨_, #[], 0, _, ho, ⟨rfl, rfl, rfl⟩, rfl, fun e he => absurd he (by simp), rfl, List.nodup_nil, by decide, ⟨rfl, List.Pairwise.nil⟩, rfl, rfl, Nat.le_refl _⟩ (by rw [e0]) (by rw [e0]; decide)
    rw [e]
    exact wpAny_pure this
  · rw [if_neg hem]
    obtain ⟨m, hr, hm, hnm, cov, h128⟩ := mask_ok es.size (by omega)
    refine wpAny_bind (room_for ho hr hm cov h128 fun h1 o1 ep1 t1 sb1 ho1 hex1 hd1 hf1 hm1 hp1 hdm1 hl1 => ?_)
    have hoa1 : h1.get? a = some o := by rw [sb1.2 _ (Ne.symm hne)]; exact hoa
    refine wpAny_bind (wpAny_setState_of (s := { s with heap := h1 }) ho1 hd1 hf1 ?_)
    dsimp only
    have hfill : (t1.fill != 0) = false := by
      unfold SetTable.fill
      rw [hp1, hdm1]
      rfl
    unfold SetTable.road
    rw [hfill, if_neg Bool.false_ne_true]
    by_cases hc : (t1.mask == t.mask && t.dummies.isEmpty) = true
    · rw [if_pos hc]
      dsimp only
      obtain ⟨c1, c2⟩ := Bool.and_eq_true_iff.mp hc
      refine wpAny_storeSet_of (s := { s with heap := h1 }) ho1 hd1 ?_ (fits_of_scanBound (by rw [hsz]; exact fit2000 hlk))
      refine h _ ka m (sb1.trans (Heap.SameBut.update _ _ _)) ⟨_, _, _, _, put_obj ho1 hd1, hex1, rfl, hg, hk, nd, hlk, ⟨?_, ok.up⟩, hf, ?_, ?_⟩ (List.Perm.refl _) (by omega)
      · show (t1.led && t.led) = _
        rw [hl1, ok.led, Bool.and_self]
      · show t.mask = m
        rw [← hm1]
        exact (beq_iff_eq.mp c1).symm
      · show t.dummies.size ≤ 0
        rw [Array.isEmpty_iff_size_eq_zero.mp c2]
        exact Nat.le_refl _
    · rw [if_neg hc]
      dsimp only
      have hsm : (es.map (·.1)).size = es.size := Array.size_map
      obtain ⟨t2, order, e1, hp, hdm, hld, hup, hps, hmk⟩ := laid_is cov t1.finger t1.moves (t1.led && t.led) (t1.plain && t.plain) (es.map (·.1)) (by rw [hsm]; exact hnm) (fun hh hin => by
        rw [Array.toList_map] at hin
        obtain ⟨e, he, rfl⟩ := List.mem_map.mp hin
        rw [(hg e he).1]
        have := h32 (keyOf e) (by rw [← hk]; exact List.mem_map_of_mem he)
        exact bits_small this.1 this.2)
      rw [hsm] at hp hps
      rw [hm1]
      have hpe := reorder (t := t2) (es := es) hp
      refine wpAny_bind ?_
      rw [e1]
      have hsz2 : (order.filterMap (es[·]?)).size = es.size := by rw [← Array.length_toList, hpe.length_eq, Array.length_toList]
      show wpAny _ _ (if (order.filterMap (es[·]?)).size != es.size then _ else _) _ _ _
      rw [if_neg (by rw [hsz2]; simp)]
      refine wpAny_pure ?_
      dsimp only
      have hkp := hpe.map keyOf
      rw [hk] at hkp
      refine wpAny_storeSet_of (s := { s with heap := h1 }) ho1 hd1 ?_ (fits_of_scanBound (by rw [hsz2, hsz]; exact fit2000 hlk))
      refine h _ _ m (sb1.trans (Heap.SameBut.update _ _ _)) ⟨_, _, _, _, put_obj ho1 hd1, hex1, rfl, fun e he => hg e (hpe.mem_iff.mp he), rfl, hkp.nodup_iff.mpr nd, by rw [hkp.length_eq]; exact hlk, ⟨by rw [hld, hl1, ok.led, Bool.and_self], hup⟩, ?_, hmk, by rw [hdm]; exact Nat.le_refl _⟩ hkp (by omega)
      unfold SetTable.fits SetTable.fill
      rw [hps, hdm, hsz2, hmk, Bool.and_eq_true_iff]
      exact ⟨beq_self_eq_true _, decide_eq_true (by simpa using hnm)⟩
end
end L2
namespace L2
open PySem PySem.Spec PyProof.Rows
section
variable {prog : Program} {w : World} {A : Around} {E : Value → Shared → Prop} {s : Shared} {a b r : Addr} {ka kb kr ks : List Int} {k : Int} {tk : Tok}
theorem diff_update {id0 : String} {m : Nat} {Q : Unit → Shared → Prop} (hr : SetDr w s.heap r kr m 0) (hb : SetIt w s.heap b kb) (hne : r ≠ b) (hlt : kb.length < kr.length / 4) (hm : kr.length ≤ m)
    (h : ∀ h' k2, Heap.SameBut r s.heap h' → SetIt w h' r k2 → (∀ j, j ∈ k2 ↔ j ∈ kr ∧ j ∉ kb) → k2.length ≤ kr.length → Q () { s with heap := h' }) :
    wpAny (model prog w) A (Builtin.Frozenset.differenceUpdate id0 r (.ref b)) Q E s := by
  unfold Builtin.Frozenset.differenceUpdate
  rw [if_neg (by intro z; have := beq_iff_eq.mp z; injection this with this; exact hne this.symm)]
  refine wpAny_bind (any_set hb ?_)
  rw [if_pos rfl]
  obtain ⟨o, es, ep, t, ho, hex, hd, hg, hk, nd, hlk, ok, hf⟩ := id hb
  show wpAny _ _ (Builtin.Frozenset.sizeOf b >>= _) _ _ _
  refine wpAny_bind (size_of hb ?_)
  refine wpAny_bind (size_of hr.it ?_)
  rw [if_neg (by omega)]
  refine wpAny_bind (epoch_is ho hd hf ?_)
  refine wpAny_bind (wpAny_holding ?_)
  refine wpAny_bind (walk_none hb (fun c hc => ?_) fun es' hg' hp' => ?_)
  · simp only [List.mem_cons, List.not_mem_nil, or_false] at hc
    subst hc
    exact ⟨_, hr.it⟩
  have hsz : es'.size = kb.length := by rw [← hp'.length_eq, List.length_map, Array.length_toList]
  refine wpAny_bind ?_
  refine wpAny_forIn_array' _ (fun rest _ s' => ∃ h1 k1 d, s' = { s with heap := h1 } ∧ Heap.SameBut r s.heap h1 ∧ SetDr w h1 r k1 m d ∧ d + rest.length = kb.length ∧ EGood rest ∧ k1.length ≤ kr.length ∧
    (∀ j, (j ∈ k1 ∧ j ∉ rest.map keyOf) ↔ j ∈ kr ∧ j ∉ kb)) _ ?_ ?_ _ _ ⟨s.heap, kr, 0, by cases s; rfl, Heap.SameBut.refl _ _, hr, by rw [Array.length_toList, hsz]; omega, hg', Nat.le_refl _, fun j => by rw [hp'.mem_iff]⟩
  · rintro ⟨hh, x⟩ rest u s' ⟨h1, k1, d, rfl, sb, hS, hdl, g, hl, hm⟩
    obtain ⟨e1, t', e2⟩ := g _ List.mem_cons_self
    generalize hk : keyOf (hh, x) = k at e1 e2
    dsimp only at e1 e2
    subst e1; subst e2
    rw [List.length_cons] at hdl
    refine wpAny_bind (wpAny_holding ?_)
    refine set_discard (s := { s with heap := h1 }) hS fun bb h2 k2 sb2 hS2 hm2 hl2 => ?_
    have ho' : h2.get? b = some o := by rw [sb2.2 _ (Ne.symm hne), sb.2 _ (Ne.symm hne)]; exact ho
    refine wpAny_bind (unchanged_is (s := { s with heap := h2 }) ho' hd hf (wpAny_pure ?_))
    refine ⟨h2, k2, d + 1, rfl, sb.trans sb2, hS2, by omega, fun y hy => g y (List.mem_cons_of_mem _ hy), Nat.le_trans hl2 hl, fun j => ?_⟩
    rw [← hm j, hm2 j, List.map_cons, List.mem_cons, hk]
    constructor
    · rintro ⟨⟨z1, z2⟩, z3⟩
      exact ⟨z1, fun z => z.elim z2 z3⟩
    · rintro ⟨z1, z2⟩
      exact ⟨⟨z1, fun e => z2 (.inl e)⟩, fun e => z2 (.inr e)⟩
  · rintro u s' ⟨h1, k1, d, rfl, sb, hS, hdl, g, hl, hm2⟩
    refine wpAny_pure ?_
    obtain ⟨o1, es1, ep1, t1, ho1, hex1, hd1, hg1, hk1, nd1, hlk1, ok1, hf1, em1, ed1⟩ := id hS
    unfold setTidy
    refine wpAny_bind (wpAny_setState_of (s := { s with heap := h1 }) ho1 hd1 hf1 ?_)
    dsimp only
    rw [if_neg (by
      unfold SetTable.tooManyDummies
      rw [em1]
      simp only [List.length_nil] at hdl
      have : ¬ t1.dummies.size > m / 4 := by omega
      simpa using this)]
    exact wpAny_pure (h h1 k1 sb hS.it (fun j => by rw [← hm2 j]; simp) hl)
/-- s - t of two sets of ints below 32 -/
theorem set_sub {Q : Value → Shared → Prop} (ha : SetIt w s.heap a ka) (hb : SetIt w s.heap b kb) (hab : a ≠ b) (h32 : ∀ j ∈ ka, 0 ≤ j ∧ j < 32) (hl : ka.length ≤ 32) (hlb : kb.length ≤ 1000)
    (h : ∀ h' k2, SetIt w h' s.heap.objs.size k2 → (∀ j, j ∈ k2 ↔ j ∈ ka ∧ j ∉ kb) → k2.length ≤ ka.length → (∀ c o, s.heap.get? c = some o → h'.get? c = some o) → Q (.ref s.heap.objs.size) { s with heap := h' }) :
    wpAny (model prog w) A (binaryOp .Sub (.ref a) (.ref b)) Q E s := by
  refine wpAny_binaryOp_same ha.typeIs hb.typeIs PySem.F.fills_set_sub PySem.F.slot_set_sub ?_
  refine wpAny_call_entry PySem.F.slot_set_sub ha.typeIs F.entry_set_sub ?_ (PySem.F.args_set_sub_2 _ _)
  show wpAny _ _ (do
    let (self, other) ← Builtin.Frozenset.slot1 "__sub__" ⟨[.ref a, .ref b], []⟩
    let (l, r) := if false = true then (other, self) else (self, other)
    if !(← Builtin.Frozenset.isAnySet l <&&> Builtin.Frozenset.isAnySet r) then rule s!"frozenset.{"__sub__"}.declined"; return ← ret .notImplemented
    ret (← Builtin.Frozenset.difference s!"frozenset.{"__sub__"}" (← Builtin.Frozenset.addrOf l) r)) _ _ _
  generalize s!"frozenset.{"__sub__"}" = id0
  generalize s!"frozenset.{"__sub__"}.declined" = id1
  show wpAny _ _ ((Builtin.Frozenset.isAnySet (.ref a) <&&> Builtin.Frozenset.isAnySet (.ref b)) >>= _) _ _ _
  refine wpAny_bind ?_
  show wpAny _ _ (Builtin.Frozenset.isAnySet (.ref a) >>= _) _ _ _
  refine wpAny_bind (any_set ha ?_)
  show wpAny _ _ (Builtin.Frozenset.isAnySet (.ref b)) _ _ _
  refine any_set hb ?_
  simp only [Bool.not_true, Bool.false_eq_true, if_false]
  show wpAny _ _ (Builtin.Frozenset.difference id0 a (.ref b) >>= _) _ _ _
  refine wpAny_bind ?_
  have kk : ∀ c o, s.heap.get? c = some o → (s.heap.push (set0 w)).get? c = some o := fun c o e => Heap.get?_push_of_some _ e
  have ha1 := ha.keep (h' := s.heap.push (set0 w)) fun o e => kk _ _ e
  have hb1 := hb.keep (h' := s.heap.push (set0 w)) fun o e => kk _ _ e
  have hr1 : SetIs w (s.heap.push (set0 w)) s.heap.objs.size [] := set0_is
  have hr0 : (s.heap.push (set0 w)).get? s.heap.objs.size = some (set0 w) := Heap.get?_push_size _ rfl
  have na : a ≠ s.heap.objs.size := let ⟨o, _, _, _, ho, _⟩ := ha; ne_push ho
  have nb : b ≠ s.heap.objs.size := let ⟨o, _, _, _, ho, _⟩ := hb; ne_push ho
  have keep : ∀ h', Heap.SameBut s.heap.objs.size (s.heap.push (set0 w)) h' → ∀ c o, s.heap.get? c = some o → h'.get? c = some o := fun h' sb c o e => by
    rw [sb.2 _ (ne_push e)]; exact kk c o e
  unfold Builtin.Frozenset.difference
  refine wpAny_bind (any_set hb ?_)
  simp only [Bool.not_true, Bool.false_eq_true, if_false]
  show wpAny _ _ (Builtin.Frozenset.sizeOf b >>= _) _ _ _
  refine wpAny_bind (size_of hb ?_)
  refine wpAny_bind (size_of ha ?_)
  by_cases hbig : ka.length / 4 > kb.length
  · rw [if_pos hbig]
    refine wpAny_bind (wpAny_rule ?_)
    unfold Builtin.Frozenset.copyOf
    refine wpAny_bind (wpAny_bind (base_of ha (wpAny_bind (new_set ?_))))
    show wpAny _ _ (setMerge s.heap.objs.size a >>= _) _ _ _
    refine wpAny_bind (merge_into (s := { s with heap := s.heap.push (set0 w) }) ha1 hr0 (Ne.symm na) h32 hl fun h1 k1 m sb1 hS1 hp1 hm1 => ?_)
    refine wpAny_pure ?_
    have hb2 : SetIt w h1 b kb := hb1.keep fun o e => by rw [sb1.2 _ nb]; exact e
    refine wpAny_bind (m := Builtin.Frozenset.addrOf (Value.ref s.heap.objs.size)) (wpAny_pure ?_)
    refine wpAny_bind (wpAny_holding ?_)
    show wpAny _ _ (Builtin.Frozenset.differenceUpdate id0 s.heap.objs.size (.ref b)) _ _ _
    refine diff_update (s := { s with heap := h1 }) hS1 hb2 (Ne.symm nb) (by rw [hp1.length_eq]; exact hbig) (by rw [hp1.length_eq]; exact hm1) fun h2 k2 sb2 hS2 hm2 hl2 => ?_
    refine wpAny_pure ?_
    refine wpAny_pure ⟨_, rfl, by simp, ?_⟩
    exact h h2 k2 hS2 (fun j => by rw [hm2 j, hp1.mem_iff]) (by rw [← hp1.length_eq]; exact hl2) (keep _ (sb1.trans sb2))
  · rw [if_neg hbig]
    refine wpAny_bind (base_of ha (wpAny_bind (new_set ?_)))
    show wpAny _ _ (setEpoch a >>= _) _ _ _
    obtain ⟨o, es, ep, t, ho, hex, hd, hg, hk, nd, hlk, ok, hf⟩ := id ha1
    refine wpAny_bind (epoch_is (s := { s with heap := s.heap.push (set0 w) }) ho hd hf ?_)
    refine wpAny_bind (wpAny_holding ?_)
    simp only [if_true]
    refine wpAny_bind (walk_into (s := { s with heap := s.heap.push (set0 w) }) ha1 hr1 (fun c hc => ?_) fun es' h' hg' hp' sb hr' => ?_)
    · simp only [List.mem_cons, List.not_mem_nil, or_false] at hc
      rcases hc with rfl | rfl
      · exact ⟨_, hb1⟩
      · exact ⟨_, hr1.it⟩
    have hsz : es'.size = ka.length := by rw [← hp'.length_eq, List.length_map, Array.length_toList]
    refine wpAny_bind (wpAny_mono (fill_loop (s := { s with heap := h' }) (r := s.heap.objs.size) (p := fun j => decide (j ∉ kb)) (R := fun _ s' => ∃ h' k2, s' = { s with heap := h' } ∧ Heap.SameBut s.heap.objs.size (s.heap.push (set0 w)) h' ∧ SetIs w h' s.heap.objs.size k2 ∧ (∀ j, j ∈ k2 ↔ j ∈ ka ∧ j ∉ kb) ∧ k2.length ≤ ka.length) ?_ hg' hr' (by rw [hsz]; simp; omega) fun h2 k2 sb2 hS2 hm2 hl2 => ⟨h2, k2, rfl, sb.trans sb2, hS2, fun j => ?_, by rw [hsz] at hl2; simpa using hl2⟩) ?_ fun _ _ h' => h')
    · intro k tk h1 k1 Q' sb1 hS1 hl1 hQ
      have hb2 : SetIt w h1 b kb := hb1.keep fun o e => by rw [sb1.2 _ nb, sb.2 _ nb]; exact e
      refine wpAny_bind ?_
      refine wpAny_holding ?_
      refine wpAny_bind (set_find (s := { s with heap := h1 }) hb2 fun rr hrr _ => wpAny_bind (wpAny_pure ?_))
      have fin : ∀ h2 k2, Heap.SameBut s.heap.objs.size h1 h2 → SetIs w h2 s.heap.objs.size k2 → (∀ j, j ∈ k2 ↔ j ∈ k1 ∨ (decide (k ∉ kb) = true ∧ j = k)) → k2.length ≤ k1.length + 1 → wpAny (model prog w) A.in1 (Builtin.Frozenset.unchanged id0 a ep >>= fun _ => pure (ForInStep.yield PUnit.unit)) Q' E { s with heap := h2 } := fun h2 k2 sb' hS' hm' hl' => by
        have ho' : h2.get? a = some o := by rw [sb'.2 _ na, sb1.2 _ na, sb.2 _ na]; exact ho
        exact wpAny_bind (unchanged_is (s := { s with heap := h2 }) ho' hd hf (wpAny_pure (hQ h2 k2 sb' hS' hm' hl')))
      by_cases hmem : k ∈ kb
      · rw [hrr, decide_eq_true hmem, if_neg (by decide)]
        refine wpAny_pure ?_
        exact fin h1 k1 (Heap.SameBut.refl _ _) hS1 (fun j => by rw [decide_eq_false (fun z => z hmem)]; simp) (Nat.le_succ _)
      · rw [hrr, decide_eq_false hmem, if_pos (by decide)]
        refine wpAny_bind (set_add (s := { s with heap := h1 }) hS1 hl1 fun h2 k2 sb' hS' hm' hl' => wpAny_pure ?_)
        exact fin h2 k2 sb' hS' (fun j => by rw [hm' j, decide_eq_true hmem]; simp) hl'
    · rw [hm2 j, hp'.mem_iff, decide_eq_true_eq]
      simp [and_comm]
    · rintro u s' ⟨h2, k2, rfl, sb', hS', hm', hl'⟩
      refine wpAny_pure ?_
      refine wpAny_pure ?_
      refine wpAny_pure ⟨_, rfl, by simp, ?_⟩
      exact h h2 k2 hS'.it hm' hl' (keep _ sb')
end
end L2
namespace L2
open PySem PySem.Spec PyProof.Rows
theorem ints_of_vals : ∀ {us : List Value} {ns : List Int}, Vals (ns.map V.int) us → IntsAre us ns
  | _, [], h => by cases h; exact .nil
  | _, n :: ns, h => by
    cases h with
    | cons r t => obtain ⟨k, rfl⟩ := r; exact .cons n k (ints_of_vals t)
theorem nodup_sub : ∀ {l1 l2 : List Int}, l1.Nodup → (∀ x ∈ l1, x ∈ l2) → l1.length ≤ l2.length
  | [], _, _, _ => Nat.zero_le _
  | x :: l1, l2, nd, h => by
    have nd' := List.nodup_cons.mp nd
    have hx := h x List.mem_cons_self
    have ih := nodup_sub (l1 := l1) (l2 := l2.erase x) nd'.2 fun y hy => (List.mem_erase_of_ne (show y ≠ x from fun e => nd'.1 (e ▸ hy))).mpr (h y (List.mem_cons_of_mem _ hy))
    rw [List.length_erase_of_mem hx] at ih
    have : 0 < l2.length := List.length_pos_of_mem hx
    rw [List.length_cons]
    omega
theorem SetIs.nd {w : World} {h : Heap} {a : Addr} {ks : List Int} (x : SetIs w h a ks) : ks.Nodup := let ⟨_, _, _, _, _, _, _, _, _, nd, _⟩ := x; nd
theorem SetIt.nd {w : World} {h : Heap} {a : Addr} {ks : List Int} (x : SetIt w h a ks) : ks.Nodup := let ⟨_, _, _, _, _, _, _, _, _, nd, _⟩ := x; nd
section
variable {X : Cx}
/-- set(l) of a list of ints -/
theorem call_setL (hc : X.calm = true) : CallR X (.type "set") (fun xs H Q => ∃ (l : Addr) (ns : List Int), xs = [.ref l] ∧ SqL X.K H l (ns.map V.int) ∧ ns.length < 1000 ∧ ∀ a, H a = none → Q (.ref a) (upd H a (SetO X.w a (fun k => decide (k ∈ ns)) ns.length))) := by
  intro pins s σ H xs us Q I r h
  obtain ⟨l, ns, rfl, hq, hn, q⟩ := h
  obtain ⟨u, rfl, ru⟩ := vals1 r
  cases ru
  obtain ⟨its, rv, pl, hz⟩ := I.list hq
  have hlen : its.length = ns.length := by rw [← rv.length, List.length_map]
  refine call_setl (w := X.w) (ns := ns) (I.ok.hd hc) pl.isList (by rw [List.toList_toArray]; exact ints_of_vals rv) (by rw [List.size_toArray]; omega) fun h' tk ks hS hm hl kk => ?_
  refine ⟨.ref s.heap.objs.size, _, I.laid (t' := tk) (o := SetO X.w s.heap.objs.size (fun k => decide (k ∈ ns)) ns.length) kk (Nat.le_refl _) ?_, rfl, q _ (I.hok.fresh (Nat.le_refl _))⟩
  exact setO_ok hS (fun k => by rw [decide_eq_true_eq]; exact (hm k).symm) hl
/-- s & t -/
theorem op_andS : OpR X (binaryOp .BitAnd) (fun x y H Q => ∃ (a b : Addr) (S T : Int → Bool) (n m : Nat), x = .ref a ∧ y = .ref b ∧ H a = some (SetO X.w a S n) ∧ H b = some (SetO X.w b T m) ∧ a ≠ b ∧ n + m < 1990 ∧
    ∀ r, H r = none → Q (.ref r) (upd H r (SetO X.w r (fun k => S k && T k) n))) := by
  intro pins s σ H x y v u Q I rx ry h
  obtain ⟨a, b, S, T, n, m, rfl, rfl, ha, hb, hne, hnm, q⟩ := h
  cases rx
  cases ry
  obtain ⟨ka, hSa, hma, hla⟩ := I.setO ha
  obtain ⟨kb, hSb, hmb, hlb⟩ := I.setO hb
  refine set_and (w := X.w) hSa.it hSb.it hne (by omega) fun h' k2 hS hm hl kk => ?_
  refine ⟨.ref s.heap.objs.size, _, I.laid (t' := s.toks) (o := SetO X.w s.heap.objs.size (fun k => S k && T k) n) kk (Nat.le_refl _) ?_, rfl, q _ (I.hok.fresh (Nat.le_refl _))⟩
  refine setO_ok hS (fun k => by rw [Bool.and_eq_true, hma, hmb, hm k]) (Nat.le_trans (nodup_sub hS.nd fun y hy => ((hm y).mp hy).1) hla)
/-- s - t -/
theorem op_subS : OpR X (binaryOp .Sub) (fun x y H Q => ∃ (a b : Addr) (S T : Int → Bool) (n m : Nat), x = .ref a ∧ y = .ref b ∧ H a = some (SetO X.w a S n) ∧ H b = some (SetO X.w b T m) ∧ a ≠ b ∧ n ≤ 32 ∧ m ≤ 1000 ∧ (∀ k, S k = true → 0 ≤ k ∧ k < 32) ∧
    ∀ r, H r = none → Q (.ref r) (upd H r (SetR X.w r (fun k => S k && !T k) n))) := by
  intro pins s σ H x y v u Q I rx ry h
  obtain ⟨a, b, S, T, n, m, rfl, rfl, ha, hb, hne, hn, hm', h32, q⟩ := h
  cases rx
  cases ry
  obtain ⟨ka, hSa, hma, hla⟩ := I.setO ha
  obtain ⟨kb, hSb, hmb, hlb⟩ := I.setO hb
  refine set_sub (w := X.w) hSa.it hSb.it hne (fun j hj => h32 j ((hma j).mpr hj)) (by omega) (by omega) fun h' k2 hS hm hl kk => ?_
  refine ⟨.ref s.heap.objs.size, _, I.laid (t' := s.toks) (o := SetR X.w s.heap.objs.size (fun k => S k && !T k) n) kk (Nat.le_refl _) ?_, rfl, q _ (I.hok.fresh (Nat.le_refl _))⟩
  refine setR_ok hS (fun k => ?_) (by omega)
  rw [Bool.and_eq_true, hma, hm k, Bool.not_eq_true', ← Bool.not_eq_true, hmb]
end
end L2
namespace L2
open PySem PySem.Spec PyProof.Rows
section
variable {X : Cx} {tg : Expr} {acc : Value}
/-- s.add(k), called -/
theorem add_core {pins : List (Addr × Obj)} {s : Shared} {σ : St} {H : Hp} {a : Addr} {S : Int → Bool} {n : Nat} {k : Int} {tk : Tok} {E : Value → Shared → Prop} (I : Inv X pins σ H s) (ha : H a = some (SetO X.w a S n)) (hn : n + 1 < 2000) :
    wpAny (model X.prog X.w) X.A (call (.builtin "set.add") [.ref a, .int k tk]) (fun _ s' => Inv X pins σ (upd H a (SetO X.w a (fun j => S j || decide (j = k)) (n + 1))) s') E s := by
  obtain ⟨ks2, hS2, hm2, hl2⟩ := I.setO ha
  refine call_add (w := X.w) hS2 (by omega) fun h' ks' hsb hS' hm' hl' => ?_
  have mu : Mut (H a) := by rw [ha]; exact True.intro
  refine I.write (x := a) (e := a) (t' := s.toks + 1) mu (.inl rfl) (fun b ob nb eb => (hsb.2 b nb).trans eb) (let ⟨o, _, _, _, ho, _⟩ := hS'; ⟨o, ho⟩) (setO_ok hS' (fun j => ?_) (by omega))
  rw [hm' j, Bool.or_eq_true, decide_eq_true_eq, hm2 j]
/-! ### the last clause: the element goes into the set -/
def emitWBS (X : Cx) (ifs : List Expr) (elt : Expr) (acc : Value) : WBT := fun Qa s => wpAny (model X.prog X.w) X.A (clTests ifs X.env) (fun ok s1 => if ok = true then wpAny (model X.prog X.w) X.A (eval elt X.env) (fun x s2 => wpAny (model X.prog X.w) X.A (call (.builtin "set.add") [acc, x]) (fun _ s3 => Qa s3) NoE s2) NoE s1 else Qa s1) NoE s
def tEmitS (w : World) (acc : Addr) (te : TE) : TS := fun D σ H => te σ H fun x H1 => ∃ k S n, x = .int k ∧ H1 acc = some (SetO w acc S n) ∧ n + 1 < 2000 ∧ D.nx σ (upd H1 acc (SetO w acc (fun j => S j || decide (j = k)) (n + 1)))
theorem pb_emitS {ifs : List Expr} {elt : Expr} {ac : Addr} {tc : TT} {te : TE} (hxe : X.xe = NoE) (hi : PTs X ifs tc) (he : PE X elt te) : PB X (emitWBS X ifs elt (.ref ac)) (tIfC tc (tEmitS X.w ac te)) where
  mono := fun Qa Qb s hq h => thn h fun ok s1 h1 => by
    cases ok with
    | false => exact hq _ h1
    | true => exact thn h1 fun x s2 h2 => thn h2 fun _ s3 h3 => hq _ h3
  run := fun pins s σ H D I h => by
    have h1 := hi pins s σ H _ I h
    rw [hxe] at h1
    refine thn h1 fun ok s1 ⟨H1, I1, q1⟩ => ?_
    cases ok with
    | false => exact ⟨σ, H1, I1, q1⟩
    | true =>
      have q1' : tEmitS X.w ac te D σ H1 := q1
      have h2 := he pins s1 σ H1 _ I1 q1'
      rw [hxe] at h2
      refine thn h2 fun u s2 ⟨x, H2, I2, r2, k, S, n, ex, hl, hz, q2⟩ => ?_
      subst ex
      obtain ⟨tk, rfl⟩ := r2
      exact thn (add_core (E := NoE) I2 hl hz) fun _ s3 I3 => ⟨σ, _, I3, q2⟩
theorem compTurn_sin (elt tg0 iter0 tg iter : Expr) (ifs0 ifs : List Expr) (scope : Scope) (pos : Pos) (it acc : Value) (env : Env) :
    compTurn (.SetComp elt [⟨tg0, iter0, ifs0, 0⟩, ⟨tg, iter, ifs, 0⟩] scope pos) 1 it acc env = (do
      standAt iter.pos
      match ← pyNext it with
      | none => pure (.done .next)
      | some v =>
        letOwnedTupleGo tg it v
        assign tg env v
        let mut ok := true
        for c in ifs do
          if ok then ok ← isTrue c env (eval c env)
        if ok then
          (do let v ← eval elt env; standAt elt.pos; let _ ← call (.builtin "set.add") [acc, v])
        again (.compLoop (.SetComp elt [⟨tg0, iter0, ifs0, 0⟩, ⟨tg, iter, ifs, 0⟩] scope pos) 1 it acc env)) := by rfl
theorem ht_sin {elt tg0 iter0 iter : Expr} {ifs0 ifs : List Expr} {scope : Scope} {pos : Pos} {itv : Value} : HT X (.SetComp elt [⟨tg0, iter0, ifs0, 0⟩, ⟨tg, iter, ifs, 0⟩] scope pos) 1 itv acc tg (emitWBS X ifs elt acc) := by
  intro s Qd Qa h
  rw [compTurn_sin]
  refine wpAny_bind (wpAny_standAt (wpAny_bind (thn h fun r s₁ h₁ => ?_)))
  cases r with
  | none => exact wpAny_pure ⟨rfl, h₁⟩
  | some v =>
    refine wpAny_bind (thn h₁ fun _ s2 h2 => wpAny_bind (thn h2 fun _ s3 h3 => wpAny_bind (thn h3 fun ok s4 h4 => ?_)))
    cases ok with
    | false => exact wpAny_pure ⟨rfl, h4⟩
    | true => exact wpAny_bind (wpAny_bind (thn h4 fun x s₄ h₄ => wpAny_bind (wpAny_standAt (wpAny_bind (thn h₄ fun _ s₅ h₅ => wpAny_pure (wpAny_pure ⟨rfl, h₅⟩))))))
theorem compTurn_sone (elt tg iter : Expr) (ifs : List Expr) (scope : Scope) (pos : Pos) (it acc : Value) (env : Env) :
    compTurn (.SetComp elt [⟨tg, iter, ifs, 0⟩] scope pos) 0 it acc env = (do
      standAt iter.pos
      match ← pyNext it with
      | none => pure (.done .next)
      | some v =>
        letOwnedTupleGo tg it v
        assign tg env v
        let mut ok := true
        for c in ifs do
          if ok then ok ← isTrue c env (eval c env)
        if ok then
          (do let v ← eval elt env; standAt elt.pos; let _ ← call (.builtin "set.add") [acc, v])
        again (.compLoop (.SetComp elt [⟨tg, iter, ifs, 0⟩] scope pos) 0 it acc env)) := by rfl
theorem ht_sone {elt iter : Expr} {ifs : List Expr} {scope : Scope} {pos : Pos} {itv : Value} : HT X (.SetComp elt [⟨tg, iter, ifs, 0⟩] scope pos) 0 itv acc tg (emitWBS X ifs elt acc) := by
  intro s Qd Qa h
  rw [compTurn_sone]
  refine wpAny_bind (wpAny_standAt (wpAny_bind (thn h fun r s₁ h₁ => ?_)))
  cases r with
  | none => exact wpAny_pure ⟨rfl, h₁⟩
  | some v =>
    refine wpAny_bind (thn h₁ fun _ s2 h2 => wpAny_bind (thn h2 fun _ s3 h3 => wpAny_bind (thn h3 fun ok s4 h4 => ?_)))
    cases ok with
    | false => exact wpAny_pure ⟨rfl, h4⟩
    | true => exact wpAny_bind (wpAny_bind (thn h4 fun x s₄ h₄ => wpAny_bind (wpAny_standAt (wpAny_bind (thn h₄ fun _ s₅ h₅ => wpAny_pure (wpAny_pure ⟨rfl, h₅⟩))))))
theorem compTurn_sout (elt tg iter tg1 iter1 : Expr) (ifs ifs1 : List Expr) (scope : Scope) (pos : Pos) (it acc : Value) (env : Env) :
    compTurn (.SetComp elt [⟨tg, iter, ifs, 0⟩, ⟨tg1, iter1, ifs1, 0⟩] scope pos) 0 it acc env = (do
      standAt iter.pos
      match ← pyNext it with
      | none => pure (.done .next)
      | some v =>
        letOwnedTupleGo tg it v
        assign tg env v
        let mut ok := true
        for c in ifs do
          if ok then ok ← isTrue c env (eval c env)
        if ok then
          let x ← eval iter1 env
          standAt iter1.pos
          let x ← foldedSetIterable iter1 env x
          let _ ← runOwn (.compStart (.SetComp elt [⟨tg, iter, ifs, 0⟩, ⟨tg1, iter1, ifs1, 0⟩] scope pos) 1 (← holding [x] (pyIter x)) acc env) env
        again (.compLoop (.SetComp elt [⟨tg, iter, ifs, 0⟩, ⟨tg1, iter1, ifs1, 0⟩] scope pos) 0 it acc env)) := by rfl
theorem ht_sout {elt iter tg1 iter1 : Expr} {ifs ifs1 : List Expr} {scope : Scope} {pos : Pos} {itv : Value} (hs : ∀ x, foldedSetIterable iter1 X.env x = pure x) :
    HT X (.SetComp elt [⟨tg, iter, ifs, 0⟩, ⟨tg1, iter1, ifs1, 0⟩] scope pos) 0 itv acc tg (outWB X ifs (.SetComp elt [⟨tg, iter, ifs, 0⟩, ⟨tg1, iter1, ifs1, 0⟩] scope pos) iter1 acc) := by
  intro s Qd Qa h
  rw [compTurn_sout]
  refine wpAny_bind (wpAny_standAt (wpAny_bind (thn h fun r s₁ h₁ => ?_)))
  cases r with
  | none => exact wpAny_pure ⟨rfl, h₁⟩
  | some v =>
    refine wpAny_bind (thn h₁ fun _ s2 h2 => wpAny_bind (thn h2 fun _ s3 h3 => wpAny_bind (thn h3 fun ok s4 h4 => ?_)))
    cases ok with
    | false => exact wpAny_pure ⟨rfl, h4⟩
    | true =>
      refine wpAny_bind (thn h4 fun x s₄ h₄ => wpAny_bind (wpAny_standAt (wpAny_bind (wpAny_of_eq (hs x) (wpAny_bind (wpAny_holding (thn h₄ fun it s₅ h₅ => ?_)))))))
      refine wpAny_bind (wpAny_runOwn (codeAny_mono h₅ fun r s₆ h₆ => ?_))
      obtain ⟨rfl, h₆⟩ := h₆
      exact wpAny_pure ⟨rfl, h₆⟩
theorem pb_sout {elt iter tg1 iter1 : Expr} {ifs ifs1 : List Expr} {scope : Scope} {pos : Pos} {ac : Addr} {tc : TT} {wi1 : TI} {g1 : TG} {tb1 : TS} (hxe : X.xe = NoE) (hc : X.calm = true)
    (hi : PTs X ifs tc) (hI : PI X tg1 iter1 wi1) (hg1 : PG X tg1 g1) (hb1 : PB X (emitWBS X ifs1 elt (.ref ac)) tb1) :
    PB X (outWB X ifs (.SetComp elt [⟨tg, iter, ifs, 0⟩, ⟨tg1, iter1, ifs1, 0⟩] scope pos) iter1 (.ref ac)) (tIfC tc (tFor wi1 g1 tb1)) where
  mono := fun Qa Qb s hq h => thn h fun ok s1 h1 => by
    cases ok with
    | false => exact hq _ h1
    | true => exact thn h1 fun x s2 h2 => thn h2 fun it s3 h3 => codeAny_mono h3 fun r s4 h4 => ⟨h4.1, hq _ h4.2⟩
  run := fun pins s σ H D I h => by
    have h1 := hi pins s σ H _ I h
    rw [hxe] at h1
    refine thn h1 fun ok s1 ⟨H1, I1, q1⟩ => ?_
    cases ok with
    | false => exact ⟨σ, H1, I1, q1⟩
    | true =>
      have q1' : tFor wi1 g1 tb1 D σ H1 := q1
      have h2 := hI pins s1 σ H1 _ I1 q1'
      rw [hxe] at h2
      refine thn h2 fun u s2 h3 => thn h3 fun itv s3 h4 => ?_
      obtain ⟨it, fp, tn, J, H3, e, I3, T, st3, f3, hR⟩ := h4
      subst e
      have loop := comp_loop (e := .SetComp elt [⟨tg, iter, ifs, 0⟩, ⟨tg1, iter1, ifs1, 0⟩] scope pos) (d := 1) (D := D) hxe hc ht_sin rfl rfl rfl T hg1 hb1 I3 st3 f3 hR
      exact comp_start (X := X) rfl rfl rfl (fun _ => rfl) True.intro loop (T.self _ 0 s3 _ _ st3 loop)
end
def tCompS (w : World) (wi : TI) (js : List (Option Nat)) (g : CC → TG) (tb : CC → Addr → TS) : TE := fun σ H Q => wi σ H fun J H1 => ∀ (c : CC) (acc : Addr), H1 acc = none →
  loopR J (g c) (tb c acc) { nx := fun _ H' => Q (.ref acc) H', rt := fun _ _ => False } (sub js σ) (upd H1 acc (SetO w acc (fun _ => false) 0))
section
variable {X : Cx} {N : List Str} {scope : Scope} {cl : List (Str × Addr)} {js : List (Option Nat)} {elt tg iter : Expr} {ifs : List Expr} {rest : List Comprehension} {pos : Pos} {wi : TI} {g : CC → TG} {tb : CC → Addr → TS}
theorem pe_scompG {WB : CC → Value → WBT} (hxe : X.xe = NoE) (hc : X.calm = true) (hi : PI X tg iter wi) (hs : ∀ x, foldedSetIterable iter X.env x = pure x) (hclos : closureFor scope X.env = pure cl) (hk : scope.kind = .function)
    (hnames : ∀ x ∈ scope.names, x.2 = .local → scope.names.lookup x.1 = some .local) (hcell : ∀ x ∈ scope.names, x.2 ≠ .cell)
    (hcl : ∀ p ∈ cl, X.env.cells.lookup p.1 = some p.2) (hcn : ∀ x, ((relabel scope X.env).names.lookup x = some .cell ∨ (relabel scope X.env).names.lookup x = some .free) → ∃ c, cl.lookup x = some c)
    (hsh : shares X N scope js) (hl : js.length = N.length)
    (ht : ∀ c it ac, HT (X.cmp N scope cl c) (.SetComp elt (⟨tg, iter, ifs, 0⟩ :: rest) scope pos) 0 it ac tg (WB c ac))
    (hg : ∀ c, PG (X.cmp N scope cl c) tg (g c)) (hb : ∀ c ac, PB (X.cmp N scope cl c) (WB c (.ref ac)) (tb c ac)) :
    PE X (.SetComp elt (⟨tg, iter, ifs, 0⟩ :: rest) scope pos) (tCompS X.w wi js g tb) := by
  intro pins s σ H Q I h
  rw [arm_eval_SetComp]
  have h0 := hi pins s σ H _ I h
  refine wpAny_comprehension_free (use := none) (cl := cl) rfl hs hclos hk hnames (thn h0 fun v s1 h1 => thn h1 fun itv s2 h2 => ?_)
  obtain ⟨it, fp, tn, J, H2, e, I2, T, st2, f2, hR⟩ := h2
  subst e
  refine new_set (wpAny_newFunctionEnv hcell (by intro y hy; simp at hy) (fun h₁ hns₁ hsb₁ => ?_) hk)
  dsimp only at hns₁ hsb₁ ⊢
  have I3 := I2.laid (t' := s2.toks) (h' := s2.heap.push (set0 X.w)) (o := SetO X.w s2.heap.objs.size (fun _ => false) 0) (fun b ob e => Heap.get?_push_of_some _ e) (Nat.le_refl _) (setO_ok set0_is (fun k => by simp) (Nat.le_refl _))
  have fpl : ∀ b ∈ fp, b < s2.heap.objs.size := fun b hb => by
    obtain ⟨o, e, _⟩ := T.obj 0 _ st2 b hb
    exact Heap.lt_size e
  have fpa : ∀ b ∈ fp, b ≠ s2.heap.objs.size := fun b hb => Nat.ne_of_lt (fpl b hb)
  have f3 : ∀ b ∈ fp, FpOk X pins (upd H2 s2.heap.objs.size (SetO X.w s2.heap.objs.size (fun _ => false) 0)) b := fun b hb => ⟨by rw [upd_ne (fpa b hb)]; exact (f2 b hb).1, (f2 b hb).2⟩
  have hR' := hR ⟨{ s2 with heap := s2.heap.push (set0 X.w) }, upd H2 s2.heap.objs.size (SetO X.w s2.heap.objs.size (fun _ => false) 0), fp⟩ s2.heap.objs.size I2.fresh
  have I4 := I3.cmp (N := N) (cl := cl) (js := js) (t' := s2.toks) f3 (fun b hb => by
    show b < (s2.heap.push _).objs.size
    rw [Heap.size_push]
    exact Nat.lt_succ_of_lt (fpl b hb)) hk hcl hcn hsh hl hns₁ hsb₁
  have st4 : tn 0 h₁ := T.keep 0 _ _ st2 fun b hb o e => (hsb₁.2 b (by
    rw [Heap.size_push]
    exact Nat.ne_of_lt (Nat.lt_succ_of_lt (fpl b hb)))).trans (Heap.get?_push_of_some _ (Heap.get?_push_of_some _ e))
  have f4 : ∀ b ∈ fp, FpOk (X.cmp N scope cl ⟨{ s2 with heap := s2.heap.push (set0 X.w) }, upd H2 s2.heap.objs.size (SetO X.w s2.heap.objs.size (fun _ => false) 0), fp⟩) [] (upd H2 s2.heap.objs.size (SetO X.w s2.heap.objs.size (fun _ => false) 0)) b := fun b hb =>
    ⟨(f3 b hb).1, (I4.ok.exf b hb).1, I4.ok.exfs b hb, .inl hb, (I4.ok.exf b hb).2, fun p hp => absurd (show p ∈ ([] : List (Addr × Obj)) from hp) (by simp)⟩
  have loop := codeAny_mono (comp_loop (X := X.cmp N scope cl ⟨{ s2 with heap := s2.heap.push (set0 X.w) }, upd H2 s2.heap.objs.size (SetO X.w s2.heap.objs.size (fun _ => false) 0), fp⟩) (e := .SetComp elt (⟨tg, iter, ifs, 0⟩ :: rest) scope pos) (d := 0) (acc := .ref s2.heap.objs.size) (pins := []) hxe hc (ht _ _ _) rfl rfl rfl T (hg _) (hb _ _) I4 st4 f4 hR') (R' := compPost (model X.prog X.w) X.A X.xe none (EP X pins σ Q) (.ref s2.heap.objs.size) (s2.heap.push (set0 X.w)).objs.size) (fun r s' hq => by
    obtain ⟨rfl, σ', H', J', q⟩ := hq
    obtain ⟨m, hn, _⟩ := id J'.loc
    exact ⟨m, hn, fun h'' hs'' => ⟨.ref s2.heap.objs.size, H', I3.uncmp f3 J' hs'', rfl, q⟩⟩)
  exact comp_start (X := X.cmp N scope cl ⟨{ s2 with heap := s2.heap.push (set0 X.w) }, upd H2 s2.heap.objs.size (SetO X.w s2.heap.objs.size (fun _ => false) 0), fp⟩) rfl rfl rfl (fun _ => rfl) True.intro loop (T.self _ 0 _ _ _ st4 loop)
variable {tg1 iter1 : Expr} {ifs1 : List Expr} {wi1 : CC → TI} {g1 : CC → TG} {tc tc1 : CC → TT} {te : CC → TE}
/-- {elt for tg in iter if ..} -/
theorem pe_scomp1 (h : CompOk X N scope cl js) (hi : PI X tg iter wi) (hg : ∀ c, PG (X.cmp N scope cl c) tg (g c)) (hif : ∀ c, PTs (X.cmp N scope cl c) ifs (tc c)) (he : ∀ c, PE (X.cmp N scope cl c) elt (te c))
    (hxe : X.xe = NoE := by rfl) (hc : X.calm = true := by rfl) (hs : ∀ x, foldedSetIterable iter X.env x = pure x := by intro _; rfl) :
    PE X (.SetComp elt [⟨tg, iter, ifs, 0⟩] scope pos) (tCompS X.w wi js g fun c ac => tIfC (tc c) (tEmitS X.w ac (te c))) :=
  pe_scompG (WB := fun c ac => emitWBS (X.cmp N scope cl c) ifs elt ac) hxe hc hi hs h.clos h.kind h.names h.cell h.ccl h.hcn h.shr h.len (fun c it ac => ht_sone) hg fun c ac => pb_emitS (X := X.cmp N scope cl c) hxe (hif c) (he c)
/-- {elt for tg in iter if .. for tg1 in iter1 if ..} -/
theorem pe_scomp2 (h : CompOk X N scope cl js) (hi : PI X tg iter wi) (hg : ∀ c, PG (X.cmp N scope cl c) tg (g c)) (hif : ∀ c, PTs (X.cmp N scope cl c) ifs (tc c))
    (hi1 : ∀ c, PI (X.cmp N scope cl c) tg1 iter1 (wi1 c)) (hg1 : ∀ c, PG (X.cmp N scope cl c) tg1 (g1 c)) (hif1 : ∀ c, PTs (X.cmp N scope cl c) ifs1 (tc1 c)) (he : ∀ c, PE (X.cmp N scope cl c) elt (te c))
    (hs1 : ∀ c x, foldedSetIterable iter1 (X.cmp N scope cl c).env x = pure x := by intro _ _; rfl)
    (hxe : X.xe = NoE := by rfl) (hc : X.calm = true := by rfl) (hs : ∀ x, foldedSetIterable iter X.env x = pure x := by intro _; rfl) :
    PE X (.SetComp elt [⟨tg, iter, ifs, 0⟩, ⟨tg1, iter1, ifs1, 0⟩] scope pos) (tCompS X.w wi js g fun c ac => tIfC (tc c) (tFor (wi1 c) (g1 c) (tIfC (tc1 c) (tEmitS X.w ac (te c))))) :=
  pe_scompG (WB := fun c ac => outWB (X.cmp N scope cl c) ifs (.SetComp elt [⟨tg, iter, ifs, 0⟩, ⟨tg1, iter1, ifs1, 0⟩] scope pos) iter1 ac) hxe hc hi hs h.clos h.kind h.names h.cell h.ccl h.hcn h.shr h.len (fun c it ac => ht_sout (hs1 c)) hg
    fun c ac => pb_sout (X := X.cmp N scope cl c) hxe hc (hif c) (hi1 c) (hg1 c) (pb_emitS (X := X.cmp N scope cl c) hxe (hif1 c) (he c))
end
end L2
namespace L2
open PySem PySem.Spec PyProof.Rows
/-- two values that are alike all the way down, at most so deep -/
def DS (K : PySem.W.Frag) (H : Hp) : Nat → V → V → Prop
  | 0, v, u => v = u ∧ ((∃ k, v = .int k) ∨ (∃ b, v = .bl b) ∨ v = .non)
  | n + 1, v, u => (v = u ∧ ((∃ k, v = .int k) ∨ (∃ b, v = .bl b) ∨ v = .non)) ∨ ∃ a b xs ys, v = .ref a ∧ u = .ref b ∧ xs.length = ys.length ∧ (∀ (i : Nat) x y, xs[i]? = some x → ys[i]? = some y → DS K H n x y) ∧ ((SqL K H a xs ∧ SqL K H b ys) ∨ (SqT K H a xs ∧ SqT K H b ys))
section
variable {X : Cx} {pins : List (Addr × Obj)} {σ : St} {H : Hp} {s : Shared}
theorem eq_flat {A : Around} {v u : V} {v' u' : Value} (e : v = u) (h : (∃ k, v = .int k) ∨ (∃ b, v = .bl b) ∨ v = .non) (r1 : RelV v v') (r2 : RelV u u') : SeqAt.EqAt A s v' u' true := by
  subst e
  rcases h with ⟨k, rfl⟩ | ⟨b, rfl⟩ | rfl
  · obtain ⟨t, rfl⟩ := r1
    obtain ⟨t2, rfl⟩ := r2
    intro prog w E Q hq
    exact wpAny_eqBool_int (by rw [beq_self_eq_true]; exact hq)
  · cases r1
    cases r2
    exact SeqAt.EqAt.same _
  · cases r1
    cases r2
    exact SeqAt.EqAt.same _
theorem all_true (n : Nat) : (List.range n).all (fun _ => true) = true := by simp
theorem rc_ds : ∀ (n : Nat) {A : Around}, A.units + n < cLine → Inv X pins σ H s → (∀ (v u : V) (v' u' : Value), DS X.K H n v u → RelV v v' → RelV u u' → SeqAt.EqAt A s v' u' true)
  | 0, A, hu, I => fun v u v' u' h r1 r2 => eq_flat h.1 h.2 r1 r2
  | n + 1, A, hu, I => fun v u v' u' h r1 r2 => by
    rcases h with h | ⟨a, b, xs, ys, rfl, rfl, hl, hx, hk⟩
    · exact eq_flat h.1 h.2 r1 r2
    cases r1
    cases r2
    by_cases hab : a = b
    · subst hab
      exact SeqAt.EqAt.same _
    have ih := rc_ds n (A := A.in1) (by show A.units + 1 + n < cLine; omega) I
    rcases hk with ⟨h1, h2⟩ | ⟨h1, h2⟩
    · obtain ⟨its, q1, pl, _⟩ := I.list h1
      obtain ⟨its2, q2, pl2, _⟩ := I.list h2
      have l1 := q1.length
      have l2 := q2.length
      have := SeqAt.RcAt.lists (e := fun _ => true) (A := A) pl.isList pl2.isList (by simp; omega) (by omega) (fun j j1 j2 => by
        have j1' : j < its.length := by simpa using j1
        have j2' : j < its2.length := by simpa using j2
        have hx1 : xs[j]? = some xs[j] := List.getElem?_eq_getElem (by omega)
        have hy1 : ys[j]? = some ys[j] := List.getElem?_eq_getElem (by omega)
        obtain ⟨u1, e1, ru1⟩ := q1.get hx1
        obtain ⟨u2, e2, ru2⟩ := q2.get hy1
        have e1' : its.toArray[j] = u1 := by
          have := List.getElem?_eq_getElem j1'
          rw [this] at e1
          simpa using Option.some.inj e1
        have e2' : its2.toArray[j] = u2 := by
          have := List.getElem?_eq_getElem j2'
          rw [this] at e2
          simpa using Option.some.inj e2
        rw [e1', e2']
        exact ih _ _ _ _ (hx j _ _ hx1 hy1) ru1 ru2)
      rw [all_true] at this
      exact SeqAt.EqAt.of_refs hab this
    · obtain ⟨its, q1, pl, _⟩ := I.tuple h1
      obtain ⟨its2, q2, pl2, _⟩ := I.tuple h2
      have l1 := q1.length
      have l2 := q2.length
      have := SeqAt.RcAt.tuples (e := fun _ => true) (A := A) pl pl2 (by omega) (fun j j1 j2 => by
        have j1' : j < its.length := by simpa using j1
        have j2' : j < its2.length := by simpa using j2
        have hx1 : xs[j]? = some xs[j] := List.getElem?_eq_getElem (by omega)
        have hy1 : ys[j]? = some ys[j] := List.getElem?_eq_getElem (by omega)
        obtain ⟨u1, e1, ru1⟩ := q1.get hx1
        obtain ⟨u2, e2, ru2⟩ := q2.get hy1
        have e1' : its.toArray[j] = u1 := by
          have := List.getElem?_eq_getElem j1'
          rw [this] at e1
          simpa using Option.some.inj e1
        have e2' : its2.toArray[j] = u2 := by
          have := List.getElem?_eq_getElem j2'
          rw [this] at e2
          simpa using Option.some.inj e2
        rw [e1', e2']
        exact ih _ _ _ _ (hx j _ _ hx1 hy1) ru1 ru2)
      rw [all_true, Bool.true_and, show (its.toArray.size == its2.toArray.size) = true by simp; omega] at this
      exact SeqAt.EqAt.of_refs hab this
theorem els_ds {n : Nat} {A : Around} (hu : A.units + n < cLine) (I : Inv X pins σ H s) {xs ys : List V} {its its2 : List Value} (q1 : Vals xs its) (q2 : Vals ys its2) (hl : xs.length = ys.length) (hx : ∀ (i : Nat) x y, xs[i]? = some x → ys[i]? = some y → DS X.K H n x y) :
    ∀ j (h1 : j < its.toArray.size) (h2 : j < its2.toArray.size), SeqAt.EqAt A s its.toArray[j] its2.toArray[j] true := fun j j1 j2 => by
  have l1 := q1.length
  have l2 := q2.length
  have j1' : j < its.length := by simpa using j1
  have j2' : j < its2.length := by simpa using j2
  have hx1 : xs[j]? = some xs[j] := List.getElem?_eq_getElem (by omega)
  have hy1 : ys[j]? = some ys[j] := List.getElem?_eq_getElem (by omega)
  obtain ⟨u1, e1, ru1⟩ := q1.get hx1
  obtain ⟨u2, e2, ru2⟩ := q2.get hy1
  have e1' : its.toArray[j] = u1 := by
    have := List.getElem?_eq_getElem j1'
    rw [this] at e1
    simpa using Option.some.inj e1
  have e2' : its2.toArray[j] = u2 := by
    have := List.getElem?_eq_getElem j2'
    rw [this] at e2
    simpa using Option.some.inj e2
  rw [e1', e2']
  exact rc_ds n hu I _ _ _ _ (hx j _ _ hx1 hy1) ru1 ru2
/-- what is alike all the way down, compared -/
def rDS (K : PySem.W.Frag) (r : Bool) : R2 := fun x y H Q => ∃ a b xs ys, x = .ref a ∧ y = .ref b ∧ xs.length = ys.length ∧ (∀ (i : Nat) x y, xs[i]? = some x → ys[i]? = some y → DS K H 3 x y) ∧ ((SqL K H a xs ∧ SqL K H b ys) ∨ (SqT K H a xs ∧ SqT K H b ys)) ∧ Q (.bl r) H
theorem op_eqD (hu : X.A.units + 9 < cLine) : OpR X (compareOp .Eq) (rDS X.K true) := by
  intro pins s σ H x y v u Q I rx ry h
  obtain ⟨a, b, xs, ys, rfl, rfl, hl, hx, hk, q⟩ := h
  cases rx
  cases ry
  rcases hk with ⟨h1, h2⟩ | ⟨h1, h2⟩
  · obtain ⟨its, q1, pl, _⟩ := I.list h1
    obtain ⟨its2, q2, pl2, _⟩ := I.list h2
    have l1 := q1.length
    have l2 := q2.length
    refine SeqAt.RcAt.lists (e := fun _ => true) pl.isList pl2.isList (by simp; omega) (by omega) (els_ds (A := X.A.in1) (by show X.A.units + 1 + 3 < cLine; omega) I q1 q2 hl hx) _ _ _ _ ?_
    rw [all_true]
    exact ⟨.bl true, H, I, rfl, q⟩
  · obtain ⟨its, q1, pl, _⟩ := I.tuple h1
    obtain ⟨its2, q2, pl2, _⟩ := I.tuple h2
    have l1 := q1.length
    have l2 := q2.length
    refine SeqAt.RcAt.tuples (e := fun _ => true) pl pl2 (by omega) (els_ds (A := X.A.in1) (by show X.A.units + 1 + 3 < cLine; omega) I q1 q2 hl hx) _ _ _ _ ?_
    rw [all_true, Bool.true_and, show (its.toArray.size == its2.toArray.size) = true by simp; omega]
    exact ⟨.bl true, H, I, rfl, q⟩
theorem op_neD (hu : X.A.units + 9 < cLine) : OpR X (compareOp .NotEq) (rDS X.K false) := by
  intro pins s σ H x y v u Q I rx ry h
  obtain ⟨a, b, xs, ys, rfl, rfl, hl, hx, hk, q⟩ := h
  cases rx
  cases ry
  rcases hk with ⟨h1, h2⟩ | ⟨h1, h2⟩
  · obtain ⟨its, q1, pl, _⟩ := I.list h1
    obtain ⟨its2, q2, pl2, _⟩ := I.list h2
    have l1 := q1.length
    have l2 := q2.length
    refine SeqAt.RcNeAt.lists (e := fun _ => true) pl.isList pl2.isList (by simp; omega) (by omega) (els_ds (A := X.A.in1) (by show X.A.units + 1 + 3 < cLine; omega) I q1 q2 hl hx) _ _ _ _ ?_
    rw [all_true]
    exact ⟨.bl false, H, I, rfl, q⟩
  · obtain ⟨its, q1, pl, _⟩ := I.tuple h1
    obtain ⟨its2, q2, pl2, _⟩ := I.tuple h2
    have l1 := q1.length
    have l2 := q2.length
    refine SeqAt.RcNeAt.tuples (e := fun _ => true) pl pl2 (by omega) (els_ds (A := X.A.in1) (by show X.A.units + 1 + 3 < cLine; omega) I q1 q2 hl hx) _ _ _ _ ?_
    rw [all_true, Bool.true_and, show (its.toArray.size == its2.toArray.size) = true by simp; omega]
    exact ⟨.bl false, H, I, rfl, q⟩
theorem Room.units9 {k : Nat} {A : Around} (r : Room k A) : A.units + 9 < cLine := by have := r.un; omega
/-- a row and the same row elsewhere -/
theorem ds_row {K : PySem.W.Frag} {a b : Addr} {row : List Int} {n : Nat} (h1 : SqL K H a (row.map V.int)) (h2 : SqL K H b (row.map V.int)) : DS K H (n + 1) (.ref a) (.ref b) := by
  refine .inr ⟨a, b, _, _, rfl, rfl, rfl, fun i x y hx hy => ?_, .inl ⟨h1, h2⟩⟩
  rw [hx] at hy
  cases hy
  rw [List.getElem?_map] at hx
  obtain ⟨k, _, rfl⟩ := Option.map_eq_some_iff.mp hx
  cases n with
  | zero => exact ⟨rfl, .inl ⟨k, rfl⟩⟩
  | succ n => exact .inl ⟨rfl, .inl ⟨k, rfl⟩⟩
theorem ds_ints {K : PySem.W.Frag} {row : List Int} {n : Nat} : ∀ (i : Nat) x y, (row.map V.int)[i]? = some x → (row.map V.int)[i]? = some y → DS K H n x y := fun i x y hx hy => by
  rw [hx] at hy
  cases hy
  rw [List.getElem?_map] at hx
  obtain ⟨k, _, rfl⟩ := Option.map_eq_some_iff.mp hx
  cases n with
  | zero => exact ⟨rfl, .inl ⟨k, rfl⟩⟩
  | succ n => exact .inl ⟨rfl, .inl ⟨k, rfl⟩⟩
end
end L2
namespace HT2
open PySem L2 PyProof.Rows
theorem iteB {b : Bool} {A B : Prop} (e : b = false) (h : B) : if b = true then A else B := by
  rw [e, if_neg Bool.false_ne_true]
  exact h
theorem iteA {b : Bool} {A B : Prop} (e : b = true) (h : A) : if b = true then A else B := by
  rw [e, if_pos rfl]
  exact h
/-- [k for k in row if p k]: the test may make new things -/
theorem comp_filter {K : PySem.W.Frag} {a acc : Addr} {row : List Int} {p : Int → Bool} {tc : TT} {rest : L2.St} {D : Ends} {H : Hp} (hr : SqL K H a (row.map V.int)) (hacc : H acc = none) (hlen : row.length ≤ 900)
    (ht : ∀ k, k ∈ row → ∀ H2, Same H H2 → ∀ R : Bool → Hp → Prop, (∀ H3, Same H2 H3 → R (p k) H3) → tc (some (.int k) :: rest) H2 R)
    (hd : ∀ v0 H2, Same H H2 → H2 acc = some (.lst ((row.filter p).map V.int)) → D.nx (v0 :: rest) H2) (v : Option V) :
    loopR (Itl K a) (gName 0) (tIfC tc (tEmit acc (tVar 0))) D (v :: rest) (upd H acc (.lst [])) := by
  refine for_list (K := K) (a := a) (xs := row.map V.int) (fun i σ H2 => ∃ v0, σ = v0 :: rest ∧ Same H H2 ∧ H2 acc = some (.lst (((row.take i).filter p).map V.int))) ⟨v, rfl, same_new hacc _, upd_same⟩ ?_ ?_ ?_
  · rintro i σ H2 _ ⟨v0, rfl, s2, _⟩
    exact s2.seq hr
  · rintro i x σ H2 hx ⟨v0, rfl, s2, ha2⟩
    rw [List.getElem?_map] at hx
    obtain ⟨k, hk, rfl⟩ := Option.map_eq_some_iff.mp hx
    have et : row.take (i + 1) = row.take i ++ [k] := by rw [List.take_add_one, hk]; rfl
    refine ht k (List.mem_of_getElem? hk) H2 s2 _ fun H3 s3 => ?_
    have ha3 := s3 _ _ ha2
    cases e : p k with
    | false =>
      refine ⟨_, rfl, s2.trans s3, ?_⟩
      rw [et, List.filter_append, List.filter_cons_of_neg (by rw [e]; simp), List.filter_nil, List.append_nil]
      exact ha3
    | true =>
      refine ⟨_, rfl, _, ha3, small1000 ?_, ?_⟩
      · rw [List.length_map]
        refine Nat.le_trans (List.length_filter_le _ _) ?_
        rw [List.length_take]
        omega
      refine ⟨_, rfl, same_put (s2.trans s3) hacc _, ?_⟩
      rw [upd_same, et, List.filter_append, List.filter_cons_of_pos e, List.filter_nil, List.map_append]
      rfl
  · rintro σ H2 ⟨v0, rfl, s2, ha2⟩
    rw [List.length_map, List.take_length] at ha2
    exact hd v0 H2 s2 ha2
/-- [.. for x in xs], each a bool; xs any list -/
theorem comp_boolsV {K : PySem.W.Frag} {a acc : Addr} {xs : List V} {bs : List Bool} {te : TE} {rest : L2.St} {D : Ends} {H : Hp} (hr : SqL K H a xs) (hacc : H acc = none) (hlen : xs.length ≤ 900) (hb : bs.length = xs.length)
    (ht : ∀ (i : Nat) (x : V) (b : Bool), xs[i]? = some x → bs[i]? = some b → ∀ H2, Same H H2 → ∀ R : V → Hp → Prop, (∀ H3, Same H2 H3 → R (.bl b) H3) → te (some x :: rest) H2 R)
    (hd : ∀ v0 H2, Same H H2 → H2 acc = some (.lst (bs.map V.bl)) → D.nx (v0 :: rest) H2) (v : Option V) :
    loopR (Itl K a) (gName 0) (tIfC tYes (tEmit acc te)) D (v :: rest) (upd H acc (.lst [])) := by
  refine for_list (K := K) (a := a) (xs := xs) (fun i σ H2 => ∃ v0, σ = v0 :: rest ∧ Same H H2 ∧ H2 acc = some (.lst ((bs.take i).map V.bl))) ⟨v, rfl, same_new hacc _, upd_same⟩ ?_ ?_ ?_
  · rintro i σ H2 _ ⟨v0, rfl, s2, _⟩
    exact s2.seq hr
  · rintro i x σ H2 hx ⟨v0, rfl, s2, ha2⟩
    have hi : i < bs.length := by
      have := (List.getElem?_eq_some_iff.mp hx).1
      omega
    have hbi : bs[i]? = some bs[i] := List.getElem?_eq_getElem hi
    have et : bs.take (i + 1) = bs.take i ++ [bs[i]] := by rw [List.take_add_one, hbi]; rfl
    show tEmit acc te _ _ _
    refine ht i x _ hx hbi H2 s2 _ fun H3 s3 => ?_
    refine ⟨_, s3 _ _ ha2, small1000 ?_, ?_⟩
    · rw [List.length_map, List.length_take]
      omega
    refine ⟨_, rfl, same_put (s2.trans s3) hacc _, ?_⟩
    rw [upd_same, et, List.map_append]
    rfl
  · rintro σ H2 ⟨v0, rfl, s2, ha2⟩
    rw [← hb, List.take_length] at ha2
    exact hd v0 H2 s2 ha2
/-- [f k for k in row], f k a bool -/
theorem comp_bools {K : PySem.W.Frag} {a acc : Addr} {row : List Int} {f : Int → Bool} {te : TE} {rest : L2.St} {D : Ends} {H : Hp} (hr : SqL K H a (row.map V.int)) (hacc : H acc = none) (hlen : row.length ≤ 900)
    (ht : ∀ k, k ∈ row → ∀ H2, Same H H2 → ∀ R : V → Hp → Prop, (∀ H3, Same H2 H3 → R (.bl (f k)) H3) → te (some (.int k) :: rest) H2 R)
    (hd : ∀ v0 H2, Same H H2 → H2 acc = some (.lst ((row.map f).map V.bl)) → D.nx (v0 :: rest) H2) (v : Option V) :
    loopR (Itl K a) (gName 0) (tIfC tYes (tEmit acc te)) D (v :: rest) (upd H acc (.lst [])) := by
  refine for_list (K := K) (a := a) (xs := row.map V.int) (fun i σ H2 => ∃ v0, σ = v0 :: rest ∧ Same H H2 ∧ H2 acc = some (.lst (((row.take i).map f).map V.bl))) ⟨v, rfl, same_new hacc _, upd_same⟩ ?_ ?_ ?_
  · rintro i σ H2 _ ⟨v0, rfl, s2, _⟩
    exact s2.seq hr
  · rintro i x σ H2 hx ⟨v0, rfl, s2, ha2⟩
    rw [List.getElem?_map] at hx
    obtain ⟨k, hk, rfl⟩ := Option.map_eq_some_iff.mp hx
    have et : row.take (i + 1) = row.take i ++ [k] := by rw [List.take_add_one, hk]; rfl
    show tEmit acc te _ _ _
    refine ht k (List.mem_of_getElem? hk) H2 s2 _ fun H3 s3 => ?_
    refine ⟨_, s3 _ _ ha2, small1000 ?_, ?_⟩
    · rw [List.length_map, List.length_map, List.length_take]
      omega
    refine ⟨_, rfl, same_put (s2.trans s3) hacc _, ?_⟩
    rw [upd_same, et, List.map_append, List.map_append]
    rfl
  · rintro σ H2 ⟨v0, rfl, s2, ha2⟩
    rw [List.length_map, List.take_length] at ha2
    exact hd v0 H2 s2 ha2
theorem inV_int (k : Int) (xs : List Int) : inV (.int k) (xs.map V.int) = decide (k ∈ xs) := by
  unfold inV
  induction xs with
  | nil => simp
  | cons x r ih =>
    rw [List.map_cons, List.any_cons, ih]
    have e : eqV (.int x) (.int k) = decide (x = k) := by
      show (x == k) = decide (x = k)
      rfl
    rw [e]
    by_cases h : x = k
    · subst h; simp
    · have h' : ¬ k = x := fun z => h z.symm
      simp [h, h']
theorem flat_ints (xs : List Int) : (xs.map V.int).all flatV = true := by
  induction xs with
  | nil => rfl
  | cons x r ih => rw [List.map_cons, List.all_cons, ih]; rfl
theorem up_same {a b : List Int} (ha : a.Pairwise (· < ·)) (hb : b.Pairwise (· < ·)) (h : ∀ k, k ∈ a ↔ k ∈ b) : a = b := by
  have na : a.Nodup := ha.imp fun h => by omega
  have nb : b.Nodup := hb.imp fun h => by omega
  have hp : a.Perm b := (List.perm_ext_iff_of_nodup na nb).mpr h
  exact PySem.W.ksm_same hp (ha.imp fun h => by omega) (hb.imp fun h => by omega)
/-- what the value of a test is: k in row -/
theorem in_row {K : PySem.W.Frag} {k : Int} {r : Addr} {row : List Int} {H : Hp} {Q : VK} (h : SqL K H r (row.map V.int)) (q : Q (.bl (decide (k ∈ row))) H) : rIn K false (.int k) (.ref r) H Q :=
  ⟨r, _, rfl, .inl h, rfl, flat_ints _, by rw [← inV_int] at q; exact q⟩
theorem notin_row {K : PySem.W.Frag} {k : Int} {r : Addr} {row : List Int} {H : Hp} {Q : VK} (h : SqL K H r (row.map V.int)) (q : Q (.bl (!decide (k ∈ row))) H) : rIn K true (.int k) (.ref r) H Q :=
  ⟨r, _, rfl, .inl h, rfl, flat_ints _, by rw [← inV_int] at q; exact q⟩
end HT2
namespace Toy
open PySem L2 HT2 PyProof.Rows
def top (i : Nat) : Stmt := PySem.Challenge.pw_holdtalk_k17_contraries.main.body.getD i (.Pass ⟨0, 0, 0, 0⟩)
/-! ### the law's own numbers and sentences -/
abbrev sNum : Stmt := top 14
abbrev sMany : Stmt := top 15
abbrev sSent : Stmt := top 16
/-- the names of built-ins that no def of the text takes -/
structure Bl (mg : Str → Option Value) : Prop where
  abs : mg "abs" = none
  len : mg "len" = none
  range : mg "range" = none
def spNum (K : PySem.W.Frag) : Sp := fun vs H Q _ => ∃ (a : Addr) (ns : List Int) (k : Int), vs = [.ref a, .int k] ∧ SqL K H a (ns.map V.int) ∧ ns.length ≤ 63 ∧ 0 ≤ k ∧ k ≤ 1000 ∧
  ∀ (n : Int) (H' : Hp), 0 ≤ n → Same H H' → Q (.int n) H'
def spMany : Sp := fun vs H Q _ => ∃ (n : Int), vs = [.int n] ∧ 0 ≤ n ∧ ∀ (m : Int), 1 ≤ m → m ≤ 5 → Q (.int m) H
def spSent : Sp := fun vs H Q _ => ∃ (n : Int) (most many : Nat), vs = [.int n, .int most, .int many] ∧ 0 ≤ n ∧ 1 ≤ most ∧ most ≤ 12 ∧ 1 ≤ many ∧ many ≤ 5 ∧
  ∀ (v : V) (t : Tr) (H' : Hp), Same H H' → t.At H' v → t.ok many → t.size ≤ 23 → Q v H'
section
variable {P : Program} {w : World} {K : PySem.W.Frag} {mg : Str → Option Value} {base : Heap} {f : Addr} {fd : FuncData}
theorem scNum : FnScope ["_law_script", "_law_k", "_law_cell", "_law_one", "_law_two"] ["_law_script", "_law_k"] (defScope sNum) := ⟨rfl, rfl, rfl, by decide +kernel, rfl, by decide +kernel, by decide +kernel⟩
theorem ok_num (F : Fun K "_law_num" "_law_num" sNum f fd) (B : Bl mg) : FnOk P w K mg base CX0 1 f fd ["_law_script", "_law_k"] (spNum K) := by
  refine F.ok scNum (fun vs H Q E h => ?_) (fun cdv A outer s H vs Q E hr h => ?_)
  · obtain ⟨a, ns, k, rfl, _⟩ := h
    rfl
  obtain ⟨a, ns, k, rfl, hS, h63, hk0, hk1, q⟩ := h
  refine ⟨_, pss_cons (ps_set (i := 2) scNum.nd rfl (Or.inl rfl) pe_int)
    (pss_cons (ps_if (pt_cmpR (op_neE hr.units0) (pv 0) (pe_lst pa_nil) (nomark _))
      (pss_one (ps_set (i := 2) scNum.nd rfl (Or.inl rfl) (pe_callB call_abs (by rfl) B.abs boot_abs (pa_cons (pe_ix ix_list (pv 0) (pe_op op_mod (pv 1) (pe_callB call_len_seq (by rfl) B.len PySem.boot_len (pa_cons (pv 0) pa_nil))) (fun _ _ => rfl)) pa_nil)))) pss_nil)
    (pss_cons (ps_if (pw_and (pt_cmpR op_lt (pv 1) (pe_callB call_len_seq (by rfl) B.len PySem.boot_len (pa_cons (pv 0) pa_nil)) (nomark _)) (pw_and1 (pt_cmpR op_ge (pv 2) (pe_op op_pow pe_int pe_int) (nomark _)))).pt
      (pss_one (ps_ret (pv 2))) pss_nil)
    (pss_cons (ps_set (i := 3) scNum.nd rfl (Or.inl rfl) (pe_op op_mod (pe_op op_add (pe_op op_add (pe_op op_mul (pv 2) pe_int) (pe_op op_mul pe_int (pv 1))) pe_int) pe_int))
    (pss_cons (ps_set (i := 4) scNum.nd rfl (Or.inl rfl) (pe_op op_mod (pe_op op_add (pe_op op_add (pe_op op_mul (pv 3) (pv 3)) (pe_op op_mul pe_int (pv 2))) pe_int) pe_int))
    (pss_one (ps_ret (pe_op op_add (pe_op op_mul (pv 3) pe_int) (pv 4)))))))), ?_⟩
  refine ⟨_, rfl, le0, fun p hp => ?_⟩
  have sm : Same H (upd H p (.lst [])) := same_new hp _
  refine ⟨a, p, _, rfl, rfl, sm.seq hS, SqL.of upd_same, _, rfl, ?_⟩
  have hl : (ns.map V.int).length = ns.length := List.length_map _
  -- what follows, whatever the cell
  have fin : ∀ c : Int, 0 ≤ c → ∀ b : Int, 0 ≤ (c * 48271 + 40692 * k + 11) % 2147483647 * 2147483629 + b % 2147483629 := fun c hc b => by
    have h1 := Int.emod_nonneg (c * 48271 + 40692 * k + 11) (show (2147483647 : Int) ≠ 0 by decide)
    have h2 := Int.emod_nonneg b (show (2147483629 : Int) ≠ 0 by decide)
    omega
  have b64 : ∀ b : Int, -(2 ^ 64) < b % 2147483647 ∧ b % 2147483647 < 2 ^ 64 := fun b => by omega
  refine ite2 (fun c0 => ?_) (fun c0 => ?_)
  · have ne : ns ≠ [] := by
      intro z
      subst z
      exact absurd c0 (by decide)
    have hp' : 0 < ns.length := List.length_pos_iff.mpr ne
    have hi : (k % (ns.length : Int)).toNat < ns.length := by
      have h1 := Int.emod_nonneg k (show (ns.length : Int) ≠ 0 by omega)
      have h2 := Int.emod_lt_of_pos k (show (0 : Int) < ns.length by omega)
      omega
    have hat : atI (ns.map V.int) (k % (((ns.map V.int).length : Nat) : Int)) = some (.int ns[(k % (ns.length : Int)).toNat]) := by
      have e : k % (((ns.map V.int).length : Nat) : Int) = (((k % (ns.length : Int)).toNat : Nat) : Int) := by
        rw [hl]
        have h1 := Int.emod_nonneg k (show (ns.length : Int) ≠ 0 by omega)
        omega
      rw [e]
      refine atI_nat ?_
      rw [List.getElem?_map, List.getElem?_eq_getElem hi]
      rfl
    refine ⟨_, rfl, _, rfl, _, rfl, a, _, rfl, .inl (sm.seq hS), _, _, rfl, rfl, (by rw [hl]; omega), a, _, _, _, rfl, rfl, sm.seq hS, hat, _, rfl, ?_⟩
    generalize hc : (if ns[(k % (ns.length : Int)).toNat] < 0 then -ns[(k % (ns.length : Int)).toNat] else ns[(k % (ns.length : Int)).toNat]) = c
    have hc0 : 0 ≤ c := by
      rw [← hc]
      split <;> omega
    refine ⟨_, rfl, _, rfl, a, _, rfl, .inl (sm.seq hS), _, _, rfl, rfl, _, rfl, ?_⟩
    have tail : ∀ {G : Prop}, (∀ y : Int, 0 ≤ (c * 48271 + 40692 * k + 11) % 2147483647 * 2147483629 + y % 2147483629 → Q (.int ((c * 48271 + 40692 * k + 11) % 2147483647 * 2147483629 + y % 2147483629)) (upd H p (.lst []))) := fun {G} y hy => q _ _ hy sm
    refine ite2 (fun c1 => ?_) (fun c1 => ?_)
    · refine ⟨_, rfl, _, _, rfl, rfl, ⟨by decide, by decide, by decide⟩, _, _, rfl, rfl, _, rfl, ?_⟩
      refine ite2 (fun c2 => ?_) (fun c2 => ?_)
      · exact ⟨_, rfl, q c _ hc0 sm⟩
      · refine ⟨_, rfl, _, _, rfl, rfl, .inr ⟨by decide, by decide⟩, _, rfl, _, _, rfl, rfl, .inl ⟨by decide, by decide⟩, _, _, rfl, rfl, _, _, rfl, rfl, _, _, rfl, rfl, (by show (0 : Int) < 2147483647; decide), ?_⟩
        refine ⟨_, rfl, _, rfl, _, _, rfl, rfl, .inl (b64 _), _, rfl, _, _, rfl, rfl, .inl ⟨by decide, by decide⟩, _, _, rfl, rfl, _, _, rfl, rfl, _, _, rfl, rfl, (by show (0 : Int) < 2147483629; decide), ?_⟩
        exact ⟨_, rfl, _, _, rfl, rfl, .inl (b64 _), _, rfl, _, _, rfl, rfl, q _ _ (fin c hc0 _) sm⟩
    · refine iteF ?_
      refine ⟨_, rfl, _, _, rfl, rfl, .inr ⟨by decide, by decide⟩, _, rfl, _, _, rfl, rfl, .inl ⟨by decide, by decide⟩, _, _, rfl, rfl, _, _, rfl, rfl, _, _, rfl, rfl, (by show (0 : Int) < 2147483647; decide), ?_⟩
      refine ⟨_, rfl, _, rfl, _, _, rfl, rfl, .inl (b64 _), _, rfl, _, _, rfl, rfl, .inl ⟨by decide, by decide⟩, _, _, rfl, rfl, _, _, rfl, rfl, _, _, rfl, rfl, (by show (0 : Int) < 2147483629; decide), ?_⟩
      exact ⟨_, rfl, _, _, rfl, rfl, .inl (b64 _), _, rfl, _, _, rfl, rfl, q _ _ (fin c hc0 _) sm⟩
  · have c : Int := 0
    refine ⟨_, rfl, _, rfl, a, _, rfl, .inl (sm.seq hS), _, _, rfl, rfl, _, rfl, ?_⟩
    refine ite2 (fun c1 => ?_) (fun c1 => ?_)
    · refine ⟨_, rfl, _, _, rfl, rfl, ⟨by decide, by decide, by decide⟩, _, _, rfl, rfl, _, rfl, ?_⟩
      refine ite2 (fun c2 => ?_) (fun c2 => ?_)
      · exact ⟨_, rfl, q 0 _ (Int.le_refl _) sm⟩
      · refine ⟨_, rfl, _, _, rfl, rfl, .inr ⟨by decide, by decide⟩, _, rfl, _, _, rfl, rfl, .inl ⟨by decide, by decide⟩, _, _, rfl, rfl, _, _, rfl, rfl, _, _, rfl, rfl, (by show (0 : Int) < 2147483647; decide), ?_⟩
        refine ⟨_, rfl, _, rfl, _, _, rfl, rfl, .inl (b64 _), _, rfl, _, _, rfl, rfl, .inl ⟨by decide, by decide⟩, _, _, rfl, rfl, _, _, rfl, rfl, _, _, rfl, rfl, (by show (0 : Int) < 2147483629; decide), ?_⟩
        exact ⟨_, rfl, _, _, rfl, rfl, .inl (b64 _), _, rfl, _, _, rfl, rfl, q _ _ (fin 0 (Int.le_refl _) _) sm⟩
    · refine iteF ?_
      refine ⟨_, rfl, _, _, rfl, rfl, .inr ⟨by decide, by decide⟩, _, rfl, _, _, rfl, rfl, .inl ⟨by decide, by decide⟩, _, _, rfl, rfl, _, _, rfl, rfl, _, _, rfl, rfl, (by show (0 : Int) < 2147483647; decide), ?_⟩
      refine ⟨_, rfl, _, rfl, _, _, rfl, rfl, .inl (b64 _), _, rfl, _, _, rfl, rfl, .inl ⟨by decide, by decide⟩, _, _, rfl, rfl, _, _, rfl, rfl, _, _, rfl, rfl, (by show (0 : Int) < 2147483629; decide), ?_⟩
      exact ⟨_, rfl, _, _, rfl, rfl, .inl (b64 _), _, rfl, _, _, rfl, rfl, q _ _ (fin 0 (Int.le_refl _) _) sm⟩
theorem scMany : FnScope ["_law_n"] ["_law_n"] (defScope sMany) := ⟨rfl, rfl, rfl, by decide +kernel, rfl, by decide +kernel, by decide +kernel⟩
theorem ok_many (F : Fun K "_law_many" "_law_many" sMany f fd) : FnOk P w K mg base CX0 1 f fd ["_law_n"] spMany := by
  refine F.ok scMany (fun vs H Q E h => ?_) (fun cdv A outer s H vs Q E hr h => ?_)
  · obtain ⟨n, rfl, _⟩ := h
    rfl
  obtain ⟨n, rfl, h0, q⟩ := h
  refine ⟨_, pss_cons (ps_if (pt_cmpR op_eq (pe_op op_mod (pv 0) pe_int) pe_int (nomark _)) (pss_one (ps_ret (pe_op op_add pe_int (pe_op op_mod (pe_op op_fdiv (pv 0) pe_int) pe_int)))) pss_nil)
    (pss_one (ps_ret (pe_op op_add pe_int (pe_op op_mod (pe_op op_fdiv (pv 0) pe_int) pe_int)))), ?_⟩
  refine ⟨_, rfl, _, _, rfl, rfl, (by show (0 : Int) < 8; decide), rfl, _, rfl, ?_⟩
  refine ite2 (fun c => ?_) (fun c => ?_)
  · refine ⟨_, rfl, _, _, rfl, rfl, ⟨by decide, by decide⟩, _, _, rfl, rfl, (by show (0 : Int) < 2; decide), _, _, rfl, rfl, q _ ?_ ?_⟩ <;> omega
  · refine ⟨_, rfl, _, _, rfl, rfl, ⟨by decide, by decide⟩, _, _, rfl, rfl, (by show (0 : Int) < 3; decide), _, _, rfl, rfl, q _ ?_ ?_⟩ <;> omega
end
section
variable {P : Program} {w : World} {K : PySem.W.Frag} {mg : Str → Option Value} {base : Heap} {f : Addr} {fd : FuncData}
theorem scSent : FnScope ["_law_n", "_law_most", "_law_many_here", "_law_joints", "_law_pile", "_law_size", "_law_turn", "_law_digit", "_law_right"] ["_law_n", "_law_most", "_law_many_here"] (defScope sSent) := ⟨rfl, rfl, rfl, by decide +kernel, rfl, by decide +kernel, by decide +kernel⟩
/-- between two turns: the pile at pl, its trees -/
structure PileAt (H1 H2 : Hp) (pl : Addr) (xs : List V) (ts : List Tr) (many : Nat) : Prop where
  sm : Same H1 H2
  at' : H2 pl = some (.lst xs)
  pile : Pile H2 xs ts
  ok : ∀ t ∈ ts, t.ok many
theorem PileAt.len {H1 H2 : Hp} {pl : Addr} {xs : List V} {ts : List Tr} {many : Nat} (p : PileAt H1 H2 pl xs ts many) : xs.length = ts.length := p.pile.len
/-- the last one is taken -/
theorem PileAt.pop {H1 H2 : Hp} {pl : Addr} {xs : List V} {ts : List Tr} {many : Nat} (np : H1 pl = none) (p : PileAt H1 H2 pl xs ts many) (h : 0 < ts.length) :
    ∃ y ts' t, xs[xs.length - 1]? = some y ∧ ts = ts' ++ [t] ∧ t.ok many ∧ t.At (upd H2 pl (.lst xs.dropLast)) y ∧ PileAt H1 (upd H2 pl (.lst xs.dropLast)) pl xs.dropLast ts' many := by
  obtain ⟨xs', y, ts', t, rfl, rfl, q, a⟩ := p.pile.last h
  refine ⟨y, ts', t, last_at _ _, rfl, p.ok t (by simp), a.keep (TS.lst p.at'), ⟨same_put p.sm np _, upd_same, ?_, fun u hu => p.ok u (by simp [hu])⟩⟩
  rw [List.dropLast_concat]
  exact q.keep (TS.lst p.at')
theorem PileAt.new {H1 H2 : Hp} {pl e : Addr} {xs : List V} {ts : List Tr} {many : Nat} {o : HO} (p : PileAt H1 H2 pl xs ts many) (he : H2 e = none) : PileAt H1 (upd H2 e o) pl xs ts many :=
  ⟨p.sm.trans (same_new he _), (same_new he _) _ _ p.at', p.pile.keep (TS.new he), p.ok⟩
/-- a new tuple at c goes onto it -/
theorem PileAt.put {H1 H2 : Hp} {pl c : Addr} {xs : List V} {ts : List Tr} {many : Nat} {t : Tr} {ys : List V} (np : H1 pl = none) (p : PileAt H1 H2 pl xs ts many) (hc : H2 c = none) (ht : t.ok many)
    (ha : t.At (upd (upd H2 c (.tup ys)) pl (.lst (xs ++ [.ref c]))) (.ref c)) : PileAt H1 (upd (upd H2 c (.tup ys)) pl (.lst (xs ++ [.ref c]))) pl (xs ++ [.ref c]) (ts ++ [t]) many := by
  have k : TS H2 (upd (upd H2 c (.tup ys)) pl (.lst (xs ++ [.ref c]))) := (TS.new hc).trans (TS.lst (xs := xs) (by rw [upd_ne (ne_of_none p.at' hc)]; exact p.at'))
  refine ⟨same_put (p.sm.trans (same_new hc _)) np _, upd_same, (p.pile.keep k).snoc ha, fun u hu => ?_⟩
  rcases List.mem_append.mp hu with z | z
  · exact p.ok u z
  · rw [List.mem_singleton.mp z]
    exact ht
theorem put_at {H2 : Hp} {pl c : Addr} {xs ys zs : List V} (hp : H2 pl = some (.lst zs)) (hc : H2 c = none) : (upd (upd H2 c (.tup ys)) pl (.lst xs)) c = some (.tup ys) := by
  rw [upd_ne (ne_of_none hp hc).symm, upd_same]
theorem put_keep {H2 : Hp} {pl c : Addr} {xs ys zs : List V} (hp : H2 pl = some (.lst zs)) (hc : H2 c = none) : TS H2 (upd (upd H2 c (.tup ys)) pl (.lst xs)) :=
  (TS.new hc).trans (TS.lst (xs := zs) (by rw [upd_ne (ne_of_none hp hc)]; exact hp))

/-- between two turns of the first loop -/
def SInv (H1 : Hp) (jl pl : Addr) (most many : Nat) (size : Int) (i : Nat) : L2.St → Hp → Prop := fun σ H2 => ∃ (m : Int) (tv dv rv : Option V) (xs : List V) (ts : List Tr),
  σ = [some (.int m), some (.int most), some (.int many), some (.ref jl), some (.ref pl), some (.int size), tv, dv, rv] ∧ 0 ≤ m ∧ PileAt H1 H2 pl xs ts many ∧ sz ts ≤ i ∧ ts.length ≤ i ∧ (0 < i → 0 < ts.length)
theorem turn_let {H1 H3 : Hp} {jl pl c : Addr} {most many i : Nat} {size d m2 : Int} {xs : List V} {ts : List Tr} {tv rv : Option V} (np : H1 pl = none) (p : PileAt H1 H3 pl xs ts many) (hc : H3 c = none) (h1 : 1 ≤ many) (hm : 0 ≤ m2) (z1 : sz ts ≤ i) (z2 : ts.length ≤ i) :
    SInv H1 jl pl most many size (i + 1) [some (.int m2), some (.int most), some (.int many), some (.ref jl), some (.ref pl), some (.int size), tv, some (.int d), rv] (upd (upd H3 c (.tup [.str "let", .int (d % (many : Int))])) pl (.lst (xs ++ [.ref c]))) := by
  have e1 := Int.emod_nonneg d (show (many : Int) ≠ 0 by omega)
  have e2 := Int.emod_lt_of_pos d (show (0 : Int) < many by omega)
  have e3 : d % (many : Int) = (((d % (many : Int)).toNat : Nat) : Int) := by omega
  refine ⟨m2, _, _, _, _, ts ++ [.lt (d % (many : Int)).toNat], rfl, hm, p.put (t := .lt (d % (many : Int)).toNat) np hc (by show (d % (many : Int)).toNat < many; omega) ⟨c, rfl, ?_⟩, ?_, ?_, ?_⟩
  · rw [put_at p.at' hc, ← e3]
  · rw [sz_snoc]; show sz ts + 1 ≤ i + 1; omega
  · rw [List.length_append]; show ts.length + 1 ≤ i + 1; omega
  · intro _; rw [List.length_append]; exact Nat.succ_pos _
theorem turn_not {H1 H3 : Hp} {jl pl c : Addr} {most many i : Nat} {size m2 : Int} {xs : List V} {ts : List Tr} {t : Tr} {y : V} {tv dv rv : Option V} (np : H1 pl = none) (p : PileAt H1 H3 pl xs ts many) (hc : H3 c = none) (hm : 0 ≤ m2) (ht : t.ok many) (ha : t.At H3 y) (z1 : sz (ts ++ [t]) ≤ i) (z2 : (ts ++ [t]).length ≤ i) :
    SInv H1 jl pl most many size (i + 1) [some (.int m2), some (.int most), some (.int many), some (.ref jl), some (.ref pl), some (.int size), tv, dv, rv] (upd (upd H3 c (.tup [.str "not", y])) pl (.lst (xs ++ [.ref c]))) := by
  rw [sz_snoc] at z1
  rw [List.length_append] at z2
  have z2' : ts.length + 1 ≤ i := z2
  refine ⟨m2, _, _, _, _, ts ++ [.nt t], rfl, hm, p.put (t := .nt t) np hc ht ⟨c, y, rfl, put_at p.at' hc, ha.keep (put_keep p.at' hc)⟩, ?_, ?_, ?_⟩
  · rw [sz_snoc]; show sz ts + (t.size + 1) ≤ i + 1; omega
  · rw [List.length_append]; show ts.length + 1 ≤ i + 1; omega
  · intro _; rw [List.length_append]; exact Nat.succ_pos _
theorem turn_bn {H1 H3 : Hp} {jl pl c : Addr} {most many i : Nat} {size m2 j : Int} {xs : List V} {ts : List Tr} {t u : Tr} {y x : V} {tv dv rv : Option V} (np : H1 pl = none) (p : PileAt H1 H3 pl xs ts many) (hc : H3 c = none) (hm : 0 ≤ m2) (hj0 : 0 ≤ j) (hj : j < 4) (ht : t.ok many) (hu : u.ok many) (ha : t.At H3 y) (hx : u.At H3 x) (z1 : sz (ts ++ [u] ++ [t]) ≤ i) (z2 : (ts ++ [u] ++ [t]).length ≤ i) :
    SInv H1 jl pl most many size (i + 1) [some (.int m2), some (.int most), some (.int many), some (.ref jl), some (.ref pl), some (.int size), tv, dv, rv] (upd (upd H3 c (.tup [.str (jn j.toNat), x, y])) pl (.lst (xs ++ [.ref c]))) := by
  rw [sz_snoc, sz_snoc] at z1
  rw [List.length_append, List.length_append] at z2
  have z2' : ts.length + 1 + 1 ≤ i := z2
  refine ⟨m2, _, _, _, _, ts ++ [.bn j.toNat u t], rfl, hm, p.put (t := .bn j.toNat u t) np hc ⟨by omega, hu, ht⟩ ⟨c, x, y, rfl, put_at p.at' hc, hx.keep (put_keep p.at' hc), ha.keep (put_keep p.at' hc)⟩, ?_, ?_, ?_⟩
  · rw [sz_snoc]; show sz ts + (u.size + t.size + 1) ≤ i + 1; omega
  · rw [List.length_append]; show ts.length + 1 ≤ i + 1; omega
  · intro _; rw [List.length_append]; exact Nat.succ_pos _
theorem szle {t : Tr} (h : sz ([] ++ [t]) + ([] ++ [t] : List Tr).length ≤ 24) : t.size ≤ 23 := by
  rw [sz_snoc] at h
  have h' : 0 + t.size + 1 ≤ 24 := h
  omega
/-- between two turns of the second -/
def WInv (H1 : Hp) (jl pl : Addr) (most many : Nat) (size : Int) (k : Nat) : L2.St → Hp → Prop := fun σ H2 => ∃ (m : Int) (tv dv rv : Option V) (xs : List V) (ts : List Tr),
  σ = [some (.int m), some (.int most), some (.int many), some (.ref jl), some (.ref pl), some (.int size), tv, dv, rv] ∧ 0 ≤ m ∧ PileAt H1 H2 pl xs ts many ∧ sz ts + ts.length ≤ 24 ∧ ts.length = k ∧ 0 < k
theorem turn_w {H1 H3 : Hp} {jl pl c : Addr} {most many k : Nat} {size m2 j : Int} {xs : List V} {ts : List Tr} {t u : Tr} {y x : V} {tv dv rv : Option V} (np : H1 pl = none) (p : PileAt H1 H3 pl xs ts many) (hc : H3 c = none) (hm : 0 ≤ m2) (hj0 : 0 ≤ j) (hj : j < 4) (ht : t.ok many) (hu : u.ok many) (ha : t.At H3 y) (hx : u.At H3 x) (z1 : sz (ts ++ [u] ++ [t]) + (ts ++ [u] ++ [t]).length ≤ 24) (z2 : (ts ++ [u] ++ [t]).length = k) :
    ∃ k', k' < k ∧ WInv H1 jl pl most many size k' [some (.int m2), some (.int most), some (.int many), some (.ref jl), some (.ref pl), some (.int size), tv, dv, rv] (upd (upd H3 c (.tup [.str (jn j.toNat), x, y])) pl (.lst (xs ++ [.ref c]))) := by
  rw [sz_snoc, sz_snoc, List.length_append, List.length_append] at z1
  rw [List.length_append, List.length_append] at z2
  have z2' : ts.length + 1 + 1 = k := z2
  have z1' : sz ts + u.size + t.size + (ts.length + 1 + 1) ≤ 24 := z1
  refine ⟨ts.length + 1, by omega, m2, _, _, _, _, ts ++ [.bn j.toNat u t], rfl, hm, p.put (t := .bn j.toNat u t) np hc ⟨by omega, hu, ht⟩ ⟨c, x, y, rfl, put_at p.at' hc, hx.keep (put_keep p.at' hc), ha.keep (put_keep p.at' hc)⟩, ?_, ?_, Nat.succ_pos _⟩
  · rw [sz_snoc, List.length_append]; show sz ts + (u.size + t.size + 1) + (ts.length + 1) ≤ 24; omega
  · rw [List.length_append]; rfl
theorem ok_sent (F : Fun K "_law_sentence" "_law_sentence" sSent f fd) (B : Bl mg) : FnOk P w K mg base CX0 1 f fd ["_law_n", "_law_most", "_law_many_here"] spSent := by
  refine F.ok scSent (fun vs H Q E h => ?_) (fun cdv A outer s H vs Q E hr h => ?_)
  · obtain ⟨n, most, many, rfl, _⟩ := h
    rfl
  obtain ⟨n, most, many, rfl, h0, hm1, hm2, hy1, hy2, q⟩ := h
  refine ⟨_, pss_cons (ps_set (i := 3) scSent.nd rfl (Or.inl rfl) (pe_lst (pa_cons pe_str (pa_cons pe_str (pa_cons pe_str (pa_cons pe_str pa_nil))))))
    (pss_cons (ps_set (i := 4) scSent.nd rfl (Or.inl rfl) (pe_lst pa_nil))
    (pss_cons (ps_set (i := 5) scSent.nd rfl (Or.inl rfl) (pe_op op_add pe_int (pe_op op_mod (pv 0) (pv 1))))
    (pss_cons (ps_set (i := 0) scSent.nd rfl (Or.inl rfl) (pe_op op_fdiv (pv 0) (pv 1)))
    (pss_cons (ps_for PassesOwn.never rfl (pi_range1 (by rfl) B.range (pa_cons (pv 5) pa_nil)) (pg_name (i := 6) scSent.nd rfl (Or.inl rfl))
      (pss_cons (ps_set (i := 7) scSent.nd rfl (Or.inl rfl) (pe_op op_mod (pv 0) pe_int))
      (pss_cons (ps_set (i := 0) scSent.nd rfl (Or.inl rfl) (pe_op op_fdiv (pv 0) pe_int))
      (pss_one (ps_if (pw_and (pt_cmpR op_eq (pv 7) pe_int (nomark _)) (pw_and1 (pt_cmpR (op_neE hr.units0) (pv 4) (pe_lst pa_nil) (nomark _)))).pt
        (pss_one (ps_expr (pe_bm PySem.F.plainAttrs_list PySem.F.slot_list_append PySem.F.type_list_append mt_append (pv 4) (pa_cons (pe_tup (pa_cons pe_str (pa_cons (pe_bm0 PySem.F.plainAttrs_list PySem.F.slot_list_pop PySem.F.type_list_pop mt_pop (pv 4)) pa_nil))) pa_nil))))
        (pss_one (ps_if (pw_and (pt_cmpR op_gt (pv 7) pe_int (nomark _)) (pw_and1 (pt_cmpR op_gt (pe_callB call_len_seq (by rfl) B.len PySem.boot_len (pa_cons (pv 4) pa_nil)) pe_int (nomark _)))).pt
          (pss_cons (ps_set (i := 8) scSent.nd rfl (Or.inl rfl) (pe_bm0 PySem.F.plainAttrs_list PySem.F.slot_list_pop PySem.F.type_list_pop mt_pop (pv 4)))
          (pss_one (ps_expr (pe_bm PySem.F.plainAttrs_list PySem.F.slot_list_append PySem.F.type_list_append mt_append (pv 4) (pa_cons (pe_tup (pa_cons (pe_ix ix_list (pv 3) (pe_op op_sub (pv 7) pe_int) (fun _ _ => rfl)) (pa_cons (pe_bm0 PySem.F.plainAttrs_list PySem.F.slot_list_pop PySem.F.type_list_pop mt_pop (pv 4)) (pa_cons (pv 8) pa_nil)))) pa_nil)))))
          (pss_one (ps_expr (pe_bm PySem.F.plainAttrs_list PySem.F.slot_list_append PySem.F.type_list_append mt_append (pv 4) (pa_cons (pe_tup (pa_cons pe_str (pa_cons (pe_op op_mod (pv 7) (pv 2)) pa_nil))) pa_nil)))))))))))
    (pss_cons (ps_while PassesOwn.never (pt_cmpR op_gt (pe_callB call_len_seq (by rfl) B.len PySem.boot_len (pa_cons (pv 4) pa_nil)) pe_int (nomark _))
      (pss_cons (ps_set (i := 8) scSent.nd rfl (Or.inl rfl) (pe_bm0 PySem.F.plainAttrs_list PySem.F.slot_list_pop PySem.F.type_list_pop mt_pop (pv 4)))
      (pss_cons (ps_expr (pe_bm PySem.F.plainAttrs_list PySem.F.slot_list_append PySem.F.type_list_append mt_append (pv 4) (pa_cons (pe_tup (pa_cons (pe_ix ix_list (pv 3) (pe_op op_mod (pv 0) pe_int) (fun _ _ => rfl)) (pa_cons (pe_bm0 PySem.F.plainAttrs_list PySem.F.slot_list_pop PySem.F.type_list_pop mt_pop (pv 4)) (pa_cons (pv 8) pa_nil)))) pa_nil)))
      (pss_one (ps_set (i := 0) scSent.nd rfl (Or.inl rfl) (pe_op op_fdiv (pv 0) pe_int))))))
    (pss_one (ps_ret (pe_ix ix_list (pv 4) pe_int (fun _ _ => rfl))))))))), ?_⟩
  -- joints, pile, size, n
  refine ⟨le4, fun jl hjl => ⟨le0, fun pl hpl => ?_⟩⟩
  have sJ : Same H (upd H jl (.lst joints)) := same_new hjl _
  have nJ : jl ≠ pl := ne_of_none (upd_same (H := H) (a := jl) (o := .lst joints)) hpl
  refine ⟨_, rfl, _, rfl, _, _, rfl, rfl, (by omega), _, _, rfl, rfl, _, rfl, _, rfl, _, _, rfl, rfl, ⟨by omega, by omega⟩, ?_⟩
  have hsz0 := Int.emod_nonneg n (show (most : Int) ≠ 0 by omega)
  have hsz1 := Int.emod_lt_of_pos n (show (0 : Int) < most by omega)
  have hn0 : 0 ≤ n / (most : Int) := Int.ediv_nonneg h0 (by omega)
  have hs1 : 1 ≤ 1 + n % (most : Int) := by omega
  have hs2 : 1 + n % (most : Int) ≤ most := by omega
  -- the turns
  refine ⟨_, rfl, _, rfl, (by omega), (by omega), for_range (n := (1 + n % (most : Int)).toNat) (SInv (upd H jl (.lst joints)) jl pl most many (1 + n % (most : Int))) ?_ ?_ ?_⟩
  · exact ⟨_, none, none, none, [], [], rfl, hn0, ⟨same_new hpl _, upd_same, .nil, fun t ht => absurd ht (by simp)⟩, Nat.le_refl _, Nat.le_refl _, fun z => z⟩
  · rintro i σ H2 hi ⟨m, tv, dv, rv, xs, ts, rfl, hm, p, z1, z2, z3⟩
    have hlen := p.len
    have hi' : i < 12 := by omega
    have hm2 : 0 ≤ m / 10 := by omega
    have hd0 : 0 ≤ m % 10 := by omega
    have hd1 : m % 10 < 10 := by omega
    have lt12 : ∀ {k : Nat}, k ≤ 12 → k < sizeLine := fun h => small1000 (Nat.le_trans h (by decide))
    refine ⟨_, rfl, _, _, rfl, rfl, (by show (0 : Int) < 10; decide), _, rfl, _, _, rfl, rfl, ⟨by decide, by decide⟩, ?_⟩
    -- if digit == 5 and pile != []
    refine ⟨_, rfl, rfl, _, rfl, ?_⟩
    refine ite2 (fun c1 => ?_) (fun c1 => ?_)
    · refine ⟨_, rfl, le0, fun e he => ?_⟩
      have p3 : PileAt (upd H jl (.lst joints)) (upd H2 e (.lst [])) pl xs ts many := p.new he
      refine ⟨pl, e, xs, rfl, rfl, SqL.of p3.at', SqL.of upd_same, _, rfl, ?_⟩
      refine ite2 (fun c2 => ?_) (fun c2 => ?_)
      · have hpos : 0 < ts.length := by
          cases xs with
          | nil => exact absurd c2 (by decide)
          | cons x r => rw [← hlen]; exact Nat.succ_pos _
        obtain ⟨y, ts', t, ey, rfl, okt, ha, p4⟩ := p3.pop hpl hpos
        have hl4 := p4.len
        rw [List.length_append] at z2
        have z2' : ts'.length + 1 ≤ i := z2
        refine ⟨_, rfl, .inl ⟨rfl, _, SqL.of p3.at'⟩, _, rfl, .inl ⟨rfl, _, SqL.of p3.at'⟩, pl, _, y, rfl, rfl, p3.at', ey, le2, fun c hc => ⟨pl, _, _, rfl, rfl, (same_new hc _) _ _ p4.at', lt12 (by omega), ?_⟩⟩
        exact turn_not hpl p4 hc hm2 okt ha z1 (by rw [List.length_append]; exact z2)
      · -- elif, behind the new empty list
        refine ⟨_, rfl, _, _, rfl, rfl, _, rfl, ?_⟩
        refine ite2 (fun c3 => ?_) (fun c3 => ?_)
        · refine ⟨_, rfl, pl, xs, rfl, .inl (SqL.of p3.at'), _, _, rfl, rfl, _, rfl, ?_⟩
          refine ite2 (fun c4 => ?_) (fun c4 => ?_)
          · exfalso
            have : xs = [] := by
              cases xs with
              | nil => rfl
              | cons x r => exact absurd rfl c2
            subst this
            exact absurd c4 (by decide)
          · refine ⟨_, rfl, .inl ⟨rfl, _, SqL.of p3.at'⟩, _, rfl, _, rfl, _, _, rfl, rfl, (by omega), le2, fun c hc => ⟨pl, _, _, rfl, rfl, (same_new hc _) _ _ p3.at', lt12 (by omega), ?_⟩⟩
            exact turn_let hpl p3 hc hy1 hm2 z1 z2
        · refine iteF ?_
          refine ⟨_, rfl, .inl ⟨rfl, _, SqL.of p3.at'⟩, _, rfl, _, rfl, _, _, rfl, rfl, (by omega), le2, fun c hc => ⟨pl, _, _, rfl, rfl, (same_new hc _) _ _ p3.at', lt12 (by omega), ?_⟩⟩
          exact turn_let hpl p3 hc hy1 hm2 z1 z2
    · refine iteF ?_
      refine ⟨_, rfl, _, _, rfl, rfl, _, rfl, ?_⟩
      refine ite2 (fun c3 => ?_) (fun c3 => ?_)
      · have c3' : (5 : Int) < m % 10 := of_decide_eq_true c3
        refine ⟨_, rfl, pl, xs, rfl, .inl (SqL.of p.at'), _, _, rfl, rfl, _, rfl, ?_⟩
        refine ite2 (fun c4 => ?_) (fun c4 => ?_)
        · have c4' : (1 : Int) < (xs.length : Nat) := of_decide_eq_true c4
          obtain ⟨y, ts', t, ey, rfl, okt, ha, p4⟩ := p.pop hpl (by omega)
          rw [List.length_append] at hlen
          have hlen' : xs.length = ts'.length + 1 := hlen
          obtain ⟨x, ts2, u, ex, rfl, oku, hax, p5⟩ := p4.pop hpl (by omega)
          have hl5 := p5.len
          rw [List.length_append, List.length_append] at z2
          have z2' : ts2.length + 1 + 1 ≤ i := z2
          refine ⟨_, rfl, .inl ⟨rfl, _, SqL.of p.at'⟩, pl, _, y, rfl, rfl, p.at', ey, ?_⟩
          refine ⟨_, rfl, .inl ⟨rfl, _, SqL.of p4.at'⟩, _, rfl, _, rfl, _, _, rfl, rfl, jl, joints, _, _, rfl, rfl, SqL.of (p4.sm _ _ upd_same), joint_at (by omega) (by omega), _, rfl, .inl ⟨rfl, _, SqL.of p4.at'⟩, pl, _, x, rfl, rfl, p4.at', ex, _, rfl, le3, fun c hc => ⟨pl, _, _, rfl, rfl, (same_new hc _) _ _ p5.at', lt12 (by omega), ?_⟩⟩
          exact turn_bn hpl p5 hc hm2 (by omega) (by omega) okt oku (ha.keep (TS.lst p4.at')) hax z1 (by rw [List.length_append, List.length_append]; exact z2)
        · refine ⟨_, rfl, .inl ⟨rfl, _, SqL.of p.at'⟩, _, rfl, _, rfl, _, _, rfl, rfl, (by omega), le2, fun c hc => ⟨pl, _, _, rfl, rfl, (same_new hc _) _ _ p.at', lt12 (by omega), ?_⟩⟩
          exact turn_let hpl p hc hy1 hm2 z1 z2
      · refine iteF ?_
        refine ⟨_, rfl, .inl ⟨rfl, _, SqL.of p.at'⟩, _, rfl, _, rfl, _, _, rfl, rfl, (by omega), le2, fun c hc => ⟨pl, _, _, rfl, rfl, (same_new hc _) _ _ p.at', lt12 (by omega), ?_⟩⟩
        exact turn_let hpl p hc hy1 hm2 z1 z2
  · rintro σ H2 ⟨m, tv, dv, rv, xs, ts, rfl, hm, p, z1, z2, z3⟩
    have z3' := z3 (by omega)
    -- while len(pile) > 1
    refine ⟨WInv (upd H jl (.lst joints)) jl pl most many (1 + n % (most : Int)), ⟨ts.length, m, tv, dv, rv, xs, ts, rfl, hm, p, by omega, rfl, z3'⟩, ?_⟩
    rintro k σ H3 ⟨m, tv, dv, rv, xs, ts, rfl, hm, p, z1, z2, z3⟩
    have hlen := p.len
    have hm2 : 0 ≤ m / 4 := by omega
    have lt12 : ∀ {k : Nat}, k ≤ 24 → k < sizeLine := fun h => small1000 (Nat.le_trans h (by decide))
    refine ⟨_, rfl, pl, xs, rfl, .inl (SqL.of p.at'), _, _, rfl, rfl, _, rfl, ?_⟩
    refine ite2 (fun c4 => ?_) (fun c4 => ?_)
    · have c4' : (1 : Int) < (xs.length : Nat) := of_decide_eq_true c4
      refine ⟨fun σ' H' => ∃ k', k' < k ∧ WInv (upd H jl (.lst joints)) jl pl most many (1 + n % (most : Int)) k' σ' H', fun _ _ h => h, ?_⟩
      obtain ⟨y, ts', t, ey, rfl, okt, ha, p4⟩ := p.pop hpl (by omega)
      rw [List.length_append] at hlen
      have hlen' : xs.length = ts'.length + 1 := hlen
      obtain ⟨x, ts2, u, ex, rfl, oku, hax, p5⟩ := p4.pop hpl (by omega)
      have hl5 := p5.len
      have z2' : ts2.length + 1 + 1 = k := by
        rw [List.length_append, List.length_append] at z2
        exact z2
      refine ⟨_, rfl, .inl ⟨rfl, _, SqL.of p.at'⟩, pl, _, y, rfl, rfl, p.at', ey, ?_⟩
      refine ⟨_, rfl, .inl ⟨rfl, _, SqL.of p4.at'⟩, _, rfl, _, rfl, _, _, rfl, rfl, (by show (0 : Int) < 4; decide), jl, joints, _, _, rfl, rfl, SqL.of (p4.sm _ _ upd_same), joint_at (by omega) (by omega), _, rfl, .inl ⟨rfl, _, SqL.of p4.at'⟩, pl, _, x, rfl, rfl, p4.at', ex, _, rfl, le3, fun c hc => ⟨pl, _, _, rfl, rfl, (same_new hc _) _ _ p5.at', lt12 (by omega), ?_⟩⟩
      refine ⟨_, rfl, _, _, rfl, rfl, ⟨by decide, by decide⟩, ?_⟩
      exact turn_w hpl p5 hc hm2 (by omega) (by omega) okt oku (ha.keep (TS.lst p4.at')) hax z1 z2
    · have c4' : ¬ (1 : Int) < (xs.length : Nat) := of_decide_eq_false (Bool.eq_false_iff.mpr c4)
      obtain ⟨xs', y, ts', t, rfl, rfl, q1, a⟩ := p.pile.last (by omega)
      rw [List.length_append] at c4'
      have e0 : xs' = [] := by
        have c5 : ¬ (1 : Int) < ((xs'.length + 1 : Nat) : Int) := c4'
        exact List.length_eq_zero_iff.mp (by omega)
      subst e0
      cases q1
      refine ⟨_, rfl, pl, _, _, y, rfl, rfl, SqL.of p.at', atI_nat (j := 0) rfl, ?_⟩
      exact q y t _ (sJ.trans p.sm) a (p.ok t (by simp)) (szle z1)
end
/-! ### what is shown, as codes -/
def jc : Nat → Nat
  | 0 => 38
  | 1 => 124
  | 2 => 62
  | _ => 61
def code : Tr → List Nat
  | .lt k => [97 + k]
  | .nt t => 45 :: code t
  | .bn j a b => 40 :: (code a ++ jc j :: (code b ++ [41]))
theorem code_len : ∀ t : Tr, (code t).length ≤ 4 * t.size
  | .lt _ => by show 1 ≤ 4 * 1; decide
  | .nt t => by
    have := code_len t
    show (code t).length + 1 ≤ 4 * (t.size + 1)
    omega
  | .bn j a b => by
    have h1 := code_len a
    have h2 := code_len b
    show (code a ++ jc j :: (code b ++ [41])).length + 1 ≤ 4 * (a.size + b.size + 1)
    rw [List.length_append, List.length_cons, List.length_append]
    show (code a).length + ((code b).length + 1 + 1) + 1 ≤ _
    omega
abbrev cds (z : Str) : List Nat := z.cps.toList
theorem len_cds (z : Str) : z.length = (cds z).length := by
  show z.cps.size = z.cps.toList.length
  simp
theorem cds_app (a b : Str) : cds (a ++ b) = cds a ++ cds b := cps_toList_append a b
theorem letter_at {k : Nat} (h : k < 5) : atI (cds ("abcde" : Str)) (k : Int) = some (97 + k) := by
  refine atI_nat ?_
  match k, h with
  | 0, _ => rfl
  | 1, _ => rfl
  | 2, _ => rfl
  | 3, _ => rfl
  | 4, _ => rfl
theorem joint_sign {j : Nat} (h : j < 4) : atI (cds ("&|>=" : Str)) (j : Int) = some (jc j) := by
  refine atI_nat ?_
  match j, h with
  | 0, _ => rfl
  | 1, _ => rfl
  | 2, _ => rfl
  | 3, _ => rfl
theorem joints_flat : joints.all flatV = true := rfl
theorem joint_idx {j : Nat} (h : j < 4) : joints[j]? = some (.str (jn j)) ∧ eqV (.str (jn j)) (.str (jn j)) = true ∧ ∀ m c, m < j → joints[m]? = some c → eqV c (.str (jn j)) = false := by
  match j, h with
  | 0, _ => exact ⟨rfl, by decide, fun m c hm => absurd hm (Nat.not_lt_zero _)⟩
  | 1, _ =>
    refine ⟨rfl, by decide, fun m c hm e => ?_⟩
    match m, hm with
    | 0, _ => cases e; decide
  | 2, _ =>
    refine ⟨rfl, by decide, fun m c hm e => ?_⟩
    match m, hm with
    | 0, _ => cases e; decide
    | 1, _ => cases e; decide
  | 3, _ =>
    refine ⟨rfl, by decide, fun m c hm e => ?_⟩
    match m, hm with
    | 0, _ => cases e; decide
    | 1, _ => cases e; decide
    | 2, _ => cases e; decide
theorem jn_let {j : Nat} : ¬ (V.str (jn j) = V.str "let") := by
  match j with
  | 0 => decide
  | 1 => decide
  | 2 => decide
  | _ + 3 => show ¬ (V.str "same" = V.str "let"); decide
theorem jn_not {j : Nat} : ¬ (V.str (jn j) = V.str "not") := by
  match j with
  | 0 => decide
  | 1 => decide
  | 2 => decide
  | _ + 3 => show ¬ (V.str "same" = V.str "not"); decide
/-- a test that is known -/
theorem iteY {c A B : Prop} [Decidable c] (h : c) (a : A) : if decide c = true then A else B := by
  rw [decide_eq_true h, if_pos rfl]
  exact a
theorem iteN {c A B : Prop} [Decidable c] (h : ¬ c) (b : B) : if decide c = true then A else B := by
  rw [decide_eq_false h, if_neg Bool.false_ne_true]
  exact b
/-- a def that is called by its name -/
structure Cal (K : PySem.W.Frag) (mg : Str → Option Value) (x : Str) (f : Addr) (fd : FuncData) (ps : List Str) : Prop where
  m : mg x = some (.ref f)
  k : PySem.W.keepIn K (.ref f) = true
  b : Binds K fd ps []
/-! ### what is true in a world -/
def bitv (k : Nat) (w : Int) : Bool := decide (w / 2 ^ k % 2 = 1)
def jv : Nat → Bool → Bool → Bool
  | 0, a, b => a && b
  | 1, a, b => a || b
  | 2, a, b => !a || b
  | _, a, b => decide (a = b)
def tv : Tr → Int → Bool
  | .lt k, w => bitv k w
  | .nt t, w => !tv t w
  | .bn j a b, w => jv j (tv a w) (tv b w)
def pows : List V := [.int 1, .int 2, .int 4, .int 8, .int 16]
theorem pow_at {k : Nat} (h : k < 5) : atI pows ((k : Nat) : Int) = some (.int (2 ^ k)) := by
  refine atI_nat ?_
  match k, h with
  | 0, _ => rfl
  | 1, _ => rfl
  | 2, _ => rfl
  | 3, _ => rfl
  | 4, _ => rfl
theorem pow_pos (k : Nat) : (0 : Int) < 2 ^ k := Int.pow_pos (by decide)
theorem pow_lt {k : Nat} (h : k < 5) : (2 : Int) ^ k < 1073741824 := by
  match k, h with
  | 0, _ => decide
  | 1, _ => decide
  | 2, _ => decide
  | 3, _ => decide
  | 4, _ => decide
theorem bit_is (k : Nat) (w : Int) : decide (V.int (w / 2 ^ k % 2) = V.int 1) = bitv k w := by
  unfold bitv
  rw [Bool.eq_iff_iff, decide_eq_true_eq, decide_eq_true_eq]
  exact ⟨fun h => by injection h, fun h => by rw [h]⟩
theorem bl_is (a b : Bool) : decide (V.bl a = V.bl b) = decide (a = b) := by cases a <;> cases b <;> rfl
theorem jn0 {j : Nat} (h : V.str (jn j) = V.str "and") : j = 0 := by
  match j with
  | 0 => rfl
  | 1 => exact absurd h (by decide)
  | 2 => exact absurd h (by decide)
  | _ + 3 => exact absurd (show V.str "same" = V.str "and" from h) (by decide)
theorem jn1 {j : Nat} (h : V.str (jn j) = V.str "or") : j = 1 := by
  match j with
  | 0 => exact absurd h (by decide)
  | 1 => rfl
  | 2 => exact absurd h (by decide)
  | _ + 3 => exact absurd (show V.str "same" = V.str "or" from h) (by decide)
theorem jn2 {j : Nat} (h : V.str (jn j) = V.str "if") : j = 2 := by
  match j with
  | 0 => exact absurd h (by decide)
  | 1 => exact absurd h (by decide)
  | 2 => rfl
  | _ + 3 => exact absurd (show V.str "same" = V.str "if" from h) (by decide)
theorem jv3 {j : Nat} (h0 : ¬ V.str (jn j) = V.str "and") (h1 : ¬ V.str (jn j) = V.str "or") (h2 : ¬ V.str (jn j) = V.str "if") (a b : Bool) : jv j a b = decide (a = b) := by
  match j with
  | 0 => exact absurd rfl h0
  | 1 => exact absurd rfl h1
  | 2 => exact absurd rfl h2
  | _ + 3 => rfl
abbrev sLtrue : Stmt := top 17
def spTrue (n : Nat) : Sp := fun vs H Q _ => ∃ (v : V) (t : Tr) (w : Int), vs = [v, .int w] ∧ t.At H v ∧ t.ok 5 ∧ t.size ≤ n ∧ ∀ (H' : Hp), Same H H' → Q (.bl (tv t w)) H'
section
variable {P : Program} {w : World} {K : PySem.W.Frag} {mg : Str → Option Value} {base : Heap} {f : Addr} {fd : FuncData}
theorem scLtrue : FnScope ["_law_sentence_here", "_law_world", "_law_left", "_law_right"] ["_law_sentence_here", "_law_world"] (defScope sLtrue) := ⟨rfl, rfl, rfl, by decide +kernel, rfl, by decide +kernel, by decide +kernel⟩
set_option maxHeartbeats 4000000 in
theorem ok_ltrue {n : Nat} (F : Fun K "_law_true" "_law_true" sLtrue f fd) (G : FnOk P w K mg base CX0 n f fd ["_law_sentence_here", "_law_world"] (spTrue n)) (C : Cal K mg "_law_true" f fd ["_law_sentence_here", "_law_world"]) : FnOk P w K mg base CX0 (n + 1) f fd ["_law_sentence_here", "_law_world"] (spTrue (n + 1)) := by
  refine F.ok scLtrue (fun vs H Q E h => ?_) (fun cdv A outer s H vs Q E hr h => ?_)
  · obtain ⟨v, t, k, rfl, _⟩ := h
    rfl
  obtain ⟨v, t, k, rfl, ha, hok, hs, q⟩ := h
  refine ⟨_, pss_cons (ps_if (pt_cmpR op_eq (pe_ix ix_tup (pv 0) pe_int (fun _ _ => rfl)) pe_str (nomark _))
      (pss_one (ps_ret (pe_cmpR op_eq (pe_op op_mod (pe_op op_fdiv (pv 1) (pe_ix ix_list (pe_lst (pa_cons pe_int (pa_cons pe_int (pa_cons pe_int (pa_cons pe_int (pa_cons pe_int pa_nil)))))) (pe_ix ix_tup (pv 0) pe_int (fun _ _ => rfl)) (fun _ _ => rfl))) pe_int) pe_int (nomark _))))
      pss_nil)
    (pss_cons (ps_if (pt_cmpR op_eq (pe_ix ix_tup (pv 0) pe_int (fun _ _ => rfl)) pe_str (nomark _))
      (pss_one (ps_ret (pe_not (pe_call G hr (by rfl) C.m C.k C.b .nil pass0 (pa_cons (pe_ix ix_tup (pv 0) pe_int (fun _ _ => rfl)) (pa_cons (pv 1) pa_nil))))))
      pss_nil)
    (pss_cons (ps_set (i := 2) scLtrue.nd rfl (Or.inl rfl) (pe_call G hr (by rfl) C.m C.k C.b .nil pass0 (pa_cons (pe_ix ix_tup (pv 0) pe_int (fun _ _ => rfl)) (pa_cons (pv 1) pa_nil))))
    (pss_cons (ps_set (i := 3) scLtrue.nd rfl (Or.inl rfl) (pe_call G hr (by rfl) C.m C.k C.b .nil pass0 (pa_cons (pe_ix ix_tup (pv 0) pe_int (fun _ _ => rfl)) (pa_cons (pv 1) pa_nil))))
    (pss_cons (ps_if (pt_cmpR op_eq (pe_ix ix_tup (pv 0) pe_int (fun _ _ => rfl)) pe_str (nomark _))
      (pss_one (ps_ret (pe_and (pv 2) (pe_one (pv 3)))))
      pss_nil)
    (pss_cons (ps_if (pt_cmpR op_eq (pe_ix ix_tup (pv 0) pe_int (fun _ _ => rfl)) pe_str (nomark _))
      (pss_one (ps_ret (pe_or (pv 2) (pe_one (pv 3)))))
      pss_nil)
    (pss_cons (ps_if (pt_cmpR op_eq (pe_ix ix_tup (pv 0) pe_int (fun _ _ => rfl)) pe_str (nomark _))
      (pss_one (ps_ret (pe_or (pe_not (pv 2)) (pe_one (pv 3)))))
      pss_nil)
    (pss_one (ps_ret (pe_cmpR op_eq (pv 2) (pv 3) (nomark _)))))))))), ?_⟩
  cases t with
  | lt j =>
    obtain ⟨p, rfl, hp⟩ := ha
    refine ⟨_, rfl, p, _, _, _, rfl, rfl, SqT.of hp, atI_nat (j := 0) rfl, rfl, _, rfl, ?_⟩
    refine iteY rfl ?_
    refine ⟨_, rfl, le5, fun l hl => ?_⟩
    have s1 := same_new hl (.lst pows)
    refine ⟨_, rfl, p, _, _, _, rfl, rfl, SqT.of (s1 _ _ hp), atI_nat (j := 1) rfl, l, pows, _, _, rfl, rfl, SqL.of upd_same, pow_at hok, _, _, rfl, rfl, ⟨pow_pos j, pow_lt hok⟩, _, _, rfl, rfl, (by show (0 : Int) < 2; decide), rfl, ?_⟩
    have := q _ s1
    rw [show tv (.lt j) k = bitv j k from rfl, ← bit_is] at this
    exact this
  | nt t =>
    obtain ⟨p, u, rfl, hp, hu⟩ := ha
    have hs' : t.size + 1 ≤ n + 1 := hs
    refine ⟨_, rfl, p, _, _, _, rfl, rfl, SqT.of hp, atI_nat (j := 0) rfl, rfl, _, rfl, ?_⟩
    refine iteN (by decide) ?_
    refine ⟨_, rfl, p, _, _, _, rfl, rfl, SqT.of hp, atI_nat (j := 0) rfl, rfl, _, rfl, ?_⟩
    refine iteY rfl ?_
    exact ⟨_, rfl, p, _, _, _, rfl, rfl, SqT.of hp, atI_nat (j := 1) rfl, _, rfl, u, t, k, rfl, hu, hok, by omega, fun H' s' => ⟨_, rfl, q H' s'⟩⟩
  | bn j a b =>
    obtain ⟨p, x, y, rfl, hp, hx, hy⟩ := ha
    have hs' : a.size + b.size + 1 ≤ n + 1 := hs
    obtain ⟨hj, oa, ob⟩ := hok
    refine ⟨_, rfl, p, _, _, _, rfl, rfl, SqT.of hp, atI_nat (j := 0) rfl, rfl, _, rfl, ?_⟩
    refine iteN jn_let ?_
    refine ⟨_, rfl, p, _, _, _, rfl, rfl, SqT.of hp, atI_nat (j := 0) rfl, rfl, _, rfl, ?_⟩
    refine iteN jn_not ?_
    refine ⟨_, rfl, p, _, _, _, rfl, rfl, SqT.of hp, atI_nat (j := 1) rfl, _, rfl, x, a, k, rfl, hx, oa, by omega, fun H1 s1 => ?_⟩
    refine ⟨_, rfl, p, _, _, _, rfl, rfl, SqT.of (s1 _ _ hp), atI_nat (j := 2) rfl, _, rfl, y, b, k, rfl, hy.keep (TS.same s1), ob, by omega, fun H2 s2 => ?_⟩
    have hp2 := s2 _ _ (s1 _ _ hp)
    have q2 := q H2 (s1.trans s2)
    have etv : tv (.bn j a b) k = jv j (tv a k) (tv b k) := rfl
    rw [etv] at q2
    generalize tv a k = va at q2
    generalize tv b k = vb at q2
    refine ⟨_, rfl, p, _, _, _, rfl, rfl, SqT.of hp2, atI_nat (j := 0) rfl, rfl, _, rfl, ?_⟩
    by_cases h0 : V.str (jn j) = V.str "and"
    · refine iteY h0 ?_
      obtain rfl := jn0 h0
      cases va with
      | false => exact ⟨_, rfl, _, rfl, iteF q2⟩
      | true => exact ⟨_, rfl, _, rfl, iteT ⟨_, rfl, q2⟩⟩
    refine iteN h0 ?_
    refine ⟨_, rfl, p, _, _, _, rfl, rfl, SqT.of hp2, atI_nat (j := 0) rfl, rfl, _, rfl, ?_⟩
    by_cases h1 : V.str (jn j) = V.str "or"
    · refine iteY h1 ?_
      obtain rfl := jn1 h1
      cases va with
      | false => exact ⟨_, rfl, _, rfl, iteF ⟨_, rfl, q2⟩⟩
      | true => exact ⟨_, rfl, _, rfl, iteT q2⟩
    refine iteN h1 ?_
    refine ⟨_, rfl, p, _, _, _, rfl, rfl, SqT.of hp2, atI_nat (j := 0) rfl, rfl, _, rfl, ?_⟩
    by_cases h2 : V.str (jn j) = V.str "if"
    · refine iteY h2 ?_
      obtain rfl := jn2 h2
      cases va with
      | false => exact ⟨_, rfl, _, rfl, _, rfl, iteT q2⟩
      | true => exact ⟨_, rfl, _, rfl, _, rfl, iteF ⟨_, rfl, q2⟩⟩
    refine iteN h2 ?_
    rw [jv3 h0 h1 h2] at q2
    refine ⟨_, rfl, _, rfl, rfl, ?_⟩
    rw [bl_is]
    exact q2
theorem ltrue0 : FnOk P w K mg base CX0 0 f fd ["_law_sentence_here", "_law_world"] (spTrue 0) := by
  have no : ∀ vs H Q E, ¬ spTrue 0 vs H Q E := fun vs H Q E h => by
    obtain ⟨v, t, k, _, _, _, h1, _⟩ := h
    have := t.size_pos
    omega
  exact ⟨fun vs H Q E h => absurd h (no vs H Q E), fun A outer s H args us vs Q E _ _ _ _ h => absurd h (no vs H Q E)⟩
theorem ltrue_all (F : Fun K "_law_true" "_law_true" sLtrue f fd) (C : Cal K mg "_law_true" f fd ["_law_sentence_here", "_law_world"]) : ∀ n : Nat, FnOk P w K mg base CX0 n f fd ["_law_sentence_here", "_law_world"] (spTrue n)
  | 0 => ltrue0
  | n + 1 => ok_ltrue F (ltrue_all F C n) C
end
/-- the names of built-ins, none of them taken -/
structure BTx (mg : Str → Option Value) : Prop where
  isi : mg "isinstance" = none
  int : mg "int" = none
  bool : mg "bool" = none
  str : mg "str" = none
  tup : mg "tuple" = none
  lst : mg "list" = none
  set : mg "set" = none
  sorted : mg "sorted" = none
  rng : mg "range" = none
  any : mg "any" = none
  all : mg "all" = none
theorem boot_lst : bootBuiltins "list" = some (.type "list") := by decide +kernel
theorem boot_tup : bootBuiltins "tuple" = some (.type "tuple") := by decide +kernel
/-- rows in the heap -/
abbrev RowAt (H : Hp) (p : Addr) (row : List Int) : Prop := H p = some (.lst (row.map V.int))
abbrev RowsAt (H : Hp) : List V → List (List Int) → Prop := Paired fun (v : V) (row : List Int) => ∃ p, v = .ref p ∧ RowAt H p row
theorem RowsAt.keep {H H' : Hp} (s : Same H H') : ∀ {xs : List V} {rs : List (List Int)}, RowsAt H xs rs → RowsAt H' xs rs
  | _, _, .nil => .nil
  | _, _, .cons ⟨p, e, h⟩ q => .cons ⟨p, e, s _ _ h⟩ (RowsAt.keep s q)
theorem RowsAt.get {H : Hp} : ∀ {xs : List V} {rs : List (List Int)} {i : Nat} {x : V}, RowsAt H xs rs → xs[i]? = some x → ∃ row p, rs[i]? = some row ∧ x = .ref p ∧ RowAt H p row
  | _, _, _, _, .nil, e => by simp at e
  | _, _, 0, _, .cons ⟨p, e1, h⟩ _, e => by
    simp at e
    subst e
    exact ⟨_, p, rfl, e1, h⟩
  | _, _, i + 1, x, .cons _ q, e => by
    obtain ⟨row, p, h1, h2⟩ := RowsAt.get (i := i) q (by simpa using e)
    exact ⟨row, p, by simpa using h1, h2⟩
theorem RowsAt.len {H : Hp} {xs : List V} {rs : List (List Int)} (h : RowsAt H xs rs) : xs.length = rs.length := Paired.length h
abbrev sLworlds : Stmt := top 25
def sizes : List V := [.int 2, .int 4, .int 8, .int 16, .int 32]
theorem size_at {m : Nat} (h1 : 1 ≤ m) (h5 : m ≤ 5) : atI sizes ((m : Int) - 1) = some (.int ((2 ^ m : Nat) : Int)) := by
  match m, h1, h5 with
  | 1, _, _ => exact atI_nat (j := 0) rfl
  | 2, _, _ => exact atI_nat (j := 1) rfl
  | 3, _, _ => exact atI_nat (j := 2) rfl
  | 4, _, _ => exact atI_nat (j := 3) rfl
  | 5, _, _ => exact atI_nat (j := 4) rfl
theorem two_le {m : Nat} (h : m ≤ 5) : 2 ^ m ≤ 32 := Nat.pow_le_pow_right (n := 2) (by decide) h
theorem upto_len (n : Nat) : (upto n).length = n := by unfold upto; simp
theorem upto_up (n : Nat) : (upto n).Pairwise (· < ·) := by
  unfold upto
  rw [List.pairwise_map]
  exact List.pairwise_lt_range.imp fun h => by omega
theorem mem_upto {n : Nat} {k : Int} : k ∈ upto n ↔ 0 ≤ k ∧ k < n := by
  unfold upto
  rw [List.mem_map]
  constructor
  · rintro ⟨a, ha, rfl⟩
    have := List.mem_range.mp ha
    omega
  · rintro ⟨h0, h1⟩
    exact ⟨k.toNat, List.mem_range.mpr (by omega), by omega⟩
def spWorlds : Sp := fun vs H Q _ => ∃ (m : Nat), vs = [.int (m : Int)] ∧ 1 ≤ m ∧ m ≤ 5 ∧ ∀ (l : Addr) (H' : Hp), Same H H' → H l = none → RowAt H' l (upto (2 ^ m)) → Q (.ref l) H'
section
variable {P : Program} {w : World} {K : PySem.W.Frag} {mg : Str → Option Value} {base : Heap} {f : Addr} {fd : FuncData}
theorem scLworlds : FnScope ["_law_many_here"] ["_law_many_here"] (defScope sLworlds) := ⟨rfl, rfl, rfl, by decide +kernel, rfl, by decide +kernel, by decide +kernel⟩
theorem ok_lworlds (F : Fun K "_law_worlds" "_law_worlds" sLworlds f fd) (T : BTx mg) : FnOk P w K mg base CX0 1 f fd ["_law_many_here"] spWorlds := by
  refine F.ok scLworlds (fun vs H Q E h => ?_) (fun cdv A outer s H vs Q E hr h => ?_)
  · obtain ⟨m, rfl, _⟩ := h
    rfl
  obtain ⟨m, rfl, h1, h5, q⟩ := h
  refine ⟨_, pss_one (ps_ret (pe_callTy (call_listR rfl) (by rfl) T.lst boot_lst (pa_cons (pe_callTy call_rng1 (by rfl) T.rng boot_range (pa_cons (pe_ix ix_list (pe_lst (pa_cons pe_int (pa_cons pe_int (pa_cons pe_int (pa_cons pe_int (pa_cons pe_int pa_nil)))))) (pe_op op_sub (pv 0) pe_int) (fun _ _ => rfl)) pa_nil)) pa_nil))), ?_⟩
  refine ⟨le5, fun l hl => ?_⟩
  have s1 := same_new hl (.lst sizes)
  refine ⟨_, rfl, _, _, rfl, rfl, l, sizes, _, _, rfl, rfl, SqL.of upd_same, size_at h1 h5, _, rfl, fun r hr2 => ?_⟩
  have s2 := same_new hr2 (.rng 0 ((2 ^ m : Nat) : Int))
  refine ⟨r, 2 ^ m, rfl, upd_same, Nat.le_trans (two_le h5) (by decide), fun l2 hl2 => ?_⟩
  have s3 := same_new hl2 (.lst ((upto (2 ^ m)).map V.int))
  exact q l2 _ (s1.trans (s2.trans s3)) ((s1.trans s2).free hl2) upd_same
end
abbrev sLins : Stmt := top 18
def spIns (K : PySem.W.Frag) (b : Bool) : Sp := fun vs H Q _ => ∃ (v : V) (t : Tr) (r : Addr) (row : List Int), vs = [v, .ref r] ∧ t.At H v ∧ t.ok 5 ∧ t.size ≤ 23 ∧ SqL K H r (row.map V.int) ∧ row.length ≤ 900 ∧ ∀ (l : Addr) (H' : Hp), Same H H' → H l = none → RowAt H' l (row.filter fun k => tv t k == b) → Q (.ref l) H'
section
variable {P : Program} {w : World} {K : PySem.W.Frag} {mg : Str → Option Value} {base : Heap} {f : Addr} {fd : FuncData}
theorem scLins : FnScope ["_law_sentence_here", "_law_row"] ["_law_sentence_here", "_law_row"] (defScope sLins) := ⟨rfl, rfl, rfl, by decide +kernel, rfl, by decide +kernel, by decide +kernel⟩
theorem ok_lins {g : Addr} {gd : FuncData} (F : Fun K "_law_ins" "_law_ins" sLins f fd) (GT : FnOk P w K mg base CX0 23 g gd ["_law_sentence_here", "_law_world"] (spTrue 23)) (CT : Cal K mg "_law_true" g gd ["_law_sentence_here", "_law_world"]) : FnOk P w K mg base CX0 24 f fd ["_law_sentence_here", "_law_row"] (spIns K true) := by
  refine F.ok scLins (fun vs H Q E h => ?_) (fun cdv A outer s H vs Q E hr h => ?_)
  · obtain ⟨v, t, r, row, rfl, _⟩ := h
    rfl
  obtain ⟨v, t, r, row, rfl, ha, hok, hs, hS, hl, q⟩ := h
  refine ⟨_, pss_one (ps_ret (pe_comp1 (N := ["_law_world", "_law_sentence_here"]) (js := [none, some 0]) (cl := [("_law_sentence_here", s.heap.objs.size + 1)]) ⟨rfl, rfl, rfl, (by intro p hp; simp at hp; rcases hp with rfl <;> rfl), rfl, rfl, rfl⟩ (pi_list (pv 1)) (fun c1 => (pg_name (i := 0) (show (["_law_world", "_law_sentence_here"] : List Str).Nodup by decide +kernel) rfl (Or.inl rfl))) (fun c1 => (pts_one (pt_val (pe_call GT hr (by rfl) CT.m CT.k CT.b .nil pass0 (pa_cons (pv 1) (pa_cons (pv 0) pa_nil)))))) (fun c1 => (pv 0)))), ?_⟩
  refine ⟨_, rfl, r, rfl, ⟨_, hS⟩, fun cc acc hacc => comp_filter (p := fun k => tv t k == true) (rest := [some v]) hS hacc hl (fun k hk H2 s2 R hR => ?_) (fun v0 H2 s2 h2 => q acc H2 s2 hacc h2) none⟩
  refine ⟨_, rfl, _, rfl, v, t, k, rfl, ha.keep (TS.same s2), hok, hs, fun H3 s3 => ⟨_, rfl, ?_⟩⟩
  have := hR H3 s3
  rw [show (tv t k == true) = tv t k by cases tv t k <;> rfl] at this
  exact this
end
abbrev sLouts : Stmt := top 19
section
variable {P : Program} {w : World} {K : PySem.W.Frag} {mg : Str → Option Value} {base : Heap} {f : Addr} {fd : FuncData}
theorem scLouts : FnScope ["_law_sentence_here", "_law_row"] ["_law_sentence_here", "_law_row"] (defScope sLouts) := ⟨rfl, rfl, rfl, by decide +kernel, rfl, by decide +kernel, by decide +kernel⟩
theorem ok_louts {g : Addr} {gd : FuncData} (F : Fun K "_law_outs" "_law_outs" sLouts f fd) (GT : FnOk P w K mg base CX0 23 g gd ["_law_sentence_here", "_law_world"] (spTrue 23)) (CT : Cal K mg "_law_true" g gd ["_law_sentence_here", "_law_world"]) : FnOk P w K mg base CX0 24 f fd ["_law_sentence_here", "_law_row"] (spIns K false) := by
  refine F.ok scLouts (fun vs H Q E h => ?_) (fun cdv A outer s H vs Q E hr h => ?_)
  · obtain ⟨v, t, r, row, rfl, _⟩ := h
    rfl
  obtain ⟨v, t, r, row, rfl, ha, hok, hs, hS, hl, q⟩ := h
  refine ⟨_, pss_one (ps_ret (pe_comp1 (N := ["_law_world", "_law_sentence_here"]) (js := [none, some 0]) (cl := [("_law_sentence_here", s.heap.objs.size + 1)]) ⟨rfl, rfl, rfl, (by intro p hp; simp at hp; rcases hp with rfl <;> rfl), rfl, rfl, rfl⟩ (pi_list (pv 1)) (fun c1 => (pg_name (i := 0) (show (["_law_world", "_law_sentence_here"] : List Str).Nodup by decide +kernel) rfl (Or.inl rfl))) (fun c1 => (pts_one (pt_not (pt_val (pe_call GT hr (by rfl) CT.m CT.k CT.b .nil pass0 (pa_cons (pv 1) (pa_cons (pv 0) pa_nil))))))) (fun c1 => (pv 0)))), ?_⟩
  refine ⟨_, rfl, r, rfl, ⟨_, hS⟩, fun cc acc hacc => comp_filter (p := fun k => tv t k == false) (rest := [some v]) hS hacc hl (fun k hk H2 s2 R hR => ?_) (fun v0 H2 s2 h2 => q acc H2 s2 hacc h2) none⟩
  refine ⟨_, rfl, _, rfl, v, t, k, rfl, ha.keep (TS.same s2), hok, hs, fun H3 s3 => ⟨_, rfl, ?_⟩⟩
  have := hR H3 s3
  rw [show (tv t k == false) = !tv t k by cases tv t k <;> rfl] at this
  exact this
end
abbrev sLsome : Stmt := top 23
def spSome (K : PySem.W.Frag) : Sp := fun vs H Q _ => ∃ (n : Int) (r : Addr) (row : List Int), vs = [.int n, .ref r] ∧ SqL K H r (row.map V.int) ∧ row.length ≤ 900 ∧ ∀ (l : Addr) (row' : List Int) (H' : Hp), Same H H' → H l = none → RowAt H' l row' → row'.Sublist row → Q (.ref l) H'
section
variable {P : Program} {w : World} {K : PySem.W.Frag} {mg : Str → Option Value} {base : Heap} {f : Addr} {fd : FuncData}
theorem scLsome : FnScope ["_law_n", "_law_row", "_law_found", "_law_one"] ["_law_n", "_law_row"] (defScope sLsome) := ⟨rfl, rfl, rfl, by decide +kernel, rfl, by decide +kernel, by decide +kernel⟩
theorem ok_lsome (F : Fun K "_law_some" "_law_some" sLsome f fd) : FnOk P w K mg base CX0 1 f fd ["_law_n", "_law_row"] (spSome K) := by
  refine F.ok scLsome (fun vs H Q E h => ?_) (fun cdv A outer s H vs Q E hr h => ?_)
  · obtain ⟨n, r, row, rfl, _⟩ := h
    rfl
  obtain ⟨n, r, row, rfl, hS, hl, q⟩ := h
  refine ⟨_, pss_cons (ps_set (i := 2) scLsome.nd rfl (Or.inl rfl) (pe_lst pa_nil))
    (pss_cons (ps_for PassesOwn.never rfl (pi_list (pv 1)) (pg_name (i := 3) scLsome.nd rfl (Or.inl rfl))
      (pss_cons (ps_if (pt_cmpR op_eq (pe_op op_mod (pv 0) pe_int) pe_int (nomark _))
        (pss_one (ps_expr (pe_bm PySem.F.plainAttrs_list PySem.F.slot_list_append PySem.F.type_list_append mt_append (pv 2) (pa_cons (pv 3) pa_nil))))
        pss_nil)
      (pss_one (ps_set (i := 0) scLsome.nd rfl (Or.inl rfl) (pe_op op_fdiv (pv 0) pe_int)))))
    (pss_one (ps_ret (pv 2)))), ?_⟩
  refine ⟨le0, fun l hlf => ?_⟩
  have s1 := same_new hlf (.lst [])
  refine ⟨_, rfl, r, rfl, ⟨_, s1.seq hS⟩, for_list (K := K) (a := r) (xs := row.map V.int) (fun i σ H2 => ∃ (m : Int) (ov : Option V) (row' : List Int), σ = [some (.int m), some (.ref r), some (.ref l), ov] ∧ Same H H2 ∧ RowAt H2 l row' ∧ row'.Sublist (row.take i)) ⟨_, _, [], rfl, s1, upd_same, List.Sublist.refl _⟩ ?_ ?_ ?_⟩
  · rintro i σ H2 _ ⟨m, ov, row', rfl, s2, _, _⟩
    exact s2.seq hS
  · rintro i x σ H2 hx ⟨m, ov, row', rfl, s2, hl2, hsub⟩
    rw [List.getElem?_map] at hx
    obtain ⟨k, hk, rfl⟩ := Option.map_eq_some_iff.mp hx
    have et : row.take (i + 1) = row.take i ++ [k] := by rw [List.take_add_one, hk]; rfl
    refine ⟨_, rfl, _, _, rfl, rfl, (by show (0 : Int) < 2; decide), rfl, _, rfl, ?_⟩
    refine ite2 (fun _ => ?_) (fun _ => ?_)
    · refine ⟨_, rfl, .inl ⟨rfl, _, SqL.of hl2⟩, _, rfl, l, _, _, rfl, rfl, hl2, small1000 ?_, ?_⟩
      · rw [List.length_map]
        have := hsub.length_le
        rw [List.length_take] at this
        omega
      refine ⟨_, rfl, _, _, rfl, rfl, ⟨by decide, by decide⟩, ?_⟩
      refine ⟨_, _, row' ++ [k], rfl, same_put s2 hlf _, ?_, ?_⟩
      · show _ = some (HO.lst ((row' ++ [k]).map V.int))
        rw [upd_same, List.map_append]
        rfl
      · rw [et]
        exact hsub.append (List.Sublist.refl _)
    · refine ⟨_, rfl, _, _, rfl, rfl, ⟨by decide, by decide⟩, ?_⟩
      refine ⟨_, _, row', rfl, s2, hl2, ?_⟩
      rw [et]
      exact hsub.trans (List.sublist_append_left _ _)
  · rintro σ H2 ⟨m, ov, row', rfl, s2, hl2, hsub⟩
    rw [List.length_map, List.take_length] at hsub
    exact ⟨_, rfl, q l row' H2 s2 hlf hl2 hsub⟩
end
abbrev sLsomeone : Stmt := top 24
def spSomeOne (K : PySem.W.Frag) : Sp := fun vs H Q _ => ∃ (n : Int) (r : Addr) (row : List Int), vs = [.int n, .ref r] ∧ SqL K H r (row.map V.int) ∧ row.length ≤ 900 ∧ row ≠ [] ∧ ∀ (l : Addr) (row' : List Int) (H' : Hp), Same H H' → H l = none → RowAt H' l row' → row'.Sublist row → row' ≠ [] → Q (.ref l) H'
theorem row_at {row : List Int} {n : Int} (h : row ≠ []) : ∃ k, atI (row.map V.int) (n % ((row.map V.int).length : Int)) = some (.int k) ∧ k ∈ row := by
  have hp : 0 < row.length := List.length_pos_iff.mpr h
  rw [List.length_map]
  have h1 := Int.emod_nonneg n (show (row.length : Int) ≠ 0 by omega)
  have h2 := Int.emod_lt_of_pos n (show (0 : Int) < row.length by omega)
  obtain ⟨i, ei⟩ := Int.eq_ofNat_of_zero_le h1
  have hi : i < row.length := by omega
  rw [ei]
  refine ⟨row[i], atI_nat ?_, List.getElem_mem hi⟩
  rw [List.getElem?_map, List.getElem?_eq_getElem hi]
  rfl
section
variable {P : Program} {w : World} {K : PySem.W.Frag} {mg : Str → Option Value} {base : Heap} {f : Addr} {fd : FuncData}
theorem scLsomeone : FnScope ["_law_n", "_law_row", "_law_found"] ["_law_n", "_law_row"] (defScope sLsomeone) := ⟨rfl, rfl, rfl, by decide +kernel, rfl, by decide +kernel, by decide +kernel⟩
theorem ok_lsomeone {g : Addr} {gd : FuncData} (F : Fun K "_law_some_one" "_law_some_one" sLsomeone f fd) (B : Bl mg) (G : FnOk P w K mg base CX0 1 g gd ["_law_n", "_law_row"] (spSome K)) (C : Cal K mg "_law_some" g gd ["_law_n", "_law_row"]) : FnOk P w K mg base CX0 2 f fd ["_law_n", "_law_row"] (spSomeOne K) := by
  refine F.ok scLsomeone (fun vs H Q E h => ?_) (fun cdv A outer s H vs Q E hr h => ?_)
  · obtain ⟨n, r, row, rfl, _⟩ := h
    rfl
  obtain ⟨n, r, row, rfl, hS, hl, hne, q⟩ := h
  refine ⟨_, pss_cons (ps_set (i := 2) scLsomeone.nd rfl (Or.inl rfl) (pe_call G hr (by rfl) C.m C.k C.b .nil pass0 (pa_cons (pv 0) (pa_cons (pv 1) pa_nil))))
    (pss_cons (ps_if (pt_cmpR (op_eqE hr.units0) (pv 2) (pe_lst pa_nil) (nomark _))
      (pss_one (ps_ret (pe_lst (pa_cons (pe_ix ix_list (pv 1) (pe_op op_mod (pe_op op_fdiv (pv 0) pe_int) (pe_callB call_len_seq (by rfl) B.len PySem.boot_len (pa_cons (pv 1) pa_nil))) (fun _ _ => rfl)) pa_nil))))
      pss_nil)
    (pss_one (ps_ret (pv 2)))), ?_⟩
  refine ⟨_, rfl, _, rfl, n, r, row, rfl, hS, hl, fun l row' H1 s1 hl1 hr1 hsub => ?_⟩
  refine ⟨_, rfl, le0, fun e he => ?_⟩
  have s2 := same_new he (.lst [])
  refine ⟨l, e, _, rfl, rfl, SqL.of (s2 _ _ hr1), SqL.of upd_same, _, rfl, ?_⟩
  have hp : 0 < row.length := List.length_pos_iff.mpr hne
  cases hrow : row' with
  | nil =>
    refine iteA rfl ?_
    have hS2 := (s1.trans s2).seq hS
    obtain ⟨k, hk, hm⟩ := row_at (n := n / 64) hne
    refine ⟨_, rfl, _, rfl, _, _, rfl, rfl, ⟨by decide, by decide⟩, _, rfl, r, _, rfl, .inl hS2, _, _, rfl, rfl, (by show (0 : Int) < (((row.map V.int).length : Nat) : Int); rw [List.length_map]; omega), r, _, _, _, rfl, rfl, hS2, hk, le1, fun d hd => ?_⟩
    have s3 := same_new hd (.lst [.int k])
    exact q d [k] _ (s1.trans (s2.trans s3)) ((s1.trans s2).free hd) upd_same (List.singleton_sublist.mpr hm) (by simp)
  | cons k rest =>
    refine iteB rfl ?_
    exact ⟨_, rfl, q l row' _ (s1.trans s2) hl1 (s2 _ _ hr1) hsub (by rw [hrow]; simp)⟩
end
abbrev sLroom : Stmt := top 26
def spRoom : Sp := fun vs H Q _ => ∃ (n : Int) (m : Nat), vs = [.int n, .int (m : Int)] ∧ 1 ≤ m ∧ m ≤ 5 ∧ ∀ (l : Addr) (row : List Int) (H' : Hp), Same H H' → H l = none → RowAt H' l row → row.Sublist (upto (2 ^ m)) → row ≠ [] → Q (.ref l) H'
section
variable {P : Program} {w : World} {K : PySem.W.Frag} {mg : Str → Option Value} {base : Heap} {f : Addr} {fd : FuncData}
theorem scLroom : FnScope ["_law_n", "_law_many_here"] ["_law_n", "_law_many_here"] (defScope sLroom) := ⟨rfl, rfl, rfl, by decide +kernel, rfl, by decide +kernel, by decide +kernel⟩
theorem upto_ne {m : Nat} : upto (2 ^ m) ≠ [] := fun h => by
  have := upto_len (2 ^ m)
  rw [h] at this
  have h2 : 0 < 2 ^ m := Nat.pow_pos (by decide)
  have h3 : ([] : List Int).length = 0 := rfl
  omega
theorem ok_lroom {g e : Addr} {gd ed : FuncData} (F : Fun K "_law_room" "_law_room" sLroom f fd) (GW : FnOk P w K mg base CX0 1 g gd ["_law_many_here"] spWorlds) (CW : Cal K mg "_law_worlds" g gd ["_law_many_here"]) (GO : FnOk P w K mg base CX0 2 e ed ["_law_n", "_law_row"] (spSomeOne K)) (CO : Cal K mg "_law_some_one" e ed ["_law_n", "_law_row"]) : FnOk P w K mg base CX0 3 f fd ["_law_n", "_law_many_here"] spRoom := by
  refine F.ok scLroom (fun vs H Q E h => ?_) (fun cdv A outer s H vs Q E hr h => ?_)
  · obtain ⟨n, m, rfl, _⟩ := h
    rfl
  obtain ⟨n, m, rfl, h1, h5, q⟩ := h
  have hr1 : Room 1 _ := hr.mono (by decide)
  refine ⟨_, pss_cons (ps_if (pt_cmpR op_eq (pe_op op_mod (pv 0) pe_int) pe_int (nomark _))
      (pss_one (ps_ret (pe_call GW hr1 (by rfl) CW.m CW.k CW.b .nil pass0 (pa_cons (pv 1) pa_nil))))
      pss_nil)
    (pss_one (ps_ret (pe_call GO hr (by rfl) CO.m CO.k CO.b .nil pass0 (pa_cons (pe_op op_fdiv (pv 0) pe_int) (pa_cons (pe_call GW hr1 (by rfl) CW.m CW.k CW.b .nil pass0 (pa_cons (pv 1) pa_nil)) pa_nil))))), ?_⟩
  have h32 := two_le h5
  refine ⟨_, rfl, _, _, rfl, rfl, (by show (0 : Int) < 3; decide), rfl, _, rfl, ?_⟩
  refine ite2 (fun _ => ?_) (fun _ => ?_)
  · exact ⟨_, rfl, m, rfl, h1, h5, fun l H' s' hl hr' => q l _ H' s' hl hr' (List.Sublist.refl _) upto_ne⟩
  · refine ⟨_, rfl, _, _, rfl, rfl, ⟨by decide, by decide⟩, _, rfl, m, rfl, h1, h5, fun l H1 s1 hl hr1 => ?_⟩
    exact ⟨_, l, _, rfl, SqL.of hr1, by rw [upto_len]; omega, upto_ne, fun l2 row' H2 s2 hl2 hr2 hsub hne => q l2 row' H2 (s1.trans s2) (s1.free hl2) hr2 hsub hne⟩
end
abbrev sLseen : Stmt := top 27
section
variable {P : Program} {w : World} {K : PySem.W.Frag} {mg : Str → Option Value} {base : Heap} {f : Addr} {fd : FuncData}
theorem scLseen : FnScope ["_law_n", "_law_room_here"] ["_law_n", "_law_room_here"] (defScope sLseen) := ⟨rfl, rfl, rfl, by decide +kernel, rfl, by decide +kernel, by decide +kernel⟩
theorem ok_lseen {e : Addr} {ed : FuncData} (F : Fun K "_law_seen" "_law_seen" sLseen f fd) (T : BTx mg) (B : Bl mg) (GO : FnOk P w K mg base CX0 2 e ed ["_law_n", "_law_row"] (spSomeOne K)) (CO : Cal K mg "_law_some_one" e ed ["_law_n", "_law_row"]) : FnOk P w K mg base CX0 3 f fd ["_law_n", "_law_room_here"] (spSomeOne K) := by
  refine F.ok scLseen (fun vs H Q E h => ?_) (fun cdv A outer s H vs Q E hr h => ?_)
  · obtain ⟨n, r, row, rfl, _⟩ := h
    rfl
  obtain ⟨n, r, row, rfl, hS, hl, hne, q⟩ := h
  have hp : 0 < row.length := List.length_pos_iff.mpr hne
  refine ⟨_, pss_cons (ps_if (pt_cmpR op_lt (pe_op op_mod (pv 0) pe_int) pe_int (nomark _))
      (pss_one (ps_ret (pe_lst (pa_cons (pe_ix ix_list (pv 1) (pe_op op_mod (pe_op op_fdiv (pv 0) pe_int) (pe_callB call_len_seq (by rfl) B.len PySem.boot_len (pa_cons (pv 1) pa_nil))) (fun _ _ => rfl)) pa_nil))))
      pss_nil)
    (pss_cons (ps_if (pt_cmpR op_eq (pe_op op_mod (pv 0) pe_int) pe_int (nomark _))
      (pss_one (ps_ret (pe_callTy call_list_of (by rfl) T.lst boot_lst (pa_cons (pv 1) pa_nil))))
      pss_nil)
    (pss_one (ps_ret (pe_call GO hr (by rfl) CO.m CO.k CO.b .nil pass0 (pa_cons (pe_op op_fdiv (pv 0) pe_int) (pa_cons (pv 1) pa_nil)))))), ?_⟩
  refine ⟨_, rfl, _, _, rfl, rfl, (by show (0 : Int) < 5; decide), _, _, rfl, rfl, _, rfl, ?_⟩
  refine ite2 (fun _ => ?_) (fun _ => ?_)
  · obtain ⟨k, hk, hm⟩ := row_at (n := n / 5) hne
    refine ⟨_, rfl, _, rfl, _, _, rfl, rfl, ⟨by decide, by decide⟩, _, rfl, r, _, rfl, .inl hS, _, _, rfl, rfl, (by show (0 : Int) < (((row.map V.int).length : Nat) : Int); rw [List.length_map]; omega), r, _, _, _, rfl, rfl, hS, hk, le1, fun d hd => ?_⟩
    exact q d [k] _ (same_new hd _) hd upd_same (List.singleton_sublist.mpr hm) (by simp)
  refine ⟨_, rfl, _, _, rfl, rfl, (by show (0 : Int) < 5; decide), rfl, _, rfl, ?_⟩
  refine ite2 (fun _ => ?_) (fun _ => ?_)
  · exact ⟨_, rfl, r, _, rfl, .inl hS, fun d hd => q d row _ (same_new hd _) hd upd_same (List.Sublist.refl _) hne⟩
  · exact ⟨_, rfl, _, _, rfl, rfl, ⟨by decide, by decide⟩, _, rfl, n / 5, r, row, rfl, hS, hl, hne, q⟩
end
/-! ### sides, bases, standing -/
def insR (b : Bool) (t : Tr) (row : List Int) : List Int := row.filter fun k => tv t k == b
theorem ins_outs (t : Tr) (row : List Int) : (insR true t row).length + (insR false t row).length = row.length := by
  unfold insR
  induction row with
  | nil => rfl
  | cons k r ih =>
    cases h : tv t k with
    | true => simp [h] at ih ⊢; omega
    | false => simp [h] at ih ⊢; omega
def kindOk (z : Str) (t : Tr) (row : List Int) : Prop := (z = "true" ∧ insR true t row ≠ []) ∨ (z = "false" ∧ insR false t row ≠ []) ∨ (z = "doubt" ∧ insR true t row ≠ [] ∧ insR false t row ≠ [])
def sidesR (z : Str) (t : Tr) (row : List Int) : List (List Int) := if z = "true" then [insR true t row] else if z = "false" then [insR false t row] else [insR true t row, insR false t row]
def baseR (row : List Int) (sides : List (List Int)) : List Int := row.filter fun k => sides.any fun s => decide (k ∈ s)
def standsR (sides : List (List Int)) (row : List Int) : Bool := sides.all fun s => s.any fun k => decide (k ∈ row)
theorem dec_strs (a b : Str) : decide (V.str a = V.str b) = decide (a = b) := by
  rw [Bool.eq_iff_iff, decide_eq_true_eq, decide_eq_true_eq]
  exact ⟨fun h => by injection h, fun h => by rw [h]⟩
abbrev sLkind : Stmt := top 21
def spKind (K : PySem.W.Frag) : Sp := fun vs H Q _ => ∃ (n : Int) (r : Addr) (row : List Int) (v : V) (t : Tr), vs = [.int n, .ref r, v] ∧ t.At H v ∧ t.ok 5 ∧ t.size ≤ 23 ∧ SqL K H r (row.map V.int) ∧ row.length ≤ 900 ∧ row ≠ [] ∧ ∀ (z : Str) (H' : Hp), Same H H' → kindOk z t row → Q (.str z) H'
def kinds : List V := [.str "true", .str "false", .str "doubt"]
section
variable {P : Program} {w : World} {K : PySem.W.Frag} {mg : Str → Option Value} {base : Heap} {f : Addr} {fd : FuncData}
theorem scLkind : FnScope ["_law_n", "_law_room_here", "_law_sentence_here", "_law_ins_here"] ["_law_n", "_law_room_here", "_law_sentence_here"] (defScope sLkind) := ⟨rfl, rfl, rfl, by decide +kernel, rfl, by decide +kernel, by decide +kernel⟩
theorem ok_lkind {g : Addr} {gd : FuncData} (F : Fun K "_law_kind" "_law_kind" sLkind f fd) (B : Bl mg) (GI : FnOk P w K mg base CX0 24 g gd ["_law_sentence_here", "_law_row"] (spIns K true)) (CI : Cal K mg "_law_ins" g gd ["_law_sentence_here", "_law_row"]) : FnOk P w K mg base CX0 25 f fd ["_law_n", "_law_room_here", "_law_sentence_here"] (spKind K) := by
  refine F.ok scLkind (fun vs H Q E h => ?_) (fun cdv A outer s H vs Q E hr h => ?_)
  · obtain ⟨n, r, row, v, t, rfl, _⟩ := h
    rfl
  obtain ⟨n, r, row, v, t, rfl, ha, hok, hs, hS, hl, hne, q⟩ := h
  refine ⟨_, pss_cons (ps_set (i := 3) scLkind.nd rfl (Or.inl rfl) (pe_call GI hr (by rfl) CI.m CI.k CI.b .nil pass0 (pa_cons (pv 2) (pa_cons (pv 1) pa_nil))))
    (pss_cons (ps_if (pt_cmpR (op_eqE hr.units0) (pv 3) (pe_lst pa_nil) (nomark _))
      (pss_one (ps_ret pe_str))
      pss_nil)
    (pss_cons (ps_if (pt_cmpR op_eq (pe_callB call_len_seq (by rfl) B.len PySem.boot_len (pa_cons (pv 3) pa_nil)) (pe_callB call_len_seq (by rfl) B.len PySem.boot_len (pa_cons (pv 1) pa_nil)) (nomark _))
      (pss_one (ps_ret pe_str))
      pss_nil)
    (pss_one (ps_ret (pe_ix ix_list (pe_lst (pa_cons pe_str (pa_cons pe_str (pa_cons pe_str pa_nil)))) (pe_op op_mod (pv 0) pe_int) (fun _ _ => rfl)))))), ?_⟩
  have hio := ins_outs t row
  have hp : 0 < row.length := List.length_pos_iff.mpr hne
  refine ⟨_, rfl, _, rfl, v, t, r, row, rfl, ha, hok, hs, hS, hl, fun l H1 s1 hl1 hr1 => ?_⟩
  refine ⟨_, rfl, le0, fun e he => ?_⟩
  have s2 := same_new he (.lst [])
  refine ⟨l, e, _, rfl, rfl, SqL.of (s2 _ _ hr1), SqL.of upd_same, _, rfl, ?_⟩
  change RowAt H1 l (insR true t row) at hr1
  by_cases h0 : insR true t row = []
  · refine iteA (by show ((insR true t row).map V.int).isEmpty = true; rw [h0]; rfl) ?_
    refine q _ _ (s1.trans s2) (.inr (.inl ⟨rfl, fun z => ?_⟩))
    rw [h0, z] at hio
    have : ([] : List Int).length = 0 := rfl
    omega
  refine iteB (by show ((insR true t row).map V.int).isEmpty = false; cases hq : insR true t row with | nil => exact absurd hq h0 | cons _ _ => rfl) ?_
  refine ⟨_, rfl, l, _, rfl, .inl (SqL.of (s2 _ _ hr1)), _, rfl, r, _, rfl, .inl ((s1.trans s2).seq hS), rfl, _, rfl, ?_⟩
  by_cases h1 : insR false t row = []
  · have e1 : ((insR true t row).map V.int).length = (row.map V.int).length := by
      rw [List.length_map, List.length_map]
      rw [h1] at hio
      have : ([] : List Int).length = 0 := rfl
      omega
    refine iteY (by rw [e1]) ?_
    exact q _ _ (s1.trans s2) (.inl ⟨rfl, h0⟩)
  · have e1 : ¬ (V.int (((insR true t row).map V.int).length : Int) = V.int ((row.map V.int).length : Int)) := by
      rw [List.length_map, List.length_map]
      intro z
      injection z with z
      have := List.length_pos_iff.mpr h1
      omega
    refine iteN e1 ?_
    refine ⟨le3, fun c hc => ?_⟩
    have s3 := same_new hc (.lst kinds)
    have h2 := Int.emod_nonneg n (show (3 : Int) ≠ 0 by decide)
    have h3 := Int.emod_lt_of_pos n (show (0 : Int) < 3 by decide)
    obtain ⟨j, ej⟩ := Int.eq_ofNat_of_zero_le h2
    have hj : j < 3 := by omega
    refine ⟨_, rfl, _, _, rfl, rfl, (by show (0 : Int) < 3; decide), ?_⟩
    have fin : ∀ z : Str, kinds[j]? = some (.str z) → kindOk z t row → rIxL K (.ref c) (.int (n % 3)) (upd (upd H1 e (.lst [])) c (.lst kinds)) Q := fun z hz hk => by
      rw [ej]
      exact ⟨c, kinds, _, _, rfl, rfl, SqL.of upd_same, atI_nat hz, q z _ (s1.trans (s2.trans s3)) hk⟩
    match j, hj, fin with
    | 0, _, fin => exact fin "true" rfl (.inl ⟨rfl, h0⟩)
    | 1, _, fin => exact fin "false" rfl (.inr (.inl ⟨rfl, h1⟩))
    | 2, _, fin => exact fin "doubt" rfl (.inr (.inr ⟨rfl, h0, h1⟩))
end
abbrev sLsides : Stmt := top 20
def spSides (K : PySem.W.Frag) : Sp := fun vs H Q _ => ∃ (r : Addr) (row : List Int) (z : Str) (v : V) (t : Tr), vs = [.ref r, .str z, v] ∧ t.At H v ∧ t.ok 5 ∧ t.size ≤ 23 ∧ SqL K H r (row.map V.int) ∧ row.length ≤ 900 ∧ ∀ (l : Addr) (xs : List V) (H' : Hp), Same H H' → H l = none → H' l = some (.lst xs) → RowsAt H' xs (sidesR z t row) → Q (.ref l) H'
section
variable {P : Program} {w : World} {K : PySem.W.Frag} {mg : Str → Option Value} {base : Heap} {f : Addr} {fd : FuncData}
theorem scLsides : FnScope ["_law_room_here", "_law_kind_here", "_law_sentence_here"] ["_law_room_here", "_law_kind_here", "_law_sentence_here"] (defScope sLsides) := ⟨rfl, rfl, rfl, by decide +kernel, rfl, by decide +kernel, by decide +kernel⟩
theorem ok_lsides {g e : Addr} {gd ed : FuncData} (F : Fun K "_law_sides" "_law_sides" sLsides f fd) (GI : FnOk P w K mg base CX0 24 g gd ["_law_sentence_here", "_law_row"] (spIns K true)) (CI : Cal K mg "_law_ins" g gd ["_law_sentence_here", "_law_row"]) (GO : FnOk P w K mg base CX0 24 e ed ["_law_sentence_here", "_law_row"] (spIns K false)) (CO : Cal K mg "_law_outs" e ed ["_law_sentence_here", "_law_row"]) : FnOk P w K mg base CX0 25 f fd ["_law_room_here", "_law_kind_here", "_law_sentence_here"] (spSides K) := by
  refine F.ok scLsides (fun vs H Q E h => ?_) (fun cdv A outer s H vs Q E hr h => ?_)
  · obtain ⟨r, row, z, v, t, rfl, _⟩ := h
    rfl
  obtain ⟨r, row, z, v, t, rfl, ha, hok, hs, hS, hl, q⟩ := h
  refine ⟨_, pss_cons (ps_if (pt_cmpR op_eq (pv 1) pe_str (nomark _))
      (pss_one (ps_ret (pe_lst (pa_cons (pe_call GI hr (by rfl) CI.m CI.k CI.b .nil pass0 (pa_cons (pv 2) (pa_cons (pv 0) pa_nil))) pa_nil))))
      pss_nil)
    (pss_cons (ps_if (pt_cmpR op_eq (pv 1) pe_str (nomark _))
      (pss_one (ps_ret (pe_lst (pa_cons (pe_call GO hr (by rfl) CO.m CO.k CO.b .nil pass0 (pa_cons (pv 2) (pa_cons (pv 0) pa_nil))) pa_nil))))
      pss_nil)
    (pss_one (ps_ret (pe_lst (pa_cons (pe_call GI hr (by rfl) CI.m CI.k CI.b .nil pass0 (pa_cons (pv 2) (pa_cons (pv 0) pa_nil))) (pa_cons (pe_call GO hr (by rfl) CO.m CO.k CO.b .nil pass0 (pa_cons (pv 2) (pa_cons (pv 0) pa_nil))) pa_nil)))))), ?_⟩
  refine ⟨_, rfl, rfl, _, rfl, ?_⟩
  by_cases h0 : z = "true"
  · refine iteY (by rw [h0]) ?_
    refine ⟨_, rfl, _, rfl, v, t, r, row, rfl, ha, hok, hs, hS, hl, fun l H1 s1 hl1 hr1 => ⟨le1, fun c hc => ?_⟩⟩
    have s2 := same_new hc (.lst [.ref l])
    refine q c _ _ (s1.trans s2) (s1.free hc) upd_same ?_
    unfold sidesR
    rw [if_pos h0]
    exact .cons ⟨l, rfl, s2 _ _ hr1⟩ .nil
  refine iteN (fun e => h0 (by injection e)) ?_
  refine ⟨_, rfl, rfl, _, rfl, ?_⟩
  by_cases h1 : z = "false"
  · refine iteY (by rw [h1]) ?_
    refine ⟨_, rfl, _, rfl, v, t, r, row, rfl, ha, hok, hs, hS, hl, fun l H1 s1 hl1 hr1 => ⟨le1, fun c hc => ?_⟩⟩
    have s2 := same_new hc (.lst [.ref l])
    refine q c _ _ (s1.trans s2) (s1.free hc) upd_same ?_
    unfold sidesR
    rw [if_neg h0, if_pos h1]
    exact .cons ⟨l, rfl, s2 _ _ hr1⟩ .nil
  refine iteN (fun e => h1 (by injection e)) ?_
  refine ⟨_, rfl, _, rfl, v, t, r, row, rfl, ha, hok, hs, hS, hl, fun l H1 s1 hl1 hr1 => ?_⟩
  refine ⟨_, rfl, _, rfl, v, t, r, row, rfl, ha.keep (TS.same s1), hok, hs, s1.seq hS, hl, fun l2 H2 s2 hl2 hr2 => ⟨le2, fun c hc => ?_⟩⟩
  have s3 := same_new hc (.lst [.ref l, .ref l2])
  refine q c _ _ (s1.trans (s2.trans s3)) ((s1.trans s2).free hc) upd_same ?_
  unfold sidesR
  rw [if_neg h0, if_neg h1]
  exact .cons ⟨l, rfl, s3 _ _ (s2 _ _ hr1)⟩ (.cons ⟨l2, rfl, s3 _ _ hr2⟩ .nil)
end
abbrev sLbase : Stmt := top 22
def spBase (K : PySem.W.Frag) : Sp := fun vs H Q _ => ∃ (r sd : Addr) (row : List Int) (xs : List V) (sides : List (List Int)), vs = [.ref r, .ref sd] ∧ SqL K H r (row.map V.int) ∧ row.length ≤ 900 ∧ SqL K H sd xs ∧ RowsAt H xs sides ∧ sides.length ≤ 900 ∧ ∀ (l : Addr) (H' : Hp), Same H H' → H l = none → RowAt H' l (baseR row sides) → Q (.ref l) H'
section
variable {P : Program} {w : World} {K : PySem.W.Frag} {mg : Str → Option Value} {base : Heap} {f : Addr} {fd : FuncData}
theorem scLbase : FnScope ["_law_room_here", "_law_sides_here"] ["_law_room_here", "_law_sides_here"] (defScope sLbase) := ⟨rfl, rfl, rfl, by decide +kernel, rfl, by decide +kernel, by decide +kernel⟩
set_option maxHeartbeats 4000000 in
theorem ok_lbase (F : Fun K "_law_base" "_law_base" sLbase f fd) (T : BTx mg) : FnOk P w K mg base CX0 1 f fd ["_law_room_here", "_law_sides_here"] (spBase K) := by
  refine F.ok scLbase (fun vs H Q E h => ?_) (fun cdv A outer s H vs Q E hr h => ?_)
  · obtain ⟨r, sd, row, xs, sides, rfl, _⟩ := h
    rfl
  obtain ⟨r, sd, row, xs, sides, rfl, hS, hl, hX, hR, hsl, q⟩ := h
  have hlen := hR.len
  refine ⟨_, pss_one (ps_ret (pe_compK1 (N := ["_law_world", "_law_sides_here"]) (js := [none, some 1]) (cl := [("_law_sides_here", s.heap.objs.size + 1)]) ⟨rfl, rfl, rfl, (by intro p hp; simp at hp; rcases hp with rfl <;> rfl), rfl, rfl, rfl⟩ (pi_list (pv 0)) (fun c1 => (pg_name (i := 0) (show (["_law_world", "_law_sides_here"] : List Str).Nodup by decide +kernel) rfl (Or.inr rfl))) (fun c1 => (pts_one (pt_val (pe_callB (call_anyL rfl) (by rfl) T.any boot_any (pa_cons (pe_comp1 (N := ["_law_side", "_law_world"]) (js := [none, some 0]) (cl := [("_law_world", c1.s.heap.objs.size + 1 + 0)]) ⟨rfl, rfl, rfl, (by intro p hp; simp at hp; rcases hp with rfl <;> rfl), rfl, rfl, rfl⟩ (pi_list (pv 1)) (fun c2 => (pg_name (i := 0) (show (["_law_side", "_law_world"] : List Str).Nodup by decide +kernel) rfl (Or.inl rfl))) (fun c2 => pts_nil) (fun c2 => (pe_cmpR op_in_seq (pv 1) (pv 0) (by with_unfolding_all rfl)))) pa_nil))))) (fun c1 => (pv 0)))), ?_⟩
  refine ⟨_, rfl, r, rfl, ⟨_, hS⟩, fun c1 acc hacc => comp_filter (p := fun k => sides.any fun s => decide (k ∈ s)) (rest := [some (.ref sd)]) hS hacc hl (fun k hk H2 s2 R hR2 => ?_) (fun v0 H2 s2 h2 => q acc H2 s2 hacc h2) none⟩
  refine ⟨_, rfl, sd, rfl, ⟨_, s2.seq hX⟩, fun c2 ac2 hac2 => comp_boolsV (bs := sides.map fun s => decide (k ∈ s)) (rest := [some (.int k)]) (s2.seq hX) hac2 (by omega) (by rw [List.length_map]; omega) (fun i x b hx hb H3 s3 R3 hR3 => ?_) (fun v0 H3 s3 h3 => ?_) none⟩
  · obtain ⟨row2, p, hr2, rfl, hp⟩ := hR.get hx
    rw [List.getElem?_map, hr2] at hb
    have eb : decide (k ∈ row2) = b := Option.some.inj hb
    refine ⟨_, rfl, _, rfl, in_row (SqL.of ((s2.trans s3) _ _ hp)) ?_⟩
    rw [eb]
    exact hR3 H3 (Same.refl _)
  · refine ⟨ac2, _, rfl, SqL.of h3, _, rfl, ?_⟩
    have e : (sides.map fun s => decide (k ∈ s)).any id = sides.any fun s => decide (k ∈ s) := by rw [List.any_map]; rfl
    rw [e]
    exact hR2 H3 s3
end
def plainR (seen row : List Int) : Str := if (seen.all fun k => decide (k ∈ row)) = true then "grant" else if (seen.any fun k => decide (k ∈ row)) = true then "doubt" else "deny"
def inR (xs row : List Int) : List Int := xs.filter fun k => decide (k ∈ row)
def outR (xs row : List Int) : List Int := xs.filter fun k => !decide (k ∈ row)
theorem inR_len (xs row : List Int) : (inR xs row).length = xs.length ↔ (xs.all fun k => decide (k ∈ row)) = true := by
  unfold inR
  rw [List.length_filter_eq_length_iff, List.all_eq_true]
theorem inR_nil (xs row : List Int) : inR xs row = [] ↔ (xs.any fun k => decide (k ∈ row)) = false := by
  unfold inR
  rw [List.filter_eq_nil_iff]
  constructor
  · intro h
    rw [Bool.eq_false_iff]
    intro z
    obtain ⟨k, hk, hk2⟩ := List.any_eq_true.mp z
    exact h k hk hk2
  · intro h k hk hk2
    have : (xs.any fun k => decide (k ∈ row)) = true := List.any_eq_true.mpr ⟨k, hk, hk2⟩
    rw [h] at this
    cases this
theorem inR_le (xs row : List Int) : (inR xs row).length ≤ xs.length := List.length_filter_le _ _
theorem outR_le (xs row : List Int) : (outR xs row).length ≤ xs.length := List.length_filter_le _ _
theorem empty_is {xs : List Int} : (xs.map V.int).isEmpty = decide (xs = []) := by cases xs <;> simp
def answerR (sides : List (List Int)) (going seen row : List Int) : Str :=
  if outR going row = [] then "grant" else if inR going row = [] then "deny"
  else if plainR seen row = "grant" ∧ standsR sides (inR going row) = false then "doubt"
  else if plainR seen row = "deny" ∧ standsR sides (outR going row) = false then "doubt" else plainR seen row
abbrev sSays : Stmt := top 28
def spSays : Sp := fun vs H Q _ => ∃ (z : Str), vs = [.str z, .str z] ∧ Q (.bl true) H
section
variable {P : Program} {w : World} {K : PySem.W.Frag} {mg : Str → Option Value} {base : Heap} {f : Addr} {fd : FuncData}
theorem scSays : FnScope ["_law_found", "_law_due"] ["_law_found", "_law_due"] (defScope sSays) := ⟨rfl, rfl, rfl, by decide +kernel, rfl, by decide +kernel, by decide +kernel⟩
theorem ok_lsays (F : Fun K "_law_says" "_law_says" sSays f fd) (T : BTx mg) : FnOk P w K mg base CX0 1 f fd ["_law_found", "_law_due"] spSays := by
  refine F.ok scSays (fun vs H Q E h => ?_) (fun cdv A outer s H vs Q E hr h => ?_)
  · obtain ⟨z, rfl, _⟩ := h
    rfl
  obtain ⟨z, rfl, q⟩ := h
  refine ⟨_, pss_one (ps_ret (pe_and (pe_callB call_isinst (by rfl) T.isi boot_isinstance (pa_cons (pv 0) (pa_cons (pe_bltn (v := .ty "str") (by rfl) T.str boot_str rfl) pa_nil))) (pe_one (pe_cmpR op_eq (pv 0) (pv 1) (nomark _))))), ?_⟩
  refine ⟨_, rfl, _, _, _, _, rfl, .str _, kit_same _ _, _, rfl, ?_⟩
  refine iteT ?_
  refine ⟨_, rfl, _, rfl, rfl, ?_⟩
  rw [decide_eq_true rfl]
  exact q
end
theorem comp_go {i : Nat} {v : V} {σ σ' σ0 : L2.St} {H : Hp} {N B C : L2.St → Hp → Prop} {R : VK} (e : σ.set i (some v) = σ') (h : N σ' H) : ({ nx := fun _ H' => (fun x H1 => gName i x σ H1 N) v H', rt := R, bk := B, ct := C } : Ends).nx σ0 H := by
  subst e
  exact h
theorem nx_mid {t u : L2.TS} {D : Ends} {R : VK} {B C : L2.St → Hp → Prop} {σ : L2.St} {H : Hp} (Mid : L2.St → Hp → Prop) (h2 : ∀ σ' H', Mid σ' H' → u D σ' H') (h1 : (∀ σ' H', Mid σ' H' → u D σ' H') → t { D with nx := u D } σ H) : ({ nx := tSeq t u D, rt := R, bk := B, ct := C } : Ends).nx σ H := h1 h2
theorem set_go {i : Nat} {v : V} {σ σ' : L2.St} {H : Hp} {N : L2.St → Hp → Prop} (e : σ.set i (some v) = σ') (h : N σ' H) : gName i v σ H N := by
  subst e
  exact h
theorem seq_mid {t u : L2.TS} {D : Ends} {σ : L2.St} {H : Hp} (Mid : L2.St → Hp → Prop) (h2 : ∀ σ' H', Mid σ' H' → u D σ' H') (h1 : (∀ σ' H', Mid σ' H' → u D σ' H') → t { D with nx := u D } σ H) : tSeq t u D σ H := h1 h2
theorem next_go {N B C : L2.St → Hp → Prop} {R : VK} {σ : L2.St} {H : Hp} (h : N σ H) : tNext { nx := N, rt := R, bk := B, ct := C } σ H := h
/-! ### rows of worlds -/
def Wr (row : List Int) : Prop := row.Pairwise (· < ·) ∧ ∀ k ∈ row, 0 ≤ k ∧ k < 32
theorem Wr.sub {a b : List Int} (h : Wr b) (s : a.Sublist b) : Wr a := ⟨h.1.sublist s, fun k hk => h.2 k (s.subset hk)⟩
theorem wr_upto {m : Nat} (h : m ≤ 5) : Wr (upto (2 ^ m)) := ⟨upto_up _, fun k hk => by
  have := mem_upto.mp hk
  have h2 := two_le h
  have : ((2 ^ m : Nat) : Int) ≤ 32 := by omega
  omega⟩
theorem Wr.len {row : List Int} (h : Wr row) : row.length ≤ 32 := by
  have nd : row.Nodup := h.1.imp fun h => by omega
  have := nodup_sub (l2 := upto 32) nd fun k hk => mem_upto.mpr (h.2 k hk)
  rw [upto_len] at this
  exact this
theorem sides_sub {z : Str} {t : Tr} {row s : List Int} (h : s ∈ sidesR z t row) : s.Sublist row := by
  unfold sidesR at h
  split at h
  · rw [List.mem_singleton.mp h]; exact List.filter_sublist
  · split at h
    · rw [List.mem_singleton.mp h]; exact List.filter_sublist
    · simp only [List.mem_cons, List.not_mem_nil, or_false] at h
      rcases h with rfl | rfl
      · exact List.filter_sublist
      · exact List.filter_sublist
theorem sides_ne {z : Str} {t : Tr} {row s : List Int} (k : kindOk z t row) (h : s ∈ sidesR z t row) : s ≠ [] := by
  unfold sidesR at h
  rcases k with ⟨rfl, k⟩ | ⟨rfl, k⟩ | ⟨rfl, k1, k2⟩
  · rw [if_pos rfl] at h
    rw [List.mem_singleton.mp h]; exact k
  · rw [if_neg (by decide), if_pos rfl] at h
    rw [List.mem_singleton.mp h]; exact k
  · rw [if_neg (by decide), if_neg (by decide)] at h
    simp only [List.mem_cons, List.not_mem_nil, or_false] at h
    rcases h with rfl | rfl
    · exact k1
    · exact k2
theorem sides_two {z : Str} {t : Tr} {row : List Int} : (∃ a, sidesR z t row = [a]) ∨ ∃ a b, sidesR z t row = [a, b] := by
  unfold sidesR
  split
  · exact .inl ⟨_, rfl⟩
  · split
    · exact .inl ⟨_, rfl⟩
    · exact .inr ⟨_, _, rfl⟩
theorem base_ne {z : Str} {t : Tr} {row : List Int} (k : kindOk z t row) : baseR row (sidesR z t row) ≠ [] := by
  have hex : ∃ s, s ∈ sidesR z t row := by
    rcases sides_two (z := z) (t := t) (row := row) with ⟨a, e⟩ | ⟨a, b, e⟩
    · exact ⟨a, by rw [e]; exact List.mem_cons_self⟩
    · exact ⟨a, by rw [e]; exact List.mem_cons_self⟩
  obtain ⟨s, hs⟩ := hex
  obtain ⟨j, hj⟩ := List.exists_mem_of_ne_nil s (sides_ne k hs)
  refine List.ne_nil_of_mem (a := j) (List.mem_filter.mpr ⟨(sides_sub hs).subset hj, List.any_eq_true.mpr ⟨s, hs, decide_eq_true hj⟩⟩)
theorem base_sub {row : List Int} {sides : List (List Int)} : (baseR row sides).Sublist row := List.filter_sublist
theorem rows_ends {H : Hp} {xs : List V} {z : Str} {t : Tr} {row : List Int} (h : RowsAt H xs (sidesR z t row)) : (∃ p s, atI xs 0 = some (.ref p) ∧ RowAt H p s) ∧ ∃ p s, atI xs (-1) = some (.ref p) ∧ RowAt H p s := by
  rcases sides_two (z := z) (t := t) (row := row) with ⟨a, e⟩ | ⟨a, b, e⟩
  · rw [e] at h
    cases h with
    | cons r q =>
      cases q
      obtain ⟨p, rfl, hp⟩ := r
      exact ⟨⟨p, a, rfl, hp⟩, ⟨p, a, rfl, hp⟩⟩
  · rw [e] at h
    cases h with
    | cons r q =>
      cases q with
      | cons r2 q2 =>
        cases q2
        obtain ⟨p, rfl, hp⟩ := r
        obtain ⟨p2, rfl, hp2⟩ := r2
        exact ⟨⟨p, a, rfl, hp⟩, ⟨p2, b, rfl, hp2⟩⟩
/-! ### rows of worlds: what both have -/
abbrev sBoth : Stmt := top 1
def spBoth (K : PySem.W.Frag) : Sp := fun vs H Q _ => ∃ (a b : Addr) (one other : List Int), vs = [.ref a, .ref b] ∧ SqL K H a (one.map V.int) ∧ SqL K H b (other.map V.int) ∧ one.length < 64 ∧ other.length ≤ 900 ∧
  ∀ (l : Addr) (H' : Hp) (ns : List Int), Same H H' → H l = none → ns.Pairwise (· < ·) → (∀ k, k ∈ ns ↔ k ∈ one ∧ k ∈ other) → RowAt H' l ns → Q (.ref l) H'
section
variable {P : Program} {w : World} {K : PySem.W.Frag} {mg : Str → Option Value} {base : Heap} {f : Addr} {fd : FuncData}
theorem scBoth : FnScope ["one", "other"] ["one", "other"] (defScope sBoth) := ⟨rfl, rfl, rfl, by decide +kernel, rfl, by decide +kernel, by decide +kernel⟩
theorem ok_both (F : Fun K "in_both" "in_both" sBoth f fd) (T : BTx mg) : FnOk P w K mg base CX0 1 f fd ["one", "other"] (spBoth K) := by
  refine F.ok scBoth (fun vs H Q E h => ?_) (fun cdv A outer s H vs Q E hr h => ?_)
  · obtain ⟨a, b, one, other, rfl, _⟩ := h
    rfl
  obtain ⟨a, b, one, other, rfl, ha, hb, hl1, hl2, q⟩ := h
  refine ⟨_, pss_one (ps_ret (pe_callB (call_sortedS rfl) (by rfl) T.sorted boot_sorted (pa_cons (pe_op op_andS (pe_callTy (call_setL rfl) (by rfl) T.set boot_set (pa_cons (pv 0) pa_nil)) (pe_callTy (call_setL rfl) (by rfl) T.set boot_set (pa_cons (pv 1) pa_nil))) pa_nil))), ?_⟩
  refine ⟨_, rfl, a, one, rfl, ha, by omega, fun a1 ha1 => ?_⟩
  have s1 := same_new ha1 (SetO w a1 (fun k => decide (k ∈ one)) one.length)
  refine ⟨_, rfl, b, other, rfl, s1.seq hb, by omega, fun b1 hb1 => ?_⟩
  have s2 := same_new hb1 (SetO w b1 (fun k => decide (k ∈ other)) other.length)
  refine ⟨a1, b1, _, _, _, _, rfl, rfl, s2 _ _ upd_same, upd_same, fun e => ?_, by omega, fun r hr1 => ?_⟩
  · subst e
    rw [upd_same] at hb1
    cases hb1
  have s3 := same_new hr1 (SetO w r (fun k => decide (k ∈ one) && decide (k ∈ other)) one.length)
  refine ⟨r, _, _, rfl, upd_same, hl1, fun l ns hl hp hm => ?_⟩
  have s4 := same_new hl (.lst (ns.map V.int))
  exact q l _ ns (s1.trans (s2.trans (s3.trans s4))) ((s1.trans (s2.trans s3)).free hl) hp (fun k => by rw [hm k, Bool.and_eq_true, decide_eq_true_eq, decide_eq_true_eq]) upd_same
end
/-! ### rows of worlds: what the first has alone -/
abbrev sFirst : Stmt := top 2
def spFirst (K : PySem.W.Frag) : Sp := fun vs H Q _ => ∃ (a b : Addr) (one other : List Int), vs = [.ref a, .ref b] ∧ SqL K H a (one.map V.int) ∧ SqL K H b (other.map V.int) ∧ one.length ≤ 32 ∧ (∀ k ∈ one, 0 ≤ k ∧ k < 32) ∧ other.length ≤ 900 ∧
  ∀ (l : Addr) (H' : Hp) (ns : List Int), Same H H' → H l = none → ns.Pairwise (· < ·) → (∀ k, k ∈ ns ↔ k ∈ one ∧ k ∉ other) → RowAt H' l ns → Q (.ref l) H'
section
variable {P : Program} {w : World} {K : PySem.W.Frag} {mg : Str → Option Value} {base : Heap} {f : Addr} {fd : FuncData}
theorem scFirst : FnScope ["one", "other"] ["one", "other"] (defScope sFirst) := ⟨rfl, rfl, rfl, by decide +kernel, rfl, by decide +kernel, by decide +kernel⟩
theorem ok_first (F : Fun K "in_first_only" "in_first_only" sFirst f fd) (T : BTx mg) : FnOk P w K mg base CX0 1 f fd ["one", "other"] (spFirst K) := by
  refine F.ok scFirst (fun vs H Q E h => ?_) (fun cdv A outer s H vs Q E hr h => ?_)
  · obtain ⟨a, b, one, other, rfl, _⟩ := h
    rfl
  obtain ⟨a, b, one, other, rfl, ha, hb, hl1, h32, hl2, q⟩ := h
  refine ⟨_, pss_one (ps_ret (pe_callB (call_sortedR rfl) (by rfl) T.sorted boot_sorted (pa_cons (pe_op op_subS (pe_callTy (call_setL rfl) (by rfl) T.set boot_set (pa_cons (pv 0) pa_nil)) (pe_callTy (call_setL rfl) (by rfl) T.set boot_set (pa_cons (pv 1) pa_nil))) pa_nil))), ?_⟩
  refine ⟨_, rfl, a, one, rfl, ha, by omega, fun a1 ha1 => ?_⟩
  have s1 := same_new ha1 (SetO w a1 (fun k => decide (k ∈ one)) one.length)
  refine ⟨_, rfl, b, other, rfl, s1.seq hb, by omega, fun b1 hb1 => ?_⟩
  have s2 := same_new hb1 (SetO w b1 (fun k => decide (k ∈ other)) other.length)
  refine ⟨a1, b1, _, _, _, _, rfl, rfl, s2 _ _ upd_same, upd_same, fun e => ?_, hl1, by omega, fun k hk => h32 k (of_decide_eq_true hk), fun r hr1 => ?_⟩
  · subst e
    rw [upd_same] at hb1
    cases hb1
  have s3 := same_new hr1 (SetR w r (fun k => decide (k ∈ one) && !decide (k ∈ other)) one.length)
  refine ⟨r, _, _, rfl, upd_same, by omega, fun l ns hl hp hm => ?_⟩
  have s4 := same_new hl (.lst (ns.map V.int))
  exact q l _ ns (s1.trans (s2.trans (s3.trans s4))) ((s1.trans (s2.trans s3)).free hl) hp (fun k => by rw [hm k, Bool.and_eq_true, decide_eq_true_eq, Bool.not_eq_true', decide_eq_false_iff_not]) upd_same
end
/-! ### whether a row has a world of another -/
abbrev sSomeW : Stmt := top 4
def spSomeW (K : PySem.W.Frag) : Sp := fun vs H Q _ => ∃ (a b : Addr) (one other : List Int), vs = [.ref a, .ref b] ∧ SqL K H a (one.map V.int) ∧ SqL K H b (other.map V.int) ∧ one.length < 64 ∧ other.length ≤ 900 ∧
  ∀ (H' : Hp), Same H H' → Q (.bl (one.any fun k => decide (k ∈ other))) H'
section
variable {P : Program} {w : World} {K : PySem.W.Frag} {mg : Str → Option Value} {base : Heap} {f : Addr} {fd : FuncData}
theorem scSomeW : FnScope ["one", "other"] ["one", "other"] (defScope sSomeW) := ⟨rfl, rfl, rfl, by decide +kernel, rfl, by decide +kernel, by decide +kernel⟩
theorem ok_somew {g : Addr} {gd : FuncData} (F : Fun K "some_within" "some_within" sSomeW f fd) (B : Bl mg) (GB : FnOk P w K mg base CX0 1 g gd ["one", "other"] (spBoth K)) (CB : Cal K mg "in_both" g gd ["one", "other"]) : FnOk P w K mg base CX0 2 f fd ["one", "other"] (spSomeW K) := by
  refine F.ok scSomeW (fun vs H Q E h => ?_) (fun cdv A outer s H vs Q E hr h => ?_)
  · obtain ⟨a, b, one, other, rfl, _⟩ := h
    rfl
  obtain ⟨a, b, one, other, rfl, ha, hb, hl1, hl2, q⟩ := h
  refine ⟨_, pss_one (ps_ret (pe_cmpR op_gt (pe_callB call_len_seq (by rfl) B.len PySem.boot_len (pa_cons (pe_call GB hr (by rfl) CB.m CB.k CB.b .nil pass0 (pa_cons (pv 0) (pa_cons (pv 1) pa_nil))) pa_nil)) pe_int (nomark _))), ?_⟩
  refine ⟨_, rfl, _, rfl, a, b, one, other, rfl, ha, hb, hl1, hl2, fun l H' ns s1 hl hp hm hr1 => ?_⟩
  refine ⟨l, _, rfl, .inl (SqL.of hr1), _, _, rfl, rfl, ?_⟩
  have e : decide ((((ns.map V.int).length : Nat) : Int) > 0) = one.any fun k => decide (k ∈ other) := by
    rw [List.length_map]
    cases h : one.any fun k => decide (k ∈ other) with
    | true =>
      obtain ⟨k, h1, h2⟩ := List.any_eq_true.mp h
      have := List.length_pos_of_mem ((hm k).mpr ⟨h1, of_decide_eq_true h2⟩)
      exact decide_eq_true (by omega)
    | false =>
      cases ns with
      | nil => rfl
      | cons k ns =>
        obtain ⟨h1, h2⟩ := (hm k).mp List.mem_cons_self
        rw [List.any_eq_false] at h
        exact absurd (decide_eq_true h2) (h k h1)
  have := q H' s1
  rw [← e] at this
  exact this
end
/-! ### the program's own plain answer -/
abbrev sAllWi : Stmt := top 3
abbrev sPlain : Stmt := top 8
def spAllWi (K : PySem.W.Frag) : Sp := fun vs H Q _ => ∃ (a b : Addr) (one other : List Int), vs = [.ref a, .ref b] ∧ SqL K H a (one.map V.int) ∧ SqL K H b (other.map V.int) ∧ one.length ≤ 32 ∧ (∀ k ∈ one, 0 ≤ k ∧ k < 32) ∧ other.length ≤ 900 ∧
  ∀ (H' : Hp), Same H H' → Q (.bl (one.all fun k => decide (k ∈ other))) H'
/-- what the program's plain answer has to tell -/
def spPlainP (K : PySem.W.Frag) : Sp := fun vs H Q _ => ∃ (s r : Addr) (seen row : List Int), vs = [.ref s, .ref r] ∧ SqL K H s (seen.map V.int) ∧ Wr seen ∧ seen ≠ [] ∧ SqL K H r (row.map V.int) ∧ Wr row ∧ ∀ (H' : Hp), Same H H' → Q (.str (plainR seen row)) H'
section
variable {P : Program} {w : World} {K : PySem.W.Frag} {mg : Str → Option Value} {base : Heap} {f : Addr} {fd : FuncData}
theorem scAllWi : FnScope ["one", "other"] ["one", "other"] (defScope sAllWi) := ⟨rfl, rfl, rfl, by decide +kernel, rfl, by decide +kernel, by decide +kernel⟩
theorem ok_allwi {g : Addr} {gd : FuncData} (F : Fun K "all_within" "all_within" sAllWi f fd) (B : Bl mg) (GF : FnOk P w K mg base CX0 1 g gd ["one", "other"] (spFirst K)) (CF : Cal K mg "in_first_only" g gd ["one", "other"]) : FnOk P w K mg base CX0 2 f fd ["one", "other"] (spAllWi K) := by
  refine F.ok scAllWi (fun vs H Q E h => ?_) (fun cdv A outer s H vs Q E hr h => ?_)
  · obtain ⟨a, b, one, other, rfl, _⟩ := h
    rfl
  obtain ⟨a, b, one, other, rfl, ha, hb, hl1, h32, hl2, q⟩ := h
  refine ⟨_, pss_one (ps_ret (pe_cmpR op_eq (pe_callB call_len_seq (by rfl) B.len PySem.boot_len (pa_cons (pe_call GF hr (by rfl) CF.m CF.k CF.b .nil pass0 (pa_cons (pv 0) (pa_cons (pv 1) pa_nil))) pa_nil)) pe_int (nomark _))), ?_⟩
  refine ⟨_, rfl, _, rfl, a, b, one, other, rfl, ha, hb, hl1, h32, hl2, fun l H' ns s1 hl hp hm hr1 => ?_⟩
  refine ⟨l, _, rfl, .inl (SqL.of hr1), rfl, ?_⟩
  have e : decide (V.int (((ns.map V.int).length : Nat) : Int) = V.int 0) = one.all fun k => decide (k ∈ other) := by
    rw [List.length_map]
    cases h : one.all fun k => decide (k ∈ other) with
    | true =>
      cases ns with
      | nil => rfl
      | cons k ns =>
        obtain ⟨h1, h2⟩ := (hm k).mp List.mem_cons_self
        exact absurd (of_decide_eq_true (List.all_eq_true.mp h k h1)) h2
    | false =>
      obtain ⟨k, h1, h2⟩ := List.all_eq_false.mp h
      have := List.length_pos_of_mem ((hm k).mpr ⟨h1, fun z => h2 (decide_eq_true z)⟩)
      exact decide_eq_false fun z => by
        injection z with z
        omega
  have := q H' s1
  rw [← e] at this
  exact this
theorem scPlain : FnScope ["seen", "worlds"] ["seen", "worlds"] (defScope sPlain) := ⟨rfl, rfl, rfl, by decide +kernel, rfl, by decide +kernel, by decide +kernel⟩
theorem ok_plain {g g2 : Addr} {gd gd2 : FuncData} (F : Fun K "plain" "plain" sPlain f fd) (GA : FnOk P w K mg base CX0 2 g gd ["one", "other"] (spAllWi K)) (CA : Cal K mg "all_within" g gd ["one", "other"])
    (GS : FnOk P w K mg base CX0 2 g2 gd2 ["one", "other"] (spSomeW K)) (CS : Cal K mg "some_within" g2 gd2 ["one", "other"]) : FnOk P w K mg base CX0 3 f fd ["seen", "worlds"] (spPlainP K) := by
  refine F.ok scPlain (fun vs H Q E h => ?_) (fun cdv A outer s H vs Q E hr h => ?_)
  · obtain ⟨s, r, seen, row, rfl, _⟩ := h
    rfl
  obtain ⟨sn, r, seen, row, rfl, hN, wN, hne, hS, wS, q⟩ := h
  have l1 := wN.len
  have l2 := wS.len
  refine ⟨_, pss_cons (ps_if (pt_val (pe_call GA hr (by rfl) CA.m CA.k CA.b .nil pass0 (pa_cons (pv 0) (pa_cons (pv 1) pa_nil))))
      (pss_one (ps_ret pe_str))
      pss_nil)
    (pss_cons (ps_if (pt_val (pe_call GS hr (by rfl) CS.m CS.k CS.b .nil pass0 (pa_cons (pv 0) (pa_cons (pv 1) pa_nil))))
      (pss_one (ps_ret pe_str))
      pss_nil)
    (pss_one (ps_ret pe_str))), ?_⟩
  unfold plainR at q
  refine ⟨_, rfl, _, rfl, sn, r, seen, row, rfl, hN, hS, l1, wN.2, by omega, fun H1 s1 => ⟨_, rfl, ?_⟩⟩
  cases h0 : seen.all fun k => decide (k ∈ row) with
  | true =>
    refine iteT ?_
    have := q _ s1
    rw [h0, if_pos rfl] at this
    exact this
  | false =>
    refine iteF ?_
    simp only [h0, if_neg Bool.false_ne_true] at q
    refine ⟨_, rfl, _, rfl, sn, r, seen, row, rfl, s1.seq hN, s1.seq hS, by omega, by omega, fun H2 s2 => ⟨_, rfl, ?_⟩⟩
    have q2 := q _ (s1.trans s2)
    cases h1 : seen.any fun k => decide (k ∈ row) with
    | true =>
      refine iteT ?_
      rw [h1, if_pos rfl] at q2
      exact q2
    | false =>
      refine iteF ?_
      rw [h1, if_neg Bool.false_ne_true] at q2
      exact q2
end
/-! ### the program's own standing -/
abbrev sMissed : Stmt := top 6
def optV : Option Nat → V
  | none => .non
  | some i => .int i
def missR (sides : List (List Int)) (row : List Int) : Option Nat := sides.findIdx? fun s => !(s.any fun k => decide (k ∈ row))
theorem miss_none {sides : List (List Int)} {row : List Int} : missR sides row = none ↔ standsR sides row = true := by
  unfold missR standsR
  rw [List.findIdx?_eq_none_iff, List.all_eq_true]
  exact ⟨fun h s hs => by have := h s hs; simpa using this, fun h s hs => by have := h s hs; simpa using this⟩
theorem miss_isN {sides : List (List Int)} {row : List Int} : decide (optV (missR sides row) = .non) = standsR sides row := by
  cases h : missR sides row with
  | none =>
    rw [miss_none.mp h]
    rfl
  | some i =>
    cases h2 : standsR sides row with
    | true => rw [miss_none.mpr h2] at h; cases h
    | false => rfl
theorem miss_at {sides : List (List Int)} {row s : List Int} {i : Nat} (hb : ∀ s ∈ sides.take i, (s.any fun k => decide (k ∈ row)) = true) (hi : sides[i]? = some s) (hs : (s.any fun k => decide (k ∈ row)) = false) : missR sides row = some i := by
  unfold missR
  obtain ⟨hlt, rfl⟩ := List.getElem?_eq_some_iff.mp hi
  rw [List.findIdx?_eq_some_iff_getElem]
  refine ⟨hlt, by simp [hs], fun j hj => ?_⟩
  have hm : sides[j] ∈ sides.take i := List.mem_take_iff_getElem.mpr ⟨j, by omega, rfl⟩
  rw [hb _ hm]
  decide
theorem miss_all {sides : List (List Int)} {row : List Int} (hb : ∀ s ∈ sides, (s.any fun k => decide (k ∈ row)) = true) : missR sides row = none := by
  rw [miss_none]
  unfold standsR
  rw [List.all_eq_true]
  exact hb
theorem mem_take1 {α : Type} {xs : List α} {i : Nat} {x y : α} (hx : xs[i]? = some x) (h : y ∈ xs.take (i + 1)) : y ∈ xs.take i ∨ y = x := by
  rw [List.take_succ, hx] at h
  rcases List.mem_append.mp h with h | h
  · exact .inl h
  · exact .inr (by simpa using h)
def spMissed (K : PySem.W.Frag) : Sp := fun vs H Q _ => ∃ (sd r : Addr) (row : List Int) (xs : List V) (sides : List (List Int)), vs = [.ref sd, .ref r] ∧ SqL K H r (row.map V.int) ∧ row.length ≤ 900 ∧ H sd = some (.lst xs) ∧ RowsAt H xs sides ∧ (∀ s ∈ sides, s.length < 64) ∧ sides.length ≤ 900 ∧ ∀ (H' : Hp), Same H H' → Q (optV (missR sides row)) H'
section
variable {P : Program} {w : World} {K : PySem.W.Frag} {mg : Str → Option Value} {base : Heap} {f : Addr} {fd : FuncData}
theorem scMissed : FnScope ["sides", "worlds", "at", "side"] ["sides", "worlds"] (defScope sMissed) := ⟨rfl, rfl, rfl, by decide +kernel, rfl, by decide +kernel, by decide +kernel⟩
theorem ok_missed {g : Addr} {gd : FuncData} (F : Fun K "missed_side" "missed_side" sMissed f fd) (HE : mg "enumerate" = none) (GS : FnOk P w K mg base CX0 2 g gd ["one", "other"] (spSomeW K)) (CS : Cal K mg "some_within" g gd ["one", "other"]) : FnOk P w K mg base CX0 3 f fd ["sides", "worlds"] (spMissed K) := by
  refine F.ok scMissed (fun vs H Q E h => ?_) (fun cdv A outer s H vs Q E hr h => ?_)
  · obtain ⟨sd, r, row, xs, sides, rfl, _⟩ := h
    rfl
  obtain ⟨sd, r, row, xs, sides, rfl, hS, hl, hX, hR, hsl, hsn, q⟩ := h
  refine ⟨_, pss_cons (ps_for PassesOwn.never rfl (pi_enumL (by rfl) HE (pa_cons (pv 0) pa_nil)) (pg_tup rfl (pgs_cons (pg_name (i := 2) scMissed.nd rfl (Or.inl rfl)) (pgs_cons (pg_name (i := 3) scMissed.nd rfl (Or.inl rfl)) pgs_nil)))
      (pss_one (ps_if (pt_not (pt_val (pe_call GS hr (by rfl) CS.m CS.k CS.b .nil pass0 (pa_cons (pv 3) (pa_cons (pv 1) pa_nil)))))
        (pss_one (ps_ret (pv 2)))
        pss_nil)))
    (pss_one (ps_ret pe_non)), ?_⟩
  have hlen := hR.len
  refine ⟨_, rfl, sd, _, rfl, hX, for_enumL (a := sd) (xs := xs) (fun i σ H3 => ∃ (v0 v1 : Option V), σ = [some (.ref sd), some (.ref r), v0, v1] ∧ Same H H3 ∧ ∀ s ∈ sides.take i, (s.any fun k => decide (k ∈ row)) = true) ?_ ?_ ?_ ?_⟩
  · exact ⟨_, _, rfl, Same.refl _, fun s hs => by simp at hs⟩
  · rintro i σ H3 _ ⟨v0, v1, rfl, s3, h3⟩
    exact s3 _ _ hX
  · rintro i y T2 σ H3 hy hT2 ⟨v0, v1, rfl, s3, h3⟩
    obtain ⟨side, p, hr2, rfl, hp⟩ := hR.get hy
    have sT := same_new hT2 (.tup [.int (i : Nat), .ref p])
    have s4 := s3.trans sT
    refine ⟨T2, _, rfl, SqT.of upd_same, rfl, _, _, rfl, _, _, rfl, rfl, ?_⟩
    refine ⟨_, rfl, _, rfl, p, r, side, row, rfl, SqL.of (s4 _ _ hp), s4.seq hS, hsl side (List.mem_of_getElem? hr2), hl, fun H4 s5 => ⟨_, rfl, ?_⟩⟩
    cases hb : side.any fun k => decide (k ∈ row) with
    | true =>
      refine iteF ?_
      refine ⟨_, _, rfl, s4.trans s5, fun s hs => ?_⟩
      rcases mem_take1 hr2 hs with h | rfl
      · exact h3 s h
      · exact hb
    | false =>
      refine iteT ?_
      have := q H4 (s4.trans s5)
      rw [miss_at h3 hr2 hb] at this
      exact ⟨_, rfl, this⟩
  · rintro σ H3 ⟨v0, v1, rfl, s3, h3⟩
    rw [hlen, List.take_length] at h3
    have := q H3 s3
    rw [miss_all h3] at this
    exact this
end
/-! ### the program's own answer -/
abbrev sLeftBy : Stmt := top 10
abbrev sBarring : Stmt := top 11
abbrev sAnswer : Stmt := top 12
/-- what the program's answer has to tell -/
def spAnswerP (K : PySem.W.Frag) : Sp := fun vs H Q _ => ∃ (sd g s r : Addr) (xs : List V) (sides : List (List Int)) (going seen row : List Int), vs = [.ref sd, .ref g, .ref s, .ref r] ∧ H sd = some (.lst xs) ∧ RowsAt H xs sides ∧ (∀ s ∈ sides, Wr s) ∧ sides.length ≤ 2 ∧
  SqL K H g (going.map V.int) ∧ Wr going ∧ going ≠ [] ∧ SqL K H s (seen.map V.int) ∧ Wr seen ∧ seen ≠ [] ∧ SqL K H r (row.map V.int) ∧ Wr row ∧ ∀ (H' : Hp), Same H H' → Q (.str (answerR sides going seen row)) H'
def leftR (z : Str) (g r : List Int) : List Int := if z = "grant" then inR g r else if z = "deny" then outR g r else g
def barR (sides : List (List Int)) (going seen row : List Int) : Option Nat := if plainR seen row = "doubt" then none else missR sides (leftR (plainR seen row) going row)
def spBarring (K : PySem.W.Frag) : Sp := fun vs H Q _ => ∃ (sd g s r : Addr) (xs : List V) (sides : List (List Int)) (going seen row : List Int), vs = [.ref sd, .ref g, .ref s, .ref r] ∧ H sd = some (.lst xs) ∧ RowsAt H xs sides ∧ (∀ s ∈ sides, Wr s) ∧ sides.length ≤ 2 ∧
  SqL K H g (going.map V.int) ∧ Wr going ∧ SqL K H s (seen.map V.int) ∧ Wr seen ∧ seen ≠ [] ∧ SqL K H r (row.map V.int) ∧ Wr row ∧ ∀ (H' : Hp), Same H H' → Q (optV (barR sides going seen row)) H'
def spLeft (K : PySem.W.Frag) : Sp := fun vs H Q _ => ∃ (z : Str) (g r : Addr) (going row : List Int), vs = [.str z, .ref g, .ref r] ∧ SqL K H g (going.map V.int) ∧ Wr going ∧ SqL K H r (row.map V.int) ∧ row.length ≤ 900 ∧
  ∀ (l : Addr) (H' : Hp), Same H H' → H l = none → RowAt H' l (leftR z going row) → Q (.ref l) H'
theorem inR_is {g r ns : List Int} (hg : Wr g) (hp : ns.Pairwise (· < ·)) (hm : ∀ k, k ∈ ns ↔ k ∈ g ∧ k ∈ r) : ns = inR g r :=
  up_same hp (hg.1.sublist List.filter_sublist) fun k => by rw [hm k]; unfold inR; rw [List.mem_filter, decide_eq_true_eq]
theorem outR_is {g r ns : List Int} (hg : Wr g) (hp : ns.Pairwise (· < ·)) (hm : ∀ k, k ∈ ns ↔ k ∈ g ∧ k ∉ r) : ns = outR g r :=
  up_same hp (hg.1.sublist List.filter_sublist) fun k => by rw [hm k]; unfold outR; rw [List.mem_filter, Bool.not_eq_true', decide_eq_false_iff_not]
theorem outR_nil (xs row : List Int) : outR xs row = [] ↔ (xs.all fun k => decide (k ∈ row)) = true := by
  unfold outR
  rw [List.filter_eq_nil_iff, List.all_eq_true]
  exact ⟨fun h k hk => by have := h k hk; simpa using this, fun h k hk => by have := h k hk; simpa using this⟩
theorem plain3 (seen row : List Int) : plainR seen row = "grant" ∨ plainR seen row = "deny" ∨ plainR seen row = "doubt" := by
  unfold plainR
  split
  · exact .inl rfl
  · split
    · exact .inr (.inr rfl)
    · exact .inr (.inl rfl)
theorem left_le (z : Str) (g r : List Int) : (leftR z g r).length ≤ g.length := by
  have h1 := inR_le g r
  have h2 := outR_le g r
  unfold leftR
  split
  · omega
  · split <;> omega
theorem answer_bar {sides : List (List Int)} {going seen row : List Int} (n0 : ¬ outR going row = []) (n1 : ¬ inR going row = []) : answerR sides going seen row = match barR sides going seen row with | none => plainR seen row | some _ => "doubt" := by
  unfold answerR barR leftR
  rw [if_neg n0, if_neg n1]
  rcases plain3 seen row with e | e | e
  · rw [e, if_neg (show ¬ ("grant" : Str) = "doubt" by decide), if_pos (show ("grant" : Str) = "grant" from rfl)]
    cases hs : standsR sides (inR going row) with
    | true =>
      rw [miss_none.mpr hs, if_neg (by rintro ⟨_, z⟩; cases z), if_neg (by rintro ⟨z, _⟩; exact absurd z (by decide))]
    | false =>
      rw [if_pos ⟨rfl, rfl⟩]
      cases hm : missR sides (inR going row) with
      | none => rw [miss_none.mp hm] at hs; cases hs
      | some i => rfl
  · rw [e, if_neg (show ¬ ("deny" : Str) = "doubt" by decide), if_neg (show ¬ ("deny" : Str) = "grant" by decide), if_pos (show ("deny" : Str) = "deny" from rfl)]
    cases hs : standsR sides (outR going row) with
    | true =>
      rw [miss_none.mpr hs, if_neg (by rintro ⟨z, _⟩; exact absurd z (by decide)), if_neg (by rintro ⟨_, z⟩; cases z)]
    | false =>
      rw [if_neg (by rintro ⟨z, _⟩; exact absurd z (by decide)), if_pos ⟨rfl, rfl⟩]
      cases hm : missR sides (outR going row) with
      | none => rw [miss_none.mp hm] at hs; cases hs
      | some i => rfl
  · rw [e, if_neg (by rintro ⟨z, _⟩; exact absurd z (by decide)), if_neg (by rintro ⟨z, _⟩; exact absurd z (by decide)), if_pos rfl]
section
variable {P : Program} {w : World} {K : PySem.W.Frag} {mg : Str → Option Value} {base : Heap} {f : Addr} {fd : FuncData}
theorem scLeftBy : FnScope ["word", "row", "worlds"] ["word", "row", "worlds"] (defScope sLeftBy) := ⟨rfl, rfl, rfl, by decide +kernel, rfl, by decide +kernel, by decide +kernel⟩
theorem ok_leftby {g g2 : Addr} {gd gd2 : FuncData} (F : Fun K "left_by" "left_by" sLeftBy f fd) (T : BTx mg) (GB : FnOk P w K mg base CX0 1 g gd ["one", "other"] (spBoth K)) (CB : Cal K mg "in_both" g gd ["one", "other"])
    (GF : FnOk P w K mg base CX0 1 g2 gd2 ["one", "other"] (spFirst K)) (CF : Cal K mg "in_first_only" g2 gd2 ["one", "other"]) : FnOk P w K mg base CX0 2 f fd ["word", "row", "worlds"] (spLeft K) := by
  refine F.ok scLeftBy (fun vs H Q E h => ?_) (fun cdv A outer s H vs Q E hr h => ?_)
  · obtain ⟨z, g, r, going, row, rfl, _⟩ := h
    rfl
  obtain ⟨z, gg, r, going, row, rfl, hG, wG, hS, hl, q⟩ := h
  have l1 := wG.len
  refine ⟨_, pss_cons (ps_if (pt_cmpR op_eq (pv 0) pe_str (nomark _))
      (pss_one (ps_ret (pe_call GB hr (by rfl) CB.m CB.k CB.b .nil pass0 (pa_cons (pv 1) (pa_cons (pv 2) pa_nil)))))
      pss_nil)
    (pss_cons (ps_if (pt_cmpR op_eq (pv 0) pe_str (nomark _))
      (pss_one (ps_ret (pe_call GF hr (by rfl) CF.m CF.k CF.b .nil pass0 (pa_cons (pv 1) (pa_cons (pv 2) pa_nil)))))
      pss_nil)
    (pss_one (ps_ret (pe_callTy call_list_of (by rfl) T.lst boot_lst (pa_cons (pv 1) pa_nil))))), ?_⟩
  unfold leftR at q
  refine ⟨_, rfl, rfl, _, rfl, ?_⟩
  by_cases h0 : z = "grant"
  · refine iteY (by rw [h0]) ?_
    refine ⟨_, rfl, _, rfl, gg, r, going, row, rfl, hG, hS, by omega, by omega, fun l H' ns s1 hl0 hp hm hr1 => ?_⟩
    have := inR_is wG hp hm
    subst this
    have q1 := q l H' s1 hl0
    rw [if_pos h0] at q1
    exact q1 hr1
  refine iteN (fun e => h0 (by injection e)) ?_
  refine ⟨_, rfl, rfl, _, rfl, ?_⟩
  by_cases h1 : z = "deny"
  · refine iteY (by rw [h1]) ?_
    refine ⟨_, rfl, _, rfl, gg, r, going, row, rfl, hG, hS, l1, wG.2, by omega, fun l H' ns s1 hl0 hp hm hr1 => ?_⟩
    have := outR_is wG hp hm
    subst this
    have q1 := q l H' s1 hl0
    rw [if_neg h0, if_pos h1] at q1
    exact q1 hr1
  refine iteN (fun e => h1 (by injection e)) ?_
  refine ⟨_, rfl, gg, _, rfl, .inl hG, fun l hl0 => ?_⟩
  have q1 := q l _ (same_new hl0 (.lst (going.map V.int))) hl0
  rw [if_neg h0, if_neg h1] at q1
  exact q1 upd_same
theorem scBarring : FnScope ["sides", "going", "seen", "worlds", "word"] ["sides", "going", "seen", "worlds"] (defScope sBarring) := ⟨rfl, rfl, rfl, by decide +kernel, rfl, by decide +kernel, by decide +kernel⟩
theorem ok_barring {g3 g4 g5 : Addr} {d3 d4 d5 : FuncData} (F : Fun K "barring_side" "barring_side" sBarring f fd)
    (GP : FnOk P w K mg base CX0 3 g3 d3 ["seen", "worlds"] (spPlainP K)) (CP : Cal K mg "plain" g3 d3 ["seen", "worlds"])
    (GL : FnOk P w K mg base CX0 2 g4 d4 ["word", "row", "worlds"] (spLeft K)) (CL : Cal K mg "left_by" g4 d4 ["word", "row", "worlds"])
    (GT : FnOk P w K mg base CX0 3 g5 d5 ["sides", "worlds"] (spMissed K)) (CT : Cal K mg "missed_side" g5 d5 ["sides", "worlds"]) : FnOk P w K mg base CX0 4 f fd ["sides", "going", "seen", "worlds"] (spBarring K) := by
  refine F.ok scBarring (fun vs H Q E h => ?_) (fun cdv A outer s H vs Q E hr h => ?_)
  · obtain ⟨sd, g, s, r, xs, sides, going, seen, row, rfl, _⟩ := h
    rfl
  obtain ⟨sd, gg, sn, r, xs, sides, going, seen, row, rfl, hX, hR, wX, hxl, hG, wG, hN, wN, nne, hS, wS, q⟩ := h
  have hr2 : Room 2 _ := hr.mono (by decide)
  have l1 := wG.len
  have l3 := wS.len
  refine ⟨_, pss_cons (ps_set (i := 4) scBarring.nd rfl (Or.inl rfl) (pe_call GP hr (by rfl) CP.m CP.k CP.b .nil pass0 (pa_cons (pv 2) (pa_cons (pv 3) pa_nil))))
    (pss_cons (ps_if (pt_cmpR op_eq (pv 4) pe_str (nomark _))
      (pss_one (ps_ret pe_non))
      pss_nil)
    (pss_one (ps_ret (pe_call GT hr (by rfl) CT.m CT.k CT.b .nil pass0 (pa_cons (pv 0) (pa_cons (pe_call GL hr2 (by rfl) CL.m CL.k CL.b .nil pass0 (pa_cons (pv 4) (pa_cons (pv 1) (pa_cons (pv 3) pa_nil)))) pa_nil)))))), ?_⟩
  unfold barR at q
  refine ⟨_, rfl, _, rfl, sn, r, seen, row, rfl, hN, wN, nne, hS, wS, fun H3 s3 => ?_⟩
  refine ⟨_, rfl, rfl, _, rfl, ?_⟩
  by_cases e : plainR seen row = "doubt"
  · refine iteY (by rw [e]) ?_
    have q3 := q _ s3
    rw [if_pos e] at q3
    exact q3
  refine iteN (fun z => e (by injection z)) ?_
  refine ⟨_, rfl, _, rfl, _, rfl, _, rfl, plainR seen row, gg, r, going, row, rfl, s3.seq hG, wG, s3.seq hS, by omega, fun l H4 s4 hl0 hl4 => ?_⟩
  have s14 := s3.trans s4
  have hll : (leftR (plainR seen row) going row).length ≤ 900 := by
    have := left_le (plainR seen row) going row
    omega
  refine ⟨sd, l, _, xs, sides, rfl, SqL.of hl4, hll, s14 _ _ hX, hR.keep s14, fun s hs => Nat.lt_of_le_of_lt (wX s hs).len (by decide), by omega, fun H5 s5 => ?_⟩
  have q5 := q _ (s14.trans s5)
  rw [if_neg e] at q5
  exact q5
theorem scAnswer : FnScope ["sides", "going", "seen", "worlds"] ["sides", "going", "seen", "worlds"] (defScope sAnswer) := ⟨rfl, rfl, rfl, by decide +kernel, rfl, by decide +kernel, by decide +kernel⟩
set_option maxHeartbeats 4000000 in
theorem ok_answer {g1 g2 g3 g5 : Addr} {d1 d2 d3 d5 : FuncData} (F : Fun K "answer" "answer" sAnswer f fd) (GA : FnOk P w K mg base CX0 2 g1 d1 ["one", "other"] (spAllWi K)) (CA : Cal K mg "all_within" g1 d1 ["one", "other"])
    (GS : FnOk P w K mg base CX0 2 g2 d2 ["one", "other"] (spSomeW K)) (CS : Cal K mg "some_within" g2 d2 ["one", "other"])
    (GP : FnOk P w K mg base CX0 3 g3 d3 ["seen", "worlds"] (spPlainP K)) (CP : Cal K mg "plain" g3 d3 ["seen", "worlds"])
    (GT : FnOk P w K mg base CX0 4 g5 d5 ["sides", "going", "seen", "worlds"] (spBarring K)) (CT : Cal K mg "barring_side" g5 d5 ["sides", "going", "seen", "worlds"]) : FnOk P w K mg base CX0 5 f fd ["sides", "going", "seen", "worlds"] (spAnswerP K) := by
  refine F.ok scAnswer (fun vs H Q E h => ?_) (fun cdv A outer s H vs Q E hr h => ?_)
  · obtain ⟨sd, g, s, r, xs, sides, going, seen, row, rfl, _⟩ := h
    rfl
  obtain ⟨sd, gg, sn, r, xs, sides, going, seen, row, rfl, hX, hR, wX, hxl, hG, wG, gne, hN, wN, nne, hS, wS, q⟩ := h
  have hr2 : Room 2 _ := hr.mono (by decide)
  have hr3 : Room 3 _ := hr.mono (by decide)
  have l1 := wG.len
  have l2 := wN.len
  have l3 := wS.len
  refine ⟨_, pss_cons (ps_if (pt_val (pe_call GA hr2 (by rfl) CA.m CA.k CA.b .nil pass0 (pa_cons (pv 1) (pa_cons (pv 3) pa_nil))))
      (pss_one (ps_ret pe_str))
      pss_nil)
    (pss_cons (ps_if (pt_not (pt_val (pe_call GS hr2 (by rfl) CS.m CS.k CS.b .nil pass0 (pa_cons (pv 1) (pa_cons (pv 3) pa_nil)))))
      (pss_one (ps_ret pe_str))
      pss_nil)
    (pss_cons (ps_if (pt_cmp (pc_isN (pe_call GT hr (by rfl) CT.m CT.k CT.b .nil pass0 (pa_cons (pv 0) (pa_cons (pv 1) (pa_cons (pv 2) (pa_cons (pv 3) pa_nil)))))))
      (pss_one (ps_ret (pe_call GP hr3 (by rfl) CP.m CP.k CP.b .nil pass0 (pa_cons (pv 2) (pa_cons (pv 3) pa_nil)))))
      pss_nil)
    (pss_one (ps_ret pe_str)))), ?_⟩
  refine ⟨_, rfl, _, rfl, gg, r, going, row, rfl, hG, hS, l1, wG.2, by omega, fun H1 s1 => ⟨_, rfl, ?_⟩⟩
  cases h0 : going.all fun k => decide (k ∈ row) with
  | true =>
    refine iteT ?_
    have := q _ s1
    unfold answerR at this
    rw [if_pos ((outR_nil _ _).mpr h0)] at this
    exact this
  | false =>
    refine iteF ?_
    have n0 : ¬ outR going row = [] := fun z => by rw [(outR_nil _ _).mp z] at h0; cases h0
    refine ⟨_, rfl, _, rfl, gg, r, going, row, rfl, s1.seq hG, s1.seq hS, by omega, by omega, fun H2 s2 => ⟨_, rfl, ?_⟩⟩
    have s12 := s1.trans s2
    cases h1 : going.any fun k => decide (k ∈ row) with
    | false =>
      refine iteT ?_
      have := q _ s12
      unfold answerR at this
      rw [if_neg n0, if_pos ((inR_nil _ _).mpr h1)] at this
      exact this
    | true =>
      refine iteF ?_
      have n1 : ¬ inR going row = [] := fun z => by rw [(inR_nil _ _).mp z] at h1; cases h1
      refine ⟨_, rfl, _, rfl, _, rfl, _, rfl, sd, gg, sn, r, xs, sides, going, seen, row, rfl, s12 _ _ hX, hR.keep s12, wX, hxl, s12.seq hG, wG, s12.seq hN, wN, nne, s12.seq hS, wS, fun H3 s3 => ⟨_, rfl, ?_⟩⟩
      have s13 := s12.trans s3
      cases hb : barR sides going seen row with
      | none =>
        refine iteY rfl ?_
        refine ⟨_, rfl, _, rfl, sn, r, seen, row, rfl, s13.seq hN, wN, nne, s13.seq hS, wS, fun H4 s4 => ?_⟩
        have q5 := q _ (s13.trans s4)
        rw [answer_bar n0 n1, hb] at q5
        exact q5
      | some i =>
        refine iteN (fun z => V.noConfusion z) ?_
        have q5 := q _ s13
        rw [answer_bar n0 n1, hb] at q5
        exact q5
end
/-! ### contraries -/
theorem in_others {room row xs : List Int} (h : ∀ k ∈ xs, k ∈ room) : inR xs (room.filter fun k => !decide (k ∈ row)) = outR xs row := by
  unfold inR outR
  refine List.filter_congr fun k hk => ?_
  have hk' := h k hk
  by_cases z : k ∈ row
  · simp [z]
  · simp [z, hk']
theorem out_others {room row xs : List Int} (h : ∀ k ∈ xs, k ∈ room) : outR xs (room.filter fun k => !decide (k ∈ row)) = inR xs row := by
  unfold inR outR
  refine List.filter_congr fun k hk => ?_
  have hk' := h k hk
  by_cases z : k ∈ row
  · simp [z]
  · simp [z, hk']
theorem in_out_ne {xs row : List Int} (h : xs ≠ []) (h1 : inR xs row = []) : outR xs row ≠ [] := fun h2 => by
  obtain ⟨k, hk⟩ := List.exists_mem_of_ne_nil xs h
  unfold inR at h1
  unfold outR at h2
  rw [List.filter_eq_nil_iff] at h1 h2
  have a := h1 k hk
  have b := h2 k hk
  by_cases z : k ∈ row
  · simp [z] at a
  · simp [z] at b
theorem plain_by (seen row : List Int) (hne : seen ≠ []) : plainR seen row = if outR seen row = [] then "grant" else if inR seen row = [] then "deny" else "doubt" := by
  have e1 : (seen.all fun k => decide (k ∈ row)) = true ↔ outR seen row = [] := by
    unfold outR
    rw [List.all_eq_true, List.filter_eq_nil_iff]
    constructor
    · intro h k hk z
      rw [h k hk] at z
      cases z
    · intro h k hk
      have := h k hk
      by_cases z : k ∈ row
      · exact decide_eq_true z
      · simp [z] at this
  unfold plainR
  by_cases h1 : outR seen row = []
  · rw [if_pos (e1.mpr h1), if_pos h1]
  · rw [if_neg (fun z => h1 (e1.mp z)), if_neg h1]
    by_cases h2 : inR seen row = []
    · have := (inR_nil seen row).mp h2
      rw [if_pos h2, this, if_neg Bool.false_ne_true]
    · rw [if_neg h2]
      cases h3 : (seen.any fun k => decide (k ∈ row)) with
      | false => exact absurd ((inR_nil seen row).mpr h3) h2
      | true => rw [if_pos rfl]
theorem contraries {sides : List (List Int)} {room going seen row : List Int} (hg : ∀ k ∈ going, k ∈ room) (hs : ∀ k ∈ seen, k ∈ room) (gne : going ≠ []) (sne : seen ≠ []) :
    (answerR sides going seen row = "grant" ∧ answerR sides going seen (room.filter fun k => !decide (k ∈ row)) = "deny") ∨
    (answerR sides going seen row = "deny" ∧ answerR sides going seen (room.filter fun k => !decide (k ∈ row)) = "grant") ∨
    (answerR sides going seen row = "doubt" ∧ answerR sides going seen (room.filter fun k => !decide (k ∈ row)) = "doubt") := by
  have g1 := in_out_ne (row := row) gne
  have s1 := in_out_ne (row := row) sne
  unfold answerR
  rw [in_others hg, out_others hg, plain_by _ _ sne, plain_by _ _ sne, in_others hs, out_others hs]
  by_cases h1 : outR going row = []
  · have h2 : inR going row ≠ [] := fun z => g1 z h1
    rw [if_pos h1, if_neg h2, if_pos h1]
    exact .inl ⟨rfl, rfl⟩
  by_cases h2 : inR going row = []
  · rw [if_neg h1, if_pos h2, if_pos h2]
    exact .inr (.inl ⟨rfl, rfl⟩)
  rw [if_neg h1, if_neg h2, if_neg h2, if_neg h1]
  have d1 : (("deny" : Str) = "grant") ↔ False := by decide
  have d2 : (("doubt" : Str) = "grant") ↔ False := by decide
  have d3 : (("grant" : Str) = "deny") ↔ False := by decide
  have d4 : (("doubt" : Str) = "deny") ↔ False := by decide
  by_cases p1 : outR seen row = []
  · have p2 : inR seen row ≠ [] := fun z => s1 z p1
    simp only [if_pos p1, if_neg p2]
    cases hst : standsR sides (inR going row) with
    | false => exact .inr (.inr ⟨by simp, by simp [d1, d2, d3, d4]⟩)
    | true => exact .inl ⟨by simp [d1, d2, d3, d4], by simp [d1, d2, d3, d4]⟩
  by_cases p2 : inR seen row = []
  · simp only [if_neg p1, if_pos p2]
    cases hst : standsR sides (outR going row) with
    | false => exact .inr (.inr ⟨by simp [d1, d2, d3, d4], by simp⟩)
    | true => exact .inr (.inl ⟨by simp [d1, d2, d3, d4], by simp [d1, d2, d3, d4]⟩)
  simp only [if_neg p1, if_neg p2]
  exact .inr (.inr ⟨by simp [d1, d2, d3, d4], by simp [d1, d2, d3, d4]⟩)
abbrev sLaw : Stmt := top 29
def spLaw (K : PySem.W.Frag) : Sp := fun vs H Q _ => ∃ (a : Addr) (ns : List Int), vs = [.ref a] ∧ SqL K H a (ns.map V.int) ∧ ns.length ≤ 63 ∧ ∀ H', Q (.bl true) H'
def Mid17 (room : List Int) (H0 : Hp) (st : Addr → L2.St) : L2.St → Hp → Prop := fun σ H' => ∃ (rw : Addr) (row : List Int), σ = st rw ∧ Same H0 H' ∧ RowAt H' rw row ∧ row.Sublist room
section
variable {P : Program} {w : World} {K : PySem.W.Frag} {mg : Str → Option Value} {base : Heap} {f : Addr} {fd : FuncData}
theorem scLaw : FnScope ["_law_script", "_law_many_here", "_law_room_here", "_law_sentence_here", "_law_sides_here", "_law_going", "_law_seen_here", "_law_row", "_law_others", "_law_first"] ["_law_script"] (defScope sLaw) := ⟨rfl, rfl, rfl, by decide +kernel, rfl, by decide +kernel, by decide +kernel⟩
set_option maxHeartbeats 8000000 in
theorem ok_law {fN fM fR fS fD fK fO fB fE fX fY fA : Addr} {dN dM dR dS dD dK dO dB dE dX dY dA : FuncData} (F : Fun K "law" "law" sLaw f fd) (B : Bl mg)
    (GN : FnOk P w K mg base CX0 1 fN dN ["_law_script", "_law_k"] (spNum K)) (CN : Cal K mg "_law_num" fN dN ["_law_script", "_law_k"])
    (GM : FnOk P w K mg base CX0 1 fM dM ["_law_n"] spMany) (CM : Cal K mg "_law_many" fM dM ["_law_n"])
    (GS : FnOk P w K mg base CX0 1 fS dS ["_law_n", "_law_most", "_law_many_here"] spSent) (CS : Cal K mg "_law_sentence" fS dS ["_law_n", "_law_most", "_law_many_here"])
    (GR : FnOk P w K mg base CX0 3 fR dR ["_law_n", "_law_many_here"] spRoom) (CR : Cal K mg "_law_room" fR dR ["_law_n", "_law_many_here"])
    (GD : FnOk P w K mg base CX0 25 fD dD ["_law_room_here", "_law_kind_here", "_law_sentence_here"] (spSides K)) (CD : Cal K mg "_law_sides" fD dD ["_law_room_here", "_law_kind_here", "_law_sentence_here"])
    (GK : FnOk P w K mg base CX0 25 fK dK ["_law_n", "_law_room_here", "_law_sentence_here"] (spKind K)) (CK : Cal K mg "_law_kind" fK dK ["_law_n", "_law_room_here", "_law_sentence_here"])
    (GO : FnOk P w K mg base CX0 2 fO dO ["_law_n", "_law_row"] (spSomeOne K)) (CO : Cal K mg "_law_some_one" fO dO ["_law_n", "_law_row"])
    (GB : FnOk P w K mg base CX0 1 fB dB ["_law_room_here", "_law_sides_here"] (spBase K)) (CB : Cal K mg "_law_base" fB dB ["_law_room_here", "_law_sides_here"])
    (GE : FnOk P w K mg base CX0 3 fE dE ["_law_n", "_law_room_here"] (spSomeOne K)) (CE : Cal K mg "_law_seen" fE dE ["_law_n", "_law_room_here"])
    (GX : FnOk P w K mg base CX0 1 fX dX ["_law_n", "_law_row"] (spSome K)) (CX : Cal K mg "_law_some" fX dX ["_law_n", "_law_row"])
    (GY : FnOk P w K mg base CX0 1 fY dY ["_law_found", "_law_due"] spSays) (CY : Cal K mg "_law_says" fY dY ["_law_found", "_law_due"])
    (GA : FnOk P w K mg base CX0 25 fA dA ["sides", "going", "seen", "worlds"] (spAnswerP K)) (CA : Cal K mg "answer" fA dA ["sides", "going", "seen", "worlds"]) : FnOk P w K mg base CX0 26 f fd ["_law_script"] (spLaw K) := by
  refine F.ok scLaw (fun vs H Q E h => ?_) (fun cdv A outer s H vs Q E hr h => ?_)
  · obtain ⟨a, ns, rfl, _⟩ := h
    rfl
  obtain ⟨a, ns, rfl, hS, h63, q⟩ := h
  have hr1 : Room 1 _ := hr.mono (by decide)
  have hr2 : Room 2 _ := hr.mono (by decide)
  have hr3 : Room 3 _ := hr.mono (by decide)
  have hr25 : Room 25 _ := hr
  refine ⟨_, pss_cons (ps_set (i := 1) scLaw.nd rfl (Or.inl rfl) (pe_call GM hr1 (by rfl) CM.m CM.k CM.b .nil pass0 (pa_cons (pe_call GN hr1 (by rfl) CN.m CN.k CN.b .nil pass0 (pa_cons (pv 0) (pa_cons pe_int pa_nil))) pa_nil)))
    (pss_cons (ps_set (i := 2) scLaw.nd rfl (Or.inl rfl) (pe_call GR hr3 (by rfl) CR.m CR.k CR.b .nil pass0 (pa_cons (pe_call GN hr1 (by rfl) CN.m CN.k CN.b .nil pass0 (pa_cons (pv 0) (pa_cons pe_int pa_nil))) (pa_cons (pv 1) pa_nil))))
    (pss_cons (ps_set (i := 3) scLaw.nd rfl (Or.inl rfl) (pe_call GS hr1 (by rfl) CS.m CS.k CS.b .nil pass0 (pa_cons (pe_call GN hr1 (by rfl) CN.m CN.k CN.b .nil pass0 (pa_cons (pv 0) (pa_cons pe_int pa_nil))) (pa_cons pe_int (pa_cons (pv 1) pa_nil)))))
    (pss_cons (ps_set (i := 4) scLaw.nd rfl (Or.inl rfl) (pe_call GD hr25 (by rfl) CD.m CD.k CD.b .nil pass0 (pa_cons (pv 2) (pa_cons (pe_call GK hr25 (by rfl) CK.m CK.k CK.b .nil pass0 (pa_cons (pe_call GN hr1 (by rfl) CN.m CN.k CN.b .nil pass0 (pa_cons (pv 0) (pa_cons pe_int pa_nil))) (pa_cons (pv 2) (pa_cons (pv 3) pa_nil)))) (pa_cons (pv 3) pa_nil)))))
    (pss_cons (ps_set (i := 5) scLaw.nd rfl (Or.inl rfl) (pe_call GO hr2 (by rfl) CO.m CO.k CO.b .nil pass0 (pa_cons (pe_call GN hr1 (by rfl) CN.m CN.k CN.b .nil pass0 (pa_cons (pv 0) (pa_cons pe_int pa_nil))) (pa_cons (pe_call GB hr1 (by rfl) CB.m CB.k CB.b .nil pass0 (pa_cons (pv 2) (pa_cons (pv 4) pa_nil))) pa_nil))))
    (pss_cons (ps_set (i := 6) scLaw.nd rfl (Or.inr rfl) (pe_call GE hr3 (by rfl) CE.m CE.k CE.b .nil pass0 (pa_cons (pe_call GN hr1 (by rfl) CN.m CN.k CN.b .nil pass0 (pa_cons (pv 0) (pa_cons pe_int pa_nil))) (pa_cons (pv 2) pa_nil))))
    (pss_cons (ps_set (i := 7) scLaw.nd rfl (Or.inr rfl) (pe_call GX hr1 (by rfl) CX.m CX.k CX.b .nil pass0 (pa_cons (pe_call GN hr1 (by rfl) CN.m CN.k CN.b .nil pass0 (pa_cons (pv 0) (pa_cons pe_int pa_nil))) (pa_cons (pv 2) pa_nil))))
    (pss_cons (ps_if (pt_cmpR op_eq (pe_op op_mod (pe_call GN hr1 (by rfl) CN.m CN.k CN.b .nil pass0 (pa_cons (pv 0) (pa_cons pe_int pa_nil))) pe_int) pe_int (nomark _))
      (pss_one (ps_set (i := 7) scLaw.nd rfl (Or.inr rfl) (pe_comp1 (N := ["_law_world", "_law_row", "_law_seen_here"]) (js := [none, some 7, some 6]) (cl := [("_law_seen_here", s.heap.objs.size + 1), ("_law_row", s.heap.objs.size + 2)]) ⟨rfl, rfl, rfl, (by intro p hp; simp at hp; rcases hp with rfl | rfl <;> rfl), rfl, rfl, rfl⟩ (pi_list (pv 2)) (fun c1 => (pg_name (i := 0) (show (["_law_world", "_law_row", "_law_seen_here"] : List Str).Nodup by decide +kernel) rfl (Or.inl rfl))) (fun c1 => (pts_one (pw_or (pt_cmpR op_in_seq (pv 0) (pv 1) (by with_unfolding_all rfl)) (pw_or1 (pt_cmpR op_in_seq (pv 0) (pv 2) (by with_unfolding_all rfl)))).pt)) (fun c1 => (pv 0)))))
      pss_nil)
    (pss_cons (ps_comp1 (i := 8) scLaw.nd rfl (Or.inl rfl) (N := ["_law_world", "_law_row"]) (js := [none, some 7]) (cl := [("_law_row", s.heap.objs.size + 2)]) ⟨rfl, rfl, rfl, (by intro p hp; simp at hp; rcases hp with rfl <;> rfl), rfl, rfl, rfl⟩ (pi_list (pv 2)) (fun c1 => (pg_name (i := 0) (show (["_law_world", "_law_row"] : List Str).Nodup by decide +kernel) rfl (Or.inl rfl))) (fun c1 => (pts_one (pt_cmpR op_notIn_seq (pv 0) (pv 1) (by with_unfolding_all rfl)))) (fun c1 => (pv 0)))
    (pss_cons (ps_set (i := 9) scLaw.nd rfl (Or.inl rfl) (pe_call GA hr25 (by rfl) CA.m CA.k CA.b .nil pass0 (pa_cons (pv 4) (pa_cons (pv 5) (pa_cons (pv 6) (pa_cons (pv 7) pa_nil))))))
    (pss_cons (ps_if (pt_cmpR op_eq (pv 9) pe_str (nomark _))
      (pss_one (ps_ret (pe_call GY hr1 (by rfl) CY.m CY.k CY.b .nil pass0 (pa_cons (pe_call GA hr25 (by rfl) CA.m CA.k CA.b .nil pass0 (pa_cons (pv 4) (pa_cons (pv 5) (pa_cons (pv 6) (pa_cons (pv 8) pa_nil))))) (pa_cons pe_str pa_nil)))))
      pss_nil)
    (pss_cons (ps_if (pt_cmpR op_eq (pv 9) pe_str (nomark _))
      (pss_one (ps_ret (pe_call GY hr1 (by rfl) CY.m CY.k CY.b .nil pass0 (pa_cons (pe_call GA hr25 (by rfl) CA.m CA.k CA.b .nil pass0 (pa_cons (pv 4) (pa_cons (pv 5) (pa_cons (pv 6) (pa_cons (pv 8) pa_nil))))) (pa_cons pe_str pa_nil)))))
      pss_nil)
    (pss_one (ps_ret (pe_and (pe_call GY hr1 (by rfl) CY.m CY.k CY.b .nil pass0 (pa_cons (pv 9) (pa_cons pe_str pa_nil))) (pe_one (pe_call GY hr1 (by rfl) CY.m CY.k CY.b .nil pass0 (pa_cons (pe_call GA hr25 (by rfl) CA.m CA.k CA.b .nil pass0 (pa_cons (pv 4) (pa_cons (pv 5) (pa_cons (pv 6) (pa_cons (pv 8) pa_nil))))) (pa_cons pe_str pa_nil)))))))))))))))))), ?_⟩
  refine ⟨_, rfl, a, ns, 0, rfl, hS, h63, by decide, by decide, fun n0 H1 hn0 s1 => ⟨n0, rfl, hn0, fun m hm1 hm5 => ?_⟩⟩
  obtain ⟨many, rfl⟩ := Int.eq_ofNat_of_zero_le (show 0 ≤ m by omega)
  refine ⟨_, rfl, a, ns, 1, rfl, s1.seq hS, h63, by decide, by decide, fun n1 H2 hn1 s2 => ?_⟩
  refine ⟨_, rfl, n1, many, rfl, by omega, by omega, fun rm room H3 s3 hrm0 hrm hsub hne => ?_⟩
  have t3 := s1.trans (s2.trans s3)
  have wroom : Wr room := (wr_upto (show many ≤ 5 by omega)).sub hsub
  have lroom := wroom.len
  refine ⟨_, rfl, a, ns, 2, rfl, t3.seq hS, h63, by decide, by decide, fun n2 H4 hn2 s4 => ?_⟩
  refine ⟨_, rfl, n2, 8, many, rfl, hn2, by decide, by decide, by omega, by omega, fun v t H5 s5 ha hok hsz => ?_⟩
  have ok5 : t.ok 5 := Tr.ok.mono (show many ≤ 5 by omega) hok
  have t5 := t3.trans (s4.trans s5)
  have hrm5 := s5 _ _ (s4 _ _ hrm)
  refine ⟨_, rfl, _, rfl, a, ns, 3, rfl, t5.seq hS, h63, by decide, by decide, fun n3 H6 hn3 s6 => ?_⟩
  have t6 := t5.trans s6
  have hrm6 := s6 _ _ hrm5
  have ha6 := ha.keep (TS.same s6)
  refine ⟨_, rfl, _, rfl, n3, rm, room, v, t, rfl, ha6, ok5, hsz, SqL.of hrm6, by omega, hne, fun z H7 s7 hz => ?_⟩
  have hrm7 := s7 _ _ hrm6
  refine ⟨_, rfl, rm, room, z, v, t, rfl, ha6.keep (TS.same s7), ok5, hsz, SqL.of hrm7, by omega, fun sd xs H8 s8 hsd0 hsd hR8 => ?_⟩
  have hrm8 := s8 _ _ hrm7
  have t8 := t6.trans (s7.trans s8)
  have two := sides_two (z := z) (t := t) (row := room)
  have sne := fun s (hs : s ∈ sidesR z t room) => sides_ne hz hs
  have ssub := fun s (hs : s ∈ sidesR z t room) => sides_sub hs
  have bne := base_ne hz
  have slen : (sidesR z t room).length ≤ 2 := by
    rcases two with ⟨_, e⟩ | ⟨_, _, e⟩ <;> rw [e] <;> simp
  have ends : ∀ H', Same H8 H' → _ := fun H' s' => rows_ends (hR8.keep s')
  generalize hsides : sidesR z t room = sides at *
  refine ⟨_, rfl, a, ns, 4, rfl, t8.seq hS, h63, by decide, by decide, fun n4 H9 hn4 s9 => ?_⟩
  refine ⟨_, rfl, _, rfl, rm, sd, room, xs, sides, rfl, SqL.of (s9 _ _ hrm8), by omega, SqL.of (s9 _ _ hsd), hR8.keep s9, by omega, fun bs H10 s10 hbs0 hbs => ?_⟩
  have blen : (baseR room sides).length ≤ room.length := base_sub.length_le
  refine ⟨n4, bs, _, rfl, SqL.of hbs, by omega, bne, fun gg going H11 s11 hgg0 hgg gsub gne => ?_⟩
  have t11 := t8.trans (s9.trans (s10.trans s11))
  have u11 := s9.trans (s10.trans s11)
  refine ⟨_, rfl, a, ns, 5, rfl, t11.seq hS, h63, by decide, by decide, fun n5 H12 hn5 s12 => ?_⟩
  refine ⟨_, rfl, n5, rm, room, rfl, SqL.of (s12 _ _ (u11 _ _ hrm8)), by omega, hne, fun sn seen H13 s13 hsn0 hsn nsub nne => ?_⟩
  have u13 := u11.trans (s12.trans s13)
  have t13 := t8.trans u13
  have hgg13 := s13 _ _ (s12 _ _ hgg)
  refine ⟨_, rfl, a, ns, 6, rfl, t13.seq hS, h63, by decide, by decide, fun n6 H14 hn6 s14 => ?_⟩
  refine ⟨_, rfl, n6, rm, room, rfl, SqL.of (s14 _ _ (u13 _ _ hrm8)), by omega, fun rw0 row0 H15 s15 hrw00 hrw0 rsub0 => ?_⟩
  have u15 := u13.trans (s14.trans s15)
  have hrm15 := u15 _ _ hrm8
  have hsd15 := u15 _ _ hsd
  have hsn15 := s15 _ _ (s14 _ _ hsn)
  have hgg15 := s15 _ _ (s14 _ _ hgg13)
  have hR15 := hR8.keep u15
  have wgoing : Wr going := wroom.sub (gsub.trans base_sub)
  have wseen : Wr seen := wroom.sub nsub
  have wsides : ∀ s ∈ sides, Wr s := fun s hs => wroom.sub (ssub s hs)
  have sgoing : ∀ k ∈ going, k ∈ room := fun k hk => (gsub.trans base_sub).subset hk
  have sseen : ∀ k ∈ seen, k ∈ room := fun k hk => nsub.subset hk
  have t15 := t8.trans u15
  refine set_go (σ' := [some (.ref a), some (.int (many : Int)), some (.ref rm), some v, some (.ref sd), some (.ref gg), some (.ref sn), some (.ref rw0), none, none]) rfl ?_
  refine nx_mid (Mid17 room H15 fun rw => [some (.ref a), some (.int (many : Int)), some (.ref rm), some v, some (.ref sd), some (.ref gg), some (.ref sn), some (.ref rw), none, none]) ?_ (fun fin => ?_)
  rotate_left
  · refine ⟨_, rfl, a, ns, 7, rfl, t15.seq hS, h63, by decide, by decide, fun n7 H16 hn7 s16 => ?_⟩
    have hrm16 := s16 _ _ hrm15
    have hsn16 := s16 _ _ hsn15
    have hrw16 := s16 _ _ hrw0
    refine ⟨_, _, rfl, rfl, (by show (0 : Int) < 2; decide), rfl, _, rfl, ?_⟩
    refine ite2 (fun _ => ?_) (fun _ => ?_)
    · refine ⟨_, rfl, rm, rfl, ⟨_, SqL.of hrm16⟩, fun c1 acc hacc => comp_filter (p := fun k => decide (k ∈ row0) || decide (k ∈ seen)) (rest := [some (.ref rw0), some (.ref sn)]) (SqL.of hrm16) hacc (by omega) (fun k hk H2 s2 R hR => ?_) (fun v0 H2 s2 h2 => ?_) none⟩
      · refine ⟨_, rfl, _, rfl, in_row (s2.seq (SqL.of hrw16)) ⟨_, rfl, ?_⟩⟩
        by_cases hk0 : k ∈ row0
        · refine iteY hk0 ?_
          have := hR H2 (Same.refl _)
          rw [decide_eq_true hk0, Bool.true_or] at this
          exact this
        · refine iteN hk0 ?_
          refine ⟨_, rfl, _, rfl, in_row (s2.seq (SqL.of hsn16)) ⟨_, rfl, ?_⟩⟩
          have := hR H2 (Same.refl _)
          rw [decide_eq_false hk0, Bool.false_or] at this
          exact this
      · refine comp_go (i := 7) (v := .ref acc) (H := H2) (σ := [some (.ref a), some (.int (many : Int)), some (.ref rm), some v, some (.ref sd), some (.ref gg), some (.ref sn), some (.ref rw0), none, none]) (σ' := [some (.ref a), some (.int (many : Int)), some (.ref rm), some v, some (.ref sd), some (.ref gg), some (.ref sn), some (.ref acc), none, none]) rfl ?_
        refine fin _ _ ?_
        exact ⟨acc, _, rfl, s16.trans s2, h2, List.filter_sublist⟩
    · refine next_go ?_
      refine fin _ _ ?_
      exact ⟨rw0, row0, rfl, s16, hrw16, rsub0⟩
  rintro σ1 H16 ⟨rw1, row1, rfl, s16, hrw1, rsub1⟩
  have hrm16 := s16 _ _ hrm15
  refine ⟨_, rfl, rm, rfl, ⟨_, SqL.of hrm16⟩, fun c1 ot hot => comp_filter (p := fun k => !decide (k ∈ row1)) (rest := [some (.ref rw1)]) (SqL.of hrm16) hot (by omega) (fun k hk H2 s2 R hR => ?_) (fun v0 H17 s17 hot17 => ?_) none⟩
  · exact ⟨_, rfl, _, rfl, notin_row (s2.seq (SqL.of hrw1)) ⟨_, rfl, hR H2 (Same.refl _)⟩⟩
  have cont := contraries (sides := sides) (row := row1) sgoing sseen gne nne
  have wot : Wr (room.filter fun k => !decide (k ∈ row1)) := wroom.sub List.filter_sublist
  have wrow := wroom.sub rsub1
  generalize (room.filter fun k => !decide (k ∈ row1)) = others at *
  have s17' := s16.trans s17
  refine ⟨_, rfl, _, rfl, _, rfl, _, rfl, sd, gg, sn, rw1, xs, sides, going, seen, row1, rfl, (s17' _ _ hsd15), hR15.keep s17', wsides, slen, SqL.of (s17' _ _ hgg15), wgoing, gne, SqL.of (s17' _ _ hsn15), wseen, nne, SqL.of (s17 _ _ hrw1), wrow, fun H18 s18 => ?_⟩
  have s18' := s17'.trans s18
  have hot18 := s18 _ _ hot17
  refine ⟨_, rfl, rfl, _, rfl, ?_⟩
  rcases cont with ⟨e1, e2⟩ | ⟨e1, e2⟩ | ⟨e1, e2⟩
  · refine iteY (by rw [e1]) ?_
    refine ⟨_, rfl, _, rfl, _, rfl, _, rfl, sd, gg, sn, ot, xs, sides, going, seen, others, rfl, (s18' _ _ hsd15), hR15.keep s18', wsides, slen, SqL.of (s18' _ _ hgg15), wgoing, gne, SqL.of (s18' _ _ hsn15), wseen, nne, SqL.of hot18, wot, fun H19 s19 => ?_⟩
    exact ⟨"deny", (by rw [e2]; rfl), q _⟩
  · refine iteN (by rw [e1]; decide) ?_
    refine ⟨_, rfl, rfl, _, rfl, ?_⟩
    refine iteY (by rw [e1]) ?_
    refine ⟨_, rfl, _, rfl, _, rfl, _, rfl, sd, gg, sn, ot, xs, sides, going, seen, others, rfl, (s18' _ _ hsd15), hR15.keep s18', wsides, slen, SqL.of (s18' _ _ hgg15), wgoing, gne, SqL.of (s18' _ _ hsn15), wseen, nne, SqL.of hot18, wot, fun H19 s19 => ?_⟩
    exact ⟨"grant", (by rw [e2]; rfl), q _⟩
  · refine iteN (by rw [e1]; decide) ?_
    refine ⟨_, rfl, rfl, _, rfl, ?_⟩
    refine iteN (by rw [e1]; decide) ?_
    refine ⟨_, rfl, "doubt", (by rw [e1]; rfl), ?_⟩
    refine ⟨_, rfl, iteT ?_⟩
    refine ⟨_, rfl, _, rfl, _, rfl, _, rfl, sd, gg, sn, ot, xs, sides, going, seen, others, rfl, (s18' _ _ hsd15), hR15.keep s18', wsides, slen, SqL.of (s18' _ _ hgg15), wgoing, gne, SqL.of (s18' _ _ hsn15), wseen, nne, SqL.of hot18, wot, fun H19 s19 => ?_⟩
    exact ⟨"doubt", (by rw [e2]; rfl), q _⟩
end
theorem all_mk {l : PySem.W.OpenLaw} {w : World} {K : PySem.W.Frag} {h : Heap} {mg : Str → Option Value} {fa f1 f2 f3 f4 f5 f6 f7 f8 f9 f10 f11 f12 f13 f14 f15 f16 f17 f18 f19 f20 f21 f22 f23 f24 f25 : Addr} (X : K.In h) (G : h.Ns mainGlobals mg) (hfa : mg "law" = some (.ref fa))
    {od1 an1 od2 an2 od3 an3 od4 an4 od5 an5 od6 an6 od7 an7 od8 an8 od9 an9 od10 an10 od11 an11 od12 an12 od13 an13 od14 an14 od15 an15 od16 an16 od17 an17 od18 an18 od19 an19 od20 an20 od21 an21 od22 an22 od23 an23 od24 an24 od25 an25 : Option Addr} {sl1 sl2 sl3 sl4 sl5 sl6 sl7 sl8 sl9 sl10 sl11 sl12 sl13 sl14 sl15 sl16 sl17 sl18 sl19 sl20 sl21 sl22 sl23 sl24 sl25 : Array (Option Value)} {oc1 kV1 dc1 pm1 cd1 ct1 oc2 kV2 dc2 pm2 cd2 ct2 oc3 kV3 dc3 pm3 cd3 ct3 oc4 kV4 dc4 pm4 cd4 ct4 oc5 kV5 dc5 pm5 cd5 ct5 oc6 kV6 dc6 pm6 cd6 ct6 oc7 kV7 dc7 pm7 cd7 ct7 oc8 kV8 dc8 pm8 cd8 ct8 oc9 kV9 dc9 pm9 cd9 ct9 oc10 kV10 dc10 pm10 cd10 ct10 oc11 kV11 dc11 pm11 cd11 ct11 oc12 kV12 dc12 pm12 cd12 ct12 oc13 kV13 dc13 pm13 cd13 ct13 oc14 kV14 dc14 pm14 cd14 ct14 oc15 kV15 dc15 pm15 cd15 ct15 oc16 kV16 dc16 pm16 cd16 ct16 oc17 kV17 dc17 pm17 cd17 ct17 oc18 kV18 dc18 pm18 cd18 ct18 oc19 kV19 dc19 pm19 cd19 ct19 oc20 kV20 dc20 pm20 cd20 ct20 oc21 kV21 dc21 pm21 cd21 ct21 oc22 kV22 dc22 pm22 cd22 ct22 oc23 kV23 dc23 pm23 cd23 ct23 oc24 kV24 dc24 pm24 cd24 ct24 oc25 kV25 dc25 pm25 cd25 ct25 : Value} 
    (a1 : PySem.W.nsIn K mainGlobals "_law_num" = some (some (.ref f1))) (l1 : K.lookup f1 = some ⟨oc1, od1, .func (PySem.W.fnOf "_law_num" "_law_num" (defArgs sNum) (defBody sNum) (defScope sNum) .none kV1 dc1 pm1 an1 cd1 ct1), sl1⟩) (c1 : PySem.W.codeIn K cd1 "_law_num" = true) (k1 : PySem.W.keepIn K (.ref f1) = true)
    (a2 : PySem.W.nsIn K mainGlobals "_law_many" = some (some (.ref f2))) (l2 : K.lookup f2 = some ⟨oc2, od2, .func (PySem.W.fnOf "_law_many" "_law_many" (defArgs sMany) (defBody sMany) (defScope sMany) .none kV2 dc2 pm2 an2 cd2 ct2), sl2⟩) (c2 : PySem.W.codeIn K cd2 "_law_many" = true) (k2 : PySem.W.keepIn K (.ref f2) = true)
    (a3 : PySem.W.nsIn K mainGlobals "_law_sentence" = some (some (.ref f3))) (l3 : K.lookup f3 = some ⟨oc3, od3, .func (PySem.W.fnOf "_law_sentence" "_law_sentence" (defArgs sSent) (defBody sSent) (defScope sSent) .none kV3 dc3 pm3 an3 cd3 ct3), sl3⟩) (c3 : PySem.W.codeIn K cd3 "_law_sentence" = true) (k3 : PySem.W.keepIn K (.ref f3) = true)
    (a4 : PySem.W.nsIn K mainGlobals "_law_worlds" = some (some (.ref f4))) (l4 : K.lookup f4 = some ⟨oc4, od4, .func (PySem.W.fnOf "_law_worlds" "_law_worlds" (defArgs sLworlds) (defBody sLworlds) (defScope sLworlds) .none kV4 dc4 pm4 an4 cd4 ct4), sl4⟩) (c4 : PySem.W.codeIn K cd4 "_law_worlds" = true) (k4 : PySem.W.keepIn K (.ref f4) = true)
    (a5 : PySem.W.nsIn K mainGlobals "_law_some" = some (some (.ref f5))) (l5 : K.lookup f5 = some ⟨oc5, od5, .func (PySem.W.fnOf "_law_some" "_law_some" (defArgs sLsome) (defBody sLsome) (defScope sLsome) .none kV5 dc5 pm5 an5 cd5 ct5), sl5⟩) (c5 : PySem.W.codeIn K cd5 "_law_some" = true) (k5 : PySem.W.keepIn K (.ref f5) = true)
    (a6 : PySem.W.nsIn K mainGlobals "_law_some_one" = some (some (.ref f6))) (l6 : K.lookup f6 = some ⟨oc6, od6, .func (PySem.W.fnOf "_law_some_one" "_law_some_one" (defArgs sLsomeone) (defBody sLsomeone) (defScope sLsomeone) .none kV6 dc6 pm6 an6 cd6 ct6), sl6⟩) (c6 : PySem.W.codeIn K cd6 "_law_some_one" = true) (k6 : PySem.W.keepIn K (.ref f6) = true)
    (a7 : PySem.W.nsIn K mainGlobals "_law_room" = some (some (.ref f7))) (l7 : K.lookup f7 = some ⟨oc7, od7, .func (PySem.W.fnOf "_law_room" "_law_room" (defArgs sLroom) (defBody sLroom) (defScope sLroom) .none kV7 dc7 pm7 an7 cd7 ct7), sl7⟩) (c7 : PySem.W.codeIn K cd7 "_law_room" = true) (k7 : PySem.W.keepIn K (.ref f7) = true)
    (a8 : PySem.W.nsIn K mainGlobals "_law_true" = some (some (.ref f8))) (l8 : K.lookup f8 = some ⟨oc8, od8, .func (PySem.W.fnOf "_law_true" "_law_true" (defArgs sLtrue) (defBody sLtrue) (defScope sLtrue) .none kV8 dc8 pm8 an8 cd8 ct8), sl8⟩) (c8 : PySem.W.codeIn K cd8 "_law_true" = true) (k8 : PySem.W.keepIn K (.ref f8) = true)
    (a9 : PySem.W.nsIn K mainGlobals "_law_ins" = some (some (.ref f9))) (l9 : K.lookup f9 = some ⟨oc9, od9, .func (PySem.W.fnOf "_law_ins" "_law_ins" (defArgs sLins) (defBody sLins) (defScope sLins) .none kV9 dc9 pm9 an9 cd9 ct9), sl9⟩) (c9 : PySem.W.codeIn K cd9 "_law_ins" = true) (k9 : PySem.W.keepIn K (.ref f9) = true)
    (a10 : PySem.W.nsIn K mainGlobals "_law_outs" = some (some (.ref f10))) (l10 : K.lookup f10 = some ⟨oc10, od10, .func (PySem.W.fnOf "_law_outs" "_law_outs" (defArgs sLouts) (defBody sLouts) (defScope sLouts) .none kV10 dc10 pm10 an10 cd10 ct10), sl10⟩) (c10 : PySem.W.codeIn K cd10 "_law_outs" = true) (k10 : PySem.W.keepIn K (.ref f10) = true)
    (a11 : PySem.W.nsIn K mainGlobals "_law_sides" = some (some (.ref f11))) (l11 : K.lookup f11 = some ⟨oc11, od11, .func (PySem.W.fnOf "_law_sides" "_law_sides" (defArgs sLsides) (defBody sLsides) (defScope sLsides) .none kV11 dc11 pm11 an11 cd11 ct11), sl11⟩) (c11 : PySem.W.codeIn K cd11 "_law_sides" = true) (k11 : PySem.W.keepIn K (.ref f11) = true)
    (a12 : PySem.W.nsIn K mainGlobals "_law_kind" = some (some (.ref f12))) (l12 : K.lookup f12 = some ⟨oc12, od12, .func (PySem.W.fnOf "_law_kind" "_law_kind" (defArgs sLkind) (defBody sLkind) (defScope sLkind) .none kV12 dc12 pm12 an12 cd12 ct12), sl12⟩) (c12 : PySem.W.codeIn K cd12 "_law_kind" = true) (k12 : PySem.W.keepIn K (.ref f12) = true)
    (a13 : PySem.W.nsIn K mainGlobals "_law_base" = some (some (.ref f13))) (l13 : K.lookup f13 = some ⟨oc13, od13, .func (PySem.W.fnOf "_law_base" "_law_base" (defArgs sLbase) (defBody sLbase) (defScope sLbase) .none kV13 dc13 pm13 an13 cd13 ct13), sl13⟩) (c13 : PySem.W.codeIn K cd13 "_law_base" = true) (k13 : PySem.W.keepIn K (.ref f13) = true)
    (a14 : PySem.W.nsIn K mainGlobals "_law_seen" = some (some (.ref f14))) (l14 : K.lookup f14 = some ⟨oc14, od14, .func (PySem.W.fnOf "_law_seen" "_law_seen" (defArgs sLseen) (defBody sLseen) (defScope sLseen) .none kV14 dc14 pm14 an14 cd14 ct14), sl14⟩) (c14 : PySem.W.codeIn K cd14 "_law_seen" = true) (k14 : PySem.W.keepIn K (.ref f14) = true)
    (a15 : PySem.W.nsIn K mainGlobals "_law_says" = some (some (.ref f15))) (l15 : K.lookup f15 = some ⟨oc15, od15, .func (PySem.W.fnOf "_law_says" "_law_says" (defArgs sSays) (defBody sSays) (defScope sSays) .none kV15 dc15 pm15 an15 cd15 ct15), sl15⟩) (c15 : PySem.W.codeIn K cd15 "_law_says" = true) (k15 : PySem.W.keepIn K (.ref f15) = true)
    (a16 : PySem.W.nsIn K mainGlobals "in_first_only" = some (some (.ref f16))) (l16 : K.lookup f16 = some ⟨oc16, od16, .func (PySem.W.fnOf "in_first_only" "in_first_only" (defArgs sFirst) (defBody sFirst) (defScope sFirst) .none kV16 dc16 pm16 an16 cd16 ct16), sl16⟩) (c16 : PySem.W.codeIn K cd16 "in_first_only" = true) (k16 : PySem.W.keepIn K (.ref f16) = true)
    (a17 : PySem.W.nsIn K mainGlobals "all_within" = some (some (.ref f17))) (l17 : K.lookup f17 = some ⟨oc17, od17, .func (PySem.W.fnOf "all_within" "all_within" (defArgs sAllWi) (defBody sAllWi) (defScope sAllWi) .none kV17 dc17 pm17 an17 cd17 ct17), sl17⟩) (c17 : PySem.W.codeIn K cd17 "all_within" = true) (k17 : PySem.W.keepIn K (.ref f17) = true)
    (a18 : PySem.W.nsIn K mainGlobals "in_both" = some (some (.ref f18))) (l18 : K.lookup f18 = some ⟨oc18, od18, .func (PySem.W.fnOf "in_both" "in_both" (defArgs sBoth) (defBody sBoth) (defScope sBoth) .none kV18 dc18 pm18 an18 cd18 ct18), sl18⟩) (c18 : PySem.W.codeIn K cd18 "in_both" = true) (k18 : PySem.W.keepIn K (.ref f18) = true)
    (a19 : PySem.W.nsIn K mainGlobals "some_within" = some (some (.ref f19))) (l19 : K.lookup f19 = some ⟨oc19, od19, .func (PySem.W.fnOf "some_within" "some_within" (defArgs sSomeW) (defBody sSomeW) (defScope sSomeW) .none kV19 dc19 pm19 an19 cd19 ct19), sl19⟩) (c19 : PySem.W.codeIn K cd19 "some_within" = true) (k19 : PySem.W.keepIn K (.ref f19) = true)
    (a20 : PySem.W.nsIn K mainGlobals "plain" = some (some (.ref f20))) (l20 : K.lookup f20 = some ⟨oc20, od20, .func (PySem.W.fnOf "plain" "plain" (defArgs sPlain) (defBody sPlain) (defScope sPlain) .none kV20 dc20 pm20 an20 cd20 ct20), sl20⟩) (c20 : PySem.W.codeIn K cd20 "plain" = true) (k20 : PySem.W.keepIn K (.ref f20) = true)
    (a21 : PySem.W.nsIn K mainGlobals "left_by" = some (some (.ref f21))) (l21 : K.lookup f21 = some ⟨oc21, od21, .func (PySem.W.fnOf "left_by" "left_by" (defArgs sLeftBy) (defBody sLeftBy) (defScope sLeftBy) .none kV21 dc21 pm21 an21 cd21 ct21), sl21⟩) (c21 : PySem.W.codeIn K cd21 "left_by" = true) (k21 : PySem.W.keepIn K (.ref f21) = true)
    (a22 : PySem.W.nsIn K mainGlobals "missed_side" = some (some (.ref f22))) (l22 : K.lookup f22 = some ⟨oc22, od22, .func (PySem.W.fnOf "missed_side" "missed_side" (defArgs sMissed) (defBody sMissed) (defScope sMissed) .none kV22 dc22 pm22 an22 cd22 ct22), sl22⟩) (c22 : PySem.W.codeIn K cd22 "missed_side" = true) (k22 : PySem.W.keepIn K (.ref f22) = true)
    (a23 : PySem.W.nsIn K mainGlobals "barring_side" = some (some (.ref f23))) (l23 : K.lookup f23 = some ⟨oc23, od23, .func (PySem.W.fnOf "barring_side" "barring_side" (defArgs sBarring) (defBody sBarring) (defScope sBarring) .none kV23 dc23 pm23 an23 cd23 ct23), sl23⟩) (c23 : PySem.W.codeIn K cd23 "barring_side" = true) (k23 : PySem.W.keepIn K (.ref f23) = true)
    (a24 : PySem.W.nsIn K mainGlobals "answer" = some (some (.ref f24))) (l24 : K.lookup f24 = some ⟨oc24, od24, .func (PySem.W.fnOf "answer" "answer" (defArgs sAnswer) (defBody sAnswer) (defScope sAnswer) .none kV24 dc24 pm24 an24 cd24 ct24), sl24⟩) (c24 : PySem.W.codeIn K cd24 "answer" = true) (k24 : PySem.W.keepIn K (.ref f24) = true)
    (a25 : PySem.W.nsIn K mainGlobals "law" = some (some (.ref f25))) (l25 : K.lookup f25 = some ⟨oc25, od25, .func (PySem.W.fnOf "law" "law" (defArgs sLaw) (defBody sLaw) (defScope sLaw) .none kV25 dc25 pm25 an25 cd25 ct25), sl25⟩) (c25 : PySem.W.codeIn K cd25 "law" = true) (k25 : PySem.W.keepIn K (.ref f25) = true)
    (yabs : PySem.W.nsIn K mainGlobals "abs" = some none)
    (ylen : PySem.W.nsIn K mainGlobals "len" = some none)
    (yrange : PySem.W.nsIn K mainGlobals "range" = some none)
    (yisinstance : PySem.W.nsIn K mainGlobals "isinstance" = some none)
    (yint : PySem.W.nsIn K mainGlobals "int" = some none)
    (ybool : PySem.W.nsIn K mainGlobals "bool" = some none)
    (ystr : PySem.W.nsIn K mainGlobals "str" = some none)
    (ytuple : PySem.W.nsIn K mainGlobals "tuple" = some none)
    (ylist : PySem.W.nsIn K mainGlobals "list" = some none)
    (yset : PySem.W.nsIn K mainGlobals "set" = some none)
    (ysorted : PySem.W.nsIn K mainGlobals "sorted" = some none)
    (yany : PySem.W.nsIn K mainGlobals "any" = some none)
    (yall : PySem.W.nsIn K mainGlobals "all" = some none)
    (yenumerate : PySem.W.nsIn K mainGlobals "enumerate" = some none)
    : ∃ fd : FuncData, (∀ (s : Shared) (v : Value), BindsTo s fd ⟨[v], []⟩ [("_law_script", v)]) ∧ ∀ base : Heap, K.In base → base.Ns mainGlobals mg → FnOk l.prog w K mg base CX0 26 fa fd ["_law_script"] (spLaw K) := by
  have e := hfa.symm.trans (PySem.W.mg_of X G a25)
  cases e
  have F1 := fun_mk (st := sNum) l1 c1 k1
  have F2 := fun_mk (st := sMany) l2 c2 k2
  have F3 := fun_mk (st := sSent) l3 c3 k3
  have F4 := fun_mk (st := sLworlds) l4 c4 k4
  have F5 := fun_mk (st := sLsome) l5 c5 k5
  have F6 := fun_mk (st := sLsomeone) l6 c6 k6
  have F7 := fun_mk (st := sLroom) l7 c7 k7
  have F8 := fun_mk (st := sLtrue) l8 c8 k8
  have F9 := fun_mk (st := sLins) l9 c9 k9
  have F10 := fun_mk (st := sLouts) l10 c10 k10
  have F11 := fun_mk (st := sLsides) l11 c11 k11
  have F12 := fun_mk (st := sLkind) l12 c12 k12
  have F13 := fun_mk (st := sLbase) l13 c13 k13
  have F14 := fun_mk (st := sLseen) l14 c14 k14
  have F15 := fun_mk (st := sSays) l15 c15 k15
  have F16 := fun_mk (st := sFirst) l16 c16 k16
  have F17 := fun_mk (st := sAllWi) l17 c17 k17
  have F18 := fun_mk (st := sBoth) l18 c18 k18
  have F19 := fun_mk (st := sSomeW) l19 c19 k19
  have F20 := fun_mk (st := sPlain) l20 c20 k20
  have F21 := fun_mk (st := sLeftBy) l21 c21 k21
  have F22 := fun_mk (st := sMissed) l22 c22 k22
  have F23 := fun_mk (st := sBarring) l23 c23 k23
  have F24 := fun_mk (st := sAnswer) l24 c24 k24
  have FLAW := fun_mk (st := sLaw) l25 c25 k25
  have C1 : Cal K mg "_law_num" f1 _ ["_law_script", "_law_k"] := ⟨PySem.W.mg_of X G a1, k1, F1.binds (ps := ["_law_script", "_law_k"]) fun _ _ _ _ _ _ us hl => match us, hl with | [_, _], _ => rfl⟩
  have C2 : Cal K mg "_law_many" f2 _ ["_law_n"] := ⟨PySem.W.mg_of X G a2, k2, F2.binds (ps := ["_law_n"]) fun _ _ _ _ _ _ us hl => match us, hl with | [_], _ => rfl⟩
  have C3 : Cal K mg "_law_sentence" f3 _ ["_law_n", "_law_most", "_law_many_here"] := ⟨PySem.W.mg_of X G a3, k3, F3.binds (ps := ["_law_n", "_law_most", "_law_many_here"]) fun _ _ _ _ _ _ us hl => match us, hl with | [_, _, _], _ => rfl⟩
  have C4 : Cal K mg "_law_worlds" f4 _ ["_law_many_here"] := ⟨PySem.W.mg_of X G a4, k4, F4.binds (ps := ["_law_many_here"]) fun _ _ _ _ _ _ us hl => match us, hl with | [_], _ => rfl⟩
  have C5 : Cal K mg "_law_some" f5 _ ["_law_n", "_law_row"] := ⟨PySem.W.mg_of X G a5, k5, F5.binds (ps := ["_law_n", "_law_row"]) fun _ _ _ _ _ _ us hl => match us, hl with | [_, _], _ => rfl⟩
  have C6 : Cal K mg "_law_some_one" f6 _ ["_law_n", "_law_row"] := ⟨PySem.W.mg_of X G a6, k6, F6.binds (ps := ["_law_n", "_law_row"]) fun _ _ _ _ _ _ us hl => match us, hl with | [_, _], _ => rfl⟩
  have C7 : Cal K mg "_law_room" f7 _ ["_law_n", "_law_many_here"] := ⟨PySem.W.mg_of X G a7, k7, F7.binds (ps := ["_law_n", "_law_many_here"]) fun _ _ _ _ _ _ us hl => match us, hl with | [_, _], _ => rfl⟩
  have C8 : Cal K mg "_law_true" f8 _ ["_law_sentence_here", "_law_world"] := ⟨PySem.W.mg_of X G a8, k8, F8.binds (ps := ["_law_sentence_here", "_law_world"]) fun _ _ _ _ _ _ us hl => match us, hl with | [_, _], _ => rfl⟩
  have C9 : Cal K mg "_law_ins" f9 _ ["_law_sentence_here", "_law_row"] := ⟨PySem.W.mg_of X G a9, k9, F9.binds (ps := ["_law_sentence_here", "_law_row"]) fun _ _ _ _ _ _ us hl => match us, hl with | [_, _], _ => rfl⟩
  have C10 : Cal K mg "_law_outs" f10 _ ["_law_sentence_here", "_law_row"] := ⟨PySem.W.mg_of X G a10, k10, F10.binds (ps := ["_law_sentence_here", "_law_row"]) fun _ _ _ _ _ _ us hl => match us, hl with | [_, _], _ => rfl⟩
  have C11 : Cal K mg "_law_sides" f11 _ ["_law_room_here", "_law_kind_here", "_law_sentence_here"] := ⟨PySem.W.mg_of X G a11, k11, F11.binds (ps := ["_law_room_here", "_law_kind_here", "_law_sentence_here"]) fun _ _ _ _ _ _ us hl => match us, hl with | [_, _, _], _ => rfl⟩
  have C12 : Cal K mg "_law_kind" f12 _ ["_law_n", "_law_room_here", "_law_sentence_here"] := ⟨PySem.W.mg_of X G a12, k12, F12.binds (ps := ["_law_n", "_law_room_here", "_law_sentence_here"]) fun _ _ _ _ _ _ us hl => match us, hl with | [_, _, _], _ => rfl⟩
  have C13 : Cal K mg "_law_base" f13 _ ["_law_room_here", "_law_sides_here"] := ⟨PySem.W.mg_of X G a13, k13, F13.binds (ps := ["_law_room_here", "_law_sides_here"]) fun _ _ _ _ _ _ us hl => match us, hl with | [_, _], _ => rfl⟩
  have C14 : Cal K mg "_law_seen" f14 _ ["_law_n", "_law_room_here"] := ⟨PySem.W.mg_of X G a14, k14, F14.binds (ps := ["_law_n", "_law_room_here"]) fun _ _ _ _ _ _ us hl => match us, hl with | [_, _], _ => rfl⟩
  have C15 : Cal K mg "_law_says" f15 _ ["_law_found", "_law_due"] := ⟨PySem.W.mg_of X G a15, k15, F15.binds (ps := ["_law_found", "_law_due"]) fun _ _ _ _ _ _ us hl => match us, hl with | [_, _], _ => rfl⟩
  have C16 : Cal K mg "in_first_only" f16 _ ["one", "other"] := ⟨PySem.W.mg_of X G a16, k16, F16.binds (ps := ["one", "other"]) fun _ _ _ _ _ _ us hl => match us, hl with | [_, _], _ => rfl⟩
  have C17 : Cal K mg "all_within" f17 _ ["one", "other"] := ⟨PySem.W.mg_of X G a17, k17, F17.binds (ps := ["one", "other"]) fun _ _ _ _ _ _ us hl => match us, hl with | [_, _], _ => rfl⟩
  have C18 : Cal K mg "in_both" f18 _ ["one", "other"] := ⟨PySem.W.mg_of X G a18, k18, F18.binds (ps := ["one", "other"]) fun _ _ _ _ _ _ us hl => match us, hl with | [_, _], _ => rfl⟩
  have C19 : Cal K mg "some_within" f19 _ ["one", "other"] := ⟨PySem.W.mg_of X G a19, k19, F19.binds (ps := ["one", "other"]) fun _ _ _ _ _ _ us hl => match us, hl with | [_, _], _ => rfl⟩
  have C20 : Cal K mg "plain" f20 _ ["seen", "worlds"] := ⟨PySem.W.mg_of X G a20, k20, F20.binds (ps := ["seen", "worlds"]) fun _ _ _ _ _ _ us hl => match us, hl with | [_, _], _ => rfl⟩
  have C21 : Cal K mg "left_by" f21 _ ["word", "row", "worlds"] := ⟨PySem.W.mg_of X G a21, k21, F21.binds (ps := ["word", "row", "worlds"]) fun _ _ _ _ _ _ us hl => match us, hl with | [_, _, _], _ => rfl⟩
  have C22 : Cal K mg "missed_side" f22 _ ["sides", "worlds"] := ⟨PySem.W.mg_of X G a22, k22, F22.binds (ps := ["sides", "worlds"]) fun _ _ _ _ _ _ us hl => match us, hl with | [_, _], _ => rfl⟩
  have C23 : Cal K mg "barring_side" f23 _ ["sides", "going", "seen", "worlds"] := ⟨PySem.W.mg_of X G a23, k23, F23.binds (ps := ["sides", "going", "seen", "worlds"]) fun _ _ _ _ _ _ us hl => match us, hl with | [_, _, _, _], _ => rfl⟩
  have C24 : Cal K mg "answer" f24 _ ["sides", "going", "seen", "worlds"] := ⟨PySem.W.mg_of X G a24, k24, F24.binds (ps := ["sides", "going", "seen", "worlds"]) fun _ _ _ _ _ _ us hl => match us, hl with | [_, _, _, _], _ => rfl⟩
  have zabs := PySem.W.mg_none_of X G yabs
  have zlen := PySem.W.mg_none_of X G ylen
  have zrange := PySem.W.mg_none_of X G yrange
  have zisinstance := PySem.W.mg_none_of X G yisinstance
  have zint := PySem.W.mg_none_of X G yint
  have zbool := PySem.W.mg_none_of X G ybool
  have zstr := PySem.W.mg_none_of X G ystr
  have ztuple := PySem.W.mg_none_of X G ytuple
  have zlist := PySem.W.mg_none_of X G ylist
  have zset := PySem.W.mg_none_of X G yset
  have zsorted := PySem.W.mg_none_of X G ysorted
  have zany := PySem.W.mg_none_of X G yany
  have zall := PySem.W.mg_none_of X G yall
  have zenumerate := PySem.W.mg_none_of X G yenumerate
  refine ⟨PySem.W.fnOf "law" "law" (defArgs sLaw) (defBody sLaw) (defScope sLaw) .none kV25 dc25 pm25 an25 cd25 ct25, fun s v => .of_eq rfl, fun base _ _ => ?_⟩
  have B : Bl mg := ⟨zabs, zlen, zrange⟩
  have T : BTx mg := ⟨zisinstance, zint, zbool, zstr, ztuple, zlist, zset, zsorted, zrange, zany, zall⟩
  have G1 := ok_num (P := l.prog) (w := w) (mg := mg) (base := base) F1 B
  have G2 := ok_many (P := l.prog) (w := w) (mg := mg) (base := base) F2
  have G3 := ok_sent (P := l.prog) (w := w) (mg := mg) (base := base) F3 B
  have G4 := ok_lworlds (P := l.prog) (w := w) (mg := mg) (base := base) F4 T
  have G5 := ok_lsome (P := l.prog) (w := w) (mg := mg) (base := base) F5
  have G6 := ok_lsomeone (P := l.prog) (w := w) (mg := mg) (base := base) F6 B G5 C5
  have G7 := ok_lroom (P := l.prog) (w := w) (mg := mg) (base := base) F7 G4 C4 G6 C6
  have G8 := ltrue_all (P := l.prog) (w := w) (mg := mg) (base := base) F8 C8 23
  have G9 := ok_lins (P := l.prog) (w := w) (mg := mg) (base := base) F9 G8 C8
  have G10 := ok_louts (P := l.prog) (w := w) (mg := mg) (base := base) F10 G8 C8
  have G11 := ok_lsides (P := l.prog) (w := w) (mg := mg) (base := base) F11 G9 C9 G10 C10
  have G12 := ok_lkind (P := l.prog) (w := w) (mg := mg) (base := base) F12 B G9 C9
  have G13 := ok_lbase (P := l.prog) (w := w) (mg := mg) (base := base) F13 T
  have G14 := ok_lseen (P := l.prog) (w := w) (mg := mg) (base := base) F14 T B G6 C6
  have G15 := ok_lsays (P := l.prog) (w := w) (mg := mg) (base := base) F15 T
  have G16 := ok_first (P := l.prog) (w := w) (mg := mg) (base := base) F16 T
  have G17 := ok_allwi (P := l.prog) (w := w) (mg := mg) (base := base) F17 B G16 C16
  have G18 := ok_both (P := l.prog) (w := w) (mg := mg) (base := base) F18 T
  have G19 := ok_somew (P := l.prog) (w := w) (mg := mg) (base := base) F19 B G18 C18
  have G20 := ok_plain (P := l.prog) (w := w) (mg := mg) (base := base) F20 G17 C17 G19 C19
  have G21 := ok_leftby (P := l.prog) (w := w) (mg := mg) (base := base) F21 T G18 C18 G16 C16
  have G22 := ok_missed (P := l.prog) (w := w) (mg := mg) (base := base) F22 zenumerate G19 C19
  have G23 := ok_barring (P := l.prog) (w := w) (mg := mg) (base := base) F23 G20 C20 G21 C21 G22 C22
  have G24 := ok_answer (P := l.prog) (w := w) (mg := mg) (base := base) F24 G17 C17 G19 C19 G20 C20 G23 C23
  exact ok_law FLAW B (G1.mono (by decide)) C1 (G2.mono (by decide)) C2 (G3.mono (by decide)) C3 (G7.mono (by decide)) C7 (G11.mono (by decide)) C11 (G12.mono (by decide)) C12 (G6.mono (by decide)) C6 (G13.mono (by decide)) C13 (G14.mono (by decide)) C14 (G5.mono (by decide)) C5 (G15.mono (by decide)) C15 (G24.mono (by decide)) C24
theorem walk {l : PySem.W.OpenLaw} {q : Program} {loose : List Str} {XP : (Str → Option Value) → Heap → Prop} {YP : World → Heap → Prop} {d : DefRec} {K : Params → PySem.W.Frag} (hn : l.most = some 63) (hdf : d.params.defaults = [])
    (hY : ∀ (w : World) (h : Heap), YP w h → (K w.params).In h)
    (F : ∀ (w : World) (mg : Str → Option Value) (fa : Addr) (h : Heap), (K w.params).In h → h.Ns mainGlobals mg → mg d.name = some (.ref fa) →
      ∃ fd : FuncData, (∀ (s : Shared) (u : Value), BindsTo s fd ⟨[u], []⟩ [("_law_script", u)]) ∧ ∀ base : Heap, (K w.params).In base → base.Ns mainGlobals mg → FnOk l.prog w (K w.params) mg base CX0 26 fa fd ["_law_script"] (spLaw (K w.params))) :
    PySem.W.WalkO q loose XP YP l.row.toRowW d [] (fun f vs => PySem.call f vs) :=
  L2.walk_of (n := 63) (k := 26) (x := "_law_script") (CX := fun _ => CX0) (sp := fun w => spLaw (K w.params)) hn (by decide) hdf ⟨rfl, by decide, by decide⟩ hY F (fun _ _ a ns hl _ hS => ⟨a, ns, rfl, hS, hl, fun _ => rfl⟩) fun _ _ _ _ _ z => z
end Toy
open PySem PySem.W PyProof.Rows
set_option maxRecDepth 100000 in
set_option maxHeartbeats 0 in
theorem PySem.Challenge.cw_holdtalk_k17_contraries_holds : PySem.Challenge.rw_holdtalk_k17_contraries.Holds := by
  w_on; o_law; k_head; (case hw => w_witness2)
  k_fill
  refine Toy.walk (l := PySem.Challenge.rw_holdtalk_k17_contraries) rfl rfl (fun w h Y => PySem.W.kIn_of Y) ?F
  case F =>
    intro w mg fa h KX G hmg
    refine' Toy.all_mk KX G hmg ?a1 ?l1 ?c1 ?k1 ?a2 ?l2 ?c2 ?k2 ?a3 ?l3 ?c3 ?k3 ?a4 ?l4 ?c4 ?k4 ?a5 ?l5 ?c5 ?k5 ?a6 ?l6 ?c6 ?k6 ?a7 ?l7 ?c7 ?k7 ?a8 ?l8 ?c8 ?k8 ?a9 ?l9 ?c9 ?k9 ?a10 ?l10 ?c10 ?k10 ?a11 ?l11 ?c11 ?k11 ?a12 ?l12 ?c12 ?k12 ?a13 ?l13 ?c13 ?k13 ?a14 ?l14 ?c14 ?k14 ?a15 ?l15 ?c15 ?k15 ?a16 ?l16 ?c16 ?k16 ?a17 ?l17 ?c17 ?k17 ?a18 ?l18 ?c18 ?k18 ?a19 ?l19 ?c19 ?k19 ?a20 ?l20 ?c20 ?k20 ?a21 ?l21 ?c21 ?k21 ?a22 ?l22 ?c22 ?k22 ?a23 ?l23 ?c23 ?k23 ?a24 ?l24 ?c24 ?k24 ?a25 ?l25 ?c25 ?k25 ?yabs ?ylen ?yrange ?yisinstance ?yint ?ybool ?ystr ?ytuple ?ylist ?yset ?ysorted ?yany ?yall ?yenumerate
    (case a1 => k_is)
    (case l1 => k_is)
    (case c1 => k_is)
    (case k1 => k_is)
    (case a2 => k_is)
    (case l2 => k_is)
    (case c2 => k_is)
    (case k2 => k_is)
    (case a3 => k_is)
    (case l3 => k_is)
    (case c3 => k_is)
    (case k3 => k_is)
    (case a4 => k_is)
    (case l4 => k_is)
    (case c4 => k_is)
    (case k4 => k_is)
    (case a5 => k_is)
    (case l5 => k_is)
    (case c5 => k_is)
    (case k5 => k_is)
    (case a6 => k_is)
    (case l6 => k_is)
    (case c6 => k_is)
    (case k6 => k_is)
    (case a7 => k_is)
    (case l7 => k_is)
    (case c7 => k_is)
    (case k7 => k_is)
    (case a8 => k_is)
    (case l8 => k_is)
    (case c8 => k_is)
    (case k8 => k_is)
    (case a9 => k_is)
    (case l9 => k_is)
    (case c9 => k_is)
    (case k9 => k_is)
    (case a10 => k_is)
    (case l10 => k_is)
    (case c10 => k_is)
    (case k10 => k_is)
    (case a11 => k_is)
    (case l11 => k_is)
    (case c11 => k_is)
    (case k11 => k_is)
    (case a12 => k_is)
    (case l12 => k_is)
    (case c12 => k_is)
    (case k12 => k_is)
    (case a13 => k_is)
    (case l13 => k_is)
    (case c13 => k_is)
    (case k13 => k_is)
    (case a14 => k_is)
    (case l14 => k_is)
    (case c14 => k_is)
    (case k14 => k_is)
    (case a15 => k_is)
    (case l15 => k_is)
    (case c15 => k_is)
    (case k15 => k_is)
    (case a16 => k_is)
    (case l16 => k_is)
    (case c16 => k_is)
    (case k16 => k_is)
    (case a17 => k_is)
    (case l17 => k_is)
    (case c17 => k_is)
    (case k17 => k_is)
    (case a18 => k_is)
    (case l18 => k_is)
    (case c18 => k_is)
    (case k18 => k_is)
    (case a19 => k_is)
    (case l19 => k_is)
    (case c19 => k_is)
    (case k19 => k_is)
    (case a20 => k_is)
    (case l20 => k_is)
    (case c20 => k_is)
    (case k20 => k_is)
    (case a21 => k_is)
    (case l21 => k_is)
    (case c21 => k_is)
    (case k21 => k_is)
    (case a22 => k_is)
    (case l22 => k_is)
    (case c22 => k_is)
    (case k22 => k_is)
    (case a23 => k_is)
    (case l23 => k_is)
    (case c23 => k_is)
    (case k23 => k_is)
    (case a24 => k_is)
    (case l24 => k_is)
    (case c24 => k_is)
    (case k24 => k_is)
    (case a25 => k_is)
    (case l25 => k_is)
    (case c25 => k_is)
    (case k25 => k_is)
    (case yabs => k_is)
    (case ylen => k_is)
    (case yrange => k_is)
    (case yisinstance => k_is)
    (case yint => k_is)
    (case ybool => k_is)
    (case ystr => k_is)
    (case ytuple => k_is)
    (case ylist => k_is)
    (case yset => k_is)
    (case ysorted => k_is)
    (case yany => k_is)
    (case yall => k_is)
    (case yenumerate => k_is)
