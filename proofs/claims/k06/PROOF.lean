import PyProof.Rows.All
import Wide.All
import OpenK.AllK
import Wide.FinOn
import Lean
import PyProof.EqAt
import PyProof.EqKinds
import PyProof.TupleCall
import PySem.Challenge.RW_surestretch_k06_weights
set_option Elab.async false
set_option linter.all false
set_option maxRecDepth 100000
/-! THE HAND LAYER, for ints, bools, texts, own classes, LISTS and tuples (index, slices, in, append, pop ..), calls, loops. Paste it whole ahead of your own text; what your proof does not reach may be deleted. -/
namespace L2
open PySem PySem.Spec PyProof.Rows

/-- a key: an int or a str -/
abbrev Key := Sum Int Str
def keyIs : Key → Value → Bool
  | .inl k, v => Value.isInt k v
  | .inr x, v => Value.isStrOf x v
def keyH (w : World) : Key → Int
  | .inl k => hashInt k
  | .inr x => hashStr w x
theorem keyIs_shape : ∀ {k : Key} {v : Value}, keyIs k v = true → (∃ i t, k = Sum.inl i ∧ v = Value.int i t) ∨ (∃ x t, k = Sum.inr x ∧ v = Value.str x t)
  | .inl i, v, h => by
    obtain ⟨t, e⟩ := Value.isInt_shape (k := i) (v := v) h
    exact .inl ⟨i, t, rfl, e⟩
  | .inr x, v, h => by
    obtain ⟨t, e⟩ := Value.isStrOf_shape (x := x) (v := v) h
    exact .inr ⟨x, t, rfl, e⟩
theorem keyIs_int (i : Int) (t : Tok) : keyIs (.inl i) (.int i t) = true := by simp [keyIs, Value.isInt]
theorem keyIs_str (x : Str) (t : Tok) : keyIs (.inr x) (.str x t) = true := by simp [keyIs, Value.isStrOf]
theorem key_ll (a b : Int) : decide ((Sum.inl a : Key) = Sum.inl b) = (a == b) := by
  by_cases e : a = b
  · subst e; simp
  · have h : ¬ (Sum.inl a : Key) = Sum.inl b := fun q => e (Sum.inl.inj q)
    rw [decide_eq_false h]
    exact (beq_eq_false_iff_ne.mpr e).symm
theorem key_rr (a b : Str) : decide ((Sum.inr a : Key) = Sum.inr b) = decide (a = b) := by
  by_cases e : a = b
  · subst e; simp
  · have h : ¬ (Sum.inr a : Key) = Sum.inr b := fun q => e (Sum.inr.inj q)
    rw [decide_eq_false h, decide_eq_false e]
theorem key_lr (a : Int) (b : Str) : decide ((Sum.inl a : Key) = Sum.inr b) = false := decide_eq_false (fun q => nomatch q)
theorem key_rl (a : Str) (b : Int) : decide ((Sum.inr a : Key) = Sum.inl b) = false := decide_eq_false (fun q => nomatch q)

def mixKind (prog : Program) (w : World) : PySem.KeyKind prog w Key where
  is := keyIs
  hash := keyH w
  inj := fun v a b ha hb => by
    rcases keyIs_shape ha with ⟨i, t, rfl, rfl⟩ | ⟨x, t, rfl, rfl⟩
    · rcases keyIs_shape hb with ⟨j, u, rfl, e⟩ | ⟨y, u, rfl, e⟩
      · injection e with e1 _; rw [e1]
      · exact nomatch e
    · rcases keyIs_shape hb with ⟨j, u, rfl, e⟩ | ⟨y, u, rfl, e⟩
      · exact nomatch e
      · injection e with e1 _; rw [e1]
  byValue := fun k v h => by
    rcases keyIs_shape h with ⟨i, t, rfl, rfl⟩ | ⟨x, t, rfl, rfl⟩ <;> rfl
  pyHash := fun hv h => by
    rcases keyIs_shape hv with ⟨i, t, rfl, rfl⟩ | ⟨x, t, rfl, rfl⟩
    · exact wpAny_pyHash_int h
    · exact wpAny_pyHash_str h
  eqBool := fun hu hv h => by
    rcases keyIs_shape hu with ⟨i, t, rfl, rfl⟩ | ⟨x, t, rfl, rfl⟩
    · rcases keyIs_shape hv with ⟨j, u, rfl, rfl⟩ | ⟨y, u, rfl, rfl⟩
      · rw [key_ll] at h; exact wpAny_eqBool_int h
      · rw [key_lr] at h; exact SeqAt.EqAt.int_str i t y u _ _ _ _ h
    · rcases keyIs_shape hv with ⟨j, u, rfl, rfl⟩ | ⟨y, u, rfl, rfl⟩
      · rw [key_rl] at h; exact SeqAt.EqAt.str_int x t j u _ _ _ _ h
      · rw [key_rr] at h; exact wpAny_eqBool_str h
  «strs» := fun k x t v h => by
    rcases keyIs_shape h with ⟨i, u, rfl, e⟩ | ⟨y, u, rfl, e⟩
    · exact nomatch e
    · injection e with e1 _
      subst e1
      cases v <;> rfl

theorem mixKind_is (prog : Program) (w : World) (k : Key) (v : Value) : (mixKind prog w).is k v = keyIs k v := rfl
theorem mixKind_int (prog : Program) (w : World) (i : Int) (t : Tok) : (mixKind prog w).is (.inl i) (.int i t) = true := keyIs_int i t
theorem mixKind_str (prog : Program) (w : World) (x : Str) (t : Tok) : (mixKind prog w).is (.inr x) (.str x t) = true := keyIs_str x t
end L2

namespace L2
open PySem PySem.Spec PyProof.Rows

/-- a value, without the heap -/
inductive V where
  | non | bl (b : Bool) | int (i : Int) | str (x : Str) | byt (b : Array UInt8) | flt (b : UInt64) | ref (a : Addr) | ty (n : String)
  deriving DecidableEq

def RelV : V → Value → Prop
  | .non, u => u = Value.none
  | .bl b, u => u = Value.bool b
  | .int i, u => ∃ t, u = Value.int i t
  | .str x, u => ∃ t, u = Value.str x t
  | .byt b, u => ∃ t, u = Value.bytes b t
  | .flt b, u => ∃ t, u = Value.float b t
  | .ref a, u => u = Value.ref a
  | .ty n, u => u = Value.type n

abbrev Vals : List V → List Value → Prop := Paired RelV
theorem Vals.length {xs : List V} {us : List Value} (r : Vals xs us) : xs.length = us.length := Paired.length r
theorem Vals.get : ∀ {xs : List V} {us : List Value} {i : Nat} {x : V}, Vals xs us → xs[i]? = some x → ∃ u, us[i]? = some u ∧ RelV x u
  | _, _, _, _, .nil, e => by simp at e
  | _, _, 0, _, .cons r _, e => by simp at e; subst e; exact ⟨_, rfl, r⟩
  | _, _, i + 1, x, .cons _ t, e => by
    obtain ⟨u, h1, h2⟩ := Vals.get (i := i) (x := x) t (by simpa using e)
    exact ⟨u, by simpa using h1, h2⟩
theorem Vals.set {x : V} {u : Value} (r : RelV x u) : ∀ {xs : List V} {us : List Value} (i : Nat), Vals xs us → Vals (xs.set i x) (us.set i u)
  | _, _, _, .nil => .nil
  | _, _, 0, .cons _ t => .cons r t
  | _, _, i + 1, .cons q t => .cons q (Vals.set r i t)
theorem Vals.append : ∀ {xs ys : List V} {us ws : List Value}, Vals xs us → Vals ys ws → Vals (xs ++ ys) (us ++ ws)
  | _, _, _, _, .nil, s => s
  | _, _, _, _, .cons r t, s => .cons r (Vals.append t s)
theorem Vals.take : ∀ {xs : List V} {us : List Value} (n : Nat), Vals xs us → Vals (xs.take n) (us.take n)
  | _, _, 0, _ => .nil
  | _, _, _ + 1, .nil => .nil
  | _, _, n + 1, .cons r t => .cons r (Vals.take n t)
theorem Vals.drop : ∀ {xs : List V} {us : List Value} (n : Nat), Vals xs us → Vals (xs.drop n) (us.drop n)
  | _, _, 0, r => r
  | _, _, _ + 1, .nil => .nil
  | _, _, n + 1, .cons _ t => Vals.drop n t
theorem Vals.none_of : ∀ {xs : List V} {us : List Value} {i : Nat}, Vals xs us → xs[i]? = none → us[i]? = none := fun {xs us i} r e => by
  have h1 := r.length
  have h2 : xs.length ≤ i := List.getElem?_eq_none_iff.mp e
  exact List.getElem?_eq_none_iff.mpr (by omega)

def RelO : Option V → Option Value → Prop
  | some v, some u => RelV v u
  | none, none => True
  | _, _ => False
def KV {κ : Type} : List (κ × V) → List (κ × Value) → Prop := Paired fun (p : κ × V) (q : κ × Value) => p.1 = q.1 ∧ RelV p.2 q.2

/-- a key of a dict (00_mix): an int or a text -/
def kV : Key → V
  | .inl i => .int i
  | .inr x => .str x

/-- what stands at a tracked address -/
inductive HO where
  /-- a list -/
  | lst (xs : List V)
  /-- a tuple (never changes) -/
  | tup (xs : List V)
  /-- a dict whose keys are ints and texts; one whose keys are tuples of ints and texts (the empty one is both) -/
  | dK (kvs : List (Key × V)) | dT (kvs : List (List Key × V))
  /-- a set of ints: its members, its size -/
  | set (S : Int → Bool) (n : Nat)
  /-- an instance of the class at C, its dict at dx, its attributes -/
  | ins (C dx : Addr) (fs : List (Str × V))
  /-- the dict of the instance at x -/
  | own (x : Addr)
  /-- the dict of an exception -/
  | xd (fs : List (Str × V))
  /-- a bound method, f of x -/
  | met (f x : Addr)
  /-- a range object lo, lo + 1, .. below hi -/
  | rng (lo hi : Int)
  /-- a thing that is known to the object (the script; a dict while a loop walks it): read, never written while it is so -/
  | frz (o : Obj) (u : HO)
  /-- a code object's table -/
  | tbl (ps : Array Value)
  /-- any other thing, by what is true of its one object (a def of one's own: SetO a S n := HO.ext fun h => ..) -/
  | ext (φ : Heap → Prop)

abbrev Hp := Addr → Option HO
def upd (H : Hp) (a : Addr) (o : HO) : Hp := fun b => if b = a then some o else H b
theorem upd_same {H : Hp} {a : Addr} {o : HO} : upd H a o a = some o := by unfold upd; rw [if_pos rfl]
theorem upd_ne {H : Hp} {a b : Addr} {o : HO} (h : b ≠ a) : upd H a o b = H b := by unfold upd; rw [if_neg h]
theorem upd_upd {H : Hp} {a : Addr} {o u : HO} : upd (upd H a o) a u = upd H a u := by
  funext b; unfold upd; split <;> rfl
/-- two objects of different content stand apart -/
theorem ne_of {H : Hp} {a b : Addr} {o u : HO} (h : H a = some o) (h' : H b = some u) (d : o ≠ u) : a ≠ b := by
  intro e; subst e; rw [h] at h'; exact d (Option.some.inj h')
theorem ne_of_none {H : Hp} {a b : Addr} {o : HO} (h : H a = some o) (h' : H b = none) : a ≠ b := by
  intro e; subst e; rw [h] at h'; cases h'

section
variable (P : Program) (w : World)
def ObjOk (H : Hp) (h : Heap) (a : Addr) : HO → Prop
  | .lst xs => xs.length ≤ sizeLine ∧ ∃ (its : List Value) (n : Nat), Vals xs its ∧ h.get? a = some { cls := .type "list", data := .seq its.toArray n }
  | .tup xs => xs.length ≤ sizeLine ∧ ∃ its : List Value, Vals xs its ∧ IsTup h a its.toArray
  | .dK kvs => kvs.length ≤ sizeLine ∧ (a == sysModules) = false ∧ ∃ vs, KV kvs vs ∧ h.DictOf (mixKind P w) a vs
  | .dT kvs => kvs.length ≤ sizeLine ∧ (a == sysModules) = false ∧ ∃ xs : List (List Key × Addr × Value),
      Paired (fun (p : List Key × V) (q : List Key × Addr × Value) => p.1 = q.1 ∧ H q.2.1 = some (.tup (p.1.map kV)) ∧ RelV p.2 q.2.2) kvs xs ∧
      ∃ o es ep, h.get? a = some o ∧ o.ExactDict ∧ o.data = .dict es ep ∧ es.toList = xs.map (entryOfKey (tupleKind (mixKind P w))) ∧ (xs.map (·.1)).Nodup
  | .set S n => h.SetOf (intKind P w) a S n
  | .ins C dx fs => H dx = some (.own a) ∧ fs.length ≤ 1000 ∧ dx ≠ a ∧ h.get? a = some (PySem.W.instObj C dx) ∧
      ∃ mA, h.Ns1 dx mA ∧ (∀ f, RelO (fs.lookup f) (mA f)) ∧ PySem.Within mA (fs.map (·.1))
  | .own _ => ∃ o, h.get? a = some o
  | .xd fs => ∃ mA, h.Ns1 a mA ∧ ∀ f, RelO (fs.lookup f) (mA f)
  | .rng lo hi => ∃ t u v, h.get? a = some { cls := .type "range", data := .fields #[.int lo t, .int hi u, .int 1 v] }
  | .frz o u => h.get? a = some o ∧ ObjOk H h a u
  | .tbl ps => h.get? a = some { cls := .none, data := .fields ps }
  | .met f x => h.get? a = some (PySem.W.methodObj (.ref f) (.ref x))
  | .ext φ => φ h ∧ (∃ o, h.get? a = some o) ∧ ∀ h1 h2 : Heap, φ h1 → (∀ o, h1.get? a = some o → h2.get? a = some o) → φ h2
/-- the abstract heap is held -/
def HOk (H : Hp) (h : Heap) : Prop := ∀ a o, H a = some o → ObjOk P w H h a o
end

section
variable {P : Program} {w : World} {H H' : Hp} {h h' : Heap} {a : Addr} {o : HO}
theorem ObjOk.lt (x : ObjOk P w H h a o) : a < h.objs.size := by
  cases o with
  | lst xs => obtain ⟨_, _, _, _, e⟩ := x; exact Heap.lt_size e
  | tup xs => obtain ⟨_, _, _, p⟩ := x; exact p.lt
  | dK kvs => obtain ⟨_, _, _, _, o, _, _, e, _⟩ := x; exact Heap.lt_size e
  | dT kvs => obtain ⟨_, _, _, _, o, _, _, e, _⟩ := x; exact Heap.lt_size e
  | set S n => obtain ⟨o, _, _, _, e, _⟩ := x; exact Heap.lt_size e
  | ins C dx fs => obtain ⟨_, _, _, e, _⟩ := x; exact Heap.lt_size e
  | own y => obtain ⟨_, e⟩ := x; exact Heap.lt_size e
  | xd fs => obtain ⟨_, ⟨_, _, _, e, _⟩, _⟩ := x; exact Heap.lt_size e
  | rng lo hi => obtain ⟨_, _, _, e⟩ := x; exact Heap.lt_size e
  | frz ob u => obtain ⟨e, _⟩ := x; exact Heap.lt_size e
  | tbl ps => exact Heap.lt_size (show h.get? a = some _ from x)
  | met f y => exact Heap.lt_size (show h.get? a = some _ from x)
  | ext φ => obtain ⟨_, ⟨_, e⟩, _⟩ := x; exact Heap.lt_size e
theorem Paired.mapP {α β : Type} {F G : α → β → Prop} : ∀ {l₁ : List α} {l₂ : List β}, Paired F l₁ l₂ → (∀ a b, F a b → G a b) → Paired G l₁ l₂
  | _, _, .nil, _ => .nil
  | _, _, .cons r t, f => .cons (f _ _ r) (Paired.mapP t f)
theorem Paired.imp' {α β : Type} {F G : α → β → Prop} (f : ∀ a b, F a b → G a b) {l₁ : List α} {l₂ : List β} (r : Paired F l₁ l₂) : Paired G l₁ l₂ := Paired.mapP r f
/-- what an object's description leans on: its own object, its own dict, the tuples -/
theorem ObjOk.stay (x : ObjOk P w H h a o) (k : ∀ b u, (b = a ∨ H b = some (.own a)) → h.get? b = some u → h'.get? b = some u)
    (ho : ∀ b, H b = some (.own a) → H' b = some (.own a)) (ht : ∀ b xs, H b = some (.tup xs) → H' b = some (.tup xs)) : ObjOk P w H' h' a o := by
  induction o with
  | lst xs => obtain ⟨z, its, n, r, e⟩ := x; exact ⟨z, its, n, r, k _ _ (.inl rfl) e⟩
  | tup xs => obtain ⟨z, its, r, ob, e, c⟩ := x; exact ⟨z, its, r, ob, k _ _ (.inl rfl) e, c⟩
  | dK kvs => obtain ⟨z, y, vs, r, ob, es, ep, e, c⟩ := x; exact ⟨z, y, vs, r, ob, es, ep, k _ _ (.inl rfl) e, c⟩
  | dT kvs =>
    obtain ⟨z, y, xs, r, ob, es, ep, e, c⟩ := x
    exact ⟨z, y, xs, Paired.mapP r fun p q z => ⟨z.1, ht _ _ z.2.1, z.2.2⟩, ob, es, ep, k _ _ (.inl rfl) e, c⟩
  | set S n => obtain ⟨ob, es, ep, t, e, c⟩ := x; exact ⟨ob, es, ep, t, k _ _ (.inl rfl) e, c⟩
  | ins C dx fs =>
    obtain ⟨d, z, ne, e, mA, ⟨od, es, ep, e2, c⟩, r⟩ := x
    exact ⟨ho _ d, z, ne, k _ _ (.inl rfl) e, mA, ⟨od, es, ep, k _ _ (.inr d) e2, c⟩, r⟩
  | own y => obtain ⟨ob, e⟩ := x; exact ⟨ob, k _ _ (.inl rfl) e⟩
  | xd fs => obtain ⟨mA, ⟨od, es, ep, e, c⟩, r⟩ := x; exact ⟨mA, ⟨od, es, ep, k _ _ (.inl rfl) e, c⟩, r⟩
  | rng lo hi => obtain ⟨t, u, v, e⟩ := x; exact ⟨t, u, v, k _ _ (.inl rfl) e⟩
  | frz ob u ih => obtain ⟨e, q⟩ := x; exact ⟨k _ _ (.inl rfl) e, ih q⟩
  | tbl ps =>
    have e : h.get? a = some { cls := .none, data := .fields ps } := x
    show h'.get? a = some { cls := .none, data := .fields ps }
    exact k a _ (.inl rfl) e
  | met f y =>
    have e : h.get? a = some (PySem.W.methodObj (.ref f) (.ref y)) := x
    show h'.get? a = some (PySem.W.methodObj (.ref f) (.ref y))
    exact k a _ (.inl rfl) e
  | ext φ => obtain ⟨p, ⟨o, e⟩, st⟩ := x; exact ⟨st _ _ p fun o q => k _ _ (.inl rfl) q, ⟨o, k _ _ (.inl rfl) e⟩, st⟩
theorem HOk.lt (x : HOk P w H h) (e : H a = some o) : a < h.objs.size := (x a o e).lt
theorem HOk.fresh (x : HOk P w H h) (e : h.objs.size ≤ a) : H a = none := by
  cases q : H a with
  | none => rfl
  | some u => exact absurd (Nat.lt_of_lt_of_le (x.lt q) e) (Nat.lt_irrefl _)
/-- every object of the heap is kept -/
theorem HOk.kept (x : HOk P w H h) (k : ∀ b u, h.get? b = some u → h'.get? b = some u) : HOk P w H h' := fun a o e =>
  (x a o e).stay (fun b u _ q => k b u q) (fun _ q => q) fun _ _ q => q
/-- a new object is laid and tracked -/
theorem HOk.laid (x : HOk P w H h) (k : ∀ b u, h.get? b = some u → h'.get? b = some u) (hp : h.objs.size ≤ a) (new : ObjOk P w (upd H a o) h' a o) : HOk P w (upd H a o) h' := fun b u e => by
  have hn := x.fresh hp
  by_cases hb : b = a
  · subst hb; rw [upd_same] at e; cases e; exact new
  · rw [upd_ne hb] at e
    exact (x b u e).stay (fun c v _ q => k c v q) (fun c q => by rw [upd_ne (ne_of_none q hn)]; exact q) fun c xs q => by rw [upd_ne (ne_of_none q hn)]; exact q
end

/-- what may be read as u: it is u, or a known u -/
def Rd (H : Hp) (a : Addr) (u : HO) : Prop := H a = some u ∨ ∃ o, H a = some (.frz o u)
theorem Rd.of {H : Hp} {a : Addr} {u : HO} (h : H a = some u) : Rd H a u := .inl h
theorem Rd.ok {P : Program} {w : World} {H : Hp} {h : Heap} {a : Addr} {u : HO} (r : Rd H a u) (x : HOk P w H h) : ObjOk P w H h a u := by
  rcases r with r | ⟨o, r⟩
  · exact x a u r
  · obtain ⟨_, q⟩ := x a _ r
    exact q
/-- what may be written -/
def Mut : Option HO → Prop
  | some (.lst _) => True
  | some (.dK _) => True
  | some (.dT _) => True
  | some (.set _ _) => True
  | some (.ins _ _ _) => True
  | some (.ext _) => True
  | _ => False
section
variable {P : Program} {w : World} {H : Hp} {h h' : Heap} {x e : Addr} {o' : HO}
/-- the object at e is changed: x itself, or the dict of the instance x -/
theorem HOk.write (ok : HOk P w H h) (mu : Mut (H x)) (he : e = x ∨ H e = some (.own x)) (k : ∀ b u, b ≠ e → h.get? b = some u → h'.get? b = some u) (heo : ∃ u, h'.get? e = some u)
    (new : ObjOk P w (upd H x o') h' x o') : HOk P w (upd H x o') h' := fun b u q => by
  have nown : ∀ c y, H c = some (.own y) → c ≠ x := fun c y r z => by subst z; rw [r] at mu; exact mu
  have ntup : ∀ c xs, H c = some (.tup xs) → c ≠ x := fun c xs r z => by subst z; rw [r] at mu; exact mu
  by_cases hb : b = x
  · subst hb; rw [upd_same] at q; cases q; exact new
  · rw [upd_ne hb] at q
    by_cases hbe : b = e
    · have q' : H b = some (.own x) := by
        rcases he with z | z
        · exact absurd (hbe.trans z) hb
        · rw [hbe]; exact z
      rw [q] at q'; cases q'
      obtain ⟨v, hv⟩ := heo
      exact ⟨v, by rw [hbe]; exact hv⟩
    · refine (ok b u q).stay (fun c v hc r => k c v ?_ r) (fun c r => by rw [upd_ne (nown c b r)]; exact r) fun c xs r => by rw [upd_ne (ntup c xs r)]; exact r
      rcases hc with rfl | hc
      · exact hbe
      · rintro rfl
        rcases he with z | z
        · exact nown c b hc z
        · rw [hc] at z; cases z; exact hb rfl
end

/-! ### kept unless tracked; of the frames at fs (the callers') the slots may change (an exception that passes writes there); of the records at ex (iterators) nothing is said -/
structure Un (fs ex : List Addr) (H H' : Hp) (h h' : Heap) : Prop where
  keep : ∀ b o, h.get? b = some o → H b = none → b ∉ fs → b ∉ ex → h'.get? b = some o
  slot : ∀ b o, h.get? b = some o → H b = none → b ∈ fs → b ∉ ex → ∃ sl, h'.get? b = some { o with slots := sl }
  free : ∀ b o, h.get? b = some o → H b = none → b ∉ ex → H' b = none
  there : ∀ b o, h.get? b = some o → b ∉ ex → ∃ o', h'.get? b = some o'
  tups : ∀ b xs, H b = some (.tup xs) → H' b = some (.tup xs)
  frzs : ∀ b o u, H b = some (.frz o u) → H' b = some (.frz o u)
  tbls : ∀ b ps, H b = some (.tbl ps) → ∃ more, H' b = some (.tbl (ps ++ more))
section
variable {fs fs' ex ex' : List Addr} {H H1 H2 : Hp} {h h1 h2 h' : Heap} {a x e : Addr} {o : HO}
theorem Un.any (u : Un fs ex H H1 h h1) {b : Addr} {ob : Obj} (q : h.get? b = some ob) (n : H b = none) (hx : b ∉ ex) : ∃ sl, h1.get? b = some { ob with slots := sl } := by
  by_cases hb : b ∈ fs
  · exact u.slot b ob q n hb hx
  · exact ⟨ob.slots, u.keep b ob q n hb hx⟩
theorem Un.trans (a : Un fs ex H H1 h h1) (b : Un fs ex H1 H2 h1 h2) : Un fs ex H H2 h h2 where
  keep := fun c ob q n hc hx => b.keep c ob (a.keep c ob q n hc hx) (a.free c ob q n hx) hc hx
  slot := fun c ob q n hc hx => by
    obtain ⟨sl, e1⟩ := a.slot c ob q n hc hx
    obtain ⟨sl', e2⟩ := b.slot c _ e1 (a.free c ob q n hx) hc hx
    exact ⟨sl', e2⟩
  free := fun c ob q n hx => by
    obtain ⟨o', e1⟩ := a.there c ob q hx
    exact b.free c o' e1 (a.free c ob q n hx) hx
  there := fun c ob q hx => by
    obtain ⟨o', e1⟩ := a.there c ob q hx
    exact b.there c o' e1 hx
  tups := fun c xs q => b.tups c xs (a.tups c xs q)
  frzs := fun c ob xs q => b.frzs c ob xs (a.frzs c ob xs q)
  tbls := fun c ps q => by
    obtain ⟨m1, e1⟩ := a.tbls c ps q
    obtain ⟨m2, e2⟩ := b.tbls c _ e1
    exact ⟨m1 ++ m2, by rw [e2, Array.append_assoc]⟩
theorem Un.kept (k : ∀ b u, h.get? b = some u → h'.get? b = some u) : Un fs ex H H h h' :=
  ⟨fun b ob q _ _ _ => k b ob q, fun b ob q _ _ _ => ⟨ob.slots, k b ob q⟩, fun _ _ _ n _ => n, fun b ob q _ => ⟨ob, k b ob q⟩, fun _ _ q => q, fun _ _ _ q => q, fun _ ps q => ⟨#[], by rw [q]; simp⟩⟩
theorem Un.refl : Un fs ex H H h h := Un.kept fun _ _ q => q
theorem Un.laid (k : ∀ b u, h.get? b = some u → h'.get? b = some u) (hp : h.objs.size ≤ a) (hn : H a = none) : Un fs ex H (upd H a o) h h' where
  keep := fun b u q _ _ _ => k b u q
  slot := fun b u q _ _ _ => ⟨u.slots, k b u q⟩
  free := fun b u q n _ => by rw [upd_ne (Nat.ne_of_lt (Nat.lt_of_lt_of_le (Heap.lt_size q) hp))]; exact n
  there := fun b u q _ => ⟨u, k b u q⟩
  tups := fun b xs q => by rw [upd_ne (ne_of_none q hn)]; exact q
  frzs := fun b u xs q => by rw [upd_ne (ne_of_none q hn)]; exact q
  tbls := fun b ps q => ⟨#[], by rw [upd_ne (ne_of_none q hn), q]; simp⟩
theorem Un.write (mu : Mut (H x)) (he : e = x ∨ H e = some (.own x)) (k : ∀ b u, b ≠ e → h.get? b = some u → h'.get? b = some u) (heo : ∃ u, h'.get? e = some u) : Un fs ex H (upd H x o) h h' := by
  have hx : ∀ b, H b = none → b ≠ x := fun b n z => by subst z; rw [n] at mu; exact mu
  have hb : ∀ b, H b = none → b ≠ e := fun b n z => by
    subst z
    rcases he with r | r
    · exact hx b n r
    · rw [n] at r; cases r
  have hm : ∀ b u, H b = some u → ¬ Mut (some u) → b ≠ x := fun b u q nm z => by subst z; rw [q] at mu; exact nm mu
  refine ⟨fun b u q n _ _ => k b u (hb b n) q, fun b u q n _ _ => ⟨u.slots, k b u (hb b n) q⟩, fun b u q n _ => by rw [upd_ne (hx b n)]; exact n, fun b u q _ => ?_,
    fun b xs q => by rw [upd_ne (hm b _ q fun z => z)]; exact q, fun b u xs q => by rw [upd_ne (hm b _ q fun z => z)]; exact q, fun b ps q => ⟨#[], by rw [upd_ne (hm b _ q fun z => z), q]; simp⟩⟩
  by_cases hbe : b = e
  · subst hbe; exact heo
  · exact ⟨u, k b u hbe q⟩
theorem Un.mono (u : Un fs ex H H1 h h1) (hs : ∀ b ∈ fs, b ∈ fs') (hx : ∀ b ∈ ex, b ∈ ex') : Un fs' ex' H H1 h h1 :=
  ⟨fun b ob q n hb he => u.keep b ob q n (fun z => hb (hs b z)) fun z => he (hx b z), fun _ _ q n _ he => u.any q n fun z => he (hx _ z), fun b ob q n he => u.free b ob q n fun z => he (hx b z), fun b ob q he => u.there b ob q fun z => he (hx b z), u.tups, u.frzs, u.tbls⟩
end

/-! ### the heap without what is tracked -/
def trk (h : Heap) (H : Hp) : List Addr := (List.range h.objs.size).filter fun a => (H a).isSome
def hidT (h : Heap) (H : Hp) : Heap := PySem.W.hideAll h (trk h H)
theorem hidT_size (h : Heap) (H : Hp) : (hidT h H).objs.size = h.objs.size := PySem.W.hideAll_size _ _
theorem hidT_get {h : Heap} {H : Hp} {b : Addr} {o : Obj} (e : h.get? b = some o) (n : H b = none) : (hidT h H).get? b = some o :=
  PySem.W.hideAll_get _ e fun hm => by
    have q : (H b).isSome = true := (List.mem_filter.mp hm).2
    rw [n] at q; simp at q
theorem of_hidT {h : Heap} {H : Hp} {b : Addr} {o : Obj} (e : (hidT h H).get? b = some o) : h.get? b = some o ∧ H b = none := by
  have e' : h.get? b = some o := PySem.W.of_hideAll (trk h H) e
  refine ⟨e', ?_⟩
  cases q : H b with
  | none => rfl
  | some x =>
    have hm : b ∈ trk h H := List.mem_filter.mpr ⟨List.mem_range.mpr (Heap.lt_size e'), by simp [q]⟩
    have z : (hidT h H).get? b = none := PySem.W.hideAll_none (trk h H) hm
    rw [z] at e; cases e

/-! ### OpenK's ledger, filled with every new object but one -/
def allNews (g h : Heap) (L : Addr) : List (Addr × Obj) := (List.range h.objs.size).filterMap fun a => if a = L ∨ (g.get? a).isSome = true then none else (h.get? a).map fun o => (a, o)
theorem mem_allNews {g h : Heap} {L a : Addr} {o : Obj} (h1 : a ≠ L) (h2 : g.get? a = none) (h3 : h.get? a = some o) : (a, o) ∈ allNews g h L :=
  List.mem_filterMap.mpr ⟨a, List.mem_range.mpr (Heap.lt_size h3), by simp [h1, h2, h3]⟩
theorem of_mem_allNews {g h : Heap} {L : Addr} {p : Addr × Obj} (hp : p ∈ allNews g h L) : p.1 ≠ L ∧ g.get? p.1 = none ∧ h.get? p.1 = some p.2 := by
  obtain ⟨b, _, e⟩ := List.mem_filterMap.mp hp
  split at e
  · cases e
  · rename_i hn
    cases q : h.get? b with
    | none => rw [q] at e; simp at e
    | some u =>
      rw [q] at e
      simp only [Option.map_some, Option.some.injEq] at e
      subst e
      refine ⟨fun z => hn (.inl z), ?_, q⟩
      show g.get? b = none
      cases r : g.get? b with
      | none => rfl
      | some v => exact (hn (.inr (by simp [r]))).elim
def rest (g h : Heap) (L d : Addr) : List (Addr × Obj) := (allNews g h L).filter fun p => decide (p.1 ≠ d)
theorem rest_ne {g h : Heap} {L d : Addr} : ∀ p ∈ rest g h L d, p.1 ≠ d := fun p hp => of_decide_eq_true (List.mem_filter.mp hp).2
theorem mem_rest {g h : Heap} {L d a : Addr} {o : Obj} (h1 : a ≠ L) (h2 : g.get? a = none) (h3 : h.get? a = some o) (h4 : a ≠ d) : (a, o) ∈ rest g h L d :=
  List.mem_filter.mpr ⟨mem_allNews h1 h2 h3, decide_eq_true h4⟩
theorem news_all {g h : Heap} {L : Addr} : News g L h (allNews g h L) := fun p hp => let ⟨a, b, c⟩ := of_mem_allNews hp; ⟨c, a, b⟩
theorem news_at {g h : Heap} {L d : Addr} {o : Obj} (h1 : d ≠ L) (h2 : g.get? d = none) (h3 : h.get? d = some o) : News g L h ((d, o) :: rest g h L d) := fun p hp => by
  rcases List.mem_cons.mp hp with rfl | hp
  · exact ⟨h3, h1, h2⟩
  · exact news_all p (List.mem_filter.mp hp).1
/-- behind a rule that changed d alone: all else but the frame is kept -/
theorem kept_of_news {g h h' : Heap} {L d : Addr} {m : Str → Option Value} (k : ∀ b o, g.get? b = some o → h.get? b = some o) (F : Fr g L h' m) (N : News g L h' (rest g h L d)) :
    ∀ b o, b ≠ L → b ≠ d → h.get? b = some o → h'.get? b = some o := fun b o h1 h2 e => by
  cases q : g.get? b with
  | some u =>
    have := k b u q
    rw [e] at this; cases this
    exact F.keep b _ q
  | none => exact (N (b, o) (mem_rest h1 q e h2)).1
end L2

namespace L2
open PySem PySem.Spec PyProof.Rows

/-- the module's facts, over the base: the heap at the law's entry without what is tracked there -/
structure Mod (K : PySem.W.Frag) (mg : Str → Option Value) (base : Heap) : Prop where
  kin : K.In base
  glob : base.Ns mainGlobals mg
  blt : ∃ mb, base.Ns builtinsNs mb ∧ ∀ x : Str, x ≠ "__name__" → mb x = bootBuiltins x
  nolimit : base.NoLimit

/-- the context: a def's body (or a comprehension's block) running. base: fixed through the whole law; s₀, H₀: the entry; outer: the frames whose slots others may change (a def's callers); stack: all frames that run;
   ex: iterators that were made ahead of the entry and are walked here (a comprehension's); fn: the names whose cells were made at the entry (a def: all; a comprehension's block: its own); calm: not within an except suite; pn: pins that every state bears; xe: what is wanted of an exception that leaves the code -/
structure Cx where
  prog : Program
  w : World
  K : PySem.W.Frag
  mg : Str → Option Value
  base : Heap
  A : Around
  N : List Str
  s₀ : Shared
  H₀ : Hp
  env : Env
  outer : List Env
  stack : List Env
  ex : List Addr
  fn : Str → Bool
  calm : Bool
  pn : List (Addr × Obj)
  xe : Value → Shared → Prop
/-- the callers' frames -/
def frs (l : List Env) : List Addr := l.filterMap (·.frame)
abbrev Cx.fs (X : Cx) : List Addr := frs X.outer

def Vis (sc : Scope) (x : Str) : Prop := sc.names.lookup x = some .local ∨ sc.names.lookup x = some .cell ∨ sc.names.lookup x = some .free
def Loc (sc : Scope) (x : Str) : Prop := sc.names.lookup x = some .local ∨ sc.names.lookup x = some .cell
def Look (env : Env) (h : Heap) (m : Str → Option Value) (x : Str) (u : Value) : Prop :=
  (env.kindOf x = some .local ∧ m x = some u) ∨ ((env.kindOf x = some .cell ∨ env.kindOf x = some .free) ∧ ∃ c, env.cells.lookup x = some c ∧ h.IsCell c (some u))

structure Cx.Ok (X : Cx) : Prop where
  mod : Mod X.K X.mg X.base
  kind : X.env.scope.kind = .function
  glob : X.env.globals = mainGlobals
  blt : X.env.builtins = builtinsNs
  above : X.s₀.heap.objs.size ≤ X.env.locals
  inj : ∀ x y c, X.env.cells.lookup x = some c → X.env.cells.lookup y = some c → x = y
  has : ∀ x, (X.env.kindOf x = some .cell ∨ X.env.kindOf x = some .free) → ∃ c, X.env.cells.lookup x = some c
  cab : ∀ x c, X.fn x = true → X.env.cells.lookup x = some c → X.s₀.heap.objs.size ≤ c
  hd : X.calm = true → X.A.handled = none
  frames : X.A.frames = some X.stack
  stk : X.stack = X.outer ∨ (X.stack = X.env :: X.outer ∧ X.env.frame = some X.env.locals)
  exf : ∀ b ∈ X.ex, b ≠ X.env.locals ∧ ∀ x c, X.env.cells.lookup x = some c → c ≠ b
  bs : ∀ b o, X.base.get? b = some o → X.s₀.heap.get? b = some o ∧ X.H₀ b = none
  bsz : X.base.objs.size ≤ X.s₀.heap.objs.size
  noex : ∀ b o, X.base.get? b = some o → b ∉ X.ex
  exfs : ∀ b ∈ X.ex, b ∉ X.fs
  funs : X.s₀.heap.FunFrames X.base X.outer
  frf : ∀ b ∈ X.fs, X.H₀ b = none

structure Inv (X : Cx) (pins : List (Addr × Obj)) (σ : List (Option V)) (H : Hp) (s : Shared) : Prop where
  ok : X.Ok
  os : s.os = X.s₀.os
  bare : AllBare s.gens
  base : Un X.fs X.ex X.H₀ H X.s₀.heap s.heap
  loc : ∃ m, s.heap.Ns X.env.locals m ∧ ∀ (i : Nat) (x : Str) (v : V), X.N[i]? = some x → σ[i]? = some (some v) → Vis X.env.scope x → ∃ u, RelV v u ∧ Look X.env s.heap m x u
  cell : ∀ x c, X.env.cells.lookup x = some c → ∃ v, s.heap.IsCell c v
  free : H X.env.locals = none
  freeC : ∀ x c, X.env.cells.lookup x = some c → H c = none
  pin : ∀ p ∈ X.pn ++ pins, s.heap.get? p.1 = some p.2 ∧ H p.1 = none ∧ p.1 ≠ X.env.locals ∧ p.1 ∉ X.fs ∧ ∀ v, p.2.data ≠ .cell v
  hok : HOk X.prog X.w H s.heap
  len : σ.length = X.N.length

section
variable {X : Cx} {pins : List (Addr × Obj)} {σ : List (Option V)} {H H' : Hp} {s : Shared} {h' : Heap}

theorem Cx.Ok.nofr (ok : X.Ok) {b : Addr} {o : Obj} (e : X.base.get? b = some o) : b ∉ X.fs := fun hb => by
  have := (ok.funs.mem hb).1
  rw [e] at this; cases this
theorem Inv.bs (I : Inv X pins σ H s) : ∀ b o, X.base.get? b = some o → s.heap.get? b = some o ∧ H b = none := fun b o e =>
  ⟨I.base.keep b o (I.ok.bs b o e).1 (I.ok.bs b o e).2 (I.ok.nofr e) (I.ok.noex b o e), I.base.free b o (I.ok.bs b o e).1 (I.ok.bs b o e).2 (I.ok.noex b o e)⟩
theorem Inv.bk (I : Inv X pins σ H s) : ∀ b o, X.base.get? b = some o → s.heap.get? b = some o := fun b o e => (I.bs b o e).1
theorem Inv.mod (I : Inv X pins σ H s) : Mod X.K X.mg X.base := I.ok.mod
theorem Inv.kIn (I : Inv X pins σ H s) : X.K.In s.heap := I.ok.mod.kin.keeps I.bk
theorem Inv.nolimit (I : Inv X pins σ H s) : s.heap.NoLimit := I.ok.mod.nolimit.keeps I.bk
/-- the frame over the base: for OpenK's rules (K.In X.base is I.mod.kin) -/
theorem Inv.fr (I : Inv X pins σ H s) : ∃ m, Fr X.base X.env.locals s.heap m :=
  let ⟨m, hn, _⟩ := I.loc
  ⟨m, hn, I.bk, Nat.le_trans I.ok.bsz I.ok.above⟩
theorem Inv.lt (I : Inv X pins σ H s) : X.env.locals < s.heap.objs.size := let ⟨_, hn, _⟩ := I.loc; hn.lt
theorem Inv.sz (I : Inv X pins σ H s) : X.s₀.heap.objs.size ≤ s.heap.objs.size := Nat.le_trans I.ok.above (Nat.le_of_lt I.lt)
theorem Inv.nofs (I : Inv X pins σ H s) {a : Addr} (h : s.heap.objs.size ≤ a) : a ∉ X.fs := fun hb => by
  obtain ⟨_, o, ho, _⟩ := I.ok.funs.mem hb
  exact absurd (Nat.lt_of_lt_of_le (Heap.lt_size ho) (Nat.le_trans I.sz h)) (Nat.lt_irrefl _)
theorem Inv.cne (I : Inv X pins σ H s) : ∀ x c, X.env.cells.lookup x = some c → c ≠ X.env.locals := fun x c e z => by
  obtain ⟨v, o, ho, hd⟩ := I.cell x c e
  obtain ⟨m, ⟨o', es, ep, ho', hd', _⟩, _⟩ := I.loc
  rw [z, ho'] at ho; cases ho; rw [hd'] at hd; cases hd
theorem Inv.funs (I : Inv X pins σ H s) : s.heap.FunFrames X.base X.outer := by
  have all : ∀ (l : List Env), (∀ b ∈ frs l, b ∈ X.fs) → X.s₀.heap.FunFrames X.base l → s.heap.FunFrames X.base l := by
    intro l
    induction l with
    | nil => intro _ _; trivial
    | cons env r ih =>
      intro hs hl
      obtain ⟨hk, ⟨L, o, hf, hn, ho, hd⟩, hr⟩ := hl
      have hL : L ∈ X.fs := hs L (by unfold frs; rw [List.filterMap_cons, hf]; exact List.mem_cons_self)
      obtain ⟨sl, e⟩ := I.base.slot L o ho (I.ok.frf L hL) hL fun z => I.ok.exfs L z hL
      exact ⟨hk, ⟨L, _, hf, hn, e, hd⟩, ih (fun b hb => hs b (by unfold frs; rw [List.filterMap_cons, hf]; exact List.mem_cons_of_mem _ hb)) hr⟩
  exact all X.outer (fun _ hb => hb) I.ok.funs

/-- the frames that run, for a call -/
theorem Inv.stack (I : Inv X pins σ H s) : s.heap.FunFrames X.base X.stack := by
  rcases I.ok.stk with e | ⟨e, hf⟩
  · rw [e]; exact I.funs
  · rw [e]
    obtain ⟨m, hn, _⟩ := I.loc
    refine .cons (by rw [I.ok.kind]; decide) hf hn ?_ I.funs
    exact Heap.get?_none_of_le (Nat.le_trans I.ok.bsz I.ok.above)
theorem Inv.stkSub (I : Inv X pins σ H s) : ∀ b ∈ frs X.stack, b ∈ X.env.locals :: X.fs := fun b hb => by
  rcases I.ok.stk with e | ⟨e, hf⟩
  · rw [e] at hb; exact List.mem_cons_of_mem _ hb
  · rw [e] at hb
    unfold frs at hb
    rw [List.filterMap_cons, hf] at hb
    exact hb
theorem Inv.stkFree (I : Inv X pins σ H s) : ∀ b ∈ frs X.stack, H b = none := fun b hb => by
  rcases List.mem_cons.mp (I.stkSub b hb) with e | hb
  · rw [e]; exact I.free
  · obtain ⟨_, o, ho, _⟩ := I.ok.funs.mem hb
    exact I.base.free b o ho (I.ok.frf b hb) fun z => I.ok.exfs b z hb

/-- THE STEP: the untracked objects but the frame and the records at ch are kept (the callers' frames up to slots), the frame's map is kept, the new abstract heap is held -/
theorem Inv.step {g' : Array GenState} {t' : Nat} {d' : Drawn} {ch : List Addr} (I : Inv X pins σ H s)
    (hch : ∀ b ∈ ch, (b ∈ X.ex ∨ X.s₀.heap.objs.size ≤ b) ∧ b ≠ X.env.locals ∧ (∀ x c, X.env.cells.lookup x = some c → c ≠ b) ∧ ∀ p ∈ X.pn ++ pins, p.1 ≠ b)
    (keep : ∀ b o, b ≠ X.env.locals → b ∉ X.fs → b ∉ ch → s.heap.get? b = some o → H b = none → h'.get? b = some o)
    (slot : ∀ b o, b ≠ X.env.locals → b ∈ X.fs → b ∉ ch → s.heap.get? b = some o → H b = none → ∃ sl, h'.get? b = some { o with slots := sl }) (free : ∀ b o, b ∉ ch → s.heap.get? b = some o → H b = none → H' b = none)
    (there : ∀ b o, b ∉ ch → s.heap.get? b = some o → ∃ o', h'.get? b = some o')
    (tups : ∀ b xs, H b = some (.tup xs) → H' b = some (.tup xs)) (frzs : ∀ b o u, H b = some (.frz o u) → H' b = some (.frz o u)) (tbls : ∀ b ps, H b = some (.tbl ps) → ∃ more, H' b = some (.tbl (ps ++ more)))
    (ns : ∀ m, s.heap.Ns X.env.locals m → h'.Ns X.env.locals m) (hok : HOk X.prog X.w H' h') (hg : AllBare g') :
    Inv X pins σ H' { s with heap := h', gens := g', drawn := d', toks := t' } := by
  have neL : ∀ b o, X.s₀.heap.get? b = some o → b ≠ X.env.locals := fun b o e => Nat.ne_of_lt (Nat.lt_of_lt_of_le (Heap.lt_size e) I.ok.above)
  have neC : ∀ b o, X.s₀.heap.get? b = some o → b ∉ X.ex → b ∉ ch := fun b o e hx hb => by
    rcases (hch b hb).1 with z | z
    · exact hx z
    · exact absurd (Nat.lt_of_lt_of_le (Heap.lt_size e) z) (Nat.lt_irrefl _)
  have cellK : ∀ x c, X.env.cells.lookup x = some c → ∀ v, s.heap.IsCell c v → h'.IsCell c v := fun x c e v ⟨o, ho, hd⟩ => by
    have nch : c ∉ ch := fun z => (hch c z).2.2.1 x c e rfl
    by_cases hc : c ∈ X.fs
    · obtain ⟨sl, q⟩ := slot c o (I.cne x c e) hc nch ho (I.freeC x c e)
      exact ⟨_, q, hd⟩
    · exact ⟨o, keep c o (I.cne x c e) hc nch ho (I.freeC x c e), hd⟩
  refine ⟨I.ok, I.os, hg, ⟨fun b o e n hb hx => ?_, fun b o e n hb hx => ?_, fun b o e n hx => ?_, fun b o e hx => ?_, fun b xs e => tups b xs (I.base.tups b xs e), fun b o xs e => frzs b o xs (I.base.frzs b o xs e), fun b ps e => ?_⟩, ?_, fun x c e => ?_, ?_, fun x c e => ?_, fun p hp => ?_, hok, I.len⟩
  · exact keep b o (neL b o e) hb (neC b o e hx) (I.base.keep b o e n hb hx) (I.base.free b o e n hx)
  · obtain ⟨sl, e1⟩ := I.base.slot b o e n hb hx
    obtain ⟨sl', e2⟩ := slot b _ (neL b o e) hb (neC b o e hx) e1 (I.base.free b o e n hx)
    exact ⟨sl', e2⟩
  · obtain ⟨o', e1⟩ := I.base.there b o e hx
    exact free b o' (neC b o e hx) e1 (I.base.free b o e n hx)
  · obtain ⟨o', e1⟩ := I.base.there b o e hx
    exact there b o' (neC b o e hx) e1
  · obtain ⟨m1, e1⟩ := I.base.tbls b ps e
    obtain ⟨m2, e2⟩ := tbls b _ e1
    exact ⟨m1 ++ m2, by rw [e2, Array.append_assoc]⟩
  · obtain ⟨m, hn, hl⟩ := I.loc
    refine ⟨m, ns m hn, fun i x v e1 e2 e3 => ?_⟩
    obtain ⟨u, r, l⟩ := hl i x v e1 e2 e3
    refine ⟨u, r, ?_⟩
    rcases l with l | ⟨k, c, e, z⟩
    · exact .inl l
    · exact .inr ⟨k, c, e, cellK x c e _ z⟩
  · obtain ⟨v, z⟩ := I.cell x c e
    exact ⟨v, cellK x c e v z⟩
  · obtain ⟨m, ⟨o, _, _, ho, _⟩, _⟩ := I.loc
    exact free _ o (fun z => (hch _ z).2.1 rfl) ho I.free
  · obtain ⟨v, o, ho, hd⟩ := I.cell x c e
    exact free c o (fun z => (hch c z).2.2.1 x c e rfl) ho (I.freeC x c e)
  · obtain ⟨e, n, ne, nf, d⟩ := I.pin p hp
    have nch : p.1 ∉ ch := fun z => (hch p.1 z).2.2.2 p hp rfl
    exact ⟨keep p.1 p.2 ne nf nch e n, free p.1 p.2 nch e n, ne, nf, d⟩
/-- .. where the frame's own object is kept too -/
theorem Inv.un {t' : Nat} (I : Inv X pins σ H s) (u : Un X.fs [] H H' s.heap h') (hok : HOk X.prog X.w H' h') : Inv X pins σ H' { s with heap := h', toks := t' } := by
  obtain ⟨m, ⟨o, es, ep, ho, r⟩, _⟩ := id I.loc
  obtain ⟨sl, hL⟩ := u.any ho I.free (by simp)
  exact I.step (g' := s.gens) (d' := s.drawn) (ch := []) (fun _ z => nomatch z) (fun b o _ hb _ e n => u.keep b o e n hb (by simp)) (fun b o _ hb _ e n => u.slot b o e n hb (by simp)) (fun b o _ e n => u.free b o e n (by simp)) (fun b o _ e => u.there b o e (by simp)) u.tups u.frzs u.tbls (fun m' hm => by
    obtain ⟨o', es', ep', ho', r'⟩ := hm
    rw [ho] at ho'; cases ho'
    exact ⟨_, es', ep', hL, r'⟩) hok I.bare
/-- behind a call (or a comprehension's block): the slots of this frame may have changed too, the records at ch may have turned -/
theorem Inv.call {g' : Array GenState} {t' : Nat} {d' : Drawn} {ch : List Addr} (I : Inv X pins σ H s) (u : Un (frs X.stack) ch H H' s.heap h') (hok : HOk X.prog X.w H' h') (hg : AllBare g')
    (hch : ∀ b ∈ ch, (b ∈ X.ex ∨ X.s₀.heap.objs.size ≤ b) ∧ b ≠ X.env.locals ∧ (∀ x c, X.env.cells.lookup x = some c → c ≠ b) ∧ ∀ p ∈ X.pn ++ pins, p.1 ≠ b) :
    Inv X pins σ H' { s with heap := h', gens := g', drawn := d', toks := t' } := by
  obtain ⟨m, ⟨o, es, ep, ho, r⟩, _⟩ := id I.loc
  obtain ⟨sl, hL⟩ := u.any ho I.free fun z => (hch _ z).2.1 rfl
  exact I.step (ch := ch) hch (fun b o hL hb hc e n => u.keep b o e n (fun z => (List.mem_cons.mp (I.stkSub b z)).elim hL hb) hc) (fun b o _ _ hc e n => u.any e n hc) (fun b o hc e n => u.free b o e n hc) (fun b o hc e => u.there b o e hc) u.tups u.frzs u.tbls (fun m' hm => by
    obtain ⟨o', es', ep', ho', r'⟩ := hm
    rw [ho] at ho'; cases ho'
    exact ⟨_, es', ep', hL, r'⟩) hok hg
/-- an untracked record of ours (an iterator) has turned -/
theorem Inv.turned {t' : Nat} {it : Addr} (I : Inv X pins σ H s) (k : ∀ b o, b ≠ it → s.heap.get? b = some o → h'.get? b = some o) (hn : H it = none) (hL : it ≠ X.env.locals)
    (h1 : it ∈ X.ex ∨ X.s₀.heap.objs.size ≤ it) (h2 : ∀ x c, X.env.cells.lookup x = some c → c ≠ it) (h3 : ∀ p ∈ X.pn ++ pins, p.1 ≠ it) : Inv X pins σ H { s with heap := h', toks := t' } := by
  have nit : ∀ b u, H b = some u → b ≠ it := fun b u e z => by rw [z, hn] at e; cases e
  refine I.step (g' := s.gens) (d' := s.drawn) (ch := [it]) (fun b hb => ?_) (fun b o _ _ hc e _ => k b o (fun z => hc (by simp [z])) e) (fun b o _ _ hc e _ => ⟨o.slots, k b o (fun z => hc (by simp [z])) e⟩) (fun _ _ _ _ n => n)
    (fun b o hc e => ⟨o, k b o (fun z => hc (by simp [z])) e⟩) (fun _ _ e => e) (fun _ _ _ e => e) (fun b ps e => ⟨#[], by rw [e]; simp⟩) (fun m hm => ?_) (fun b u e => ?_) I.bare
  · have e : b = it := by simpa using hb
    subst e
    exact ⟨h1, hL, h2, h3⟩
  · obtain ⟨o, es, ep, ho, r⟩ := hm
    exact ⟨o, es, ep, k _ o (Ne.symm hL) ho, r⟩
  · refine (I.hok b u e).stay (fun c v hc q => k c v ?_ q) (fun _ q => q) fun _ _ q => q
    rcases hc with z | z
    · rw [z]; exact nit b u e
    · exact nit c _ z
theorem Inv.tok (I : Inv X pins σ H s) (t : Nat) : Inv X pins σ H { s with toks := t } := I.un (h' := s.heap) (t' := t) Un.refl I.hok
/-- all objects kept -/
theorem Inv.kept {t' : Nat} (I : Inv X pins σ H s) (k : ∀ b u, s.heap.get? b = some u → h'.get? b = some u) : Inv X pins σ H { s with heap := h', toks := t' } := I.un (Un.kept k) (I.hok.kept k)
/-- a new object laid and tracked -/
theorem Inv.laid {a : Addr} {o : HO} {t' : Nat} (I : Inv X pins σ H s) (k : ∀ b u, s.heap.get? b = some u → h'.get? b = some u) (hp : s.heap.objs.size ≤ a) (new : ObjOk X.prog X.w (upd H a o) h' a o) :
    Inv X pins σ (upd H a o) { s with heap := h', toks := t' } := I.un (Un.laid k hp (I.hok.fresh hp)) (I.hok.laid k hp new)
/-- an object written -/
theorem Inv.write {x e : Addr} {o : HO} {t' : Nat} (I : Inv X pins σ H s) (mu : Mut (H x)) (he : e = x ∨ H e = some (.own x)) (k : ∀ b u, b ≠ e → s.heap.get? b = some u → h'.get? b = some u) (heo : ∃ u, h'.get? e = some u)
    (new : ObjOk X.prog X.w (upd H x o) h' x o) : Inv X pins σ (upd H x o) { s with heap := h', toks := t' } := I.un (Un.write mu he k heo) (I.hok.write mu he k heo new)
/-- forgetting slots, pins -/
theorem Inv.weak {σ' : List (Option V)} (I : Inv X pins σ H s) (hl : σ'.length = σ.length) (w : ∀ (i : Nat) v, σ'[i]? = some (some v) → σ[i]? = some (some v)) : Inv X pins σ' H s :=
  ⟨I.ok, I.os, I.bare, I.base, let ⟨m, hn, hl'⟩ := I.loc; ⟨m, hn, fun i x v e1 e2 e3 => hl' i x v e1 (w i v e2) e3⟩, I.cell, I.free, I.freeC, I.pin, I.hok, hl.trans I.len⟩
theorem Inv.pins_of {pins' : List (Addr × Obj)} (I : Inv X pins σ H s) (h : ∀ p ∈ pins', s.heap.get? p.1 = some p.2 ∧ H p.1 = none ∧ p.1 ≠ X.env.locals ∧ p.1 ∉ X.fs ∧ ∀ v, p.2.data ≠ .cell v) : Inv X pins' σ H s :=
  ⟨I.ok, I.os, I.bare, I.base, I.loc, I.cell, I.free, I.freeC, fun p hp => (List.mem_append.mp hp).elim (fun z => I.pin p (List.mem_append_left _ z)) (h p), I.hok, I.len⟩

theorem nodup_ix {N : List Str} (hN : N.Nodup) {i j : Nat} {x : Str} (a : N[i]? = some x) (b : N[j]? = some x) : i = j := by
  obtain ⟨h1, e1⟩ := List.getElem?_eq_some_iff.mp a
  obtain ⟨h2, e2⟩ := List.getElem?_eq_some_iff.mp b
  exact (List.getElem_inj hN).mp (e1.trans e2.symm)

/-- a name is stored; what changed -/
theorem store_ok2 {M : Model} {A : Around} {E : Value → Shared → Prop} {i : Nat} {x : Str} {v : V} {u : Value} {Q : Unit → Shared → Prop} (I : Inv X pins σ H s) (hN : X.N.Nodup) (hi : X.N[i]? = some x) (hx : Loc X.env.scope x) (r : RelV v u)
    (h : ∀ s', Inv X pins (σ.set i (some v)) H s' → (∃ a, Heap.SameBut a s.heap s'.heap ∧ (a = X.env.locals ∨ X.env.cells.lookup x = some a)) → Q () s') (hf : X.fn x = true ∨ X.env.scope.names.lookup x = some .local := by first | exact .inl rfl | exact .inr rfl | assumption) : wpAny M A (storeName X.env x u) Q E s := by
  obtain ⟨m, hn, hl⟩ := id I.loc
  have hcls : (X.env.scope.kind == .class || (X.env.scope.kind == .module && X.env.locals != X.env.globals)) = false := by rw [I.ok.kind]; rfl
  have hiσ : i < σ.length := by rw [I.len]; exact (List.getElem?_eq_some_iff.mp hi).1
  have cne := I.cne
  have tracked : ∀ {a : Addr} {h' : Heap}, (∃ o, s.heap.get? a = some o ∧ H a = none) → Heap.SameBut a s.heap h' → HOk X.prog X.w H h' := fun {a h'} ha hs b ob e => by
    obtain ⟨_, _, hfree⟩ := ha
    refine (I.hok b ob e).stay (fun c w' hc q => (hs.2 c ?_).trans q) (fun _ q => q) fun _ _ q => q
    rintro rfl
    rcases hc with rfl | hc
    · rw [hfree] at e; cases e
    · rw [hfree] at hc; cases hc
  rcases hx with hk | hk
  · refine wpAny_storeName_local hk hn (fun h' hn' hs => ?_) hcls
    obtain ⟨oL, _, _, hoL, _⟩ := id hn
    refine h _ ⟨I.ok, I.os, I.bare, ⟨fun b o e n hb hx => ?_, fun b o e n hb hx => ?_, I.base.free, fun b o e hx => ?_, I.base.tups, I.base.frzs, I.base.tbls⟩, ⟨_, hn', fun j y v' e1 e2 e3 => ?_⟩, fun y c e => ?_, I.free, I.freeC, fun p hp => ?_, tracked ⟨oL, hoL, I.free⟩ hs, by simpa using I.len⟩ ⟨_, hs, .inl rfl⟩
    · exact (hs.2 b (Nat.ne_of_lt (Nat.lt_of_lt_of_le (Heap.lt_size e) I.ok.above))).trans (I.base.keep b o e n hb hx)
    · obtain ⟨sl, e1⟩ := I.base.slot b o e n hb hx
      exact ⟨sl, (hs.2 b (Nat.ne_of_lt (Nat.lt_of_lt_of_le (Heap.lt_size e) I.ok.above))).trans e1⟩
    · obtain ⟨o', e1⟩ := I.base.there b o e hx
      exact ⟨o', (hs.2 b (Nat.ne_of_lt (Nat.lt_of_lt_of_le (Heap.lt_size e) I.ok.above))).trans e1⟩
    · by_cases hj : j = i
      · subst hj
        rw [hi] at e1; cases e1
        rw [List.getElem?_set_self hiσ] at e2
        cases e2
        exact ⟨u, r, .inl ⟨hk, by simp⟩⟩
      · rw [List.getElem?_set_ne (Ne.symm hj)] at e2
        obtain ⟨u', r', q⟩ := hl j y v' e1 e2 e3
        refine ⟨u', r', ?_⟩
        rcases q with ⟨k, e⟩ | ⟨k, c, e, z⟩
        · refine .inl ⟨k, ?_⟩
          have : y ≠ x := fun e => hj (nodup_ix hN e1 (e ▸ hi))
          simp [this, e]
        · exact .inr ⟨k, c, e, z.sameBut hs (cne y c e)⟩
    · obtain ⟨w', z⟩ := I.cell y c e
      exact ⟨w', z.sameBut hs (cne y c e)⟩
    · obtain ⟨e, n, ne, nf, d⟩ := I.pin p hp
      exact ⟨(hs.2 p.1 ne).trans e, n, ne, nf, d⟩
  · have hfn : X.fn x = true := by
      rcases hf with z | z
      · exact z
      · rw [z] at hk; cases hk
    obtain ⟨c, hc⟩ := I.ok.has x (.inl hk)
    obtain ⟨w', z⟩ := I.cell x c hc
    refine wpAny_storeName_cell I.ok.kind hk hc z (fun h' hc' hs => ?_)
    obtain ⟨oc, hoc, hocd⟩ := id z
    refine h { s with heap := h' } ⟨I.ok, I.os, I.bare, ⟨fun b o e n hb hx => ?_, fun b o e n hb hx => ?_, I.base.free, fun b o e hx => ?_, I.base.tups, I.base.frzs, I.base.tbls⟩, ⟨m, hn.sameBut hs (Ne.symm (cne x c hc)), fun j y v' e1 e2 e3 => ?_⟩, fun y c' e => ?_, I.free, I.freeC, fun p hp => ?_, tracked ⟨oc, hoc, I.freeC x c hc⟩ hs, by simpa using I.len⟩ ⟨c, hs, .inr hc⟩
    · exact (hs.2 b (Nat.ne_of_lt (Nat.lt_of_lt_of_le (Heap.lt_size e) (I.ok.cab x c hfn hc)))).trans (I.base.keep b o e n hb hx)
    · obtain ⟨sl, e1⟩ := I.base.slot b o e n hb hx
      exact ⟨sl, (hs.2 b (Nat.ne_of_lt (Nat.lt_of_lt_of_le (Heap.lt_size e) (I.ok.cab x c hfn hc)))).trans e1⟩
    · obtain ⟨o', e1⟩ := I.base.there b o e hx
      exact ⟨o', (hs.2 b (Nat.ne_of_lt (Nat.lt_of_lt_of_le (Heap.lt_size e) (I.ok.cab x c hfn hc)))).trans e1⟩
    · by_cases hj : j = i
      · subst hj
        rw [hi] at e1; cases e1
        rw [List.getElem?_set_self hiσ] at e2
        cases e2
        exact ⟨u, r, .inr ⟨.inl hk, c, hc, hc'⟩⟩
      · rw [List.getElem?_set_ne (Ne.symm hj)] at e2
        obtain ⟨u', r', q⟩ := hl j y v' e1 e2 e3
        refine ⟨u', r', ?_⟩
        rcases q with q | ⟨k, c', e, z'⟩
        · exact .inl q
        · refine .inr ⟨k, c', e, z'.sameBut hs ?_⟩
          rintro rfl
          exact hj (nodup_ix hN e1 (I.ok.inj _ _ _ e hc ▸ hi))
    · by_cases hcc : c' = c
      · subst hcc; exact ⟨_, hc'⟩
      · obtain ⟨w2, z2⟩ := I.cell y c' e
        exact ⟨w2, z2.sameBut hs hcc⟩
    · obtain ⟨e, n, ne, nf, d⟩ := I.pin p hp
      refine ⟨(hs.2 p.1 ?_).trans e, n, ne, nf, d⟩
      intro q
      rw [q, hoc] at e
      have q' : oc = p.2 := Option.some.inj e
      exact d w' (by rw [← q']; exact hocd)
theorem store_ok {M : Model} {A : Around} {E : Value → Shared → Prop} {i : Nat} {x : Str} {v : V} {u : Value} {Q : Unit → Shared → Prop} (I : Inv X pins σ H s) (hN : X.N.Nodup) (hi : X.N[i]? = some x) (hx : Loc X.env.scope x) (r : RelV v u)
    (h : ∀ s', Inv X pins (σ.set i (some v)) H s' → Q () s') (hf : X.fn x = true ∨ X.env.scope.names.lookup x = some .local := by first | exact .inl rfl | exact .inr rfl | assumption) : wpAny M A (storeName X.env x u) Q E s :=
  store_ok2 I hN hi hx r (fun s' I' _ => h s' I') hf
/-- behind a call or a block, the state as it is -/
theorem Inv.call' {s' : Shared} {ch : List Addr} (I : Inv X pins σ H s) (ho : s'.os = s.os) (u : Un (frs X.stack) ch H H' s.heap s'.heap) (hok : HOk X.prog X.w H' s'.heap) (hg : AllBare s'.gens)
    (hch : ∀ b ∈ ch, (b ∈ X.ex ∨ X.s₀.heap.objs.size ≤ b) ∧ b ≠ X.env.locals ∧ (∀ x c, X.env.cells.lookup x = some c → c ≠ b) ∧ ∀ p ∈ X.pn ++ pins, p.1 ≠ b) : Inv X pins σ H' s' := by
  obtain ⟨h', g', d', t', o'⟩ := s'
  have e : o' = s.os := ho
  subst e
  exact I.call (g' := g') (t' := t') (d' := d') u hok hg hch
end

/-! ### the judgements -/
/-- an exception: its class, its own dict's address (where it has one), the abstract heap behind it -/
abbrev XK := Value → Option Addr → Hp → Prop
abbrev St := List (Option V)
abbrev VK := V → Hp → Prop
/-- an expression's reading; a test's; an argument list's -/
abbrev TE := St → Hp → VK → Prop
abbrev TT := St → Hp → (Bool → Hp → Prop) → Prop
abbrev TA := St → Hp → (List V → Hp → Prop) → Prop
/-- what is wanted behind a statement -/
structure Ends where
  nx : St → Hp → Prop
  rt : VK
  bk : St → Hp → Prop := fun _ _ => False
  ct : St → Hp → Prop := fun _ _ => False
abbrev TS := Ends → St → Hp → Prop

def EP (X : Cx) (pins : List (Addr × Obj)) (σ : St) (Q : VK) (u : Value) (s' : Shared) : Prop := ∃ v H', Inv X pins σ H' s' ∧ RelV v u ∧ Q v H'
def TP (X : Cx) (pins : List (Addr × Obj)) (σ : St) (Q : Bool → Hp → Prop) (b : Bool) (s' : Shared) : Prop := ∃ H', Inv X pins σ H' s' ∧ Q b H'
def AP (X : Cx) (pins : List (Addr × Obj)) (σ : St) (Q : List V → Hp → Prop) (us : List Value) (s' : Shared) : Prop := ∃ vs H', Inv X pins σ H' s' ∧ Vals vs us ∧ Q vs H'
def SP (X : Cx) (pins : List (Addr × Obj)) (D : Ends) (f : Flow) (s' : Shared) : Prop :=
  match f with
  | .next => ∃ σ' H', Inv X pins σ' H' s' ∧ D.nx σ' H'
  | .brk => ∃ σ' H', Inv X pins σ' H' s' ∧ D.bk σ' H'
  | .cont => ∃ σ' H', Inv X pins σ' H' s' ∧ D.ct σ' H'
  | .ret u => ∃ v σ' H', Inv X pins σ' H' s' ∧ RelV v u ∧ D.rt v H'

def PE (X : Cx) (e : Expr) (t : TE) : Prop :=
  ∀ (pins : List (Addr × Obj)) (s : Shared) (σ : St) (H : Hp) (Q : VK), Inv X pins σ H s → t σ H Q → wpAny (model X.prog X.w) X.A (eval e X.env) (EP X pins σ Q) X.xe s
def PT (X : Cx) (e : Expr) (t : TT) : Prop :=
  ∀ (pins : List (Addr × Obj)) (s : Shared) (σ : St) (H : Hp) (Q : Bool → Hp → Prop), Inv X pins σ H s → t σ H Q → wpAny (model X.prog X.w) X.A (isTrue e X.env (eval e X.env)) (TP X pins σ Q) X.xe s
/-- a test whatever its 'whole' is (and, or) -/
def PW (X : Cx) (e : Expr) (t : TT) : Prop :=
  ∀ (whole : Sem Value) (pins : List (Addr × Obj)) (s : Shared) (σ : St) (H : Hp) (Q : Bool → Hp → Prop), Inv X pins σ H s → t σ H Q → wpAny (model X.prog X.w) X.A (isTrue e X.env whole) (TP X pins σ Q) X.xe s
theorem PW.pt {X : Cx} {e : Expr} {t : TT} (h : PW X e t) : PT X e t := h _
/-- an argument list (no star), from the left -/
def PA (X : Cx) (es : List Expr) (t : TA) : Prop :=
  ∀ (pos : Pos) (pins : List (Addr × Obj)) (s : Shared) (σ : St) (H : Hp) (Q : List V → Hp → Prop), Inv X pins σ H s → t σ H Q → wpAny (model X.prog X.w) X.A (spliced (backTo pos (starEach es X.env))) (AP X pins σ Q) X.xe s
def PS (X : Cx) (st : Stmt) (t : TS) : Prop :=
  ∀ (pins : List (Addr × Obj)) (s : Shared) (σ : St) (H : Hp) (D : Ends), Inv X pins σ H s → t D σ H → wpAny (model X.prog X.w) X.A (exec st X.env) (SP X pins D) X.xe s
def PSs (X : Cx) (st : List Stmt) (t : TS) : Prop :=
  ∀ (pins : List (Addr × Obj)) (s : Shared) (σ : St) (H : Hp) (D : Ends), Inv X pins σ H s → t D σ H → wpAny (model X.prog X.w) X.A (execs st X.env) (SP X pins D) X.xe s
/-- weaken the end -/
theorem thn {α : Type} {t : Sem α} {Q Q' : α → Shared → Prop} {M : Model} {A : Around} {E : Value → Shared → Prop} {s : Shared} (h : wpAny M A t Q E s) (hQ : ∀ a s, Q a s → Q' a s) : wpAny M A t Q' E s := wpAny_mono h hQ fun _ _ x => x
end L2

namespace L2
open PySem PySem.Spec PyProof.Rows
section
variable {X : Cx}

/-- two expressions in a row -/
theorem bin {a b : Expr} {ta tb : TE} (ha : PE X a ta) (hb : PE X b tb) {pins : List (Addr × Obj)} {s : Shared} {σ : St} {H : Hp} {R : V → V → Hp → Prop} (I : Inv X pins σ H s) (h : ta σ H fun x H1 => tb σ H1 fun y H2 => R x y H2)
    {α : Type} {Q : α → Shared → Prop} {f : Value → Value → Sem α}
    (hf : ∀ v u s2 x y H2, Inv X pins σ H2 s2 → RelV x v → RelV y u → R x y H2 → wpAny (model X.prog X.w) X.A (f v u) Q X.xe s2) :
    wpAny (model X.prog X.w) X.A (eval a X.env) (fun v s₁ => wpAny (model X.prog X.w) X.A (eval b X.env) (fun u s₂ => wpAny (model X.prog X.w) X.A (f v u) Q X.xe s₂) X.xe s₁) X.xe s := by
  refine thn (ha pins s σ H _ I h) fun v s1 ⟨x, H1, I1, r1, q1⟩ => ?_
  refine thn (hb pins s1 σ H1 _ I1 q1) fun u s2 ⟨y, H2, I2, r2, q2⟩ => ?_
  exact hf v u s2 x y H2 I2 r1 r2 q2

/-! ### names and constants -/
def tVar (i : Nat) : TE := fun σ H Q => ∃ v, σ[i]? = some (some v) ∧ Q v H
def tC (v : V) : TE := fun _ H Q => Q v H
theorem pe_var {i : Nat} {x : Str} {pos : Pos} (hN : X.N[i]? = some x) (hv : Vis X.env.scope x) (hd : (x == ("__debug__" : Str)) = false := by decide) (hcd : (x == ("__classdict__" : Str)) = false := by decide) : PE X (.Name x pos) (tVar i) := by
  intro pins s σ H Q I h
  obtain ⟨v, e, h⟩ := h
  obtain ⟨m, hn, hl⟩ := I.loc
  obtain ⟨u, r, l⟩ := hl i x v hN e hv
  have fin : EP X pins σ Q u s := ⟨v, H, I, r, h⟩
  rcases l with ⟨hk, hm⟩ | ⟨hk, c, hc, hcell⟩
  · exact wpAny_Name (wpAny_loadName_local I.ok.kind hk hn hm fin) hd
  · rcases hk with hk | hk
    · exact wpAny_Name (wpAny_loadName_cell I.ok.kind hk hc hcell fin) hd
    · exact wpAny_Name (wpAny_loadName_free I.ok.kind hk hc hcell fin hcd) hd
theorem pe_int {i j pos} : PE X (.Constant (.int i) j pos) (tC (.int i)) := fun _ _ _ H _ I h => wpAny_Constant_int ⟨.int i, H, I.tok _, ⟨_, rfl⟩, h⟩
theorem pe_bl {b j pos} : PE X (.Constant (.bool b) j pos) (tC (.bl b)) := fun _ _ _ H _ I h => Constant_bool ⟨.bl b, H, I, rfl, h⟩
theorem pe_non {j pos} : PE X (.Constant .none j pos) (tC .non) := fun _ _ _ H _ I h => Constant_none ⟨.non, H, I, rfl, h⟩
theorem pe_str {x j pos} : PE X (.Constant (.str x) j pos) (tC (.str x)) := fun _ _ _ H _ I h => Calls.Constant_str ⟨.str x, H, I.tok _, ⟨_, rfl⟩, h⟩

/-- a global name of the def -/
def Gl (X : Cx) (x : Str) : Prop := X.env.kindOf x = some .globalImplicit
theorem ld_glob {E : Value → Shared → Prop} {pins : List (Addr × Obj)} {s : Shared} {σ : St} {H : Hp} {x : Str} {u : Value} {pos : Pos} {Q : Value → Shared → Prop} (I : Inv X pins σ H s) (hg : Gl X x) (hm : X.mg x = some u) (h : Q u s)
    (hd : (x == ("__debug__" : Str)) = false := by decide) : wpAny (model X.prog X.w) X.A (eval (.Name x pos) X.env) Q E s :=
  Calls.Name_function_global I.ok.kind hg (Calls.loadGlobal_global (by rw [I.ok.glob]; exact I.mod.glob.keeps I.bk) hm h) hd
theorem ld_blt {E : Value → Shared → Prop} {pins : List (Addr × Obj)} {s : Shared} {σ : St} {H : Hp} {x : Str} {u : Value} {pos : Pos} {Q : Value → Shared → Prop} (I : Inv X pins σ H s) (hg : Gl X x) (hm : X.mg x = none) (hv : bootBuiltins x = some u) (h : Q u s)
    (hn : x ≠ "__name__" := by decide) (hd : (x == ("__debug__" : Str)) = false := by decide) : wpAny (model X.prog X.w) X.A (eval (.Name x pos) X.env) Q E s := by
  obtain ⟨mb, h1, h2⟩ := I.mod.blt
  exact Calls.Name_function_global I.ok.kind hg (Calls.loadGlobal_builtin (by rw [I.ok.glob]; exact I.mod.glob.keeps I.bk) hm (by rw [I.ok.blt]; exact h1.keeps I.bk) ((h2 x hn).trans hv) h) hd
/-- a module's constant, a class, a function, as a value -/
theorem pe_glob {x : Str} {v : V} {u : Value} {pos : Pos} (hg : Gl X x) (hm : X.mg x = some u) (r : RelV v u) (hd : (x == ("__debug__" : Str)) = false := by decide) : PE X (.Name x pos) (tC v) :=
  fun _ _ _ H _ I h => ld_glob I hg hm ⟨v, H, I, r, h⟩ hd
theorem pe_bltn {x : Str} {v : V} {u : Value} {pos : Pos} (hg : Gl X x) (hm : X.mg x = none) (hv : bootBuiltins x = some u) (r : RelV v u) (hn : x ≠ "__name__" := by decide) (hd : (x == ("__debug__" : Str)) = false := by decide) : PE X (.Name x pos) (tC v) :=
  fun _ _ _ H _ I h => ld_blt I hg hm hv ⟨v, H, I, r, h⟩ hn hd

/-! ### arithmetic -/
/-- two ints -/
def t2I (ta tb : TE) (k : Int → Int → Hp → Prop) : St → Hp → Prop := fun σ H => ta σ H fun x H1 => tb σ H1 fun y H2 => ∃ i j, x = .int i ∧ y = .int j ∧ k i j H2
def tAdd (ta tb : TE) : TE := fun σ H Q => t2I ta tb (fun i j H2 => Q (.int (i + j)) H2) σ H
def tSub (ta tb : TE) : TE := fun σ H Q => t2I ta tb (fun i j H2 => Q (.int (i - j)) H2) σ H
/-- the left factor below 2^64 -/
def tMul (ta tb : TE) : TE := fun σ H Q => t2I ta tb (fun i j H2 => (-(2 ^ 64) < i ∧ i < 2 ^ 64) ∧ Q (.int (i * j)) H2) σ H
variable {a b : Expr} {ta tb : TE} {pos : Pos}
theorem pe_add (ha : PE X a ta) (hb : PE X b tb) : PE X (.BinOp a .Add b pos) (tAdd ta tb) := by
  intro pins s σ H Q I h
  refine wpAny_BinOp (bin ha hb I h fun v u s2 x y H2 I2 rx ry q => ?_)
  obtain ⟨i, j, rfl, rfl, q⟩ := q
  obtain ⟨t, rfl⟩ := rx
  obtain ⟨t', rfl⟩ := ry
  exact add_int ⟨.int _, H2, I2.tok _, ⟨_, rfl⟩, q⟩
theorem pe_sub (ha : PE X a ta) (hb : PE X b tb) : PE X (.BinOp a .Sub b pos) (tSub ta tb) := by
  intro pins s σ H Q I h
  refine wpAny_BinOp (bin ha hb I h fun v u s2 x y H2 I2 rx ry q => ?_)
  obtain ⟨i, j, rfl, rfl, q⟩ := q
  obtain ⟨t, rfl⟩ := rx
  obtain ⟨t', rfl⟩ := ry
  exact sub_int ⟨.int _, H2, I2.tok _, ⟨_, rfl⟩, q⟩
theorem pe_mul (ha : PE X a ta) (hb : PE X b tb) : PE X (.BinOp a .Mult b pos) (tMul ta tb) := by
  intro pins s σ H Q I h
  refine wpAny_BinOp (bin ha hb I h fun v u s2 x y H2 I2 rx ry q => ?_)
  obtain ⟨i, j, rfl, rfl, ⟨q1, q2⟩, q⟩ := q
  obtain ⟨t, rfl⟩ := rx
  obtain ⟨t', rfl⟩ := ry
  exact mul_int ⟨.int _, H2, I2.tok _, ⟨_, rfl⟩, q⟩ (.of_left (intBits_le_64 q1 q2))

/-! ### comparisons -/
def PC (X : Cx) (op : CmpOp) (a b : Expr) (t : TE) : Prop :=
  ∀ (pins : List (Addr × Obj)) (s : Shared) (σ : St) (H : Hp) (Q : VK), Inv X pins σ H s → t σ H Q →
    wpAny (model X.prog X.w) X.A (eval a X.env) (fun v s₁ => wpAny (model X.prog X.w) X.A (eval b X.env) (fun u s₂ => wpAny (model X.prog X.w) X.A (compareOp op v u) (EP X pins σ Q) X.xe s₂) X.xe s₁) X.xe s
theorem nobehind (b : Expr) {op : CmpOp} (h : op ≠ .In) (h2 : op ≠ .NotIn) : behindInMarks op b = false := by
  have e1 : (op == CmpOp.In) = false := by cases op <;> first | rfl | exact absurd rfl h
  have e2 : (op == CmpOp.NotIn) = false := by cases op <;> first | rfl | exact absurd rfl h2
  cases b <;> simp [behindInMarks, e1, e2]
def tCmp (p : Int → Int → Bool) (ta tb : TE) : TE := fun σ H Q => t2I ta tb (fun i j H2 => Q (.bl (p i j)) H2) σ H
abbrev tLt : TE → TE → TE := tCmp fun i j => decide (i < j)
abbrev tLe : TE → TE → TE := tCmp fun i j => decide (i ≤ j)
abbrev tGt : TE → TE → TE := tCmp fun i j => decide (j < i)
abbrev tGe : TE → TE → TE := tCmp fun i j => decide (j ≤ i)
abbrev tEqI : TE → TE → TE := tCmp fun i j => decide (i = j)
abbrev tNeI : TE → TE → TE := tCmp fun i j => !decide (i = j)
/-- a comparison of two ints, by its rule -/
theorem pc_int {op : CmpOp} {p : Int → Int → Bool} (ha : PE X a ta) (hb : PE X b tb)
    (rule : ∀ (i j : Int) (t u : Tok) (Q : Value → Shared → Prop) (s : Shared), Q (.bool (p i j)) s → wpAny (model X.prog X.w) X.A (compareOp op (.int i t) (.int j u)) Q X.xe s) : PC X op a b (tCmp p ta tb) := by
  intro pins s σ H Q I h
  refine bin ha hb I h fun v u s2 x y H2 I2 rx ry q => ?_
  obtain ⟨i, j, rfl, rfl, q⟩ := q
  obtain ⟨t, rfl⟩ := rx
  obtain ⟨t', rfl⟩ := ry
  exact rule i j t t' _ s2 ⟨.bl _, H2, I2, rfl, q⟩
theorem pc_lt (ha : PE X a ta) (hb : PE X b tb) : PC X .Lt a b (tLt ta tb) := pc_int ha hb fun _ _ _ _ _ _ h => lt_int h
theorem pc_le (ha : PE X a ta) (hb : PE X b tb) : PC X .LtE a b (tLe ta tb) := pc_int ha hb fun _ _ _ _ _ _ h => le_int h
theorem pc_gt (ha : PE X a ta) (hb : PE X b tb) : PC X .Gt a b (tGt ta tb) := pc_int ha hb fun _ _ _ _ _ _ h => gt_int h
theorem pc_ge (ha : PE X a ta) (hb : PE X b tb) : PC X .GtE a b (tGe ta tb) := pc_int ha hb fun _ _ _ _ _ _ h => ge_int h
theorem pc_eqI (ha : PE X a ta) (hb : PE X b tb) : PC X .Eq a b (tEqI ta tb) := pc_int ha hb fun _ _ _ _ _ _ h => eq_int (by rw [Bool.beq_eq_decide_eq]; exact h)
theorem pc_neI (ha : PE X a ta) (hb : PE X b tb) : PC X .NotEq a b (tNeI ta tb) := pc_int ha hb fun _ _ _ _ _ _ h => ne_int (by rw [bne, Bool.beq_eq_decide_eq]; exact h)
/-- is None -/
def tIsN (ta : TE) : TE := fun σ H Q => ta σ H fun x H1 => Q (.bl (decide (x = .non))) H1
def tNotN (ta : TE) : TE := fun σ H Q => ta σ H fun x H1 => Q (.bl (!decide (x = .non))) H1
theorem RelV.none_iff {x : V} {v : Value} (r : RelV x v) : (v == Value.none) = decide (x = .non) := by
  cases x with
  | non => cases r; rfl
  | bl _ => cases r; rfl
  | int _ => obtain ⟨t, rfl⟩ := r; rfl
  | str _ => obtain ⟨t, rfl⟩ := r; rfl
  | byt _ => obtain ⟨t, rfl⟩ := r; rfl
  | flt _ => obtain ⟨t, rfl⟩ := r; rfl
  | ref _ => cases r; rfl
  | ty _ => cases r; rfl
theorem pc_isN {j pos'} (ha : PE X a ta) : PC X .Is a (.Constant .none j pos') (tIsN ta) := by
  intro pins s σ H Q I h
  refine thn (ha pins s σ H _ I h) fun v s1 ⟨x, H1, I1, r1, q1⟩ => ?_
  exact Constant_none (is_none_gen ⟨.bl _, H1, I1, by rw [r1.none_iff]; rfl, q1⟩)
theorem pc_notN {j pos'} (ha : PE X a ta) : PC X .IsNot a (.Constant .none j pos') (tNotN ta) := by
  intro pins s σ H Q I h
  refine thn (ha pins s σ H _ I h) fun v s1 ⟨x, H1, I1, r1, q1⟩ => ?_
  exact Constant_none (isnot_none_gen ⟨.bl _, H1, I1, by rw [r1.none_iff]; rfl, q1⟩)
/-- a comparison as a value, as a test -/
def tB (t : TE) : TT := fun σ H Q => t σ H fun x H1 => ∃ c, x = .bl c ∧ Q c H1
theorem pe_cmp {op : CmpOp} {t : TE} (h : PC X op a b t) (h1 : behindInMarks op b = false := by first | exact nobehind _ (by decide) (by decide) | rfl) : PE X (.Compare a [op] [b] pos) t := fun pins s σ H Q I hw => wpAny_Compare1 (h pins s σ H Q I hw) h1
theorem pt_cmp {op : CmpOp} {t : TE} (h : PC X op a b t) (h1 : behindInMarks op b = false := by first | exact nobehind _ (by decide) (by decide) | rfl) : PT X (.Compare a [op] [b] pos) (tB t) := by
  intro pins s σ H Q I hw
  refine wpAny_isTrue_Compare1 (thn (h pins s σ H _ I hw) fun v s1 h1 => thn h1 fun u s2 h2 => thn h2 fun c s3 ⟨x, H1, I1, r1, q1⟩ => ?_) h1
  obtain ⟨d, rfl, q⟩ := q1
  cases r1
  exact wpAny_truthy_bool ⟨H1, I1, q⟩
/-- an expression whose value is a bool, as a test -/
theorem pt_val {e : Expr} {t : TE} (h : PE X e t) (he : ∀ whole, isTrue e X.env whole = (do let v ← whole; standAt e.pos; holding [v] (truthy v)) := by intro _; rfl) : PT X e (tB t) := by
  intro pins s σ H Q I hw
  refine isTrue_plain (thn (h pins s σ H _ I hw) fun v s1 ⟨x, H1, I1, r1, q1⟩ => ?_) (he _)
  obtain ⟨d, rfl, q⟩ := q1
  cases r1
  exact wpAny_truthy_bool ⟨H1, I1, q⟩

/-! ### and, or, not -/
variable {tA tB' : TT} {rest : List Expr}
def tAnd (t u : TT) : TT := fun σ H Q => t σ H fun c H1 => if c = true then u σ H1 Q else Q false H1
def tOr (t u : TT) : TT := fun σ H Q => t σ H fun c H1 => if c = true then Q true H1 else u σ H1 Q
def tNot (t : TT) : TT := fun σ H Q => t σ H fun c H1 => Q (!c) H1
theorem pw_and1 (ha : PT X a tA) : PW X (.BoolOp .And [a] pos) tA := by
  intro wh pins s σ H Q I h
  refine isTrue_and (thn (ha pins s σ H Q I h) fun c s1 e => ?_)
  cases c with
  | true => exact isTrue_and_nil e
  | false => exact e
theorem pw_or1 (ha : PT X a tA) : PW X (.BoolOp .Or [a] pos) tA := by
  intro wh pins s σ H Q I h
  refine isTrue_or (thn (ha pins s σ H Q I h) fun c s1 e => ?_)
  cases c with
  | false => exact isTrue_or_nil e
  | true => exact e
theorem pw_and (ha : PT X a tA) (hb : PW X (.BoolOp .And (b :: rest) pos) tB') : PW X (.BoolOp .And (a :: b :: rest) pos) (tAnd tA tB') := by
  intro wh pins s σ H Q I h
  refine isTrue_and (thn (ha pins s σ H _ I h) fun c s1 ⟨H1, I1, q1⟩ => ?_)
  cases c with
  | true => exact hb wh pins s1 σ H1 Q I1 q1
  | false => exact ⟨H1, I1, q1⟩
theorem pw_or (ha : PT X a tA) (hb : PW X (.BoolOp .Or (b :: rest) pos) tB') : PW X (.BoolOp .Or (a :: b :: rest) pos) (tOr tA tB') := by
  intro wh pins s σ H Q I h
  refine isTrue_or (thn (ha pins s σ H _ I h) fun c s1 ⟨H1, I1, q1⟩ => ?_)
  cases c with
  | true => exact ⟨H1, I1, q1⟩
  | false => exact hb wh pins s1 σ H1 Q I1 q1
theorem pt_not (ha : PT X a tA) : PT X (.UnaryOp .Not a pos) (tNot tA) := by
  intro pins s σ H Q I h
  exact isTrue_not (ha pins s σ H (fun c H1 => Q (!c) H1) I h)
/-- .. as values (bools) -/
def tAndV (ta tb : TE) : TE := fun σ H Q => ta σ H fun x H1 => ∃ c, x = .bl c ∧ if c = true then tb σ H1 Q else Q (.bl false) H1
def tOrV (ta tb : TE) : TE := fun σ H Q => ta σ H fun x H1 => ∃ c, x = .bl c ∧ if c = true then Q (.bl true) H1 else tb σ H1 Q
def tNotV (ta : TE) : TE := fun σ H Q => ta σ H fun x H1 => ∃ c, x = .bl c ∧ Q (.bl (!c)) H1
theorem pe_one {op} {t : TE} (h : PE X a t) : PE X (.BoolOp op [a] pos) t := fun pins s σ H Q I hw => BoolOp_one (h pins s σ H Q I hw)
theorem pe_and (ha : PE X a ta) (hb : PE X (.BoolOp .And (b :: rest) pos) tb) : PE X (.BoolOp .And (a :: b :: rest) pos) (tAndV ta tb) := by
  intro pins s σ H Q I h
  refine BoolOp_and (thn (ha pins s σ H _ I h) fun v s1 ⟨x, H1, I1, r1, q1⟩ => ?_)
  obtain ⟨c, rfl, q1⟩ := q1
  cases r1
  refine wpAny_truthy_bool ?_
  cases c with
  | true => exact hb pins s1 σ H1 Q I1 q1
  | false => exact ⟨.bl false, H1, I1, rfl, q1⟩
theorem pe_or (ha : PE X a ta) (hb : PE X (.BoolOp .Or (b :: rest) pos) tb) : PE X (.BoolOp .Or (a :: b :: rest) pos) (tOrV ta tb) := by
  intro pins s σ H Q I h
  refine BoolOp_or (thn (ha pins s σ H _ I h) fun v s1 ⟨x, H1, I1, r1, q1⟩ => ?_)
  obtain ⟨c, rfl, q1⟩ := q1
  cases r1
  refine wpAny_truthy_bool ?_
  cases c with
  | false => exact hb pins s1 σ H1 Q I1 q1
  | true => exact ⟨.bl true, H1, I1, rfl, q1⟩
theorem pe_not (ha : PE X a ta) : PE X (.UnaryOp .Not a pos) (tNotV ta) := by
  intro pins s σ H Q I h
  refine UnaryOp_ (thn (ha pins s σ H _ I h) fun v s1 ⟨x, H1, I1, r1, q1⟩ => ?_)
  obtain ⟨c, rfl, q1⟩ := q1
  cases r1
  exact not_of (wpAny_truthy_bool ⟨.bl (!c), H1, I1, rfl, q1⟩)
/-- a if t else b -/
def tIf (t : TT) (ta tb : TE) : TE := fun σ H Q => t σ H fun c H1 => if c = true then ta σ H1 Q else tb σ H1 Q
theorem pe_ifExp {c : Expr} (hc : PT X c tA) (ha : PE X a ta) (hb : PE X b tb) : PE X (.IfExp c a b pos) (tIf tA ta tb) := by
  intro pins s σ H Q I h
  refine wpAny_IfExp (thn (hc pins s σ H _ I h) fun d s1 ⟨H1, I1, q1⟩ => ?_)
  cases d with
  | true => exact ha pins s1 σ H1 Q I1 q1
  | false => exact hb pins s1 σ H1 Q I1 q1
end
end L2

namespace L2
open PySem PySem.Spec PyProof.Rows

/-! ### a list, a tuple that is read: tracked, frozen, or an object of the module -/
def SqL (K : PySem.W.Frag) (H : Hp) (a : Addr) (xs : List V) : Prop :=
  Rd H a (.lst xs) ∨
    ∃ (o : Obj) (its : Array Value) (n : Nat), K.lookup a = some o ∧ o.cls = .type "list" ∧ o.dict = none ∧ o.data = .seq its n ∧ its.size ≤ sizeLine ∧ Vals xs its.toList
def SqT (K : PySem.W.Frag) (H : Hp) (a : Addr) (xs : List V) : Prop :=
  Rd H a (.tup xs) ∨
    ∃ (o : Obj) (its : Array Value) (n : Nat), K.lookup a = some o ∧ o.cls = .type "tuple" ∧ o.data = .seq its n ∧ its.size ≤ sizeLine ∧ Vals xs its.toList
def absV : Value → Option V
  | .none => some .non
  | .bool b => some (.bl b)
  | .int i _ => some (.int i)
  | .str x _ => some (.str x)
  | .bytes b _ => some (.byt b)
  | .float b _ => some (.flt b)
  | .ref a => some (.ref a)
  | .type n => some (.ty n)
  | _ => none
theorem RelV.abs {x : V} {u : Value} (r : RelV x u) : absV u = some x := by
  cases x with
  | non => cases r; rfl
  | bl _ => cases r; rfl
  | int _ => obtain ⟨t, rfl⟩ := r; rfl
  | str _ => obtain ⟨t, rfl⟩ := r; rfl
  | byt _ => obtain ⟨t, rfl⟩ := r; rfl
  | flt _ => obtain ⟨t, rfl⟩ := r; rfl
  | ref _ => cases r; rfl
  | ty _ => cases r; rfl
theorem RelV.inj {x y : V} {u : Value} (r : RelV x u) (q : RelV y u) : x = y := Option.some.inj (r.abs.symm.trans q.abs)
theorem Vals.inj : ∀ {xs ys : List V} {us : List Value}, Vals xs us → Vals ys us → xs = ys
  | _, _, _, .nil, .nil => rfl
  | _, _, _, .cons r t, .cons r' t' => by rw [r.inj r', Vals.inj t t']
section
variable {X : Cx} {pins : List (Addr × Obj)} {σ : St} {H : Hp} {s : Shared} {a : Addr} {xs ys : List V}
theorem SqL.of {K : PySem.W.Frag} (h : H a = some (.lst xs)) : SqL K H a xs := .inl (.inl h)
theorem SqT.of {K : PySem.W.Frag} (h : H a = some (.tup xs)) : SqT K H a xs := .inl (.inl h)
theorem Inv.list (I : Inv X pins σ H s) (h : SqL X.K H a xs) : ∃ its : List Value, Vals xs its ∧ PlainL s.heap a its.toArray ∧ xs.length ≤ sizeLine := by
  rcases h with h | ⟨o, its, n, hk, hc, hd, hs, hz, r⟩
  · obtain ⟨z, its, n, r, e⟩ := h.ok I.hok
    exact ⟨its, r, ⟨_, n, e, rfl, rfl, rfl⟩, z⟩
  · refine ⟨its.toList, r, ⟨o, n, I.kIn a o hk, hc, hd, by simpa using hs⟩, ?_⟩
    have e := r.length
    simp only [Array.length_toList] at e
    omega
theorem Inv.tuple (I : Inv X pins σ H s) (h : SqT X.K H a xs) : ∃ its : List Value, Vals xs its ∧ IsTup s.heap a its.toArray ∧ xs.length ≤ sizeLine := by
  rcases h with h | ⟨o, its, n, hk, hc, hs, hz, r⟩
  · obtain ⟨z, its, r, p⟩ := h.ok I.hok
    exact ⟨its, r, p, z⟩
  · refine ⟨its.toList, r, ⟨o, I.kIn a o hk, hc, n, by simpa using hs⟩, ?_⟩
    have e := r.length
    simp only [Array.length_toList] at e
    omega
theorem Inv.list_inj (I : Inv X pins σ H s) (h : SqL X.K H a xs) (h' : SqL X.K H a ys) : xs = ys := by
  obtain ⟨its, r, ⟨o, n, e, _, _, d⟩, _⟩ := I.list h
  obtain ⟨its', r', ⟨o', n', e', _, _, d'⟩, _⟩ := I.list h'
  rw [e] at e'; cases e'
  rw [d] at d'
  injection d' with d1 _
  have : its = its' := by simpa using congrArg Array.toList d1
  subst this
  exact r.inj r'
theorem Inv.tuple_inj (I : Inv X pins σ H s) (h : SqT X.K H a xs) (h' : SqT X.K H a ys) : xs = ys := by
  obtain ⟨its, r, ⟨o, e, _, n, d⟩, _⟩ := I.tuple h
  obtain ⟨its', r', ⟨o', e', _, n', d'⟩, _⟩ := I.tuple h'
  rw [e] at e'; cases e'
  rw [d] at d'
  injection d' with d1 _
  have : its = its' := by simpa using congrArg Array.toList d1
  subst this
  exact r.inj r'
end

/-! ### another wish about exceptions -/
abbrev Cx.wish (X : Cx) (E : Value → Shared → Prop) : Cx := { X with xe := E }
/-- no exception leaves -/
abbrev Cx.nox (X : Cx) : Cx := X.wish fun _ _ => False
theorem Cx.Ok.wish {X : Cx} (ok : X.Ok) (E : Value → Shared → Prop) : (X.wish E).Ok :=
  ⟨ok.mod, ok.kind, ok.glob, ok.blt, ok.above, ok.inj, ok.has, ok.cab, ok.hd, ok.frames, ok.stk, ok.exf, ok.bs, ok.bsz, ok.noex, ok.exfs, ok.funs, ok.frf⟩
theorem Cx.Ok.unwish {X : Cx} {E : Value → Shared → Prop} (ok : (X.wish E).Ok) : X.Ok :=
  ⟨ok.mod, ok.kind, ok.glob, ok.blt, ok.above, ok.inj, ok.has, ok.cab, ok.hd, ok.frames, ok.stk, ok.exf, ok.bs, ok.bsz, ok.noex, ok.exfs, ok.funs, ok.frf⟩
section
variable {X : Cx} {pins : List (Addr × Obj)} {σ : St} {H : Hp} {s : Shared} {E : Value → Shared → Prop}
theorem Inv.wish (I : Inv X pins σ H s) (E : Value → Shared → Prop) : Inv (X.wish E) pins σ H s := ⟨I.ok.wish E, I.os, I.bare, I.base, I.loc, I.cell, I.free, I.freeC, I.pin, I.hok, I.len⟩
theorem Inv.unwish (I : Inv (X.wish E) pins σ H s) : Inv X pins σ H s := ⟨I.ok.unwish, I.os, I.bare, I.base, I.loc, I.cell, I.free, I.freeC, I.pin, I.hok, I.len⟩
theorem SP.unwish {D : Ends} {f : Flow} {s' : Shared} (h : SP (X.wish E) pins D f s') : SP X pins D f s' := by
  cases f with
  | next => obtain ⟨σ', H', I, q⟩ := h; exact ⟨σ', H', I.unwish, q⟩
  | brk => obtain ⟨σ', H', I, q⟩ := h; exact ⟨σ', H', I.unwish, q⟩
  | cont => obtain ⟨σ', H', I, q⟩ := h; exact ⟨σ', H', I.unwish, q⟩
  | ret u => obtain ⟨v, σ', H', I, r, q⟩ := h; exact ⟨v, σ', H', I.unwish, r, q⟩
theorem PE.nox {e : Expr} {t : TE} (h : PE X.nox e t) : PE X e t := fun pins s σ H Q I hw =>
  wpAny_mono (h pins s σ H Q (I.wish _) hw) (fun _ _ ⟨v, H', I', r, q⟩ => ⟨v, H', I'.unwish, r, q⟩) fun _ _ z => False.elim z
theorem PT.nox {e : Expr} {t : TT} (h : PT X.nox e t) : PT X e t := fun pins s σ H Q I hw =>
  wpAny_mono (h pins s σ H Q (I.wish _) hw) (fun _ _ ⟨H', I', q⟩ => ⟨H', I'.unwish, q⟩) fun _ _ z => False.elim z
theorem PSs.nox {st : List Stmt} {t : TS} (h : PSs X.nox st t) : PSs X st t := fun pins s σ H D I hw =>
  wpAny_mono (h pins s σ H D (I.wish _) hw) (fun _ _ q => q.unwish) fun _ _ z => False.elim z
end

/-! ### blocks and small statements -/
section
variable {X : Cx} {st : Stmt} {rest : List Stmt} {t u : TS} {e : Expr} {te : TE} {pos : Pos}
def tNext : TS := fun D σ H => D.nx σ H
def tSeq (t u : TS) : TS := fun D σ H => t { D with nx := u D } σ H
theorem pss_nil : PSs X [] tNext := fun _ _ σ H _ I h => wpAny_execs_nil ⟨σ, H, I, h⟩
theorem pss_cons (h1 : PS X st t) (h2 : PSs X rest u) : PSs X (st :: rest) (tSeq t u) := by
  intro pins s σ H D I h
  refine wpAny_execs_cons (thn (h1 pins s σ H { D with nx := u D } I h) fun f s1 q => ?_)
  cases f with
  | next =>
    obtain ⟨σ', H', I', q⟩ := q
    exact h2 pins s1 σ' H' D I' q
  | ret v => exact q
  | brk => exact q
  | cont => exact q
theorem pss_one (h1 : PS X st t) : PSs X [st] t := by
  intro pins s σ H D I h
  refine wpAny_execs_cons (thn (h1 pins s σ H D I h) fun f s1 q => ?_)
  cases f with
  | next => exact wpAny_execs_nil q
  | ret v => exact q
  | brk => exact q
  | cont => exact q
def tBreak : TS := fun D σ H => D.bk σ H
def tCont : TS := fun D σ H => D.ct σ H
theorem ps_pass : PS X (.Pass pos) tNext := fun _ _ σ H _ I h => wpAny_Pass ⟨σ, H, I, h⟩
theorem ps_break : PS X (.Break pos) tBreak := fun _ _ σ H _ I h => wpAny_Break ⟨σ, H, I, h⟩
theorem ps_continue : PS X (.Continue pos) tCont := fun _ _ σ H _ I h => wpAny_Continue ⟨σ, H, I, h⟩
/-- in a def's body nothing is shown -/
theorem Inv.quiet {pins : List (Addr × Obj)} {σ : St} {H : Hp} {s : Shared} (I : Inv X pins σ H s) : interactive X.env = false := by simp [interactive, I.ok.kind]
/-- a docstring -/
theorem ps_doc {x j pos pos'} : PS X (.Expr (.Constant (.str x) j pos) pos') tNext := fun _ s σ H _ I h => wpAny_Expr (Calls.Constant_str (show SP X _ _ .next { s with toks := s.toks + 1 } from ⟨σ, H, I.tok _, h⟩)) I.quiet
/-- an expression whose value is dropped -/
def tDrop (te : TE) : TS := fun D σ H => te σ H fun _ H1 => D.nx σ H1
theorem ps_expr (he : PE X e te) (hs : swapsWith e none pos.line X.env = pure false := by rfl) : PS X (.Expr e pos) (tDrop te) := by
  intro pins s σ H D I h
  exact wpAny_Expr_any (thn (he pins s σ H _ I h) fun v s1 ⟨x, H1, I1, r1, q1⟩ => ⟨σ, H1, I1, q1⟩) I.quiet hs
def tRet (te : TE) : TS := fun D σ H => te σ H D.rt
theorem ps_ret (he : PE X e te) : PS X (.Return (some e) pos) (tRet te) := by
  intro pins s σ H D I h
  exact wpAny_Return_some (thn (he pins s σ H _ I h) fun v s1 ⟨x, H1, I1, r1, q1⟩ => ⟨x, σ, H1, I1, r1, q1⟩)
def tRetN : TS := fun D _ H => D.rt .non H
theorem ps_retN : PS X (.Return none pos) tRetN := fun _ _ σ H _ I h => wpAny_Return_none ⟨.non, σ, H, I, rfl, h⟩
def tIfS (c : TT) (t u : TS) : TS := fun D σ H => c σ H fun b H1 => if b = true then t D σ H1 else u D σ H1
theorem ps_if {c : Expr} {a b : List Stmt} {tc : TT} (hc : PT X c tc) (ha : PSs X a t) (hb : PSs X b u) : PS X (.If c a b pos) (tIfS tc t u) := by
  intro pins s σ H D I h
  refine wpAny_If (thn (hc pins s σ H _ I h) fun d s1 ⟨H1, I1, q1⟩ => ?_)
  cases d with
  | true => exact ha pins s1 σ H1 D I1 q1
  | false => exact hb pins s1 σ H1 D I1 q1
/-- code that the proof never comes to -/
def tNever : TS := fun _ _ _ => False
theorem ps_never : PS X st tNever := fun _ _ _ _ _ _ h => h.elim
theorem pss_never {sts : List Stmt} : PSs X sts tNever := fun _ _ _ _ _ _ h => h.elim
end

/-! ### targets -/
abbrev TG := V → St → Hp → (St → Hp → Prop) → Prop
abbrev TGs := List V → St → Hp → (St → Hp → Prop) → Prop
def PG (X : Cx) (target : Expr) (t : TG) : Prop :=
  ∀ (pins : List (Addr × Obj)) (s : Shared) (σ : St) (H : Hp) (v : V) (u : Value) (Q : St → Hp → Prop), Inv X pins σ H s → RelV v u → t v σ H Q →
    wpAny (model X.prog X.w) X.A (assign target X.env u) (fun _ s' => ∃ σ' H', Inv X pins σ' H' s' ∧ Q σ' H') X.xe s
/-- several targets, one after another -/
def PGs (X : Cx) (ts : List Expr) (t : TGs) : Prop :=
  ∀ (pins : List (Addr × Obj)) (s : Shared) (σ : St) (H : Hp) (vs : List V) (us : List Value) (Q : St → Hp → Prop), Inv X pins σ H s → Vals vs us → t vs σ H Q →
    wpAny (model X.prog X.w) X.A (assignInOrder ((assignEach ts X.env).map (·.2)) us) (fun _ s' => ∃ σ' H', Inv X pins σ' H' s' ∧ Q σ' H') X.xe s
/-- o[i] = v, by values -/
abbrev TSet := V → V → V → Hp → (Hp → Prop) → Prop
def PSet (X : Cx) (t : TSet) : Prop :=
  ∀ (pins : List (Addr × Obj)) (s : Shared) (σ : St) (H : Hp) (o i v : V) (ov iv u : Value) (Q : Hp → Prop), Inv X pins σ H s → RelV o ov → RelV i iv → RelV v u → t o i v H Q →
    wpAny (model X.prog X.w) X.A (setItem ov iv u) (fun _ s' => ∃ H', Inv X pins σ H' s' ∧ Q H') X.xe s
/-- a op= b, by values -/
abbrev TIp := V → V → Hp → VK → Prop
def PIp (X : Cx) (op : Operator) (t : TIp) : Prop :=
  ∀ (pins : List (Addr × Obj)) (s : Shared) (σ : St) (H : Hp) (x y : V) (v u : Value) (Q : VK), Inv X pins σ H s → RelV x v → RelV y u → t x y H Q →
    wpAny (model X.prog X.w) X.A (inplaceOp op v u) (EP X pins σ Q) X.xe s
section
variable {X : Cx} {pos : Pos}
def gName (i : Nat) : TG := fun v σ H Q => Q (σ.set i (some v)) H
theorem pg_name {i : Nat} {x : Str} (hN : X.N.Nodup) (hi : X.N[i]? = some x) (hx : Loc X.env.scope x) (hf : X.fn x = true ∨ X.env.scope.names.lookup x = some .local := by first | exact .inl rfl | exact .inr rfl | assumption) : PG X (.Name x pos) (gName i) := by
  intro pins s σ H v u Q I r h
  exact wpAny_assign_Name (store_ok I hN hi hx r (fun s' I' => ⟨_, H, I', h⟩) hf)
def gNil : TGs := fun vs σ H Q => vs = [] ∧ Q σ H
def gCons (t : TG) (u : TGs) : TGs := fun vs σ H Q => ∃ v r, vs = v :: r ∧ t v σ H fun σ' H' => u r σ' H' Q
theorem pgs_nil : PGs X [] gNil := by
  intro pins s σ H vs us Q I r h
  obtain ⟨e, h⟩ := h
  subst e
  cases r
  exact assignInOrder_nil ⟨σ, H, I, h⟩
theorem pgs_cons {e : Expr} {es : List Expr} {t : TG} {u : TGs} (h1 : PG X e t) (h2 : PGs X es u)
    (hs : (assignEach (e :: es) X.env).map (·.2) = assign e X.env :: (assignEach es X.env).map (·.2) := by rfl) : PGs X (e :: es) (gCons t u) := by
  intro pins s σ H vs us Q I r h
  obtain ⟨v, vr, e1, h⟩ := h
  subst e1
  cases r with
  | cons r rr =>
    rw [hs]
    refine assignInOrder_cons (thn (h1 pins s σ H _ _ _ I r h) fun _ s1 ⟨σ1, H1, I1, q1⟩ => ?_)
    exact h2 pins s1 σ1 H1 _ _ Q I1 rr q1
/-- (a, b, ..) = a tuple of that length -/
def gTup (K : PySem.W.Frag) (n : Nat) (t : TGs) : TG := fun v σ H Q => ∃ a xs, v = .ref a ∧ SqT K H a xs ∧ xs.length = n ∧ t xs σ H Q
theorem pg_tup {es : List Expr} {k : Nat} {t : TGs} {n : Nat} (hc : X.calm = true) (h : PGs X es t)
    (hn : (assignEach es X.env).length = n := by rfl) (hst : (assignEach es X.env).findIdx? (·.1) = none := by rfl) : PG X (.Tuple es k pos) (gTup X.K n t) := by
  intro pins s σ H v u Q I r hw
  obtain ⟨a, xs, e1, hq, hl, hw⟩ := hw
  subst e1
  cases r
  obtain ⟨its, rv, ht, hz⟩ := I.tuple hq
  refine assign_Tuple_tuple (I.ok.hd hc) ht (by simp [hn, ← hl, rv.length]) hst fun h' hx => ?_
  have I1 : Inv X pins σ H { s with heap := h' } := I.kept (t' := s.toks) fun b o e => hx b o (Nat.ne_of_lt (Heap.lt_size e)) e
  exact h pins _ σ H xs _ Q I1 (by simpa using rv) hw
/-- o[i] = .. -/
def gSub (to ti : TE) (t : TSet) : TG := fun v σ H Q => to σ H fun o H1 => ti σ H1 fun i H2 => t o i v H2 fun H3 => Q σ H3
theorem pg_sub {o i : Expr} {to ti : TE} {t : TSet} (ho : PE X o to) (hi : PE X i ti) (hs : PSet X t)
    (ha : ∀ v, assign (.Subscript o i pos) X.env v = (do
      let ov ← holding [v] (eval o X.env)
      let iv ← holding [v, ov] (eval i X.env)
      standAt pos
      holding [v, ov, iv] (setItem ov iv v)
      release [v, ov, iv] []) := by intro _; rfl) : PG X (.Subscript o i pos) (gSub to ti t) := by
  intro pins s σ H v u Q I r h
  rw [ha]
  refine wpAny_bind (wpAny_holding (thn (ho pins s σ H _ I h) fun ov s1 ⟨x, H1, I1, r1, q1⟩ => ?_))
  refine wpAny_bind (wpAny_holding (thn (hi pins s1 σ H1 _ I1 q1) fun iv s2 ⟨y, H2, I2, r2, q2⟩ => ?_))
  refine wpAny_bind (wpAny_standAt (wpAny_bind (wpAny_holding (thn (hs pins s2 σ H2 x y v ov iv u _ I2 r1 r2 r q2) fun _ s3 ⟨H3, I3, q3⟩ => ?_))))
  exact wpAny_release ⟨σ, H3, I3, q3⟩
/-- target = value -/
def tAsg (te : TE) (g : TG) : TS := fun D σ H => te σ H fun x H1 => g x σ H1 D.nx
theorem ps_asg {tg e : Expr} {te : TE} {g : TG} (he : PE X e te) (hg : PG X tg g) (hs : swapsWithSole [tg] e pos.line X.env = pure false := by rfl) (hw : swappedStores [tg] e X.env = pure none := by rfl)
    (h1 : (assignEach [tg] X.env).map (·.2) = [assign tg X.env] := by rfl) : PS X (.Assign [tg] e pos) (tAsg te g) := by
  intro pins s σ H D I h
  refine wpAny_Assign_stores (thn (he pins s σ H _ I h) fun v s1 ⟨x, H1, I1, r1, q1⟩ => ?_) hs hw
  rw [h1]
  exact thn (hg pins s1 σ H1 x v _ I1 r1 q1) fun _ s2 q => q
/-- name = value -/
theorem ps_set {i : Nat} {x : Str} {e : Expr} {te : TE} {pos' : Pos} (hN : X.N.Nodup) (hi : X.N[i]? = some x) (hx : Loc X.env.scope x) (he : PE X e te) (hs : swapsWith e (some (.Name x pos')) pos.line X.env = pure false := by rfl) (hf : X.fn x = true ∨ X.env.scope.names.lookup x = some .local := by first | exact .inl rfl | exact .inr rfl | assumption) :
    PS X (.Assign [.Name x pos'] e pos) (tAsg te (gName i)) := by
  intro pins s σ H D I h
  refine wpAny_Assign_Name (thn (he pins s σ H _ I h) fun v s1 ⟨y, H1, I1, r1, q1⟩ => ?_) hs
  exact store_ok I1 hN hi hx r1 (fun s2 I2 => ⟨_, H1, I2, q1⟩) hf
/-- a, b = x, y with plain local names: stored from the right; the pair itself is not tracked (the opening rows as in PyProof/Rows/TupAssign.lean:23) -/
def tPar (i j : Nat) (ta : TA) : TS := fun D σ H => ta σ H fun vs H1 => ∃ v w, vs = [v, w] ∧ D.nx ((σ.set i (some v)).set j (some w)) H1
theorem ps_par {i j : Nat} {x y : Str} {a b : Expr} {ta : TA} {px py pt : Pos} {kt k2 pt2} (hc : X.calm = true) (hN : X.N.Nodup) (hi : X.N[i]? = some x) (hj : X.N[j]? = some y) (hij : i ≠ j)
    (hx : X.env.scope.names.lookup x = some .local) (hy : X.env.scope.names.lookup y = some .local) (ha : PA X [a, b] ta)
    (hw : swappedStores [.Tuple [.Name x px, .Name y py] kt pt] (.Tuple [a, b] k2 pt2) X.env = pure (some [x, y]))
    (hs : swapsWithSole [.Tuple [.Name x px, .Name y py] kt pt] (.Tuple [a, b] k2 pt2) pos.line X.env = pure false := by rfl) :
    PS X (.Assign [.Tuple [.Name x px, .Name y py] kt pt] (.Tuple [a, b] k2 pt2) pos) (tPar i j ta) := by
  intro pins s σ H D I h
  rw [exec_Assign_arm]
  refine wpAny_bind (wpAny_standAt ?_)
  rw [hs]
  refine wpAny_bind (wpAny_pure ?_)
  rw [if_neg (by decide)]
  refine wpAny_bind (Tuple_ (thn (ha _ pins s σ H _ I h) fun us s1 ⟨vs, H1, I1, r1, q1⟩ => ?_))
  obtain ⟨v, w, e1, q1⟩ := q1
  subst e1
  obtain ⟨u1, u2, rfl, rv, rw'⟩ : ∃ u1 u2, us = [u1, u2] ∧ RelV v u1 ∧ RelV w u2 := by
    cases r1 with
    | cons p q =>
      cases q with
      | cons p' q' =>
        cases q'
        exact ⟨_, _, rfl, p, p'⟩
  refine wpAny_newObj_type ?_ (by show 2 ≤ sizeLine; decide)
  have I2 : Inv X pins σ H1 { s1 with heap := s1.heap.push { cls := .type "tuple", data := .seq [u1, u2].toArray } } := I1.kept (t' := s1.toks) fun b o e => Heap.get?_push_of_some _ e
  rw [hw]
  refine wpAny_bind (wpAny_pure ?_)
  show wpAny (model X.prog X.w) X.A (do rule "assign.swapped-stores"; let items ← unpackItems (.ref s1.heap.objs.size) 2 none; assignInOrder [fun v => bindName X.env y v, fun v => bindName X.env x v] items.reverse; pure Flow.next) _ _ _
  refine wpAny_bind (wpAny_rule (wpAny_bind (unpackItems_tuple (items := #[u1, u2]) (I.ok.hd hc) (IsTup.new s1.heap _) fun h' hx' => ?_)))
  have I3 := I2.kept (h' := h') (t' := s1.toks) fun b o e => hx' b o (Nat.ne_of_lt (Heap.lt_size e)) e
  show wpAny _ _ (assignInOrder [fun v => bindName X.env y v, fun v => bindName X.env x v] [u2, u1] >>= fun _ => pure Flow.next) _ _ _
  refine wpAny_bind (assignInOrder_cons (wpAny_bindName (store_ok I3 hN hj (.inl hy) rw' (fun s2 I4 => ?_) (.inr hy))))
  refine assignInOrder_cons (wpAny_bindName (store_ok I4 hN hi (.inl hx) rv (fun s3 I5 => assignInOrder_nil (wpAny_pure ?_)) (.inr hx)))
  rw [List.set_comm _ _ (Ne.symm hij)] at I5
  exact ⟨_, H1, I5, q1⟩
/-- name op= e -/
def tAug (i : Nat) (te : TE) (ti : TIp) : TS := fun D σ H => ∃ x, σ[i]? = some (some x) ∧ te σ H fun y H1 => ti x y H1 fun z H2 => D.nx (σ.set i (some z)) H2
theorem ps_aug {i : Nat} {x : Str} {e : Expr} {te : TE} {op : Operator} {ti : TIp} {pos' : Pos} (hN : X.N.Nodup) (hi : X.N[i]? = some x) (hx : Loc X.env.scope x) (he : PE X e te) (ho : PIp X op ti) (hf : X.fn x = true ∨ X.env.scope.names.lookup x = some .local := by first | exact .inl rfl | exact .inr rfl | assumption) :
    PS X (.AugAssign (.Name x pos') op e pos) (tAug i te ti) := by
  intro pins s σ H D I h
  obtain ⟨v, e1, h⟩ := h
  obtain ⟨m, hn, hl⟩ := I.loc
  have vis : Vis X.env.scope x := by rcases hx with k | k; exact .inl k; exact .inr (.inl k)
  obtain ⟨u, r, l⟩ := hl i x v hi e1 vis
  refine wpAny_AugAssign_Name ?_
  have go : wpAny (model X.prog X.w) X.A (eval e X.env) (fun w s₂ => wpAny (model X.prog X.w) X.A (inplaceOp op u w) (fun r s₃ => wpAny (model X.prog X.w) X.A (storeName X.env x r) (fun _ => SP X pins D .next) X.xe s₃) X.xe s₂) X.xe s := by
    refine thn (he pins s σ H _ I h) fun w s1 ⟨y, H1, I1, r1, q1⟩ => ?_
    refine thn (ho pins s1 σ H1 v y u w _ I1 r r1 q1) fun z s2 ⟨zv, H2, I2, r2, q2⟩ => ?_
    exact store_ok I2 hN hi hx r2 (fun s3 I3 => ⟨_, H2, I3, q2⟩) hf
  rcases l with ⟨hk, hm⟩ | ⟨hk, c, hc, hcell⟩
  · exact wpAny_loadName_local I.ok.kind hk hn hm go
  · rcases hk with hk | hk
    · exact wpAny_loadName_cell I.ok.kind hk hc hcell go
    · rcases hx with k | k
      · have : X.env.scope.names.lookup x = some .free := hk
        rw [k] at this; cases this
      · have : X.env.scope.names.lookup x = some .free := hk
        rw [k] at this; cases this
/-- o[i] op= e -/
def tAugS (to ti te : TE) (tget : V → V → Hp → VK → Prop) (tip : TIp) (tset : TSet) : TS := fun D σ H => to σ H fun o H1 => ti σ H1 fun i H2 => tget o i H2 fun x H3 => te σ H3 fun y H4 => tip x y H4 fun z H5 => tset o i z H5 fun H6 => D.nx σ H6
/-- o[i], by values -/
def PGet (X : Cx) (t : V → V → Hp → VK → Prop) : Prop :=
  ∀ (pins : List (Addr × Obj)) (s : Shared) (σ : St) (H : Hp) (o i : V) (ov iv : Value) (Q : VK), Inv X pins σ H s → RelV o ov → RelV i iv → t o i H Q →
    wpAny (model X.prog X.w) X.A (getItem ov iv) (EP X pins σ Q) X.xe s
theorem ps_augS {o i e : Expr} {to ti te : TE} {tget : V → V → Hp → VK → Prop} {tip : TIp} {tset : TSet} {op : Operator} {tpos : Pos} (ho : PE X o to) (hi : PE X i ti) (hg : PGet X tget) (he : PE X e te) (hp : PIp X op tip) (hs : PSet X tset)
    (ha : ∀ ov iv new, augStore i ov iv new = (do holding [new, ov, iv] (setItem ov iv new); release [new, ov, iv] []; pure .next) := by intros; rfl) : PS X (.AugAssign (.Subscript o i tpos) op e pos) (tAugS to ti te tget tip tset) := by
  intro pins s σ H D I h
  refine wpAny_AugAssign_SubscriptAny (thn (ho pins s σ H _ I h) fun ov s1 ⟨x1, H1, I1, r1, q1⟩ => ?_) ha
  refine thn (hi pins s1 σ H1 _ I1 q1) fun iv s2 ⟨x2, H2, I2, r2, q2⟩ => ?_
  refine thn (hg pins s2 σ H2 x1 x2 ov iv _ I2 r1 r2 q2) fun old s3 ⟨x3, H3, I3, r3, q3⟩ => ?_
  refine thn (he pins s3 σ H3 _ I3 q3) fun v s4 ⟨x4, H4, I4, r4, q4⟩ => ?_
  refine thn (hp pins s4 σ H4 x3 x4 old v _ I4 r3 r4 q4) fun new s5 ⟨x5, H5, I5, r5, q5⟩ => ?_
  exact thn (hs pins s5 σ H5 x1 x2 x5 ov iv new _ I5 r1 r2 r5 q5) fun _ s6 ⟨H6, I6, q6⟩ => ⟨σ, H6, I6, q6⟩
/-- ints -/
def ipI (f : Int → Int → Int) : TIp := fun x y H Q => ∃ i j, x = .int i ∧ y = .int j ∧ Q (.int (f i j)) H
theorem ip_add : PIp X .Add (ipI fun i j => i + j) := by
  intro pins s σ H x y v u Q I r1 r2 h
  obtain ⟨i, j, e1, e2, q⟩ := h
  subst e1; subst e2
  obtain ⟨t, rfl⟩ := r1
  obtain ⟨t', rfl⟩ := r2
  exact iadd_int ⟨.int _, H, I.tok _, ⟨_, rfl⟩, q⟩
theorem ip_sub : PIp X .Sub (ipI fun i j => i - j) := by
  intro pins s σ H x y v u Q I r1 r2 h
  obtain ⟨i, j, e1, e2, q⟩ := h
  subst e1; subst e2
  obtain ⟨t, rfl⟩ := r1
  obtain ⟨t', rfl⟩ := r2
  exact isub_int ⟨.int _, H, I.tok _, ⟨_, rfl⟩, q⟩
end

/-! ### while -/
section
variable {X : Cx} {pos : Pos}
/-- the invariant W with its measure -/
def tWhile (c : TT) (tb : TS) : TS := fun D σ H => ∃ W : Nat → St → Hp → Prop, (∃ m, W m σ H) ∧ ∀ m σ H, W m σ H →
  c σ H fun b H1 => if b = true then ∃ N : St → Hp → Prop, (∀ σ' H', N σ' H' → ∃ m', m' < m ∧ W m' σ' H') ∧ tb { D with nx := N, ct := N, bk := D.nx } σ H1 else D.nx σ H1
theorem ps_while {c : Expr} {body : List Stmt} {tc : TT} {tb : TS} (hp : PassesOwn (model X.prog X.w) X.A X.env X.xe) (hc : PT X c tc) (hb : PSs X body tb) : PS X (.While c body [] pos) (tWhile tc tb) := by
  intro pins s σ H D I h
  obtain ⟨W, ⟨m0, w0⟩, turn⟩ := h
  refine wpAny_While (codeAny_whileLoop (fun n s' => ∃ σ' H', Inv X pins σ' H' s' ∧ W n σ' H') ?_ m0 ⟨σ, H, I, w0⟩)
  rintro n s1 ⟨σ1, H1, I1, w1⟩
  refine wpAny_passesOwn hp (thn (hc pins s1 σ1 H1 _ I1 (turn n σ1 H1 w1)) fun b s2 ⟨H2, I2, q2⟩ => ?_)
  cases b with
  | true =>
    obtain ⟨N, hN, q2⟩ := q2
    rw [if_pos rfl]
    refine wpAny_passesOwn hp (thn (hb pins s2 σ1 H2 _ I2 q2) fun f s3 q3 => ?_)
    cases f with
    | next =>
      obtain ⟨σ3, H3, I3, n3⟩ := q3
      obtain ⟨m', hm, w3⟩ := hN σ3 H3 n3
      exact ⟨m', hm, σ3, H3, I3, w3⟩
    | cont =>
      obtain ⟨σ3, H3, I3, n3⟩ := q3
      obtain ⟨m', hm, w3⟩ := hN σ3 H3 n3
      exact ⟨m', hm, σ3, H3, I3, w3⟩
    | brk => exact q3
    | ret v => exact q3
  | false =>
    rw [if_neg Bool.false_ne_true]
    exact wpAny_execs_nil ⟨σ1, H2, I2, q2⟩
end

/-! ### what a loop or a comprehension walks -/
/-- at turn i: it yields x (the heap may grow), or it stops -/
structure It where
  go : Nat → Hp → Prop
  yld : Nat → Hp → V → Hp → Prop
  stop : Nat → Hp → Prop
/-- the iterator's own objects may turn: they are not the frame's, not pinned, younger than the entry (or a comprehension's own) -/
def FpOk (X : Cx) (pins : List (Addr × Obj)) (H : Hp) (b : Addr) : Prop :=
  H b = none ∧ b ≠ X.env.locals ∧ b ∉ X.fs ∧ (b ∈ X.ex ∨ X.s₀.heap.objs.size ≤ b) ∧ (∀ x c, X.env.cells.lookup x = some c → c ≠ b) ∧ ∀ p ∈ X.pn ++ pins, p.1 ≠ b
theorem Inv.fpOk {X : Cx} {pins : List (Addr × Obj)} {σ : St} {H H' : Hp} {s : Shared} {b : Addr} (I : Inv X pins σ H s) (hb : s.heap.objs.size ≤ b) (hn : H' b = none) : FpOk X pins H' b := by
  refine ⟨hn, Nat.ne_of_gt (Nat.lt_of_lt_of_le I.lt hb), I.nofs hb, .inr (Nat.le_trans I.sz hb), fun x c e z => ?_, fun p hp z => ?_⟩
  · obtain ⟨v, q⟩ := I.cell x c e
    exact absurd (Nat.lt_of_lt_of_le q.lt (by rw [z]; exact hb)) (Nat.lt_irrefl _)
  · exact absurd (Nat.lt_of_lt_of_le (Heap.lt_size (I.pin p hp).1) (by rw [z]; exact hb)) (Nat.lt_irrefl _)
structure Turn (P : Program) (w : World) (K : PySem.W.Frag) (tg : Expr) (J : It) (fp : List Addr) (it : Addr) (tn : Nat → Heap → Prop) : Prop where
  mem : it ∈ fp
  obj : ∀ i h, tn i h → ∀ b ∈ fp, ∃ o, h.get? b = some o ∧ ∀ v, o.data ≠ .cell v
  keep : ∀ i h h', tn i h → (∀ b ∈ fp, ∀ o, h.get? b = some o → h'.get? b = some o) → tn i h'
  item : ∀ (X : Cx), X.prog = P → X.w = w → X.K = K → X.calm = true → ∀ (i : Nat) (pins : List (Addr × Obj)) (s : Shared) (σ : St) (H : Hp) (E : Value → Shared → Prop), Inv X pins σ H s → (∀ b ∈ fp, FpOk X pins H b) → tn i s.heap → J.go i H →
    wpAny (model P w) X.A (pyNext (.ref it)) (fun r s1 => ∃ u, r = some u ∧
      wpAny (model P w) X.A (letOwnedTupleGo tg (.ref it) u) (fun _ s2 => ∃ x H', Inv X pins σ H' s2 ∧ RelV x u ∧ J.yld i H x H' ∧ tn (i + 1) s2.heap ∧ ∀ b ∈ fp, H' b = none) E s1) E s
  done : ∀ (X : Cx), X.prog = P → X.w = w → X.K = K → X.calm = true → ∀ (i : Nat) (pins : List (Addr × Obj)) (s : Shared) (σ : St) (H : Hp) (E : Value → Shared → Prop), Inv X pins σ H s → (∀ b ∈ fp, FpOk X pins H b) → tn i s.heap → J.stop i H →
    wpAny (model P w) X.A (pyNext (.ref it)) (fun r s1 => r = none ∧ Inv X pins σ H s1) E s
  self : ∀ (A : Around) (i : Nat) (s : Shared) (Q : Value → Shared → Prop) (E : Value → Shared → Prop), tn i s.heap → Q (.ref it) s → wpAny (model P w) A (pyIter (.ref it)) Q E s
abbrev TI := St → Hp → (It → Hp → Prop) → Prop
/-- an iterator has come -/
def PIE (X : Cx) (pins : List (Addr × Obj)) (σ : St) (tg : Expr) (R : It → Hp → Prop) (itv : Value) (s2 : Shared) : Prop :=
  ∃ (it : Addr) (fp : List Addr) (tn : Nat → Heap → Prop) (J : It) (H' : Hp), itv = .ref it ∧ Inv X pins σ H' s2 ∧ Turn X.prog X.w X.K tg J fp it tn ∧ tn 0 s2.heap ∧ (∀ b ∈ fp, FpOk X pins H' b) ∧ R J H'
def PI (X : Cx) (tg iter : Expr) (wi : TI) : Prop :=
  ∀ (pins : List (Addr × Obj)) (s : Shared) (σ : St) (H : Hp) (R : It → Hp → Prop), Inv X pins σ H s → wi σ H R →
    wpAny (model X.prog X.w) X.A (eval iter X.env) (fun v s1 => wpAny (model X.prog X.w) X.A (pyIter v) (PIE X pins σ tg R) X.xe s1) X.xe s

/-- the step ahead of the store is nothing for an iterator that keeps no tuple -/
theorem go_of {M : Model} {A : Around} {E : Value → Shared → Prop} {s : Shared} {tg : Expr} {it : Addr} {u : Value} {o : Obj} {n : String} {vs : Array Value} {Q : Unit → Shared → Prop} (ho : s.heap.get? it = some o) (hc : o.cls = .type n) (hd : o.data = .fields vs)
    (hn : ["enumerate", "zip", "dict_itemiterator", "dict_reverseitemiterator", "odict_iterator", "itertools.zip_longest", "itertools.pairwise"].contains n = false) (hQ : Q () s) : wpAny M A (letOwnedTupleGo tg (.ref it) u) Q E s := by
  unfold letOwnedTupleGo
  cases tg <;> first
    | exact wpAny_pure hQ
    | (cases u <;> first
        | exact wpAny_pure hQ
        | (refine wpAny_bind (wpAny_load ho ?_)
           rw [hc, hd]
           show wpAny M A (if (["enumerate", "zip", "dict_itemiterator", "dict_reverseitemiterator", "odict_iterator", "itertools.zip_longest", "itertools.pairwise"].contains n && vs[0]? == some (rawInt _)) = true then _ else _) Q E s
           rw [if_neg (by intro h; rw [hn, Bool.false_and] at h; cases h)]
           exact wpAny_pure hQ))

/-- the list at a, as it stands at each turn (a loop may append to it) -/
def Itl (K : PySem.W.Frag) (a : Addr) : It :=
  ⟨fun i H => ∃ xs x, SqL K H a xs ∧ xs[i]? = some x, fun i H x H' => H' = H ∧ ∀ xs, SqL K H a xs → xs[i]? = some x, fun i H => ∃ xs, SqL K H a xs ∧ xs.length ≤ i⟩
def Itt (K : PySem.W.Frag) (a : Addr) : It :=
  ⟨fun i H => ∃ xs x, SqT K H a xs ∧ xs[i]? = some x, fun i H x H' => H' = H ∧ ∀ xs, SqT K H a xs → xs[i]? = some x, fun i H => ∃ xs, SqT K H a xs ∧ xs.length ≤ i⟩
/-- lo, lo + 1, .. (n of them) -/
def Itr (lo : Int) (n : Nat) : It := ⟨fun i _ => i < n, fun i H x H' => H' = H ∧ x = .int (lo + i), fun i _ => n ≤ i⟩
theorem turn_list {P : Program} {w : World} {K : PySem.W.Frag} {tg : Expr} (a it : Addr) : Turn P w K tg (Itl K a) [it] it (fun i h => h.IsListIter it a i) where
  mem := by simp
  obj := fun i h st b hb => by
    have e : b = it := by simpa using hb
    subst e
    obtain ⟨o, e, c, d⟩ := st
    exact ⟨o, e, fun v z => by rw [d] at z; cases z⟩
  keep := fun i h h' st k => st.at fun o e => k it (by simp) o e
  item := by
    intro X hP hw hK hc i pins s σ H E I hf st hg
    subst hP hw hK
    obtain ⟨xs, x, hq, hx⟩ := hg
    obtain ⟨its, rv, p, hz⟩ := I.list hq
    obtain ⟨u, hu, ru⟩ := rv.get hx
    obtain ⟨f0, f1, f2, f3, f4, f5⟩ := hf it (by simp)
    refine wpAny_pyNext_list_item st p.isList (x := u) (by simpa using hu) fun h' st' sb => ?_
    have I1 : Inv X pins σ H { s with heap := h' } := I.turned (t' := s.toks) (fun b o hb e => (sb.2 b hb).trans e) f0 f1 f3 f4 f5
    obtain ⟨o, e, c, d⟩ := id st'
    exact ⟨u, rfl, go_of (s := { s with heap := h' }) e c d (by decide) ⟨x, H, I1, ru, ⟨rfl, fun ys hy => by rw [I.list_inj hy hq]; exact hx⟩, st', fun b hb => (hf b hb).1⟩⟩
  done := by
    intro X hP hw hK hc i pins s σ H E I hf st hg
    subst hP hw hK
    obtain ⟨xs, hq, hx⟩ := hg
    obtain ⟨its, rv, p, hz⟩ := I.list hq
    obtain ⟨f0, f1, f2, f3, f4, f5⟩ := hf it (by simp)
    have hl := rv.length
    exact wpAny_pyNext_list_end (I.ok.hd hc) st p.isList (by simp; omega) fun h' eb => ⟨rfl, I.turned (t' := s.toks) (fun b o hb e => eb b o hb e) f0 f1 f3 f4 f5⟩
  self := fun _ _ _ _ _ st h => wpAny_pyIter_listiter st h
theorem turn_tuple {P : Program} {w : World} {K : PySem.W.Frag} {tg : Expr} (a it : Addr) : Turn P w K tg (Itt K a) [it] it (fun i h => h.IsTupleIter it a i) where
  mem := by simp
  obj := fun i h st b hb => by
    have e : b = it := by simpa using hb
    subst e
    obtain ⟨o, e, c, d⟩ := st
    exact ⟨o, e, fun v z => by rw [d] at z; cases z⟩
  keep := fun i h h' st k => st.at fun o e => k it (by simp) o e
  item := by
    intro X hP hw hK hc i pins s σ H E I hf st hg
    subst hP hw hK
    obtain ⟨xs, x, hq, hx⟩ := hg
    obtain ⟨its, rv, p, hz⟩ := I.tuple hq
    obtain ⟨u, hu, ru⟩ := rv.get hx
    obtain ⟨f0, f1, f2, f3, f4, f5⟩ := hf it (by simp)
    refine wpAny_pyNext_tuple_item st (show s.heap.IsTuple a its.toArray from p) (x := u) (by simpa using hu) fun h' st' sb => ?_
    have I1 : Inv X pins σ H { s with heap := h' } := I.turned (t' := s.toks) (fun b o hb e => (sb.2 b hb).trans e) f0 f1 f3 f4 f5
    obtain ⟨o, e, c, d⟩ := id st'
    exact ⟨u, rfl, go_of (s := { s with heap := h' }) e c d (by decide) ⟨x, H, I1, ru, ⟨rfl, fun ys hy => by rw [I.tuple_inj hy hq]; exact hx⟩, st', fun b hb => (hf b hb).1⟩⟩
  done := by
    intro X hP hw hK hc i pins s σ H E I hf st hg
    subst hP hw hK
    obtain ⟨xs, hq, hx⟩ := hg
    obtain ⟨its, rv, p, hz⟩ := I.tuple hq
    obtain ⟨f0, f1, f2, f3, f4, f5⟩ := hf it (by simp)
    have hl := rv.length
    exact wpAny_pyNext_tuple_end (I.ok.hd hc) st (show s.heap.IsTuple a its.toArray from p) (by simp; omega) fun h' eb => ⟨rfl, I.turned (t' := s.toks) (fun b o hb e => eb b o hb e) f0 f1 f3 f4 f5⟩
  self := fun _ _ _ _ _ st h => wpAny_pyIter_tupleiter st h
theorem turn_range {P : Program} {w : World} {K : PySem.W.Frag} {tg : Expr} (it : Addr) (lo : Int) (n : Nat) : Turn P w K tg (Itr lo n) [it] it (fun i h => IsRangeIter h it (lo + (i : Nat) * 1) ((n : Int) - (i : Nat)) 1) where
  mem := by simp
  obj := fun i h st b hb => by
    have e : b = it := by simpa using hb
    subst e
    exact ⟨_, st, fun v z => by
      have z' : Data.fields _ = Data.cell v := z
      cases z'⟩
  keep := fun i h h' st k => k it (by simp) _ st
  item := by
    intro X hP hw hK hc i pins s σ H E I hf st hg
    subst hP hw hK
    obtain ⟨f0, f1, f2, f3, f4, f5⟩ := hf it (by simp)
    have W := Walks.range (prog := X.prog) (w := X.w) (I.ok.hd hc) it lo 1 n
    refine W.item i s _ _ hg st fun v h' tk hv st' kk => ?_
    obtain ⟨t, rfl⟩ := hv
    have I1 : Inv X pins σ H { s with heap := h', toks := tk } := I.turned (fun b o hb e => kk b o (by simpa using hb) e) f0 f1 f3 f4 f5
    refine ⟨_, rfl, go_of (s := { s with heap := h', toks := tk }) (n := "range_iterator") st' rfl rfl (by decide) ⟨.int (lo + i), H, I1, ⟨t, ?_⟩, ⟨rfl, rfl⟩, st', fun b hb => (hf b hb).1⟩⟩
    rw [Int.mul_one]
  done := by
    intro X hP hw hK hc i pins s σ H E I hf st hg
    subst hP hw hK
    obtain ⟨f0, f1, f2, f3, f4, f5⟩ := hf it (by simp)
    exact wpAny_pyNext_range_end (I.ok.hd hc) st (by have : n ≤ i := hg; omega) fun h' eb => ⟨rfl, I.turned (t' := s.toks) (fun b o hb e => eb b o hb e) f0 f1 f3 f4 f5⟩
  self := fun _ _ _ _ _ st h => wpAny_pyIter_rangeiter st h
end L2

namespace L2
open PySem PySem.Spec PyProof.Rows
section
variable {X : Cx} {tg : Expr}
def iList (K : PySem.W.Frag) (tl : TE) : TI := fun σ H R => tl σ H fun x H1 => ∃ a, x = .ref a ∧ (∃ xs, SqL K H1 a xs) ∧ R (Itl K a) H1
def iTup (K : PySem.W.Frag) (tl : TE) : TI := fun σ H R => tl σ H fun x H1 => ∃ a, x = .ref a ∧ (∃ xs, SqT K H1 a xs) ∧ R (Itt K a) H1
theorem pi_list {l : Expr} {tl : TE} (hl : PE X l tl) : PI X tg l (iList X.K tl) := by
  intro pins s σ H R I h
  refine thn (hl pins s σ H _ I h) fun v s1 ⟨x, H1, I1, r1, q1⟩ => ?_
  obtain ⟨a, e, ⟨xs, hq⟩, q⟩ := q1
  subst e
  cases r1
  obtain ⟨its, rv, p, hz⟩ := I1.list hq
  refine wpAny_pyIter_list p.isList ?_
  refine ⟨s1.heap.objs.size, [s1.heap.objs.size], _, _, H1, rfl, I1.kept (t' := s1.toks) fun b o e => Heap.get?_push_of_some _ e, turn_list a _, ⟨_, Heap.get?_push_size _ rfl, rfl, rfl⟩, fun b hb => ?_, q⟩
  have e : b = s1.heap.objs.size := by simpa using hb
  subst e
  exact I1.fpOk (Nat.le_refl _) (I1.hok.fresh (Nat.le_refl _))
theorem pi_tup {l : Expr} {tl : TE} (hl : PE X l tl) : PI X tg l (iTup X.K tl) := by
  intro pins s σ H R I h
  refine thn (hl pins s σ H _ I h) fun v s1 ⟨x, H1, I1, r1, q1⟩ => ?_
  obtain ⟨a, e, ⟨xs, hq⟩, q⟩ := q1
  subst e
  cases r1
  obtain ⟨its, rv, p, hz⟩ := I1.tuple hq
  refine wpAny_pyIter_tuple (show s1.heap.IsTuple a its.toArray from p) ?_
  refine ⟨s1.heap.objs.size, [s1.heap.objs.size], _, _, H1, rfl, I1.kept (t' := s1.toks) fun b o e => Heap.get?_push_of_some _ e, turn_tuple a _, ⟨_, Heap.get?_push_size _ rfl, rfl, rfl⟩, fun b hb => ?_, q⟩
  have e : b = s1.heap.objs.size := by simpa using hb
  subst e
  exact I1.fpOk (Nat.le_refl _) (I1.hok.fresh (Nat.le_refl _))
/-- a range object just made, walked -/
theorem range_it {pins : List (Addr × Obj)} {σ : St} {H : Hp} {s : Shared} {R : It → Hp → Prop} {E : Value → Shared → Prop} {lo hi : Int} {t u v : Tok} {tk : Nat} (I : Inv X pins σ H s) (h1 : -(2 ^ 62) ≤ lo) (h2 : lo < 2 ^ 62) (h3 : -(2 ^ 62) ≤ hi) (h4 : hi < 2 ^ 62)
    (q : R (Itr lo (hi - lo).toNat) H) : wpAny (model X.prog X.w) X.A (pyIter (.ref s.heap.objs.size)) (PIE X pins σ tg R) E { s with heap := s.heap.push { cls := .type "range", data := .fields #[.int lo t, .int hi u, .int 1 v] }, toks := tk } := by
  refine wpAny_pyIter_range (IsRange.new ..) (small_one h1 h2 h3 h4) ?_
  have I1 : Inv X pins σ H { s with heap := s.heap.push { cls := .type "range", data := .fields #[.int lo t, .int hi u, .int 1 v] }, toks := tk } := I.kept fun b o e => Heap.get?_push_of_some _ e
  refine ⟨(s.heap.push { cls := .type "range", data := .fields #[.int lo t, .int hi u, .int 1 v] }).objs.size, [(s.heap.push { cls := .type "range", data := .fields #[.int lo t, .int hi u, .int 1 v] }).objs.size], _, _, H, rfl,
    I1.kept (t' := tk) fun b o e => Heap.get?_push_of_some _ e, turn_range _ lo (hi - lo).toNat, ?_, fun b hb => ?_, q⟩
  · have e1 : lo + ((0 : Nat) : Int) * 1 = lo := by simp
    have e2 : (((hi - lo).toNat : Nat) : Int) - ((0 : Nat) : Int) = Builtin.Range.rangeSize lo hi 1 := by rw [rangeSize_one]; split <;> omega
    show IsRangeIter _ _ (lo + ((0 : Nat) : Int) * 1) ((((hi - lo).toNat : Nat) : Int) - ((0 : Nat) : Int)) 1
    rw [e1, e2]
    exact Heap.get?_push_size _ rfl
  · have e : b = (s.heap.push { cls := .type "range", data := .fields #[.int lo t, .int hi u, .int 1 v] }).objs.size := by simpa using hb
    subst e
    exact I1.fpOk (Nat.le_refl _) (I1.hok.fresh (Nat.le_refl _))
def iRng1 (ta : TA) : TI := fun σ H R => ta σ H fun vs H1 => ∃ j : Int, vs = [.int j] ∧ -(2 ^ 62) ≤ j ∧ j < 2 ^ 62 ∧ R (Itr 0 j.toNat) H1
def iRng2 (ta : TA) : TI := fun σ H R => ta σ H fun vs H1 => ∃ i j : Int, vs = [.int i, .int j] ∧ (-(2 ^ 62) ≤ i ∧ i < 2 ^ 62 ∧ -(2 ^ 62) ≤ j ∧ j < 2 ^ 62) ∧ R (Itr i (j - i).toNat) H1
theorem pi_range1 {a : Expr} {ta : TA} {p pos : Pos} (hg : Gl X "range") (hm : X.mg "range" = none) (ha : PA X [a] ta) (hs : starEach [a] X.env = [(false, eval a X.env)] := by rfl) : PI X tg (.Call (.Name "range" p) [a] [] pos) (iRng1 ta) := by
  intro pins s σ H R I h
  refine Call_ (ld_blt I hg hm boot_range (PyProof.Rows.callWith_type1 (thn (ha pos pins s σ H _ I h) fun us s1 ⟨vs, H1, I1, r1, q1⟩ => ?_) hs rfl))
  obtain ⟨j, e, q1, q2, q⟩ := q1
  subst e
  cases r1 with
  | cons r rr =>
    cases rr
    obtain ⟨t, rfl⟩ := r
    exact call_range_1 (range_it I1 (by omega) (by omega) q1 q2 (by simpa using q))
theorem pi_range2 {a b : Expr} {ta : TA} {p pos : Pos} (hg : Gl X "range") (hm : X.mg "range" = none) (ha : PA X [a, b] ta) (hs : starEach [a, b] X.env = [(false, eval a X.env), (false, eval b X.env)] := by rfl) (hs2 : starEach [b] X.env = [(false, eval b X.env)] := by rfl) :
    PI X tg (.Call (.Name "range" p) [a, b] [] pos) (iRng2 ta) := by
  intro pins s σ H R I h
  refine Call_ (ld_blt I hg hm boot_range (PyProof.Rows.callWith_type1 (thn (ha pos pins s σ H _ I h) fun us s1 ⟨vs, H1, I1, r1, q1⟩ => ?_) (by rw [hs, hs2]) (by rw [hs2]; rfl)))
  obtain ⟨i, j, e, ⟨q1, q2, q3, q4⟩, q⟩ := q1
  subst e
  cases r1 with
  | cons r rr =>
    cases rr with
    | cons r' rr =>
      cases rr
      obtain ⟨t, rfl⟩ := r
      obtain ⟨t', rfl⟩ := r'
      exact call_range_2 (range_it I1 q1 q2 q3 q4 q)

/-! ### for -/
/-- W: the invariant by the turn and a measure; N: what the body is to reach -/
def tFor (wi : TI) (g : TG) (tb : TS) : TS := fun D σ H => wi σ H fun J H1 => ∃ W : Nat → Nat → St → Hp → Prop, (∃ m, W 0 m σ H1) ∧ ∀ i m σ H, W i m σ H →
  (J.stop i H ∧ D.nx σ H) ∨ (J.go i H ∧ ∃ N : St → Hp → Prop, (∀ σ' H', N σ' H' → ∃ m', m' < m ∧ W (i + 1) m' σ' H') ∧ ∀ x H', J.yld i H x H' → g x σ H' fun σ2 H2 => tb { D with nx := N, ct := N, bk := D.nx } σ2 H2)
/-- the records at fp as they stand -/
def pinsAt (fp : List Addr) (h : Heap) : List (Addr × Obj) := fp.filterMap fun b => (h.get? b).map fun o => (b, o)
theorem mem_pinsAt {fp : List Addr} {h : Heap} {b : Addr} {o : Obj} (hb : b ∈ fp) (e : h.get? b = some o) : (b, o) ∈ pinsAt fp h := List.mem_filterMap.mpr ⟨b, hb, by rw [e]; rfl⟩
theorem of_pinsAt {fp : List Addr} {h : Heap} {p : Addr × Obj} (hp : p ∈ pinsAt fp h) : p.1 ∈ fp ∧ h.get? p.1 = some p.2 := by
  obtain ⟨b, hb, e⟩ := List.mem_filterMap.mp hp
  cases q : h.get? b with
  | none => rw [q] at e; cases e
  | some o =>
    rw [q] at e
    have e' : (b, o) = p := Option.some.inj e
    subst e'
    exact ⟨hb, q⟩
theorem Inv.pinned {pins : List (Addr × Obj)} {σ : St} {H : Hp} {s : Shared} {fp : List Addr} (I : Inv X pins σ H s) (hf : ∀ b ∈ fp, FpOk X pins H b) (ho : ∀ b ∈ fp, ∃ o, s.heap.get? b = some o ∧ ∀ v, o.data ≠ .cell v) : Inv X (pins ++ pinsAt fp s.heap) σ H s :=
  I.pins_of fun p hp => (List.mem_append.mp hp).elim (fun z => I.pin p (List.mem_append_right _ z)) fun z => by
    obtain ⟨hb, e⟩ := of_pinsAt z
    obtain ⟨f0, f1, f2, _⟩ := hf p.1 hb
    obtain ⟨o, e', d⟩ := ho p.1 hb
    rw [e] at e'; cases e'
    exact ⟨e, f0, f1, f2, d⟩
theorem Inv.unpinned {pins pl : List (Addr × Obj)} {σ : St} {H : Hp} {s : Shared} (I : Inv X (pins ++ pl) σ H s) : Inv X pins σ H s := I.pins_of fun p hp => I.pin p (List.mem_append_right _ (List.mem_append_left _ hp))
theorem ps_for {iter : Expr} {body : List Stmt} {wi : TI} {g : TG} {tb : TS} {pos : Pos} (hp : PassesOwn (model X.prog X.w) X.A X.env X.xe) (hc : X.calm = true) (hi : PI X tg iter wi) (hg : PG X tg g) (hb : PSs X body tb)
    (hs : ∀ x, foldedSetIterable iter X.env x = pure x := by intro _; rfl) : PS X (.For tg iter body [] pos) (tFor wi g tb) := by
  intro pins s σ H D I h
  refine wpAny_For (thn (hi pins s σ H _ I h) fun v s1 h1 => thn h1 fun itv s2 h2 => ?_) hs
  obtain ⟨it, fp, tn, J, H2, e, I2, T, st2, f2, W, ⟨m0, w0⟩, turn⟩ := h2
  subst e
  -- what stays true of the iterator's objects through the loop
  have stat : ∀ {H' : Hp}, (∀ b ∈ fp, H' b = none) → ∀ b ∈ fp, FpOk X pins H' b := fun hn b hb => ⟨hn b hb, (f2 b hb).2⟩
  refine codeAny_forLoop_any (fun n s' => ∃ i σ' H', Inv X pins σ' H' s' ∧ tn i s'.heap ∧ (∀ b ∈ fp, H' b = none) ∧ W i n σ' H') ?_ m0 ⟨0, σ, H2, I2, st2, fun b hb => (f2 b hb).1, w0⟩
  rintro n s3 ⟨i, σ3, H3, I3, st3, fr3, w3⟩
  rcases turn i n σ3 H3 w3 with ⟨stop, qn⟩ | ⟨go, N, hN, step⟩
  · refine wpAny_passesOwn hp (thn (T.done X rfl rfl rfl hc i pins s3 σ3 H3 X.xe I3 (stat fr3) st3 stop) fun r s4 ⟨hr, I4⟩ => ?_)
    subst hr
    exact wpAny_execs_nil ⟨σ3, H3, I4, qn⟩
  · refine wpAny_passesOwn hp (thn (T.item X rfl rfl rfl hc i pins s3 σ3 H3 X.xe I3 (stat fr3) st3 go) fun r s4 ⟨u, hr, h4⟩ => ?_)
    subst hr
    refine wpAny_passesOwn hp (thn h4 fun _ s5 ⟨x, H5, I5, r5, y5, st5, fr5⟩ => ?_)
    have I5' := I5.pinned (stat fr5) (T.obj _ _ st5)
    refine wpAny_passesOwn hp (thn (hg _ s5 σ3 H5 x u _ I5' r5 (step x H5 y5)) fun _ s6 ⟨σ6, H6, I6, q6⟩ => ?_)
    refine wpAny_passesOwn hp (thn (hb _ s6 σ6 H6 _ I6 q6) fun f s7 q7 => ?_)
    have again : ∀ {σ7 : St} {H7 : Hp}, Inv X (pins ++ pinsAt fp s5.heap) σ7 H7 s7 → N σ7 H7 → ∃ m, m < n ∧ ∃ i σ' H', Inv X pins σ' H' s7 ∧ tn i s7.heap ∧ (∀ b ∈ fp, H' b = none) ∧ W i m σ' H' := fun {σ7 H7} I7 n7 => by
      obtain ⟨m', hm, w7⟩ := hN σ7 H7 n7
      refine ⟨m', hm, i + 1, σ7, H7, I7.unpinned, T.keep _ _ _ st5 fun b hb o e => (I7.pin (b, o) (List.mem_append_right _ (List.mem_append_right _ (mem_pinsAt hb e)))).1, fun b hb => ?_, w7⟩
      obtain ⟨o, e, d⟩ := T.obj _ _ st5 b hb
      exact (I7.pin (b, o) (List.mem_append_right _ (List.mem_append_right _ (mem_pinsAt hb e)))).2.1
    cases f with
    | next => obtain ⟨σ7, H7, I7, n7⟩ := q7; exact again I7 n7
    | cont => obtain ⟨σ7, H7, I7, n7⟩ := q7; exact again I7 n7
    | brk => obtain ⟨σ7, H7, I7, q7⟩ := q7; exact ⟨σ7, H7, I7.unpinned, q7⟩
    | ret v => obtain ⟨x7, σ7, H7, I7, r7, q7⟩ := q7; exact ⟨x7, σ7, H7, I7.unpinned, r7, q7⟩
end

/-! ### the forms one uses -/
/-- over a list that the body leaves as it is -/
theorem for_list {K : PySem.W.Frag} {a : Addr} {xs : List V} {g : TG} {tb : TS} {D : Ends} {σ : St} {H : Hp} (Pv : Nat → St → Hp → Prop) (h0 : Pv 0 σ H) (hl : ∀ i σ H, i ≤ xs.length → Pv i σ H → SqL K H a xs)
    (hs : ∀ i x σ H, xs[i]? = some x → Pv i σ H → g x σ H fun σ2 H2 => tb { D with nx := Pv (i + 1), ct := Pv (i + 1), bk := D.nx } σ2 H2) (hd : ∀ σ H, Pv xs.length σ H → D.nx σ H) :
    ∃ W : Nat → Nat → St → Hp → Prop, (∃ m, W 0 m σ H) ∧ ∀ i m σ H, W i m σ H →
      ((Itl K a).stop i H ∧ D.nx σ H) ∨ ((Itl K a).go i H ∧ ∃ N : St → Hp → Prop, (∀ σ' H', N σ' H' → ∃ m', m' < m ∧ W (i + 1) m' σ' H') ∧ ∀ x H', (Itl K a).yld i H x H' → g x σ H' fun σ2 H2 => tb { D with nx := N, ct := N, bk := D.nx } σ2 H2) := by
  refine ⟨fun i m σ H => m = xs.length - i ∧ i ≤ xs.length ∧ Pv i σ H, ⟨xs.length, by simp, Nat.zero_le _, h0⟩, ?_⟩
  rintro i m σ H ⟨rfl, hi, p⟩
  have q := hl i σ H hi p
  by_cases hlt : i < xs.length
  · refine .inr ⟨⟨xs, xs[i], q, by simp [hlt]⟩, Pv (i + 1), fun σ' H' p' => ⟨xs.length - (i + 1), by omega, rfl, hlt, p'⟩, fun x H' y => ?_⟩
    obtain ⟨e, y⟩ := y
    subst e
    exact hs i x σ _ (y xs q) p
  · have e : i = xs.length := by omega
    subst e
    exact .inl ⟨⟨xs, q, Nat.le_refl _⟩, hd σ H p⟩
theorem for_tup {K : PySem.W.Frag} {a : Addr} {xs : List V} {g : TG} {tb : TS} {D : Ends} {σ : St} {H : Hp} (Pv : Nat → St → Hp → Prop) (h0 : Pv 0 σ H) (hl : ∀ i σ H, i ≤ xs.length → Pv i σ H → SqT K H a xs)
    (hs : ∀ i x σ H, xs[i]? = some x → Pv i σ H → g x σ H fun σ2 H2 => tb { D with nx := Pv (i + 1), ct := Pv (i + 1), bk := D.nx } σ2 H2) (hd : ∀ σ H, Pv xs.length σ H → D.nx σ H) :
    ∃ W : Nat → Nat → St → Hp → Prop, (∃ m, W 0 m σ H) ∧ ∀ i m σ H, W i m σ H →
      ((Itt K a).stop i H ∧ D.nx σ H) ∨ ((Itt K a).go i H ∧ ∃ N : St → Hp → Prop, (∀ σ' H', N σ' H' → ∃ m', m' < m ∧ W (i + 1) m' σ' H') ∧ ∀ x H', (Itt K a).yld i H x H' → g x σ H' fun σ2 H2 => tb { D with nx := N, ct := N, bk := D.nx } σ2 H2) := by
  refine ⟨fun i m σ H => m = xs.length - i ∧ i ≤ xs.length ∧ Pv i σ H, ⟨xs.length, by simp, Nat.zero_le _, h0⟩, ?_⟩
  rintro i m σ H ⟨rfl, hi, p⟩
  have q := hl i σ H hi p
  by_cases hlt : i < xs.length
  · refine .inr ⟨⟨xs, xs[i], q, by simp [hlt]⟩, Pv (i + 1), fun σ' H' p' => ⟨xs.length - (i + 1), by omega, rfl, hlt, p'⟩, fun x H' y => ?_⟩
    obtain ⟨e, y⟩ := y
    subst e
    exact hs i x σ _ (y xs q) p
  · have e : i = xs.length := by omega
    subst e
    exact .inl ⟨⟨xs, q, Nat.le_refl _⟩, hd σ H p⟩
theorem for_range {lo : Int} {n : Nat} {g : TG} {tb : TS} {D : Ends} {σ : St} {H : Hp} (Pv : Nat → St → Hp → Prop) (h0 : Pv 0 σ H)
    (hs : ∀ i σ H, i < n → Pv i σ H → g (.int (lo + i)) σ H fun σ2 H2 => tb { D with nx := Pv (i + 1), ct := Pv (i + 1), bk := D.nx } σ2 H2) (hd : ∀ σ H, Pv n σ H → D.nx σ H) :
    ∃ W : Nat → Nat → St → Hp → Prop, (∃ m, W 0 m σ H) ∧ ∀ i m σ H, W i m σ H →
      ((Itr lo n).stop i H ∧ D.nx σ H) ∨ ((Itr lo n).go i H ∧ ∃ N : St → Hp → Prop, (∀ σ' H', N σ' H' → ∃ m', m' < m ∧ W (i + 1) m' σ' H') ∧ ∀ x H', (Itr lo n).yld i H x H' → g x σ H' fun σ2 H2 => tb { D with nx := N, ct := N, bk := D.nx } σ2 H2) := by
  refine ⟨fun i m σ H => m = n - i ∧ i ≤ n ∧ Pv i σ H, ⟨n, by simp, Nat.zero_le _, h0⟩, ?_⟩
  rintro i m σ H ⟨rfl, hi, p⟩
  by_cases hlt : i < n
  · refine .inr ⟨hlt, Pv (i + 1), fun σ' H' p' => ⟨n - (i + 1), by omega, rfl, hlt, p'⟩, fun x H' y => ?_⟩
    obtain ⟨e, y⟩ := y
    subst e y
    exact hs i σ _ hlt p
  · have e : i = n := by omega
    subst e
    exact .inl ⟨Nat.le_refl _, hd σ H p⟩
/-- while, by a word and a measure of the state -/
theorem while_by {c : TT} {tb : TS} {D : Ends} {σ : St} {H : Hp} (Pv : St → Hp → Prop) (μ : St → Hp → Nat) (h0 : Pv σ H)
    (hs : ∀ σ H, Pv σ H → c σ H fun b H1 => if b = true then tb { D with nx := fun σ' H' => Pv σ' H' ∧ μ σ' H' < μ σ H, ct := fun σ' H' => Pv σ' H' ∧ μ σ' H' < μ σ H, bk := D.nx } σ H1 else D.nx σ H1)
    (mono : ∀ σ H Q Q', (∀ b H1, Q b H1 → Q' b H1) → c σ H Q → c σ H Q') : tWhile c tb D σ H := by
  refine ⟨fun m σ H => m = μ σ H ∧ Pv σ H, ⟨_, rfl, h0⟩, ?_⟩
  rintro m σ H ⟨rfl, p⟩
  refine mono σ H _ _ (fun b H1 q => ?_) (hs σ H p)
  cases b with
  | true => exact ⟨_, fun σ' H' ⟨p', l⟩ => ⟨_, l, rfl, p'⟩, q⟩
  | false => exact q
end L2

namespace L2
open PySem PySem.Spec PyProof.Rows

abbrev R2 := V → V → Hp → VK → Prop
/-- a two-place operation on values: f is binaryOp op, inplaceOp op or compareOp op -/
def OpR (X : Cx) (f : Value → Value → Sem Value) (r : R2) : Prop :=
  ∀ (pins : List (Addr × Obj)) (s : Shared) (σ : St) (H : Hp) (x y : V) (v u : Value) (Q : VK), Inv X pins σ H s → RelV x v → RelV y u → r x y H Q →
    wpAny (model X.prog X.w) X.A (f v u) (EP X pins σ Q) X.xe s
/-- a one-place operation -/
def UnR (X : Cx) (f : Value → Sem Value) (r : V → Hp → VK → Prop) : Prop :=
  ∀ (pins : List (Addr × Obj)) (s : Shared) (σ : St) (H : Hp) (x : V) (v : Value) (Q : VK), Inv X pins σ H s → RelV x v → r x H Q →
    wpAny (model X.prog X.w) X.A (f v) (EP X pins σ Q) X.xe s
/-- a call of a value that is known (a builtin, a type) with values -/
def CallR (X : Cx) (f : Value) (r : List V → Hp → VK → Prop) : Prop :=
  ∀ (pins : List (Addr × Obj)) (s : Shared) (σ : St) (H : Hp) (xs : List V) (us : List Value) (Q : VK), Inv X pins σ H s → Vals xs us → r xs H Q →
    wpAny (model X.prog X.w) X.A (call f us) (EP X pins σ Q) X.xe s
/-- a value's truth -/
def TruR (X : Cx) (r : V → Hp → (Bool → Hp → Prop) → Prop) : Prop :=
  ∀ (pins : List (Addr × Obj)) (s : Shared) (σ : St) (H : Hp) (x : V) (v : Value) (Q : Bool → Hp → Prop), Inv X pins σ H s → RelV x v → r x H Q →
    wpAny (model X.prog X.w) X.A (truthy v) (TP X pins σ Q) X.xe s

def tOp (r : R2) (ta tb : TE) : TE := fun σ H Q => ta σ H fun x H1 => tb σ H1 fun y H2 => r x y H2 Q
def tUn (r : V → Hp → VK → Prop) (ta : TE) : TE := fun σ H Q => ta σ H fun x H1 => r x H1 Q
/-- ints in, under C, and a value out -/
def rI (C : Int → Int → Prop) (g : Int → Int → V) : R2 := fun x y H Q => ∃ i j, x = .int i ∧ y = .int j ∧ C i j ∧ Q (g i j) H
def rI0 (g : Int → Int → V) : R2 := fun x y H Q => ∃ i j, x = .int i ∧ y = .int j ∧ Q (g i j) H
def rU (g : Int → V) : V → Hp → VK → Prop := fun x H Q => ∃ i, x = .int i ∧ Q (g i) H

section
variable {X : Cx} {a b c : Expr} {ta tb tc : TE} {pos : Pos}

theorem binT (ha : PE X a ta) (hb : PE X b tb) {pins : List (Addr × Obj)} {s : Shared} {σ : St} {H : Hp} {R : V → V → Hp → Prop} (I : Inv X pins σ H s)
    (h : ta σ H fun x H1 => tb σ H1 fun y H2 => R x y H2) {Q : Value → Shared → Prop} {f : Value → Value → Sem Value}
    (hf : ∀ v u s2 x y H2, Inv X pins σ H2 s2 → RelV x v → RelV y u → R x y H2 → wpAny (model X.prog X.w) X.A (f v u) Q X.xe s2) :
    wpAny (model X.prog X.w) X.A (eval a X.env) (fun v s₁ => wpAny (model X.prog X.w) X.A (eval b X.env) (fun u s₂ => wpAny (model X.prog X.w) X.A (f v u) Q X.xe s₂) X.xe s₁) X.xe s := by
  refine thn (ha pins s σ H _ I h) fun v s1 ⟨x, H1, I1, r1, q1⟩ => ?_
  refine thn (hb pins s1 σ H1 _ I1 q1) fun u s2 ⟨y, H2, I2, r2, q2⟩ => ?_
  exact hf v u s2 x y H2 I2 r1 r2 q2

theorem pe_op {op : Operator} {r : R2} (ho : OpR X (binaryOp op) r) (ha : PE X a ta) (hb : PE X b tb) : PE X (.BinOp a op b pos) (tOp r ta tb) := by
  intro pins s σ H Q I h
  exact wpAny_BinOp (binT ha hb I h fun v u s2 x y H2 I2 rx ry q => ho pins s2 σ H2 x y v u Q I2 rx ry q)
theorem pe_un {op : UnaryOp} {r : V → Hp → VK → Prop} (ho : UnR X (unaryOp op) r) (ha : PE X a ta) : PE X (.UnaryOp op a pos) (tUn r ta) := by
  intro pins s σ H Q I h
  exact UnaryOp_ (thn (ha pins s σ H _ I h) fun v s1 ⟨x, H1, I1, r1, q1⟩ => ho pins s1 σ H1 x v Q I1 r1 q1)
/-- a op= e at a name: the name's slot i -/
theorem augR {op : Operator} {r : R2} (ho : OpR X (inplaceOp op) r) {pins : List (Addr × Obj)} {s : Shared} {σ : St} {H : Hp} {x y : V} {v u : Value} {Q : VK} (I : Inv X pins σ H s)
    (rx : RelV x v) (ry : RelV y u) (q : r x y H Q) : wpAny (model X.prog X.w) X.A (inplaceOp op v u) (EP X pins σ Q) X.xe s := ho pins s σ H x y v u Q I rx ry q

/-! ### ints -/
theorem opI {f : Value → Value → Sem Value} {C : Int → Int → Prop} {g : Int → Int → Int}
    (rule : ∀ (i j : Int) (t u : Tok) (s : Shared) (Q : Value → Shared → Prop) (E : Value → Shared → Prop), C i j → Q (.int (g i j) s.toks) { s with toks := s.toks + 1 } → wpAny (model X.prog X.w) X.A (f (.int i t) (.int j u)) Q E s) :
    OpR X f (rI C fun i j => .int (g i j)) := by
  intro pins s σ H x y v u Q I rx ry h
  obtain ⟨i, j, rfl, rfl, hc, q⟩ := h
  obtain ⟨t, rfl⟩ := rx
  obtain ⟨t', rfl⟩ := ry
  exact rule i j t t' s _ _ hc ⟨.int (g i j), H, I.tok _, ⟨_, rfl⟩, q⟩
theorem opI0 {f : Value → Value → Sem Value} {g : Int → Int → Int}
    (rule : ∀ (i j : Int) (t u : Tok) (s : Shared) (Q : Value → Shared → Prop) (E : Value → Shared → Prop), Q (.int (g i j) s.toks) { s with toks := s.toks + 1 } → wpAny (model X.prog X.w) X.A (f (.int i t) (.int j u)) Q E s) :
    OpR X f (rI0 fun i j => .int (g i j)) := by
  intro pins s σ H x y v u Q I rx ry h
  obtain ⟨i, j, rfl, rfl, q⟩ := h
  obtain ⟨t, rfl⟩ := rx
  obtain ⟨t', rfl⟩ := ry
  exact rule i j t t' s _ _ ⟨.int (g i j), H, I.tok _, ⟨_, rfl⟩, q⟩
theorem opB0 {f : Value → Value → Sem Value} {g : Int → Int → Bool}
    (rule : ∀ (i j : Int) (t u : Tok) (s : Shared) (Q : Value → Shared → Prop) (E : Value → Shared → Prop), Q (.bool (g i j)) s → wpAny (model X.prog X.w) X.A (f (.int i t) (.int j u)) Q E s) :
    OpR X f (rI0 fun i j => .bl (g i j)) := by
  intro pins s σ H x y v u Q I rx ry h
  obtain ⟨i, j, rfl, rfl, q⟩ := h
  obtain ⟨t, rfl⟩ := rx
  obtain ⟨t', rfl⟩ := ry
  exact rule i j t t' s _ _ ⟨.bl (g i j), H, I, rfl, q⟩

def CDiv (i j : Int) : Prop := 0 < j ∧ j < 1073741824
def CDivN (i j : Int) : Prop := j ≠ 0 ∧ j.natAbs < 1073741824
def CPow (i j : Int) : Prop := 0 ≤ j ∧ j ≤ 1000000 ∧ i.natAbs < 2 ^ 64
def CMul (i j : Int) : Prop := (-(2 ^ 64) < i ∧ i < 2 ^ 64) ∨ (-(2 ^ 64) < j ∧ j < 2 ^ 64)
theorem CMul.ok {i j : Int} (h : CMul i j) : IntMulOk i j := by
  rcases h with ⟨h1, h2⟩ | ⟨h1, h2⟩
  · exact .of_left (intBits_le_64 h1 h2)
  · exact .of_right (intBits_le_64 h1 h2)
theorem two_pow_nn (k : Nat) : (0 : Int) ≤ 2 ^ k := by
  rw [two_pow_cast]
  exact Int.natCast_nonneg _

theorem op_add : OpR X (binaryOp .Add) (rI0 fun i j => .int (i + j)) := opI0 fun _ _ _ _ _ _ _ q => add_int q
theorem op_sub : OpR X (binaryOp .Sub) (rI0 fun i j => .int (i - j)) := opI0 fun _ _ _ _ _ _ _ q => sub_int q
theorem op_mul : OpR X (binaryOp .Mult) (rI CMul fun i j => .int (i * j)) := opI fun _ _ _ _ _ _ _ hc q => mul_int q hc.ok
/-- // by a positive divisor -/
theorem op_fdiv : OpR X (binaryOp .FloorDiv) (rI CDiv fun i j => .int (i / j)) := opI fun i j _ _ _ _ _ hc q => by
  have h1 : (0 : Int) < j := hc.1
  have h2 : j < 1073741824 := hc.2
  exact floordiv_int (by omega) (by rw [Int.fdiv_eq_ediv_of_nonneg i (by omega)]; exact q) (.inl (PyProof.noPylong_small (by omega)))
theorem op_fdivN : OpR X (binaryOp .FloorDiv) (rI CDivN fun i j => .int (i.fdiv j)) := opI fun _ _ _ _ _ _ _ hc q => floordiv_int hc.1 q (.inl (PyProof.noPylong_small hc.2))
/-- % by a positive divisor of any size -/
theorem op_mod : OpR X (binaryOp .Mod) (rI (fun _ j => 0 < j) fun i j => .int (i % j)) := opI fun i j _ _ _ _ _ hc q => by
  have h1 : (0 : Int) < j := hc
  exact mod_int' (by omega) (by rw [Int.fmod_eq_emod_of_nonneg i (by omega)]; exact q)
theorem op_modN : OpR X (binaryOp .Mod) (rI (fun _ j => j ≠ 0) fun i j => .int (i.fmod j)) := opI fun _ _ _ _ _ _ _ hc q => mod_int' hc q
theorem op_pow : OpR X (binaryOp .Pow) (rI CPow fun i j => .int (i ^ j.toNat)) := opI fun _ _ _ _ _ _ _ hc q => pow_int_small hc.1 hc.2.1 hc.2.2 q
theorem op_shl : OpR X (binaryOp .LShift) (rI CPow fun i j => .int (i * 2 ^ j.toNat)) := opI fun _ _ _ _ _ _ _ hc q => lshift_int_small hc.1 hc.2.1 hc.2.2 q
theorem op_shr : OpR X (binaryOp .RShift) (rI (fun _ j => 0 ≤ j) fun i j => .int (i / 2 ^ j.toNat)) := opI fun i j _ _ _ _ _ hc q =>
  rshift_int hc (by rw [Int.fdiv_eq_ediv_of_nonneg i (two_pow_nn _)]; exact q)
theorem op_and : OpR X (binaryOp .BitAnd) (rI0 fun i j => .int (Builtin.bitAnd i j)) := opI0 fun _ _ _ _ _ _ _ q => and_int q
theorem op_or : OpR X (binaryOp .BitOr) (rI0 fun i j => .int (Builtin.bitOr i j)) := opI0 fun _ _ _ _ _ _ _ q => or_int q
theorem op_xor : OpR X (binaryOp .BitXor) (rI0 fun i j => .int (Builtin.bitXor i j)) := opI0 fun _ _ _ _ _ _ _ q => xor_int q

theorem iop_add : OpR X (inplaceOp .Add) (rI0 fun i j => .int (i + j)) := opI0 fun _ _ _ _ _ _ _ q => iadd_int q
theorem iop_sub : OpR X (inplaceOp .Sub) (rI0 fun i j => .int (i - j)) := opI0 fun _ _ _ _ _ _ _ q => isub_int q
theorem iop_mul : OpR X (inplaceOp .Mult) (rI CMul fun i j => .int (i * j)) := opI fun _ _ _ _ _ _ _ hc q => imul_int q hc.ok
theorem iop_fdiv : OpR X (inplaceOp .FloorDiv) (rI CDiv fun i j => .int (i / j)) := opI fun i j _ _ _ _ _ hc q => by
  have h1 : (0 : Int) < j := hc.1
  have h2 : j < 1073741824 := hc.2
  exact ifloordiv_int (by omega) (by rw [Int.fdiv_eq_ediv_of_nonneg i (by omega)]; exact q) (.inl (PyProof.noPylong_small (by omega)))
theorem iop_mod : OpR X (inplaceOp .Mod) (rI (fun _ j => 0 < j) fun i j => .int (i % j)) := opI fun i j _ _ _ _ _ hc q => by
  have h1 : (0 : Int) < j := hc
  exact imod_int (by omega) (by rw [Int.fmod_eq_emod_of_nonneg i (by omega)]; exact q)
theorem iop_shl : OpR X (inplaceOp .LShift) (rI CPow fun i j => .int (i * 2 ^ j.toNat)) := opI fun _ _ _ _ _ _ _ hc q => ilshift_int_small hc.1 hc.2.1 hc.2.2 q
theorem iop_shr : OpR X (inplaceOp .RShift) (rI (fun _ j => 0 ≤ j) fun i j => .int (i / 2 ^ j.toNat)) := opI fun i j _ _ _ _ _ hc q =>
  irshift_int hc (by rw [Int.fdiv_eq_ediv_of_nonneg i (two_pow_nn _)]; exact q)
theorem iop_and : OpR X (inplaceOp .BitAnd) (rI0 fun i j => .int (Builtin.bitAnd i j)) := opI0 fun _ _ _ _ _ _ _ q => iand_int q
theorem iop_or : OpR X (inplaceOp .BitOr) (rI0 fun i j => .int (Builtin.bitOr i j)) := opI0 fun _ _ _ _ _ _ _ q => ior_int q
theorem iop_xor : OpR X (inplaceOp .BitXor) (rI0 fun i j => .int (Builtin.bitXor i j)) := opI0 fun _ _ _ _ _ _ _ q => ixor_int q

theorem unI {f : Value → Sem Value} {g : Int → Int}
    (rule : ∀ (i : Int) (t : Tok) (s : Shared) (Q : Value → Shared → Prop) (E : Value → Shared → Prop), Q (.int (g i) s.toks) { s with toks := s.toks + 1 } → wpAny (model X.prog X.w) X.A (f (.int i t)) Q E s) :
    UnR X f (rU fun i => .int (g i)) := by
  intro pins s σ H x v Q I rx h
  obtain ⟨i, rfl, q⟩ := h
  obtain ⟨t, rfl⟩ := rx
  exact rule i t s _ _ ⟨.int (g i), H, I.tok _, ⟨_, rfl⟩, q⟩
theorem un_neg : UnR X (unaryOp .USub) (rU fun i => .int (-i)) := unI fun _ _ _ _ _ q => neg_int q
theorem un_inv : UnR X (unaryOp .Invert) (rU fun i => .int (Builtin.bitNot i)) := unI fun _ _ _ _ _ q => invert_int q

/-! ### bools among ints: n += (a < b) -/
theorem op_add_ib : OpR X (binaryOp .Add) (fun x y H Q => ∃ i k, x = .int i ∧ y = .bl k ∧ Q (.int (i + b2i k)) H) := by
  intro pins s σ H x y v u Q I rx ry h
  obtain ⟨i, k, rfl, rfl, q⟩ := h
  obtain ⟨t, rfl⟩ := rx
  cases ry
  exact add_int_bool ⟨.int (i + b2i k), H, I.tok _, ⟨_, rfl⟩, q⟩
end

/-! ### comparisons -/
/-- the scalars that == tells apart as data does -/
def scal : V → V → Bool
  | .non, .non => true | .non, .int _ => true | .int _, .non => true | .non, .bl _ => true | .bl _, .non => true | .non, .str _ => true | .str _, .non => true
  | .int _, .int _ => true | .bl _, .bl _ => true | .str _, .str _ => true | .byt _, .byt _ => true
  | .int _, .str _ => true | .str _, .int _ => true | .bl _, .str _ => true | .str _, .bl _ => true
  | _, _ => false
def rEq : R2 := fun x y H Q => scal x y = true ∧ Q (.bl (decide (x = y))) H
def rNe : R2 := fun x y H Q => scal x y = true ∧ Q (.bl (!decide (x = y))) H

theorem dec_int {i j : Int} : decide (V.int i = V.int j) = (i == j) := by
  rw [Bool.eq_iff_iff]
  simp
theorem dec_bl {i j : Bool} : decide (V.bl i = V.bl j) = (i == j) := by
  rw [Bool.eq_iff_iff]
  simp
theorem dec_str {i j : Str} : decide (V.str i = V.str j) = (i == j) := by
  rw [Bool.eq_iff_iff]
  simp
theorem dec_byt {i j : Array UInt8} : decide (V.byt i = V.byt j) = (i.toList == j.toList) := by
  rw [Bool.eq_iff_iff]
  cases i
  cases j
  simp

section
variable {X : Cx} {a b c : Expr} {ta tb tc : TE} {pos : Pos}
theorem fin_bl {pins : List (Addr × Obj)} {σ : St} {H : Hp} {s : Shared} {Q : VK} {k k' : Bool} (I : Inv X pins σ H s) (q : Q (.bl k) H) (e : k = k') : EP X pins σ Q (.bool k') s := by
  subst e
  exact ⟨.bl k, H, I, rfl, q⟩
theorem op_eq : OpR X (compareOp .Eq) rEq := by
  intro pins s σ H x y v u Q I rx ry h
  obtain ⟨hs, q⟩ := h
  cases x with
  | non =>
    cases rx
    cases y with
    | non => cases ry; exact PySem.EqNone.eq_none_none (fin_bl I q (by simp))
    | bl j => cases ry; exact PySem.EqNone.eq_none_bool (fin_bl I q (by simp))
    | int j => obtain ⟨t', rfl⟩ := ry; exact PySem.EqNone.eq_none_int (fin_bl I q (by simp))
    | str j => obtain ⟨t', rfl⟩ := ry; exact PySem.EqNone.eq_none_str (fin_bl I q (by simp))
    | _ => exact absurd (show false = true from hs) Bool.false_ne_true
  | bl i =>
    cases rx
    cases y with
    | non => cases ry; exact PySem.EqNone.eq_bool_none (fin_bl I q (by simp))
    | bl j => cases ry; exact eq_bool (fin_bl I q dec_bl)
    | str j => obtain ⟨t', rfl⟩ := ry; exact PySem.EqMixed.eq_bool_str (fin_bl I q (by simp))
    | _ => exact absurd (show false = true from hs) Bool.false_ne_true
  | int i =>
    obtain ⟨t, rfl⟩ := rx
    cases y with
    | non => cases ry; exact PySem.EqNone.eq_int_none (fin_bl I q (by simp))
    | int j => obtain ⟨t', rfl⟩ := ry; exact eq_int (fin_bl I q dec_int)
    | str j => obtain ⟨t', rfl⟩ := ry; exact PySem.EqMixed.eq_int_str (fin_bl I q (by simp))
    | _ => exact absurd (show false = true from hs) Bool.false_ne_true
  | str i =>
    obtain ⟨t, rfl⟩ := rx
    cases y with
    | non => cases ry; exact PySem.EqNone.eq_str_none (fin_bl I q (by simp))
    | bl j => cases ry; exact PySem.EqMixed.eq_str_bool (fin_bl I q (by simp))
    | int j => obtain ⟨t', rfl⟩ := ry; exact PySem.EqMixed.eq_str_int (fin_bl I q (by simp))
    | str j => obtain ⟨t', rfl⟩ := ry; exact eq_str (fin_bl I q dec_str)
    | _ => exact absurd (show false = true from hs) Bool.false_ne_true
  | byt i =>
    obtain ⟨t, rfl⟩ := rx
    cases y with
    | byt j => obtain ⟨t', rfl⟩ := ry; exact PySem.W.eq_bytes (fin_bl I q dec_byt)
    | _ => exact absurd (show false = true from hs) Bool.false_ne_true
  | _ => cases y <;> exact absurd (show false = true from hs) Bool.false_ne_true
theorem op_ne : OpR X (compareOp .NotEq) rNe := by
  intro pins s σ H x y v u Q I rx ry h
  obtain ⟨hs, q⟩ := h
  cases x with
  | non =>
    cases rx
    cases y with
    | non => cases ry; exact PySem.EqNone.ne_none_none (fin_bl I q (by simp))
    | bl j => cases ry; exact PySem.EqNone.ne_none_bool (fin_bl I q (by simp))
    | int j => obtain ⟨t', rfl⟩ := ry; exact PySem.EqNone.ne_none_int (fin_bl I q (by simp))
    | str j => obtain ⟨t', rfl⟩ := ry; exact PySem.EqNone.ne_none_str (fin_bl I q (by simp))
    | _ => exact absurd (show false = true from hs) Bool.false_ne_true
  | bl i =>
    cases rx
    cases y with
    | non => cases ry; exact PySem.EqNone.ne_bool_none (fin_bl I q (by simp))
    | bl j => cases ry; exact ne_bool (fin_bl I q (congrArg not dec_bl))
    | str j => obtain ⟨t', rfl⟩ := ry; exact PySem.EqMixed.ne_bool_str (fin_bl I q (by simp))
    | _ => exact absurd (show false = true from hs) Bool.false_ne_true
  | int i =>
    obtain ⟨t, rfl⟩ := rx
    cases y with
    | non => cases ry; exact PySem.EqNone.ne_int_none (fin_bl I q (by simp))
    | int j => obtain ⟨t', rfl⟩ := ry; exact ne_int (fin_bl I q (congrArg not dec_int))
    | str j => obtain ⟨t', rfl⟩ := ry; exact PySem.EqMixed.ne_int_str (fin_bl I q (by simp))
    | _ => exact absurd (show false = true from hs) Bool.false_ne_true
  | str i =>
    obtain ⟨t, rfl⟩ := rx
    cases y with
    | non => cases ry; exact PySem.EqNone.ne_str_none (fin_bl I q (by simp))
    | bl j => cases ry; exact PySem.EqMixed.ne_str_bool (fin_bl I q (by simp))
    | int j => obtain ⟨t', rfl⟩ := ry; exact PySem.EqMixed.ne_str_int (fin_bl I q (by simp))
    | str j => obtain ⟨t', rfl⟩ := ry; exact ne_str (fin_bl I q (congrArg not dec_str))
    | _ => exact absurd (show false = true from hs) Bool.false_ne_true
  | byt i =>
    obtain ⟨t, rfl⟩ := rx
    cases y with
    | byt j => obtain ⟨t', rfl⟩ := ry; exact PySem.W.ne_bytes (fin_bl I q (congrArg not dec_byt))
    | _ => exact absurd (show false = true from hs) Bool.false_ne_true
  | _ => cases y <;> exact absurd (show false = true from hs) Bool.false_ne_true

theorem op_lt : OpR X (compareOp .Lt) (rI0 fun i j => .bl (decide (i < j))) := opB0 fun _ _ _ _ _ _ _ q => lt_int q
theorem op_le : OpR X (compareOp .LtE) (rI0 fun i j => .bl (decide (i ≤ j))) := opB0 fun _ _ _ _ _ _ _ q => le_int q
theorem op_gt : OpR X (compareOp .Gt) (rI0 fun i j => .bl (decide (j < i))) := opB0 fun _ _ _ _ _ _ _ q => gt_int q
theorem op_ge : OpR X (compareOp .GtE) (rI0 fun i j => .bl (decide (j ≤ i))) := opB0 fun _ _ _ _ _ _ _ q => ge_int q
theorem op_lt_str : OpR X (compareOp .Lt) (fun x y H Q => ∃ i j, x = .str i ∧ y = .str j ∧ Q (.bl (decide (i.cps.toList < j.cps.toList))) H) := by
  intro pins s σ H x y v u Q I rx ry h
  obtain ⟨i, j, rfl, rfl, q⟩ := h
  obtain ⟨t, rfl⟩ := rx
  obtain ⟨t', rfl⟩ := ry
  exact lt_str (fin_bl I q rfl)
/-- the one string within the other -/
theorem op_in_str : OpR X (compareOp .In) (fun x y H Q => ∃ i j, x = .str i ∧ y = .str j ∧ Q (.bl (!(Builtin.Str.occurrences j i 0 j.length 1).isEmpty)) H) := by
  intro pins s σ H x y v u Q I rx ry h
  obtain ⟨i, j, rfl, rfl, q⟩ := h
  obtain ⟨t, rfl⟩ := rx
  obtain ⟨t', rfl⟩ := ry
  exact in_str (fin_bl I q rfl)

/-- is None, is not None: the right side a value none -/
theorem op_isN : OpR X (compareOp .Is) (fun x y H Q => y = .non ∧ Q (.bl (decide (x = .non))) H) := by
  intro pins s σ H x y v u Q I rx ry h
  obtain ⟨rfl, q⟩ := h
  cases ry
  refine is_none_gen (fin_bl I q ?_)
  cases x <;> first
    | (cases rx; rfl)
    | (obtain ⟨t, rfl⟩ := rx; rfl)
theorem op_notN : OpR X (compareOp .IsNot) (fun x y H Q => y = .non ∧ Q (.bl (!decide (x = .non))) H) := by
  intro pins s σ H x y v u Q I rx ry h
  obtain ⟨rfl, q⟩ := h
  cases ry
  refine isnot_none_gen (fin_bl I q ?_)
  cases x <;> first
    | (cases rx; rfl)
    | (obtain ⟨t, rfl⟩ := rx; rfl)

theorem op_notin_str : OpR X (compareOp .NotIn) (fun x y H Q => ∃ i j, x = .str i ∧ y = .str j ∧ Q (.bl (!(!(Builtin.Str.occurrences j i 0 j.length 1).isEmpty))) H) := by
  intro pins s σ H x y v u Q I rx ry h
  obtain ⟨i, j, rfl, rfl, q⟩ := h
  obtain ⟨t, rfl⟩ := rx
  obtain ⟨t', rfl⟩ := ry
  exact notIn_str (fin_bl I q rfl)
/-- is, is not of two objects that are tracked lists or instances -/
def isObj : HO → Bool
  | .lst _ => true
  | .ins _ _ _ => true
  | _ => false
theorem obj_there {pins : List (Addr × Obj)} {s : Shared} {σ : St} {H : Hp} {a : Addr} {o : HO} (I : Inv X pins σ H s) (h : H a = some o) (p : isObj o = true) : ∃ ob, s.heap.get? a = some ob ∧ ob.cls ≠ .type "tuple" := by
  cases o with
  | lst xs =>
    obtain ⟨_, its, n, _, e⟩ : xs.length ≤ sizeLine ∧ ∃ (its : List Value) (n : Nat), Vals xs its ∧ s.heap.get? a = some { cls := .type "list", data := .seq its.toArray n } := I.hok a _ h
    exact ⟨_, e, (by show Value.type "list" ≠ .type "tuple"; decide +kernel)⟩
  | ins C dx fs =>
    have x := I.hok a _ h
    obtain ⟨_, _, _, e, _⟩ := x
    exact ⟨_, e, (by show Value.ref C ≠ .type "tuple"; exact fun z => by cases z)⟩
  | _ => exact absurd (show false = true from p) Bool.false_ne_true
theorem op_is_ref : OpR X (compareOp .Is) (fun x y H Q => ∃ a b oa ob, x = .ref a ∧ y = .ref b ∧ H a = some oa ∧ isObj oa = true ∧ H b = some ob ∧ isObj ob = true ∧ Q (.bl (decide (a = b))) H) := by
  intro pins s σ H x y v u Q I rx ry h
  obtain ⟨a, b, oa, ob, rfl, rfl, ha, pa, hb, pb, q⟩ := h
  cases rx
  cases ry
  obtain ⟨o1, e1, n1⟩ := obj_there I ha pa
  obtain ⟨o2, e2, _⟩ := obj_there I hb pb
  by_cases z : a = b
  · subst z
    exact wpAny_is_ref_self (fin_bl I q (by simp))
  · exact wpAny_is_ref_other z e1 e2 n1 (fin_bl I q (by simp [z]))
theorem op_isnot_ref : OpR X (compareOp .IsNot) (fun x y H Q => ∃ a b oa ob, x = .ref a ∧ y = .ref b ∧ H a = some oa ∧ isObj oa = true ∧ H b = some ob ∧ isObj ob = true ∧ Q (.bl (!decide (a = b))) H) := by
  intro pins s σ H x y v u Q I rx ry h
  obtain ⟨a, b, oa, ob, rfl, rfl, ha, pa, hb, pb, q⟩ := h
  cases rx
  cases ry
  obtain ⟨o1, e1, n1⟩ := obj_there I ha pa
  obtain ⟨o2, e2, _⟩ := obj_there I hb pb
  by_cases z : a = b
  · subst z
    exact wpAny_isNot_ref_self (fin_bl I q (by simp))
  · exact wpAny_isNot_ref_other z e1 e2 n1 (fin_bl I q (by simp [z]))

/-- two rules for one operation: by cases -/
theorem OpR.or {f : Value → Value → Sem Value} {r r' : R2} (h : OpR X f r) (h' : OpR X f r') : OpR X f (fun x y H Q => r x y H Q ∨ r' x y H Q) := by
  intro pins s σ H x y v u Q I rx ry q
  rcases q with q | q
  · exact h pins s σ H x y v u Q I rx ry q
  · exact h' pins s σ H x y v u Q I rx ry q

theorem nomark (b : Expr) {op : CmpOp} (h : op ≠ .In := by decide) (h2 : op ≠ .NotIn := by decide) : behindInMarks op b = false := by
  have e1 : (op == CmpOp.In) = false := by cases op <;> first | rfl | exact absurd rfl h
  have e2 : (op == CmpOp.NotIn) = false := by cases op <;> first | rfl | exact absurd rfl h2
  cases b <;> simp [behindInMarks, e1, e2]
/-- a comparison as a value; hm: nomark b, or (for in, not in) by with_unfolding_all rfl -/
theorem pe_cmpR {op : CmpOp} {r : R2} (ho : OpR X (compareOp op) r) (ha : PE X a ta) (hb : PE X b tb) (hm : behindInMarks op b = false) : PE X (.Compare a [op] [b] pos) (tOp r ta tb) := by
  intro pins s σ H Q I h
  exact wpAny_Compare1 (binT ha hb I h fun v u s2 x y H2 I2 rx ry q => ho pins s2 σ H2 x y v u Q I2 rx ry q) hm
/-- a reading of a value as a test -/
def tTest (t : TE) : TT := fun σ H Q => t σ H fun x H' => ∃ k, x = .bl k ∧ Q k H'
theorem pt_cmpR {op : CmpOp} {r : R2} (ho : OpR X (compareOp op) r) (ha : PE X a ta) (hb : PE X b tb) (hm : behindInMarks op b = false) : PT X (.Compare a [op] [b] pos) (tTest (tOp r ta tb)) := by
  intro pins s σ H Q I h
  refine wpAny_isTrue_Compare1 (thn (ha pins s σ H _ I h) fun v s1 ⟨x, H1, I1, r1, q1⟩ => thn (hb pins s1 σ H1 _ I1 q1) fun u s2 ⟨y, H2, I2, r2, q2⟩ =>
    thn (ho pins s2 σ H2 x y v u _ I2 r1 r2 q2) fun c s3 ⟨z, H3, I3, r3, k, e, q3⟩ => ?_) hm
  subst e
  cases r3
  exact wpAny_truthy_bool ⟨H3, I3, q3⟩
/-- a op1 b op2 c -/
def tChain (r r' : R2) (ta tb tc : TE) : TE := fun σ H Q => ta σ H fun x H1 => tb σ H1 fun y H2 => r x y H2 fun z H3 => ∃ k, z = .bl k ∧
  (if k = true then tc σ H3 fun w' H4 => r' y w' H4 Q else Q (.bl false) H3)
theorem pe_chain {op op' : CmpOp} {r r' : R2} (ho : OpR X (compareOp op) r) (ho' : OpR X (compareOp op') r') (ha : PE X a ta) (hb : PE X b tb) (hc : PE X c tc)
    (hm : lastMarks [op, op'] [b, c] = false := by with_unfolding_all rfl) : PE X (.Compare a [op, op'] [b, c] pos) (tChain r r' ta tb tc) := by
  intro pins s σ H Q I h
  refine Compare_chain (thn (ha pins s σ H _ I h) fun v s1 ⟨x, H1, I1, r1, q1⟩ => chain_link (thn (hb pins s1 σ H1 _ I1 q1) fun u s2 ⟨y, H2, I2, r2, q2⟩ =>
    thn (ho pins s2 σ H2 x y v u _ I2 r1 r2 q2) fun d s3 ⟨z, H3, I3, r3, k, e, q3⟩ => ?_)) hm
  subst e
  cases r3
  refine wpAny_truthy_bool ?_
  cases k with
  | false => exact ite_ff ⟨.bl false, H3, I3, rfl, q3⟩
  | true => exact ite_tt (chain_last (thn (hc pins s3 σ H3 _ I3 q3) fun w' s4 ⟨z', H4, I4, r4, q4⟩ => ho' pins s4 σ H4 y z' u w' Q I4 r2 r4 q4))
theorem pt_chain {op op' : CmpOp} {r r' : R2} (ho : OpR X (compareOp op) r) (ho' : OpR X (compareOp op') r') (ha : PE X a ta) (hb : PE X b tb) (hc : PE X c tc)
    (hm : lastMarks [op, op'] [b, c] = false := by with_unfolding_all rfl) : PT X (.Compare a [op, op'] [b, c] pos) (tTest (tChain r r' ta tb tc)) := by
  intro pins s σ H Q I h
  refine isTrue_chain (thn (ha pins s σ H _ I h) fun v s1 ⟨x, H1, I1, r1, q1⟩ => test_link (thn (hb pins s1 σ H1 _ I1 q1) fun u s2 ⟨y, H2, I2, r2, q2⟩ =>
    thn (ho pins s2 σ H2 x y v u _ I2 r1 r2 q2) fun d s3 ⟨z, H3, I3, r3, k, e, q3⟩ => ?_)) hm
  subst e
  cases r3
  refine wpAny_truthy_bool ?_
  cases k with
  | false =>
    obtain ⟨k', e', q'⟩ := q3
    cases e'
    exact ite_ff ⟨H3, I3, q'⟩
  | true =>
    refine ite_tt (test_last (thn (hc pins s3 σ H3 _ I3 q3) fun w' s4 ⟨z', H4, I4, r4, q4⟩ => thn (ho' pins s4 σ H4 y z' u w' _ I4 r2 r4 q4) fun d' s5 ⟨z2, H5, I5, r5, k2, e2, q5⟩ => ?_))
    subst e2
    cases r5
    exact wpAny_truthy_bool ⟨H5, I5, q5⟩

/-! ### truth -/
/-- a value's truth by the abstract heap -/
def TruV (K : PySem.W.Frag) (x : V) (H : Hp) (k : Bool) : Prop :=
  match x with
  | .non => k = false
  | .bl b => k = b
  | .int i => k = (i != 0)
  | .str y => y.length ≤ sizeLine ∧ k = ((y.length : Int) != 0)
  | .byt y => y.size ≤ sizeLine ∧ k = ((y.size : Int) != 0)
  | .ref p => (∃ xs, SqL K H p xs ∧ k = !xs.isEmpty) ∨ (∃ xs, SqT K H p xs ∧ k = !xs.isEmpty) ∨ ∃ kvs, H p = some (.dK kvs) ∧ k = !kvs.isEmpty
  | _ => False
theorem isEmpty_kv {κ : Type} {kvs : List (κ × V)} {vs : List (κ × Value)} (r : KV kvs vs) : (!vs.isEmpty) = !kvs.isEmpty := by
  cases r <;> rfl
theorem isEmpty_of {xs : List V} {its : List Value} (r : Vals xs its) : (!its.toArray.isEmpty) = !xs.isEmpty := by
  cases r <;> simp
theorem line63 : (sizeLine : Nat) < 2 ^ 63 := by rw [sizeLine_eq]; decide
theorem tru_ok : TruR X (fun x H Q => ∃ k, TruV X.K x H k ∧ Q k H) := by
  intro pins s σ H x v Q I rx h
  obtain ⟨k, e, q⟩ := h
  have hl := line63
  have hs : sizeLine = 16777216 := sizeLine_eq
  cases x with
  | non =>
    cases rx
    have e' : k = false := e
    subst e'
    exact truthy_none ⟨H, I, q⟩
  | bl b =>
    cases rx
    have e' : k = b := e
    subst e'
    exact wpAny_truthy_bool ⟨H, I, q⟩
  | int i =>
    obtain ⟨t, rfl⟩ := rx
    have e' : k = (i != 0) := e
    subst e'
    exact PySem.P.truthy_int ⟨H, I, q⟩
  | str y =>
    obtain ⟨t, rfl⟩ := rx
    obtain ⟨hy, e'⟩ : y.length ≤ sizeLine ∧ k = ((y.length : Int) != 0) := e
    subst e'
    exact PySem.P.truthy_str (by omega) ⟨H, I.tok _, q⟩
  | byt y =>
    obtain ⟨t, rfl⟩ := rx
    obtain ⟨hy, e'⟩ : y.size ≤ sizeLine ∧ k = ((y.size : Int) != 0) := e
    subst e'
    exact PySem.W.truthy_bytes (by omega) ⟨H, I.tok _, q⟩
  | ref p =>
    cases rx
    have e' : (∃ xs, SqL X.K H p xs ∧ k = !xs.isEmpty) ∨ (∃ xs, SqT X.K H p xs ∧ k = !xs.isEmpty) ∨ ∃ kvs, H p = some (.dK kvs) ∧ k = !kvs.isEmpty := e
    rcases e' with ⟨xs, hx, e'⟩ | ⟨xs, hx, e'⟩ | ⟨kvs, hx, e'⟩
    · subst e'
      obtain ⟨its, r, pl, hz⟩ := I.list hx
      have hlen := r.length
      exact wpAny_truthy_list pl.isList (by simp only [List.size_toArray]; omega) ⟨H, I.tok _, by rw [isEmpty_of r]; exact q⟩
    · subst e'
      obtain ⟨its, r, pl, hz⟩ := I.tuple hx
      have hlen := r.length
      exact truthy_tuple pl (by simp only [List.size_toArray]; omega) ⟨H, I.tok _, by rw [isEmpty_of r]; exact q⟩
    · subst e'
      obtain ⟨hz, hS, vs, r, m⟩ : kvs.length ≤ sizeLine ∧ (p == sysModules) = false ∧ ∃ vs, KV kvs vs ∧ s.heap.DictOf (mixKind X.prog X.w) p vs := I.hok p _ hx
      have hlen : kvs.length = vs.length := Paired.length r
      exact wpAny_truthy_dict hS m (by omega) ⟨H, I.tok _, by rw [isEmpty_kv r]; exact q⟩
  | _ => exact (show False from e).elim
/-- any expression whose test is its value's truth (a name, a call, a subscript, a field ..: he by fun _ => rfl) -/
theorem pt_truth (ha : PE X a ta) (he : ∀ whole, isTrue a X.env whole = (do let v ← whole; standAt a.pos; holding [v] (truthy v))) :
    PT X a (fun σ H Q => ta σ H fun x H' => ∃ k, TruV X.K x H' k ∧ Q k H') := by
  intro pins s σ H Q I h
  exact isTrue_plain (thn (ha pins s σ H _ I h) fun v s1 ⟨x, H1, I1, r1, q1⟩ => tru_ok pins s1 σ H1 x v Q I1 r1 q1) (he _)

/-! ### strs and bytes -/
theorem pe_byt {x : List UInt8} {k : Nat} : PE X (.Constant (.bytes x) k pos) (fun _ H Q => Q (.byt x.toArray) H) := fun _ _ _ H _ I h => PySem.W.Constant_bytes ⟨.byt x.toArray, H, I.tok _, ⟨_, rfl⟩, h⟩
theorem op_add_str : OpR X (binaryOp .Add) (fun x y H Q => ∃ i j, x = .str i ∧ y = .str j ∧ i.length + j.length ≤ sizeLine ∧ Q (.str (i ++ j)) H) := by
  intro pins s σ H x y v u Q I rx ry h
  obtain ⟨i, j, rfl, rfl, hz, q⟩ := h
  obtain ⟨t, rfl⟩ := rx
  obtain ⟨t', rfl⟩ := ry
  exact add_str (fun t' tk => ⟨.str (i ++ j), H, I.tok _, ⟨_, rfl⟩, q⟩) hz
theorem iop_add_str : OpR X (inplaceOp .Add) (fun x y H Q => ∃ i j, x = .str i ∧ y = .str j ∧ i.length + j.length ≤ sizeLine ∧ Q (.str (i ++ j)) H) := by
  intro pins s σ H x y v u Q I rx ry h
  obtain ⟨i, j, rfl, rfl, hz, q⟩ := h
  obtain ⟨t, rfl⟩ := rx
  obtain ⟨t', rfl⟩ := ry
  exact iadd_str (fun t' tk => ⟨.str (i ++ j), H, I.tok _, ⟨_, rfl⟩, q⟩) hz
theorem op_add_byt : OpR X (binaryOp .Add) (fun x y H Q => ∃ i j, x = .byt i ∧ y = .byt j ∧ i.size + j.size ≤ 16777216 ∧ Q (.byt (i ++ j)) H) := by
  intro pins s σ H x y v u Q I rx ry h
  obtain ⟨i, j, rfl, rfl, hz, q⟩ := h
  obtain ⟨t, rfl⟩ := rx
  obtain ⟨t', rfl⟩ := ry
  exact PySem.W.KBy.add_bytes hz (fun t' tk => ⟨.byt (i ++ j), H, I.tok _, ⟨_, rfl⟩, q⟩)

def PlainIxT (b : Expr) : Prop := ∀ o i, subscripted b false o i = operate [o, i] (getItem o i)
/-- s[i], 0 ≤ i < len -/
theorem pe_item_str (ha : PE X a ta) (hb : PE X b tb) (hs : PlainIxT b) :
    PE X (.Subscript a b pos) (tOp (fun x y H Q => ∃ z i c, x = .str z ∧ y = .int i ∧ 0 ≤ i ∧ i < 2 ^ 63 ∧ i < z.length ∧ z.cps[i.toNat]? = some c ∧ Q (.str ⟨#[c]⟩) H) ta tb) := by
  intro pins s σ H Q I h
  refine Subscript_ (binT ha hb I h fun v u s2 x y H2 I2 rx ry q => ?_)
  obtain ⟨z, i, c, rfl, rfl, h0, h63, h1, hc, q⟩ := q
  obtain ⟨t, rfl⟩ := rx
  obtain ⟨t', rfl⟩ := ry
  have e : seqIndex? i z.length = some i.toNat := PySem.StrLaws.seqIndex_nonneg h0 h1
  exact tail_any (typeIs_str s2 z t) slot_str_getitem.lookup (getItem_str (c := c) (by
    have e1 : decide (i < -(2 ^ 63 : Int)) = false := decide_eq_false (by omega)
    have e2 : decide (i ≥ 2 ^ 63) = false := decide_eq_false (by omega)
    rw [e1, e2] <;> rfl) (by rw [e]; exact hc) ⟨.str ⟨#[c]⟩, H2, I2.tok _, ⟨_, rfl⟩, q⟩) (hs _ _)
/-- b[i], 0 ≤ i < len -/
theorem pe_item_byt (ha : PE X a ta) (hb : PE X b tb) (hs : PlainIxT b) :
    PE X (.Subscript a b pos) (tOp (fun x y H Q => ∃ (z : List UInt8) (i : Int), x = .byt z.toArray ∧ y = .int i ∧ z.length ≤ sizeLine ∧ 0 ≤ i ∧ i < z.length ∧ Q (.int ((z.getD i.toNat 0).toNat : Nat)) H) ta tb) := by
  intro pins s σ H Q I h
  refine Subscript_ (binT ha hb I h fun v u s2 x y H2 I2 rx ry q => ?_)
  obtain ⟨z, i, rfl, rfl, hz, h0, h1, q⟩ := q
  obtain ⟨t, rfl⟩ := rx
  obtain ⟨t', rfl⟩ := ry
  have hl : sizeLine = 16777216 := sizeLine_eq
  exact tail_any (PySem.W.typeIs_bytes s2 z.toArray t) PySem.W.FB.slot_bytes_getitem.lookup (PySem.W.getItem_bytes (by omega) h0 h1 ⟨.int ((z.getD i.toNat 0).toNat : Nat), H2, I2.tok _, ⟨_, rfl⟩, q⟩) (hs _ _)

/-! ### scalar builtins, by CallR -/
theorem vals1 {x : V} {us : List Value} (r : Vals [x] us) : ∃ u, us = [u] ∧ RelV x u := by
  cases r with
  | cons r1 r2 => cases r2; exact ⟨_, rfl, r1⟩
theorem vals2 {x y : V} {us : List Value} (r : Vals [x, y] us) : ∃ u w', us = [u, w'] ∧ RelV x u ∧ RelV y w' := by
  cases r with
  | cons r1 r2 =>
    cases r2 with
    | cons r3 r4 => cases r4; exact ⟨_, _, rfl, r1, r3⟩
theorem call_abs : CallR X (.builtin "abs") (fun xs H Q => ∃ i, xs = [.int i] ∧ Q (.int (if i < 0 then -i else i)) H) := by
  intro pins s σ H xs us Q I r h
  obtain ⟨i, rfl, q⟩ := h
  obtain ⟨u, rfl, t, rfl⟩ := vals1 r
  exact call_abs_int fun u tk => ⟨.int (if i < 0 then -i else i), H, I.tok _, ⟨_, rfl⟩, q⟩
theorem call_max2 (hc : X.calm = true) : CallR X (.builtin "max") (fun xs H Q => ∃ i j, xs = [.int i, .int j] ∧ Q (.int (if j > i then j else i)) H) := by
  intro pins s σ H xs us Q I r h
  obtain ⟨i, j, rfl, q⟩ := h
  obtain ⟨u, w', rfl, ⟨t, rfl⟩, ⟨t', rfl⟩⟩ := vals2 r
  refine max_two_ints (I.ok.hd hc) fun h' tk k => ⟨_, H, I.kept k, ?_, q⟩
  by_cases hj : j > i
  · rw [if_pos hj, if_pos hj]; exact ⟨_, rfl⟩
  · rw [if_neg hj, if_neg hj]; exact ⟨_, rfl⟩
theorem call_min2 (hc : X.calm = true) : CallR X (.builtin "min") (fun xs H Q => ∃ i j, xs = [.int i, .int j] ∧ Q (.int (if j < i then j else i)) H) := by
  intro pins s σ H xs us Q I r h
  obtain ⟨i, j, rfl, q⟩ := h
  obtain ⟨u, w', rfl, ⟨t, rfl⟩, ⟨t', rfl⟩⟩ := vals2 r
  refine min_two_ints (I.ok.hd hc) fun h' tk k => ⟨_, H, I.kept k, ?_, q⟩
  by_cases hj : j < i
  · rw [if_pos hj, if_pos hj]; exact ⟨_, rfl⟩
  · rw [if_neg hj, if_neg hj]; exact ⟨_, rfl⟩
theorem call_int1 : CallR X (.type "int") (fun xs H Q => (∃ i, xs = [.int i] ∧ Q (.int i) H) ∨ ∃ k, xs = [.bl k] ∧ Q (.int (if k then 1 else 0)) H) := by
  intro pins s σ H xs us Q I r h
  rcases h with ⟨i, rfl, q⟩ | ⟨k, rfl, q⟩
  · obtain ⟨u, rfl, t, rfl⟩ := vals1 r
    exact call_int_int ⟨.int i, H, I, ⟨_, rfl⟩, q⟩
  · obtain ⟨u, rfl, r1⟩ := vals1 r
    cases r1
    exact call_int_bool ⟨.int (if k then 1 else 0), H, I.tok _, ⟨_, rfl⟩, q⟩
theorem call_bool1 : CallR X (.type "bool") (fun xs H Q => (∃ i, xs = [.int i] ∧ Q (.bl (i != 0)) H) ∨ ∃ k, xs = [.bl k] ∧ Q (.bl k) H) := by
  intro pins s σ H xs us Q I r h
  rcases h with ⟨i, rfl, q⟩ | ⟨k, rfl, q⟩
  · obtain ⟨u, rfl, t, rfl⟩ := vals1 r
    exact call_bool_int ⟨.bl (i != 0), H, I, rfl, q⟩
  · obtain ⟨u, rfl, r1⟩ := vals1 r
    cases r1
    exact call_bool_bool ⟨.bl k, H, I, rfl, q⟩
theorem call_str_int : CallR X (.type "str") (fun xs H Q => ∃ i, xs = [.int i] ∧ i.natAbs.log2 < 1920 ∧ Q (.str (toString i)) H) := by
  intro pins s σ H xs us Q I r h
  obtain ⟨i, rfl, hz, q⟩ := h
  obtain ⟨u, rfl, t, rfl⟩ := vals1 r
  exact PySem.P.str_of_int hz ⟨.str _, H, I.tok _, ⟨_, rfl⟩, q⟩
theorem call_ord : CallR X (.builtin "ord") (fun xs H Q => ∃ x, xs = [.str x] ∧ x.length = 1 ∧ Q (.int (x.cps.getD 0 0 : Nat)) H) := by
  intro pins s σ H xs us Q I r h
  obtain ⟨x, rfl, hz, q⟩ := h
  obtain ⟨u, rfl, t, rfl⟩ := vals1 r
  exact ord_of_one hz ⟨.int _, H, I.tok _, ⟨_, rfl⟩, q⟩
theorem call_chr : CallR X (.builtin "chr") (fun xs H Q => ∃ i, xs = [.int i] ∧ 0 ≤ i ∧ i ≤ 1114111 ∧ Q (.str ⟨#[i.toNat]⟩) H) := by
  intro pins s σ H xs us Q I r h
  obtain ⟨i, rfl, h0, h1, q⟩ := h
  obtain ⟨u, rfl, t, rfl⟩ := vals1 r
  exact chr_of_range h0 h1 ⟨.str _, H, I.tok _, ⟨_, rfl⟩, q⟩
/-- len of a str, a bytes, a list, a tuple -/
def LenV (K : PySem.W.Frag) (x : V) (H : Hp) (n : Nat) : Prop :=
  match x with
  | .str y => y.length ≤ sizeLine ∧ n = y.length
  | .byt y => y.size ≤ sizeLine ∧ n = y.size
  | .ref p => (∃ xs, SqL K H p xs ∧ n = xs.length) ∨ ∃ xs, SqT K H p xs ∧ n = xs.length
  | _ => False
theorem call_len : CallR X (.builtin "len") (fun xs H Q => ∃ x n, xs = [x] ∧ LenV X.K x H n ∧ Q (.int n) H) := by
  intro pins s σ H xs us Q I r h
  obtain ⟨x, n, rfl, e, q⟩ := h
  obtain ⟨u, rfl, rx⟩ := vals1 r
  have hl := line63
  have hs : sizeLine = 16777216 := sizeLine_eq
  cases x with
  | str y =>
    obtain ⟨t, rfl⟩ := rx
    obtain ⟨hy, e'⟩ : y.length ≤ sizeLine ∧ n = y.length := e
    subst e'
    exact len_str (by omega) ⟨.int _, H, I.tok _, ⟨_, rfl⟩, q⟩
  | byt y =>
    obtain ⟨t, rfl⟩ := rx
    obtain ⟨hy, e'⟩ : y.size ≤ sizeLine ∧ n = y.size := e
    subst e'
    exact PySem.W.len_bytes (by omega) ⟨.int _, H, I.tok _, ⟨_, rfl⟩, q⟩
  | ref p =>
    cases rx
    have e' : (∃ xs, SqL X.K H p xs ∧ n = xs.length) ∨ ∃ xs, SqT X.K H p xs ∧ n = xs.length := e
    rcases e' with ⟨xs, hx, e'⟩ | ⟨xs, hx, e'⟩
    · subst e'
      obtain ⟨its, r', pl, hz⟩ := I.list hx
      have hlen := r'.length
      exact Calls.call_len_list pl.isList (by simp only [List.size_toArray]; omega) ⟨.int xs.length, H, I.tok _, ⟨_, by simp only [List.size_toArray]; rw [hlen]⟩, q⟩
    · subst e'
      obtain ⟨its, r', pl, hz⟩ := I.tuple hx
      have hlen := r'.length
      exact len_tuple pl (by simp only [List.size_toArray]; omega) ⟨.int xs.length, H, I.tok _, ⟨_, by simp only [List.size_toArray]; rw [hlen]⟩, q⟩
  | _ => exact (show False from e).elim
/-- divmod: a new tuple -/
theorem call_divmod : CallR X (.builtin "divmod") (fun xs H Q => ∃ i j, xs = [.int i, .int j] ∧ CDiv i j ∧ ∀ p, H p = none → Q (.ref p) (upd H p (.tup [.int (i / j), .int (i % j)]))) := by
  intro pins s σ H xs us Q I r h
  obtain ⟨i, j, rfl, ⟨h1, h2⟩, q⟩ := h
  obtain ⟨u, w', rfl, ⟨t, rfl⟩, ⟨t', rfl⟩⟩ := vals2 r
  refine divmod_int (by omega) ?_ (.inl (PyProof.noPylong_small (by omega)))
  rw [Int.fdiv_eq_ediv_of_nonneg i (by omega), Int.fmod_eq_emod_of_nonneg i (by omega)]
  have hn : H s.heap.objs.size = none := I.hok.fresh (Nat.le_refl _)
  refine ⟨.ref s.heap.objs.size, _, ?_, rfl, q _ hn⟩
  refine I.laid (fun b o e => Heap.get?_push_of_some _ e) (Nat.le_refl _) ⟨by simp only [List.length_cons, List.length_nil]; rw [sizeLine_eq]; decide, [.int (i / j) s.toks, .int (i % j) (s.toks + 1)], .cons ⟨_, rfl⟩ (.cons ⟨_, rfl⟩ .nil), ?_⟩
  exact ⟨_, Heap.get?_push_size s.heap rfl, rfl, 0, rfl⟩
end
end L2

namespace L2
open PySem PySem.Spec PyProof.Rows

/-! ### an instance, its attributes a map -/
structure ObjM (h : Heap) (x dx C : Addr) (mA : Str → Option Value) : Prop where
  obj : h.get? x = some (PySem.W.instObj C dx)
  ns : h.Ns1 dx mA
  ne : dx ≠ x

theorem lookIn_ns {h : Heap} {dx : Addr} {mA : Str → Option Value} (n : h.Ns1 dx mA) : ∃ od, h.get? dx = some od ∧ ∀ name, PySem.W.lookIn name od = some (mA name) := by
  obtain ⟨o, es, ep, ho, hd, hk, _, hm⟩ := n
  refine ⟨o, ho, fun name => ?_⟩
  have e := hm name
  unfold nsFind findBy at e
  rw [← Array.find?_toList] at e
  unfold PySem.W.lookIn
  rw [hd]
  dsimp only
  split
  · rename_i y q
    rw [q] at e
    exact congrArg some e
  · rename_i q
    rw [q] at e
    have a : es.toList.any (·.refKey) = false := by
      rw [List.any_eq_false]
      intro y hy
      obtain ⟨z, t, hkey⟩ := hk y (Array.mem_toList_iff.mp hy)
      simp [DictEntry.refKey, hkey]
    have a' : ¬ es.toList.any (·.refKey) = true := by rw [a]; exact Bool.false_ne_true
    rw [if_neg a']
    exact congrArg some e

theorem ObjM.look {h : Heap} {x dx C : Addr} {mA : Str → Option Value} (I : ObjM h x dx C mA) : ∃ od, PySem.W.InstAt h x (PySem.W.instObj C dx) C (some od) ∧ ∀ name, PySem.W.lookIn name od = some (mA name) :=
  let ⟨od, ho, hl⟩ := lookIn_ns I.ns
  ⟨od, ⟨I.obj, rfl, rfl, ho⟩, hl⟩

section
variable {prog : Program} {w : World} {A : Around} {E : Value → Shared → Prop} {s : Shared} {K : PySem.W.Frag} {x dx C f : Addr} {mA : Str → Option Value} {name : Str} {v : Value}

theorem get_map {expr : Bool} {Q : Value → Shared → Prop} (X : K.In s.heap) (I : ObjM s.heap x dx C mA) (hg : PySem.W.plainGet K C name = true) (hh : PySem.W.hasDictIn K C = true)
    (ha : PySem.W.findIn K (.ref C) name = some none) (hv : mA name = some v) (hv' : PySem.W.handedIn v = true) (h : Q v { s with toks := s.toks + 1 }) :
    wpAny (model prog w) A (getAttr (.ref x) name expr) Q E s := by
  obtain ⟨od, J, hl⟩ := I.look
  exact PySem.W.get_value X J (PySem.W.plainGet_of hg).1 (PySem.W.findObj_own hh ha rfl (by rw [hl, hv])) hv' h

theorem get_const {expr : Bool} {a : Value} {Q : Value → Shared → Prop} (X : K.In s.heap) (I : ObjM s.heap x dx C mA) (hg : PySem.W.plainGet K C name = true) (hh : PySem.W.hasDictIn K C = true)
    (ha : PySem.W.findIn K (.ref C) name = some (some a)) (hn : PySem.W.specialIn K a "__get__" = some none) (hc : PySem.W.copiedNames.contains name = false) (hv : mA name = none) (hv' : PySem.W.handedIn a = true)
    (h : Q a { s with toks := s.toks + 1 }) : wpAny (model prog w) A (getAttr (.ref x) name expr) Q E s := by
  obtain ⟨od, J, hl⟩ := I.look
  exact PySem.W.get_value X J (PySem.W.plainGet_of hg).1 (PySem.W.findObj_cls hh ha hn hv' hc (by rw [hl, hv])) hv' h

theorem get_meth {pl : Sem Bool} {Q : Value × List Value → Shared → Prop} (X : K.In s.heap) (I : ObjM s.heap x dx C mA) (hg : PySem.W.plainGet K C name = true)
    (hf : PySem.W.findIn K (.ref C) name = some (some (.ref f))) (ht : PySem.W.isFn K (.ref f) = true) (hv : mA name = none) (h : Q (.ref f, [.ref x]) s) :
    wpAny (model prog w) A (getMethod (.ref x) name pl) Q E s := by
  obtain ⟨od, J, hl⟩ := I.look
  exact PySem.W.method_fn X J (PySem.W.plainGet_of hg).1 (PySem.W.plainGet_of hg).2 hf (beq_iff_eq.mp ht) (by show (PySem.W.lookIn name od).map (·.isSome) = some false; rw [hl, hv]; rfl) h

theorem set_map {ns : List Str} {Q : Unit → Shared → Prop} (X : K.In s.heap) (I : ObjM s.heap x dx C mA)
    (hs : PySem.W.findIn K (.ref C) "__setattr__" = some (some (.builtin "object.__setattr__"))) (hp : PySem.W.plainOver K C = true) (ht : PySem.W.takerIn K C name = some none) (hh : PySem.W.hasDictIn K C = true)
    (hw : PySem.Within mA ns) (hsz : ns.length ≤ sizeLine)
    (h : ∀ h', ObjM h' x dx C (fun y => if y = name then some v else mA y) → Heap.SameBut dx s.heap h' → Q () { s with heap := h', toks := s.toks + 2 }) :
    wpAny (model prog w) A (setAttr (.ref x) name v) Q E s := by
  obtain ⟨od, J, hl⟩ := I.look
  refine PySem.W.set_plain X J hs (PySem.W.osa_open (s := { s with toks := s.toks + 1 }) (r := none) X J hp ht fun b => ?_)
  obtain ⟨cd, hc, hd'⟩ := PySem.W.any_some hh
  have hx : s.heap.get? x = some ⟨.ref C, some dx, .plain, #[]⟩ := I.obj
  refine wpAny_bind (wpAny_pure (wpAny_bind (wpAny_bind (wpAny_loadPart hx (wpAny_bind (PySem.W.Looks.here (s := { s with toks := s.toks + 1 }) (PySem.W.looks_clsIn X hc) ?_))))))
  rw [hd']
  refine wpAny_pure (a := some dx) (wpAny_bind (wpAny_pure (wpAny_bind ?_)))
  refine wpAny_nsSet1 (s := { s with toks := s.toks + 1 }) I.ns fun h' hn2 hs2 => ?_
  obtain ⟨oD, esD, epD, hoD, hdD, hcD⟩ := hn2.count (PySem.Within.cons name v hw)
  refine wpAny_bind (wpAny_lookBehind hoD (by rw [hdD]; exact pastItsLine_dict (Nat.le_trans hcD (by rw [List.length_cons]; omega))) ?_)
  exact wpAny_pure (h _ ⟨(hs2.2 _ (Ne.symm I.ne)).trans I.obj, hn2, I.ne⟩ hs2)

/-- C(..): the dict at the heap's end, the instance behind it; then its __init__ -/
theorem make_map {R : Result → Shared → Prop} {vs : List Value} {kw : List (Str × Value)} (X : K.In s.heap) (hm : PySem.W.makesIn K C = true)
    (hi : PySem.W.findIn K (.ref C) "__init__" = some (some (.ref f))) (hf : PySem.W.typeIn K (.ref f) = some (.type "function"))
    (h : codeAny (model prog w) (A.under (.builtin "type.__call__" ⟨.ref C :: vs, kw⟩)) (.call (.ref f) ⟨.ref (s.heap.objs.size + 1) :: vs, kw⟩) (PySem.W.InitBack (s.heap.objs.size + 1) R)
      { s with heap := (s.heap.push PySem.W.emptyDict).push (PySem.W.instObj C s.heap.objs.size) }) :
    codeAny (model prog w) A (.call (.ref C) ⟨vs, kw⟩) R s := by
  obtain ⟨hh, g, d, t, os⟩ := s
  exact PySem.W.make_core (PySem.W.makes_of X hm) (PySem.W.looks_findIn X hi) (fun self => PySem.W.bind_fn X self hf) (.inl rfl) h
/-- C() where there is no __init__ but object's -/
theorem make_map0 {R : Result → Shared → Prop} (X : K.In s.heap) (hm : PySem.W.makesIn K C = true)
    (hi : PySem.W.findIn K (.ref C) "__init__" = some (some (.builtin "object.__init__")))
    (hb : ∀ self, PySem.W.Looks (model prog w) s.heap (bindSpecial (.builtin "object.__init__") self) (.builtin "object.__init__", [self]))
    (h : codeAny (model prog w) (A.under (.builtin "type.__call__" ⟨[.ref C], []⟩)) (.call (.builtin "object.__init__") ⟨[.ref (s.heap.objs.size + 1)], []⟩) (PySem.W.InitBack (s.heap.objs.size + 1) R)
      { s with heap := (s.heap.push PySem.W.emptyDict).push (PySem.W.instObj C s.heap.objs.size) }) :
    codeAny (model prog w) A (.call (.ref C) ⟨[], []⟩) R s := by
  obtain ⟨hh, g, d, t, os⟩ := s
  exact PySem.W.make_core (PySem.W.makes_of X hm) (PySem.W.looks_findIn X hi) hb (.inr ⟨rfl, rfl⟩) h
end

/-! ### the attributes as a list of pairs -/
def putF (f : Str) (v : V) : List (Str × V) → List (Str × V)
  | [] => [(f, v)]
  | (g, x) :: r => if g = f then (g, v) :: r else (g, x) :: putF f v r
theorem lookup_putF (f g : Str) (v : V) : ∀ fs : List (Str × V), (putF f v fs).lookup g = if g = f then some v else fs.lookup g
  | [] => by
    show List.lookup g [(f, v)] = _
    by_cases h : g = f
    · have hb : (g == f) = true := beq_iff_eq.mpr h
      simp only [List.lookup, hb, if_pos h]
    · have hb : (g == f) = false := beq_eq_false_iff_ne.mpr h
      simp only [List.lookup, hb, if_neg h]
  | (k, x) :: r => by
    have ih := lookup_putF f g v r
    rw [show putF f v ((k, x) :: r) = (if k = f then (k, v) :: r else (k, x) :: putF f v r) from rfl]
    by_cases hk : k = f
    · rw [if_pos hk]
      by_cases h : g = k
      · have hb : (g == k) = true := beq_iff_eq.mpr h
        simp only [List.lookup, hb, if_pos (h.trans hk)]
      · have hb : (g == k) = false := beq_eq_false_iff_ne.mpr h
        simp only [List.lookup, hb, if_neg (fun e : g = f => h (e.trans hk.symm))]
    · rw [if_neg hk]
      by_cases h : g = k
      · have hb : (g == k) = true := beq_iff_eq.mpr h
        simp only [List.lookup, hb, if_neg (fun e : g = f => hk (h.symm.trans e))]
      · have hb : (g == k) = false := beq_eq_false_iff_ne.mpr h
        simp only [List.lookup, hb]
        exact ih
theorem keys_putF (f : Str) (v : V) : ∀ fs : List (Str × V), f ∈ (putF f v fs).map (·.1) ∧ ∀ g, g ∈ fs.map (·.1) → g ∈ (putF f v fs).map (·.1)
  | [] => ⟨by simp [putF], fun g h => by simp at h⟩
  | (k, x) :: r => by
    obtain ⟨i1, i2⟩ := keys_putF f v r
    rw [show putF f v ((k, x) :: r) = (if k = f then (k, v) :: r else (k, x) :: putF f v r) from rfl]
    by_cases hk : k = f
    · rw [if_pos hk]
      subst hk
      exact ⟨by simp, fun g h => by simpa using h⟩
    · rw [if_neg hk]
      refine ⟨?_, fun g h => ?_⟩
      · rw [List.map_cons]
        exact List.mem_cons_of_mem _ i1
      · rw [List.map_cons] at h ⊢
        rcases List.mem_cons.mp h with e | e
        · exact List.mem_cons.mpr (.inl e)
        · exact List.mem_cons_of_mem _ (i2 g e)
theorem length_putF (f : Str) (v : V) : ∀ fs : List (Str × V), (putF f v fs).length ≤ fs.length + 1
  | [] => by simp [putF]
  | (k, x) :: r => by
    have ih := length_putF f v r
    rw [show putF f v ((k, x) :: r) = (if k = f then (k, v) :: r else (k, x) :: putF f v r) from rfl]
    by_cases hk : k = f
    · rw [if_pos hk, List.length_cons, List.length_cons]; omega
    · rw [if_neg hk, List.length_cons, List.length_cons]; omega

theorem RelO.some_of {v : V} {o : Option Value} (r : RelO (some v) o) : ∃ u, o = some u ∧ RelV v u := by
  cases o with
  | none => exact (show False from r).elim
  | some u => exact ⟨u, rfl, r⟩
theorem RelO.none_of {o : Option Value} (r : RelO none o) : o = none := by
  cases o with
  | none => rfl
  | some u => exact (show False from r).elim
theorem handed_of {v : V} {u : Value} (r : RelV v u) : PySem.W.handedIn u = true := by
  cases v with
  | non => cases (show u = Value.none from r); rfl
  | bl b => cases (show u = Value.bool b from r); rfl
  | int i => obtain ⟨t, e⟩ := (show ∃ t, u = Value.int i t from r); cases e; rfl
  | str x => obtain ⟨t, e⟩ := (show ∃ t, u = Value.str x t from r); cases e; rfl
  | byt b => obtain ⟨t, e⟩ := (show ∃ t, u = Value.bytes b t from r); cases e; rfl
  | flt b => obtain ⟨t, e⟩ := (show ∃ t, u = Value.float b t from r); cases e; rfl
  | ref a => cases (show u = Value.ref a from r); rfl
  | ty n => cases (show u = Value.type n from r); rfl

section
variable {P : Program} {w : World} {H H' : Hp} {h h' : Heap} {a C dx : Addr} {fs fs' : List (Str × V)}
theorem ins_get (hok : HOk P w H h) (e : H a = some (.ins C dx fs)) : ∃ mA, ObjM h a dx C mA ∧ (∀ f, RelO (fs.lookup f) (mA f)) ∧ PySem.Within mA (fs.map (·.1)) ∧ fs.length ≤ 1000 ∧ H dx = some (.own a) := by
  obtain ⟨d, z, ne, ob, mA, n, r, q⟩ := (show ObjOk P w H h a (.ins C dx fs) from hok a _ e)
  exact ⟨mA, ⟨ob, n, ne⟩, r, q, z, d⟩
end

/-! ### what of the text a class must have -/
structure Cls (K : PySem.W.Frag) (C : Addr) : Prop where
  pg : PySem.W.plainGet K C Str.empty = true
  hd : PySem.W.hasDictIn K C = true
  po : PySem.W.plainOver K C = true
  sa : PySem.W.findIn K (.ref C) "__setattr__" = some (some (.builtin "object.__setattr__"))
theorem Cls.get {K : PySem.W.Frag} {C : Addr} (c : Cls K C) (f : Str) : PySem.W.plainGet K C f = true := c.pg
/-- no class of it has the name -/
def NoAttr (K : PySem.W.Frag) (C : Addr) (f : Str) : Prop := PySem.W.findIn K (.ref C) f = some none
theorem NoAttr.taker {K : PySem.W.Frag} {C : Addr} {f : Str} (n : NoAttr K C f) : PySem.W.takerIn K C f = some none := by
  unfold PySem.W.takerIn
  rw [show PySem.W.findIn K (.ref C) f = some none from n]
  rfl
/-- a constant of the class -/
structure Con (K : PySem.W.Frag) (C : Addr) (f : Str) (v : V) (u : Value) : Prop where
  at_ : PySem.W.findIn K (.ref C) f = some (some u)
  rel : RelV v u
  get : PySem.W.specialIn K u "__get__" = some none
  cp : PySem.W.copiedNames.contains f = false
/-- a method: a plain def of the class or of one above it -/
structure Meth (K : PySem.W.Frag) (C : Addr) (m : Str) (f : Addr) : Prop where
  at_ : PySem.W.findIn K (.ref C) m = some (some (.ref f))
  fn : PySem.W.isFn K (.ref f) = true
  kp : PySem.W.keepIn K (.ref f) = true

section
variable {X : Cx} {pins : List (Addr × Obj)} {σ : St} {H : Hp} {s : Shared} {a C dx : Addr} {fs : List (Str × V)} {f : Str} {v : V} {A : Around} {E : Value → Shared → Prop}

theorem getattr_ok {b : Bool} {Q : Value → Shared → Prop} (I : Inv X pins σ H s) (e : H a = some (.ins C dx fs)) (c : Cls X.K C) (n : NoAttr X.K C f) (l : fs.lookup f = some v)
    (h : ∀ u s', Inv X pins σ H s' → RelV v u → Q u s') : wpAny (model X.prog X.w) A (getAttr (.ref a) f b) Q E s := by
  obtain ⟨mA, O, r, _, _, _⟩ := ins_get I.hok e
  obtain ⟨u, hu, ru⟩ := RelO.some_of (v := v) (o := mA f) (by rw [← l]; exact r f)
  exact get_map I.kIn O (c.get f) c.hd n hu (handed_of ru) (h u _ (I.tok _) ru)

theorem getcon_ok {b : Bool} {u : Value} {Q : Value → Shared → Prop} (I : Inv X pins σ H s) (e : H a = some (.ins C dx fs)) (c : Cls X.K C) (k : Con X.K C f v u) (l : fs.lookup f = none)
    (h : ∀ s', Inv X pins σ H s' → Q u s') : wpAny (model X.prog X.w) A (getAttr (.ref a) f b) Q E s := by
  obtain ⟨mA, O, r, _, _, _⟩ := ins_get I.hok e
  have hn : mA f = none := RelO.none_of (by rw [← l]; exact r f)
  exact get_const I.kIn O (c.get f) c.hd k.at_ k.get k.cp hn (handed_of k.rel) (h _ (I.tok _))

theorem getmeth_ok {m : Str} {g : Addr} {pl : Sem Bool} {Q : Value × List Value → Shared → Prop} (I : Inv X pins σ H s) (e : H a = some (.ins C dx fs)) (c : Cls X.K C) (k : Meth X.K C m g) (l : fs.lookup m = none)
    (h : Q (.ref g, [.ref a]) s) : wpAny (model X.prog X.w) A (getMethod (.ref a) m pl) Q E s := by
  obtain ⟨mA, O, r, _, _, _⟩ := ins_get I.hok e
  have hn : mA m = none := RelO.none_of (by rw [← l]; exact r m)
  exact get_meth I.kIn O (c.get m) k.at_ k.fn hn h

theorem setattr_ok {y : V} {u : Value} {Q : Unit → Shared → Prop} (I : Inv X pins σ H s) (e : H a = some (.ins C dx fs)) (c : Cls X.K C) (n : NoAttr X.K C f) (hl : fs.length < 1000) (ry : RelV y u)
    (h : ∀ s', Inv X pins σ (upd H a (.ins C dx (putF f y fs))) s' → Q () s') : wpAny (model X.prog X.w) A (setAttr (.ref a) f u) Q E s := by
  obtain ⟨mA, O, r, wi, _, ho⟩ := ins_get I.hok e
  have hz : (fs.map (·.1)).length ≤ sizeLine := by rw [List.length_map, sizeLine_eq]; omega
  refine set_map I.kIn O c.sa c.po n.taker c.hd wi hz fun h' O' sb => h _ ?_
  have hd : ∃ o, h'.get? dx = some o := let ⟨o, _, _, e', _⟩ := O'.ns; ⟨o, e'⟩
  refine I.write (x := a) (e := dx) (by rw [e]; exact True.intro) (.inr ho) (fun b q hb z => (sb.2 b hb).trans z) hd ?_
  refine ⟨by rw [upd_ne O.ne]; exact ho, ?_, O.ne, O'.obj, _, O'.ns, fun g => ?_, fun g hg => ?_⟩
  · have := length_putF f y fs; omega
  · show RelO ((putF f y fs).lookup g) (if g = f then some u else mA g)
    rw [lookup_putF]
    by_cases q : g = f
    · rw [if_pos q, if_pos q]; exact ry
    · rw [if_neg q, if_neg q]; exact r g
  · by_cases q : g = f
    · rw [q]; exact (keys_putF f y fs).1
    · refine (keys_putF f y fs).2 g (wi g fun z => hg ?_)
      show (if g = f then some u else mA g) = none
      rw [if_neg q]; exact z

/-- a new instance, tracked, without attributes -/
theorem Inv.made (I : Inv X pins σ H s) : Inv X pins σ (upd (upd H s.heap.objs.size (.own (s.heap.objs.size + 1))) (s.heap.objs.size + 1) (.ins C s.heap.objs.size []))
    { s with heap := (s.heap.push PySem.W.emptyDict).push (PySem.W.instObj C s.heap.objs.size) } := by
  have e1 : (s.heap.push PySem.W.emptyDict).get? s.heap.objs.size = some PySem.W.emptyDict := Heap.get?_push_size s.heap rfl
  have e2 : ((s.heap.push PySem.W.emptyDict).push (PySem.W.instObj C s.heap.objs.size)).get? (s.heap.objs.size + 1) = some (PySem.W.instObj C s.heap.objs.size) := by
    have := Heap.get?_push_size (s.heap.push PySem.W.emptyDict) (o := PySem.W.instObj C s.heap.objs.size) rfl
    rwa [Heap.size_push] at this
  have e3 : (s.heap.push PySem.W.emptyDict).Ns s.heap.objs.size (fun _ => none) := ⟨PySem.W.emptyDict, #[], _, e1, rfl, (fun e he => absurd he (by simp)), fun _ => rfl⟩
  have I1 := I.laid (a := s.heap.objs.size) (o := .own (s.heap.objs.size + 1)) (h' := s.heap.push PySem.W.emptyDict) (t' := s.toks) (fun b u q => Heap.get?_push_of_some _ q) (Nat.le_refl _) ⟨_, e1⟩
  refine I1.laid (a := s.heap.objs.size + 1) (o := .ins C s.heap.objs.size []) (t' := s.toks) (fun b u q => Heap.get?_push_of_some _ q) (Nat.le_of_eq (Heap.size_push _ _)) ?_
  have ne : s.heap.objs.size ≠ s.heap.objs.size + 1 := Nat.ne_of_lt (Nat.lt_succ_self _)
  refine ⟨by rw [upd_ne ne, upd_same], Nat.zero_le _, ne, e2, fun _ => none, (Heap.Ns1.of_empty e3).at fun o q => Heap.get?_push_of_some _ q, fun _ => True.intro, fun y hy => absurd rfl hy⟩

/-- e.f where nothing but the object is asked: through attributeBase (super) and the last hold -/
theorem attr_of {prog : Program} {w : World} {env : Env} {e : Expr} {f : Str} {pos : Pos} {s : Shared} {Q : Value → Shared → Prop} (hb : attributeBase e f env (eval e env) = eval e env)
    (h : wpAny (model prog w) A (eval e env) (fun o s₁ => wpAny (model prog w) A (getAttr o f true) Q E s₁) E s) : wpAny (model prog w) A (eval (.Attribute e f pos) env) Q E s :=
  Attribute_any_ h (by rw [arm_eval_Attribute, hb])
end

/-! ### readings and rules -/
/-- e.f, an attribute of the instance -/
def tFld (K : PySem.W.Frag) (ta : TE) (f : Str) : TE := fun σ H Q => ta σ H fun x H1 => ∃ a C dx fs v, x = .ref a ∧ H1 a = some (.ins C dx fs) ∧ Cls K C ∧ NoAttr K C f ∧ fs.lookup f = some v ∧ Q v H1
/-- e.f, a constant of the class -/
def tCon (K : PySem.W.Frag) (ta : TE) (f : Str) : TE := fun σ H Q => ta σ H fun x H1 => ∃ a C dx fs v u, x = .ref a ∧ H1 a = some (.ins C dx fs) ∧ Cls K C ∧ Con K C f v u ∧ fs.lookup f = none ∧ Q v H1
/-- e.f = value -/
def sFld (K : PySem.W.Frag) (ta tv : TE) (f : Str) : TS := fun D σ H => tv σ H fun y H1 => ta σ H1 fun x H2 => ∃ a C dx fs, x = .ref a ∧ H2 a = some (.ins C dx fs) ∧ Cls K C ∧ NoAttr K C f ∧ fs.length < 1000 ∧
  D.nx σ (upd H2 a (.ins C dx (putF f y fs)))
/-- an augmented operator on two values -/
def InOp (X : Cx) (op : Operator) (rd : V → V → Hp → VK → Prop) : Prop :=
  ∀ (pins : List (Addr × Obj)) (s : Shared) (σ : St) (H : Hp) (x y : V) (u v : Value) (Q : VK), Inv X pins σ H s → RelV x u → RelV y v → rd x y H Q → wpAny (model X.prog X.w) X.A (inplaceOp op u v) (EP X pins σ Q) X.xe s
/-- e.f op= value -/
def sFldAug (K : PySem.W.Frag) (ta tv : TE) (rd : V → V → Hp → VK → Prop) (f : Str) : TS := fun D σ H => ta σ H fun x H1 => ∃ a C dx fs v, x = .ref a ∧ H1 a = some (.ins C dx fs) ∧ Cls K C ∧ NoAttr K C f ∧ fs.lookup f = some v ∧
  tv σ H1 fun y H2 => rd v y H2 fun z H3 => ∃ dx' fs', H3 a = some (.ins C dx' fs') ∧ fs'.length < 1000 ∧ D.nx σ (upd H3 a (.ins C dx' (putF f z fs')))

section
variable {X : Cx} {o e value : Expr} {f : Str} {pos pos' tpos : Pos} {ta tv : TE}
theorem pe_fld (he : PE X e ta) (hb : attributeBase e f X.env (eval e X.env) = eval e X.env) : PE X (.Attribute e f pos) (tFld X.K ta f) := by
  intro pins s σ H Q I h
  refine attr_of hb (thn (he pins s σ H _ I h) fun u s1 ⟨x, H1, I1, rx, a, C, dx, fs, v, ex, ea, c, n, l, q⟩ => ?_)
  subst ex
  obtain rfl : u = Value.ref a := rx
  exact getattr_ok I1 ea c n l fun u' s2 I2 ru => ⟨v, H1, I2, ru, q⟩
theorem pe_con (he : PE X e ta) (hb : attributeBase e f X.env (eval e X.env) = eval e X.env) : PE X (.Attribute e f pos) (tCon X.K ta f) := by
  intro pins s σ H Q I h
  refine attr_of hb (thn (he pins s σ H _ I h) fun u s1 ⟨x, H1, I1, rx, a, C, dx, fs, v, u0, ex, ea, c, k, l, q⟩ => ?_)
  subst ex
  obtain rfl : u = Value.ref a := rx
  exact getcon_ok I1 ea c k l fun s2 I2 => ⟨v, H1, I2, k.rel, q⟩
theorem ps_fld (ha : PE X o ta) (hv : PE X value tv) (hs : swapsWith value (some (.Attribute o f pos')) pos.line X.env = pure false) : PS X (.Assign [.Attribute o f pos'] value pos) (sFld X.K ta tv f) := by
  intro pins s σ H D I h
  refine plainObj_wpAny_Assign_Attribute (thn (hv pins s σ H _ I h) fun u s1 ⟨y, H1, I1, ry, q⟩ => thn (ha pins s1 σ H1 _ I1 q) fun ov s2 ⟨x, H2, I2, rx, a, C, dx, fs, ex, ea, c, n, l, q2⟩ => ?_) hs
  subst ex
  obtain rfl : ov = Value.ref a := rx
  exact setattr_ok I2 ea c n l ry fun s3 I3 => ⟨σ, _, I3, q2⟩
theorem ps_fldaug {op : Operator} {rd : V → V → Hp → VK → Prop} (ha : PE X o ta) (hv : PE X value tv) (hop : InOp X op rd) : PS X (.AugAssign (.Attribute o f tpos) op value pos) (sFldAug X.K ta tv rd f) := by
  intro pins s σ H D I h
  refine wpAny_AugAssign_AttributeAny (thn (ha pins s σ H _ I h) fun ov s1 ⟨x, H1, I1, rx, a, C, dx, fs, v, ex, ea, c, n, l, q⟩ => ?_)
  subst ex
  obtain rfl : ov = Value.ref a := rx
  refine getattr_ok I1 ea c n l fun u s2 I2 ru => thn (hv pins s2 σ H1 _ I2 q) fun w3 s3 ⟨y, H2, I3, ry, q3⟩ => thn (hop pins s3 σ H2 v y u w3 _ I3 ru ry q3) fun w4 s4 ⟨z, H3, I4, rz, dx', fs', ea', l', q4⟩ => ?_
  exact setattr_ok I4 ea' c n l' rz fun s5 I5 => ⟨σ, _, I5, q4⟩
def rAdd : V → V → Hp → VK → Prop := fun x y H Q => ∃ i j, x = .int i ∧ y = .int j ∧ Q (.int (i + j)) H
def rSub : V → V → Hp → VK → Prop := fun x y H Q => ∃ i j, x = .int i ∧ y = .int j ∧ Q (.int (i - j)) H
theorem in_add : InOp X .Add rAdd := by
  rintro pins s σ H x y u v Q I rx ry ⟨i, j, rfl, rfl, q⟩
  obtain ⟨t, rfl⟩ := (show ∃ t, u = Value.int i t from rx)
  obtain ⟨t', rfl⟩ := (show ∃ t', v = Value.int j t' from ry)
  exact PyProof.Rows.iadd_int ⟨.int (i + j), H, I.tok _, ⟨_, rfl⟩, q⟩
theorem in_sub : InOp X .Sub rSub := by
  rintro pins s σ H x y u v Q I rx ry ⟨i, j, rfl, rfl, q⟩
  obtain ⟨t, rfl⟩ := (show ∃ t, u = Value.int i t from rx)
  obtain ⟨t', rfl⟩ := (show ∃ t', v = Value.int j t' from ry)
  exact PyProof.Rows.isub_int ⟨.int (i - j), H, I.tok _, ⟨_, rfl⟩, q⟩

/-- what is between an instance and its method: the tree of a method call -/
theorem methcall_of {pl : Sem Bool} {m : Str} {apos : Pos} {args : List Expr} {pins : List (Addr × Obj)} {s : Shared} {σ : St} {H : Hp} {Q : Value → Shared → Prop} {te : TE} (he : PE X e te) (I : Inv X pins σ H s)
    (h : te σ H fun x H1 => ∃ a C dx fs g, x = .ref a ∧ H1 a = some (.ins C dx fs) ∧ Cls X.K C ∧ Meth X.K C m g ∧ fs.lookup m = none ∧
      ∀ s1, Inv X pins σ H1 s1 → wpAny (model X.prog X.w) X.A (callWith pos (.ref g) [.ref a] (backTo pos (starEach args X.env)) (backToKw pos (keywordEach [] X.env))) Q X.xe s1)
    (ht : eval (.Call (.Attribute e m apos) args [] pos) X.env = (do
      let ov ← eval e X.env
      standAt apos.atName
      let (f, first) ← holding [ov] (getMethod ov m pl)
      callWith pos f first (backTo pos (starEach args X.env)) (backToKw pos (keywordEach [] X.env)))) :
    wpAny (model X.prog X.w) X.A (eval (.Call (.Attribute e m apos) args [] pos) X.env) Q X.xe s := by
  refine PySem.W.methodCall_KW (pl := pl) (thn (he pins s σ H _ I h) fun u s1 ⟨x, H1, I1, rx, a, C, dx, fs, g, ex, ea, c, k, l, q⟩ => ?_) ht
  subst ex
  obtain rfl : u = Value.ref a := rx
  exact getmeth_ok I1 ea c k l (q s1 I1)
end

/-! ### isinstance -/
section
variable {X : Cx} {pins : List (Addr × Obj)} {σ : St} {H : Hp} {s : Shared} {A : Around} {E : Value → Shared → Prop} {Q : Value → Shared → Prop} {c : Value} {b : Bool}
/-- the type of a value, as the fragment's deciders take it; for an instance its class -/
inductive TyOf (K : PySem.W.Frag) (H : Hp) : V → Value → Prop where
  | non : TyOf K H .non (.type "NoneType")
  | bl (x : Bool) : TyOf K H (.bl x) (.type "bool")
  | int (i : Int) : TyOf K H (.int i) (.type "int")
  | str (x : Str) : TyOf K H (.str x) (.type "str")
  | flt (x : UInt64) : TyOf K H (.flt x) (.type "float")
  | lst {a : Addr} {xs : List V} (e : H a = some (.lst xs)) : TyOf K H (.ref a) (.type "list")
  | frz {a : Addr} {o : Obj} {xs : List V} (e : H a = some (.frz o (.lst xs))) : TyOf K H (.ref a) (.type "list")
  | tup {a : Addr} {xs : List V} (e : H a = some (.tup xs)) : TyOf K H (.ref a) (.type "tuple")
  | dK {a : Addr} {kvs : List (Key × V)} (e : H a = some (.dK kvs)) : TyOf K H (.ref a) (.type "dict")
  | dT {a : Addr} {kvs : List (List Key × V)} (e : H a = some (.dT kvs)) : TyOf K H (.ref a) (.type "dict")
  | ins {a C dx : Addr} {fs : List (Str × V)} (e : H a = some (.ins C dx fs)) (cl : Cls K C) (ha : PySem.W.findIn K (.ref C) "__class__" = some (some (.builtin "object.__class__")))
      (hn : PySem.W.specialIn K (.builtin "object.__class__") "__get__" = some (some (.builtin "getset_descriptor.__get__"))) (htk : PySem.W.takesIn K (.builtin "object.__class__") = some true)
      (hm : PySem.W.mroIn K C (.type "object") = some true) : TyOf K H (.ref a) (.ref C)
/-- isinstance(x, c) for one class c, a built-in or an own one: kitOne's answer -/
theorem isinst_ok {x : V} {u t : Value} (I : Inv X pins σ H s) (rx : RelV x u) (ty : TyOf X.K H x t) (e : PySem.W.kitOne X.K t c = some b) (h : ∀ tk, Q (.bool b) { s with toks := tk }) :
    wpAny (model X.prog X.w) A (call (.builtin "isinstance") [u, c]) Q E s := by
  cases ty with
  | non => cases (show u = Value.none from rx); exact PySem.W.kia_one PySem.W.kitx_none I.kIn True.intro e (fun z => nomatch z) h
  | bl y => cases (show u = Value.bool y from rx); exact PySem.W.kia_one PySem.W.kitx_bool I.kIn True.intro e (fun z => nomatch z) h
  | int i => obtain ⟨t, q⟩ := (show ∃ t, u = Value.int i t from rx); cases q; exact PySem.W.kia_one PySem.W.kitx_int I.kIn True.intro e (fun z => nomatch z) h
  | str y => obtain ⟨t, q⟩ := (show ∃ t, u = Value.str y t from rx); cases q; exact PySem.W.kia_one PySem.W.kitx_str I.kIn True.intro e (fun z => nomatch z) h
  | flt y => obtain ⟨t, q⟩ := (show ∃ t, u = Value.float y t from rx); cases q; exact PySem.W.kia_one PySem.W.kitx_float I.kIn True.intro e (fun z => nomatch z) h
  | @lst a xs ea =>
    cases (show u = Value.ref a from rx)
    obtain ⟨_, _, n, _, h1⟩ := (show ObjOk X.prog X.w H s.heap a (.lst xs) from I.hok a _ ea)
    exact PySem.W.kia_one PySem.W.kitx_list I.kIn ⟨_, h1, rfl⟩ e (fun z => nomatch z) h
  | @frz a ob xs ea =>
    cases (show u = Value.ref a from rx)
    obtain ⟨_, _, _, n, _, h1⟩ := (show ObjOk X.prog X.w H s.heap a (.frz ob (.lst xs)) from I.hok a _ ea)
    exact PySem.W.kia_one PySem.W.kitx_list I.kIn ⟨_, h1, rfl⟩ e (fun z => nomatch z) h
  | @tup a xs ea =>
    cases (show u = Value.ref a from rx)
    obtain ⟨_, _, _, p⟩ := (show ObjOk X.prog X.w H s.heap a (.tup xs) from I.hok a _ ea)
    obtain ⟨o, h1, h2, _⟩ := p
    exact PySem.W.kia_one PySem.W.kitx_tuple I.kIn ⟨o, h1, h2⟩ e (fun z => nomatch z) h
  | @dK a kvs ea =>
    cases (show u = Value.ref a from rx)
    obtain ⟨_, _, vs, _, p⟩ := (show ObjOk X.prog X.w H s.heap a (.dK kvs) from I.hok a _ ea)
    obtain ⟨o, es, ep, h1, h2, _⟩ := p
    exact PySem.W.kia_one PySem.W.kitx_dict I.kIn ⟨o, h1, h2.1⟩ e (fun z => nomatch z) h
  | @dT a kvs ea =>
    cases (show u = Value.ref a from rx)
    obtain ⟨_, _, xs, _, o, es, ep, h1, h2, _⟩ := (show ObjOk X.prog X.w H s.heap a (.dT kvs) from I.hok a _ ea)
    exact PySem.W.kia_one PySem.W.kitx_dict I.kIn ⟨o, h1, h2.1⟩ e (fun z => nomatch z) h
  | @ins a C dx fs ea cl ha hn htk hm =>
    cases (show u = Value.ref a from rx)
    obtain ⟨mA, O, _⟩ := ins_get I.hok ea
    obtain ⟨od, J, _⟩ := O.look
    exact PySem.W.kia_one (PySem.W.kitx_own (cl.get _) cl.hd ha hn htk hm) I.kIn J e (fun z => nomatch z) h
end
end L2

namespace L2
open PySem PySem.Spec PyProof.Rows

/-! ### room -/
structure Room (k : Nat) (A : Around) : Prop where
  hd : A.handled = none
  dp : A.depth + 3 * k + 5 < recursionLimit
  un : A.units + 16 * k + 200 < cLine
theorem Room.mono {j k : Nat} {A : Around} (r : Room k A) (h : j ≤ k) : Room j A := ⟨r.hd, by have := r.dp; omega, by have := r.un; omega⟩
theorem Room.deeper {k : Nat} {A : Around} (r : Room (k + 1) A) (env : Env) : Room k (A.deeper env) :=
  ⟨r.hd, by have := r.dp; show A.depth + 1 + 3 * k + 5 < _; omega, by have := r.un; show A.units + 3 + 16 * k + 200 < _; omega⟩
theorem Room.in1 {k : Nat} {A : Around} (r : Room (k + 1) A) : Room k A.in1 :=
  ⟨r.hd, by have := r.dp; show A.depth + 3 * k + 5 < _; omega, by have := r.un; show A.units + 1 + 16 * k + 200 < _; omega⟩
theorem make_depth {A : Around} {C : Addr} {us : List Value} {kw : List (Str × Value)} : (A.under (.builtin "type.__call__" ⟨.ref C :: us, kw⟩)).depth = A.depth + 1 := by
  first | rfl | simp [Around.under, Code.weight, Code.isCreation, Code.isGuard, Code.isCaller, Code.frames, Code.isFrame, guardIds]
theorem make_units {A : Around} {C : Addr} {us : List Value} {kw : List (Str × Value)} : (A.under (.builtin "type.__call__" ⟨.ref C :: us, kw⟩)).units = A.units + 1 := by
  first | rfl | simp [Around.under, Code.cUnits, Code.frames, Code.isFrame]
theorem Room.make {k : Nat} {A : Around} (r : Room (k + 1) A) (C : Addr) (us : List Value) (kw : List (Str × Value)) : Room k (A.under (.builtin "type.__call__" ⟨.ref C :: us, kw⟩)) :=
  ⟨r.hd, by have := r.dp; rw [make_depth]; omega, by have := r.un; rw [make_units]; omega⟩
theorem Room.depth {k : Nat} {A : Around} (r : Room k A) : A.depth < recursionLimit := by have := r.dp; omega
theorem Room.units {k : Nat} {A : Around} (r : Room k A) : A.units + 64 < cLine := by have := r.un; omega
theorem Room.units0 {k : Nat} {A : Around} (r : Room k A) : A.units < cLine := by have := r.un; omega

/-! ### argument lists and displays -/
def tNil : TA := fun _ H Q => Q [] H
def tCons (ta : TE) (tr : TA) : TA := fun σ H Q => ta σ H fun x H1 => tr σ H1 fun xs H2 => Q (x :: xs) H2
section
variable {X : Cx} {e : Expr} {es : List Expr} {te : TE} {t : TA} {pos : Pos}
theorem pa_nil : PA X [] tNil := fun _ _ _ _ H Q I h => Calls.spliced_nil ⟨[], H, I, .nil, h⟩
theorem pa_cons (ha : PE X e te) (hr : PA X es t) (hs : starEach (e :: es) X.env = (false, eval e X.env) :: starEach es X.env := by rfl) : PA X (e :: es) (tCons te t) := by
  intro pos pins s σ H Q I h
  rw [hs]
  show wpAny _ _ (spliced ((false, eval e X.env) :: backTo pos (starEach es X.env))) _ _ s
  refine Calls.spliced_cons (thn (ha pins s σ H _ I h) fun u s1 ⟨x, H1, I1, r1, q1⟩ => ?_)
  exact thn (hr pos pins s1 σ H1 _ I1 q1) fun us s2 ⟨xs, H2, I2, r2, q2⟩ => ⟨x :: xs, H2, I2, .cons r1 r2, q2⟩

/-- a tuple, a list of written items -/
def tTup (t : TA) : TE := fun σ H Q => t σ H fun xs H1 => xs.length ≤ sizeLine ∧ ∀ p, H1 p = none → Q (.ref p) (upd H1 p (.tup xs))
def tLst (t : TA) : TE := fun σ H Q => t σ H fun xs H1 => xs.length ≤ sizeLine ∧ ∀ p, H1 p = none → Q (.ref p) (upd H1 p (.lst xs))
theorem pe_tup {x1} (h : PA X es t) : PE X (.Tuple es x1 pos) (tTup t) := by
  intro pins s σ H Q I hq
  refine wpAny_Tuple_spliced (thn (h pos pins s σ H _ I hq) fun us s1 ⟨xs, H1, I1, r, z, q⟩ => ⟨by rw [← r.length]; exact z, ?_⟩)
  have hf : H1 s1.heap.objs.size = none := I1.hok.fresh (Nat.le_refl _)
  refine ⟨.ref s1.heap.objs.size, upd H1 s1.heap.objs.size (.tup xs), I1.laid (t' := s1.toks) (fun b u e => Heap.get?_push_of_some _ e) (Nat.le_refl _) ?_, rfl, q _ hf⟩
  exact ⟨z, us, r, ⟨_, Heap.get?_push_size _ rfl, rfl, _, rfl⟩⟩
theorem pe_lst (h : PA X es t) : PE X (.List es pos) (tLst t) := by
  intro pins s σ H Q I hq
  refine wpAny_List_spliced (thn (h pos pins s σ H _ I hq) fun us s1 ⟨xs, H1, I1, r, z, q⟩ => ⟨by rw [← r.length]; exact z, ?_⟩)
  have hf : H1 s1.heap.objs.size = none := I1.hok.fresh (Nat.le_refl _)
  refine ⟨.ref s1.heap.objs.size, upd H1 s1.heap.objs.size (.lst xs), I1.laid (t' := s1.toks) (fun b u e => Heap.get?_push_of_some _ e) (Nat.le_refl _) ?_, rfl, q _ hf⟩
  exact ⟨z, us, 0, r, Heap.get?_push_size _ rfl⟩
end

/-! ### what a def promises -/
/-- a def's promise: the bound arguments in the parameters' order, the heap, the wanted end, the wanted exception -/
abbrev Sp := List V → Hp → VK → XK → Prop
/-- how an exception lies behind a call (file 08 gives it): the callers' frames, abstract heap and state ahead of the call, the wish, the exception, the state -/
abbrev CXT := List Env → Hp → Shared → XK → Value → Shared → Prop

/-- the state at a call -/
structure Env0 (P : Program) (w : World) (K : PySem.W.Frag) (mg : Str → Option Value) (base : Heap) (A : Around) (outer : List Env) (s : Shared) (H : Hp) : Prop where
  frames : A.frames = some outer
  mod : Mod K mg base
  bs : ∀ b o, base.get? b = some o → s.heap.get? b = some o ∧ H b = none
  bsz : base.objs.size ≤ s.heap.objs.size
  funs : s.heap.FunFrames base outer
  frf : ∀ b ∈ frs outer, H b = none
  hok : HOk P w H s.heap
  bare : AllBare s.gens
/-- a call's end -/
def CE (outer : List Env) (P : Program) (w : World) (H : Hp) (s : Shared) (Q : VK) (u : Value) (s' : Shared) : Prop :=
  ∃ v H', s'.os = s.os ∧ AllBare s'.gens ∧ Un (frs outer) [] H H' s.heap s'.heap ∧ HOk P w H' s'.heap ∧ RelV v u ∧ Q v H'
def CR (CX : CXT) (outer : List Env) (P : Program) (w : World) (H : Hp) (s : Shared) (Q : VK) (E : XK) (r : Result) (s' : Shared) : Prop :=
  match r with
  | .ok (.ret u) => CE outer P w H s Q u s'
  | .ok _ => False
  | .error e => CX outer H s E e s'
structure FnOk (P : Program) (w : World) (K : PySem.W.Frag) (mg : Str → Option Value) (base : Heap) (CX : CXT) (k : Nat) (f : Addr) (fd : FuncData) (ps : List Str) (sp : Sp) : Prop where
  len : ∀ vs H Q E, sp vs H Q E → vs.length = ps.length
  run : ∀ (A : Around) (outer : List Env) (s : Shared) (H : Hp) (args : Args) (us : List Value) (vs : List V) (Q : VK) (E : XK), Room k A → Env0 P w K mg base A outer s H → BindsTo s fd args (ps.zip us) → Vals vs us → sp vs H Q E →
    codeAny (model P w) A (.call (.ref f) args) (CR CX outer P w H s Q E) s
theorem FnOk.mono {P : Program} {w : World} {K : PySem.W.Frag} {mg : Str → Option Value} {base : Heap} {CX : CXT} {j k : Nat} {f : Addr} {fd : FuncData} {ps : List Str} {sp : Sp} (F : FnOk P w K mg base CX j f fd ps sp) (h : j ≤ k) :
    FnOk P w K mg base CX k f fd ps sp := ⟨F.len, fun A outer s H args us vs Q E hr => F.run A outer s H args us vs Q E (hr.mono h)⟩
/-- a weaker promise -/
theorem FnOk.imp {P : Program} {w : World} {K : PySem.W.Frag} {mg : Str → Option Value} {base : Heap} {CX : CXT} {k : Nat} {f : Addr} {fd : FuncData} {ps : List Str} {sp sp' : Sp} (F : FnOk P w K mg base CX k f fd ps sp)
    (h : ∀ vs H Q E, sp' vs H Q E → sp vs H Q E) : FnOk P w K mg base CX k f fd ps sp' :=
  ⟨fun vs H Q E q => F.len vs H Q E (h _ _ _ _ q), fun A outer s H args us vs Q E hr he hb hv hs => F.run A outer s H args us vs Q E hr he hb hv (h _ _ _ _ hs)⟩

theorem Env0.make {P : Program} {w : World} {K : PySem.W.Frag} {mg : Str → Option Value} {base : Heap} {A : Around} {outer : List Env} {s : Shared} {H : Hp} (e : Env0 P w K mg base A outer s H) (C : Addr) (us : List Value) (kw : List (Str × Value)) :
    Env0 P w K mg base (A.under (.builtin "type.__call__" ⟨.ref C :: us, kw⟩)) outer s H := ⟨by first | exact e.frames | (simpa [Around.under, Code.envs, Code.isFrame, pushEnvs] using e.frames), e.mod, e.bs, e.bsz, e.funs, e.frf, e.hok, e.bare⟩
theorem Env0.in1 {P : Program} {w : World} {K : PySem.W.Frag} {mg : Str → Option Value} {base : Heap} {A : Around} {outer : List Env} {s : Shared} {H : Hp} (e : Env0 P w K mg base A outer s H) :
    Env0 P w K mg base A.in1 outer s H := ⟨e.frames, e.mod, e.bs, e.bsz, e.funs, e.frf, e.hok, e.bare⟩

section
variable {X : Cx} {pins : List (Addr × Obj)} {σ : St} {H : Hp} {s s' : Shared}
/-- from a body: what a callee wants -/
theorem Inv.env0 (I : Inv X pins σ H s) : Env0 X.prog X.w X.K X.mg X.base X.A X.stack s H :=
  ⟨I.ok.frames, I.ok.mod, I.bs, Nat.le_trans I.ok.bsz I.sz, I.stack, I.stkFree, I.hok, I.bare⟩
/-- behind a call -/
theorem Inv.after {Q : VK} {u : Value} (I : Inv X pins σ H s) (h : CE X.stack X.prog X.w H s Q u s') : EP X pins σ Q u s' := by
  obtain ⟨v, H', os, bare, un, hok, r, q⟩ := h
  obtain ⟨hh, g, d, t, os'⟩ := s'
  obtain rfl : os' = s.os := os
  exact ⟨v, H', I.call (h' := hh) (g' := g) (d' := d) (t' := t) (ch := []) un hok bare (fun b z => absurd z (by simp)), r, q⟩
end

/-! ### calls -/
/-- f(..): the written arguments, then the defaults dvs; E: what is wanted of an exception -/
def tCall (sp : Sp) (dvs : List V) (E : XK) (t : TA) : TE := fun σ H Q => t σ H fun vs H1 => sp (vs ++ dvs) H1 Q E
/-- o.m(..) of an instance of the class at C -/
def tMeth (C : Addr) (m : Str) (sp : Sp) (dvs : List V) (E : XK) (ta : TE) (t : TA) : TE := fun σ H Q => ta σ H fun x H1 => ∃ a dx fs, x = .ref a ∧ H1 a = some (.ins C dx fs) ∧ fs.lookup m = none ∧
  t σ H1 fun vs H2 => sp (x :: (vs ++ dvs)) H2 Q E
/-- C(..): a new instance and its dict, then __init__ -/
def tMake (C : Addr) (sp : Sp) (dvs : List V) (E : XK) (t : TA) : TE := fun σ H Q => t σ H fun vs H1 => ∀ x dx, H1 x = none → H1 dx = none → dx ≠ x →
  sp (.ref x :: (vs ++ dvs)) (upd (upd H1 dx (.own x)) x (.ins C dx [])) (fun v H2 => v = .non ∧ Q (.ref x) H2) E

/-- how the parameters are bound: us the positional arguments, kw the keywords' values by name, ds the defaults that fill up -/
def Binds (K : PySem.W.Frag) (fd : FuncData) (ps : List Str) (ds : List Value) : Prop :=
  ∀ (s : Shared) (us : List Value), K.In s.heap → (us ++ ds).length = ps.length → BindsTo s fd ⟨us, []⟩ (ps.zip (us ++ ds))
/-- every parameter is given -/
theorem Binds.all {K : PySem.W.Frag} {fd : FuncData} {ps : List Str} (h : ∀ us : List Value, us.length = ps.length → bindArgs fd ⟨us, []⟩ = pure (ps.zip us)) : Binds K fd ps [] := fun s us _ hl => by
  rw [List.append_nil] at hl ⊢
  exact .of_eq (h us hl)

/-- an exception of a callee reaches what this body wants of exceptions -/
def Passes (CX : CXT) (X : Cx) (E : XK) : Prop := ∀ (pins : List (Addr × Obj)) (σ : St) (H : Hp) (s : Shared) (e : Value) (s' : Shared), Inv X pins σ H s → CX X.stack H s E e s' → X.xe e s'

section
variable {X : Cx} {CX : CXT} {k : Nat} {f C : Addr} {fd : FuncData} {ps : List Str} {sp : Sp} {dvs : List V} {ds : List Value} {E : XK} {x m : Str} {p pos apos : Pos} {e o : Expr} {es : List Expr} {ta : TE} {t : TA}

/-- the callee runs -/
theorem run_fn {pins : List (Addr × Obj)} {σ : St} {H : Hp} {s : Shared} {Q : VK} {us : List Value} {vs : List V} (F : FnOk X.prog X.w X.K X.mg X.base CX k f fd ps sp) (hr : Room k X.A) (hb : Binds X.K fd ps ds) (hd : Vals dvs ds) (hx : Passes CX X E)
    (I : Inv X pins σ H s) (r : Vals vs us) (h : sp (vs ++ dvs) H Q E) : wpAny (model X.prog X.w) X.A (call (.ref f) us) (EP X pins σ Q) X.xe s := by
  have r2 : Vals (vs ++ dvs) (us ++ ds) := r.append hd
  have hl : (us ++ ds).length = ps.length := by rw [← r2.length]; exact F.len _ _ _ _ h
  refine wpAny_call (codeAny_mono (F.run X.A X.stack s H ⟨us, []⟩ (us ++ ds) (vs ++ dvs) Q E hr I.env0 (hb s us I.kIn hl) r2 h) fun r s' hq => ?_)
  cases r with
  | error e => exact hx pins σ H s e s' I hq
  | ok fl =>
    cases fl with
    | ret u => exact I.after hq
    | next => exact False.elim hq
    | brk => exact False.elim hq
    | cont => exact False.elim hq

theorem pe_call (F : FnOk X.prog X.w X.K X.mg X.base CX k f fd ps sp) (hr : Room k X.A) (hg : Gl X x) (hm : X.mg x = some (.ref f)) (hk : PySem.W.keepIn X.K (.ref f) = true) (hb : Binds X.K fd ps ds) (hd : Vals dvs ds) (hx : Passes CX X E)
    (ha : PA X (e :: es) t) (hdb : (x == ("__debug__" : Str)) = false := by decide) (he : starEach (e :: es) X.env = (false, eval e X.env) :: starEach es X.env := by rfl) (hpl : (backTo pos (starEach es X.env)).any (·.1) = false := by rfl) :
    PE X (.Call (.Name x p) (e :: es) [] pos) (tCall sp dvs E t) := by
  intro pins s σ H Q I h
  refine wpAny_Call_Name_kw (ld_glob I hg hm ?_ hdb)
  refine PySem.W.callWith_K (h₀ := X.base) I.ok.mod.kin hk (thn (ha pos pins s σ H _ I h) fun us s1 ⟨vs, H1, I1, r, q⟩ => ⟨I1.kIn, ?_⟩) he hpl
  exact run_fn F hr hb hd hx I1 r q
theorem pe_call0 (F : FnOk X.prog X.w X.K X.mg X.base CX k f fd ps sp) (hr : Room k X.A) (hg : Gl X x) (hm : X.mg x = some (.ref f)) (hk : PySem.W.keepIn X.K (.ref f) = true) (hb : Binds X.K fd ps ds) (hd : Vals dvs ds) (hx : Passes CX X E)
    (hdb : (x == ("__debug__" : Str)) = false := by decide) : PE X (.Call (.Name x p) [] [] pos) (tCall sp dvs E tNil) := by
  intro pins s σ H Q I h
  refine wpAny_Call_Name_kw (ld_glob I hg hm ?_ hdb)
  exact PySem.W.callWith_K0 I.kIn hk (run_fn (us := []) F hr hb hd hx I .nil h)

/-- o.m(e, ..) -/
theorem pe_meth {pl : Sem Bool} (he : PE X o ta) (c : Cls X.K C) (hm : Meth X.K C m f) (F : FnOk X.prog X.w X.K X.mg X.base CX k f fd ps sp) (hr : Room k X.A) (hb : Binds X.K fd ps ds) (hd : Vals dvs ds) (hx : Passes CX X E) (ha : PA X (e :: es) t)
    (hst : starEach (e :: es) X.env = (false, eval e X.env) :: starEach es X.env := by rfl) (hpl : (backTo pos (starEach es X.env)).any (·.1) = false := by rfl)
    (ht : eval (.Call (.Attribute o m apos) (e :: es) [] pos) X.env = (do
      let ov ← eval o X.env
      standAt apos.atName
      let (f, first) ← holding [ov] (getMethod ov m pl)
      callWith pos f first (backTo pos (starEach (e :: es) X.env)) (backToKw pos (keywordEach [] X.env))) := by rfl) :
    PE X (.Call (.Attribute o m apos) (e :: es) [] pos) (tMeth C m sp dvs E ta t) := by
  intro pins s σ H Q I h
  refine PySem.W.methodCall_KW (pl := pl) (thn (he pins s σ H _ I h) fun u s1 ⟨x, H1, I1, rx, a, dx, fs, ex, ea, l, q⟩ => ?_) ht
  subst ex
  obtain rfl : u = Value.ref a := rx
  refine getmeth_ok I1 ea c hm l ?_
  refine PySem.W.callWith_K (first := [.ref a]) (h₀ := X.base) I.ok.mod.kin hm.kp (thn (ha pos pins s1 σ H1 _ I1 q) fun us s2 ⟨vs, H2, I2, r, q2⟩ => ⟨I2.kIn, ?_⟩) hst hpl
  exact run_fn (us := .ref a :: us) (vs := .ref a :: vs) F hr hb hd hx I2 (.cons rfl r) q2
/-- o.m() -/
theorem pe_meth0 {pl : Sem Bool} (he : PE X o ta) (c : Cls X.K C) (hm : Meth X.K C m f) (F : FnOk X.prog X.w X.K X.mg X.base CX k f fd ps sp) (hr : Room k X.A) (hb : Binds X.K fd ps ds) (hd : Vals dvs ds) (hx : Passes CX X E)
    (ht : eval (.Call (.Attribute o m apos) [] [] pos) X.env = (do
      let ov ← eval o X.env
      standAt apos.atName
      let (f, first) ← holding [ov] (getMethod ov m pl)
      callWith pos f first (backTo pos (starEach [] X.env)) (backToKw pos (keywordEach [] X.env))) := by rfl) :
    PE X (.Call (.Attribute o m apos) [] [] pos) (tMeth C m sp dvs E ta tNil) := by
  intro pins s σ H Q I h
  refine PySem.W.methodCall_KW (pl := pl) (thn (he pins s σ H _ I h) fun u s1 ⟨x, H1, I1, rx, a, dx, fs, ex, ea, l, q⟩ => ?_) ht
  subst ex
  obtain rfl : u = Value.ref a := rx
  refine getmeth_ok I1 ea c hm l ?_
  exact PySem.W.callWith_K0 (first := [.ref a]) I1.kIn hm.kp (run_fn (us := [.ref a]) (vs := [.ref a]) F hr hb hd hx I1 (.cons rfl .nil) q)

/-- what a class must have to be made -/
structure Mk (K : PySem.W.Frag) (C f : Addr) : Prop where
  makes : PySem.W.makesIn K C = true
  init : PySem.W.findIn K (.ref C) "__init__" = some (some (.ref f))
  fn : PySem.W.isFn K (.ref f) = true
  kp : PySem.W.keepIn K (.ref C) = true

theorem run_make {pins : List (Addr × Obj)} {σ : St} {H : Hp} {s : Shared} {Q : VK} {us : List Value} {vs : List V} (M : Mk X.K C f) (F : FnOk X.prog X.w X.K X.mg X.base CX k f fd ps sp) (hr : Room (k + 1) X.A) (hb : Binds X.K fd ps ds) (hd : Vals dvs ds)
    (hx : Passes CX X E) (I : Inv X pins σ H s) (r : Vals vs us)
    (h : ∀ x dx, H x = none → H dx = none → dx ≠ x → sp (.ref x :: (vs ++ dvs)) (upd (upd H dx (.own x)) x (.ins C dx [])) (fun v H2 => v = .non ∧ Q (.ref x) H2) E) :
    wpAny (model X.prog X.w) X.A (call (.ref C) us) (EP X pins σ Q) X.xe s := by
  have hq := h (s.heap.objs.size + 1) s.heap.objs.size (I.hok.fresh (Nat.le_succ _)) (I.hok.fresh (Nat.le_refl _)) (Nat.ne_of_lt (Nat.lt_succ_self _))
  have I2 := Inv.made (C := C) I
  have r2 : Vals (V.ref (s.heap.objs.size + 1) :: (vs ++ dvs)) (Value.ref (s.heap.objs.size + 1) :: (us ++ ds)) := .cons rfl (r.append hd)
  have hl : (Value.ref (s.heap.objs.size + 1) :: us ++ ds).length = ps.length := by
    have e := r2.length
    rw [F.len _ _ _ _ hq] at e
    exact e.symm
  refine wpAny_call (make_map (f := f) I.kIn M.makes M.init (beq_iff_eq.mp M.fn) (codeAny_mono (F.run _ X.stack _ _ ⟨Value.ref (s.heap.objs.size + 1) :: us, []⟩ (Value.ref (s.heap.objs.size + 1) :: (us ++ ds)) _ _ E (hr.make C us [])
    (I2.env0.make C us []) (hb _ (Value.ref (s.heap.objs.size + 1) :: us) I2.kIn hl) r2 hq) fun r s' hq' => ?_))
  cases r with
  | error e => exact hx pins σ _ _ e s' I2 hq'
  | ok fl =>
    cases fl with
    | ret u =>
      obtain ⟨v, H', I3, rv, ev, q3⟩ := I2.after hq'
      subst ev
      exact ⟨rv, ⟨V.ref (s.heap.objs.size + 1), H', I3, rfl, q3⟩⟩
    | next => exact False.elim hq'
    | brk => exact False.elim hq'
    | cont => exact False.elim hq'
theorem pe_make (M : Mk X.K C f) (F : FnOk X.prog X.w X.K X.mg X.base CX k f fd ps sp) (hr : Room (k + 1) X.A) (hg : Gl X x) (hm : X.mg x = some (.ref C)) (hb : Binds X.K fd ps ds) (hd : Vals dvs ds) (hx : Passes CX X E)
    (ha : PA X (e :: es) t) (hdb : (x == ("__debug__" : Str)) = false := by decide) (he : starEach (e :: es) X.env = (false, eval e X.env) :: starEach es X.env := by rfl) (hpl : (backTo pos (starEach es X.env)).any (·.1) = false := by rfl) :
    PE X (.Call (.Name x p) (e :: es) [] pos) (tMake C sp dvs E t) := by
  intro pins s σ H Q I h
  refine wpAny_Call_Name_kw (ld_glob I hg hm ?_ hdb)
  refine PySem.W.callWith_K (h₀ := X.base) I.ok.mod.kin M.kp (thn (ha pos pins s σ H _ I h) fun us s1 ⟨vs, H1, I1, r, q⟩ => ⟨I1.kIn, ?_⟩) he hpl
  exact run_make M F hr hb hd hx I1 r q
theorem pe_make0 (M : Mk X.K C f) (F : FnOk X.prog X.w X.K X.mg X.base CX k f fd ps sp) (hr : Room (k + 1) X.A) (hg : Gl X x) (hm : X.mg x = some (.ref C)) (hb : Binds X.K fd ps ds) (hd : Vals dvs ds) (hx : Passes CX X E)
    (hdb : (x == ("__debug__" : Str)) = false := by decide) : PE X (.Call (.Name x p) [] [] pos) (tMake C sp dvs E tNil) := by
  intro pins s σ H Q I h
  refine wpAny_Call_Name_kw (ld_glob I hg hm ?_ hdb)
  exact PySem.W.callWith_K0 I.kIn M.kp (run_make (us := []) M F hr hb hd hx I .nil h)
end

/-! ### keywords -/
/-- the values of the keywords, from the left -/
def PK (X : Cx) (kws : List Keyword) (t : TA) : Prop :=
  ∀ (pos : Pos) (pins : List (Addr × Obj)) (s : Shared) (σ : St) (H : Hp) (Q : List V → Hp → Prop), Inv X pins σ H s → t σ H Q → wpAny (model X.prog X.w) X.A (evalAll ((backToKw pos (keywordEach kws X.env)).map (·.2))) (AP X pins σ Q) X.xe s
section
variable {X : Cx} {CX : CXT} {k : Nat} {f C : Addr} {fd : FuncData} {ps ks : List Str} {sp : Sp} {E : XK} {x m : Str} {p pos apos kpos : Pos} {e o : Expr} {es : List Expr} {kws : List Keyword} {te ta : TE} {t tk : TA} {nm : Option Str}
theorem pk_nil : PK X [] tNil := fun _ _ _ _ H Q I h => wpAny_evalAll_nil ⟨[], H, I, .nil, h⟩
theorem pk_cons (ha : PE X e te) (hr : PK X kws t) : PK X (⟨nm, e, kpos⟩ :: kws) (tCons te t) := by
  intro pos pins s σ H Q I h
  show wpAny _ _ (evalAll ((do let v ← eval e X.env; standAt pos; pure v) :: (backToKw pos (keywordEach kws X.env)).map (·.2))) _ _ s
  refine wpAny_evalAll_cons (wpAny_bind (thn (ha pins s σ H _ I h) fun u s1 ⟨x, H1, I1, r1, q1⟩ => wpAny_bind (wpAny_standAt (wpAny_pure ?_))))
  exact thn (hr pos pins s1 σ H1 _ I1 q1) fun us s2 ⟨xs, H2, I2, r2, q2⟩ => ⟨x :: xs, H2, I2, .cons r1 r2, q2⟩

/-- how a call with keywords binds: g puts the positional values us and the keywords' values ws (names ks) in the parameters' order, defaults among them -/
structure KBinds (K : PySem.W.Frag) (fd : FuncData) (ps ks : List Str) (g : List Value → List Value → List Value) (gV : List V → List V → List V) : Prop where
  to : ∀ (s : Shared) (us ws : List Value), K.In s.heap → (g us ws).length = ps.length → BindsTo s fd ⟨us, ks.zip ws⟩ (ps.zip (g us ws))
  rel : ∀ {vs : List V} {us : List Value} {zs : List V} {ws : List Value}, Vals vs us → Vals zs ws → Vals (gV vs zs) (g us ws)
def tCallK (sp : Sp) (gV : List V → List V → List V) (E : XK) (t tk : TA) : TE := fun σ H Q => t σ H fun vs H1 => tk σ H1 fun zs H2 => sp (gV vs zs) H2 Q E
variable {g : List Value → List Value → List Value} {gV : List V → List V → List V}
theorem run_fnk {pins : List (Addr × Obj)} {σ : St} {H : Hp} {s : Shared} {Q : VK} {us ws : List Value} {vs zs : List V} (F : FnOk X.prog X.w X.K X.mg X.base CX k f fd ps sp) (hr : Room k X.A) (hb : KBinds X.K fd ps ks g gV) (hx : Passes CX X E)
    (I : Inv X pins σ H s) (r : Vals vs us) (rz : Vals zs ws) (h : sp (gV vs zs) H Q E) : wpAny (model X.prog X.w) X.A (call (.ref f) us (ks.zip ws)) (EP X pins σ Q) X.xe s := by
  have r2 := hb.rel r rz
  have hl : (g us ws).length = ps.length := by rw [← r2.length]; exact F.len _ _ _ _ h
  refine wpAny_call (codeAny_mono (F.run X.A X.stack s H ⟨us, ks.zip ws⟩ (g us ws) (gV vs zs) Q E hr I.env0 (hb.to s us ws I.kIn hl) r2 h) fun r s' hq => ?_)
  cases r with
  | error e => exact hx pins σ H s e s' I hq
  | ok fl =>
    cases fl with
    | ret u => exact I.after hq
    | next => exact False.elim hq
    | brk => exact False.elim hq
    | cont => exact False.elim hq
/-- f(e, .., k = v, ..) -/
theorem pe_callK (F : FnOk X.prog X.w X.K X.mg X.base CX k f fd ps sp) (hr : Room k X.A) (hg : Gl X x) (hm : X.mg x = some (.ref f)) (hk : PySem.W.keepIn X.K (.ref f) = true) (hb : KBinds X.K fd ps ks g gV) (hx : Passes CX X E)
    (ha : PA X (e :: es) t) (hkw : PK X kws tk) (hall : (backToKw pos (keywordEach kws X.env)).all (·.1.isSome) = true := by rfl) (hks : (backToKw pos (keywordEach kws X.env)).filterMap (·.1) = ks := by rfl)
    (hdb : (x == ("__debug__" : Str)) = false := by decide) (he : starEach (e :: es) X.env = (false, eval e X.env) :: starEach es X.env := by rfl)
    (hpl : ((backTo pos (starEach (e :: es) X.env)).any (·.1) || (backToKw pos (keywordEach kws X.env)).any (·.1.isNone)) = false := by rfl) :
    PE X (.Call (.Name x p) (e :: es) kws pos) (tCallK sp gV E t tk) := by
  intro pins s σ H Q I h
  refine wpAny_Call_Name_kw (ld_glob I hg hm ?_ hdb)
  refine PySem.W.callWith_KW (h₀ := X.base) I.ok.mod.kin hk hall (thn (ha pos pins s σ H _ I h) fun us s1 ⟨vs, H1, I1, r, q⟩ => ?_) hpl he
  refine thn (hkw pos pins s1 σ H1 _ I1 q) fun ws s2 ⟨zs, H2, I2, rz, q2⟩ => ⟨I2.kIn, ?_⟩
  rw [hks]
  exact run_fnk F hr hb hx I2 r rz q2
end

/-! ### a def's body keeps its promise -/
/-- names: the parameters first -/
structure FnScope (N P : List Str) (sc : Scope) : Prop where
  kind : sc.kind = .function
  co : sc.isCoroutine = false
  gen : sc.isGenerator = false
  nd : N.Nodup
  pre : N.take P.length = P
  par : ∀ x ∈ P, sc.names.lookup x = some .local ∨ sc.names.lookup x = some .cell
  nofree : ∀ y ∈ sc.names, y.2 ≠ .free

theorem bindL_out {kindOf : Str → Option NameKind} {x : Str} : ∀ {binds : List (Str × Value)} {m : Str → Option Value}, (∀ v, (x, v) ∉ binds) → bindL kindOf binds m x = m x
  | [], _, _ => rfl
  | (n, v) :: r, m, h => by
    unfold bindL
    rw [bindL_out fun w hw => h w (List.mem_cons_of_mem _ hw)]
    split
    · have : x ≠ n := by rintro rfl; exact h v List.mem_cons_self
      simp [this]
    · rfl
theorem bindC_out {kindOf : Str → Option NameKind} {x : Str} : ∀ {binds : List (Str × Value)} {m : Str → Option Value}, (∀ v, (x, v) ∉ binds) → bindC kindOf binds m x = m x
  | [], _, _ => rfl
  | (n, v) :: r, m, h => by
    unfold bindC
    rw [bindC_out fun w hw => h w (List.mem_cons_of_mem _ hw)]
    split
    · rfl
    · have : x ≠ n := by rintro rfl; exact h v List.mem_cons_self
      simp [this]
theorem bindL_get {kindOf : Str → Option NameKind} {x : Str} {v : Value} : ∀ {P : List Str} {vs : List Value} {i : Nat} {m : Str → Option Value}, P.Nodup → P[i]? = some x → vs[i]? = some v → kindOf x = some .local →
    bindL kindOf (P.zip vs) m x = some v
  | [], _, _, _, _, h, _, _ => by simp at h
  | _ :: _, [], _, _, _, _, h, _ => by simp at h
  | p :: P, w :: vs, 0, m, nd, h1, h2, hk => by
    simp at h1 h2; subst h1; subst h2
    show bindL kindOf ((p, w) :: P.zip vs) m p = _
    unfold bindL
    rw [bindL_out fun v hv => (List.nodup_cons.mp nd).1 (List.of_mem_zip hv).1, if_pos hk]
    simp
  | p :: P, w :: vs, i + 1, m, nd, h1, h2, hk => by
    show bindL kindOf ((p, w) :: P.zip vs) m x = _
    unfold bindL
    exact bindL_get (i := i) (List.nodup_cons.mp nd).2 (by simpa using h1) (by simpa using h2) hk
theorem bindC_get {kindOf : Str → Option NameKind} {x : Str} {v : Value} : ∀ {P : List Str} {vs : List Value} {i : Nat} {m : Str → Option Value}, P.Nodup → P[i]? = some x → vs[i]? = some v → kindOf x ≠ some .local →
    bindC kindOf (P.zip vs) m x = some v
  | [], _, _, _, _, h, _, _ => by simp at h
  | _ :: _, [], _, _, _, _, h, _ => by simp at h
  | p :: P, w :: vs, 0, m, nd, h1, h2, hk => by
    simp at h1 h2; subst h1; subst h2
    show bindC kindOf ((p, w) :: P.zip vs) m p = _
    unfold bindC
    rw [bindC_out fun v hv => (List.nodup_cons.mp nd).1 (List.of_mem_zip hv).1, if_neg hk]
    simp
  | p :: P, w :: vs, i + 1, m, nd, h1, h2, hk => by
    show bindC kindOf ((p, w) :: P.zip vs) m x = _
    unfold bindC
    exact bindC_get (i := i) (List.nodup_cons.mp nd).2 (by simpa using h1) (by simpa using h2) hk

/-- the names' values at the entry -/
def start (N : List Str) (vs : List V) : St := vs.map some ++ List.replicate (N.length - vs.length) none

/-- the context of a def's body, at its entry; an exception leaves the frame, then lies as CX says -/
def cxOf (CX : CXT) (P : Program) (w : World) (K : PySem.W.Frag) (mg : Str → Option Value) (base : Heap) (N : List Str) (qual : Str) (scope : Scope) (f : Addr) (cd : Value) (A : Around) (outer : List Env) (s : Shared) (H : Hp) (E : XK) : Cx where
  prog := P
  w := w
  K := K
  mg := mg
  base := base
  A := A.deeper (envOfC qual scope s.heap.objs.size f cd)
  N := N
  s₀ := s
  H₀ := H
  env := envOfC qual scope s.heap.objs.size f cd
  outer := outer
  stack := envOfC qual scope s.heap.objs.size f cd :: outer
  ex := []
  calm := true
  fn := fun _ => true
  pn := []
  xe := fun e s' => wpAny (model P w) (A.deeper (envOfC qual scope s.heap.objs.size f cd)) (leaving (envOfC qual scope s.heap.objs.size f cd) e) (fun _ s'' => CX outer H s E e s'') (fun e' s'' => CX outer H s E e' s'') s'

theorem cell_has {sc : Scope} {n : Nat} {x : Str} (h : sc.names.lookup x = some .cell) : ∃ c, (cellsFrom n sc.names []).lookup x = some c := by
  have q := PySem.W.cellsFrom_some sc.names n [] (.inl h)
  exact Option.isSome_iff_exists.mp q

theorem inv_start {CX : CXT} {P : Program} {w : World} {K : PySem.W.Frag} {mg : Str → Option Value} {base : Heap} {N ps : List Str} {qual : Str} {scope : Scope} {f : Addr} {cd : Value} {A : Around} {outer : List Env} {s s1 : Shared} {H : Hp} {E : XK} {us : List Value} {vs : List V}
    (S : FnScope N ps scope) (hd : A.handled = none) (e0 : Env0 P w K mg base A outer s H) (hl : vs.length = ps.length) (r : Vals vs us)
    (x : InCallC s s.heap.objs.size (bindL (envOfC qual scope s.heap.objs.size f cd).kindOf (ps.zip us) fun _ => none) (cellsFrom (s.heap.objs.size + 1) scope.names []) (bindC (envOfC qual scope s.heap.objs.size f cd).kindOf (ps.zip us) fun _ => none) s1) :
    Inv (cxOf CX P w K mg base N qual scope f cd A outer s H E) [] (start N vs) H s1 := by
  have hpl : ps.length ≤ N.length := by have := congrArg List.length S.pre; rw [List.length_take] at this; omega
  obtain ⟨h1, tk, rfl, hk⟩ := x.done
  have noA : ∀ b : Addr, b ∉ (cxOf CX P w K mg base N qual scope f cd A outer s H E).ex := fun b z => absurd (show b ∈ ([] : List Addr) from z) (by simp)
  refine ⟨⟨e0.mod, S.kind, rfl, rfl, Nat.le_refl _, fun y z c h1 h2 => ?_, fun y hy => ?_, fun y c _ h => ?_, fun _ => hd, Around.frames_deeper e0.frames, .inr ⟨rfl, rfl⟩, fun b z => absurd z (noA b), e0.bs, e0.bsz, fun b _ _ => noA b, fun b z => absurd z (noA b), e0.funs, e0.frf⟩,
    rfl, e0.bare, Un.kept hk, ⟨_, x.toInCall.ns, fun i y v h1 h2 h3 => ?_⟩, fun y c h => ⟨_, x.cell y c h⟩, e0.hok.fresh (Nat.le_refl _), fun y c h => ?_, fun p hp => absurd (show p ∈ ([] : List (Addr × Obj)) from hp) (by simp), e0.hok.kept hk, ?_⟩
  · exact name_of_addr x.apart (PySem.mem_of_lookup h1) (PySem.mem_of_lookup h2)
  · have hy : scope.names.lookup y = some .cell ∨ scope.names.lookup y = some .free := hy
    rcases hy with hy | hy
    · exact cell_has hy
    · exact absurd rfl (S.nofree _ (PySem.mem_of_lookup hy))
  · exact Nat.le_of_lt (x.above y c (PySem.mem_of_lookup h))
  · have hi : i < vs.length := by
      unfold start at h2
      by_cases hi : i < vs.length
      · exact hi
      · rw [List.getElem?_append_right (by simpa using hi)] at h2
        rw [List.getElem?_replicate] at h2
        split at h2 <;> cases h2
    have ha : vs[i]? = some v := by
      unfold start at h2
      rw [List.getElem?_append_left (by simpa using hi), List.getElem?_map] at h2
      cases e : vs[i]? with
      | none => rw [e] at h2; cases h2
      | some a => rw [e] at h2; cases h2; rfl
    obtain ⟨u, hu, rv⟩ := r.get ha
    have hp : ps[i]? = some y := by
      rw [← S.pre, List.getElem?_take_of_lt (by omega)]; exact h1
    have ndP : ps.Nodup := by rw [← S.pre]; exact S.nd.sublist (List.take_sublist _ _)
    refine ⟨u, rv, ?_⟩
    rcases S.par y (List.mem_of_getElem? hp) with k | k
    · exact .inl ⟨k, bindL_get ndP hp hu k⟩
    · obtain ⟨c, e⟩ := cell_has (n := s.heap.objs.size + 1) k
      refine .inr ⟨.inl k, c, e, ?_⟩
      have q := x.cell y c e
      rw [bindC_get ndP hp hu (by show scope.names.lookup y ≠ _; rw [k]; decide)] at q
      exact q
  · exact e0.hok.fresh (Nat.le_of_lt (x.above y c (PySem.mem_of_lookup h)))
  · unfold start
    show _ = N.length
    rw [List.length_append, List.length_map, List.length_replicate]
    omega

/-- THE RULE: a def (or a method) of the text, by its body. The body's reading t is chosen for each entry; it is run at the parameters' values -/
theorem fn_of {CX : CXT} {P : Program} {w : World} {K : PySem.W.Frag} {mg : Str → Option Value} {base : Heap} {k : Nat} {f : Addr} {name qual : Str} {params : Arguments} {body : List Stmt} {scope : Scope} {dV kV doc pm cdv ct oc : Value} {an od : Option Addr}
    {osl : Array (Option Value)} {N ps : List Str} {sp : Sp} (lk : K.lookup f = some ⟨oc, od, .func (PySem.W.fnOf name qual params body scope dV kV doc pm an cdv ct), osl⟩) (hcd : PySem.W.codeIn K cdv qual = true) (S : FnScope N ps scope)
    (len : ∀ vs H Q E, sp vs H Q E → vs.length = ps.length)
    (hbody : ∀ (A : Around) (outer : List Env) (s : Shared) (H : Hp) (vs : List V) (Q : VK) (E : XK), Room k (A.deeper (envOfC qual scope s.heap.objs.size f cdv)) → sp vs H Q E →
      ∃ t, PSs (cxOf CX P w K mg base N qual scope f cdv A outer s H E) body t ∧ t { nx := fun _ H' => Q .non H', rt := Q } (start N vs) H) :
    FnOk P w K mg base CX (k + 1) f (PySem.W.fnOf name qual params body scope dV kV doc pm an cdv ct) ps sp := by
  refine ⟨len, fun A outer s H args us vs Q E hr e0 hb r hsp => ?_⟩
  have hl := len _ _ _ _ hsp
  have KX : K.In s.heap := e0.mod.kin.keeps fun b o e => (e0.bs b o e).1
  have lim : s.heap.NoLimit := e0.mod.nolimit.keeps fun b o e => (e0.bs b o e).1
  have hkind : ∀ y ∈ ps.zip us, scope.names.lookup y.1 = some .local ∨ (scope.names.lookup y.1 = some .cell ∧ ((cellsFrom (s.heap.objs.size + 1) scope.names []).lookup y.1).isSome = true) := fun ⟨n, v⟩ hy => by
    rcases S.par n (List.of_mem_zip hy).1 with q | q
    · exact .inl q
    · exact .inr ⟨q, PySem.W.cellsFrom_some _ _ _ (.inl q)⟩
  refine codeAny_call_function hr.depth (KX _ _ lk) rfl S.co S.gen rfl (PySem.W.codeRec_of KX hcd) (hb _ _ _ _ ?_)
  refine wpAny_newFunctionEnv_cells S.kind hkind fun env he s1 x => ?_
  subst he
  refine ⟨lim.keeps x.toInCall.keep, codeAny_func ?_⟩
  obtain ⟨t, ht, hq⟩ := hbody A outer s H vs Q E (hr.deeper _) hsp
  have I : Inv (cxOf CX P w K mg base N qual scope f cdv A outer s H E) [] (start N vs) H s1 := inv_start S hr.hd e0 hl r x
  refine wpAny_mono (ht [] s1 (start N vs) H _ I hq) (fun fl s' hs => ?_) fun e s' hs => hs
  have fin : ∀ {σ' : St} {H' : Hp} {v : V} {u : Value}, Inv (cxOf CX P w K mg base N qual scope f cdv A outer s H E) [] σ' H' s' → RelV v u → Q v H' → CE outer P w H s Q u s' :=
    fun {σ' H' v u} J rv q => ⟨v, H', J.os, J.bare, J.base, J.hok, rv, q⟩
  cases fl with
  | ret u =>
    obtain ⟨v, σ', H', J, rv, q⟩ := hs
    exact fin J rv q
  | next =>
    obtain ⟨σ', H', J, q⟩ := hs
    exact fin (v := V.non) (u := Value.none) J rfl q
  | brk =>
    obtain ⟨_, _, _, q⟩ := hs
    exact False.elim q
  | cont =>
    obtain ⟨_, _, _, q⟩ := hs
    exact False.elim q
end L2

namespace L2
open PySem PySem.Spec PyProof.Rows
section
variable {X : Cx} {x : Str} {p pos : Pos} {e : Expr} {es : List Expr} {t : TA} {id T : String} {r : List V → Hp → VK → Prop}

def tCB (r : List V → Hp → VK → Prop) (t : TA) : TE := fun σ H Q => t σ H fun vs H1 => r vs H1 Q
/-- f(e, ..), f a built-in function -/
theorem pe_callB (hc : CallR X (.builtin id) r) (hg : Gl X x) (hm : X.mg x = none) (hv : bootBuiltins x = some (.builtin id)) (ha : PA X (e :: es) t) (hn : x ≠ "__name__" := by decide) (hdb : (x == ("__debug__" : Str)) = false := by decide)
    (he : starEach (e :: es) X.env = (false, eval e X.env) :: starEach es X.env := by rfl) (hpl : (backTo pos (starEach es X.env)).any (·.1) = false := by rfl) : PE X (.Call (.Name x p) (e :: es) [] pos) (tCB r t) := by
  intro pins s σ H Q I h
  refine wpAny_Call_Name_kw (ld_blt I hg hm hv ?_ hn hdb)
  exact PyProof.Rows.callWith_builtin1 (thn (ha pos pins s σ H _ I h) fun us s1 ⟨vs, H1, I1, r1, q1⟩ => hc pins s1 σ H1 vs us Q I1 r1 q1) he hpl
/-- T(e, ..), T a built-in type -/
theorem pe_callTy (hc : CallR X (.type T) r) (hg : Gl X x) (hm : X.mg x = none) (hv : bootBuiltins x = some (.type T)) (ha : PA X (e :: es) t) (hn : x ≠ "__name__" := by decide) (hdb : (x == ("__debug__" : Str)) = false := by decide)
    (he : starEach (e :: es) X.env = (false, eval e X.env) :: starEach es X.env := by rfl) (hpl : (backTo pos (starEach es X.env)).any (·.1) = false := by rfl) : PE X (.Call (.Name x p) (e :: es) [] pos) (tCB r t) := by
  intro pins s σ H Q I h
  refine wpAny_Call_Name_kw (ld_blt I hg hm hv ?_ hn hdb)
  exact PyProof.Rows.callWith_type1 (thn (ha pos pins s σ H _ I h) fun us s1 ⟨vs, H1, I1, r1, q1⟩ => hc pins s1 σ H1 vs us Q I1 r1 q1) he hpl
/-- T() -/
theorem pe_callTy0 (hc : CallR X (.type T) r) (hg : Gl X x) (hm : X.mg x = none) (hv : bootBuiltins x = some (.type T)) (hn : x ≠ "__name__" := by decide) (hdb : (x == ("__debug__" : Str)) = false := by decide) :
    PE X (.Call (.Name x p) [] [] pos) (tCB r tNil) := by
  intro pins s σ H Q I h
  refine wpAny_Call_Name_kw (ld_blt I hg hm hv ?_ hn hdb)
  exact PyProof.Rows.callWith_type0 (hc pins s σ H [] [] Q I .nil h)
end
end L2

namespace HT
open PySem PyProof.Rows

/-- t < u of tuples of ints -/
def lexLt : List Int → List Int → Bool
  | [], [] => false
  | [], _ :: _ => true
  | _ :: _, [] => false
  | x :: xs, y :: ys => if x = y then lexLt xs ys else decide (x < y)
theorem lexLt_cons (x y : Int) (xs ys : List Int) : lexLt (x :: xs) (y :: ys) = if x = y then lexLt xs ys else decide (x < y) := rfl
theorem lexLt_nil_nil : lexLt [] [] = false := rfl
theorem lexLt_nil_cons (y : Int) (ys : List Int) : lexLt [] (y :: ys) = true := rfl
theorem lexLt_cons_nil (x : Int) (xs : List Int) : lexLt (x :: xs) [] = false := rfl

theorem eqAt_int (A : Around) (s : Shared) (a : Int) (t : Tok) (c : Int) (u : Tok) : ∃ e, SeqAt.EqAt A s (.int a t) (.int c u) e ∧ (e = true ↔ a = c) :=
  ⟨(a == c), SeqAt.EqAt.int_int a t c u, by simp⟩
theorem rcLt_int (A : Around) (s : Shared) (a : Int) (t : Tok) (c : Int) (u : Tok) (prog : Program) (w : World) (E : Value → Shared → Prop) (Q : Value → Shared → Prop) (h : Q (.bool (decide (a < c))) s) :
    wpAny (model prog w) A (richCompare .Lt (.int a t) (.int c u)) Q E s :=
  (PyProof.Rows.lt_int h : wpAny (model prog w) A (compareOp .Lt (.int a t) (.int c u)) Q E s)

section
open PySem.SeqAt
open PySem.AutoSeq1 (wpAny_loadPart')
open PySem.MeetsSeq PySem.MeetsSeq2 PySem.MeetsSeq3

theorem tuple_lt_ints (l b : Addr) (items items2 : Array Value) (n n2 : Nat) (dd dd2 : Option Addr) (sl sl2 : Array (Option Value)) (ns ms : List Int) (hi : IntsAre items.toList ns) (hj : IntsAre items2.toList ms) :
    Meets (Builtin.«tuple.__lt__» ⟨[.ref l, .ref b], []⟩)
      (fun _ R s => s.heap.get? l = some { cls := .type "tuple", dict := dd, data := .seq items n, slots := sl } ∧ s.heap.get? b = some { cls := .type "tuple", dict := dd2, data := .seq items2 n2, slots := sl2 } ∧
        R (.ok (.ret (.bool (lexLt ns ms)))) s) :=
  .of_wp fun prog w A R s h => by
    obtain ⟨hp, g, d, tk, os⟩ := s; obtain ⟨hl, hb, h⟩ := h
    have f2 := AutoSeq1.sub_tuple_tuple
    have z1 : items.size = ns.length := by rw [← hi.length]; simp
    have z2 : items2.size = ms.length := by rw [← hj.length]; simp
    wp_walk using wpAny_loadPart' hl, wpAny_loadPart' hb, wpAny_forIn_list _ (fun rest b s' => b.1 = none ∧ s' = ⟨hp, g, d, tk, os⟩ ∧ ∃ (vs ws : List Value) (ns' ms' : List Int), rest = vs.zip ws ∧
      IntsAre vs ns' ∧ IntsAre ws ms' ∧ ns'.length + items2.size = ms'.length + items.size ∧ R (.ok (.ret (.bool (lexLt ns' ms')))) ⟨hp, g, d, tk, os⟩) _
    case turn =>
      rintro ⟨y, x⟩ rest b s' ⟨hb', rfl, vs, ws, ns', ms', hz, hvi, hwi, hlen, hR⟩
      cases hvi with
      | nil => rw [List.zip_nil_left] at hz; cases hz
      | cons a t hvi' =>
        cases hwi with
        | nil => rw [List.zip_nil_right] at hz; cases hz
        | cons c u hwi' =>
          rw [List.zip_cons_cons] at hz
          injection hz with hyx hrest
          injection hyx with hy hx
          subst hy hx
          rw [lexLt_cons] at hR
          simp only [List.length_cons] at hlen
          obtain ⟨e, he, hiff⟩ := eqAt_int A.in1 ⟨hp, g, d, tk, os⟩ a t c u
          refine wpAny_bind (he prog w _ _ ?_)
          cases e with
          | true =>
            rw [if_pos (hiff.mp rfl)] at hR
            wp_walk
            exact ⟨rfl, rfl, _, _, _, _, hrest, hvi', hwi', by omega, hR⟩
          | false =>
            rw [if_neg (fun q => absurd (hiff.mpr q) Bool.false_ne_true)] at hR
            have hri := rcLt_int A.in1 ⟨hp, g, d, tk, os⟩ a t c u prog w
            wp_walk using hri
            exact ⟨_, rfl, by simpa using hR⟩
    case fin =>
      rintro ⟨b1, b2⟩ s' ⟨hb', rfl, vs, ws, ns', ms', hz, hvi, hwi, hlen, hR⟩
      simp only at hb'
      subst hb'
      have hv : lexLt ns' ms' = decide (items.size < items2.size) := by
        cases hvi with
        | nil =>
          cases hwi with
          | nil =>
            simp only [List.length_nil] at hlen
            rw [lexLt_nil_nil]
            exact (decide_eq_false (by omega)).symm
          | cons c u hw =>
            simp only [List.length_nil, List.length_cons] at hlen
            rw [lexLt_nil_cons]
            exact (decide_eq_true (by omega)).symm
        | cons a t hv =>
          cases hwi with
          | nil =>
            simp only [List.length_nil, List.length_cons] at hlen
            rw [lexLt_cons_nil]
            exact (decide_eq_false (by omega)).symm
          | cons c u hw =>
            rw [List.zip_cons_cons] at hz
            cases hz
      rw [hv] at hR
      wp_walk
      exact ⟨_, rfl, by simpa [Builtin.Tuple.tupleCompareSizes] using hR⟩
    case h =>
      exact ⟨rfl, rfl, items.toList, items2.toList, ns, ms, rfl, hi, hj, by omega, h⟩
end

section
variable {prog : Program} {w : World} {A : Around} {E : Value → Shared → Prop} {s : Shared}

theorem lt_tupInts {l b : Addr} {items items2 : Array Value} {ns ms : List Int} {Q : Value → Shared → Prop} (hl : IsTup s.heap l items) (hb : IsTup s.heap b items2) (hi : IntsAre items.toList ns) (hj : IntsAre items2.toList ms)
    (hu : A.units < cLine) (h : Q (.bool (lexLt ns ms)) s) : wpAny (model prog w) A (compareOp .Lt (.ref l) (.ref b)) Q E s := by
  obtain ⟨⟨cls, dd, data, sl⟩, ho, hc, n, hd⟩ := id hl
  obtain ⟨⟨cls2, dd2, data2, sl2⟩, ho2, hc2, n2, hd2⟩ := id hb
  simp only at hc hd hc2 hd2
  subst hc hd hc2 hd2
  exact richCompare_meets_room (op := .Lt) ⟨_, ho, rfl⟩ ⟨_, ho2, rfl⟩ PySem.F.slot_tuple_lt PySem.F.entry_tuple_lt (PySem.F.args_tuple_lt_2 _ _) (tuple_lt_ints l b items items2 n n2 dd dd2 sl sl2 ns ms hi hj)
    ⟨ho, ho2, show Value.bool (lexLt ns ms) ≠ Value.notImplemented ∧ Q (.bool (lexLt ns ms)) s from ⟨(fun x => nomatch x), h⟩⟩ hu

/-- t + u, t not empty -/
theorem cat_tup {t b : Addr} {vs ws : List Value} {Q : Value → Shared → Prop} (ht : IsTup s.heap t vs.toArray) (hb : IsTup s.heap b ws.toArray) (hv : vs ≠ [])
    (h1 : ws = [] → Q (.ref t) s) (h2 : ws ≠ [] → Q (.ref s.heap.objs.size) { s with heap := s.heap.push { cls := .type "tuple", data := .seq (vs ++ ws).toArray } })
    (hsz : vs.length + ws.length ≤ sizeLine) : wpAny (model prog w) A (binaryOp .Add (.ref t) (.ref b)) Q E s := by
  obtain ⟨⟨cls, dd, data, sl⟩, ho, hc, n, hd⟩ := id ht
  obtain ⟨⟨cls2, dd2, data2, sl2⟩, ho2, hc2, n2, hd2⟩ := id hb
  simp only at hc hd hc2 hd2
  subst hc hd hc2 hd2
  have e : vs.toArray ++ ws.toArray = (vs ++ ws).toArray := by simp
  by_cases hw : ws = []
  · exact concat_meets ⟨_, ho, rfl⟩ ⟨_, ho2, rfl⟩ noFill_tuple_add seq_tuple_add PySem.F.slot_tuple_add PySem.F.entry_tuple_add (PySem.F.args_tuple_add_2 _ _)
      (tuple_addW1 t b vs.toArray ws.toArray n n2 dd dd2 sl sl2 (by simpa using hv) (by simp [hw])) ⟨ho, ho2, h1 hw⟩
  · refine concat_meets ⟨_, ho, rfl⟩ ⟨_, ho2, rfl⟩ noFill_tuple_add seq_tuple_add PySem.F.slot_tuple_add PySem.F.entry_tuple_add (PySem.F.args_tuple_add_2 _ _)
      (tuple_addW2 t b vs.toArray ws.toArray n n2 dd dd2 sl sl2 (by simpa using hv) (by simpa using hw) (by rw [List.size_toArray, List.size_toArray]; exact hsz)) ⟨ho, ho2, ?_⟩
    rw [e]
    exact h2 hw

/-! ### t[a:b], not the whole -/
/-- a slice's bound as a place among n (d where it is left out) -/
def sIx (n d : Nat) : Option Int → Nat
  | none => d
  | some v => if v < 0 then (v + (n : Int)).toNat else min v.toNat n
theorem sIx_none (n d : Nat) : sIx n d none = d := rfl
theorem sIx_nat (n d k : Nat) : sIx n d (some (k : Int)) = min k n := by
  show (if (k : Int) < 0 then ((k : Int) + (n : Int)).toNat else min (k : Int).toNat n) = min k n
  rw [if_neg (by omega), Int.toNat_natCast]
theorem sIx_le (n d : Nat) (hd : d ≤ n) (o : Option Int) : sIx n d o ≤ n := by
  cases o with
  | none => exact hd
  | some v =>
    show (if v < 0 then (v + (n : Int)).toNat else min v.toNat n) ≤ n
    by_cases hv : v < 0
    · rw [if_pos hv]; omega
    · rw [if_neg hv]; exact Nat.min_le_right _ _
theorem clip_eq (v : Int) (n d : Nat) : (if v < 0 then max (v + (n : Int)) 0 else min v (n : Int)) = ((sIx n d (some v) : Nat) : Int) := by
  show (if v < 0 then max (v + (n : Int)) 0 else min v (n : Int)) = (((if v < 0 then (v + (n : Int)).toNat else min v.toNat n) : Nat) : Int)
  by_cases hv : v < 0
  · simp only [if_pos hv]; omega
  · simp only [if_neg hv]; omega
theorem adjust_gen (lo hi : Option Int) (n : Nat) : Builtin.Slice.sliceAdjust lo hi 1 (n : Int) = (((sIx n 0 lo : Nat) : Int), ((sIx n n hi : Nat) : Int)) := by
  have h1 : ¬ ((1 : Int) < 0) := by omega
  unfold Builtin.Slice.sliceAdjust
  simp only [h1, if_false]
  refine Prod.ext ?_ ?_
  · cases lo with
    | none => rfl
    | some v => exact clip_eq v n 0
  · cases hi with
    | none => rfl
    | some v => exact clip_eq v n n
theorem places_gen (i j : Nat) : Builtin.Slice.slicePlaces (i : Int) (j : Int) 1 = j - i := by
  unfold Builtin.Slice.slicePlaces
  have h1 : (1 : Int) > 0 := by omega
  simp only [h1, if_true, Int.ediv_one]
  split <;> omega
theorem slicePart_ {v : Value} {o : Option Int} {Q : Option Int → Shared → Prop} (p : IsPart v o) (h : Q o s) : wpAny (model prog w) A (Builtin.Slice.slicePartIndex v) Q E s := by
  cases p with
  | none => exact slicePart_none h
  | int i t => exact slicePart_int h
theorem sliceApplied_gen {sl : Addr} {vl vu : Value} {lo hi : Option Int} {n : Nat} {Q : Int × Int × Nat → Shared → Prop} (hs : s.heap.IsSliceOf sl vl vu .none) (pl : IsPart vl lo) (pu : IsPart vu hi)
    (h : Q (((sIx n 0 lo : Nat) : Int), 1, sIx n n hi - sIx n 0 lo) s) : wpAny (model prog w) A (Builtin.Slice.sliceApplied (.ref sl) (pure (n : Int))) Q E s := by
  obtain ⟨os, hos, hcs, hds⟩ := id hs
  unfold Builtin.Slice.sliceApplied Builtin.Slice.sliceFields
  refine wpAny_bind (wpAny_bind (wpAny_field hos hds (x := vl) rfl (wpAny_bind (wpAny_field hos hds (x := vu) rfl (wpAny_bind (wpAny_field hos hds (x := .none) rfl (wpAny_pure ?_)))))))
  refine wpAny_bind (slicePart_none ?_)
  show wpAny _ _ (if ((1 : Int) == 0) = true then _ else _) _ _ s
  rw [if_neg (by decide)]
  refine wpAny_bind (slicePart_ pl (wpAny_bind (slicePart_ pu (wpAny_bind (wpAny_pure ?_)))))
  show wpAny _ _ (match Builtin.Slice.sliceAdjust lo hi 1 (n : Int) with | (lo, hi) => pure (lo, (1 : Int), Builtin.Slice.slicePlaces lo hi 1)) _ _ s
  rw [adjust_gen lo hi n]
  show wpAny _ _ (pure (((sIx n 0 lo : Nat) : Int), (1 : Int), Builtin.Slice.slicePlaces ((sIx n 0 lo : Nat) : Int) ((sIx n n hi : Nat) : Int) 1)) _ _ s
  rw [places_gen]
  exact wpAny_pure h
theorem pick_gen (xs : Array Value) (i k : Nat) : ((List.range k).filterMap fun (m : Nat) => xs[((i : Int) + (m : Int) * 1).toNat]?).toArray = ((xs.toList.drop i).take k).toArray := by
  have e : (fun (m : Nat) => xs[((i : Int) + (m : Int) * 1).toNat]?) = fun m => xs[i + m]? := by
    funext m
    have : ((i : Int) + (m : Int) * 1).toNat = i + m := by omega
    rw [this]
  rw [e]
  have := pick_run xs i k
  rw [List.filterMap_map] at this
  have e2 : ((fun x => xs[x]?) ∘ fun x => i + x) = fun m => xs[i + m]? := rfl
  rw [e2] at this
  rw [this]

theorem getItem_tuple_cut {t sl : Addr} {items : Array Value} {vl vu : Value} {lo hi : Option Int} {Q : Value → Shared → Prop} (ht : IsTup s.heap t items) (hs : s.heap.IsSliceOf sl vl vu .none) (pl : IsPart vl lo) (pu : IsPart vu hi)
    (hw : ¬ (sIx items.size 0 lo = 0 ∧ sIx items.size items.size hi = items.size))
    (h : Q (.ref s.heap.objs.size) { s with heap := s.heap.push { cls := .type "tuple", data := .seq ((items.toList.drop (sIx items.size 0 lo)).take (sIx items.size items.size hi - sIx items.size 0 lo)).toArray } })
    (hsz : items.size ≤ sizeLine) : wpAny (model prog w) A (getItem (.ref t) (.ref sl)) Q E s := by
  have htake : sizeOk (.seq ((items.toList.drop (sIx items.size 0 lo)).take (sIx items.size items.size hi - sIx items.size 0 lo)).toArray) := by
    show ((items.toList.drop (sIx items.size 0 lo)).take (sIx items.size items.size hi - sIx items.size 0 lo)).toArray.size ≤ sizeLine
    rw [List.size_toArray, List.length_take, List.length_drop, Array.length_toList]
    omega
  have hj : sIx items.size items.size hi ≤ items.size := sIx_le _ _ (Nat.le_refl _) hi
  obtain ⟨os, hos, hcs, hds⟩ := id hs
  have hTs : s.TypeIs (.ref sl) "slice" := ⟨os, hos, hcs⟩
  unfold getItem
  try with_reducible refine wpAny_holding ?_
  first | refine wpAny_bind (wpAny_pure ?_) | skip
  refine wpAny_bind (wpAny_sequenceKey ht.typeIs (by decide) ?_)
  refine wpAny_bind (wpAny_callSpecial?_slot (name := Str.ofString "__getitem__") ht.typeIs PyProof.Rows.slot_tuple_getitem
    (wpAny_call_entry PyProof.Rows.slot_tuple_getitem ht.typeIs entry_tuple_getitem ?_ (args_tuple_getitem _ _)))
  show wpAny _ _ (Builtin.Tuple.tupleItemsOf (.ref t) >>= _) _ _ s
  refine wpAny_bind (tupleItemsOf_ ht ?_)
  refine wpAny_bind (wpAny_typeOf hTs ?_)
  rw [if_pos (by decide)]
  refine wpAny_bind (sliceApplied_gen hs pl pu ?_)
  have hno : ¬ ((((sIx items.size 0 lo : Nat) : Int) == 0 && (1 : Int) == 1 && (sIx items.size items.size hi - sIx items.size 0 lo) == items.size) = true) := by
    intro q
    rw [Bool.and_eq_true, Bool.and_eq_true] at q
    have q1 : ((sIx items.size 0 lo : Nat) : Int) = 0 := eq_of_beq q.1.1
    have q2 : sIx items.size items.size hi - sIx items.size 0 lo = items.size := eq_of_beq q.2
    exact hw ⟨by omega, by omega⟩
  show wpAny _ _ (if (((sIx items.size 0 lo : Nat) : Int) == 0 && (1 : Int) == 1 && (sIx items.size items.size hi - sIx items.size 0 lo) == items.size) = true then _ else _) _ _ s
  rw [if_neg hno, pick_gen]
  first
    | exact wpAny_bind (m := Builtin.Tuple.tupleExact _) (wpAny_newObj_type (wpAny_pure ⟨_, rfl, wpAny_pure h⟩) htake)
    | exact wpAny_bind (m := Builtin.Tuple.tupleExact _) (wpAny_newObj_type (wpAny_bind (wpAny_pure (wpAny_pure ⟨_, rfl, wpAny_pure h⟩))) htake)
    | exact wpAny_bind (wpAny_bind (m := Builtin.Tuple.tupleExact _) (wpAny_newObj_type (wpAny_pure (wpAny_pure ⟨_, rfl, wpAny_pure h⟩)) htake))
    | exact wpAny_bind (wpAny_bind (m := Builtin.Tuple.tupleExact _) (wpAny_newObj_type (wpAny_pure ⟨_, rfl, wpAny_pure h⟩) htake))
end
end HT

namespace L2
open PySem PySem.Spec PyProof.Rows

/-! ### the parts of a slice -/
abbrev TO := St → Hp → (Option Int → Hp → Prop) → Prop
/-- a slice's part (left out, or an int) -/
def PO (X : Cx) (e : Option Expr) (t : TO) : Prop :=
  ∀ (pins : List (Addr × Obj)) (s : Shared) (σ : St) (H : Hp) (Q : Option Int → Hp → Prop), Inv X pins σ H s → t σ H Q →
    wpAny (model X.prog X.w) X.A (evalPart e X.env) (fun u s' => ∃ o H', Inv X pins σ H' s' ∧ IsPart u o ∧ Q o H') X.xe s
def tNoPart : TO := fun _ H Q => Q none H
def tPart (t : TE) : TO := fun σ H Q => t σ H fun x H1 => ∃ i, x = .int i ∧ Q (some i) H1

theorem intsAre_of {ns : List Int} : ∀ {us : List Value}, Vals (ns.map V.int) us → IntsAre us ns := by
  induction ns with
  | nil => intro us r; rw [List.map_nil] at r; cases r; exact .nil
  | cons n ns ih =>
    intro us r
    rw [List.map_cons] at r
    cases r with
    | cons r1 r2 =>
      obtain ⟨t, e⟩ := r1
      subst e
      exact .cons n t (ih r2)

section
variable {X : Cx} {e : Expr} {te : TE} {lo hi : Option Expr} {tl th : TO} {pos p2 : Pos}

theorem po_none : PO X none tNoPart := by
  intro pins s σ H Q I h
  rw [evalPart_none]
  exact wpAny_pure ⟨none, H, I, .none, h⟩
theorem po_some (h : PE X e te) : PO X (some e) (tPart te) := by
  intro pins s σ H Q I hw
  rw [evalPart_some]
  refine thn (h pins s σ H _ I hw) fun u s1 ⟨x, H1, I1, r1, q1⟩ => ?_
  obtain ⟨i, rfl, q⟩ := q1
  obtain ⟨t, rfl⟩ := r1
  exact ⟨some i, H1, I1, .int i t, q⟩

/-- what a slice of a value is, by values: the slice object stands at sl -/
def SlR (X : Cx) (r : V → Option Int → Option Int → Hp → VK → Prop) : Prop :=
  ∀ (pins : List (Addr × Obj)) (s : Shared) (σ : St) (H : Hp) (x : V) (v vl vu : Value) (lo hi : Option Int) (sl : Addr) (Q : VK), Inv X pins σ H s → RelV x v → s.heap.IsSliceOf sl vl vu .none → IsPart vl lo → IsPart vu hi → r x lo hi H Q →
    ∃ T id, typeLookup (.type T) "__getitem__" = pure (some (.builtin id)) ∧ s.TypeIs v T ∧ wpAny (model X.prog X.w) X.A (getItem v (.ref sl)) (EP X pins σ Q) X.xe s
theorem SlR.or {r r' : V → Option Int → Option Int → Hp → VK → Prop} (h : SlR X r) (h' : SlR X r') : SlR X (fun x lo hi H Q => r x lo hi H Q ∨ r' x lo hi H Q) := by
  intro pins s σ H x v vl vu lo hi sl Q I rx hs pl pu q
  rcases q with q | q
  · exact h pins s σ H x v vl vu lo hi sl Q I rx hs pl pu q
  · exact h' pins s σ H x v vl vu lo hi sl Q I rx hs pl pu q
def tSl (r : V → Option Int → Option Int → Hp → VK → Prop) (te : TE) (tl th : TO) : TE := fun σ H Q => te σ H fun x H1 => tl σ H1 fun l H2 => th σ H2 fun u H3 => r x l u H3 Q
/-- a[lo:hi], any a -/
theorem pe_slice {r : V → Option Int → Option Int → Hp → VK → Prop} (hr : SlR X r) (he : PE X e te) (hl : PO X lo tl) (hu : PO X hi th) : PE X (.Subscript e (.Slice lo hi none p2) pos) (tSl r te tl th) := by
  intro pins s σ H Q I h
  refine Subscript_ (thn (he pins s σ H _ I h) fun v s1 ⟨x, H1, I1, r1, q1⟩ => ?_)
  refine wpAny_Slice (thn (hl pins s1 σ H1 _ I1 q1) fun vl s2 ⟨l, H2, I2, pl, q2⟩ => thn (hu pins s2 σ H2 _ I2 q2) fun vu s3 ⟨u, H3, I3, pu, q3⟩ => ?_)
  rw [evalPart_none]
  refine wpAny_pure ?_
  have I4 : Inv X pins σ H3 { s3 with heap := s3.heap.push { cls := .type "slice", data := .fields #[vl, vu, .none] } } := I3.kept (t' := s3.toks) fun b ob q => Heap.get?_push_of_some _ q
  obtain ⟨T, id, hT, ht, hg⟩ := hr pins { s3 with heap := s3.heap.push { cls := .type "slice", data := .fields #[vl, vu, .none] } } σ H3 x v vl vu l u s3.heap.objs.size Q I4 r1 (Heap.IsSliceOf.new ..) pl pu q3
  show wpAny (model X.prog X.w) X.A (subscriptTail e (.Slice lo hi none p2) v (.ref s3.heap.objs.size)) (EP X pins σ Q) X.xe { s3 with heap := s3.heap.push { cls := .type "slice", data := .fields #[vl, vu, .none] } }
  exact tail_any (ops := [.ref s3.heap.objs.size, v]) ht hT hg (by with_unfolding_all rfl)

/-- the items of xs[lo:hi] -/
def cutV (xs : List V) (lo hi : Option Int) : List V := (xs.drop (HT.sIx xs.length 0 lo)).take (HT.sIx xs.length xs.length hi - HT.sIx xs.length 0 lo)
theorem cutV_length (xs : List V) (lo hi : Option Int) : (cutV xs lo hi).length ≤ xs.length := by
  unfold cutV
  rw [List.length_take, List.length_drop]
  omega
/-- t[lo:hi], not the whole of it (the whole would be t itself) -/
def rSlT (K : PySem.W.Frag) : V → Option Int → Option Int → Hp → VK → Prop := fun x lo hi H Q => ∃ a xs, x = .ref a ∧ SqT K H a xs ∧
  ¬ (HT.sIx xs.length 0 lo = 0 ∧ HT.sIx xs.length xs.length hi = xs.length) ∧ ∀ p, H p = none → Q (.ref p) (upd H p (.tup (cutV xs lo hi)))
theorem sl_tup : SlR X (rSlT X.K) := by
  intro pins s σ H x v vl vu lo hi sl Q I rx hs pl pu h
  obtain ⟨a, xs, rfl, hx, hw, q⟩ := h
  cases rx
  obtain ⟨its, r, ht, hz⟩ := I.tuple hx
  have hlen : its.toArray.size = xs.length := by rw [List.size_toArray]; exact r.length.symm
  refine ⟨"tuple", _, PyProof.Rows.slot_tuple_getitem.lookup, ht.typeIs, ?_⟩
  refine HT.getItem_tuple_cut ht hs pl pu (by rw [hlen]; exact hw) ?_ (by rw [hlen]; exact hz)
  rw [hlen]
  refine ⟨.ref s.heap.objs.size, _, I.laid (t' := s.toks) (o := .tup (cutV xs lo hi)) (fun b ob q => Heap.get?_push_of_some _ q) (Nat.le_refl _) ?_, rfl, q _ (I.hok.fresh (Nat.le_refl _))⟩
  exact ⟨Nat.le_trans (cutV_length xs lo hi) hz, _, (r.drop (HT.sIx xs.length 0 lo)).take (HT.sIx xs.length xs.length hi - HT.sIx xs.length 0 lo), IsTup.new _ _⟩

/-! ### t < u, t + u -/
def rLtT (K : PySem.W.Frag) : R2 := fun x y H Q => ∃ a b ns ms, x = .ref a ∧ y = .ref b ∧ SqT K H a (ns.map V.int) ∧ SqT K H b (ms.map V.int) ∧ Q (.bl (HT.lexLt ns ms)) H
theorem op_ltT (hu : X.A.units < cLine) : OpR X (compareOp .Lt) (rLtT X.K) := by
  intro pins s σ H x y v u Q I rx ry h
  obtain ⟨a, b, ns, ms, rfl, rfl, ha, hb, q⟩ := h
  cases rx
  cases ry
  obtain ⟨its, r1, p1, _⟩ := I.tuple ha
  obtain ⟨its2, r2, p2, _⟩ := I.tuple hb
  have i1 : IntsAre its.toArray.toList ns := intsAre_of r1
  have i2 : IntsAre its2.toArray.toList ms := intsAre_of r2
  exact HT.lt_tupInts p1 p2 i1 i2 hu ⟨.bl (HT.lexLt ns ms), H, I, rfl, q⟩
/-- t + u, t not empty: u empty gives t itself -/
def rCatT (K : PySem.W.Frag) : R2 := fun x y H Q => ∃ a b xs ys, x = .ref a ∧ y = .ref b ∧ SqT K H a xs ∧ SqT K H b ys ∧ xs ≠ [] ∧ xs.length + ys.length ≤ sizeLine ∧
  (ys = [] → Q (.ref a) H) ∧ (ys ≠ [] → ∀ p, H p = none → Q (.ref p) (upd H p (.tup (xs ++ ys))))
theorem Vals.nil_iff {xs : List V} {us : List Value} (r : Vals xs us) : us = [] ↔ xs = [] := by
  cases r with
  | nil => simp
  | cons _ _ => simp
theorem op_catT : OpR X (binaryOp .Add) (rCatT X.K) := by
  intro pins s σ H x y v u Q I rx ry h
  obtain ⟨a, b, xs, ys, rfl, rfl, ha, hb, hx, hz, q1, q2⟩ := h
  cases rx
  cases ry
  obtain ⟨its, r1, p1, _⟩ := I.tuple ha
  obtain ⟨its2, r2, p2, _⟩ := I.tuple hb
  refine HT.cat_tup p1 p2 (fun z => hx (r1.nil_iff.mp z)) (fun z => ⟨.ref a, H, I, rfl, q1 (r2.nil_iff.mp z)⟩) (fun z => ?_) (by rw [← r1.length, ← r2.length]; exact hz)
  refine ⟨.ref s.heap.objs.size, _, I.laid (t' := s.toks) (o := .tup (xs ++ ys)) (fun b ob q => Heap.get?_push_of_some _ q) (Nat.le_refl _) ?_, rfl, q2 (fun w => z (r2.nil_iff.mpr w)) _ (I.hok.fresh (Nat.le_refl _))⟩
  exact ⟨by rw [List.length_append]; exact hz, _, r1.append r2, IsTup.new _ _⟩
/-- tuple(t) -/
theorem call_tupleT : CallR X (.type "tuple") (fun xs H Q => ∃ a ys, xs = [.ref a] ∧ SqT X.K H a ys ∧ Q (.ref a) H) := by
  intro pins s σ H xs us Q I r h
  obtain ⟨a, ys, rfl, ha, q⟩ := h
  obtain ⟨u, rfl, ru⟩ := vals1 r
  cases ru
  obtain ⟨its, _, p1, _⟩ := I.tuple ha
  exact call_tuple_same (items := its.toArray) p1 ⟨.ref a, H, I, rfl, q⟩
end
end L2

namespace L2
open PySem PySem.Spec PyProof.Rows

/-! ### places -/
/-- the place that an index of any sign means -/
def ixN (n : Nat) (i : Int) : Option Nat := if 0 ≤ i then (if i < n then some i.toNat else none) else if -(n : Int) ≤ i then some (i + n).toNat else none
def atI {α : Type} (xs : List α) (i : Int) : Option α := (ixN xs.length i).bind fun j => xs[j]?
theorem ixN_seq {n : Nat} {i : Int} {j : Nat} (h : ixN n i = some j) : seqIndex? i n = some j ∧ j < n ∧ -(n : Int) ≤ i ∧ i < n := by
  unfold ixN at h
  by_cases h0 : 0 ≤ i
  · rw [if_pos h0] at h
    by_cases h1 : i < n
    · rw [if_pos h1] at h
      have e : i.toNat = j := Option.some.inj h
      exact ⟨by rw [seqIndex_of h0 h1, e], by omega, by omega, h1⟩
    · rw [if_neg h1] at h; cases h
  · rw [if_neg h0] at h
    by_cases h1 : -(n : Int) ≤ i
    · rw [if_pos h1] at h
      have e : (i + n).toNat = j := Option.some.inj h
      exact ⟨by rw [seqIndex_neg (by omega) h1, e], by omega, h1, by omega⟩
    · rw [if_neg h1] at h; cases h
theorem atI_get {α : Type} {xs : List α} {i : Int} {v : α} (h : atI xs i = some v) : ∃ j, seqIndex? i xs.length = some j ∧ xs[j]? = some v ∧ j < xs.length ∧ -(xs.length : Int) ≤ i ∧ i < xs.length := by
  unfold atI at h
  cases e : ixN xs.length i with
  | none => rw [e] at h; cases h
  | some j =>
    rw [e] at h
    obtain ⟨h1, h2, h3, h4⟩ := ixN_seq e
    exact ⟨j, h1, h, h2, h3, h4⟩
theorem atI_nat {α : Type} {xs : List α} {j : Nat} {v : α} (h : xs[j]? = some v) : atI xs (j : Int) = some v := by
  have hj : j < xs.length := (List.getElem?_eq_some_iff.mp h).1
  have e : ixN xs.length (j : Int) = some j := by
    unfold ixN
    rw [if_pos (by omega), if_pos (by omega)]; simp
  unfold atI; rw [e]; exact h
theorem atI_last {α : Type} (xs : List α) (v : α) : atI (xs ++ [v]) (-1) = some v := by
  have hl : (xs ++ [v]).length = xs.length + 1 := by simp
  have e : ixN (xs ++ [v]).length (-1) = some xs.length := by
    unfold ixN
    rw [hl, if_neg (by decide), if_pos (by omega)]
    congr 1
    omega
  unfold atI
  rw [e]
  show (xs ++ [v])[xs.length]? = some v
  simp

/-! ### what may be subscripted -/
/-- what stands as an index of a plain subscript -/
def PlainIx (b : Expr) : Prop := ∀ o i, subscripted b false o i = operate [o, i] (getItem o i)
/-- a subscript by values -/
def IxR (X : Cx) (r : R2) : Prop :=
  ∀ (value slice : Expr) (pins : List (Addr × Obj)) (s : Shared) (σ : St) (H : Hp) (x y : V) (v u : Value) (Q : VK), Inv X pins σ H s → RelV x v → RelV y u → r x y H Q →
    subscripted slice false v u = operate [v, u] (getItem v u) → wpAny (model X.prog X.w) X.A (subscriptTail value slice v u) (EP X pins σ Q) X.xe s
/-- a call of a builtin's method by values: the receiver, the arguments -/
def MtR (X : Cx) (id : String) (r : V → List V → Hp → VK → Prop) : Prop :=
  ∀ (pins : List (Addr × Obj)) (s : Shared) (σ : St) (H : Hp) (x : V) (xs : List V) (v : Value) (us : List Value) (Q : VK), Inv X pins σ H s → RelV x v → Vals xs us → r x xs H Q →
    wpAny (model X.prog X.w) X.A (call (.builtin id) (v :: us)) (EP X pins σ Q) X.xe s
section
variable {X : Cx} {a b : Expr} {ta tb : TE} {pos : Pos}
theorem IxR.or {r r' : R2} (h : IxR X r) (h' : IxR X r') : IxR X (fun x y H Q => r x y H Q ∨ r' x y H Q) := by
  intro value slice pins s σ H x y v u Q I rx ry q hs
  rcases q with q | q
  · exact h value slice pins s σ H x y v u Q I rx ry q hs
  · exact h' value slice pins s σ H x y v u Q I rx ry q hs
theorem MtR.or {id : String} {r r' : V → List V → Hp → VK → Prop} (h : MtR X id r) (h' : MtR X id r') : MtR X id (fun x xs H Q => r x xs H Q ∨ r' x xs H Q) := by
  intro pins s σ H x xs v us Q I rx rs q
  rcases q with q | q
  · exact h pins s σ H x xs v us Q I rx rs q
  · exact h' pins s σ H x xs v us Q I rx rs q
/-- a[b] -/
theorem pe_ix {r : R2} (hr : IxR X r) (ha : PE X a ta) (hb : PE X b tb) (hs : PlainIx b) : PE X (.Subscript a b pos) (tOp r ta tb) := by
  intro pins s σ H Q I h
  exact Subscript_ (binT ha hb I h fun v u s2 x y H2 I2 rx ry q => hr a b pins s2 σ H2 x y v u Q I2 rx ry q (hs _ _))

def rIxL (K : PySem.W.Frag) : R2 := fun x y H Q => ∃ p xs i v, x = .ref p ∧ y = .int i ∧ SqL K H p xs ∧ atI xs i = some v ∧ Q v H
def rIxT (K : PySem.W.Frag) : R2 := fun x y H Q => ∃ p xs i v, x = .ref p ∧ y = .int i ∧ SqT K H p xs ∧ atI xs i = some v ∧ Q v H
def rIxS : R2 := fun x y H Q => ∃ z i c, x = .str z ∧ y = .int i ∧ z.length ≤ sizeLine ∧ atI z.cps.toList i = some c ∧ Q (.str ⟨#[c]⟩) H
theorem ix_list : IxR X (rIxL X.K) := by
  intro value slice pins s σ H x y v u Q I rx ry h hs
  obtain ⟨p, xs, i, z, rfl, rfl, hq, he, q⟩ := h
  cases rx
  obtain ⟨t, rfl⟩ := ry
  obtain ⟨its, r, pl, hz⟩ := I.list hq
  obtain ⟨j, h1, h2, h3, h4, h5⟩ := atI_get he
  obtain ⟨w, ew, rw'⟩ := r.get h2
  have hl := r.length
  have hn := line63
  have fin : EP X pins σ Q w s := ⟨z, H, I, rw', q⟩
  by_cases h0 : 0 ≤ i
  · have hj : i.toNat = j := by
      rw [seqIndex_of h0 h5] at h1
      exact Option.some.inj h1
    exact item_listR pl.isList h0 (by omega) (by rw [hj]; simpa using ew) fin hs
  · have hj : (i + (its.toArray.size : Int)).toNat = j := by
      rw [seqIndex_neg (by omega) h4] at h1
      rw [List.size_toArray, ← hl]
      exact Option.some.inj h1
    exact subscriptTail_builtinR (x := w) pl.isList.typeIs slot_list_getitem.lookup
      (wpAny_getItem_list_neg (Q := fun r s' => r = w ∧ EP X pins σ Q r s') pl.isList (by omega) (by rw [List.size_toArray] <;> omega) (by omega) (by rw [hj]; simpa using ew) ⟨rfl, fin⟩) hs
theorem ix_tup : IxR X (rIxT X.K) := by
  intro value slice pins s σ H x y v u Q I rx ry h hs
  obtain ⟨p, xs, i, z, rfl, rfl, hq, he, q⟩ := h
  cases rx
  obtain ⟨t, rfl⟩ := ry
  obtain ⟨its, r, pl, hz⟩ := I.tuple hq
  obtain ⟨j, h1, h2, h3, h4, h5⟩ := atI_get he
  obtain ⟨w, ew, rw'⟩ := r.get h2
  have hl := r.length
  have hn := line63
  have fin : EP X pins σ Q w s := ⟨z, H, I, rw', q⟩
  exact subscriptTail_builtinR (x := w) pl.typeIs slot_tuple_getitem.lookup
    (getItem_tuple (j := j) (Q := fun r s' => r = w ∧ EP X pins σ Q r s') pl (by omega) (by omega) (by rw [List.size_toArray, ← hl]; exact h1) (by simpa using ew) ⟨rfl, fin⟩) hs
theorem ix_str : IxR X rIxS := by
  intro value slice pins s σ H x y v u Q I rx ry h hs
  obtain ⟨z, i, c, rfl, rfl, hz, he, q⟩ := h
  obtain ⟨t, rfl⟩ := rx
  obtain ⟨t', rfl⟩ := ry
  obtain ⟨j, h1, h2, h3, h4, h5⟩ := atI_get he
  have hl : z.cps.toList.length = z.length := by simp [Str.length]
  rw [hl] at h1 h4 h5
  have hn := line63
  exact tail_any (typeIs_str s z t) slot_str_getitem.lookup (getItem_str (c := c) (by
    have e1 : decide (i < -(2 ^ 63 : Int)) = false := decide_eq_false (by omega)
    have e2 : decide (i ≥ 2 ^ 63) = false := decide_eq_false (by omega)
    rw [e1, e2, Bool.or_false]) (by rw [h1]; simpa using h2) ⟨.str ⟨#[c]⟩, H, I.tok _, ⟨_, rfl⟩, q⟩) hs
/-- list, tuple or str -/
def rIx (K : PySem.W.Frag) : R2 := fun x y H Q => rIxL K x y H Q ∨ rIxT K x y H Q ∨ rIxS x y H Q
theorem ix_seq : IxR X (rIx X.K) := ix_list.or (ix_tup.or ix_str)

/-! ### xs[i] = v, any sign -/
/-- the list's object behind a store -/
theorem mapSeq_set (its : List Value) (n j : Nat) (u : Value) : Obj.mapSeq (·.setIfInBounds j u) { cls := .type "list", data := .seq its.toArray n } = { cls := .type "list", data := .seq (its.set j u).toArray n } := by
  simp [Obj.mapSeq]
theorem Inv.lst {pins : List (Addr × Obj)} {σ : St} {H : Hp} {s : Shared} {p : Addr} {xs : List V} (I : Inv X pins σ H s) (h : H p = some (.lst xs)) :
    ∃ (its : List Value) (n : Nat), Vals xs its ∧ s.heap.get? p = some { cls := .type "list", data := .seq its.toArray n } ∧ xs.length ≤ sizeLine := by
  obtain ⟨z, its, n, r, e⟩ := I.hok p _ h
  exact ⟨its, n, r, e, z⟩
/-- the list at p is written by an update of its object -/
theorem Inv.lstUpd {pins : List (Addr × Obj)} {σ : St} {H : Hp} {s : Shared} {p : Addr} {xs ys : List V} {its its' : List Value} {n n' : Nat} {f : Obj → Obj} (I : Inv X pins σ H s) (h : H p = some (.lst xs))
    (ho : s.heap.get? p = some { cls := .type "list", data := .seq its.toArray n }) (hf : f { cls := .type "list", data := .seq its.toArray n } = { cls := .type "list", data := .seq its'.toArray n' }) (r : Vals ys its') (hz : ys.length ≤ sizeLine) (t : Nat) :
    Inv X pins σ (upd H p (.lst ys)) { s with heap := s.heap.update p f, toks := t } := by
  have e : (s.heap.update p f).get? p = some { cls := .type "list", data := .seq its'.toArray n' } := by
    rw [Heap.get?_update_self f ho (by rw [hf] <;> rfl), hf]
  refine I.write (x := p) (e := p) (by rw [h]; trivial) (.inl rfl) (fun b u hb q => (Heap.get?_update_other _ _ (Ne.symm hb)).trans q) ⟨_, e⟩ ?_
  exact ⟨hz, its', n', r, e⟩
def rSetL : V → V → V → Hp → (Hp → Prop) → Prop := fun o i v H Q => ∃ p xs k j, o = .ref p ∧ i = .int k ∧ H p = some (.lst xs) ∧ ixN xs.length k = some j ∧ Q (upd H p (.lst (xs.set j v)))
theorem set_list : PSet X rSetL := by
  intro pins s σ H o i v ov iv u Q I ro ri rv h
  obtain ⟨p, xs, k, j, rfl, rfl, hp, hj, q⟩ := h
  cases ro
  obtain ⟨t, rfl⟩ := ri
  obtain ⟨its, n, r, ho, hz⟩ := I.lst hp
  obtain ⟨h1, h2, h3, h4⟩ := ixN_seq hj
  have hl := r.length
  have hn := line63
  have I' : Inv X pins σ (upd H p (.lst (xs.set j v))) { s with heap := s.heap.update p (Obj.mapSeq (·.setIfInBounds j u)) } :=
    I.lstUpd hp ho (mapSeq_set its n j u) (r.set rv j) (by rw [List.length_set]; exact hz) s.toks
  by_cases h0 : 0 ≤ k
  · have hk : k.toNat = j := by
      rw [seqIndex_of h0 h4] at h1
      exact Option.some.inj h1
    exact PySem.W.ki_setAt ho h0 (by omega) (by rw [List.size_toArray, ← hl]; exact h4) (by rw [hk]; exact ⟨_, I', q⟩)
  · have hk : (k + (its.toArray.size : Int)).toNat = j := by
      rw [seqIndex_neg (by omega) h3] at h1
      rw [List.size_toArray, ← hl]
      exact Option.some.inj h1
    exact PySem.W.ki_setBack ho (by omega) (by rw [List.size_toArray, ← hl]; exact h3) (by omega) (by rw [hk]; exact ⟨_, I', q⟩)

/-! ### slices -/
theorem slice_bounds (lo hi : Option Int) (n : Nat) : (sliceBounds lo hi none n).1 = ((HT.sIx n 0 lo : Nat) : Int) ∧ (sliceBounds lo hi none n).2.1 = ((HT.sIx n n hi : Nat) : Int) ∧ (sliceBounds lo hi none n).2.2 = 1 := by
  refine ⟨?_, ?_, rfl⟩
  · cases lo with
    | none => simp [sliceBounds, HT.sIx]
    | some i =>
      simp only [sliceBounds, HT.sIx, Option.getD_none, show (1 : Int) > 0 by decide, if_true]
      by_cases h : i < 0
      · simp only [h, if_true] <;> omega
      · simp only [h, if_false] <;> omega
  · cases hi with
    | none => simp [sliceBounds, HT.sIx]
    | some i =>
      simp only [sliceBounds, HT.sIx, Option.getD_none, show (1 : Int) > 0 by decide, if_true]
      by_cases h : i < 0
      · simp only [h, if_true] <;> omega
      · simp only [h, if_false] <;> omega
theorem slicePick_cut (its : List Value) (lo hi : Option Int) : slicePick its.toArray lo hi none = ((its.drop (HT.sIx its.length 0 lo)).take (HT.sIx its.length its.length hi - HT.sIx its.length 0 lo)).toArray := by
  obtain ⟨h1, h2, h3⟩ := slice_bounds lo hi its.toArray.size
  unfold slicePick
  rw [h1, h2, h3]
  simp only [sliceRange_one, pick_run, List.size_toArray] <;> rfl
/-- xs[lo:hi] of a list: a new list -/
def rSlL (K : PySem.W.Frag) : V → Option Int → Option Int → Hp → VK → Prop := fun x lo hi H Q => ∃ a xs, x = .ref a ∧ SqL K H a xs ∧ ∀ p, H p = none → Q (.ref p) (upd H p (.lst (cutV xs lo hi)))
theorem sl_list : SlR X (rSlL X.K) := by
  intro pins s σ H x v vl vu lo hi sl Q I rx hs pl pu h
  obtain ⟨a, xs, rfl, hx, q⟩ := h
  cases rx
  obtain ⟨its, r, ht, hz⟩ := I.list hx
  have hlen := r.length
  refine ⟨"list", _, slot_list_getitem.lookup, ht.isList.typeIs, ?_⟩
  refine wpAny_getItem_list_slice ht.isList hs pl pu .none (by simp) ?_ (by rw [List.size_toArray] <;> omega)
  rw [slicePick_cut, ← hlen]
  refine ⟨.ref s.heap.objs.size, _, I.laid (t' := s.toks) (o := .lst (cutV xs lo hi)) (fun b ob q => Heap.get?_push_of_some _ q) (Nat.le_refl _) ?_, rfl, q _ (I.hok.fresh (Nat.le_refl _))⟩
  exact ⟨Nat.le_trans (cutV_length xs lo hi) hz, _, 0, (r.drop (HT.sIx xs.length 0 lo)).take (HT.sIx xs.length xs.length hi - HT.sIx xs.length 0 lo), Heap.get?_push_size _ rfl⟩

/-! ### in, not in: flat items -/
def flatV : V → Bool
  | .non => true
  | .bl _ => true
  | .int _ => true
  | .str _ => true
  | _ => false
/-- == of flat values -/
def eqV : V → V → Bool
  | .non, .non => true
  | .bl a, .bl b => a == b
  | .bl a, .int b => (if a then 1 else 0) == b
  | .int a, .bl b => a == (if b then 1 else 0)
  | .int a, .int b => a == b
  | .str a, .str b => a == b
  | _, _ => false
theorem eqAt_V {A : Around} {s : Shared} {y x : V} {u v : Value} (ry : RelV y u) (rx : RelV x v) (fy : flatV y = true) (fx : flatV x = true) : SeqAt.EqAt A s u v (eqV y x) := by
  cases y with
  | non =>
    cases ry
    cases x with
    | non => cases rx; exact SeqAt.EqAt.same _
    | bl b => cases rx; exact SeqAt.EqAt.none_bool b
    | int b => obtain ⟨t, rfl⟩ := rx; exact SeqAt.EqAt.none_int b t
    | str b => obtain ⟨t, rfl⟩ := rx; exact SeqAt.EqAt.none_str b t
    | _ => exact absurd (show false = true from fx) Bool.false_ne_true
  | bl a =>
    cases ry
    cases x with
    | non => cases rx; exact SeqAt.EqAt.bool_none a
    | bl b => cases rx; exact SeqAt.EqAt.bool_bool a b
    | int b => obtain ⟨t, rfl⟩ := rx; exact SeqAt.EqAt.bool_int a b t
    | str b => obtain ⟨t, rfl⟩ := rx; exact SeqAt.EqAt.bool_str a b t
    | _ => exact absurd (show false = true from fx) Bool.false_ne_true
  | int a =>
    obtain ⟨t', rfl⟩ := ry
    cases x with
    | non => cases rx; exact SeqAt.EqAt.int_none a t'
    | bl b => cases rx; exact SeqAt.EqAt.int_bool a t' b
    | int b => obtain ⟨t, rfl⟩ := rx; exact SeqAt.EqAt.int_int a t' b t
    | str b => obtain ⟨t, rfl⟩ := rx; exact SeqAt.EqAt.int_str a t' b t
    | _ => exact absurd (show false = true from fx) Bool.false_ne_true
  | str a =>
    obtain ⟨t', rfl⟩ := ry
    cases x with
    | non => cases rx; exact SeqAt.EqAt.str_none a t'
    | bl b => cases rx; exact SeqAt.EqAt.str_bool a t' b
    | int b => obtain ⟨t, rfl⟩ := rx; exact SeqAt.EqAt.str_int a t' b t
    | str b => obtain ⟨t, rfl⟩ := rx; exact SeqAt.EqAt.str_str a t' b t
    | _ => exact absurd (show false = true from fx) Bool.false_ne_true
  | _ => exact absurd (show false = true from fy) Bool.false_ne_true
/-- the items' answers, read off the values (a value's own answer does not lean on its token) -/
def eqU (x : V) (u : Value) : Bool := match u with
  | .none => eqV .non x
  | .bool b => eqV (.bl b) x
  | .int i _ => eqV (.int i) x
  | .str z _ => eqV (.str z) x
  | _ => false
theorem eqU_of {x y : V} {u : Value} (r : RelV y u) (f : flatV y = true) : eqU x u = eqV y x := by
  cases y with
  | non => cases r; rfl
  | bl b => cases r; rfl
  | int i => obtain ⟨t, rfl⟩ := r; rfl
  | str z => obtain ⟨t, rfl⟩ := r; rfl
  | _ => exact absurd (show false = true from f) Bool.false_ne_true
theorem any_eqU {x : V} : ∀ {xs : List V} {us : List Value}, Vals xs us → xs.all flatV = true → us.any (eqU x) = xs.any fun y => eqV y x
  | _, _, .nil, _ => rfl
  | y :: xs, u :: us, .cons r t, f => by
    rw [List.all_cons, Bool.and_eq_true] at f
    rw [List.any_cons, List.any_cons, eqU_of r f.1, any_eqU t f.2]
theorem mem_eqAt {A : Around} {s : Shared} {x : V} {v : Value} (rx : RelV x v) (fx : flatV x = true) : ∀ {xs : List V} {us : List Value}, Vals xs us → xs.all flatV = true → ∀ u ∈ us, SeqAt.EqAt A s u v (eqU x u)
  | _, _, .nil, _ => fun u hu => by cases hu
  | y :: xs, u :: us, .cons r t, f => fun u' hu => by
    rw [List.all_cons, Bool.and_eq_true] at f
    rcases List.mem_cons.mp hu with rfl | hu
    · rw [eqU_of r f.1]; exact eqAt_V r rx f.1 fx
    · exact mem_eqAt rx fx t f.2 u' hu
def inV (x : V) (xs : List V) : Bool := xs.any fun y => eqV y x
/-- x in a list or tuple of flat items -/
def rIn (K : PySem.W.Frag) (neg : Bool) : R2 := fun x y H Q => ∃ p xs, y = .ref p ∧ (SqL K H p xs ∨ SqT K H p xs) ∧ flatV x = true ∧ xs.all flatV = true ∧ Q (.bl (if neg then !inV x xs else inV x xs)) H
theorem op_in_seq : OpR X (compareOp .In) (rIn X.K false) := by
  intro pins s σ H x y v u Q I rx ry h
  obtain ⟨p, xs, rfl, hq, fx, fs, q⟩ := h
  cases ry
  rcases hq with hq | hq
  · obtain ⟨its, r, pl, hz⟩ := I.list hq
    refine SeqAt.in_listAt (eqU x) pl.isList (fun w hw => mem_eqAt rx fx r fs w (by simpa using hw)) ⟨.bl _, H, I, rfl, ?_⟩
    rw [show its.toArray.any (eqU x) = its.any (eqU x) by simp, any_eqU r fs]
    exact q
  · obtain ⟨its, r, pl, hz⟩ := I.tuple hq
    refine SeqAt.in_tupleAt (eqU x) pl (fun w hw => mem_eqAt rx fx r fs w (by simpa using hw)) ⟨.bl _, H, I, rfl, ?_⟩
    rw [show its.toArray.any (eqU x) = its.any (eqU x) by simp, any_eqU r fs]
    exact q
theorem op_notIn_seq : OpR X (compareOp .NotIn) (rIn X.K true) := by
  intro pins s σ H x y v u Q I rx ry h
  obtain ⟨p, xs, rfl, hq, fx, fs, q⟩ := h
  cases ry
  rcases hq with hq | hq
  · obtain ⟨its, r, pl, hz⟩ := I.list hq
    refine SeqAt.notIn_listAt (eqU x) pl.isList (fun w hw => mem_eqAt rx fx r fs w (by simpa using hw)) ⟨.bl _, H, I, rfl, ?_⟩
    rw [show its.toArray.any (eqU x) = its.any (eqU x) by simp, any_eqU r fs]
    exact q
  · obtain ⟨its, r, pl, hz⟩ := I.tuple hq
    refine SeqAt.notIn_tupleAt (eqU x) pl (fun w hw => mem_eqAt rx fx r fs w (by simpa using hw)) ⟨.bl _, H, I, rfl, ?_⟩
    rw [show its.toArray.any (eqU x) = its.any (eqU x) by simp, any_eqU r fs]
    exact q
theorem op_notIn_str : OpR X (compareOp .NotIn) (fun x y H Q => ∃ i j, x = .str i ∧ y = .str j ∧ Q (.bl (!(!(Builtin.Str.occurrences j i 0 j.length 1).isEmpty))) H) := by
  intro pins s σ H x y v u Q I rx ry h
  obtain ⟨i, j, rfl, rfl, q⟩ := h
  obtain ⟨t, rfl⟩ := rx
  obtain ⟨t', rfl⟩ := ry
  exact notIn_str ⟨.bl _, H, I, rfl, q⟩

/-! ### len, list(x), tuple(x) of any list or tuple that is read -/
theorem call_len_seq : CallR X (.builtin "len") (fun xs H Q => ∃ p ys, xs = [.ref p] ∧ (SqL X.K H p ys ∨ SqT X.K H p ys) ∧ Q (.int ys.length) H) := by
  intro pins s σ H xs us Q I r h
  obtain ⟨p, ys, rfl, hq, q⟩ := h
  obtain ⟨u, rfl, rx⟩ := vals1 r
  cases rx
  have hn := line63
  rcases hq with hq | hq
  · obtain ⟨its, r', pl, hz⟩ := I.list hq
    have hlen := r'.length
    exact Calls.call_len_list pl.isList (by simp only [List.size_toArray] <;> omega) ⟨.int ys.length, H, I.tok _, ⟨s.toks + 1, by rw [List.size_toArray, hlen]⟩, q⟩
  · obtain ⟨its, r', pl, hz⟩ := I.tuple hq
    have hlen := r'.length
    exact len_tuple pl (by simp only [List.size_toArray] <;> omega) ⟨.int ys.length, H, I.tok _, ⟨s.toks + 1, by rw [List.size_toArray, hlen]⟩, q⟩
theorem call_len_str : CallR X (.builtin "len") (fun xs H Q => ∃ z, xs = [.str z] ∧ z.length ≤ sizeLine ∧ Q (.int z.length) H) := by
  intro pins s σ H xs us Q I r h
  obtain ⟨z, rfl, hz, q⟩ := h
  obtain ⟨u, rfl, t, rfl⟩ := vals1 r
  have hn := line63
  exact len_str (by omega) ⟨.int z.length, H, I.tok _, ⟨_, rfl⟩, q⟩
theorem CallR.or {f : Value} {r r' : List V → Hp → VK → Prop} (h : CallR X f r) (h' : CallR X f r') : CallR X f (fun xs H Q => r xs H Q ∨ r' xs H Q) := by
  intro pins s σ H xs us Q I rs q
  rcases q with q | q
  · exact h pins s σ H xs us Q I rs q
  · exact h' pins s σ H xs us Q I rs q
theorem call_list_of : CallR X (.type "list") (fun xs H Q => ∃ p ys, xs = [.ref p] ∧ (SqL X.K H p ys ∨ SqT X.K H p ys) ∧ ∀ l, H l = none → Q (.ref l) (upd H l (.lst ys))) := by
  intro pins s σ H xs us Q I r h
  obtain ⟨p, ys, rfl, hq, q⟩ := h
  obtain ⟨u, rfl, rx⟩ := vals1 r
  cases rx
  have fin : ∀ (its : List Value), Vals ys its → ys.length ≤ sizeLine → ∀ (h' : Heap) (c' : Nat), (∀ b o', s.heap.get? b = some o' → h'.get? b = some o') →
      h'.get? s.heap.objs.size = some { cls := .type "list", dict := none, data := .seq its.toArray c', slots := #[] } → EP X pins σ Q (.ref s.heap.objs.size) { s with heap := h' } := fun its r' hz h' c' kp e =>
    ⟨.ref s.heap.objs.size, _, I.laid (t' := s.toks) kp (Nat.le_refl _) (show ObjOk X.prog X.w _ h' _ (.lst ys) from ⟨hz, its, c', r', e⟩), rfl, q _ (I.hok.fresh (Nat.le_refl _))⟩
  rcases hq with hq | hq
  · obtain ⟨its, r', pl, hz⟩ := I.list hq
    have hlen := r'.length
    obtain ⟨o, ho, hc, n, hd⟩ := pl.isList
    exact call_list_seq p (.inl rfl) ho hc hd (fun h' c' kp e => fin its r' hz h' c' kp e) (by simp only [List.size_toArray] <;> omega)
  · obtain ⟨its, r', pl, hz⟩ := I.tuple hq
    have hlen := r'.length
    obtain ⟨o, ho, hc, n, hd⟩ := pl
    exact call_list_seq p (.inr rfl) ho hc hd (fun h' c' kp e => fin its r' hz h' c' kp e) (by simp only [List.size_toArray] <;> omega)
theorem call_tuple_of : CallR X (.type "tuple") (fun xs H Q => ∃ p ys, xs = [.ref p] ∧ ((SqL X.K H p ys ∧ ∀ l, H l = none → Q (.ref l) (upd H l (.tup ys))) ∨ (SqT X.K H p ys ∧ Q (.ref p) H))) := by
  intro pins s σ H xs us Q I r h
  obtain ⟨p, ys, rfl, h⟩ := h
  obtain ⟨u, rfl, rx⟩ := vals1 r
  cases rx
  rcases h with ⟨hq, q⟩ | ⟨hq, q⟩
  · obtain ⟨its, r', pl, hz⟩ := I.list hq
    have hlen := r'.length
    refine call_tuple_list pl.isList (fun h' kp => ?_) (by simp only [List.size_toArray] <;> omega)
    have I1 : Inv X pins σ H { s with heap := h' } := I.kept (t' := s.toks) kp
    have I2 : Inv X pins σ (upd H h'.objs.size (.tup ys)) { s with heap := h'.push { cls := .type "tuple", data := .seq its.toArray } } :=
      I1.laid (t' := s.toks) (fun b o e => Heap.get?_push_of_some _ e) (Nat.le_refl _) (show ObjOk X.prog X.w _ _ _ (.tup ys) from ⟨hz, its, r', IsTup.new _ _⟩)
    exact ⟨.ref h'.objs.size, _, I2, rfl, q _ (I1.hok.fresh (Nat.le_refl _))⟩
  · obtain ⟨its, r', pl, hz⟩ := I.tuple hq
    exact call_tuple_same pl ⟨.ref p, H, I, rfl, q⟩

/-! ### the call of a builtin's method: o.m(..) -/
/-- the value is of that builtin type -/
def tyV (K : PySem.W.Frag) (T : String) (x : V) (H : Hp) : Prop := match x with
  | .str _ => T = "str"
  | .int _ => T = "int"
  | .ref p => (T = "list" ∧ ∃ xs, SqL K H p xs) ∨ (T = "tuple" ∧ ∃ o, K.lookup p = some o ∧ o.cls = .type "tuple" ∧ o.dict = none) ∨
      (T = "dict" ∧ ((∃ kvs, H p = some (.dK kvs)) ∨ ∃ kvs, H p = some (.dT kvs))) ∨ (T = "set" ∧ ∃ S n, H p = some (.set S n))
  | _ => False
theorem tyV_is {pins : List (Addr × Obj)} {σ : St} {H : Hp} {s : Shared} {T : String} {x : V} {v : Value} (I : Inv X pins σ H s) (r : RelV x v) (ty : tyV X.K T x H) :
    s.TypeIs v T ∧ ∀ a, v = .ref a → ∃ ob, s.heap.get? a = some ob ∧ ob.dict = none := by
  cases x with
  | str z =>
    obtain ⟨t, rfl⟩ := r
    cases (show T = "str" from ty)
    exact ⟨typeIs_str s z t, fun _ e => nomatch e⟩
  | int i =>
    obtain ⟨t, rfl⟩ := r
    cases (show T = "int" from ty)
    exact ⟨typeIs_int s i t, fun _ e => nomatch e⟩
  | ref p =>
    cases r
    rcases ty with ⟨rfl, xs, hq⟩ | ⟨rfl, o, hk, hc, hd⟩ | ⟨rfl, hk⟩ | ⟨rfl, S, n, hk⟩
    · obtain ⟨its, _, pl, _⟩ := I.list hq
      refine ⟨pl.isList.typeIs, fun a e => ?_⟩
      cases e
      obtain ⟨o, n, e, c, hd, _⟩ := pl
      exact ⟨o, e, hd⟩
    · refine ⟨⟨o, I.kIn p o hk, hc⟩, fun a e => ?_⟩
      cases e
      exact ⟨o, I.kIn _ o hk, hd⟩
    · have z : ∃ o, s.heap.get? p = some o ∧ o.ExactDict := by
        rcases hk with ⟨kvs, hk⟩ | ⟨kvs, hk⟩
        · obtain ⟨_, _, _, _, o, _, _, e, ex, _⟩ := I.hok p _ hk
          exact ⟨o, e, ex⟩
        · obtain ⟨_, _, _, _, o, _, _, e, ex, _⟩ := I.hok p _ hk
          exact ⟨o, e, ex⟩
      obtain ⟨o, e, ex⟩ := z
      refine ⟨⟨o, e, ex.1⟩, fun a e2 => ?_⟩
      cases e2
      exact ⟨o, e, ex.2.1⟩
    · obtain ⟨o, _, _, _, e, ex, _⟩ := I.hok p _ hk
      refine ⟨⟨o, e, ex.1⟩, fun a e2 => ?_⟩
      cases e2
      exact ⟨o, e, ex.2.1⟩
  | _ => exact False.elim ty
def tBM0 (K : PySem.W.Frag) (T : String) (r : V → List V → Hp → VK → Prop) (to : TE) : TE := fun σ H Q => to σ H fun x H1 => tyV K T x H1 ∧ r x [] H1 Q
def tBM (K : PySem.W.Frag) (T : String) (r : V → List V → Hp → VK → Prop) (to : TE) (t : TA) : TE := fun σ H Q => to σ H fun x H1 => tyV K T x H1 ∧ t σ H1 fun xs H2 => r x xs H2 Q
variable {o e : Expr} {es : List Expr} {to : TE} {t : TA} {name : Str} {apos cpos : Pos} {T id : String} {r : V → List V → Hp → VK → Prop}
theorem pe_bm0 (pa : PlainAttrs T) (slot : Slot T name id) (hty : typeOf (.builtin id) = pure (.type "method_descriptor")) (hm : MtR X id r) (ho : PE X o to)
    (hbase : attributeBase o name X.env (eval o X.env) = eval o X.env := by rfl) (hline : (apos.endLine == cpos.line) = true := by rfl) : PE X (.Call (.Attribute o name apos) [] [] cpos) (tBM0 X.K T r to) := by
  intro pins s σ H Q I h
  refine wpAny_Call_method0_late hbase hline (thn (ho pins s σ H _ I h) fun v s1 ⟨x, H1, I1, r1, ty, q1⟩ => ?_)
  obtain ⟨h1, h2⟩ := tyV_is I1 r1 ty
  exact ⟨T, id, pa, slot, hty, h1, h2, Calls.callWith_builtin rfl (PySem.evalArgs_none (hm pins s1 σ H1 x [] v [] Q I1 r1 .nil q1))⟩
theorem pe_bm (pa : PlainAttrs T) (slot : Slot T name id) (hty : typeOf (.builtin id) = pure (.type "method_descriptor")) (hm : MtR X id r) (ho : PE X o to) (ha : PA X (e :: es) t)
    (hbase : attributeBase o name X.env (eval o X.env) = eval o X.env := by rfl)
    (hfew : ((backTo cpos (starEach (e :: es) X.env)).all (fun x => !x.1) && (backToKw cpos (keywordEach [] X.env)).all (fun x => x.1.isSome)
      && decide ((e :: es).length + ([] : List Keyword).length + (if ([] : List Keyword).isEmpty then 0 else 1) < 30)) = true := by rfl)
    (hline : (apos.endLine == cpos.line) = true := by rfl) (hs : starEach (e :: es) X.env = (false, eval e X.env) :: starEach es X.env := by rfl) (hplain : (backTo cpos (starEach es X.env)).any (·.1) = false := by rfl) :
    PE X (.Call (.Attribute o name apos) (e :: es) [] cpos) (tBM X.K T r to t) := by
  intro pins s σ H Q I h
  refine wpAny_Call_method_late hbase hfew hline rfl (thn (ho pins s σ H _ I h) fun v s1 ⟨x, H1, I1, r1, ty, q1⟩ => ?_)
  obtain ⟨h1, h2⟩ := tyV_is I1 r1 ty
  refine ⟨T, id, pa, slot, hty, h1, h2, ?_⟩
  have hA := ha cpos pins s1 σ H1 _ I1 q1
  rw [hs] at hA ⊢
  refine Calls.callWith_builtin (by show (false || (backTo cpos (starEach es X.env)).any (·.1)) = false; rw [hplain] <;> rfl) (Calls.evalArgs_plain ?_)
  exact thn hA fun us s2 ⟨vs, H2, I2, r2, q2⟩ => hm pins s2 σ H2 x vs v us Q I2 r1 r2 q2
/- xs.append(e), list.index on a module's tuple .. are MtR facts of 06m -/
end
end L2

namespace L2
open PySem PySem.Spec PyProof.Rows

def MtM (X : Cx) (id : String) (r : V → List V → Hp → VK → Prop) : Prop :=
  ∀ (pins : List (Addr × Obj)) (s : Shared) (σ : St) (H : Hp) (x : V) (xs : List V) (v : Value) (us : List Value) (Q : VK), Inv X pins σ H s → RelV x v → Vals xs us → r x xs H Q →
    wpAny (model X.prog X.w) X.A (call (.builtin id) (v :: us)) (EP X pins σ Q) X.xe s

/-! ### lists of values -/
theorem Vals.one : ∀ {x : V} {us : List Value}, Vals [x] us → ∃ u, us = [u] ∧ RelV x u
  | _, _, .cons r .nil => ⟨_, rfl, r⟩
theorem Vals.two : ∀ {x y : V} {us : List Value}, Vals [x, y] us → ∃ u v, us = [u, v] ∧ RelV x u ∧ RelV y v
  | _, _, _, .cons r (.cons q .nil) => ⟨_, _, rfl, r, q⟩
theorem Vals.zero : ∀ {us : List Value}, Vals [] us → us = []
  | _, .nil => rfl
theorem Vals.dropLast {xs : List V} {us : List Value} (h : Vals xs us) : Vals xs.dropLast us.dropLast := by
  induction h with
  | nil => exact .nil
  | cons r t ih =>
    cases t with
    | nil => exact .nil
    | cons q t' => exact .cons r ih
theorem Vals.eraseIdx : ∀ {xs : List V} {us : List Value} (i : Nat), Vals xs us → Vals (xs.eraseIdx i) (us.eraseIdx i)
  | _, _, _, .nil => .nil
  | _, _, 0, .cons _ t => t
  | _, _, i + 1, .cons r t => .cons r (Vals.eraseIdx i t)
theorem Vals.reverse {xs : List V} {us : List Value} (h : Vals xs us) : Vals xs.reverse us.reverse := by
  induction h with
  | nil => exact .nil
  | cons r t ih => rw [List.reverse_cons, List.reverse_cons]; exact Vals.append ih (.cons r .nil)
theorem Vals.rep {xs : List V} {us : List Value} (h : Vals xs us) : ∀ k : Nat, Vals (List.replicate k xs).flatten (List.replicate k us).flatten
  | 0 => .nil
  | k + 1 => by
    rw [List.replicate_succ, List.replicate_succ, List.flatten_cons, List.flatten_cons]
    exact Vals.append h (Vals.rep h k)
theorem erase_last {α : Type} (l : List α) : l.eraseIdx (l.length - 1) = l.dropLast := by
  induction l with
  | nil => rfl
  | cons a r ih =>
    cases r with
    | nil => rfl
    | cons b r =>
      have e : (a :: b :: r).length - 1 = ((b :: r).length - 1) + 1 := by
        have h1 : (a :: b :: r).length = r.length + 2 := rfl
        have h2 : (b :: r).length = r.length + 1 := rfl
        omega
      rw [e, List.eraseIdx_cons_succ, ih]
      all_goals rfl
theorem len_erase {α : Type} : ∀ (l : List α) (i : Nat), (l.eraseIdx i).length ≤ l.length
  | [], _ => Nat.le_refl _
  | _ :: _, 0 => Nat.le_succ _
  | _ :: r, i + 1 => Nat.succ_le_succ (len_erase r i)
theorem foldl_rep (its : List Value) : ∀ (k : Nat) (acc : List Value),
    List.foldl (fun x1 x2 => x1 ++ x2) acc.toArray (List.replicate k its.toArray) = (acc ++ (List.replicate k its).flatten).toArray
  | 0, acc => by simp
  | k + 1, acc => by
    have e : acc.toArray ++ its.toArray = (acc ++ its).toArray := by simp
    have e2 : (acc ++ its) ++ (List.replicate k its).flatten = acc ++ (List.replicate (k + 1) its).flatten := by
      rw [List.replicate_succ, List.flatten_cons, List.append_assoc]
    rw [← e2, ← foldl_rep its k (acc ++ its), ← e, List.replicate_succ, List.foldl_cons]

section
variable {X : Cx} {pins : List (Addr × Obj)} {σ : St} {H : Hp} {s : Shared} {l b : Addr} {xs ys zs : List V}

/-! ### the two steps: a tracked list is rewritten, a new list is laid -/
theorem Inv.lset {its its' : List Value} {n : Nat} {f : Array Value → Array Value} {t' : Nat} (I : Inv X pins σ H s) (hH : H l = some (.lst xs))
    (e : s.heap.get? l = some { cls := .type "list", data := .seq its.toArray n }) (hf : f its.toArray = its'.toArray) (hv : Vals ys its') (hz : ys.length ≤ sizeLine) :
    Inv X pins σ (upd H l (.lst ys)) { s with heap := s.heap.update l (Obj.mapSeq f), toks := t' } := by
  have q := PySem.IsL.update e f
  rw [hf] at q
  refine I.write (x := l) (e := l) (by rw [hH]; exact trivial) (.inl rfl) (fun b' u hb hu => (Heap.get?_update_other s.heap (Obj.mapSeq f) (Ne.symm hb)).trans hu) ⟨_, q⟩ ?_
  exact ⟨hz, its', _, hv, q⟩
theorem Inv.lnew {its : List Value} {t' : Nat} (I : Inv X pins σ H s) (hv : Vals ys its) (hz : ys.length ≤ sizeLine) :
    Inv X pins σ (upd H s.heap.objs.size (.lst ys)) { s with heap := s.heap.push { cls := .type "list", data := .seq its.toArray }, toks := t' } :=
  I.laid (fun _ _ q => Heap.get?_push_of_some _ q) (Nat.le_refl _) ⟨hz, its, 0, hv, Heap.get?_push_size _ rfl⟩
theorem Inv.fresh (I : Inv X pins σ H s) : H s.heap.objs.size = none := I.hok.fresh (Nat.le_refl _)
theorem Inv.lstM (I : Inv X pins σ H s) (hH : H l = some (.lst xs)) : xs.length ≤ sizeLine ∧ ∃ (its : List Value) (n : Nat), Vals xs its ∧ xs.length = its.length ∧ s.heap.get? l = some { cls := .type "list", data := .seq its.toArray n } := by
  obtain ⟨z, its, n, r, e⟩ := I.hok l _ hH
  exact ⟨z, its, n, r, r.length, e⟩

theorem notLongL {n : Nat} (h : n ≤ sizeLine) : Builtin.List.listTooLong n = false := by
  unfold Builtin.List.listTooLong
  exact decide_eq_false (by omega)
end

section
variable {X : Cx}

/-! ### methods -/
def rAppend : V → List V → Hp → VK → Prop := fun x vs H Q => ∃ l xs y, x = .ref l ∧ vs = [y] ∧ H l = some (.lst xs) ∧ xs.length < sizeLine ∧ Q .non (upd H l (.lst (xs ++ [y])))
theorem mt_append : MtM X "list.append" rAppend := by
  intro pins s σ H x vs v us Q I rx rv h
  obtain ⟨l, xs, y, rfl, rfl, hH, hz, q⟩ := h
  cases rx
  obtain ⟨u, rfl, ru⟩ := rv.one
  obtain ⟨z, its, n, r, hl, e⟩ := I.lstM hH
  refine call_meets F.slot_list_append ⟨_, e, rfl⟩ F.entry_list_append (F.args_list_append_2 _ _) (PySem.list_append l its.toArray n u (by rw [List.size_toArray]; omega)) ⟨e, ?_⟩
  refine ⟨.non, _, I.lset (its' := its ++ [u]) hH e (by simp) (r.append (.cons ru .nil)) ?_, rfl, q⟩
  rw [List.length_append, List.length_singleton]
  omega

def rExtend : V → List V → Hp → VK → Prop := fun x vs H Q => ∃ l b xs zs, x = .ref l ∧ vs = [.ref b] ∧ H l = some (.lst xs) ∧ H b = some (.lst zs) ∧ xs.length + zs.length ≤ sizeLine ∧ Q .non (upd H l (.lst (xs ++ zs)))
theorem mt_extend : MtM X "list.extend" rExtend := by
  intro pins s σ H x vs v us Q I rx rv h
  obtain ⟨l, b, xs, zs, rfl, rfl, hH, hB, hz, q⟩ := h
  cases rx
  obtain ⟨u, rfl, ru⟩ := rv.one
  cases ru
  obtain ⟨z, its, n, r, hl, e⟩ := I.lstM hH
  obtain ⟨z2, its2, n2, r2, hl2, e2⟩ := I.lstM hB
  have hsz : its.toArray.size + its2.toArray.size ≤ sizeLine := by rw [List.size_toArray, List.size_toArray]; omega
  have hlong : ¬ (!its.toArray.isEmpty && Builtin.List.listTooLong (its.toArray.size + its2.toArray.size)) = true := by
    rw [notLongL hsz, Bool.and_false]
    exact Bool.false_ne_true
  refine call_meets F.slot_list_extend ⟨_, e, rfl⟩ F.entry_list_extend (F.args_list_extend_2 _ _)
    (AutoSeq1.list_extend_list_list_0 l its.toArray n b its2.toArray n2 hlong (by rw [List.size_toArray]; omega) (by omega)) ⟨e, e2, ?_⟩
  refine ⟨.non, _, I.lset (its' := its ++ its2) hH e (by simp) (r.append r2) ?_, rfl, q⟩
  rw [List.length_append]
  omega

def rPop : V → List V → Hp → VK → Prop := fun x vs H Q => ∃ l xs y, x = .ref l ∧ vs = [] ∧ H l = some (.lst xs) ∧ xs[xs.length - 1]? = some y ∧ Q y (upd H l (.lst xs.dropLast))
theorem mt_pop : MtM X "list.pop" rPop := by
  intro pins s σ H x vs v us Q I rx rv h
  obtain ⟨l, xs, y, rfl, rfl, hH, hy, q⟩ := h
  cases rx
  have hus := rv.zero
  subst hus
  obtain ⟨z, its, n, r, hl, e⟩ := I.lstM hH
  obtain ⟨u, hu, ru⟩ := r.get hy
  have hy' : its.toArray[its.toArray.size - 1]? = some u := by
    show its.toArray[its.length - 1]? = some u
    rw [← Array.getElem?_toList, ← hl]
    exact hu
  refine call_meets F.slot_list_pop ⟨_, e, rfl⟩ F.entry_list_pop (F.args_list_pop_1 _) (MeetsSeq.list_pop_last l its.toArray n u hy' (by rw [List.size_toArray]; omega)) ⟨e, ?_⟩
  refine ⟨y, _, I.lset (its' := its.dropLast) hH e ?_ r.dropLast ?_, ru, q⟩
  · show its.toArray.eraseIdxIfInBounds (its.toArray.size - 1) = its.dropLast.toArray
    rw [List.size_toArray, List.eraseIdxIfInBounds_toArray, erase_last]
  · rw [List.length_dropLast]
    omega

def rPopAt : V → List V → Hp → VK → Prop := fun x vs H Q => ∃ l xs i k y, x = .ref l ∧ vs = [.int i] ∧ H l = some (.lst xs) ∧ -(2 ^ 63) ≤ i ∧ i < 2 ^ 63 ∧ seqIndex? i xs.length = some k ∧ xs[k]? = some y ∧ Q y (upd H l (.lst (xs.eraseIdx k)))
theorem mt_popAt : MtM X "list.pop" rPopAt := by
  intro pins s σ H x vs v us Q I rx rv h
  obtain ⟨l, xs, i, k, y, rfl, rfl, hH, h1, h2, hk, hy, q⟩ := h
  cases rx
  obtain ⟨u, rfl, ru⟩ := rv.one
  obtain ⟨t, rfl⟩ := ru
  obtain ⟨z, its, n, r, hl, e⟩ := I.lstM hH
  obtain ⟨w, hw, rw'⟩ := r.get hy
  refine call_meets F.slot_list_pop ⟨_, e, rfl⟩ F.entry_list_pop (F.args_list_pop_2 _ _)
    (MeetsSeq.list_pop_at l its.toArray n i t k w (fitsIndex_both h1 h2) (by rw [List.size_toArray, ← hl]; exact hk) (by rw [← Array.getElem?_toList]; exact hw) (by rw [List.size_toArray]; omega)) ⟨e, ?_⟩
  refine ⟨y, _, I.lset (its' := its.eraseIdx k) hH e ?_ (r.eraseIdx k) ?_, rw', q⟩
  · show its.toArray.eraseIdxIfInBounds k = (its.eraseIdx k).toArray
    rw [List.eraseIdxIfInBounds_toArray]
  · have := len_erase xs k
    omega

def rReverse : V → List V → Hp → VK → Prop := fun x vs H Q => ∃ l xs, x = .ref l ∧ vs = [] ∧ H l = some (.lst xs) ∧ Q .non (upd H l (.lst xs.reverse))
theorem mt_reverse : MtM X "list.reverse" rReverse := by
  intro pins s σ H x vs v us Q I rx rv h
  obtain ⟨l, xs, rfl, rfl, hH, q⟩ := h
  cases rx
  have hus := rv.zero
  subst hus
  obtain ⟨z, its, n, r, hl, e⟩ := I.lstM hH
  refine call_meets F.slot_list_reverse ⟨_, e, rfl⟩ F.entry_list_reverse (F.args_list_reverse_1 _) (AutoSeq1.list_reverse_list_0 l its.toArray n (by rw [List.size_toArray]; omega)) ⟨e, ?_⟩
  refine ⟨.non, _, I.lset (its' := its.reverse) hH e (by simp) r.reverse ?_, rfl, q⟩
  rw [List.length_reverse]
  omega

def rClear : V → List V → Hp → VK → Prop := fun x vs H Q => ∃ l xs, x = .ref l ∧ vs = [] ∧ H l = some (.lst xs) ∧ Q .non (upd H l (.lst []))
theorem mt_clear : MtM X "list.clear" rClear := by
  intro pins s σ H x vs v us Q I rx rv h
  obtain ⟨l, xs, rfl, rfl, hH, q⟩ := h
  cases rx
  have hus := rv.zero
  subst hus
  obtain ⟨z, its, n, r, hl, e⟩ := I.lstM hH
  refine call_meets F.slot_list_clear ⟨_, e, rfl⟩ F.entry_list_clear (F.args_list_clear_1 _) (AutoSeq1.list_clear_list_0 l its.toArray n (by rw [List.size_toArray]; omega)) ⟨e, ?_⟩
  exact ⟨.non, _, I.lset (its' := []) (ys := []) hH e rfl .nil (Nat.zero_le _), rfl, q⟩

/-! ### list + list, list += list, list * int -/
def rCat : R2 := fun x y H Q => ∃ l b xs zs, x = .ref l ∧ y = .ref b ∧ H l = some (.lst xs) ∧ H b = some (.lst zs) ∧ xs.length + zs.length ≤ sizeLine ∧ ∀ p, H p = none → Q (.ref p) (upd H p (.lst (xs ++ zs)))
theorem op_cat : OpR X (binaryOp .Add) rCat := by
  intro pins s σ H x y v u Q I rx ry h
  obtain ⟨l, b, xs, zs, rfl, rfl, hH, hB, hz, q⟩ := h
  cases rx
  cases ry
  obtain ⟨z, its, n, r, hl, e⟩ := I.lstM hH
  obtain ⟨z2, its2, n2, r2, hl2, e2⟩ := I.lstM hB
  refine PySem.P.add_list e e2 ?_ (by rw [List.size_toArray, List.size_toArray]; omega)
  have ea : its.toArray ++ its2.toArray = (its ++ its2).toArray := by simp
  rw [ea]
  exact ⟨.ref _, _, I.lnew (t' := s.toks) (r.append r2) (by rw [List.length_append]; omega), rfl, q _ I.fresh⟩
/-- a list times an int (a negative one is nothing) -/
def rRep : R2 := fun x y H Q => ∃ l k xs, x = .ref l ∧ y = .int k ∧ H l = some (.lst xs) ∧ -(2 ^ 63) ≤ k ∧ k < 2 ^ 63 ∧ xs.length * k.toNat ≤ sizeLine ∧
  ∀ p, H p = none → Q (.ref p) (upd H p (.lst (List.replicate k.toNat xs).flatten))
theorem len_rep {α : Type} (xs : List α) (k : Nat) : (List.replicate k xs).flatten.length = k * xs.length := by
  induction k with
  | zero => simp
  | succ k ih => rw [List.replicate_succ, List.flatten_cons, List.length_append, ih, Nat.succ_mul, Nat.add_comm]
theorem op_rep : OpR X (binaryOp .Mult) rRep := by
  intro pins s σ H x y v u Q I rx ry h
  obtain ⟨l, k, xs, rfl, rfl, hH, h1, h2, hz, q⟩ := h
  cases rx
  obtain ⟨t, rfl⟩ := ry
  obtain ⟨z, its, n, r, hl, e⟩ := I.lstM hH
  have hlen : its.toArray.size * k.toNat ≤ sizeLine := by rw [List.size_toArray, ← hl]; exact hz
  have hcap : ¬ its.toArray.size * k.toNat > (2 ^ 63 - 1) / 8 := by
    have : (sizeLine : Nat) ≤ (2 ^ 63 - 1) / 8 := by decide
    omega
  have hfit : ¬ (!Builtin.List.listFitsIndex k) = true := by
    rw [fitsIndex_both h1 h2]
    exact Bool.false_ne_true
  have hlong : ¬ Builtin.List.listTooLong (its.toArray.size * k.toNat) = true := by
    rw [notLongL hlen]
    exact Bool.false_ne_true
  have hnew : List.foldl (fun x1 x2 => x1 ++ x2) #[] (List.replicate (if its.toArray.isEmpty = true then 0 else k.toNat) its.toArray) = (List.replicate k.toNat its).flatten.toArray := by
    have f0 : ∀ m : Nat, List.foldl (fun x1 x2 => x1 ++ x2) #[] (List.replicate m its.toArray) = (List.replicate m its).flatten.toArray := fun m => by
      have := foldl_rep its m []
      rw [List.nil_append] at this
      exact this
    rw [f0]
    cases its with
    | nil => simp
    | cons a r' => rw [if_neg (by simp)]
  refine wpAny_binaryOp_repeat_ref (T := "list") (U := "int") (by decide) ⟨_, e, rfl⟩ (fun s' => typeIs_int s' k t) noFill_list_mul F.fills_int_mul F.slot_int_rmul repeat_list F.slot_int_index.lookup
    (call_meets F.slot_int_rmul (typeIs_int s k t) F.entry_int_rmul (F.args_int_rmul_2 _ _) (int___rmul___int_list k t l its.toArray n)
      ⟨e, rfl, ⟨_, e, rfl⟩, call_meets F.slot_list_mul ⟨_, e, rfl⟩ F.entry_list_mul (F.args_list_mul_2 _ _) (AutoListH.list___mul___list_int_3 l its.toArray n k t hfit hcap hlong) ⟨e, ?_⟩⟩)
  rw [hnew]
  exact ⟨.ref _, _, I.lnew (t' := s.toks) (r.rep k.toNat) (by rw [len_rep, Nat.mul_comm]; exact hz), rfl, q _ I.fresh⟩

/-! ### del xs[i] -/
theorem del_list {pins : List (Addr × Obj)} {s : Shared} {σ : St} {H : Hp} {l : Addr} {xs : List V} {i : Int} {t : Tok} {k : Nat} {Q : Unit → Shared → Prop} (I : Inv X pins σ H s) (hH : H l = some (.lst xs))
    (h1 : -(2 ^ 63) ≤ i) (h2 : i < 2 ^ 63) (hk : seqIndex? i xs.length = some k) (h : ∀ s', Inv X pins σ (upd H l (.lst (xs.eraseIdx k))) s' → Q () s') :
    wpAny (model X.prog X.w) X.A (delItem (.ref l) (.int i t)) Q X.xe s := by
  obtain ⟨z, its, n, r, hl, e⟩ := I.lstM hH
  refine PySem.P.delItem_list (k := k) e (fitsIndex_both h1 h2) (by rw [List.size_toArray, ← hl]; exact hk) (h _ ?_) (by rw [List.size_toArray]; omega)
  refine I.lset (its' := its.eraseIdx k) (t' := s.toks) hH e ?_ (r.eraseIdx k) ?_
  · show its.toArray.eraseIdxIfInBounds k = (its.eraseIdx k).toArray
    rw [List.eraseIdxIfInBounds_toArray]
  · have := len_erase xs k
    omega
end

/-! ### xs[a:b] = ys -/
section
variable {prog : Program} {w : World} {A : Around} {E : Value → Shared → Prop} {s : Shared}
theorem splice_eq (its its2 : List Value) (a c : Nat) : its.toArray.extract 0 a ++ its2.toArray ++ its.toArray.extract c its.toArray.size = (its.take a ++ its2 ++ its.drop c).toArray := by
  apply Array.toList_inj.mp
  first
    | (simp
       exact List.take_of_length_le (by simp))
    | simp [List.take_of_length_le]
    | simp
theorem bounds_run {a c n : Nat} (hac : a ≤ c) (hc : c ≤ n) : sliceBounds (some (a : Int)) (some (c : Int)) none n = ((a : Int), (c : Int), 1) := by
  simp only [sliceBounds, Option.getD_none]
  have h1 : ¬ ((a : Int) < 0) := by omega
  have h2 : ¬ ((c : Int) < 0) := by omega
  simp only [h1, h2, if_false, show (1 : Int) > 0 by decide, if_true]
  congr 1
  · omega
  · congr 1; omega
set_option maxRecDepth 100000 in
/-- list.__setitem__ with a slice of step one and another list -/
theorem setItem_slice {l b sl : Addr} {items new : Array Value} {n n2 : Nat} {vl vu : Value} {a c : Nat} {Q : Unit → Shared → Prop}
    (e : s.heap.get? l = some { cls := .type "list", data := .seq items n }) (e2 : s.heap.get? b = some { cls := .type "list", data := .seq new n2 }) (hne : l ≠ b)
    (hs : s.heap.IsSliceOf sl vl vu .none) (pl : IsPart vl (some (a : Int))) (pu : IsPart vu (some (c : Int))) (hac : a ≤ c) (hc : c ≤ items.size)
    (hsz : items.size + new.size ≤ sizeLine) (h : Q () { s with heap := s.heap.update l (Obj.mapSeq fun xs => xs.extract 0 a ++ new ++ xs.extract c xs.size) }) :
    wpAny (model prog w) A (setItem (.ref l) (.ref sl) (.ref b)) Q E s := by
  have hl : s.heap.IsList l items := PySem.IsL.isList e
  have hb : s.heap.IsList b new := PySem.IsL.isList e2
  obtain ⟨os, hos, hcs, hds⟩ := id hs
  have hTs : s.TypeIs (.ref sl) "slice" := ⟨os, hos, hcs⟩
  have hstep : ¬ ((rawPart none == rawInt 0) = true) := Bool.false_ne_true
  have hsame : Builtin.List.listSameRef (.ref l) (.ref b) = false := by
    unfold Builtin.List.listSameRef
    exact beq_eq_false_iff_ne.mpr hne
  have hmax : (max (a : Int) (c : Int)).toNat = c := by omega
  have hz' : ((fun xs : Array Value => xs.extract 0 a ++ new ++ xs.extract c xs.size) items).size ≤ sizeLine + 1 := by
    simp only [Array.size_append, Array.size_extract]
    omega
  unfold setItem
  try with_reducible refine wpAny_holding ?_
  first | refine wpAny_bind (wpAny_pure ?_) | skip
  refine wpAny_bind (wpAny_sequenceKey hl.typeIs (by decide) ?_)
  refine wpAny_bind (wpAny_callSpecial?_slot (name := Str.ofString "__setitem__") hl.typeIs slot_list_setitem
    (wpAny_call_entry slot_list_setitem hl.typeIs entry_list_setitem ?_ (args_list_setitem _ _ _)))
  show wpAny _ _ (Builtin.List.listSubscript? (.ref sl) >>= _) _ _ s
  refine wpAny_bind ?_
  unfold Builtin.List.listSubscript?
  refine wpAny_bind (wpAny_specialOf hTs slice_no_index ?_)
  simp only [Option.isNone_none, if_true]
  refine wpAny_pure ?_
  show wpAny _ _ (typeOf (.ref sl) >>= _) _ _ s
  refine wpAny_bind (wpAny_typeOf hTs ?_)
  first
    | rw [if_neg (by decide)]
    | refine PySem.W.KFB.if_not (by decide) ?_
  rw [listSliceParts_eq]
  refine wpAny_bind (wpAny_bind (wpAny_field hos hds (x := .none) rfl (wpAny_bind (wpAny_listPart .none ?_))))
  rw [if_neg hstep]
  refine wpAny_bind (wpAny_field hos hds (x := vl) rfl (wpAny_bind (wpAny_listPart pl ?_)))
  refine wpAny_bind (wpAny_field hos hds (x := vu) rfl (wpAny_bind (wpAny_listPart pu (wpAny_pure ?_))))
  first
    | simp only [hsame, Bool.false_eq_true, if_false]
    | refine PySem.W.KFB.if_not hsame ?_
    | (dsimp only
       rw [if_neg (by rw [hsame]; exact Bool.false_ne_true)])
  refine wpAny_bind (m := Builtin.List.listAllItems (.ref b) "must assign iterable to extended slice") ?_
  unfold Builtin.List.listAllItems
  refine wpAny_bind (wpAny_typeOf hb.typeIs ?_)
  first
    | refine PySem.W.KFB.if_so (by decide) ?_
    | rw [if_pos (by decide)]
    | simp only [beq_self_eq_true, Bool.true_or, if_true]
  unfold Builtin.List.listItems
  refine wpAny_bind (wpAny_seqItems e2 rfl (wpAny_pure ?_))
  refine wpAny_bind (wpAny_bind (wpAny_seqItems e rfl (wpAny_pure ?_)))
  refine wpAny_bind (wpAny_of_eq ((sliceIndices_raw (some (a : Int)) (some (c : Int)) none items.size (by simp)).trans (congrArg (pure : Int × Int × Int → Sem (Int × Int × Int)) (bounds_run hac hc))) ?_)
  show wpAny _ _ (if ((1 : Int) == 1) = true then _ else _) _ _ s
  rw [if_pos (by decide)]
  refine wpAny_bind (wpAny_rule ?_)
  first
    | simp only [notLongL hsz, Bool.false_eq_true, if_false]
    | refine PySem.W.KFB.if_not (notLongL hsz) ?_
  first | refine wpAny_bind (wpAny_pure ?_) | skip
  show wpAny _ _ (updateSeq l (fun xs => xs.extract 0 ((a : Int)).toNat ++ new ++ xs.extract (max (a : Int) (c : Int)).toNat xs.size) >>= _) _ _ s
  rw [hmax, Int.toNat_natCast]
  refine wpAny_bind (wpAny_updateSeq (hz := Nat.le_trans (Nat.le_add_right _ _) hsz) (_hz' := hz') e rfl ?_)
  refine wpAny_bind (wpAny_letGo ?_)
  first
    | exact wpAny_bind (wpAny_pure (wpAny_pure ⟨.none, rfl, wpAny_pure h⟩))
    | exact wpAny_pure ⟨.none, rfl, wpAny_pure h⟩
end

section
variable {X : Cx}
/-- xs[a:c] = ys of another list, at the value level: sl is the slice object that was just made -/
theorem set_slice {pins : List (Addr × Obj)} {s : Shared} {σ : St} {H : Hp} {l b sl : Addr} {xs ys : List V} {a c : Int} {vl vu : Value} {Q : Unit → Shared → Prop} (I : Inv X pins σ H s)
    (hH : H l = some (.lst xs)) (hB : H b = some (.lst ys)) (hne : l ≠ b) (hs : s.heap.IsSliceOf sl vl vu .none) (ra : RelV (.int a) vl) (rc : RelV (.int c) vu) (h0 : 0 ≤ a) (hac : a ≤ c) (hc : c ≤ xs.length)
    (hz : xs.length + ys.length ≤ sizeLine) (h : ∀ s', Inv X pins σ (upd H l (.lst (xs.take a.toNat ++ ys ++ xs.drop c.toNat))) s' → Q () s') :
    wpAny (model X.prog X.w) X.A (setItem (.ref l) (.ref sl) (.ref b)) Q X.xe s := by
  obtain ⟨ta, rfl⟩ := ra
  obtain ⟨tc, rfl⟩ := rc
  obtain ⟨z, its, n, r, hl, e⟩ := I.lstM hH
  obtain ⟨z2, its2, n2, r2, hl2, e2⟩ := I.lstM hB
  obtain ⟨a', rfl⟩ := Int.eq_ofNat_of_zero_le h0
  obtain ⟨c', rfl⟩ := Int.eq_ofNat_of_zero_le (Int.le_trans h0 hac)
  simp only [Int.toNat_natCast] at h
  refine setItem_slice (a := a') (c := c') e e2 hne hs (.int _ _) (.int _ _) (by omega) (by rw [List.size_toArray]; omega) (by rw [List.size_toArray, List.size_toArray]; omega) (h _ ?_)
  refine I.lset (its' := its.take a' ++ its2 ++ its.drop c') (t' := s.toks) hH e ?_ (Vals.append (Vals.append (r.take _) r2) (r.drop _)) ?_
  · exact splice_eq its its2 a' c'
  · rw [List.length_append, List.length_append, List.length_take, List.length_drop]
    omega
end
end L2

namespace Att
open PySem PySem.W PySem.Calls PyProof.Rows

/-! ### the script -/
theorem ints_of_wellAll {P : Params} {h : Heap} : ∀ (ns : List Int) (vs : List Value), WellAll P h vs (ns.map WData.int) → IntsAre vs ns := by
  intro ns
  induction ns with
  | nil =>
    intro vs w
    rw [List.map_nil] at w
    cases w
    exact .nil
  | cons n ns ih =>
    intro vs w
    rw [List.map_cons] at w
    cases w with
    | cons a b =>
      cases a
      exact .cons _ _ (ih _ b)

theorem script_of {l : OpenLaw} {n : Nat} (hn : l.most = some n) {P : Params} {h : Heap} {args : List WData} {vals : List Value}
    (hpre : l.row.toRowW.claim.pre args = true) (hwl : WellAll P h vals args) :
    ∃ a vs ns, vals = [Value.ref a] ∧ args = [WData.list (ns.map WData.int)] ∧ h.get? a = some { cls := .type "list", data := .seq vs.toArray } ∧ IntsAre vs ns ∧ ns.length ≤ n := by
  have hsh : WShape.hasAll [] args [.list .int] = true := (pre_splitW hpre).1
  have hc : l.pre.holds [] { args := args } = true := (pre_splitW hpre).2
  obtain ⟨d, r, rfl, h1, h2⟩ := hasAllW_cons hsh
  obtain rfl := hasAllW_nil h2
  obtain ⟨xs, rfl, h3⟩ := hasW_list h1
  obtain ⟨ns, rfl⟩ := items_int h3
  have hlen : ns.length ≤ n := by
    unfold OpenLaw.pre at hc
    have h4 : (WTm.not (.lt (.lit (.int (n : Int))) (.len (.arg 0)))).holds [] { args := [.list (ns.map .int)] } = true := by
      have h4 := (holds_andW hc).1
      rw [hn] at h4
      exact h4
    have h5 := condW_of h4 (w_not (w_lt w_lit (w_len_list (w_arg rfl))))
    rw [List.length_map] at h5
    refine Nat.le_of_not_lt fun q => ?_
    have q' : (n : Int) < ((ns.length : Nat) : Int) := by omega
    first
      | (rw [decide_eq_true q'] at h5; exact absurd h5 (by decide))
      | (simp at h5; omega)
  cases hwl with
  | cons w1 w2 =>
    cases w2
    cases w1 with
    | list ho hall => exact ⟨_, _, ns, rfl, rfl, ho, ints_of_wellAll ns _ hall, hlen⟩

theorem post_true (l : OpenLaw) (args : List WData) : l.row.toRowW.claim.post args (.bool true) args = true :=
  postW_of (r := l.row.toRowW) (X := (true == true))
    (show WShape.has [] (.bool true) .bool = true by first | rfl | decide | simp [WShape.has, WShape.arms, WShape.armsAll])
    (show (WTm.eq .res (.lit (.bool true))).value [] { args := args, res := some (.bool true), after := args } = some (.bool (true == true)) from w_eq_bool (w_res rfl) w_lit) rfl

/-! ### the attachment: holds_open's last premise (the goal 'hc' behind k_head) from a wpAny of the law's body -/
theorem attach {l : OpenLaw} {n : Nat} {q : Program} {loose : List Str} {XP : (Str → Option Value) → Heap → Prop} {YP : World → Heap → Prop} {d : DefRec} {x : Str}
    (hn : l.most = some n) (hdf : d.params.defaults = [])
    (hbind : ∀ pm cd doc v : Value, bindArgs (docDef d.name d.params d.body d.scope pm cd doc) ⟨[v], []⟩ = pure [(x, v)])
    (hx : d.scope.names.lookup x = some .local ∨ d.scope.names.lookup x = some .cell)
    (hk : d.scope.kind = .function) (hco : d.scope.isCoroutine = false) (hgen : d.scope.isGenerator = false)
    (body : ∀ (w : World) (s₀ s₁ s : Shared) (mg mb : Str → Option Value) (fa : Addr) (o : Obj) (pm cd doc : Value) (a : Addr) (vs : List Value) (ns : List Int),
      Ground q loose [] XP w s₀ mg mb s₁.heap → YP w s₁.heap →
      s₁.heap.get? fa = some o → o.data = .func (docDef d.name d.params d.body d.scope pm cd doc) → s₁.heap.CodeRec cd d.name → mg d.name = some (.ref fa) →
      s₁.heap.get? a = some { cls := .type "list", data := .seq vs.toArray } → IntsAre vs ns → ns.length ≤ n →
      s.gens = #[] → s.os = s₁.os →
      Fr s₁.heap s₁.heap.objs.size s.heap (bindL (envOfC d.name d.scope s₁.heap.objs.size fa cd).kindOf [(x, .ref a)] fun _ => none) →
      Cl s₁.heap.objs.size (cellsFrom (s₁.heap.objs.size + 1) d.scope.names []) s.heap (bindC (envOfC d.name d.scope s₁.heap.objs.size fa cd).kindOf [(x, .ref a)] fun _ => none) →
      wpAny (model l.prog w) (callerA.deeper (envOfC d.name d.scope s₁.heap.objs.size fa cd)) (execs d.body (envOfC d.name d.scope s₁.heap.objs.size fa cd))
        (fun f s' => f = .ret (.bool true) ∧ OldK s₁.heap s'.heap ∧ s'.os = s₁.os ∧ AllBare s'.gens) (fun _ _ => False) s) :
    WalkO q loose XP YP l.row.toRowW d [] (fun f vs => PySem.call f vs) := by
  intro w s₀ s₁ mg mb G Y fa o pm cd doc dV kV ho hd hcd hD hmg hg args vals as hpre hlay hrd hwl hlo
  obtain rfl : dV = .none := Dflts.none hD hdf
  obtain rfl : kV = .none := Dflts.noKw hD
  obtain ⟨a, vs, ns, rfl, rfl, hobj, hints, hlen⟩ := script_of hn hpre hwl
  refine enter_call ?_
  refine call_cells_ret (o := o) (by rw [depth_caller]; decide) ho (fd_plain hd) G.T.nolimit hcd (hbind pm cd doc (.ref a)) (fun y hy => ?_) (fun h₁ tk F X => ?_) hco hgen hk
  · obtain rfl : y = (x, Value.ref a) := List.mem_singleton.mp hy
    rcases hx with e | e
    · exact .inl e
    · exact .inr ⟨e, cellsFrom_some _ _ _ (.inl e)⟩
  · refine wpAny_mono (body w s₀ s₁ { s₁ with heap := h₁, toks := tk } mg mb fa o pm cd doc a vs ns G Y ho (fd_plain hd) hcd hmg hobj hints hlen hg rfl F X) (fun f s' hq => ?_) (fun _ _ hq => hq)
    obtain ⟨rfl, h2, h3, h4⟩ := hq
    exact ⟨.inl ⟨.bool true, .bool true, [], rfl, fun _ => rfl, .bool true, post_true l _, fun _ => ⟨List.Pairwise.nil, fun _ hm => (nomatch hm)⟩⟩, h2, h3, h4⟩

/-- the same from a codeAny of the CALL (for a layer whose function contracts speak of calls) -/
theorem attach_call {l : OpenLaw} {n : Nat} {q : Program} {loose : List Str} {XP : (Str → Option Value) → Heap → Prop} {YP : World → Heap → Prop} {d : DefRec}
    (hn : l.most = some n) (hdf : d.params.defaults = [])
    (call : ∀ (w : World) (s₀ s₁ : Shared) (mg mb : Str → Option Value) (fa : Addr) (o : Obj) (pm cd doc : Value) (a : Addr) (vs : List Value) (ns : List Int),
      Ground q loose [] XP w s₀ mg mb s₁.heap → YP w s₁.heap →
      s₁.heap.get? fa = some o → o.data = .func (docDef d.name d.params d.body d.scope pm cd doc) → s₁.heap.CodeRec cd d.name → mg d.name = some (.ref fa) →
      s₁.heap.get? a = some { cls := .type "list", data := .seq vs.toArray } → IntsAre vs ns → ns.length ≤ n → s₁.gens = #[] →
      codeAny (model l.prog w) callerA (.call (.ref fa) ⟨[.ref a], []⟩) (fun r s' => r = .ok (.ret (.bool true)) ∧ OldK s₁.heap s'.heap ∧ s'.os = s₁.os ∧ AllBare s'.gens) s₁) :
    WalkO q loose XP YP l.row.toRowW d [] (fun f vs => PySem.call f vs) := by
  intro w s₀ s₁ mg mb G Y fa o pm cd doc dV kV ho hd hcd hD hmg hg args vals as hpre hlay hrd hwl hlo
  obtain rfl : dV = .none := Dflts.none hD hdf
  obtain rfl : kV = .none := Dflts.noKw hD
  obtain ⟨a, vs, ns, rfl, rfl, hobj, hints, hlen⟩ := script_of hn hpre hwl
  refine enter_call (codeAny_mono (call w s₀ s₁ mg mb fa o pm cd doc a vs ns G Y ho (fd_plain hd) hcd hmg hobj hints hlen hg) fun r s' hq => ?_)
  obtain ⟨rfl, h2, h3, h4⟩ := hq
  exact ⟨.inl ⟨.bool true, .bool true, [], rfl, fun _ => rfl, .bool true, post_true l _, fun _ => ⟨List.Pairwise.nil, fun _ hm => (nomatch hm)⟩⟩, h2, h3, h4⟩

/-- the same where the top left finished generators (o_head chose holds_openN): nothing may have changed at all and no generator may be left -/
theorem attachN {l : OpenLaw} {n : Nat} {q : Program} {loose : List Str} {XP : (Str → Option Value) → Heap → Prop} {YP : World → Heap → Prop} {d : DefRec} {x : Str}
    (hn : l.most = some n) (hdf : d.params.defaults = [])
    (hbind : ∀ pm cd doc v : Value, bindArgs (docDef d.name d.params d.body d.scope pm cd doc) ⟨[v], []⟩ = pure [(x, v)])
    (hx : d.scope.names.lookup x = some .local ∨ d.scope.names.lookup x = some .cell)
    (hk : d.scope.kind = .function) (hco : d.scope.isCoroutine = false) (hgen : d.scope.isGenerator = false)
    (body : ∀ (w : World) (s₀ s₁ s : Shared) (mg mb : Str → Option Value) (fa : Addr) (o : Obj) (pm cd doc : Value) (a : Addr) (vs : List Value) (ns : List Int),
      Ground q loose [] XP w s₀ mg mb s₁.heap → YP w s₁.heap →
      s₁.heap.get? fa = some o → o.data = .func (docDef d.name d.params d.body d.scope pm cd doc) → s₁.heap.CodeRec cd d.name → mg d.name = some (.ref fa) →
      s₁.heap.get? a = some { cls := .type "list", data := .seq vs.toArray } → IntsAre vs ns → ns.length ≤ n →
      s.gens = #[] → s.os = s₁.os →
      Fr s₁.heap s₁.heap.objs.size s.heap (bindL (envOfC d.name d.scope s₁.heap.objs.size fa cd).kindOf [(x, .ref a)] fun _ => none) →
      Cl s₁.heap.objs.size (cellsFrom (s₁.heap.objs.size + 1) d.scope.names []) s.heap (bindC (envOfC d.name d.scope s₁.heap.objs.size fa cd).kindOf [(x, .ref a)] fun _ => none) →
      wpAny (model l.prog w) (callerA.deeper (envOfC d.name d.scope s₁.heap.objs.size fa cd)) (execs d.body (envOfC d.name d.scope s₁.heap.objs.size fa cd))
        (fun f s' => f = .ret (.bool true) ∧ (∀ b o, s₁.heap.get? b = some o → s'.heap.get? b = some o) ∧ s'.os = s₁.os ∧ s'.gens = #[]) (fun _ _ => False) s) :
    WalkN q loose XP YP l.row.toRowW d [] (fun f vs => PySem.call f vs) := by
  intro w s₀ s₁ mg mb G Y fa o pm cd doc dV kV ho hd hcd hD hmg hg args vals as hpre hlay hrd hwl hlo
  obtain rfl : dV = .none := Dflts.none hD hdf
  obtain rfl : kV = .none := Dflts.noKw hD
  obtain ⟨a, vs, ns, rfl, rfl, hobj, hints, hlen⟩ := script_of hn hpre hwl
  refine enter_callW ?_
  refine call_cells_ret (o := o) (by rw [depth_caller]; decide) ho (fd_plain hd) G.T.nolimit hcd (hbind pm cd doc (.ref a)) (fun y hy => ?_) (fun h₁ tk F X => ?_) hco hgen hk
  · obtain rfl : y = (x, Value.ref a) := List.mem_singleton.mp hy
    rcases hx with e | e
    · exact .inl e
    · exact .inr ⟨e, cellsFrom_some _ _ _ (.inl e)⟩
  · refine wpAny_mono (body w s₀ s₁ { s₁ with heap := h₁, toks := tk } mg mb fa o pm cd doc a vs ns G Y ho (fd_plain hd) hcd hmg hobj hints hlen hg rfl F X) (fun f s' hq => ?_) (fun _ _ hq => hq)
    obtain ⟨rfl, h2, h3, h4⟩ := hq
    exact ⟨.inl ⟨.bool true, .bool true, [], rfl, fun _ => rfl, .bool true, post_true l _, fun _ => ⟨List.Pairwise.nil, fun _ hm => (nomatch hm)⟩⟩, h2, h3, h4⟩

/-! ### rules over ANY heap (no ledger) from facts about the written part K: the library's own take a ledger (News) for what they write -/
section
variable {prog : Program} {w : World} {A : Around} {E : Value → Shared → Prop} {s : Shared} {K : Frag}

/-- a def of the module, or a method (qual 'C.m'), entered: the frame is the next address; cells behind it -/
theorem call_fn {R : Result → Shared → Prop} {name qual : Str} {params : Arguments} {body : List Stmt} {scope : Scope} {dV kV doc pm cdv ct oc : Value} {an od : Option Addr} {osl : Array (Option Value)} {f : Addr} {args : Args} {binds : List (Str × Value)}
    (X : K.In s.heap) (hlim : s.heap.NoLimit) (ho : K.lookup f = some ⟨oc, od, .func (fnOf name qual params body scope dV kV doc pm an cdv ct), osl⟩) (hcd : codeIn K cdv qual = true) (hroom : A.depth < recursionLimit)
    (hbind : BindsTo s (fnOf name qual params body scope dV kV doc pm an cdv ct) args binds)
    (hkind : (binds.all fun y => scope.names.lookup y.1 == some .local || scope.names.lookup y.1 == some .cell) = true)
    (h : ∀ s₁, InCallC s s.heap.objs.size (bindL (envOfC qual scope s.heap.objs.size f cdv).kindOf binds fun _ => none) (cellsFrom (s.heap.objs.size + 1) scope.names [])
        (bindC (envOfC qual scope s.heap.objs.size f cdv).kindOf binds fun _ => none) s₁ →
      wpAny (model prog w) (A.deeper (envOfC qual scope s.heap.objs.size f cdv)) (execs body (envOfC qual scope s.heap.objs.size f cdv))
        (fun fl s' => R (.ok (.ret (match fl with | .ret v => v | _ => .none))) s')
        (fun e s' => wpAny (model prog w) (A.deeper (envOfC qual scope s.heap.objs.size f cdv)) (leaving (envOfC qual scope s.heap.objs.size f cdv) e) (fun _ s'' => R (.error e) s'') (fun e' s'' => R (.error e') s'') s') s₁)
    (hco : scope.isCoroutine = false) (hgen : scope.isGenerator = false) (hk : scope.kind = .function) : codeAny (model prog w) A (.call (.ref f) args) R s := by
  refine codeAny_call_function hroom (X _ _ ho) rfl hco hgen rfl (codeRec_of X hcd) (hbind _ _ _ _ ?_)
  refine wpAny_newFunctionEnv_cells hk (kindsX hkind _) fun env he s₁ x => ?_
  subst he
  exact ⟨hlim.keeps x.toInCall.keep, codeAny_func (h s₁ x)⟩

/-- C(..): dict at size, instance at size + 1, then __init__ -/
theorem make_obj {R : Result → Shared → Prop} {C fI : Addr} {rest : List Value} {kw : List (Str × Value)}
    (X : K.In s.heap) (hm : makesIn K C = true) (hi : findIn K (.ref C) "__init__" = some (some (.ref fI))) (hf : isFn K (.ref fI) = true)
    (h : codeAny (model prog w) (A.under (.builtin "type.__call__" ⟨.ref C :: rest, kw⟩)) (.call (.ref fI) ⟨.ref (s.heap.objs.size + 1) :: rest, kw⟩) (InitBack (s.heap.objs.size + 1) R)
      { s with heap := (s.heap.push emptyDict).push (instObj C s.heap.objs.size) }) : codeAny (model prog w) A (.call (.ref C) ⟨rest, kw⟩) R s := by
  obtain ⟨hh, g, d, t, os⟩ := s
  exact make_core (makes_of X hm) (looks_findIn X hi) (fun self => bind_fn X self (beq_iff_eq.mp hf)) (.inl rfl) h

/-- x.name where the instance's dict holds the name and the class does not -/
theorem get_field {x C : Addr} {ox : Obj} {es : List DictEntry} {n : Nat} {name : Str} {expr : Bool} {v : Value} {Q : Value → Shared → Prop}
    (X : K.In s.heap) (I : PySem.W.InstAt s.heap x ox C (some (dictOf es n))) (hg : plainGet K C name = true) (hh : hasDictIn K C = true) (ha : findIn K (.ref C) name = some none)
    (hl : getL name es = some (some v)) (hv : handedIn v = true) (h : Q v { s with toks := s.toks + 1 }) : wpAny (model prog w) A (getAttr (.ref x) name expr) Q E s :=
  get_value X I (plainGet_of hg).1 (findObj_own hh ha rfl hl) hv h

/-- x.m(..): the method found in the class -/
theorem get_method {x C f : Addr} {ox : Obj} {es : List DictEntry} {n : Nat} {name : Str} {pl : Sem Bool} {Q : Value × List Value → Shared → Prop}
    (X : K.In s.heap) (I : PySem.W.InstAt s.heap x ox C (some (dictOf es n))) (hg : plainGet K C name = true) (hf : findIn K (.ref C) name = some (some (.ref f))) (ht : isFn K (.ref f) = true)
    (hl : getL name es = some none) (h : Q (.ref f, [.ref x]) s) : wpAny (model prog w) A (getMethod (.ref x) name pl) Q E s :=
  method_fn X I (plainGet_of hg).1 (plainGet_of hg).2 hf (beq_iff_eq.mp ht) (by show (lookIn name (dictOf es n)).map _ = _; rw [lookIn_dict, hl]; rfl) h

/-! the whole heap as the ledger: makes every rule that writes through a ledger a rule over any heap -/
def noObjs (h : Heap) : Heap := { h with objs := #[] }
theorem noObjs_get (h : Heap) (b : Addr) : (noObjs h).get? b = none := by
  cases e : (noObjs h).get? b with
  | none => rfl
  | some o => exact absurd (Heap.lt_size e) (Nat.not_lt_zero _)
def ledger (h : Heap) (L d : Addr) : List (Addr × Obj) := (List.range h.objs.size).filterMap fun a => if a = L ∨ a = d then none else (h.get? a).map fun o => (a, o)
theorem mem_ledger {h : Heap} {L d a : Addr} {o : Obj} : (a, o) ∈ ledger h L d ↔ a ≠ L ∧ a ≠ d ∧ h.get? a = some o := by
  unfold ledger
  rw [List.mem_filterMap]
  constructor
  · rintro ⟨b, _, e⟩
    split at e
    · cases e
    · rename_i hb
      obtain ⟨o', ho, e'⟩ := Option.map_eq_some_iff.mp e
      cases e'
      exact ⟨fun q => hb (.inl q), fun q => hb (.inr q), ho⟩
  · rintro ⟨n1, n2, ho⟩
    refine ⟨a, List.mem_range.mpr (Heap.lt_size ho), ?_⟩
    rw [if_neg (show ¬ (a = L ∨ a = d) from fun q => q.elim n1 n2), ho] <;> rfl
theorem news_ledger {h : Heap} {L d : Addr} {od : Obj} (hne : d ≠ L) (ho : h.get? d = some od) : News (noObjs h) L h ([] ++ (d, od) :: ledger h L d) := by
  rintro ⟨a, o⟩ hp
  rcases List.mem_cons.mp hp with e | hp
  · cases e
    exact ⟨ho, hne, noObjs_get _ _⟩
  · obtain ⟨n1, n2, e⟩ := mem_ledger.mp hp
    exact ⟨e, n1, noObjs_get _ _⟩
theorem fr_all {h : Heap} {L : Addr} {m : Str → Option Value} (n : h.Ns L m) : Fr (noObjs h) L h m :=
  ⟨n, fun b o e => (by rw [noObjs_get] at e; cases e), Nat.zero_le _⟩
/-- Upd of the head entry (for append_K, setItem_K ..) -/
theorem upd_ledger {h : Heap} {L d : Addr} {o o' : Obj} : Upd d o o' ((d, o) :: ledger h L d) ((d, o') :: ledger h L d) :=
  .head fun ⟨_, _⟩ hp => (mem_ledger.mp hp).2.1

/-- x.name = v over any heap: L is any namespace of the heap (the frame's, say): its map stays, its object is not told; all else but the dict stays -/
theorem set_field {x C dx L : Addr} {ox : Obj} {m : Str → Option Value} {es es' : List DictEntry} {n n' : Nat} {name : Str} {v : Value} {Q : Unit → Shared → Prop}
    (X : K.In s.heap) (I : PySem.W.InstAt s.heap x ox C (some (dictOf es n))) (hd : ox.dict = some dx) (hL : s.heap.Ns L m) (hne : dx ≠ L)
    (hs : findIn K (.ref C) "__setattr__" = some (some (.builtin "object.__setattr__"))) (hp : plainOver K C = true) (ht : takerIn K C name = some none) (hh : hasDictIn K C = true) (hl : (getL name es).isSome = true)
    (e : (putL name (PyData.keyHash w.params name) (.str name (s.toks + 1)) v es, putN name es n) = (es', n')) (hz : es'.length ≤ 1000)
    (h : ∀ h' : Heap, h'.Ns L m → h'.get? dx = some (dictOf es' n') → (∀ b o, b ≠ dx → b ≠ L → s.heap.get? b = some o → h'.get? b = some o) → Q () { s with heap := h', toks := s.toks + 2 }) :
    wpAny (model prog w) A (setAttr (.ref x) name v) Q E s := by
  obtain ⟨e1, e2⟩ := Prod.mk.inj e
  have hdx : s.heap.get? dx = some (dictOf es n) := by
    have := I.dict
    rw [hd] at this
    exact this
  refine set_plain X I hs (osa_dict (s := { s with toks := s.toks + 1 }) (h₀ := noObjs s.heap) (L := L) (m := m) (od := dictOf es n) (od' := dictOf es' n') (es := es') (n := n') (pre := []) (post := ledger s.heap L dx)
    (fr_all hL) (news_ledger hne hdx) X I hd hp ht hh hl (fun _ q => nomatch q) (fun ⟨_, _⟩ q => (mem_ledger.mp q).2.1) (by rw [putName_dict, e1, e2]) rfl hz fun h' F' N' => ?_)
  exact h h' F'.ns (N'.get (List.Mem.head _)) fun b o n1 n2 ho => N'.get (List.Mem.tail _ (mem_ledger.mpr ⟨n2, n1, ho⟩))
end
end Att

namespace L2
open PySem PySem.Spec PyProof.Rows

theorem vals_ints : ∀ {vs : List Value} {ns : List Int}, IntsAre vs ns → Vals (ns.map V.int) vs
  | _, _, .nil => .nil
  | _, _, .cons n t h => .cons ⟨t, rfl⟩ (vals_ints h)

/-- nothing is tracked but the script, known to the object (or it is an object of the module) -/
def Only (H : Hp) : Prop := ∀ b, H b = none ∨ ∃ o xs, H b = some (.frz o (.lst xs))

/-- THE HEAD: the law's promise, at the heap behind the top. F, the promise of the law's def, may use that base is part of the heap (so K.In base, base.Ns mainGlobals mg stand in Mod) -/
theorem law_call {P : Program} {w : World} {K : PySem.W.Frag} {mg mb : Str → Option Value} {CX : CXT} {k : Nat} {fa a : Addr} {fd : FuncData} {x : Str} {sp : Sp} {s₁ : Shared} {vs : List Value} {ns : List Int}
    (KX : K.In s₁.heap) (hns : s₁.heap.Ns mainGlobals mg) (hb : s₁.heap.Ns builtinsNs mb) (hbb : ∀ x : Str, x ≠ "__name__" → mb x = bootBuiltins x) (hlim : s₁.heap.NoLimit) (hg : s₁.gens = #[])
    (ha : s₁.heap.get? a = some { cls := .type "list", data := .seq vs.toArray }) (hi : IntsAre vs ns) (hl : ns.length ≤ sizeLine) (hr : Room k callerA)
    (F : ∀ base : Heap, K.In base → base.Ns mainGlobals mg → FnOk P w K mg base CX k fa fd [x] sp) (hbind : ∀ (s : Shared) (u : Value), BindsTo s fd ⟨[u], []⟩ [(x, u)])
    (hsp : ∀ H : Hp, Only H → SqL K H a (ns.map V.int) → sp [.ref a] H (fun v _ => v = .bl true) fun _ _ _ => False)
    (hCX : ∀ H e s', CX [] H s₁ (fun _ _ _ => False) e s' → False) :
    codeAny (model P w) callerA (.call (.ref fa) ⟨[.ref a], []⟩) (fun r s' => r = .ok (.ret (.bool true)) ∧ OldK s₁.heap s'.heap ∧ s'.os = s₁.os ∧ AllBare s'.gens) s₁ := by
  have rv := vals_ints hi
  have lenV := hi.length
  -- from an abstract heap in which nothing but the script may be tracked
  have core : ∀ H : Hp, Only H → SqL K H a (ns.map V.int) → HOk P w H s₁.heap → (∀ b, H b ≠ none → b = a) → (H a ≠ none → K.lookup a = none) →
      codeAny (model P w) callerA (.call (.ref fa) ⟨[.ref a], []⟩) (fun r s' => r = .ok (.ret (.bool true)) ∧ OldK s₁.heap s'.heap ∧ s'.os = s₁.os ∧ AllBare s'.gens) s₁ := by
    intro H hO hS hok hA hK
    have base_of : ∀ {b : Addr} {o : Obj}, s₁.heap.get? b = some o → H b = none → (hidT s₁.heap H).get? b = some o := fun e n => hidT_get e n
    have noA : ∀ {b : Addr} {o : Obj} {es : Array DictEntry} {ep : Nat}, s₁.heap.get? b = some o → o.data = .dict es ep → H b = none := fun {b o es ep} e d => by
      cases q : H b with
      | none => rfl
      | some u =>
        have e' : b = a := hA b (by rw [q]; simp)
        subst e'
        rw [ha] at e; cases e
        have d' : Data.seq vs.toArray _ = Data.dict es ep := d
        cases d'
    have nsK : ∀ {b : Addr} {m : Str → Option Value}, s₁.heap.Ns b m → (hidT s₁.heap H).Ns b m := fun {b m} ⟨o, es, ep, e, d, r⟩ => ⟨o, es, ep, base_of e (noA e d), d, r⟩
    have hKb : K.In (hidT s₁.heap H) := fun b o e => base_of (KX b o e) (by
      cases q : H b with
      | none => rfl
      | some u =>
        have e' : b = a := hA b (by rw [q]; simp)
        subst e'
        rw [hK (by rw [q]; simp)] at e; cases e)
    have hM : Mod K mg (hidT s₁.heap H) := ⟨hKb, nsK hns, ⟨mb, nsK hb, hbb⟩, let ⟨mc, h1, h2⟩ := hlim; ⟨mc, nsK h1, h2⟩⟩
    have e0 : Env0 P w K mg (hidT s₁.heap H) callerA [] s₁ H := ⟨rfl, hM, fun b o e => of_hidT e, Nat.le_of_eq (hidT_size _ _), trivial, fun b hb => absurd (show b ∈ ([] : List Addr) from hb) (by simp), hok, .of_eq hg⟩
    refine codeAny_mono ((F _ hKb (nsK hns)).run callerA [] s₁ H ⟨[.ref a], []⟩ [.ref a] [.ref a] _ _ hr e0 (hbind s₁ (.ref a)) (.cons rfl .nil) (hsp H hO hS)) fun r s' h => ?_
    cases r with
    | error e => exact (hCX H e s' h).elim
    | ok fl =>
      cases fl with
      | next => exact False.elim h
      | brk => exact False.elim h
      | cont => exact False.elim h
      | ret u =>
        obtain ⟨v, H', os, bare, un, hok', r', q⟩ := h
        have q' : v = .bl true := q
        subst q'
        obtain rfl : u = Value.bool true := r'
        refine ⟨rfl, OldK.of_keep fun b o e => ?_, os, bare⟩
        cases q : H b with
        | none => exact un.keep b o e q (by intro z; exact absurd (show b ∈ ([] : List Addr) from z) (by simp)) (by simp)
        | some u =>
          rcases hO b with z | ⟨ob, xs, z⟩
          · rw [q] at z; cases z
          · have z2 := un.frzs b ob _ z
            obtain ⟨e1, _⟩ := hok b _ z
            obtain ⟨e2, _⟩ := hok' b _ z2
            rw [e] at e1; cases e1
            exact e2
  cases hk : K.lookup a with
  | some o =>
    -- the script is one of the module's own objects
    have e := KX a o hk
    rw [ha] at e
    cases e
    refine core (fun _ => none) (fun _ => .inl rfl) (.inr ⟨_, vs.toArray, _, hk, rfl, rfl, rfl, by rw [List.size_toArray, lenV]; exact hl, by simpa using rv⟩) (fun b u z => by have z' : (none : Option HO) = some u := z; cases z') (fun b z => absurd rfl z) fun z => absurd rfl z
  | none =>
    refine core (fun b => if b = a then some (.frz { cls := .type "list", data := .seq vs.toArray } (.lst (ns.map V.int))) else none) (fun b => ?_) (.inl (.inr ⟨{ cls := .type "list", data := .seq vs.toArray }, if_pos rfl⟩)) (fun b u z => ?_) (fun b z => ?_) fun _ => hk
    · by_cases hb : b = a
      · exact .inr ⟨_, _, if_pos hb⟩
      · exact .inl (if_neg hb)
    · by_cases hb : b = a
      · have z' := (if_pos hb).symm.trans z
        cases z'
        subst hb
        exact ⟨ha, by rw [List.length_map]; exact hl, vs, _, rv, ha⟩
      · have z' := (if_neg hb).symm.trans z
        cases z'
    · by_cases hb : b = a
      · exact hb
      · exact absurd (if_neg hb) z
end L2

namespace L2
open PySem PySem.Spec PyProof.Rows

abbrev KOf {K : PySem.W.Frag} {h : Heap} (_ : K.In h) : PySem.W.Frag := K

/-- the goal that k_head leaves (case hc), from the law's promise. F gives the function object fd (K's own) once, then the promise over every base -/
theorem walk_of {l : PySem.W.OpenLaw} {n k : Nat} {q : Program} {loose : List Str} {XP : (Str → Option Value) → Heap → Prop} {YP : World → Heap → Prop} {d : DefRec} {K : Params → PySem.W.Frag} {CX : World → CXT} {sp : World → Sp} {x : Str}
    (hn : l.most = some n) (hn2 : n ≤ sizeLine) (hdf : d.params.defaults = []) (hr : Room k callerA)
    (hY : ∀ (w : World) (h : Heap), YP w h → (K w.params).In h)
    (F : ∀ (w : World) (mg : Str → Option Value) (fa : Addr) (h : Heap), (K w.params).In h → h.Ns mainGlobals mg → mg d.name = some (.ref fa) →
      ∃ fd : FuncData, (∀ (s : Shared) (u : Value), BindsTo s fd ⟨[u], []⟩ [(x, u)]) ∧
        ∀ base : Heap, (K w.params).In base → base.Ns mainGlobals mg → FnOk l.prog w (K w.params) mg base (CX w) k fa fd [x] (sp w))
    (hsp : ∀ (w : World) (H : Hp) (a : Addr) (ns : List Int), ns.length ≤ n → Only H → SqL (K w.params) H a (ns.map V.int) → sp w [.ref a] H (fun v _ => v = .bl true) fun _ _ _ => False)
    (hCX : ∀ (w : World) (H : Hp) (s : Shared) (e : Value) (s' : Shared), CX w [] H s (fun _ _ _ => False) e s' → False) :
    PySem.W.WalkO q loose XP YP l.row.toRowW d [] (fun f vs => PySem.call f vs) := by
  refine Att.attach_call hn hdf fun w s₀ s₁ mg mb fa o pm cd doc a vs ns G Y ho hd hcd hmg hobj hints hlen hg => ?_
  have KX := hY w _ Y
  obtain ⟨fd, hb, hF⟩ := F w mg fa _ KX G.T.g hmg
  exact law_call KX G.T.g G.T.b G.T.builtins G.T.nolimit hg hobj hints (Nat.le_trans hlen hn2) hr hF hb (fun H hO hS => hsp w H a ns hlen hO hS) fun H e s' => hCX w H s₁ e s'
/-- the same where the promise hangs on the written part alone: (sp := My.sp_law), no hole under a binder -/
theorem walk_ofK {l : PySem.W.OpenLaw} {n k : Nat} {q : Program} {loose : List Str} {XP : (Str → Option Value) → Heap → Prop} {YP : World → Heap → Prop} {d : DefRec} {K : Params → PySem.W.Frag} {CX : CXT} {sp : PySem.W.Frag → Sp} {x : Str}
    (hn : l.most = some n) (hn2 : n ≤ sizeLine) (hdf : d.params.defaults = []) (hr : Room k callerA)
    (hY : ∀ (w : World) (h : Heap), YP w h → (K w.params).In h)
    (F : ∀ (w : World) (mg : Str → Option Value) (fa : Addr) (h : Heap), (K w.params).In h → h.Ns mainGlobals mg → mg d.name = some (.ref fa) →
      ∃ fd : FuncData, (∀ (s : Shared) (u : Value), BindsTo s fd ⟨[u], []⟩ [(x, u)]) ∧
        ∀ base : Heap, (K w.params).In base → base.Ns mainGlobals mg → FnOk l.prog w (K w.params) mg base CX k fa fd [x] (sp (K w.params)))
    (hsp : ∀ (K : PySem.W.Frag) (H : Hp) (a : Addr) (ns : List Int), ns.length ≤ n → Only H → SqL K H a (ns.map V.int) → sp K [.ref a] H (fun v _ => v = .bl true) fun _ _ _ => False)
    (hCX : ∀ (H : Hp) (s : Shared) (e : Value) (s' : Shared), CX [] H s (fun _ _ _ => False) e s' → False) :
    PySem.W.WalkO q loose XP YP l.row.toRowW d [] (fun f vs => PySem.call f vs) :=
  walk_of (K := K) (CX := fun _ => CX) (sp := fun w => sp (K w.params)) hn hn2 hdf hr hY F (fun w H a ns h1 h2 h3 => hsp (K w.params) H a ns h1 h2 h3) fun _ H s e s' => hCX H s e s'
end L2

/- THE LAST THEOREM (shape; LID, My.* are yours):
   My.Adr: a structure of the addresses that your layer names (classes, functions); My.Txt K t: a structure (Prop) of the equations over K;
   My.txt_mk : {K} {implicit addresses ..} (e1 : nsIn K mainGlobals "law" = some (some (.ref f))) (e2 : K.lookup f = some ⟨oc, od, .func (fnOf "law" "law" params body scope dV kV doc pm an cdv ct), sl⟩) (e3 : codeIn K cdv "law" = true) .. : ∃ t, My.Txt K t

set_option maxRecDepth 100000 in
set_option maxHeartbeats 0 in
theorem PySem.Challenge.cw_LID_holds : PySem.Challenge.rw_LID.Holds := by
  w_on; o_law; k_head; (case hw => w_witness2)
  k_fill
  refine L2.walk_of (l := PySem.Challenge.rw_LID) (n := 63) (k := 40) (x := "script") (CX := fun w => ..) (sp := fun _ => My.sp_law) rfl (by decide) rfl ⟨rfl, by decide, by decide⟩ (fun w h Y => PySem.W.kIn_of Y) ?F ?S ?C
  case F =>
    intro w mg fa h KX G hmg
    have T : ∃ t, My.Txt (L2.KOf KX) t := by
      dsimp only [L2.KOf]                          -- K must stand as «<heap const> w.params» for k_is
      refine' My.txt_mk ?e1 ?e2 ?e3 ..
      (case e1 => PySem.W.k_is)                    -- in the order: a name -> its address -> its object -> its parts
      (case e2 => PySem.W.k_is)
      ..
    obtain ⟨t, T⟩ := T
    have e0 := hmg.symm.trans (PySem.W.mg_of KX G T.law)
    cases e0                                       -- fa is the law's own address
    exact ⟨_, fun s u => .of_eq rfl, fun base kb nb => My.law_fn T kb nb⟩     -- if «.of_eq rfl» comes too early: refine' ⟨_, ?b, fun base kb nb => My.law_fn T kb nb⟩; exact fun s u => .of_eq rfl
  case S => exact fun w H a ns hl hO hS => ..
  case C => exact ..
(the tactic k_is has no namespace: write k_is) -/

/-! SHORT WORDS over the layer: a def of the text, its body, what a loop and a test want. -/
namespace L2
open PySem PySem.Spec PyProof.Rows

/-! ### the text by places -/
/-- the j-th statement of a class's body -/
def inClass (s : Stmt) (j : Nat) : Stmt := match s with
  | .ClassDef _ _ _ body _ _ _ _ _ _ _ => body.getD j (.Pass ⟨0, 0, 0, 0⟩)
  | _ => .Pass ⟨0, 0, 0, 0⟩
def defArgs (s : Stmt) : Arguments := match s with
  | .FunctionDef _ a _ _ _ _ _ _ _ _ => a
  | _ => { posonlyargs := [], args := [], vararg := none, kwonlyargs := [], kw_defaults := [], kwarg := none, defaults := [] }
def defBody (s : Stmt) : List Stmt := match s with
  | .FunctionDef _ _ b _ _ _ _ _ _ _ => b
  | _ => []
def defScope (s : Stmt) : Scope := match s with
  | .FunctionDef _ _ _ _ _ _ sc _ _ _ => sc
  | _ => { kind := .function, names := [], isGenerator := false, isCoroutine := false }

/-! ### no exception leaves a def -/
abbrev CX0 : CXT := fun _ _ _ _ _ _ => False
abbrev E0 : XK := fun _ _ _ => False
theorem pass0 {X : Cx} : Passes CX0 X E0 := fun _ _ _ _ _ _ _ h => h.elim

/-! ### a def (or method) of the text as it stands behind the top -/
structure Fun (K : PySem.W.Frag) (x qual : Str) (st : Stmt) (f : Addr) (fd : FuncData) : Prop where
  ex : ∃ (oc : Value) (od : Option Addr) (kV doc pm : Value) (an : Option Addr) (cdv ct : Value) (osl : Array (Option Value)),
    fd = PySem.W.fnOf x qual (defArgs st) (defBody st) (defScope st) .none kV doc pm an cdv ct ∧ K.lookup f = some ⟨oc, od, .func fd, osl⟩ ∧ PySem.W.codeIn K cdv qual = true
  kp : PySem.W.keepIn K (.ref f) = true
section
variable {P : Program} {w : World} {K : PySem.W.Frag} {mg : Str → Option Value} {base : Heap}
/-- THE RULE for a def: its body as a term of rules, and the reading of that term -/
theorem Fun.ok {x qual : Str} {st : Stmt} {f : Addr} {fd : FuncData} {N ps : List Str} {k : Nat} {sp : Sp} (F : Fun K x qual st f fd) (S : FnScope N ps (defScope st)) (len : ∀ vs H Q E, sp vs H Q E → vs.length = ps.length)
    (hbody : ∀ (cdv : Value) (A : Around) (outer : List Env) (s : Shared) (H : Hp) (vs : List V) (Q : VK) (E : XK), Room k (A.deeper (envOfC qual (defScope st) s.heap.objs.size f cdv)) → sp vs H Q E →
      ∃ t, PSs (cxOf CX0 P w K mg base N qual (defScope st) f cdv A outer s H E).nox (defBody st) t ∧ t { nx := fun _ H' => Q .non H', rt := Q } (start N vs) H) : FnOk P w K mg base CX0 (k + 1) f fd ps sp := by
  obtain ⟨oc, od, kV, doc, pm, an, cdv, ct, osl, rfl, lk, hcd⟩ := F.ex
  refine fn_of lk hcd S len fun A outer s H vs Q E hr hsp => ?_
  obtain ⟨t, h, q⟩ := hbody cdv A outer s H vs Q E hr hsp
  exact ⟨t, h.nox, q⟩
/-- how its arguments bind (no defaults): h is «fun _ _ _ _ _ _ us hl => match us, hl with | [_, _], _ => rfl», one _ a parameter -/
theorem Fun.binds {x qual : Str} {st : Stmt} {f : Addr} {fd : FuncData} {ps : List Str} (F : Fun K x qual st f fd)
    (h : ∀ (kV doc pm : Value) (an : Option Addr) (cdv ct : Value) (us : List Value), us.length = ps.length → bindArgs (PySem.W.fnOf x qual (defArgs st) (defBody st) (defScope st) .none kV doc pm an cdv ct) ⟨us, []⟩ = pure (ps.zip us)) : Binds K fd ps [] := by
  obtain ⟨oc, od, kV, doc, pm, an, cdv, ct, osl, rfl, lk, hcd⟩ := F.ex
  exact .all (h kV doc pm an cdv ct)
theorem fun_mk {x qual : Str} {st : Stmt} {f : Addr} {oc : Value} {od an : Option Addr} {osl : Array (Option Value)} {kV doc pm cdv ct : Value} (l : K.lookup f = some ⟨oc, od, .func (PySem.W.fnOf x qual (defArgs st) (defBody st) (defScope st) .none kV doc pm an cdv ct), osl⟩)
    (c : PySem.W.codeIn K cdv qual = true) (k : PySem.W.keepIn K (.ref f) = true) : Fun K x qual st f (PySem.W.fnOf x qual (defArgs st) (defBody st) (defScope st) .none kV doc pm an cdv ct) := ⟨⟨oc, od, kV, doc, pm, an, cdv, ct, osl, rfl, l, c⟩, k⟩
end
theorem hu_of {A : Around} {k : Nat} (hr : Room k A) : A.units + 1 < cLine := Nat.lt_of_le_of_lt (Nat.add_le_add_left (by decide : 1 ≤ 64) _) hr.units
theorem small1000 {n : Nat} (h : n ≤ 1000) : n < sizeLine := Nat.lt_of_le_of_lt h (by decide)

/-! ### expressions in short: the name that stands in the i-th slot -/
section
variable {X : Cx}
theorem pv (i : Nat) {x : Str} {pos : Pos} (hN : X.N[i]? = some x := by rfl) (hv : Vis X.env.scope x := by first | exact Or.inl rfl | exact Or.inr (Or.inl rfl) | exact Or.inr (Or.inr rfl)) (hd : (x == ("__debug__" : Str)) = false := by decide)
    (hcd : (x == ("__classdict__" : Str)) = false := by decide) : PE X (.Name x pos) (tVar i) := pe_var hN hv hd hcd
end

/-! ### tests -/
theorem iteF {A B : Prop} (h : B) : if false = true then A else B := by
  rw [if_neg Bool.false_ne_true]
  exact h
theorem iteT {A B : Prop} (h : A) : if true = true then A else B := by
  rw [if_pos rfl]
  exact h
theorem ite2 {c A B : Prop} [Decidable c] (h1 : c → A) (h2 : ¬ c → B) : if c then A else B := by
  by_cases h : c
  · rw [if_pos h]
    exact h1 h
  · rw [if_neg h]
    exact h2 h
theorem iteNS {c A B : Prop} [Decidable c] (hc : c) (h : B) : if (!decide c) = true then A else B := by
  rw [decide_eq_true hc]
  exact iteF h

/-! ### heaps -/
/-- all that was tracked is as it was -/
def Same (H H' : Hp) : Prop := ∀ b o, H b = some o → H' b = some o
theorem Same.refl (H : Hp) : Same H H := fun _ _ h => h
theorem Same.trans {H H1 H2 : Hp} (a : Same H H1) (b : Same H1 H2) : Same H H2 := fun c o h => b c o (a c o h)
theorem Same.free {H H' : Hp} (e : Same H H') {l : Addr} (h : H' l = Option.none) : H l = Option.none := by
  cases q : H l with
  | none => rfl
  | some o =>
    rw [e l o q] at h
    cases h
theorem Same.seq {K : PySem.W.Frag} {H H' : Hp} {a : Addr} {xs : List V} (e : Same H H') (h : SqL K H a xs) : SqL K H' a xs := by
  rcases h with (h | ⟨o, h⟩) | h
  · exact .inl (.inl (e _ _ h))
  · exact .inl (.inr ⟨o, e _ _ h⟩)
  · exact .inr h

end L2

set_option maxHeartbeats 4000000
/-! own rules over the layer: great ints, isinstance, sums, comprehensions, equality of made things, the script's own bound -/
namespace L2
open PySem PySem.Spec PyProof.Rows
section
variable {X : Cx}
/-! ### great ints -/
def Sml (i : Int) : Prop := i.natAbs < 2 ^ 4000
theorem Sml.bits {i : Int} (h : Sml i) : Builtin.Int.intBits i ≤ 4000 := intBits_le_iff.mpr h
theorem mulOk_sml {i j : Int} (hi : Sml i) (hj : Sml j) : IntMulOk i j := by
  have h1 := hi.bits
  have h2 := hj.bits
  unfold IntMulOk Builtin.Int.intTooBig
  intro h
  have h3 := (Bool.and_eq_true_iff.mp h).2
  have h4 := of_decide_eq_true h3
  rw [bitsLine_eq] at h4
  omega
theorem noPy_sml {i j : Int} (hj : Sml j) : Builtin.divisionGoesByPylong i j = false := by
  refine PyProof.noPylong_of_log2 ?_
  by_cases h0 : j.natAbs = 0
  · rw [h0]; decide +kernel
  · have h : j.natAbs.log2 < 4000 := (Nat.log2_lt h0).mpr hj
    omega
theorem op_mulB : OpR X (binaryOp .Mult) (rI (fun i j => Sml i ∧ Sml j) fun i j => .int (i * j)) := opI fun _ _ _ _ _ _ _ hc q => mul_int q (mulOk_sml hc.1 hc.2)
theorem op_fdivB : OpR X (binaryOp .FloorDiv) (rI (fun _ j => j ≠ 0 ∧ Sml j) fun i j => .int (i.fdiv j)) := opI fun _ _ _ _ _ _ _ hc q => floordiv_int hc.1 q (.inl (noPy_sml hc.2))
theorem op_powB : OpR X (binaryOp .Pow) (rI (fun i j => 0 ≤ j ∧ (Builtin.Int.intBits i : Int) * j ≤ 2 ^ 27) fun i j => .int (i ^ j.toNat)) := opI fun _ _ _ _ _ _ _ hc q => pow_int hc.1 hc.2 q

/-! ### isinstance -/
theorem call_isinst : CallR X (.builtin "isinstance") (fun xs H Q => ∃ x t T b, xs = [x, .ty T] ∧ TyOf X.K H x t ∧ PySem.W.kitOne X.K t (.type T) = some b ∧ Q (.bl b) H) := by
  intro pins s σ H xs us Q I r h
  obtain ⟨x, t, T, b, rfl, ty, e, q⟩ := h
  obtain ⟨u, w', rfl, r1, r2⟩ := vals2 r
  cases r2
  exact isinst_ok I r1 ty e fun tk => ⟨.bl b, H, I.tok _, rfl, q⟩
theorem kit_int_int {K : PySem.W.Frag} : PySem.W.kitOne K (.type "int") (.type "int") = some true := by rfl
theorem kit_int_bool {K : PySem.W.Frag} : PySem.W.kitOne K (.type "int") (.type "bool") = some false := by rfl
theorem kit_bool_bool {K : PySem.W.Frag} : PySem.W.kitOne K (.type "bool") (.type "bool") = some true := by rfl
theorem kit_bool_int {K : PySem.W.Frag} : PySem.W.kitOne K (.type "bool") (.type "int") = some true := by rfl

/-! ### sum, all -/
theorem intItems_of : ∀ {ns : List Int} {us : List Value}, Vals (ns.map V.int) us → ∃ xs : Array (Int × Tok), us.toArray = intItems xs ∧ xs.toList.map (·.1) = ns := fun {ns us} r => by
  have hi : IntsAre us ns := intsAre_of r
  obtain ⟨xs, hx⟩ := hi.allInts.items
  refine ⟨xs, hx, ?_⟩
  rw [← nums_intItems, ← hx]
  exact (show numsOf us.toArray.toList = ns from hi.numsOf)
theorem call_sum (hc : X.calm = true) : CallR X (.builtin "sum") (fun xs H Q => ∃ (p : Addr) (ns : List Int), xs = [.ref p] ∧ SqL X.K H p (ns.map V.int) ∧ Q (.int ns.sum) H) := by
  intro pins s σ H xs us Q I r h
  obtain ⟨p, ns, rfl, hq, q⟩ := h
  obtain ⟨u, rfl, r1⟩ := vals1 r
  cases r1
  obtain ⟨its, rv, pl, hz⟩ := I.list hq
  obtain ⟨ys, hy, e1⟩ := intItems_of rv
  refine sum_intListG (I.ok.hd hc) (hy ▸ pl.isList) fun h' tk t' hk => ?_
  have e2 : preSum (numAt ys) ys.size = ns.sum := by
    rw [preSum_eq, List.take_of_length_le (by simp), e1]
  rw [e2]
  exact ⟨.int ns.sum, H, I.kept hk, ⟨_, rfl⟩, q⟩
theorem vals_bools : ∀ {bs : List Bool} {us : List Value} {i : Nat} {v : Value}, Vals (bs.map V.bl) us → us[i]? = some v → ∃ b, bs[i]? = some b ∧ v = .bool b
  | [], _, _, _, .nil, e => by simp at e
  | b :: bs, _, 0, v, .cons r t, e => by
    simp at e; subst e
    exact ⟨b, rfl, r⟩
  | b :: bs, _, i + 1, v, .cons r t, e => by
    obtain ⟨c, h1, h2⟩ := vals_bools (i := i) (v := v) t (by simpa using e)
    exact ⟨c, by simpa using h1, h2⟩
theorem call_all (hc : X.calm = true) : CallR X (.builtin "all") (fun xs H Q => ∃ (p : Addr) (bs : List Bool), xs = [.ref p] ∧ SqL X.K H p (bs.map V.bl) ∧ Q (.bl (bs.all id)) H) := by
  intro pins s σ H xs us Q I r h
  obtain ⟨p, bs, rfl, hq, q⟩ := h
  obtain ⟨u, rfl, r1⟩ := vals1 r
  cases r1
  obtain ⟨its, rv, pl, hz⟩ := I.list hq
  have hl := pl.isList
  have hlt : p < s.heap.objs.size := by obtain ⟨_, e, _⟩ := hl; exact Heap.lt_size e
  have hlen : bs.length = its.length := by have := rv.length; rw [List.length_map] at this; exact this
  refine call_all_walk (wpAny_pyIter_list hl ?_)
  refine ⟨s.heap.objs.size, [s.heap.objs.size, p], [s.heap.objs.size], its.toArray.size, _, _, fun i => (bs[i]?).getD true, rfl, Walks.list (A := X.A.in1) (I.ok.hd hc) _ p (Nat.ne_of_lt hlt) its.toArray,
    ⟨⟨_, Heap.get?_push_size _ rfl, rfl, rfl⟩, hl.push _⟩, fun i v s' Q' E' hP hQ => ?_, fun h' tk hk => ?_⟩
  · obtain ⟨b, e, rfl⟩ := vals_bools (i := i) (v := v) rv (by simpa using hP)
    simp only [e, Option.getD_some] at hQ
    exact wpAny_truthy_bool hQ
  · have e : ((List.range its.toArray.size).all fun i => (bs[i]?).getD true) = bs.all id := by
      rw [List.size_toArray, ← hlen]; exact LSm.range_all bs
    rw [e]
    exact ⟨.bl (bs.all id), H, I.kept (LSm.kept_iter hk), rfl, q⟩
end
/-! ### names of the library, short -/
theorem boot_min : bootBuiltins "min" = some (.builtin "min") := PyProof.Rows.boot_min
theorem boot_max : bootBuiltins "max" = some (.builtin "max") := PyProof.Rows.boot_max
theorem boot_sum : bootBuiltins "sum" = some (.builtin "sum") := PyProof.Rows.boot_sum
theorem boot_all : bootBuiltins "all" = some (.builtin "all") := PyProof.Rows.boot_all
theorem boot_abs : bootBuiltins "abs" = some (.builtin "abs") := PyProof.Rows.boot_abs
theorem boot_isinstance : bootBuiltins "isinstance" = some (.builtin "isinstance") := PyProof.Rows.boot_isinstance
theorem boot_int : bootBuiltins "int" = some (.type "int") := PyProof.Rows.boot_int
theorem boot_bool : bootBuiltins "bool" = some (.type "bool") := PyProof.Rows.boot_bool
theorem boot_tuple : bootBuiltins "tuple" = some (.type "tuple") := PyProof.Rows.boot_tuple
theorem boot_list : bootBuiltins "list" = some (.type "list") := PyProof.Rows.boot_list
theorem getD_in {α : Type} {ns : List α} {i : Nat} {d : α} (h : i < ns.length) : ns.getD i d = ns[i] := by simp [List.getD, h]
theorem getD_out {α : Type} {ns : List α} {i : Nat} {d : α} (h : ns.length ≤ i) : ns.getD i d = d := by simp [List.getD, h]
theorem same_new {H : Hp} {p : Addr} (h : H p = none) (o : HO) : Same H (upd H p o) := fun b u q => by rw [upd_ne (ne_of_none q h)]; exact q
theorem upd_at {H : Hp} {a b : Addr} {o u : HO} (h : H a = some o) (hb : H b = none) : upd H b u a = some o := by rw [upd_ne (ne_of_none h hb)]; exact h
theorem eqT {Q : VK} {H : Hp} {a b : V} (e : a = b) (q : Q (.bl true) H) : Q (.bl (decide (a = b))) H := by
  rw [decide_eq_true e]; exact q
theorem ofD {p : Prop} [Decidable p] (h : ¬ decide p = true) : ¬ p := of_decide_eq_false (Bool.eq_false_iff.mpr h)
theorem sub1 {cs : List (Str × Addr)} {x : Str} {c : Addr} (h : cs.lookup x = some c) : ∀ y c', [(x, c)].lookup y = some c' → cs.lookup y = some c' := fun y c' e => by
  by_cases z : y = x
  · subst z
    simp at e
    subst e
    exact h
  · have : (y == x) = false := by simpa using z
    simp [List.lookup, this] at e
theorem at_getD {ns : List Int} {i : Int} (h0 : 0 ≤ i) (h1 : i < (ns.length : Int)) : atI (ns.map V.int) i = some (.int (ns.getD i.toNat 0)) := by
  have hk : i.toNat < ns.length := by omega
  have ek : i = ((i.toNat : Nat) : Int) := by omega
  have z : atI (ns.map V.int) ((i.toNat : Nat) : Int) = some (.int ns[i.toNat]) := atI_nat (by rw [List.getElem?_map, List.getElem?_eq_getElem hk] <;> rfl)
  rw [← ek] at z
  rw [z, getD_in hk]
theorem md0 (c : Int) {m : Int} (h : 0 < m) : 0 ≤ c % m := Int.emod_nonneg _ (by omega)
theorem md1 (c : Int) {m : Int} (h : 0 < m) : c % m < m := Int.emod_lt_of_pos _ h
end L2

set_option maxHeartbeats 4000000
namespace L2
open PySem PySem.Spec PyProof.Rows
/-! ### a list comprehension of one clause, no test -/
/-- its block's context: the variable first, then the names that it takes from around -/
def cxComp (X : Cx) (N' : List Str) (scope : Scope) (cl : List (Str × Addr)) (C : Addr) (s3 : Shared) (H3 : Hp) (fp : List Addr) : Cx where
  prog := X.prog
  w := X.w
  K := X.K
  mg := X.mg
  base := X.base
  A := X.A
  N := N'
  s₀ := s3
  H₀ := H3
  env := compEnvC scope cl C X.env
  outer := X.stack
  stack := X.stack
  ex := fp
  fn := fun _ => false
  calm := X.calm
  pn := []
  xe := fun _ _ => False
/-- the values of the names from around -/
def taken (σ : St) (fr : List Nat) : St := fr.map fun j => (σ[j]?).getD none
/-- the new list at D is filled, turn by turn -/
def CompGo (J : It) (te : TE) (st : St) (D : Addr) (H1 : Hp) (Q : VK) : Prop :=
  ∃ W : Nat → Nat → List V → Hp → Prop, (∃ m, W 0 m [] (upd H1 D (.lst []))) ∧ ∀ i m ys H2, W i m ys H2 →
    (J.stop i H2 ∧ Q (.ref D) H2) ∨ (J.go i H2 ∧ ∀ x H3, J.yld i H2 x H3 → te (some x :: st) H3 fun y H4 => H4 D = some (.lst ys) ∧ ys.length < sizeLine ∧ ∃ m', m' < m ∧ W (i + 1) m' (ys ++ [y]) (upd H4 D (.lst (ys ++ [y]))))
def tComp (wi : TI) (fr : List Nat) (te : TE) : TE := fun σ H Q => wi σ H fun J H1 => ∀ D, H1 D = none → CompGo J te (taken σ fr) D H1 Q
theorem compLoop_any {prog : Program} {w : World} {A : Around} {R : Result → Shared → Prop} {s : Shared} {elt tg iter : Expr} {scope : Scope} {pos : Pos} {it acc : Value} {env : Env} (Iv : Nat → Shared → Prop)
    (turn : ∀ k s, Iv k s → wpAny (model prog w) A (pyNext it) (fun r s1 => match r with
      | none => R (.ok .next) s1
      | some v => wpAny (model prog w) A (letOwnedTupleGo tg it v) (fun _ s2 => wpAny (model prog w) A (assign tg env v) (fun _ s3 => wpAny (model prog w) A (eval elt env) (fun y s4 =>
          wpAny (model prog w) A (call (.builtin "list.append") [acc, y]) (fun _ s5 => ∃ m, m < k ∧ Iv m s5) (fun _ _ => False) s4) (fun _ _ => False) s3) (fun _ _ => False) s2) (fun _ _ => False) s1) (fun _ _ => False) s)
    (k : Nat) (h : Iv k s) : codeAny (model prog w) A (.compLoop (.ListComp elt [⟨tg, iter, [], 0⟩] scope pos) 0 it acc env) R s := by
  refine codeAny_loop rfl Iv (fun k s hI => ?_) k h
  show wpAny _ _ ((compTurn (.ListComp elt [⟨tg, iter, [], 0⟩] scope pos) 0 it acc env).onRaise (fun e => do noteFrame e env; theTreesLotGoes e)) _ _ s
  refine wpAny_noted ?_
  rw [compTurn_list1]
  refine wpAny_bind (wpAny_standAt (wpAny_bind (wpAny_mono (turn k s hI) (fun r s1 h1 => ?_) fun _ _ f => f.elim)))
  cases r with
  | none => exact wpAny_pure h1
  | some v =>
    exact wpAny_bind (wpAny_mono h1 (fun _ s2 h2 => wpAny_bind (wpAny_mono h2 (fun _ s3 h3 => wpAny_bind (wpAny_bind (wpAny_mono h3 (fun y s4 h4 => wpAny_bind (wpAny_mono h4
      (fun _ s5 h5 => wpAny_pure (wpAny_pure ⟨rfl, h5⟩)) fun _ _ f => f.elim)) fun _ _ f => f.elim))) fun _ _ f => f.elim)) fun _ _ f => f.elim)
theorem toE {α : Type} {M : Model} {A : Around} {t : Sem α} {Q : α → Shared → Prop} {E : Value → Shared → Prop} {s : Shared} (h : wpAny M A t Q (fun _ _ => False) s) : wpAny M A t Q E s := wpAny_mono h (fun _ _ q => q) fun _ _ f => f.elim
/-- over a range, nothing but the new list grows: the i-th item is f i -/
theorem comp_range {lo : Int} {n : Nat} {te : TE} {st : St} {H1 : Hp} {Q : VK} {D : Addr} (f : Nat → V) (hD : H1 D = none) (hn : n ≤ sizeLine)
    (hs : ∀ (i : Nat) (H2 : Hp) (k : VK), i < n → Same H1 H2 → (∀ H4, Same H2 H4 → k (f i) H4) → te (some (.int (lo + i)) :: st) H2 k)
    (hd : ∀ H2, Same H1 H2 → H2 D = some (.lst ((List.range n).map f)) → Q (.ref D) H2) : CompGo (Itr lo n) te st D H1 Q := by
  have same : ∀ {H2 : Hp} {o : HO}, Same H1 H2 → Same H1 (upd H2 D o) := fun {H2 o} h b u e => by rw [upd_ne (ne_of_none e hD)]; exact h b u e
  refine ⟨fun i m ys H2 => m = n - i ∧ i ≤ n ∧ ys = (List.range i).map f ∧ Same H1 H2 ∧ H2 D = some (.lst ys), ⟨n, by simp, Nat.zero_le _, rfl, same (Same.refl H1), upd_same⟩, ?_⟩
  rintro i m ys H2 ⟨rfl, hi, rfl, sm, e⟩
  by_cases hlt : i < n
  · refine .inr ⟨hlt, fun x H3 y => ?_⟩
    obtain ⟨e1, e2⟩ := y
    subst e1 e2
    have ln : ((List.range i).map f).length = i := by rw [List.length_map, List.length_range]
    refine hs i _ _ hlt sm fun H4 s4 => ⟨s4 _ _ e, by rw [ln]; omega, n - (i + 1), by omega, rfl, hlt, ?_, same (sm.trans s4), upd_same⟩
    rw [List.range_succ, List.map_append] <;> rfl
  · have ei : i = n := by omega
    subst ei
    exact .inl ⟨Nat.le_refl _, hd _ sm e⟩
/-- what the rule asks of the clause's names: ts, the names from around with their slots -/
structure CompOk (X : Cx) (x : Str) (ts : List (Str × Nat)) (scope : Scope) (cl : List (Str × Addr)) : Prop where
  clos : closureFor scope X.env = pure cl
  sub : ∀ y c, cl.lookup y = some c → X.env.cells.lookup y = some c
  nocell : (scope.names.all fun p => p.2 != .cell) = true
  kind : scope.kind = .function
  locs : (scope.names.all fun p => p.2 != .local || scope.names.lookup p.1 == some .local) = true
  var : scope.names.lookup x = some .local
  nd : (x :: ts.map (·.1)).Nodup
  around : (ts.all fun p => decide (X.N[p.2]? = some p.1) && (X.env.kindOf p.1 == some .cell || X.env.kindOf p.1 == some .free) && (cl.lookup p.1).isSome &&
    ((relabel scope X.env).names.lookup p.1 == some .cell || (relabel scope X.env).names.lookup p.1 == some .free)) = true
  has : ((relabel scope X.env).names.all fun p => !(p.2 == .cell || p.2 == .free) || (cl.lookup p.1).isSome) = true
abbrev nmsOf (x : Str) (ts : List (Str × Nat)) : List Str := x :: ts.map (·.1)
abbrev sltOf (ts : List (Str × Nat)) : List Nat := ts.map (·.2)
theorem CompOk.nocell' {X : Cx} {x : Str} {ts : List (Str × Nat)} {scope : Scope} {cl : List (Str × Addr)} (O : CompOk X x ts scope cl) : ∀ y ∈ scope.names, y.2 ≠ .cell := fun y hy e => by
  have := List.all_eq_true.mp O.nocell y hy
  rw [e] at this
  cases this
theorem CompOk.locs' {X : Cx} {x : Str} {ts : List (Str × Nat)} {scope : Scope} {cl : List (Str × Addr)} (O : CompOk X x ts scope cl) : ∀ y ∈ scope.names, y.2 = .local → scope.names.lookup y.1 = some .local := fun y hy e => by
  have h := List.all_eq_true.mp O.locs y hy
  rw [e] at h
  rcases Bool.or_eq_true_iff.mp h with z | z
  · cases z
  · exact beq_iff_eq.mp z
theorem CompOk.from' {X : Cx} {x : Str} {ts : List (Str × Nat)} {scope : Scope} {cl : List (Str × Addr)} (O : CompOk X x ts scope cl) : ∀ (i : Nat) (y : Str), (nmsOf x ts)[i + 1]? = some y → ∃ j, (sltOf ts)[i]? = some j ∧ X.N[j]? = some y ∧ (X.env.kindOf y = some .cell ∨ X.env.kindOf y = some .free) ∧ (cl.lookup y).isSome = true ∧
    ((relabel scope X.env).names.lookup y = some .cell ∨ (relabel scope X.env).names.lookup y = some .free) := fun i y e => by
  have e1 : (ts.map (·.1))[i]? = some y := by simpa using e
  rw [List.getElem?_map] at e1
  cases q : ts[i]? with
  | none => rw [q] at e1; cases e1
  | some p =>
    rw [q] at e1
    have e2 : p.1 = y := Option.some.inj e1
    subst e2
    have h := List.all_eq_true.mp O.around p (List.mem_of_getElem? q)
    simp only [Bool.and_eq_true, Bool.or_eq_true, beq_iff_eq, decide_eq_true_eq] at h
    obtain ⟨⟨⟨h1, h2⟩, h3⟩, h4⟩ := h
    refine ⟨p.2, ?_, h1, h2, h3, h4⟩
    show (ts.map (·.2))[i]? = some p.2
    rw [List.getElem?_map, q] <;> rfl
theorem CompOk.has' {X : Cx} {x : Str} {ts : List (Str × Nat)} {scope : Scope} {cl : List (Str × Addr)} (O : CompOk X x ts scope cl) : ∀ y, ((relabel scope X.env).names.lookup y = some .cell ∨ (relabel scope X.env).names.lookup y = some .free) → (cl.lookup y).isSome = true := fun y h => by
  have go : ∀ k : NameKind, (k = .cell ∨ k = .free) → (relabel scope X.env).names.lookup y = some k → (cl.lookup y).isSome = true := fun k hk e => by
    have z := List.all_eq_true.mp O.has (y, k) (PySem.mem_of_lookup e)
    rcases Bool.or_eq_true_iff.mp z with z | z
    · rcases hk with e | e <;> (rw [e] at z; cases z)
    · exact z
  rcases h with h | h
  · exact go _ (.inl rfl) h
  · exact go _ (.inr rfl) h
section
variable {X : Cx} {elt iter : Expr} {x : Str} {px pos : Pos} {scope : Scope} {cl : List (Str × Addr)} {ts : List (Str × Nat)} {wi : TI} {te : TE}
theorem comp_ok {pins : List (Addr × Obj)} {σ : St} {H3 : Hp} {s3 : Shared} {fp : List Addr} (O : CompOk X x ts scope cl) (I3 : Inv X pins σ H3 s3) (hfp : ∀ b ∈ fp, FpOk X pins H3 b ∧ b < s3.heap.objs.size) :
    (cxComp X (nmsOf x ts) scope cl s3.heap.objs.size s3 H3 fp).Ok where
  mod := I3.ok.mod
  kind := O.kind
  glob := I3.ok.glob
  blt := I3.ok.blt
  above := Nat.le_refl _
  inj := fun y z c h1 h2 => I3.ok.inj y z c (O.sub y c h1) (O.sub z c h2)
  has := fun y h => Option.isSome_iff_exists.mp (O.has' y h)
  cab := fun y c h => by cases h
  hd := I3.ok.hd
  frames := I3.ok.frames
  stk := .inl rfl
  exf := fun b hb => ⟨Nat.ne_of_lt (hfp b hb).2, fun y c e => (hfp b hb).1.2.2.2.2.1 y c (O.sub y c e)⟩
  bs := fun b o e => I3.bs b o e
  bsz := Nat.le_trans I3.ok.bsz I3.sz
  noex := fun b o e hb => by
    rcases (hfp b hb).1.2.2.2.1 with z | z
    · exact I3.ok.noex b o e z
    · exact absurd (Nat.lt_of_lt_of_le (Heap.lt_size (I3.ok.bs b o e).1) z) (Nat.lt_irrefl _)
  exfs := fun b hb hz => by
    rcases List.mem_cons.mp (I3.stkSub b hz) with e | e
    · exact (hfp b hb).1.2.1 e
    · exact (hfp b hb).1.2.2.1 e
  funs := I3.stack
  frf := I3.stkFree
theorem comp_start {pins : List (Addr × Obj)} {σ : St} {H3 : Hp} {s3 : Shared} {fp : List Addr} {h1 : Heap} {tk : Nat} (O : CompOk X x ts scope cl) (I3 : Inv X pins σ H3 s3) (hfp : ∀ b ∈ fp, FpOk X pins H3 b ∧ b < s3.heap.objs.size)
    (hns : h1.Ns s3.heap.objs.size fun _ => none) (old : ∀ b o, s3.heap.get? b = some o → h1.get? b = some o) :
    Inv (cxComp X (nmsOf x ts) scope cl s3.heap.objs.size s3 H3 fp) [] (none :: taken σ (sltOf ts)) H3 { s3 with heap := h1, toks := tk } := by
  refine ⟨comp_ok O I3 hfp, rfl, I3.bare, Un.kept old, ⟨_, hns, fun i y v e1 e2 e3 => ?_⟩, fun y c e => ?_, I3.hok.fresh (Nat.le_refl _), fun y c e => I3.freeC y c (O.sub y c e), fun p hp => absurd (show p ∈ ([] : List (Addr × Obj)) from hp) (by simp), I3.hok.kept old, ?_⟩
  · cases i with
    | zero => simp at e2
    | succ i =>
      obtain ⟨j, hj, hN, hk, hcl, hk2⟩ := O.from' i y e1
      have e2' : σ[j]? = some (some v) := by
        have q : (taken σ (sltOf ts))[i]? = some (some v) := by simpa using e2
        unfold taken at q
        rw [List.getElem?_map, hj] at q
        have q' : (σ[j]?).getD none = some v := Option.some.inj q
        cases z : σ[j]? with
        | none => rw [z] at q'; cases q'
        | some w => rw [z] at q'; rw [show w = some v from q']
      obtain ⟨m, hn, hl⟩ := I3.loc
      have vis : Vis X.env.scope y := hk.elim (fun z => .inr (.inl z)) fun z => .inr (.inr z)
      obtain ⟨u, r, l⟩ := hl j y v hN e2' vis
      obtain ⟨c, hc⟩ := Option.isSome_iff_exists.mp hcl
      refine ⟨u, r, .inr ⟨hk2, c, hc, ?_⟩⟩
      rcases l with ⟨k, _⟩ | ⟨_, c', hc', z⟩
      · rcases hk with hk | hk
        · rw [k] at hk; cases hk
        · rw [k] at hk; cases hk
      · rw [O.sub y c hc] at hc'
        cases hc'
        obtain ⟨o, ho, hd⟩ := z
        exact ⟨o, old c o ho, hd⟩
  · obtain ⟨v, o, ho, hd⟩ := I3.cell y c (O.sub y c e)
    exact ⟨v, o, old c o ho, hd⟩
  · show (none :: taken σ (sltOf ts)).length = (nmsOf x ts).length
    simp [taken]
theorem pe_comp (hc : X.calm = true) (O : CompOk X x ts scope cl) (hi : PI X (.Name x px) iter wi) (he : ∀ C s3 H3 fp, PE (cxComp X (nmsOf x ts) scope cl C s3 H3 fp) elt te)
    (hs : ∀ x, foldedSetIterable iter X.env x = pure x := by intro _; rfl) : PE X (.ListComp elt [⟨.Name x px, iter, [], 0⟩] scope pos) (tComp wi (sltOf ts) te) := by
  intro pins s σ H Q I h
  rw [eval_ListComp]
  refine wpAny_comprehension_free (use := none) rfl hs O.clos O.kind O.locs' (thn (hi pins s σ H _ I h) fun v s1 h1 => thn h1 fun itv s2 h2 => ?_)
  obtain ⟨it, fp, tn, J, H2, rfl, I2, T, st2, f2, q⟩ := h2
  have hD : H2 s2.heap.objs.size = none := I2.hok.fresh (Nat.le_refl _)
  obtain ⟨W, ⟨m0, w0⟩, turn⟩ := q s2.heap.objs.size hD
  refine wpAny_newObj_type ?_
  have I3 : Inv X pins σ (upd H2 s2.heap.objs.size (.lst [])) { s2 with heap := s2.heap.push { cls := .type "list", dict := none, data := .seq ([] : List Value).toArray } } :=
    I2.laid (a := s2.heap.objs.size) (o := .lst []) (t' := s2.toks) (fun b u e => Heap.get?_push_of_some _ e) (Nat.le_refl _) ⟨Nat.zero_le _, [], 0, .nil, Heap.get?_push_size _ rfl⟩
  generalize hs3 : ({ s2 with heap := s2.heap.push { cls := .type "list", dict := none, data := .seq ([] : List Value).toArray } } : Shared) = s3 at I3
  have sz3 : s3.heap.objs.size = s2.heap.objs.size + 1 := by rw [← hs3, Heap.size_push]
  have old3 : ∀ b u, s2.heap.get? b = some u → s3.heap.get? b = some u := fun b u e => by rw [← hs3]; exact Heap.get?_push_of_some _ e
  generalize hH3 : upd H2 s2.heap.objs.size (.lst []) = H3 at I3 w0
  have H3D : H3 s2.heap.objs.size = some (.lst []) := by rw [← hH3]; exact upd_same
  have fp2 : ∀ b ∈ fp, b < s2.heap.objs.size := fun b hb => by
    obtain ⟨o, e, _⟩ := T.obj _ _ st2 b hb
    exact Heap.lt_size e
  have hfp : ∀ b ∈ fp, FpOk X pins H3 b ∧ b < s3.heap.objs.size := fun b hb => by
    refine ⟨⟨?_, (f2 b hb).2⟩, by rw [sz3]; exact Nat.lt_succ_of_lt (fp2 b hb)⟩
    rw [← hH3, upd_ne (Nat.ne_of_lt (fp2 b hb))]
    exact (f2 b hb).1
  refine wpAny_newFunctionEnv O.nocell' (by intro y hy; simp at hy) (fun h₁ hns₁ hsb₁ => ?_) O.kind
  have old : ∀ b o, s3.heap.get? b = some o → h₁.get? b = some o := fun b o e => hsb₁.extBut b o (Nat.ne_of_lt (Heap.lt_size e)) (Heap.get?_push_of_some _ e)
  have start : Inv (cxComp X (nmsOf x ts) scope cl s3.heap.objs.size s3 H3 fp) [] (none :: taken σ (sltOf ts)) H3 { s3 with heap := h₁, toks := s3.toks + 0 } := comp_start O I3 hfp hns₁ old
  have st4 : tn 0 h₁ := T.keep _ _ _ st2 fun b hb o e => old b o (old3 b o e)
  have okX : ∀ {H' : Hp}, (∀ b ∈ fp, H' b = none) → ∀ b ∈ fp, FpOk (cxComp X (nmsOf x ts) scope cl s3.heap.objs.size s3 H3 fp) [] H' b := fun hn b hb => by
    refine ⟨hn b hb, Nat.ne_of_lt (hfp b hb).2, fun z => ?_, .inl hb, fun y c e => (f2 b hb).2.2.2.2.1 y c (O.sub y c e), fun p hp => absurd (show p ∈ ([] : List (Addr × Obj)) from hp) (by simp)⟩
    rcases List.mem_cons.mp (I3.stkSub b z) with e | e
    · exact (f2 b hb).2.1 e
    · exact (f2 b hb).2.2.1 e
  have loop : ∀ s₄ : Shared, s₄ = { s3 with heap := h₁, toks := s3.toks + 0 } →
      codeAny (model X.prog X.w) X.A (.compLoop (.ListComp elt [⟨.Name x px, iter, [], 0⟩] scope pos) 0 (.ref it) (.ref s2.heap.objs.size) (compEnvC scope cl s3.heap.objs.size X.env))
        (compPost (model X.prog X.w) X.A X.xe none (EP X pins σ Q) (.ref s2.heap.objs.size) s3.heap.objs.size) s₄ := by
    rintro s₄ rfl
    refine compLoop_any (fun n s' => ∃ i ys σ0 H', Inv (cxComp X (nmsOf x ts) scope cl s3.heap.objs.size s3 H3 fp) [] (σ0 :: taken σ (sltOf ts)) H' s' ∧ tn i s'.heap ∧ (∀ b ∈ fp, H' b = none) ∧ W i n ys H') ?_ m0
      ⟨0, [], none, H3, start, st4, fun b hb => (hfp b hb).1.1, w0⟩
    rintro n s5 ⟨i, ys, σ0, H5, I5, st5, fr5, w5⟩
    rcases turn i n ys H5 w5 with ⟨stop, qn⟩ | ⟨go, step⟩
    · refine thn (T.done (cxComp X (nmsOf x ts) scope cl s3.heap.objs.size s3 H3 fp) rfl rfl rfl hc i [] s5 (σ0 :: taken σ (sltOf ts)) H5 _ I5 (okX fr5) st5 stop) fun r s6 ⟨hr, I6⟩ => ?_
      subst hr
      obtain ⟨m, hn, _⟩ := id I6.loc
      refine ⟨m, hn, fun h' sb => ?_⟩
      have u6 : Un (frs X.stack) fp H3 H5 s3.heap s6.heap := I6.base
      have neC : ∀ b o, s3.heap.get? b = some o → b ≠ s3.heap.objs.size := fun b o e => Nat.ne_of_lt (Heap.lt_size e)
      have un : Un (frs X.stack) fp H3 H5 s3.heap h' := ⟨fun b o e n1 hb hx => (sb.2 b (neC b o e)).trans (u6.keep b o e n1 hb hx), fun b o e n1 hb hx => by
          obtain ⟨sl, z⟩ := u6.slot b o e n1 hb hx
          exact ⟨sl, (sb.2 b (neC b o e)).trans z⟩, u6.free, fun b o e hx => by
          obtain ⟨o', z⟩ := u6.there b o e hx
          exact ⟨o', (sb.2 b (neC b o e)).trans z⟩, u6.tups, u6.frzs, u6.tbls⟩
      have hok : HOk X.prog X.w H5 h' := fun b u e => by
        refine (I6.hok b u e).stay (fun c v hc' z => (sb.2 c ?_).trans z) (fun _ z => z) fun _ _ z => z
        rintro rfl
        have fC : H5 s3.heap.objs.size = none := I6.free
        rcases hc' with z' | z'
        · rw [← z', fC] at e; cases e
        · rw [fC] at z'; cases z'
      refine ⟨.ref s2.heap.objs.size, H5, I3.call' (s' := { s6 with heap := h' }) (ch := fp) ?_ un hok I6.bare (fun b hb => ⟨(f2 b hb).2.2.2.1, (f2 b hb).2.1, (f2 b hb).2.2.2.2.1, (f2 b hb).2.2.2.2.2⟩), rfl, qn⟩
      exact I6.os
    · refine thn (T.item (cxComp X (nmsOf x ts) scope cl s3.heap.objs.size s3 H3 fp) rfl rfl rfl hc i [] s5 (σ0 :: taken σ (sltOf ts)) H5 _ I5 (okX fr5) st5 go) fun r s6 ⟨u, hr, h6⟩ => ?_
      subst hr
      refine thn h6 fun _ s7 ⟨z, H7, I7, rz, yz, st7, fr7⟩ => ?_
      have I7' := I7.pinned (okX fr7) (T.obj _ _ st7)
      have PG' : PG (cxComp X (nmsOf x ts) scope cl s3.heap.objs.size s3 H3 fp) (.Name x px) (gName 0) := pg_name (i := 0) O.nd rfl (.inl (lookup_relabel_local O.var)) (.inr (lookup_relabel_local O.var))
      refine thn (PG' _ s7 _ H7 z u (fun σ' H' => σ' = some z :: taken σ (sltOf ts) ∧ H' = H7) I7' rz ⟨rfl, rfl⟩) fun _ s8 ⟨σ8, H8, I8, e8, eh8⟩ => ?_
      subst e8 eh8
      refine thn (he s3.heap.objs.size s3 H3 fp _ s8 _ H8 _ I8 (step z H8 yz)) fun y s9 ⟨vy, H9, I9, ry, hD9, hl9, m', hm', w9⟩ => ?_
      refine thn (mt_append (X := cxComp X (nmsOf x ts) scope cl s3.heap.objs.size s3 H3 fp) _ s9 _ H9 (.ref s2.heap.objs.size) [vy] (.ref s2.heap.objs.size) [y] (fun _ H10 => H10 = upd H9 s2.heap.objs.size (.lst (ys ++ [vy]))) I9 rfl (.cons ry .nil) ⟨_, ys, vy, rfl, rfl, hD9, hl9, rfl⟩) fun _ s10 ⟨_, H10, I10, _, e10⟩ => ?_
      subst e10
      refine ⟨m', hm', i + 1, ys ++ [vy], some z, _, I10.unpinned, T.keep _ _ _ st7 fun b hb o e => (I10.pin (b, o) (List.mem_append_right _ (List.mem_append_right _ (mem_pinsAt hb e)))).1, fun b hb => ?_, w9⟩
      obtain ⟨o, e, d⟩ := T.obj _ _ st7 b hb
      exact (I10.pin (b, o) (List.mem_append_right _ (List.mem_append_right _ (mem_pinsAt hb e)))).2.1
  have hst := codeAny_compStart_list (loop _ rfl) (T.self X.A 0 _ _ _ st4 (loop _ rfl))
  exact hst
end
end L2

set_option maxHeartbeats 4000000
namespace L2
open PySem PySem.Spec PyProof.Rows
/-! ### things: a value read to its depth -/
inductive Th where
  | non | bl (b : Bool) | int (i : Int) | str (x : Str) | lst (xs : List Th) | tup (xs : List Th) | emp
mutual
def Den (H : Hp) : Th → V → Prop
  | .non, v => v = .non
  | .bl b, v => v = .bl b
  | .int i, v => v = .int i
  | .str x, v => v = .str x
  | .lst ts, v => ∃ a xs, v = .ref a ∧ H a = some (.lst xs) ∧ Dens H ts xs
  | .tup ts, v => ∃ a xs, v = .ref a ∧ H a = some (.tup xs) ∧ Dens H ts xs
  | .emp, v => ∃ a, v = .ref a ∧ H a = some (.dK [])
def Dens (H : Hp) : List Th → List V → Prop
  | [], xs => xs = []
  | t :: ts, xs => ∃ y ys, xs = y :: ys ∧ Den H t y ∧ Dens H ts ys
end
mutual
theorem Den.keep {H H' : Hp} (s : Same H H') : ∀ {t : Th} {v : V}, Den H t v → Den H' t v
  | .non, _, h => h
  | .bl _, _, h => h
  | .int _, _, h => h
  | .str _, _, h => h
  | .lst _, _, ⟨a, xs, e, h, d⟩ => ⟨a, xs, e, s _ _ h, Dens.keep s d⟩
  | .tup _, _, ⟨a, xs, e, h, d⟩ => ⟨a, xs, e, s _ _ h, Dens.keep s d⟩
  | .emp, _, ⟨a, e, h⟩ => ⟨a, e, s _ _ h⟩
theorem Dens.keep {H H' : Hp} (s : Same H H') : ∀ {ts : List Th} {xs : List V}, Dens H ts xs → Dens H' ts xs
  | [], _, h => h
  | _ :: _, _, ⟨y, ys, e, d, ds⟩ => ⟨y, ys, e, Den.keep s d, Dens.keep s ds⟩
end
theorem Dens.len {H : Hp} : ∀ {ts : List Th} {xs : List V}, Dens H ts xs → xs.length = ts.length
  | [], _, h => by rw [show _ = [] from h]; rfl
  | _ :: _, _, ⟨y, ys, e, d, ds⟩ => by rw [e, List.length_cons, List.length_cons, Dens.len ds]
theorem Dens.get {H : Hp} : ∀ {ts : List Th} {xs : List V} {i : Nat} {t : Th}, Dens H ts xs → ts[i]? = some t → ∃ v, xs[i]? = some v ∧ Den H t v
  | _ :: _, _, 0, t, ⟨y, ys, e, d, ds⟩, h => by
    rw [List.getElem?_cons_zero] at h
    cases h
    exact ⟨y, by rw [e]; rfl, d⟩
  | _ :: _, _, i + 1, t, ⟨y, ys, e, d, ds⟩, h => by
    rw [List.getElem?_cons_succ] at h
    obtain ⟨v, h1, h2⟩ := Dens.get ds h
    exact ⟨v, by rw [e, List.getElem?_cons_succ]; exact h1, h2⟩
/-- its type -/
def tyTh : Th → Value
  | .non => .type "NoneType"
  | .bl _ => .type "bool"
  | .int _ => .type "int"
  | .str _ => .type "str"
  | .lst _ => .type "list"
  | .tup _ => .type "tuple"
  | .emp => .type "dict"
theorem Den.ty {K : PySem.W.Frag} {H : Hp} : ∀ {t : Th} {v : V}, Den H t v → TyOf K H v (tyTh t)
  | .non, _, h => by cases (show _ = V.non from h); exact .non
  | .bl b, _, h => by cases (show _ = V.bl b from h); exact .bl b
  | .int i, _, h => by cases (show _ = V.int i from h); exact .int i
  | .str x, _, h => by cases (show _ = V.str x from h); exact .str x
  | .lst _, _, ⟨a, xs, e, h, _⟩ => by subst e; exact .lst h
  | .tup _, _, ⟨a, xs, e, h, _⟩ => by subst e; exact .tup h
  | .emp, _, ⟨a, e, h⟩ => by subst e; exact .dK h
def isIntT : Th → Bool
  | .int _ => true
  | .bl _ => true
  | _ => false
def isBoolT : Th → Bool
  | .bl _ => true
  | _ => false
def isTupT : Th → Bool
  | .tup _ => true
  | _ => false
def isLstT : Th → Bool
  | .lst _ => true
  | _ => false
theorem kit_int {K : PySem.W.Frag} (t : Th) : PySem.W.kitOne K (tyTh t) (.type "int") = some (isIntT t) := by cases t <;> rfl
theorem kit_bool {K : PySem.W.Frag} (t : Th) : PySem.W.kitOne K (tyTh t) (.type "bool") = some (isBoolT t) := by cases t <;> rfl
theorem kit_tuple {K : PySem.W.Frag} (t : Th) : PySem.W.kitOne K (tyTh t) (.type "tuple") = some (isTupT t) := by cases t <;> rfl
theorem kit_list {K : PySem.W.Frag} (t : Th) : PySem.W.kitOne K (tyTh t) (.type "list") = some (isLstT t) := by cases t <;> rfl
section
variable {X : Cx}
/-- isinstance(x, (T, ..)) -/
theorem kitx_ty {pins : List (Addr × Obj)} {σ : St} {H : Hp} {s : Shared} {t : Th} {x : V} {u : Value} (I : Inv X pins σ H s) (rx : RelV x u) (d : Den H t x) : ∃ HP : Heap → Prop, PySem.W.KitX X.K u (tyTh t) HP ∧ HP s.heap ∧ u ≠ .builtin "__main__.__loader__#opaque" := by
  cases t with
  | non => cases (show x = V.non from d); cases (show u = Value.none from rx); exact ⟨_, PySem.W.kitx_none, True.intro, fun z => nomatch z⟩
  | bl b => cases (show x = V.bl b from d); cases (show u = Value.bool b from rx); exact ⟨_, PySem.W.kitx_bool, True.intro, fun z => nomatch z⟩
  | int i => cases (show x = V.int i from d); obtain ⟨k, q⟩ := (show ∃ k, u = Value.int i k from rx); cases q; exact ⟨_, PySem.W.kitx_int, True.intro, fun z => nomatch z⟩
  | str y => cases (show x = V.str y from d); obtain ⟨k, q⟩ := (show ∃ k, u = Value.str y k from rx); cases q; exact ⟨_, PySem.W.kitx_str, True.intro, fun z => nomatch z⟩
  | lst ts =>
    obtain ⟨a, xs, e, h, _⟩ := d
    subst e
    cases (show u = Value.ref a from rx)
    obtain ⟨_, _, n, _, h1⟩ := (show ObjOk X.prog X.w H s.heap a (.lst xs) from I.hok a _ h)
    exact ⟨_, PySem.W.kitx_list, ⟨_, h1, rfl⟩, fun z => nomatch z⟩
  | tup ts =>
    obtain ⟨a, xs, e, h, _⟩ := d
    subst e
    cases (show u = Value.ref a from rx)
    obtain ⟨_, _, _, p⟩ := (show ObjOk X.prog X.w H s.heap a (.tup xs) from I.hok a _ h)
    obtain ⟨o, h1, h2, _⟩ := p
    exact ⟨_, PySem.W.kitx_tuple, ⟨o, h1, h2⟩, fun z => nomatch z⟩
  | emp =>
    obtain ⟨a, e, h⟩ := d
    subst e
    cases (show u = Value.ref a from rx)
    obtain ⟨_, _, vs, _, p⟩ := (show ObjOk X.prog X.w H s.heap a (.dK []) from I.hok a _ h)
    obtain ⟨o, es, ep, h1, h2, _⟩ := p
    exact ⟨_, PySem.W.kitx_dict, ⟨o, h1, h2.1⟩, fun z => nomatch z⟩
theorem vals_tys : ∀ {Ts : List String} {us : List Value}, Vals (Ts.map V.ty) us → us = Ts.map Value.type
  | [], _, .nil => rfl
  | T :: Ts, _, .cons r t => by rw [vals_tys t, show _ = Value.type T from r]; rfl
theorem call_isinstT : CallR X (.builtin "isinstance") (fun xs H Q => ∃ (x : V) (p : Addr) (t : Th) (Ts : List String) (b : Bool), xs = [x, .ref p] ∧ H p = some (.tup (Ts.map V.ty)) ∧ Den H t x ∧ PySem.W.kitAny X.K (tyTh t) (Ts.map Value.type) = some b ∧ Q (.bl b) H) := by
  intro pins s σ H xs us Q I r h
  obtain ⟨x, p, t, Ts, b, rfl, hp, d, e, q⟩ := h
  obtain ⟨u, w', rfl, r1, r2⟩ := vals2 r
  cases r2
  obtain ⟨HP, Z, hz, hx⟩ := kitx_ty I r1 d
  obtain ⟨_, its, rv, tp⟩ := (show ObjOk X.prog X.w H s.heap p (.tup (Ts.map V.ty)) from I.hok p _ hp)
  have ei := vals_tys rv
  subst ei
  obtain ⟨⟨cls, dd, data, sl⟩, h1, h2, n, h3⟩ := tp
  simp only at h2 h3
  subst h2 h3
  exact PySem.W.kia_tup Z I.kIn hz h1 e hx fun tk => ⟨.bl b, H, I.tok _, rfl, q⟩
/-- isinstance of a thing -/
theorem call_isinstD : CallR X (.builtin "isinstance") (fun xs H Q => ∃ x t T b, xs = [x, .ty T] ∧ Den H t x ∧ PySem.W.kitOne X.K (tyTh t) (.type T) = some b ∧ Q (.bl b) H) := by
  intro pins s σ H xs us Q I r h
  obtain ⟨x, t, T, b, e, d, k, q⟩ := h
  exact call_isinst pins s σ H xs us Q I r ⟨x, tyTh t, T, b, e, d.ty, k, q⟩
/-! ### equality of things alike -/
theorem range_all_true (n : Nat) : ((List.range n).all fun _ => true) = true := List.all_eq_true.mpr fun _ _ => rfl
theorem dict_nil_any {P P' : Program} {w w' : World} {h : Heap} {a : Addr} (d : h.DictOf (mixKind P w) a []) : h.DictOf (mixKind P' w') a [] := by
  obtain ⟨o, es, ep, h1, h2, h3, h4, h5, h6⟩ := d
  have e : es = #[] := by
    have hl : es.toList.length = 0 := by
      have := h5.length
      simpa using this
    cases es with | mk l => cases l with
      | nil => rfl
      | cons x r => simp at hl
  subst e
  exact ⟨o, #[], ep, h1, h2, h3, (by intro z hz; simp at hz), .nil, List.nodup_nil⟩
mutual
def depT : Th → Nat
  | .lst ts => depTs ts + 1
  | .tup ts => depTs ts + 1
  | .emp => 1
  | .non | .bl _ | .int _ | .str _ => 0
def depTs : List Th → Nat
  | [] => 0
  | t :: ts => max (depT t) (depTs ts)
end
theorem depTs_mem : ∀ {ts : List Th} {i : Nat} {t : Th}, ts[i]? = some t → depT t ≤ depTs ts
  | _ :: _, 0, _, h => by
    rw [List.getElem?_cons_zero] at h
    cases h
    exact Nat.le_max_left _ _
  | _ :: _, _ + 1, _, h => by
    rw [List.getElem?_cons_succ] at h
    exact Nat.le_trans (depTs_mem h) (Nat.le_max_right _ _)
/-- two rows of values that read alike, item by item -/
theorem dens_at {H : Hp} {ts : List Th} {xs ys : List V} {us ws : List Value} (d1 : Dens H ts xs) (d2 : Dens H ts ys) (r1 : Vals xs us) (r2 : Vals ys ws) (j : Nat) (h1 : j < us.toArray.size) (h2 : j < ws.toArray.size) :
    ∃ t v1 v2, ts[j]? = some t ∧ Den H t v1 ∧ Den H t v2 ∧ RelV v1 us.toArray[j] ∧ RelV v2 ws.toArray[j] := by
  have hl : j < ts.length := by
    rw [← d1.len, r1.length]
    simpa using h1
  obtain ⟨v1, e1, q1⟩ := d1.get (List.getElem?_eq_getElem hl)
  obtain ⟨v2, e2, q2⟩ := d2.get (List.getElem?_eq_getElem hl)
  obtain ⟨u1, f1, g1⟩ := r1.get e1
  obtain ⟨u2, f2, g2⟩ := r2.get e2
  have k1 : us.toArray[j] = u1 := by
    have : us[j]? = some us.toArray[j] := by simp
    rw [this] at f1; exact Option.some.inj f1
  have k2 : ws.toArray[j] = u2 := by
    have : ws[j]? = some ws.toArray[j] := by simp
    rw [this] at f2; exact Option.some.inj f2
  exact ⟨ts[j], v1, v2, List.getElem?_eq_getElem hl, q1, q2, by rw [k1]; exact g1, by rw [k2]; exact g2⟩
theorem eqDen {P : Program} {w : World} {H : Hp} {s : Shared} (hok : HOk P w H s.heap) : ∀ (n : Nat) (A : Around) (t : Th) (v1 v2 : V) (u1 u2 : Value), depT t ≤ n → A.units + n < cLine → Den H t v1 → Den H t v2 → RelV v1 u1 → RelV v2 u2 → SeqAt.EqAt A s u1 u2 true
  | n, A, .non, v1, v2, u1, u2, _, _, d1, d2, r1, r2 => by
    cases (show v1 = V.non from d1); cases (show v2 = V.non from d2)
    cases (show u1 = Value.none from r1); cases (show u2 = Value.none from r2)
    exact SeqAt.EqAt.same _
  | n, A, .bl b, v1, v2, u1, u2, _, _, d1, d2, r1, r2 => by
    cases (show v1 = V.bl b from d1); cases (show v2 = V.bl b from d2)
    cases (show u1 = Value.bool b from r1); cases (show u2 = Value.bool b from r2)
    exact SeqAt.EqAt.same _
  | n, A, .int i, v1, v2, u1, u2, _, _, d1, d2, r1, r2 => by
    cases (show v1 = V.int i from d1); cases (show v2 = V.int i from d2)
    obtain ⟨k1, rfl⟩ := (show ∃ k, u1 = Value.int i k from r1)
    obtain ⟨k2, rfl⟩ := (show ∃ k, u2 = Value.int i k from r2)
    have h := SeqAt.EqAt.int_int (A := A) (s := s) i k1 i k2
    rw [beq_self_eq_true] at h
    exact h
  | n, A, .str x, v1, v2, u1, u2, _, _, d1, d2, r1, r2 => by
    cases (show v1 = V.str x from d1); cases (show v2 = V.str x from d2)
    obtain ⟨k1, rfl⟩ := (show ∃ k, u1 = Value.str x k from r1)
    obtain ⟨k2, rfl⟩ := (show ∃ k, u2 = Value.str x k from r2)
    have h := SeqAt.EqAt.str_str (A := A) (s := s) x k1 x k2
    rw [beq_self_eq_true] at h
    exact h
  | 0, A, .lst ts, v1, v2, u1, u2, hd, _, d1, d2, r1, r2 => absurd hd (by simp [depT])
  | 0, A, .tup ts, v1, v2, u1, u2, hd, _, d1, d2, r1, r2 => absurd hd (by simp [depT])
  | 0, A, .emp, v1, v2, u1, u2, hd, _, d1, d2, r1, r2 => absurd hd (by simp [depT])
  | n + 1, A, .lst ts, v1, v2, u1, u2, hd, hu, d1, d2, r1, r2 => by
    obtain ⟨a1, xs, rfl, h1, e1⟩ := d1
    obtain ⟨a2, ys, rfl, h2, e2⟩ := d2
    cases (show u1 = Value.ref a1 from r1); cases (show u2 = Value.ref a2 from r2)
    by_cases hne : a1 = a2
    · subst hne; exact SeqAt.EqAt.same _
    obtain ⟨_, us, n1, q1, g1⟩ := (show ObjOk P w H s.heap a1 (.lst xs) from hok a1 _ h1)
    obtain ⟨_, ws, n2, q2, g2⟩ := (show ObjOk P w H s.heap a2 (.lst ys) from hok a2 _ h2)
    have hsz : us.toArray.size = ws.toArray.size := by
      rw [List.size_toArray, List.size_toArray, ← q1.length, ← q2.length, e1.len, e2.len]
    have hd' : depTs ts + 1 ≤ n + 1 := hd
    have h := SeqAt.RcAt.lists (A := A) (s := s) (e := fun _ => true) (⟨_, g1, rfl, _, rfl⟩ : s.heap.IsList a1 us.toArray) (⟨_, g2, rfl, _, rfl⟩ : s.heap.IsList a2 ws.toArray) hsz (by omega) fun j j1 j2 => by
      obtain ⟨t, w1, w2, ht, p1, p2, s1, s2⟩ := dens_at e1 e2 q1 q2 j j1 j2
      exact eqDen hok n A.in1 t w1 w2 _ _ (by have := depTs_mem ht; omega) (by show A.units + 1 + n < cLine; omega) p1 p2 s1 s2
    rw [range_all_true] at h
    exact SeqAt.EqAt.of_refs hne h
  | n + 1, A, .tup ts, v1, v2, u1, u2, hd, hu, d1, d2, r1, r2 => by
    obtain ⟨a1, xs, rfl, h1, e1⟩ := d1
    obtain ⟨a2, ys, rfl, h2, e2⟩ := d2
    cases (show u1 = Value.ref a1 from r1); cases (show u2 = Value.ref a2 from r2)
    by_cases hne : a1 = a2
    · subst hne; exact SeqAt.EqAt.same _
    obtain ⟨_, us, q1, g1⟩ := (show ObjOk P w H s.heap a1 (.tup xs) from hok a1 _ h1)
    obtain ⟨_, ws, q2, g2⟩ := (show ObjOk P w H s.heap a2 (.tup ys) from hok a2 _ h2)
    have hsz : us.toArray.size = ws.toArray.size := by
      rw [List.size_toArray, List.size_toArray, ← q1.length, ← q2.length, e1.len, e2.len]
    have hd' : depTs ts + 1 ≤ n + 1 := hd
    have h := SeqAt.RcAt.tuples (A := A) (s := s) (e := fun _ => true) (show s.heap.IsTuple a1 us.toArray from g1) (show s.heap.IsTuple a2 ws.toArray from g2) (by omega) fun j j1 j2 => by
      obtain ⟨t, w1, w2, ht, p1, p2, s1, s2⟩ := dens_at e1 e2 q1 q2 j j1 j2
      exact eqDen hok n A.in1 t w1 w2 _ _ (by have := depTs_mem ht; omega) (by show A.units + 1 + n < cLine; omega) p1 p2 s1 s2
    rw [range_all_true, hsz, beq_self_eq_true, Bool.and_self] at h
    exact SeqAt.EqAt.of_refs hne h
  | n + 1, A, .emp, v1, v2, u1, u2, hd, hu, d1, d2, r1, r2 => by
    obtain ⟨a1, rfl, h1⟩ := d1
    obtain ⟨a2, rfl, h2⟩ := d2
    cases (show u1 = Value.ref a1 from r1); cases (show u2 = Value.ref a2 from r2)
    by_cases hne : a1 = a2
    · subst hne; exact SeqAt.EqAt.same _
    obtain ⟨_, m1, vs1, q1, g1⟩ := (show ObjOk P w H s.heap a1 (.dK []) from hok a1 _ h1)
    obtain ⟨_, m2, vs2, q2, g2⟩ := (show ObjOk P w H s.heap a2 (.dK []) from hok a2 _ h2)
    cases q1
    cases q2
    refine SeqAt.EqAt.of_refs hne fun prog w' E Q hq => ?_
    exact PySem.W.keq_eq (K := Key) (knd := mixKind prog w') (r := true) m1 m2 (dict_nil_any g1) (dict_nil_any g2) (by omega) (fun _ => .nil) hq
/-- x != y of two things that read alike -/
theorem op_neD (hu : X.A.units + 64 < cLine) : OpR X (compareOp .NotEq) (fun x y H Q => ∃ t, Den H t x ∧ Den H t y ∧ depT t ≤ 60 ∧ Q (.bl false) H) := by
  intro pins s σ H x y v u Q I rx ry h
  obtain ⟨t, d1, d2, hd, q⟩ := h
  have scal_case : scal x y = true → x = y → wpAny (model X.prog X.w) X.A (compareOp .NotEq v u) (EP X pins σ Q) X.xe s := fun h1 h2 =>
    op_ne pins s σ H x y v u Q I rx ry ⟨h1, by rw [decide_eq_true h2]; exact q⟩
  cases t with
  | non => cases (show x = V.non from d1); cases (show y = V.non from d2); exact scal_case rfl rfl
  | bl b => cases (show x = V.bl b from d1); cases (show y = V.bl b from d2); exact scal_case rfl rfl
  | int i => cases (show x = V.int i from d1); cases (show y = V.int i from d2); exact scal_case rfl rfl
  | str z => cases (show x = V.str z from d1); cases (show y = V.str z from d2); exact scal_case rfl rfl
  | lst ts =>
    obtain ⟨a1, xs, rfl, h1, e1⟩ := d1
    obtain ⟨a2, ys, rfl, h2, e2⟩ := d2
    cases (show v = Value.ref a1 from rx); cases (show u = Value.ref a2 from ry)
    obtain ⟨_, us, n1, q1, g1⟩ := (show ObjOk X.prog X.w H s.heap a1 (.lst xs) from I.hok a1 _ h1)
    obtain ⟨_, ws, n2, q2, g2⟩ := (show ObjOk X.prog X.w H s.heap a2 (.lst ys) from I.hok a2 _ h2)
    have hsz : us.toArray.size = ws.toArray.size := by
      rw [List.size_toArray, List.size_toArray, ← q1.length, ← q2.length, e1.len, e2.len]
    have hd' : depTs ts + 1 ≤ 60 := hd
    have h := SeqAt.RcNeAt.lists (A := X.A) (s := s) (e := fun _ => true) (⟨_, g1, rfl, _, rfl⟩ : s.heap.IsList a1 us.toArray) (⟨_, g2, rfl, _, rfl⟩ : s.heap.IsList a2 ws.toArray) hsz (by omega) fun j j1 j2 => by
      obtain ⟨t, w1, w2, ht, p1, p2, s1, s2⟩ := dens_at e1 e2 q1 q2 j j1 j2
      exact eqDen I.hok 60 X.A.in1 t w1 w2 _ _ (by have := depTs_mem ht; omega) (by show X.A.units + 1 + 60 < cLine; omega) p1 p2 s1 s2
    rw [range_all_true] at h
    exact h X.prog X.w _ _ ⟨.bl false, H, I, rfl, q⟩
  | tup ts =>
    obtain ⟨a1, xs, rfl, h1, e1⟩ := d1
    obtain ⟨a2, ys, rfl, h2, e2⟩ := d2
    cases (show v = Value.ref a1 from rx); cases (show u = Value.ref a2 from ry)
    obtain ⟨_, us, q1, g1⟩ := (show ObjOk X.prog X.w H s.heap a1 (.tup xs) from I.hok a1 _ h1)
    obtain ⟨_, ws, q2, g2⟩ := (show ObjOk X.prog X.w H s.heap a2 (.tup ys) from I.hok a2 _ h2)
    have hsz : us.toArray.size = ws.toArray.size := by
      rw [List.size_toArray, List.size_toArray, ← q1.length, ← q2.length, e1.len, e2.len]
    have hd' : depTs ts + 1 ≤ 60 := hd
    have h := SeqAt.RcNeAt.tuples (A := X.A) (s := s) (e := fun _ => true) (show s.heap.IsTuple a1 us.toArray from g1) (show s.heap.IsTuple a2 ws.toArray from g2) (by omega) fun j j1 j2 => by
      obtain ⟨t, w1, w2, ht, p1, p2, s1, s2⟩ := dens_at e1 e2 q1 q2 j j1 j2
      exact eqDen I.hok 60 X.A.in1 t w1 w2 _ _ (by have := depTs_mem ht; omega) (by show X.A.units + 1 + 60 < cLine; omega) p1 p2 s1 s2
    rw [range_all_true, hsz, beq_self_eq_true, Bool.and_self] at h
    exact h X.prog X.w _ _ ⟨.bl false, H, I, rfl, q⟩
  | emp =>
    obtain ⟨a1, rfl, h1⟩ := d1
    obtain ⟨a2, rfl, h2⟩ := d2
    cases (show v = Value.ref a1 from rx); cases (show u = Value.ref a2 from ry)
    obtain ⟨_, m1, vs1, q1, g1⟩ := (show ObjOk X.prog X.w H s.heap a1 (.dK []) from I.hok a1 _ h1)
    obtain ⟨_, m2, vs2, q2, g2⟩ := (show ObjOk X.prog X.w H s.heap a2 (.dK []) from I.hok a2 _ h2)
    cases q1
    cases q2
    exact PySem.W.keq_ne (K := Key) (knd := mixKind X.prog X.w) (r := true) m1 m2 g1 g2 (by omega) (fun _ => .nil) ⟨.bl false, H, I, rfl, q⟩
/-! ### for over a list or a tuple -/
def iSeq (K : PySem.W.Frag) (tl : TE) : TI := fun σ H R => tl σ H fun x H1 => ∃ a xs, x = .ref a ∧ ((SqL K H1 a xs ∧ R (Itl K a) H1) ∨ (SqT K H1 a xs ∧ R (Itt K a) H1))
theorem pi_seq {tg l : Expr} {tl : TE} (hl : PE X l tl) : PI X tg l (iSeq X.K tl) := by
  intro pins s σ H R I h
  refine thn (hl pins s σ H _ I h) fun v s1 ⟨x, H1, I1, r1, q1⟩ => ?_
  obtain ⟨a, xs, e, q⟩ := q1
  subst e
  cases r1
  rcases q with ⟨hq, q⟩ | ⟨hq, q⟩
  · obtain ⟨its, rv, p, hz⟩ := I1.list hq
    refine wpAny_pyIter_list p.isList ?_
    refine ⟨s1.heap.objs.size, [s1.heap.objs.size], _, _, H1, rfl, I1.kept (t' := s1.toks) fun b o e => Heap.get?_push_of_some _ e, turn_list a _, ⟨_, Heap.get?_push_size _ rfl, rfl, rfl⟩, fun b hb => ?_, q⟩
    have e : b = s1.heap.objs.size := by simpa using hb
    subst e
    exact I1.fpOk (Nat.le_refl _) (I1.hok.fresh (Nat.le_refl _))
  · obtain ⟨its, rv, p, hz⟩ := I1.tuple hq
    refine wpAny_pyIter_tuple (show s1.heap.IsTuple a its.toArray from p) ?_
    refine ⟨s1.heap.objs.size, [s1.heap.objs.size], _, _, H1, rfl, I1.kept (t' := s1.toks) fun b o e => Heap.get?_push_of_some _ e, turn_tuple a _, ⟨_, Heap.get?_push_size _ rfl, rfl, rfl⟩, fun b hb => ?_, q⟩
    have e : b = s1.heap.objs.size := by simpa using hb
    subst e
    exact I1.fpOk (Nat.le_refl _) (I1.hok.fresh (Nat.le_refl _))
end
end L2

set_option maxHeartbeats 4000000
/-! exceptions over the layer: raised, passed on, caught -/
namespace L2
open PySem PySem.Spec PyProof.Rows
theorem ObjOk.there {P : Program} {w : World} {H : Hp} {h : Heap} {a : Addr} : ∀ {o : HO}, ObjOk P w H h a o → ∃ ob, h.get? a = some ob
  | .lst _, ⟨_, _, _, _, e⟩ => ⟨_, e⟩
  | .tup _, ⟨_, _, _, o, e, _⟩ => ⟨o, e⟩
  | .dK _, ⟨_, _, _, _, o, _, _, e, _⟩ => ⟨o, e⟩
  | .dT _, ⟨_, _, _, _, o, _, _, e, _⟩ => ⟨o, e⟩
  | .set _ _, ⟨o, _, _, _, e, _⟩ => ⟨o, e⟩
  | .ins _ _ _, ⟨_, _, _, e, _⟩ => ⟨_, e⟩
  | .own _, ⟨o, e⟩ => ⟨o, e⟩
  | .xd _, ⟨_, ⟨o, _, _, e, _⟩, _⟩ => ⟨o, e⟩
  | .rng _ _, ⟨_, _, _, e⟩ => ⟨_, e⟩
  | .frz _ _, ⟨e, _⟩ => ⟨_, e⟩
  | .tbl _, e => ⟨_, e⟩
  | .met _ _, e => ⟨_, e⟩
  | .ext _, ⟨_, ⟨o, e⟩, _⟩ => ⟨o, e⟩
/-- an exception at e of the class cls flies over the frames l; what was at h0 and what is tracked stays, but for the frames -/
def Fly (l : List Env) (h0 : Heap) (H' : Hp) (e : Addr) (cls : Value) (h : Heap) : Prop :=
  ∃ (B : Heap) (t : Addr), Heap.FlyingW B l e cls (.ref t) h ∧ h0.get? e = none ∧ H' e = none ∧
    ∀ b o, h.get? b = some o → ((∃ o', h0.get? b = some o') ∨ ∃ u, H' b = some u) → b ∉ frs l → B.get? b = some o
def CXX (P : Program) (w : World) : CXT := fun outer H s E e s' =>
  ∃ a cls H', e = .ref a ∧ s'.os = s.os ∧ AllBare s'.gens ∧ Un (frs outer) [] H H' s.heap s'.heap ∧ HOk P w H' s'.heap ∧ Fly outer s.heap H' a cls s'.heap ∧ E cls none H'
theorem cxx_never {P : Program} {w : World} {H : Hp} {s : Shared} {e : Value} {s' : Shared} {l : List Env} (h : CXX P w l H s (fun _ _ _ => False) e s') : False := by
  obtain ⟨_, _, _, _, _, _, _, _, _, q⟩ := h
  exact q
/-- what stays while it flies -/
theorem fly_keeps {P : Program} {w : World} {fs : List Addr} {l : List Env} {base B h0 h h5 : Heap} {H H' : Hp} (un : Un fs [] H H' h0 h) (hok : HOk P w H' h)
    (kB : ∀ b o, h.get? b = some o → ((∃ o', h0.get? b = some o') ∨ ∃ u, H' b = some u) → b ∉ frs l → B.get? b = some o)
    (ff : h.FunFrames base l) (hfs : ∀ b ∈ fs, b ∈ frs l) (hl : ∀ b ∈ frs l, b ∉ fs → h0.get? b = none) (hu : ∀ b ∈ frs l, H' b = none)
    (st : B.StaysIn h5) (up : h.UpToSlots h5) : Un fs [] H H' h0 h5 ∧ HOk P w H' h5 := by
  have kk : ∀ b o, h.get? b = some o → (∃ o', h0.get? b = some o') → b ∉ fs → h5.get? b = some o := fun b o e1 ⟨o', e0⟩ hb => by
    refine st b o (kB b o e1 (.inl ⟨o', e0⟩) fun z => ?_)
    rw [hl b z hb] at e0; cases e0
  have ks : ∀ b o, h.get? b = some o → b ∈ fs → ∃ sl, h5.get? b = some { o with slots := sl } := fun b o e1 hb => by
    obtain ⟨_, o2, e2, nf⟩ := ff.mem (hfs b hb)
    rw [e1] at e2; cases e2
    exact up b o e1 nf
  refine ⟨⟨fun b o e n hb hx => kk b o (un.keep b o e n hb hx) ⟨o, e⟩ hb, fun b o e n hb hx => ?_, un.free, fun b o e hx => ?_, un.tups, un.frzs, un.tbls⟩, fun a o e => ?_⟩
  · obtain ⟨s1, e1⟩ := un.slot b o e n hb hx
    obtain ⟨s2, e2⟩ := ks b _ e1 hb
    exact ⟨s2, e2⟩
  · obtain ⟨o', e1⟩ := un.there b o e hx
    by_cases hb : b ∈ fs
    · obtain ⟨s2, e2⟩ := ks b _ e1 hb
      exact ⟨_, e2⟩
    · exact ⟨o', kk b o' e1 ⟨o, e⟩ hb⟩
  · have tr : ∀ b u v, H' b = some u → h.get? b = some v → h5.get? b = some v := fun b u v q e1 => st b v (kB b v e1 (.inr ⟨u, q⟩) fun z => by rw [hu b z] at q; cases q)
    refine (hok a o e).stay (fun b v hb q => ?_) (fun _ q => q) fun _ _ q => q
    rcases hb with z | z
    · subst z; exact tr b o v e q
    · exact tr b _ v z q
/-- the body of a def runs -/
structure DefCx (X : Cx) : Prop where
  st : X.stack = X.env :: X.outer
  fr : X.env.frame = some X.env.locals
  ex : X.ex = []
section
variable {X : Cx} {pins : List (Addr × Obj)} {σ : St} {H : Hp} {s : Shared} {E : XK} {M : Model}
theorem Inv.gone (I : Inv X pins σ H s) (dx : DefCx X) {e : Addr} (n : s.heap.get? e = none) : X.s₀.heap.get? e = none ∧ H e = none := by
  constructor
  · cases q : X.s₀.heap.get? e with
    | none => rfl
    | some o =>
      obtain ⟨o', z⟩ := I.base.there e o q (by rw [dx.ex]; simp)
      rw [n] at z; cases z
  · cases q : H e with
    | none => rfl
    | some u =>
      obtain ⟨o', z⟩ := (I.hok e u q).there
      rw [n] at z; cases z
theorem Inv.notMine (I : Inv X pins σ H s) {b : Addr} {o : Obj} (e : X.s₀.heap.get? b = some o) : b ≠ X.env.locals := Nat.ne_of_lt (Nat.lt_of_lt_of_le (Heap.lt_size e) I.ok.above)
/-- it leaves the def -/
theorem fly_out (dx : DefCx X) (I : Inv X pins σ H s) {B h' : Heap} {e t : Addr} {cls : Value}
    (kB : ∀ b o, s.heap.get? b = some o → ((∃ o', X.s₀.heap.get? b = some o') ∨ ∃ u, H b = some u) → b ∉ frs X.stack → B.get? b = some o)
    (fw : Heap.FlyingW B X.outer e cls (.ref t) h') (up : s.heap.UpToSlots h') (ne : X.s₀.heap.get? e = none) (hn : H e = none) (q : E cls none H) :
    CXX X.prog X.w X.outer X.H₀ X.s₀ E (.ref e) { s with heap := h' } := by
  have un0 : Un X.fs [] X.H₀ H X.s₀.heap s.heap := by have := I.base; rw [dx.ex] at this; exact this
  have sub : ∀ b ∈ X.fs, b ∈ frs X.stack := fun b hb => by
    rw [dx.st]; unfold frs; rw [List.filterMap_cons, dx.fr]; exact List.mem_cons_of_mem _ hb
  have hl : ∀ b ∈ frs X.stack, b ∉ X.fs → X.s₀.heap.get? b = none := fun b hb hn => by
    rcases List.mem_cons.mp (I.stkSub b hb) with z | z
    · cases q : X.s₀.heap.get? b with
      | none => rfl
      | some o => exact absurd z (I.notMine q)
    · exact absurd z hn
  obtain ⟨un, hok⟩ := fly_keeps (h5 := h') un0 I.hok kB I.stack sub hl I.stkFree fw.1 up
  refine ⟨e, cls, H, rfl, I.os, I.bare, un, hok, ⟨B, t, fw, ne, hn, fun b o e1 hz hb => ?_⟩, q⟩
  have there : ∃ o2, s.heap.get? b = some o2 := by
    rcases hz with ⟨o', z⟩ | ⟨u, z⟩
    · exact un0.there b o' z (by simp)
    · exact (I.hok b u z).there
  have nst : b ∉ frs X.stack := fun z => by
    rcases List.mem_cons.mp (I.stkSub b z) with y | y
    · rcases hz with ⟨o', q⟩ | ⟨u, q⟩
      · exact I.notMine q y
      · rw [I.stkFree b z] at q; cases q
    · exact hb y
  obtain ⟨o2, e2⟩ := there
  have e3 := kB b o2 e2 hz nst
  have e4 := fw.1 b o2 e3
  have e1' : h'.get? b = some o := e1
  rw [e1'] at e4
  cases e4
  exact e3
theorem leave_made (dx : DefCx X) (I : Inv X pins σ H s) {h1 : Heap} {e : Addr} {cls : Value} {args : List Value} (mk : Heap.MadeExcOf s.heap h1 e cls args) (q : E cls none H) {E' : Value → Shared → Prop} :
    wpAny M X.A (leaving X.env (.ref e)) (fun _ s2 => CXX X.prog X.w X.outer X.H₀ X.s₀ E (.ref e) s2) E' { s with heap := h1 } := by
  have hin : ∀ env ∈ X.stack, ∀ b, env.frame = some b → b ∈ frs X.stack := fun env he b hb => List.mem_filterMap.mpr ⟨env, he, hb⟩
  have ff := PySem.W.funFrames_hide I.stack hin
  rw [dx.st] at ff
  obtain ⟨n1, n2⟩ := I.gone dx mk.new
  refine wpAny_leaves_madeW (base := PySem.W.hideAll s.heap (frs (X.env :: X.outer))) (h := s.heap) (by rw [I.ok.frames, dx.st]) dx.fr (fun b o z => PySem.W.of_hideAll _ z) ff mk fun h' t x1 _ _ x4 => ?_
  exact fly_out dx I (fun b o e1 _ hb => PySem.W.hideAll_get _ e1 (by rw [← dx.st]; exact hb)) x1 ((Heap.UpToSlots.of_keeps mk.keeps).trans x4) n1 n2 q
/-- an exception of a callee passes this def -/
theorem pass_on (dx : DefCx X) (hxe : ∀ e s', wpAny (model X.prog X.w) X.A (leaving X.env e) (fun _ s2 => CXX X.prog X.w X.outer X.H₀ X.s₀ E e s2) (fun e' s2 => CXX X.prog X.w X.outer X.H₀ X.s₀ E e' s2) s' → X.xe e s') : Passes (CXX X.prog X.w) X E := by
  intro pins σ H s e s' I h
  obtain ⟨a, cls, H', rfl, os, bare, un, hok, ⟨B, t, fw, ne, hn, kB⟩, q⟩ := h
  have I' : Inv X pins σ H' s' := I.call' (ch := []) os un hok bare (fun b z => absurd z (by simp))
  obtain ⟨n1, _⟩ := I.gone dx ne
  refine hxe _ _ (wpAny_leaves_onW (L := X.env.locals) (by rw [I.ok.frames, dx.st]) dx.fr (by rw [← dx.st]; exact fw) fun h2 f2 up => ?_)
  refine fly_out dx I' (fun b o e1 hz hb => kB b o e1 ?_ hb) f2 up n1 hn q
  rcases hz with ⟨o', z⟩ | z
  · exact .inl (I.base.there b o' z (by rw [dx.ex]; simp))
  · exact .inr z
end
end L2

set_option maxHeartbeats 4000000
namespace L2
open PySem PySem.Spec PyProof.Rows
/-! ### an own class of exceptions under ValueError -/
abbrev vbm : List Value := [.type "ValueError", .type "Exception", .type "BaseException", .type "object"]
theorem cls_of {K : PySem.W.Frag} {h : Heap} {C : Addr} {nid : String} {bmB : List Value} (kin : K.In h) (z : PySem.W.excIn K C bmB nid = true) :
    ∃ (tl : List Value) (N : Addr) (nm qn : Str) (bs : List Value) (hd : Bool) (sn : List Str) (su : List Value) (ab : Bool) (co : Option Bool) (dd : Option Addr) (k0 k1 k2 k3 k5 : Option Value) (mN : Str → Option Value),
      h.get? C = some (excClassObj nm qn C N bs tl hd sn su ab co dd k0 k1 k2 k3 k5 nid) ∧ h.Ns N mN ∧ mN "__init__" = none ∧ OwnTail h bmB tl := by
  unfold PySem.W.excIn at z
  split at z
  · rename_i d0 c0 slt lk
    split at z
    · rename_i C2 tl a0 a1 a2 a3 nn a5 em es
      simp only [Bool.and_eq_true, beq_iff_eq, Bool.not_eq_true'] at z
      obtain ⟨⟨⟨⟨⟨y1, y2⟩, y3⟩, y4⟩, y5⟩, y6⟩ := z
      subst y1 y2
      obtain ⟨nm, bs, mr, ns, qn, hd, sn, su, ab, co, de⟩ := c0
      dsimp only at em y3 y5 y6
      subst em y3
      have sz : slt = #[a0, a1, a2, a3, some (.builtin nn), a5] := by
        cases slt with | mk l => exact congrArg Array.mk es
      subst sz
      exact ⟨tl, ns, nm, qn, bs, hd, sn, su, ab, co, d0, a0, a1, a2, a3, a5, _, kin _ _ lk, .of_isNs (PySem.W.isNs_of_in kin y5), PySem.W.nsMap_none_of_in kin y5 y6, PySem.W.tail_of_in kin y4⟩
    · cases z
  · cases z
structure XCls (K : PySem.W.Frag) (mg : Str → Option Value) (x : Str) (C : Addr) : Prop where
  at_ : mg x = some (.ref C)
  ok : PySem.W.excIn K C vbm "ValueError.__new__" = true
section
variable {X : Cx} {E : XK} {x : Str} {C : Addr} {np cpos pos : Pos} {e : Expr} {es : List Expr} {t : TA}
/-- what is raised here reaches what is wanted of exceptions -/
def Reach (X : Cx) (E : XK) : Prop := ∀ (pins : List (Addr × Obj)) (σ : St) (H : Hp) (s : Shared) (h1 : Heap) (e : Addr) (cls : Value) (args : List Value), Inv X pins σ H s → Heap.MadeExcOf s.heap h1 e cls args → E cls none H → X.xe (.ref e) { s with heap := h1 }
def tRaise (C : Addr) (E : XK) (t : TA) : TS := fun _ σ H => t σ H fun vs H1 => vs.length ≤ sizeLine ∧ E (.ref C) none H1
theorem ps_raise (hr : Reach X E) (hc : X.calm = true) (xc : XCls X.K X.mg x C) (hg : Gl X x) (ha : PA X (e :: es) t)
    (hdb : (x == ("__debug__" : Str)) = false := by decide) (he : starEach (e :: es) X.env = (false, eval e X.env) :: starEach es X.env := by rfl) (hpl : (backTo cpos (starEach es X.env)).any (·.1) = false := by rfl) :
    PS X (.Raise (some (.Call (.Name x np) (e :: es) [] cpos)) none pos) (tRaise C E t) := by
  intro pins s σ H D I h
  obtain ⟨tl, N, nm, qn, bs, hd, sn, su, ab, co, dd, k0, k1, k2, k3, k5, mN, hC, hN, hni, T⟩ := cls_of I.mod.kin xc.ok
  refine wpAny_Raise_call_subT (C := C) (nm := nm) (q := qn) (N := N) (bs := bs) (bm := tl) (hdct := hd) (sn := sn) (sub := su) (ab := ab) (col := co) (dd := dd) (k0 := k0) (k1 := k1) (k2 := k2) (k3 := k3) (k5 := k5)
    PySem.F.excBase_ValueError (mN := mN) (T.hasType PySem.F.excBase_ValueError.hasBase) (I.ok.hd hc) (by rw [he]; show (false || _) = false; exact hpl) hni (ld_glob I hg xc.at_ ⟨rfl, ?_⟩ hdb)
  have h2 := ha cpos pins s σ H _ I h
  rw [he] at h2 ⊢
  exact Calls.evalArgs_plain (wpAny_mono h2 (fun us s2 ⟨vs, H1, I1, rv, hl, q⟩ => ⟨rfl, by rw [← rv.length]; exact hl, I1.bk _ _ hC, hN.keeps I1.bk, T.keeps I1.bk, fun h' e mk => hr pins σ H1 s2 h' e _ us I1 mk q⟩) fun _ _ y => y)
end
/-! ### defs that raise -/
section
variable {P : Program} {w : World} {K : PySem.W.Frag} {mg : Str → Option Value} {base : Heap} {N : List Str} {qual : Str} {scope : Scope} {f : Addr} {cd : Value} {A : Around} {outer : List Env} {s : Shared} {H : Hp} {E : XK}
theorem dxOf {CX : CXT} : DefCx (cxOf CX P w K mg base N qual scope f cd A outer s H E) := ⟨rfl, rfl, rfl⟩
theorem reachOf : Reach (cxOf (CXX P w) P w K mg base N qual scope f cd A outer s H E) E := fun _ _ _ _ _ _ _ _ I mk q => leave_made dxOf I mk q
theorem passOf : Passes (CXX P w) (cxOf (CXX P w) P w K mg base N qual scope f cd A outer s H E) E := pass_on dxOf fun _ _ h => h
theorem Fun.okX {x : Str} {st : Stmt} {fd : FuncData} {ps : List Str} {k : Nat} {sp : Sp} (F : Fun K x qual st f fd) (S : FnScope N ps (defScope st)) (len : ∀ vs H Q E, sp vs H Q E → vs.length = ps.length)
    (hbody : ∀ (cdv : Value) (A : Around) (outer : List Env) (s : Shared) (H : Hp) (vs : List V) (Q : VK) (E : XK), Room k (A.deeper (envOfC qual (defScope st) s.heap.objs.size f cdv)) → sp vs H Q E →
      ∃ t, PSs (cxOf (CXX P w) P w K mg base N qual (defScope st) f cdv A outer s H E) (defBody st) t ∧ t { nx := fun _ H' => Q .non H', rt := Q } (start N vs) H) : FnOk P w K mg base (CXX P w) (k + 1) f fd ps sp := by
  obtain ⟨oc, od, kV, doc, pm, an, cdv, ct, osl, rfl, lk, hcd⟩ := F.ex
  exact fn_of lk hcd S len fun A outer s H vs Q E hr hsp => hbody cdv A outer s H vs Q E hr hsp
end
/-- a promise without exceptions, for a caller that minds them -/
theorem FnOk.calm {P : Program} {w : World} {K : PySem.W.Frag} {mg : Str → Option Value} {base : Heap} {CX : CXT} {k : Nat} {f : Addr} {fd : FuncData} {ps : List Str} {sp : Sp} (F : FnOk P w K mg base CX0 k f fd ps sp) : FnOk P w K mg base CX k f fd ps sp :=
  ⟨F.len, fun A outer s H args us vs Q E hr he hb hv hs => codeAny_mono (F.run A outer s H args us vs Q E hr he hb hv hs) fun r s' h => by
    cases r with
    | ok fl => cases fl <;> exact h
    | error e => exact False.elim h⟩
section
variable {X : Cx}
theorem PS.nox {st : Stmt} {t : TS} (h : PS X.nox st t) : PS X st t := fun pins s σ H D I hw =>
  wpAny_mono (h pins s σ H D (I.wish _) hw) (fun _ _ q => q.unwish) fun _ _ z => z.elim
end
end L2

set_option maxHeartbeats 4000000
namespace L2
open PySem PySem.Spec PyProof.Rows
/-! ### try .. except C as n -/
/-- the context of an except suite: the exception at e is held -/
abbrev Cx.held (X : Cx) (e : Addr) (oe : Obj) : Cx := { X with A := X.A.mark (some (.ref e)), calm := false, pn := (e, oe) :: X.pn, xe := fun _ _ => False }
/-- the context of a try's body -/
abbrev Cx.tried (X : Cx) (xe : Value → Shared → Prop) (pins : List (Addr × Obj)) : Cx := { X with xe := xe, pn := X.pn ++ pins }
section
variable {X : Cx} {pins pins' : List (Addr × Obj)} {σ : St} {H : Hp} {s : Shared} {xe : Value → Shared → Prop} {e : Addr} {oe : Obj}
theorem Cx.Ok.tried (ok : X.Ok) : (X.tried xe pins).Ok := ⟨ok.mod, ok.kind, ok.glob, ok.blt, ok.above, ok.inj, ok.has, ok.cab, ok.hd, ok.frames, ok.stk, ok.exf, ok.bs, ok.bsz, ok.noex, ok.exfs, ok.funs, ok.frf⟩
theorem Cx.Ok.untried (ok : (X.tried xe pins).Ok) : X.Ok := ⟨ok.mod, ok.kind, ok.glob, ok.blt, ok.above, ok.inj, ok.has, ok.cab, ok.hd, ok.frames, ok.stk, ok.exf, ok.bs, ok.bsz, ok.noex, ok.exfs, ok.funs, ok.frf⟩
theorem Inv.tried (I : Inv X pins σ H s) : Inv (X.tried xe pins) [] σ H s := ⟨I.ok.tried, I.os, I.bare, I.base, I.loc, I.cell, I.free, I.freeC, fun p hp => I.pin p (by simpa using hp), I.hok, I.len⟩
theorem Inv.untried (I : Inv (X.tried xe pins) pins' σ H s) : Inv X pins σ H s := ⟨I.ok.untried, I.os, I.bare, I.base, I.loc, I.cell, I.free, I.freeC, fun p hp => I.pin p (List.mem_append_left _ hp), I.hok, I.len⟩
theorem Inv.held (I : Inv X pins σ H s) (he : s.heap.get? e = some oe) (hn : H e = none) (hL : e ≠ X.env.locals) (hf : e ∉ X.fs) (hc : ∀ v, oe.data ≠ .cell v) : Inv (X.held e oe) pins σ H s := by
  have ok := I.ok
  refine ⟨⟨ok.mod, ok.kind, ok.glob, ok.blt, ok.above, ok.inj, ok.has, ok.cab, (fun z => by cases z), ok.frames, ok.stk, ok.exf, ok.bs, ok.bsz, ok.noex, ok.exfs, ok.funs, ok.frf⟩, I.os, I.bare, I.base, I.loc, I.cell, I.free, I.freeC, fun p hp => ?_, I.hok, I.len⟩
  rcases List.mem_cons.mp hp with z | z
  · subst z; exact ⟨he, hn, hL, hf, hc⟩
  · exact I.pin p z
theorem Inv.unheld (I : Inv (X.held e oe) pins σ H s) (hd : X.calm = true → X.A.handled = none) : Inv X pins σ H s := by
  have ok := I.ok
  exact ⟨⟨ok.mod, ok.kind, ok.glob, ok.blt, ok.above, ok.inj, ok.has, ok.cab, hd, ok.frames, ok.stk, ok.exf, ok.bs, ok.bsz, ok.noex, ok.exfs, ok.funs, ok.frf⟩, I.os, I.bare, I.base, I.loc, I.cell, I.free, I.freeC, fun p hp => I.pin p (List.mem_cons_of_mem _ hp), I.hok, I.len⟩
end
/-- an exception of a callee, the names as they stand -/
def PassesS (CX : CXT) (X : Cx) (E : St → XK) : Prop := ∀ (pins : List (Addr × Obj)) (σ : St) (H : Hp) (s : Shared) (e : Value) (s' : Shared), Inv X pins σ H s → CX X.stack H s (E σ) e s' → X.xe e s'
def tCallS (sp : Sp) (dvs : List V) (E : St → XK) (t : TA) : TE := fun σ H Q => t σ H fun vs H1 => sp (vs ++ dvs) H1 Q (E σ)
section
variable {X : Cx} {CX : CXT} {k : Nat} {f : Addr} {fd : FuncData} {ps : List Str} {sp : Sp} {dvs : List V} {ds : List Value} {E : St → XK} {x : Str} {p pos : Pos} {e : Expr} {es : List Expr} {t : TA}
theorem pe_callS (F : FnOk X.prog X.w X.K X.mg X.base CX k f fd ps sp) (hr : Room k X.A) (hg : Gl X x) (hm : X.mg x = some (.ref f)) (hk : PySem.W.keepIn X.K (.ref f) = true) (hb : Binds X.K fd ps ds) (hd : Vals dvs ds) (hx : PassesS CX X E)
    (ha : PA X (e :: es) t) (hdb : (x == ("__debug__" : Str)) = false := by decide) (he : starEach (e :: es) X.env = (false, eval e X.env) :: starEach es X.env := by rfl) (hpl : (backTo pos (starEach es X.env)).any (·.1) = false := by rfl) :
    PE X (.Call (.Name x p) (e :: es) [] pos) (tCallS sp dvs E t) := by
  intro pins s σ H Q I h
  refine wpAny_Call_Name_kw (ld_glob I hg hm ?_ hdb)
  refine PySem.W.callWith_K (h₀ := X.base) I.ok.mod.kin hk (thn (ha pos pins s σ H _ I h) fun us s1 ⟨vs, H1, I1, r, q⟩ => ⟨I1.kIn, ?_⟩) he hpl
  have r2 : Vals (vs ++ dvs) (us ++ ds) := r.append hd
  have hl : (us ++ ds).length = ps.length := by rw [← r2.length]; exact F.len _ _ _ _ q
  refine wpAny_call (codeAny_mono (F.run X.A X.stack s1 H1 ⟨us, []⟩ (us ++ ds) (vs ++ dvs) Q (E σ) hr I1.env0 (hb s1 us I1.kIn hl) r2 q) fun r s' hq => ?_)
  cases r with
  | error e => exact hx pins σ H1 s1 e s' I1 hq
  | ok fl =>
    cases fl with
    | ret u => exact I1.after hq
    | next => exact False.elim hq
    | brk => exact False.elim hq
    | cont => exact False.elim hq
end
/-- the class of an except clause -/
structure Catch (K : PySem.W.Frag) (CS : Addr) : Prop where
  ty : PySem.W.typeIn K (.ref CS) = some (.type "type")
  isc : PySem.W.isClsIn K CS = true
  base : PySem.W.subIn K (.ref CS) (.type "BaseException") = some true
open PySem.W in
theorem looks_isType {K : Frag} {M : Model} {h : Heap} {C : Addr} (kin : K.In h) (z : isClsIn K C = true) : Looks M h (isType (.ref C)) true := by
  unfold isClsIn clsIn at z
  split at z
  · rename_i lk
    intro A Q E s k q
    unfold isType loadHead
    exact wpAny_bind (wpAny_loadPart (k C _ (kin C _ lk)) (wpAny_pure q))
  · cases z
open PySem.W in
/-- does the class at CS catch it -/
theorem exc_matches {prog : Program} {w : World} {A : Around} {E : Value → Shared → Prop} {s : Shared} {K : Frag} {e CS : Addr} {oe : Obj} {Q : Bool → Shared → Prop} (kin : K.In s.heap) (he : s.heap.get? e = some oe) (ca : Catch K CS)
    (hC : subIn K oe.cls (.ref CS) = some true) (hq : Q true s) : wpAny (model prog w) A (excMatches (.ref e) (.ref CS)) Q E s := by
  obtain ⟨hh, g, d, tk, os⟩ := s
  have L1 : Looks (model prog w) hh (typeOf (.ref CS)) (.type "type") := looks_typeIn kin ca.ty
  have L2 : Looks (model prog w) hh (isType (.ref CS)) true := looks_isType kin ca.isc
  have L3 : Looks (model prog w) hh (isSubtype oe.cls (.ref CS)) true := looks_subIn kin hC
  have L4 : Looks (model prog w) hh (isInstance (.ref CS) (.type "tuple")) false := L1.andThen (Looks.of_pure tc_notTuple)
  have L5 : Looks (model prog w) hh (isExcClass (.ref CS)) true := L2.andThen (looks_subIn kin ca.base)
  have L6 : Looks (model prog w) hh (typeOf (.ref e)) oe.cls := (Looks.ld he).andThen .now
  unfold excMatches
  refine wpAny_bind (L4.at ?_)
  simp only [Bool.false_eq_true, if_false]
  refine wpAny_bind (wpAny_pure ?_)
  simp only [List.forIn_cons, List.forIn_nil]
  refine wpAny_bind (wpAny_bind (wpAny_bind (L5.at ?_)))
  simp only [Bool.not_true, Bool.false_eq_true, if_false]
  refine wpAny_pure (wpAny_pure (wpAny_bind (L6.at ?_)))
  refine wpAny_bind (wpAny_bind (wpAny_bind (L3.at ?_)))
  simp only [if_true]
  exact wpAny_pure (wpAny_pure (wpAny_pure hq))
/-- the caught name goes -/
theorem goes {X : Cx} {pins : List (Addr × Obj)} {σ : St} {H : Hp} {s : Shared} {M : Model} {A : Around} {E : Value → Shared → Prop} {Q : Unit → Shared → Prop} {i : Nat} {n : Str} {pos : Pos} (I : Inv X pins σ H s) (hN : X.N.Nodup) (hi : X.N[i]? = some n) (hl : X.env.scope.names.lookup n = some .local)
    (k : ∀ s', Inv X pins (σ.set i none) H s' → Q () s') : wpAny M A (do bindName X.env n .none; unbindBehindTheSuite X.env n pos) Q E s := by
  obtain ⟨m, hn, hloc⟩ := id I.loc
  have hcls : (X.env.scope.kind == .class || (X.env.scope.kind == .module && X.env.locals != X.env.globals)) = false := by rw [I.ok.kind]; rfl
  refine wpAny_nameGoes_keeps hl hn hcls fun h' v hn' hs => k _ ?_
  have nl : ∀ b o, X.s₀.heap.get? b = some o → b ≠ X.env.locals := fun b o e => I.notMine e
  have cne := I.cne
  refine ⟨I.ok, I.os, I.bare, ⟨fun b o e z hb hx => (hs.2 b (nl b o e)).trans (I.base.keep b o e z hb hx), fun b o e z hb hx => ?_, I.base.free, fun b o e hx => ?_, I.base.tups, I.base.frzs, I.base.tbls⟩, ⟨_, hn', fun j y v' e1 e2 e3 => ?_⟩, fun y c e => ?_, I.free, I.freeC, fun p hp => ?_, fun b u e => ?_, by simpa using I.len⟩
  · obtain ⟨sl, e1⟩ := I.base.slot b o e z hb hx
    exact ⟨sl, (hs.2 b (nl b o e)).trans e1⟩
  · obtain ⟨o', e1⟩ := I.base.there b o e hx
    exact ⟨o', (hs.2 b (nl b o e)).trans e1⟩
  · have hj : j ≠ i := by
      rintro rfl
      rw [List.getElem?_set_self (by rw [I.len]; exact (List.getElem?_eq_some_iff.mp hi).1)] at e2
      cases e2
    rw [List.getElem?_set_ne (Ne.symm hj)] at e2
    obtain ⟨u', r', q⟩ := hloc j y v' e1 e2 e3
    refine ⟨u', r', ?_⟩
    rcases q with ⟨k1, k2⟩ | ⟨k1, c, k2, z⟩
    · refine .inl ⟨k1, ?_⟩
      have : y ≠ n := fun e => hj (nodup_ix hN e1 (e ▸ hi))
      simp [this, k2]
    · exact .inr ⟨k1, c, k2, z.sameBut hs (cne y c k2)⟩
  · obtain ⟨w', z⟩ := I.cell y c e
    exact ⟨w', z.sameBut hs (cne y c e)⟩
  · obtain ⟨e, z, ne, nf, d⟩ := I.pin p hp
    exact ⟨(hs.2 p.1 ne).trans e, z, ne, nf, d⟩
  · refine (I.hok b u e).stay (fun c w' hc q => (hs.2 c ?_).trans q) (fun _ q => q) fun _ _ q => q
    rintro rfl
    have fr := I.free
    rcases hc with z | z
    · rw [← z, fr] at e; cases e
    · rw [fr] at z; cases z
def exEnds (i : Nat) (D : Ends) : Ends := { nx := fun σ H => D.nx (σ.set i none) H, rt := D.rt, bk := fun σ H => D.bk (σ.set i none) H, ct := fun σ H => D.ct (σ.set i none) H }
/-- what a try wants of an exception: the class at CS catches it, and the suite's reading -/
def ET (K : PySem.W.Frag) (CS : Addr) (i : Nat) (ts : Addr → Obj → TS) (D : Ends) : St → XK := fun σ cls _ H =>
  PySem.W.subIn K cls (.ref CS) = some true ∧ ∀ e oe, H e = none → oe.cls = cls → ts e oe (exEnds i D) (σ.set i (some (.ref e))) H
def tTry (K : PySem.W.Frag) (CS : Addr) (i : Nat) (tb : (St → XK) → TS) (ts : Addr → Obj → TS) : TS := fun D σ H => tb (ET K CS i ts D) D σ H
theorem ps_try {X : Cx} {body : List Stmt} {b0 : Stmt} {suite : List Stmt} {S n : Str} {np hpos pos : Pos} {CS : Addr} {i : Nat} {tb : (St → XK) → TS} {ts : Addr → Obj → TS} (dx : DefCx X) (hN : X.N.Nodup) (hi : X.N[i]? = some n) (hl : X.env.scope.names.lookup n = some .local)
    (hg : Gl X S) (hm : X.mg S = some (.ref CS)) (ca : Catch X.K CS)
    (hb : ∀ (xe : Value → Shared → Prop) (pn : List (Addr × Obj)) (E : St → XK), PassesS (CXX X.prog X.w) (X.tried xe pn) E → PSs (X.tried xe pn) body (tb E))
    (hs : ∀ (e : Addr) (oe : Obj), PSs (X.held e oe) (b0 :: suite) (ts e oe)) (hdb : (S == ("__debug__" : Str)) = false := by decide) :
    PS X (.Try body [.ExceptHandler (some (.Name S np)) (some n) (b0 :: suite) hpos] [] [] pos) (tTry X.K CS i tb ts) := by
  intro pins s σ H D I h
  have pass : PassesS (CXX X.prog X.w) (X.tried (fun e s1 => wpAny (model X.prog X.w) X.A (noteFrame e X.env) (fun _ s2 => wpAny (model X.prog X.w) X.A (setFlight e none) (fun _ s3 =>
      wpAny (model X.prog X.w) X.A (handleBy e X.env [.ExceptHandler (some (.Name S np)) (some n) (b0 :: suite) hpos]) (SP X pins D) X.xe s3) X.xe s2) X.xe s1) pins) (ET X.K CS i ts D) := by
    intro pins' σ' H1 s1 e s' I' hx
    obtain ⟨a, cls, H', rfl, os, bare, un, hok, ⟨B, t, fw, ne, hn, kB⟩, hk, q⟩ := hx
    have J : Inv X pins σ' H1 s1 := I'.untried
    have hu : ∀ b ∈ frs X.stack, H' b = none := fun b z => by
      obtain ⟨_, o, e0, _⟩ := J.stack.mem z
      exact un.free b o e0 (J.stkFree b z) (by simp)
    have keep5 : ∀ h5 : Heap, B.StaysIn h5 → s'.heap.UpToSlots h5 → Un (frs X.stack) [] H1 H' s1.heap h5 ∧ HOk X.prog X.w H' h5 := fun h5 st up =>
      fly_keeps un hok kB fw.2.2.1 (fun _ z => z) (fun b z nz => absurd z nz) hu st up
    have inv5 : ∀ h5 : Heap, B.StaysIn h5 → s'.heap.UpToSlots h5 → Inv X pins σ' H' { s' with heap := h5 } := fun h5 st up =>
      J.call' (s' := { s' with heap := h5 }) (ch := []) os (keep5 h5 st up).1 (keep5 h5 st up).2 bare (fun b z => absurd z (by simp))
    have neL : a ≠ X.env.locals := fun z => by
      obtain ⟨m, ⟨o, _, _, ho, _⟩, _⟩ := J.loc
      rw [← z, ne] at ho; cases ho
    have nfs : a ∉ X.fs := fun z => by
      obtain ⟨_, o, e0, _⟩ := J.funs.mem z
      rw [ne] at e0; cases e0
    have fw' : Heap.FlyingW B (X.env :: X.outer) a cls (.ref t) s'.heap := by rw [← dx.st]; exact fw
    show wpAny (model X.prog X.w) X.A (noteFrame (.ref a) X.env) _ X.xe s'
    refine wpAny_looks_onW (by rw [J.ok.frames, dx.st]) dx.fr fw' fun h4 held4 up4 => ?_
    refine wpAny_landsW held4 fun h5 fl5 up5 => ?_
    have up := up4.trans up5
    have J5 := inv5 h5 fl5.1 up
    obtain ⟨oe, vs, hoe, hoc, hod, _⟩ := fl5.first
    have K5 : Inv (X.held a oe) pins σ' H' { s' with heap := h5 } := J5.held hoe hn neL nfs (fun v z => by rw [hod] at z; cases z)
    refine wpAny_handleBy_cons (codeAny_handlers_test (ld_glob K5 hg hm ?_ hdb)) (by intro z; cases z)
    refine exc_matches K5.kIn hoe ca (by rw [hoc]; exact hk) ?_
    refine codeAny_handlers_suite_as ?_
    refine lands_againW fl5 fun h6 fl6 up6 => ?_
    have J6 := inv5 h6 fl6.1 (up.trans up6)
    obtain ⟨oe6, vs6, hoe6, hoc6, hod6, _⟩ := fl6.first
    have K6 : Inv (X.held a oe6) pins σ' H' { s' with heap := h6 } := J6.held hoe6 hn neL nfs (fun v z => by rw [hod6] at z; cases z)
    refine store_ok (X := X.held a oe6) K6 hN hi (.inl hl) (v := .ref a) rfl (fun s7 I7 => ?_) (.inr hl)
    refine wpAny_mono (hs a oe6 pins s7 _ H' (exEnds i D) I7 (q a oe6 hn hoc6)) (fun f s8 h8 => ?_) (fun _ _ z => z.elim)
    cases f with
    | next =>
      obtain ⟨σ8, H8, I8, q8⟩ := h8
      exact goes (X := X.held a oe6) I8 hN hi hl fun s9 I9 => ⟨_, _, I9.unheld I.ok.hd, q8⟩
    | brk =>
      obtain ⟨σ8, H8, I8, q8⟩ := h8
      exact goes (X := X.held a oe6) I8 hN hi hl fun s9 I9 => ⟨_, _, I9.unheld I.ok.hd, q8⟩
    | cont =>
      obtain ⟨σ8, H8, I8, q8⟩ := h8
      exact goes (X := X.held a oe6) I8 hN hi hl fun s9 I9 => ⟨_, _, I9.unheld I.ok.hd, q8⟩
    | ret u =>
      obtain ⟨v8, σ8, H8, I8, r8, q8⟩ := h8
      exact goes (X := X.held a oe6) I8 hN hi hl fun s9 I9 => ⟨_, _, _, I9.unheld I.ok.hd, r8, q8⟩
  refine wpAny_Try_except (wpAny_mono (hb _ pins _ pass [] s σ H D I.tried h) (fun f s1 hf => ?_) fun e s1 he => he)
  cases f with
  | next =>
    obtain ⟨σ', H', J, q⟩ := hf
    exact wpAny_execs_nil ⟨σ', H', J.untried, q⟩
  | brk =>
    obtain ⟨σ', H', J, q⟩ := hf
    exact ⟨σ', H', J.untried, q⟩
  | cont =>
    obtain ⟨σ', H', J, q⟩ := hf
    exact ⟨σ', H', J.untried, q⟩
  | ret u =>
    obtain ⟨v, σ', H', J, r, q⟩ := hf
    exact ⟨v, σ', H', J.untried, r, q⟩
end L2

set_option maxHeartbeats 4000000
namespace L2
open PySem PySem.Spec PyProof.Rows
/-! ### the script's own bound; {} -/
def Bg (i : Int) : Prop := Builtin.Int.intBits i ≤ 1048576
theorem Bg.le {i j : Int} (h : Bg i) (hj : j.natAbs ≤ i.natAbs) : Bg j := intBits_le_iff.mpr (Nat.lt_of_le_of_lt hj (intBits_le_iff.mp h))
theorem Bg.pow {i : Int} (h : Bg i) {j : Int} (h0 : 0 ≤ j) (h1 : j ≤ 127) : 0 ≤ j ∧ (Builtin.Int.intBits i : Int) * j ≤ 2 ^ 27 := by
  refine ⟨h0, ?_⟩
  have h' : (Builtin.Int.intBits i : Int) ≤ 1048576 := by unfold Bg at h; omega
  have := Int.mul_le_mul h' h1 h0 (by decide)
  have e : (1048576 : Int) * 127 ≤ 2 ^ 27 := by decide
  omega
theorem Bg.zero : Bg 0 := by unfold Bg Builtin.Int.intBits; decide
open PySem.W in
theorem bg_of_lay {ns : List Int} (h : WData.layableAll [WData.list (ns.map WData.int)] = true) : ∀ i ∈ ns, Bg i := fun i hi => by
  have h1 := layableW_arg h _ (List.mem_singleton.mpr rfl)
  have h2 := layableW_item h1 (.int i) (List.mem_map.mpr ⟨i, hi, rfl⟩)
  have h3 := (layableW_iff.mp h2).2.2
  exact h3
open PySem.W in
theorem attachB {l : OpenLaw} {n : Nat} {q : Program} {loose : List Str} {XP : (Str → Option Value) → Heap → Prop} {YP : World → Heap → Prop} {d : DefRec}
    (hn : l.most = some n) (hdf : d.params.defaults = [])
    (run : ∀ (w : World) (s0 s1 : Shared) (mg mb : Str → Option Value) (fa : Addr) (o : Obj) (pm cd doc : Value) (a : Addr) (vs : List Value) (ns : List Int),
      Ground q loose [] XP w s0 mg mb s1.heap → YP w s1.heap →
      s1.heap.get? fa = some o → o.data = .func (Calls.docDef d.name d.params d.body d.scope pm cd doc) → s1.heap.CodeRec cd d.name → mg d.name = some (.ref fa) →
      s1.heap.get? a = some { cls := .type "list", data := .seq vs.toArray } → IntsAre vs ns → ns.length ≤ n → (∀ i ∈ ns, Bg i) → s1.gens = #[] →
      codeAny (model l.prog w) callerA (.call (.ref fa) ⟨[.ref a], []⟩) (fun r s' => r = .ok (.ret (.bool true)) ∧ OldK s1.heap s'.heap ∧ s'.os = s1.os ∧ AllBare s'.gens) s1) :
    WalkO q loose XP YP l.row.toRowW d [] (fun f vs => PySem.call f vs) := by
  intro w s0 s1 mg mb G Y fa o pm cd doc dV kV ho hd hcd hD hmg hg args vals as hpre hlay hrd hwl hlo
  obtain rfl : dV = .none := Dflts.none hD hdf
  obtain rfl : kV = .none := Dflts.noKw hD
  obtain ⟨a, vs, ns, rfl, rfl, hobj, hints, hlen⟩ := Att.script_of hn hpre hwl
  have hbg := bg_of_lay hlay
  refine enter_call (codeAny_mono (run w s0 s1 mg mb fa o pm cd doc a vs ns G Y ho (fd_plain hd) hcd hmg hobj hints hlen hbg hg) fun r s' hq => ?_)
  obtain ⟨e1, h2, h3, h4⟩ := hq
  subst e1
  exact ⟨.inl ⟨.bool true, .bool true, [], rfl, fun _ => rfl, .bool true, Att.post_true l _, fun _ => ⟨List.Pairwise.nil, fun _ hm => (nomatch hm)⟩⟩, h2, h3, h4⟩
/-- walk_of, with the bound of the script's ints -/
theorem walk_ofB {l : PySem.W.OpenLaw} {n k : Nat} {q : Program} {loose : List Str} {XP : (Str → Option Value) → Heap → Prop} {YP : World → Heap → Prop} {d : DefRec} {K : Params → PySem.W.Frag} {CX : World → CXT} {sp : World → Sp} {x : Str}
    (hn : l.most = some n) (hn2 : n ≤ sizeLine) (hdf : d.params.defaults = []) (hr : Room k callerA)
    (hY : ∀ (w : World) (h : Heap), YP w h → (K w.params).In h)
    (F : ∀ (w : World) (mg : Str → Option Value) (fa : Addr) (h : Heap), (K w.params).In h → h.Ns mainGlobals mg → mg d.name = some (.ref fa) →
      ∃ fd : FuncData, (∀ (s : Shared) (u : Value), BindsTo s fd ⟨[u], []⟩ [(x, u)]) ∧
        ∀ base : Heap, (K w.params).In base → base.Ns mainGlobals mg → FnOk l.prog w (K w.params) mg base (CX w) k fa fd [x] (sp w))
    (hsp : ∀ (w : World) (H : Hp) (a : Addr) (ns : List Int), ns.length ≤ n → (∀ i ∈ ns, Bg i) → Only H → SqL (K w.params) H a (ns.map V.int) → sp w [.ref a] H (fun v _ => v = .bl true) fun _ _ _ => False)
    (hCX : ∀ (w : World) (H : Hp) (s : Shared) (e : Value) (s' : Shared), CX w [] H s (fun _ _ _ => False) e s' → False) :
    PySem.W.WalkO q loose XP YP l.row.toRowW d [] (fun f vs => PySem.call f vs) := by
  refine attachB hn hdf fun w s0 s1 mg mb fa o pm cd doc a vs ns G Y ho hd hcd hmg hobj hints hlen hbg hg => ?_
  have KX := hY w _ Y
  obtain ⟨fd, hb, hF⟩ := F w mg fa _ KX G.T.g hmg
  exact law_call KX G.T.g G.T.b G.T.builtins G.T.nolimit hg hobj hints (Nat.le_trans hlen hn2) hr hF hb (fun H hO hS => hsp w H a ns hlen hbg hO hS) fun H e s' => hCX w H s1 e s'
/-! {} -/
theorem Inv.big {X : Cx} {pins : List (Addr × Obj)} {σ : St} {H : Hp} {s : Shared} (I : Inv X pins σ H s) : sysModules < s.heap.objs.size := by
  have h : mainGlobals < s.heap.objs.size := (I.mod.glob.keeps I.bk).lt
  exact Nat.lt_trans (by decide) h
theorem dk_empty {P : Program} {w : World} {H : Hp} (h : Heap) (hb : sysModules < h.objs.size) : ObjOk P w H (h.push { cls := .type "dict", data := .dict #[] }) h.objs.size (.dK []) :=
  ⟨Nat.zero_le _, beq_eq_false_iff_ne.mpr (Ne.symm (Nat.ne_of_lt hb)), [], .nil, Heap.DictOf.new h⟩
def tDNewK : TE := fun _ H Q => ∀ p, H p = none → Q (.ref p) (upd H p (.dK []))
theorem pe_dnewK {X : Cx} {pos : Pos} : PE X (.Dict [] [] pos) tDNewK := fun pins s σ H Q I h =>
  wpAny_Dict_empty ⟨.ref s.heap.objs.size, _, I.laid (a := s.heap.objs.size) (o := .dK []) (t' := s.toks) (fun _ _ q => Heap.get?_push_of_some _ q) (Nat.le_refl _) (dk_empty s.heap I.big), rfl, h _ (I.hok.fresh (Nat.le_refl _))⟩
/-! things by place -/
theorem Dens.at {H : Hp} {ts : List Th} {xs : List V} {i : Int} (d : Th) (h : Dens H ts xs) (h0 : 0 ≤ i) (h1 : i < (ts.length : Int)) : ∃ v, atI xs i = some v ∧ Den H (ts.getD i.toNat d) v := by
  have hk : i.toNat < ts.length := by omega
  have ek : i = ((i.toNat : Nat) : Int) := by omega
  obtain ⟨v, e, q⟩ := h.get (List.getElem?_eq_getElem hk)
  have z := atI_nat e
  rw [← ek] at z
  refine ⟨v, z, ?_⟩
  rw [getD_in hk]; exact q
end L2

set_option maxHeartbeats 4000000
namespace L2
open PySem PySem.Spec PyProof.Rows
/-! ### a, b = a list of that length -/
section
variable {prog : Program} {w : World} {A : Around} {E : Value → Shared → Prop}
theorem isList_but {l it : Addr} {items : Array Value} {h h' : Heap} (x : h.IsList l items) (ne : l ≠ it) (k : ∀ b o, b ≠ it → h.get? b = some o → h'.get? b = some o) : h'.IsList l items := by
  obtain ⟨o, e, r⟩ := x
  exact ⟨o, k l o ne e, r⟩
theorem draw_list {it l : Addr} {items : Array Value} (ne : l ≠ it) : ∀ (n i : Nat) (s : Shared) (Q : List Value → Shared → Prop), s.heap.IsListIter it l i → s.heap.IsList l items → i + n ≤ items.size →
    (∀ h', h'.IsListIter it l (i + n) → (∀ b o, b ≠ it → s.heap.get? b = some o → h'.get? b = some o) → Q ((items.toList.drop i).take n) { s with heap := h' }) → wpAny (model prog w) A (draw (.ref it) n) Q E s
  | 0, i, s, Q, st, _, _, hq => by
    show wpAny _ _ (pure []) Q E s
    exact wpAny_pure (by simpa using hq s.heap st fun _ _ _ e => e)
  | n + 1, i, s, Q, st, il, hle, hq => by
    have hlt : i < items.size := by omega
    show wpAny _ _ (pyNext (.ref it) >>= _) Q E s
    refine wpAny_bind (wpAny_pyNext_list_item st il (x := items[i]) (by simp [hlt]) fun h1 st1 sb1 => ?_)
    have k1 : ∀ b o, b ≠ it → s.heap.get? b = some o → h1.get? b = some o := fun b o hb e => (sb1.2 b hb).trans e
    refine wpAny_bind (wpAny_holding (draw_list ne n (i + 1) _ _ st1 (isList_but il ne k1) (by omega) fun h2 st2 k2 => wpAny_pure ?_))
    have hd : items.toList.drop i = items[i] :: items.toList.drop (i + 1) := by simp [List.drop_eq_getElem_cons, hlt]
    have z := hq h2 (by rw [show i + (n + 1) = i + 1 + n by omega]; exact st2) (fun b o hb e => k2 b o hb (k1 b o hb e))
    rw [hd, List.take_succ_cons] at z
    exact z
theorem unpack_list {s : Shared} {l : Addr} {items : Array Value} {tg : List (Bool × (Value → Sem Unit))} {Q : Unit → Shared → Prop} (hh : A.handled = none) (il : s.heap.IsList l items)
    (hn : tg.length = items.size) (hst : tg.findIdx? (·.1) = none)
    (h : ∀ h', (∀ b o, s.heap.get? b = some o → h'.get? b = some o) → wpAny (model prog w) A (assignInOrder (tg.map (·.2)) items.toList) Q E { s with heap := h' }) :
    wpAny (model prog w) A (unpack (.ref l) tg) Q E s := by
  have ne : l ≠ s.heap.objs.size := by obtain ⟨o, ho, _⟩ := il; exact Nat.ne_of_lt (Heap.lt_size ho)
  unfold unpack
  rw [hn, hst]
  refine wpAny_bind (wpAny_holding ?_)
  unfold unpackItems
  refine wpAny_bind ?_
  unfold notIterableAtAll
  refine wpAny_bind (wpAny_specialOf il.typeIs slot_list_iter.lookup ?_)
  refine wpAny_pure ?_
  simp only [Bool.false_eq_true, if_false]
  refine wpAny_bind (wpAny_holding (wpAny_pyIter_list il ?_))
  have il1 : (s.heap.push { cls := .type "list_iterator", data := .fields #[.ref l, rawInt 0] }).IsList l items := by
    obtain ⟨o, e, r⟩ := il
    exact ⟨o, Heap.get?_push_of_some _ e, r⟩
  refine wpAny_bind (wpAny_holding (draw_list ne items.size 0 _ _ ⟨_, Heap.get?_push_size _ rfl, rfl, rfl⟩ (isList_but (h' := _) il1 ne fun _ _ _ e => e) (by omega) fun h1 st1 k1 => ?_))
  have hall : List.take items.size (List.drop 0 items.toList) = items.toList := by
    rw [List.drop_zero]; exact List.take_of_length_le (by simp)
  rw [hall, if_neg (by simp)]
  refine wpAny_bind (wpAny_holding (wpAny_pyNext_list_end hh st1 (isList_but il1 ne k1) (by simp) fun h2 eb => ?_))
  simp only [Option.isSome_none, Bool.false_eq_true, if_false]
  refine wpAny_pure (h h2 fun b o e => eb b o (Nat.ne_of_lt (Heap.lt_size e)) (k1 b o (Nat.ne_of_lt (Heap.lt_size e)) (Heap.get?_push_of_some _ e)))
end
def gLst (K : PySem.W.Frag) (n : Nat) (t : TGs) : TG := fun v σ H Q => ∃ a xs, v = .ref a ∧ SqL K H a xs ∧ xs.length = n ∧ t xs σ H Q
theorem pg_lst {X : Cx} {pos : Pos} {es : List Expr} {k : Nat} {t : TGs} {n : Nat} (hc : X.calm = true) (h : PGs X es t)
    (hn : (assignEach es X.env).length = n := by rfl) (hst : (assignEach es X.env).findIdx? (·.1) = none := by rfl) : PG X (.Tuple es k pos) (gLst X.K n t) := by
  intro pins s σ H v u Q I r hw
  obtain ⟨a, xs, e1, hq, hl, hw⟩ := hw
  subst e1
  cases r
  obtain ⟨its, rv, pl, hz⟩ := I.list hq
  rw [assign_Tuple]
  refine wpAny_bind (wpAny_standAt (unpack_list (I.ok.hd hc) pl.isList (by simp [hn, ← hl, rv.length]) hst fun h' hx => ?_))
  have I1 : Inv X pins σ H { s with heap := h' } := I.kept (t' := s.toks) fun b o e => hx b o e
  exact h pins _ σ H xs _ Q I1 (by simpa using rv) hw
end L2

set_option maxHeartbeats 4000000
/-! isinstance of a caught exception -/
namespace L2
open PySem PySem.Spec PySem.W PyProof.Rows Builtin Builtin.ObjectAttr Builtin.Getset_descriptor
structure XInst (K : Frag) (C : Addr) : Prop where
  ga : findIn K (.ref C) "__getattribute__" = some (some (.builtin "BaseException.__getattribute__"))
  gt : findIn K (.ref C) "__getattr__" = some none
  cl : findIn K (.ref C) "__class__" = some (some (.builtin "object.__class__"))
  sg : specialIn K (.builtin "object.__class__") "__get__" = some (some (.builtin "getset_descriptor.__get__"))
  tk : takesIn K (.builtin "object.__class__") = some true
  ob : mroIn K C (.type "object") = some true
  be : mroIn K C (.type "BaseException") = some true
  ok : isClsIn K C = true
section
variable {prog : Program} {w : World} {A : Around} {E : Value → Shared → Prop} {K : Frag} {a C : Addr} {oe : Obj} {h : Heap} {g : Array GenState} {d : Drawn} {t : Nat} {os : OsState}
theorem exc_class_get {R : Result → Shared → Prop} {tp : Value} (kin : K.In h) (x : XInst K C) (he : h.get? a = some oe) (hc : oe.cls = .ref C) (q : R (.ok (.ret (.ref C))) ⟨h, g, d, t, os⟩) :
    codeAny (model prog w) A (.call (.builtin "getset_descriptor.__get__") ⟨[.builtin "object.__class__", .ref a, tp], []⟩) R ⟨h, g, d, t, os⟩ := by
  have M0 : Looks (model prog w) h (typeOf (.ref a)) (.ref C) := by rw [← hc]; exact (Looks.ld he).andThen .now
  have M1 := looks_mroIn (M := model prog w) kin x.ob
  refine codeAny_call_builtin (KF.slot_gs.plain) KF.entry_gs
    (KF.slot_gs.check _ _ _ _ _ _ _ _ KF.type_class (KF.args_gs _ _ _) ?_)
  unfold Builtin.«getset_descriptor.__get__» descrGet
  rw [dga_obj]
  refine wpAny_bind (wpAny_pure ?_)
  unfold descrGetter descrCheckInstance descrNameAndClass isInstance
  simp only [KF.owner_class]
  repeat lk
  refine ⟨Code.quiet_builtin _ (by decide +kernel), codeAny_builtin KF.entry_class ?_⟩
  unfold Builtin.«object.__class__» shownTypeOf
  repeat lk
  exact q
theorem exc_attr {tk : Tok} {Q : PySem.Fin → Shared → Prop} (kin : K.In h) (x : XInst K C) (he : h.get? a = some oe) (hc : oe.cls = .ref C) (q : Q (.done (.ret (.ref C))) ⟨h, g, d, t, os⟩) :
    wpAny (model prog w) A (Builtin.«object.__getattribute__» ⟨[.ref a, .str "__class__" tk], []⟩) Q E ⟨h, g, d, t, os⟩ := by
  have M0 : Looks (model prog w) h (typeOf (.ref a)) (.ref C) := by rw [← hc]; exact (Looks.ld he).andThen .now
  have M3 := looks_findIn (M := model prog w) kin x.cl
  have f5 := KF.type_class
  have f6 := F.slot_gs_get.lookup
  have f7 := F.slot_gs_set.lookup
  repeat (any_goals (first | assumption | (with_reducible refine wpAny_loadPart_at he ?_; rw [hc]) | (with_reducible refine M3.at ?_) | wp_step))
  refine exc_class_get kin x he hc ?_
  exact wpAny_pure q
seal wpAny in
theorem exc_class {Q : Option Value → Shared → Prop} (kin : K.In h) (x : XInst K C) (he : h.get? a = some oe) (hc : oe.cls = .ref C) (q : Q (some (.ref C)) ⟨h, g, d, t + 1, os⟩) :
    wpAny (model prog w) A (getAttr? (.ref a) "__class__") Q E ⟨h, g, d, t, os⟩ := by
  have M0 : Looks (model prog w) h (typeOf (.ref a)) (.ref C) := by rw [← hc]; exact (Looks.ld he).andThen .now
  have M1 := looks_findIn (M := model prog w) kin x.ga
  have M2 := looks_findIn (M := model prog w) kin x.gt
  have M3 := looks_findIn (M := model prog w) kin x.cl
  unfold getAttr? getAttrBy? getAttrBy
  refine wpAny_bind (wpAny_mkText (wpAny_bind (wpAny_attempt (wpAny_holding (wpAny_bind (M0.at (wpAny_bind (M1.at ?_))))))))
  have n1 : (onTheHeap (Value.ref C) && Value.builtin "BaseException.__getattribute__" == Value.builtin "object.__getattribute__") = false := by
    rw [show (Value.builtin "BaseException.__getattribute__" == Value.builtin "object.__getattribute__") = false by decide +kernel, Bool.and_false]
  simp only [n1, Bool.false_eq_true, if_false]
  unfold getAttrByItsOwn hookBefore
  refine wpAny_bind (M2.at (wpAny_bind (wpAny_attempt (wpAny_holding ?_))))
  unfold callGetattribute boundAndCalled
  simp only [Bool.false_and, Bool.false_eq_true, if_false]
  rw [F.attr_ValueError.ga.bind (.ref a)]
  refine wpAny_bind (wpAny_pure ?_)
  refine wpAny_call (codeAny_call_builtin F.attr_ValueError.ga.plain F.entry_bexc_ga ?_)
  have be : subIn K (.ref C) (.type "BaseException") = some true := x.be
  have M4 : Looks (model prog w) h (isInstance (.ref a) (.type "BaseException")) true := M0.andThen (looks_subIn kin be)
  have k1 : builtinKind "BaseException.__getattribute__" = some .slot := by decide +kernel
  have k2 : splitId "BaseException.__getattribute__" = some ("BaseException", "__getattribute__") := by decide +kernel
  show wpAny _ _ (checkBuiltinCall "BaseException.__getattribute__" ⟨[.ref a, .str "__class__" t], []⟩) _ _ _
  have k3 : argsOk "BaseException.__getattribute__" ⟨[.ref a, .str "__class__" t], []⟩ := F.args_bexc_ga (.ref a) (.str "__class__" t)
  refine check_slot (self := .ref a) (rest := [.str "__class__" t]) (kw := []) (owner := "BaseException") (n := "__getattribute__") k1 k2 M4 k3 ?_
  refine exc_attr kin x he hc ?_
  show wpAny (model prog w) A (handedOut (.ref C)) _ _ _
  exact handed_on rfl (wpAny_pure q)
theorem kitx_exc (x : XInst K C) : KitX K (.ref a) (.ref C) (fun h => ∃ oe, h.get? a = some oe ∧ oe.cls = .ref C) where
  ty := fun M h _ ⟨oe, he, hc⟩ => by rw [← hc]; exact (Looks.ld he).andThen .now
  it := fun M h kin _ => looks_isType kin x.ok
  ne := fun h tp dd its n sl kin htp => by
    refine Bool.eq_false_iff.mpr fun q => ?_
    have e : C = tp := Value.ref.inj (beq_iff_eq.mp q)
    subst e
    have z := x.ok
    unfold isClsIn clsIn at z
    split at z
    · rename_i lk
      have y := (kin C _ lk).symm.trans htp
      cases y
    · cases z
  ca := fun {prog w A E Q s} kin ⟨oe, he, hc⟩ q => by
    obtain ⟨h, g, d, t, os⟩ := s
    exact exc_class kin x he hc q
end
section
variable {X : Cx} {e : Addr} {oe : Obj}
theorem Inv.heldAt {pins : List (Addr × Obj)} {σ : St} {H : Hp} {s : Shared} (I : Inv (X.held e oe) pins σ H s) : s.heap.get? e = some oe := (I.pin (e, oe) (List.mem_append_left _ List.mem_cons_self)).1
/-- isinstance(e, D): D an own class -/
theorem call_isinstX : CallR (X.held e oe) (.builtin "isinstance") (fun xs H Q => ∃ (C D : Addr) (b : Bool), xs = [.ref e, .ref D] ∧ oe.cls = .ref C ∧ XInst X.K C ∧ kitOne X.K (.ref C) (.ref D) = some b ∧ Q (.bl b) H) := by
  intro pins s σ H xs us Q I r h
  obtain ⟨C, D, b, rfl, hc, x, k, q⟩ := h
  obtain ⟨u, w', rfl, r1, r2⟩ := vals2 r
  cases r1
  cases r2
  exact kia_one (kitx_exc x) I.kIn ⟨oe, I.heldAt, hc⟩ k (fun z => nomatch z) fun tk => ⟨.bl b, H, I.tok _, rfl, q⟩
/-- isinstance(e, T): T a built-in class -/
theorem call_isinstXB : CallR (X.held e oe) (.builtin "isinstance") (fun xs H Q => ∃ (C : Addr) (T : String) (b : Bool), xs = [.ref e, .ty T] ∧ oe.cls = .ref C ∧ XInst X.K C ∧ kitOne X.K (.ref C) (.type T) = some b ∧ Q (.bl b) H) := by
  intro pins s σ H xs us Q I r h
  obtain ⟨C, T, b, rfl, hc, x, k, q⟩ := h
  obtain ⟨u, w', rfl, r1, r2⟩ := vals2 r
  cases r1
  cases r2
  exact kia_one (kitx_exc x) I.kIn ⟨oe, I.heldAt, hc⟩ k (fun z => nomatch z) fun tk => ⟨.bl b, H, I.tok _, rfl, q⟩
theorem vals_refs : ∀ {Ds : List Addr} {us : List Value}, Vals (Ds.map V.ref) us → us = Ds.map Value.ref
  | [], _, .nil => rfl
  | D :: Ds, _, .cons r t => by rw [vals_refs t, show _ = Value.ref D from r]; rfl
/-- isinstance(e, (D, ..)) -/
theorem call_isinstXT : CallR (X.held e oe) (.builtin "isinstance") (fun xs H Q => ∃ (C p : Addr) (Ds : List Addr) (b : Bool), xs = [.ref e, .ref p] ∧ H p = some (.tup (Ds.map V.ref)) ∧ oe.cls = .ref C ∧ XInst X.K C ∧ kitAny X.K (.ref C) (Ds.map Value.ref) = some b ∧ Q (.bl b) H) := by
  intro pins s σ H xs us Q I r h
  obtain ⟨C, p, Ds, b, rfl, hp, hc, x, k, q⟩ := h
  obtain ⟨u, w', rfl, r1, r2⟩ := vals2 r
  cases r1
  cases r2
  obtain ⟨_, its, rv, tp⟩ := (show ObjOk X.prog X.w H s.heap p (.tup (Ds.map V.ref)) from I.hok p _ hp)
  have ei := vals_refs rv
  subst ei
  obtain ⟨⟨cls, dd, data, sl⟩, h1, h2, n, h3⟩ := tp
  simp only at h2 h3
  subst h2 h3
  exact kia_tup (kitx_exc x) I.kIn ⟨oe, I.heldAt, hc⟩ h1 k (fun z => nomatch z) fun tk => ⟨.bl b, H, I.tok _, rfl, q⟩
/-- x == y of two things that read alike -/
theorem op_eqD (hu : X.A.units + 64 < cLine) : OpR X (compareOp .Eq) (fun x y H Q => ∃ t, Den H t x ∧ Den H t y ∧ depT t ≤ 60 ∧ Q (.bl true) H) := by
  intro pins s σ H x y v u Q I rx ry h
  obtain ⟨t, d1, d2, hd, q⟩ := h
  have scal_case : scal x y = true → x = y → wpAny (model X.prog X.w) X.A (compareOp .Eq v u) (EP X pins σ Q) X.xe s := fun h1 h2 =>
    op_eq pins s σ H x y v u Q I rx ry ⟨h1, by rw [decide_eq_true h2]; exact q⟩
  cases t with
  | non => cases (show x = V.non from d1); cases (show y = V.non from d2); exact scal_case rfl rfl
  | bl b => cases (show x = V.bl b from d1); cases (show y = V.bl b from d2); exact scal_case rfl rfl
  | int i => cases (show x = V.int i from d1); cases (show y = V.int i from d2); exact scal_case rfl rfl
  | str z => cases (show x = V.str z from d1); cases (show y = V.str z from d2); exact scal_case rfl rfl
  | lst ts =>
    obtain ⟨a1, xs, rfl, h1, e1⟩ := d1
    obtain ⟨a2, ys, rfl, h2, e2⟩ := d2
    cases (show v = Value.ref a1 from rx); cases (show u = Value.ref a2 from ry)
    obtain ⟨_, us, n1, q1, g1⟩ := (show ObjOk X.prog X.w H s.heap a1 (.lst xs) from I.hok a1 _ h1)
    obtain ⟨_, ws, n2, q2, g2⟩ := (show ObjOk X.prog X.w H s.heap a2 (.lst ys) from I.hok a2 _ h2)
    have hsz : us.toArray.size = ws.toArray.size := by
      rw [List.size_toArray, List.size_toArray, ← q1.length, ← q2.length, e1.len, e2.len]
    have hd' : depTs ts + 1 ≤ 60 := hd
    have h := SeqAt.RcAt.lists (A := X.A) (s := s) (e := fun _ => true) (⟨_, g1, rfl, _, rfl⟩ : s.heap.IsList a1 us.toArray) (⟨_, g2, rfl, _, rfl⟩ : s.heap.IsList a2 ws.toArray) hsz (by omega) fun j j1 j2 => by
      obtain ⟨t, w1, w2, ht, p1, p2, s1, s2⟩ := dens_at e1 e2 q1 q2 j j1 j2
      exact eqDen I.hok 60 X.A.in1 t w1 w2 _ _ (by have := depTs_mem ht; omega) (by show X.A.units + 1 + 60 < cLine; omega) p1 p2 s1 s2
    rw [range_all_true] at h
    exact h X.prog X.w _ _ ⟨.bl true, H, I, rfl, q⟩
  | tup ts =>
    obtain ⟨a1, xs, rfl, h1, e1⟩ := d1
    obtain ⟨a2, ys, rfl, h2, e2⟩ := d2
    cases (show v = Value.ref a1 from rx); cases (show u = Value.ref a2 from ry)
    obtain ⟨_, us, q1, g1⟩ := (show ObjOk X.prog X.w H s.heap a1 (.tup xs) from I.hok a1 _ h1)
    obtain ⟨_, ws, q2, g2⟩ := (show ObjOk X.prog X.w H s.heap a2 (.tup ys) from I.hok a2 _ h2)
    have hsz : us.toArray.size = ws.toArray.size := by
      rw [List.size_toArray, List.size_toArray, ← q1.length, ← q2.length, e1.len, e2.len]
    have hd' : depTs ts + 1 ≤ 60 := hd
    have h := SeqAt.RcAt.tuples (A := X.A) (s := s) (e := fun _ => true) (show s.heap.IsTuple a1 us.toArray from g1) (show s.heap.IsTuple a2 ws.toArray from g2) (by omega) fun j j1 j2 => by
      obtain ⟨t, w1, w2, ht, p1, p2, s1, s2⟩ := dens_at e1 e2 q1 q2 j j1 j2
      exact eqDen I.hok 60 X.A.in1 t w1 w2 _ _ (by have := depTs_mem ht; omega) (by show X.A.units + 1 + 60 < cLine; omega) p1 p2 s1 s2
    rw [range_all_true, hsz, beq_self_eq_true, Bool.and_self] at h
    exact h X.prog X.w _ _ ⟨.bl true, H, I, rfl, q⟩
  | emp =>
    obtain ⟨a1, rfl, h1⟩ := d1
    obtain ⟨a2, rfl, h2⟩ := d2
    cases (show v = Value.ref a1 from rx); cases (show u = Value.ref a2 from ry)
    obtain ⟨_, m1, vs1, q1, g1⟩ := (show ObjOk X.prog X.w H s.heap a1 (.dK []) from I.hok a1 _ h1)
    obtain ⟨_, m2, vs2, q2, g2⟩ := (show ObjOk X.prog X.w H s.heap a2 (.dK []) from I.hok a2 _ h2)
    cases q1
    cases q2
    exact PySem.W.keq_eq (K := Key) (knd := mixKind X.prog X.w) (r := true) m1 m2 g1 g2 (by omega) (fun _ => .nil) ⟨.bl true, H, I, rfl, q⟩
end
end L2

set_option maxHeartbeats 4000000
namespace L2
open PySem PySem.Spec PyProof.Rows
/-! ### several records of ours have turned; a new object is laid beside them -/
section
variable {X : Cx} {pins : List (Addr × Obj)} {σ : St} {H : Hp} {s : Shared} {h' : Heap}
theorem Inv.turnedL {t' : Nat} {fp : List Addr} (I : Inv X pins σ H s) (k : ∀ b o, b ∉ fp → s.heap.get? b = some o → h'.get? b = some o) (hf : ∀ b ∈ fp, FpOk X pins H b) :
    Inv X pins σ H { s with heap := h', toks := t' } := by
  have nin : ∀ b u, H b = some u → b ∉ fp := fun b u e z => by rw [(hf b z).1] at e; cases e
  refine I.step (g' := s.gens) (d' := s.drawn) (ch := fp) (fun b hb => ⟨(hf b hb).2.2.2.1, (hf b hb).2.1, (hf b hb).2.2.2.2.1, (hf b hb).2.2.2.2.2⟩) (fun b o _ _ hc e _ => k b o hc e) (fun b o _ _ hc e _ => ⟨o.slots, k b o hc e⟩) (fun _ _ _ _ n => n)
    (fun b o hc e => ⟨o, k b o hc e⟩) (fun _ _ e => e) (fun _ _ _ e => e) (fun b ps e => ⟨#[], by rw [e]; simp⟩) (fun m hm => ?_) (fun b u e => ?_) I.bare
  · obtain ⟨o, es, ep, ho, r⟩ := hm
    exact ⟨o, es, ep, k _ o (fun z => (hf _ z).2.1 rfl) ho, r⟩
  · refine (I.hok b u e).stay (fun c v hc q => k c v ?_ q) (fun _ q => q) fun _ _ q => q
    rcases hc with z | z
    · rw [z]; exact nin b u e
    · exact nin c _ z
theorem Inv.turnLay {t' : Nat} {fp : List Addr} {a : Addr} {o : HO} (I : Inv X pins σ H s) (k : ∀ b u, b ∉ fp → s.heap.get? b = some u → h'.get? b = some u) (hf : ∀ b ∈ fp, FpOk X pins H b)
    (ha : s.heap.objs.size ≤ a) (new : ObjOk X.prog X.w (upd H a o) h' a o) : Inv X pins σ (upd H a o) { s with heap := h', toks := t' } := by
  have nin : ∀ b u, H b = some u → b ∉ fp := fun b u e z => by rw [(hf b z).1] at e; cases e
  have hn : H a = none := I.hok.fresh ha
  have ne : ∀ b u, H b = some u → b ≠ a := fun b u e z => by rw [z, hn] at e; cases e
  refine I.step (g' := s.gens) (d' := s.drawn) (ch := fp) (fun b hb => ⟨(hf b hb).2.2.2.1, (hf b hb).2.1, (hf b hb).2.2.2.2.1, (hf b hb).2.2.2.2.2⟩) (fun b o _ _ hc e _ => k b o hc e) (fun b o _ _ hc e _ => ⟨o.slots, k b o hc e⟩)
    (fun b u _ e n => by rw [upd_ne (Nat.ne_of_lt (Nat.lt_of_lt_of_le (Heap.lt_size e) ha))]; exact n)
    (fun b o hc e => ⟨o, k b o hc e⟩) (fun b xs e => by rw [upd_ne (ne b _ e)]; exact e) (fun b o u e => by rw [upd_ne (ne b _ e)]; exact e) (fun b ps e => ⟨#[], by rw [upd_ne (ne b _ e), e]; simp⟩) (fun m hm => ?_) (fun b u e => ?_) I.bare
  · obtain ⟨o, es, ep, ho, r⟩ := hm
    exact ⟨o, es, ep, k _ o (fun z => (hf _ z).2.1 rfl) ho, r⟩
  · by_cases hb : b = a
    · subst hb
      rw [upd_same] at e
      cases e
      exact new
    · rw [upd_ne hb] at e
      refine (I.hok b u e).stay (fun c v hc q => k c v ?_ q) (fun c q => by rw [upd_ne (ne c _ q)]; exact q) fun c xs q => by rw [upd_ne (ne c _ q)]; exact q
      rcases hc with z | z
      · rw [z]; exact nin b u e
      · exact nin c _ z
end
/-! ### zip of two lists -/
def Itz (K : PySem.W.Frag) (l1 l2 : Addr) : It :=
  ⟨fun i H => ∃ xs ys x y, SqL K H l1 xs ∧ SqL K H l2 ys ∧ xs[i]? = some x ∧ ys[i]? = some y,
   fun i H v H' => ∃ T x y, H T = none ∧ H' = upd H T (.tup [x, y]) ∧ v = .ref T ∧ (∀ xs, SqL K H l1 xs → xs[i]? = some x) ∧ ∀ ys, SqL K H l2 ys → ys[i]? = some y,
   fun i H => ∃ xs ys, SqL K H l1 xs ∧ SqL K H l2 ys ∧ (xs.length ≤ i ∨ ys.length ≤ i)⟩
def ZSt (z TI TO i1 i2 l1 l2 : Addr) (i : Nat) (h : Heap) : Prop :=
  IsZip h z TI TO Value.none ∧ IsPair h TI (.ref i1) (.ref i2) ∧ (∃ a b, IsPair h TO a b) ∧ h.IsListIter i1 l1 i ∧ h.IsListIter i2 l2 i
theorem isList_at {h : Heap} {l : Addr} {items : Array Value} (x : h.IsList l items) : ∃ o, h.get? l = some o ∧ o.cls = .type "list" := by
  obtain ⟨o, e, c, _⟩ := x
  exact ⟨o, e, c⟩
theorem turn_zip {P : Program} {w : World} {K : PySem.W.Frag} {es : List Expr} {k0 : Nat} {p0 : Pos} {z TI TO i1 i2 l1 l2 : Addr} (ap : ZipApart z TI TO i1 i2 l1 l2) :
    Turn P w K (.Tuple es k0 p0) (Itz K l1 l2) [z, TI, TO, i1, i2] z (ZSt z TI TO i1 i2 l1 l2) where
  mem := by simp
  obj := fun i h ⟨a, b, ⟨c1, c2, c⟩, d, e⟩ x hx => by
    simp only [List.mem_cons, List.not_mem_nil, or_false] at hx
    rcases hx with rfl | rfl | rfl | rfl | rfl
    · exact ⟨_, a, fun v q => by cases q⟩
    · exact ⟨_, b, fun v q => by cases q⟩
    · exact ⟨_, c, fun v q => by cases q⟩
    · obtain ⟨o, e1, _, e2⟩ := d
      exact ⟨o, e1, fun v q => by rw [e2] at q; cases q⟩
    · obtain ⟨o, e1, _, e2⟩ := e
      exact ⟨o, e1, fun v q => by rw [e2] at q; cases q⟩
  keep := fun i h h' ⟨a, b, ⟨c1, c2, c⟩, d, e⟩ kk =>
    ⟨kk _ (by simp) _ a, kk _ (by simp) _ b, ⟨c1, c2, kk _ (by simp) _ c⟩, d.at fun o q => kk _ (by simp) o q, e.at fun o q => kk _ (by simp) o q⟩
  item := by
    intro X hP hw hK hc i pins s σ H E I hf st hg
    subst hP hw hK
    obtain ⟨a, b, ⟨c1, c2, c⟩, d, e⟩ := st
    obtain ⟨xs, ys, x, y, q1, q2, x1, y1⟩ := hg
    obtain ⟨its1, rv1, pl1, hz1⟩ := I.list q1
    obtain ⟨its2, rv2, pl2, hz2⟩ := I.list q2
    obtain ⟨u1, hu1, ru1⟩ := rv1.get x1
    obtain ⟨u2, hu2, ru2⟩ := rv2.get y1
    refine wpAny_pyNext_zip_item ap a b c d e pl1.isList pl2.isList (x := u1) (y := u2) (by simpa using hu1) (by simpa using hu2) fun h' za zb zc zd ze zs zk => ?_
    refine ⟨_, rfl, wpAny_letOwnedTupleGo_zip (s := { s with heap := h' }) za fun h2 za2 sb => ?_⟩
    have kk : ∀ b o, b ∉ [z, TI, TO, i1, i2] → s.heap.get? b = some o → h2.get? b = some o := fun b o hb q => by
      simp only [List.mem_cons, List.not_mem_nil, or_false, not_or] at hb
      exact (sb.2 b hb.1).trans (zk b o hb.1 hb.2.2.1 hb.2.2.2.1 hb.2.2.2.2 q)
    have szn : s.heap.objs.size ≠ z := fun q => by
      obtain ⟨f0, _⟩ := hf z (by simp)
      exact absurd (Heap.lt_size a) (by rw [← q]; exact Nat.lt_irrefl _)
    have hT : h2.get? s.heap.objs.size = some { cls := .type "tuple", data := .seq #[u1, u2] } := (sb.2 _ szn).trans ze
    have fr : H s.heap.objs.size = none := I.hok.fresh (Nat.le_refl _)
    have I2 : Inv X pins σ (upd H s.heap.objs.size (.tup [x, y])) { s with heap := h2 } := I.turnLay (t' := s.toks) (fp := [z, TI, TO, i1, i2]) kk hf (Nat.le_refl _)
      ⟨by show 2 ≤ sizeLine; decide, [u1, u2], .cons ru1 (.cons ru2 .nil), ⟨_, hT, rfl, _, rfl⟩⟩
    have kTI : h2.get? TI = some _ := (sb.2 TI ap.TIz).trans (zk TI _ ap.TIz ap.TITO ap.TIi1 ap.TIi2 b)
    refine ⟨.ref s.heap.objs.size, _, I2, rfl, ⟨_, x, y, fr, rfl, rfl, fun zs hz => by rw [I.list_inj hz q1]; exact x1, fun zs hz => by rw [I.list_inj hz q2]; exact y1⟩,
      ⟨za2, kTI, ⟨_, _, (sb.2 TO ap.TOz).trans zb⟩, zc.at fun o q => (sb.2 _ ap.i1z).trans q, zd.at fun o q => (sb.2 _ ap.i2z).trans q⟩, fun b hb => ?_⟩
    have h0 := (hf b hb).1
    have hlt : b ≠ s.heap.objs.size := fun q => by
      subst q
      simp only [List.mem_cons, List.not_mem_nil, or_false] at hb
      rcases hb with q | q | q | q | q
      · exact szn q
      · exact absurd (Heap.lt_size b) (by rw [← q]; exact Nat.lt_irrefl _)
      · exact absurd (Heap.lt_size c) (by rw [← q]; exact Nat.lt_irrefl _)
      · obtain ⟨o, e1, _⟩ := d
        exact absurd (Heap.lt_size e1) (by rw [← q]; exact Nat.lt_irrefl _)
      · obtain ⟨o, e1, _⟩ := e
        exact absurd (Heap.lt_size e1) (by rw [← q]; exact Nat.lt_irrefl _)
    rw [upd_ne hlt]
    exact h0
  done := by
    intro X hP hw hK hc i pins s σ H E I hf st hg
    subst hP hw hK
    obtain ⟨a, b, ⟨c1, c2, c⟩, d, e⟩ := st
    obtain ⟨xs, ys, q1, q2, hl⟩ := hg
    obtain ⟨its1, rv1, pl1, hz1⟩ := I.list q1
    obtain ⟨its2, rv2, pl2, hz2⟩ := I.list q2
    have g1 := rv1.length
    have g2 := rv2.length
    refine wpAny_pyNext_zip_end (I.ok.hd hc) ap a b c d e pl1.isList pl2.isList ?_ fun h' zk => ⟨rfl, I.turnedL (t' := s.toks) (fp := [z, TI, TO, i1, i2]) (fun b o hb q => ?_) hf⟩
    · rcases hl with q | q
      · left; simp; omega
      · right; simp; omega
    · simp only [List.mem_cons, List.not_mem_nil, or_false, not_or] at hb
      exact zk b o hb.1 hb.2.2.1 hb.2.2.2.1 hb.2.2.2.2 q
  self := fun _ _ _ _ _ st h => wpAny_pyIter_zip st.1 h
theorem zapart {n l1 l2 : Nat} (h1 : l1 < n) (h2 : l2 < n) : ZipApart (n + 4) (n + 2) (n + 3) n (n + 1) l1 l2 := by
  constructor <;> (show (_ : Nat) ≠ (_ : Nat); omega)
def iZip (K : PySem.W.Frag) (ta : TA) : TI := fun σ H R => ta σ H fun vs H1 => ∃ a b, vs = [.ref a, .ref b] ∧ (∃ xs, SqL K H1 a xs) ∧ (∃ ys, SqL K H1 b ys) ∧ R (Itz K a b) H1
theorem pi_zip {X : Cx} {es : List Expr} {k0 : Nat} {p0 : Pos} {a b : Expr} {ta : TA} {p pos : Pos} (hg : Gl X "zip") (hm : X.mg "zip" = none) (ha : PA X [a, b] ta) (hs : starEach [a, b] X.env = [(false, eval a X.env), (false, eval b X.env)] := by rfl) (hs2 : starEach [b] X.env = [(false, eval b X.env)] := by rfl) :
    PI X (.Tuple es k0 p0) (.Call (.Name "zip" p) [a, b] [] pos) (iZip X.K ta) := by
  intro pins s σ H R I h
  refine Call_ (ld_blt I hg hm boot_zip (PyProof.Rows.callWith_type1 (thn (ha pos pins s σ H _ I h) fun us s1 ⟨vs, H1, I1, r1, q1⟩ => ?_) (by rw [hs, hs2]) (by rw [hs2]; rfl)))
  obtain ⟨l1, l2, e, ⟨xs, q1⟩, ⟨ys, q2⟩, q⟩ := q1
  subst e
  cases r1 with
  | cons r rr =>
    cases rr with
    | cons r' rr =>
      cases rr
      cases r
      cases r'
      obtain ⟨its1, rv1, pl1, hz1⟩ := I1.list q1
      obtain ⟨its2, rv2, pl2, hz2⟩ := I1.list q2
      have lt1 : l1 < s1.heap.objs.size := by obtain ⟨o, e, _⟩ := isList_at pl1.isList; exact Heap.lt_size e
      have lt2 : l2 < s1.heap.objs.size := by obtain ⟨o, e, _⟩ := isList_at pl2.isList; exact Heap.lt_size e
      refine call_zip_2 pl1.isList pl2.isList fun h' za zb zc zd ze zs zk => ?_
      refine wpAny_pyIter_zip (s := { s1 with heap := h' }) za ?_
      have I2 : Inv X pins σ H1 { s1 with heap := h' } := I1.kept (t' := s1.toks) fun b o e => zk b o e
      refine ⟨_, [_, _, _, _, _], _, _, H1, rfl, I2, turn_zip (z := s1.heap.objs.size + 4) (TI := s1.heap.objs.size + 2) (TO := s1.heap.objs.size + 3) (i1 := s1.heap.objs.size) (i2 := s1.heap.objs.size + 1) (l1 := l1) (l2 := l2) ?_, ⟨za, zb, ⟨_, _, zc⟩, zd, ze⟩, fun b hb => ?_, q⟩
      · exact zapart lt1 lt2
      · simp only [List.mem_cons, List.not_mem_nil, or_false] at hb
        have ge : s1.heap.objs.size ≤ b := by rcases hb with z | z | z | z | z <;> (subst z; first | exact Nat.le_add_right _ _ | exact Nat.le_refl _)
        exact I1.fpOk ge (I1.hok.fresh ge)
end L2

set_option maxHeartbeats 4000000
namespace L2
open PySem PySem.Spec PyProof.Rows
/-! ### a list comprehension of one clause: any target, with or without a test -/
abbrev testsOf (ifs : List Expr) (env : Env) : Sem Bool := forIn ifs true fun c ok => if ok = true then do
      let ok ← PySem.isTrue c env (eval c env)
      pure (ForInStep.yield ok)
    else pure (ForInStep.yield ok)
theorem compTurn_ifs (elt target iter : Expr) (ifs : List Expr) (scope : Scope) (pos : Pos) (it acc : Value) (env : Env) :
  compTurn (elt.ListComp [⟨target, iter, ifs, 0⟩] scope pos) 0 it acc env = (do
    standAt iter.pos
    let r ← pyNext it
    match r with
      | none => pure (Fin.done Flow.next)
      | some v => do
        letOwnedTupleGo target it v
        assign target env v
        let ok ← testsOf ifs env
        if ok = true then do
          let x ← eval elt env
          let _ ← call (Value.builtin "list.append") [acc, x]
          again (Code.compLoop (elt.ListComp [⟨target, iter, ifs, 0⟩] scope pos) 0 it acc env)
        else again (Code.compLoop (elt.ListComp [⟨target, iter, ifs, 0⟩] scope pos) 0 it acc env)) := by
  unfold compTurn
  simp
  rfl
def PIf (X : Cx) (ifs : List Expr) (t : TT) : Prop :=
  ∀ (pins : List (Addr × Obj)) (s : Shared) (σ : St) (H : Hp) (Q : Bool → Hp → Prop), Inv X pins σ H s → t σ H Q → wpAny (model X.prog X.w) X.A (testsOf ifs X.env) (TP X pins σ Q) X.xe s
def tYes : TT := fun _ H Q => Q true H
theorem pif_nil {X : Cx} : PIf X [] tYes := fun pins s σ H Q I h => by
  show wpAny _ _ (pure true) _ _ s
  exact wpAny_pure ⟨H, I, h⟩
theorem pif_one {X : Cx} {c : Expr} {t : TT} (hc : PT X c t) : PIf X [c] t := fun pins s σ H Q I h => by
  have e : testsOf [c] X.env = PySem.isTrue c X.env (eval c X.env) := by simp [testsOf]
  rw [e]
  exact hc pins s σ H Q I h
theorem compLoop_ifs {prog : Program} {w : World} {A : Around} {R : Result → Shared → Prop} {s : Shared} {elt tg iter : Expr} {ifs : List Expr} {scope : Scope} {pos : Pos} {it acc : Value} {env : Env} (Iv : Nat → Shared → Prop)
    (turn : ∀ k s, Iv k s → wpAny (model prog w) A (pyNext it) (fun r s1 => match r with
      | none => R (.ok .next) s1
      | some v => wpAny (model prog w) A (letOwnedTupleGo tg it v) (fun _ s2 => wpAny (model prog w) A (assign tg env v) (fun _ s3 => wpAny (model prog w) A (testsOf ifs env) (fun b s4 => if b = true then
          wpAny (model prog w) A (eval elt env) (fun y s5 => wpAny (model prog w) A (call (.builtin "list.append") [acc, y]) (fun _ s6 => ∃ m, m < k ∧ Iv m s6) (fun _ _ => False) s5) (fun _ _ => False) s4
          else ∃ m, m < k ∧ Iv m s4) (fun _ _ => False) s3) (fun _ _ => False) s2) (fun _ _ => False) s1) (fun _ _ => False) s)
    (k : Nat) (h : Iv k s) : codeAny (model prog w) A (.compLoop (.ListComp elt [⟨tg, iter, ifs, 0⟩] scope pos) 0 it acc env) R s := by
  refine codeAny_loop rfl Iv (fun k s hI => ?_) k h
  show wpAny _ _ ((compTurn (.ListComp elt [⟨tg, iter, ifs, 0⟩] scope pos) 0 it acc env).onRaise (fun e => do noteFrame e env; theTreesLotGoes e)) _ _ s
  refine wpAny_noted ?_
  rw [compTurn_ifs]
  refine wpAny_bind (wpAny_standAt (wpAny_bind (wpAny_mono (turn k s hI) (fun r s1 h1 => ?_) fun _ _ f => f.elim)))
  cases r with
  | none => exact wpAny_pure h1
  | some v =>
    refine wpAny_bind (wpAny_mono h1 (fun _ s2 h2 => wpAny_bind (wpAny_mono h2 (fun _ s3 h3 => wpAny_bind (wpAny_mono h3 (fun b s4 h4 => ?_) fun _ _ f => f.elim)) fun _ _ f => f.elim)) fun _ _ f => f.elim)
    cases b with
    | true =>
      rw [if_pos rfl] at h4 ⊢
      exact wpAny_bind (wpAny_mono h4 (fun y s5 h5 => wpAny_bind (wpAny_mono h5 (fun _ s6 h6 => wpAny_pure ⟨rfl, h6⟩) fun _ _ f => f.elim)) fun _ _ f => f.elim)
    | false =>
      rw [if_neg Bool.false_ne_true] at h4 ⊢
      exact wpAny_pure ⟨rfl, h4⟩
/-- what the rule asks of the clause's names: xs, its own; ts, the names from around with their slots -/
structure CompOkL (X : Cx) (xs : List Str) (ts : List (Str × Nat)) (scope : Scope) (cl : List (Str × Addr)) : Prop where
  clos : closureFor scope X.env = pure cl
  sub : ∀ y c, cl.lookup y = some c → X.env.cells.lookup y = some c
  nocell : (scope.names.all fun p => p.2 != .cell) = true
  kind : scope.kind = .function
  locs : (scope.names.all fun p => p.2 != .local || scope.names.lookup p.1 == some .local) = true
  nd : (xs ++ ts.map (·.1)).Nodup
  around : (ts.all fun p => decide (X.N[p.2]? = some p.1) && (X.env.kindOf p.1 == some .cell || X.env.kindOf p.1 == some .free) && (cl.lookup p.1).isSome &&
    ((relabel scope X.env).names.lookup p.1 == some .cell || (relabel scope X.env).names.lookup p.1 == some .free)) = true
  has : ((relabel scope X.env).names.all fun p => !(p.2 == .cell || p.2 == .free) || (cl.lookup p.1).isSome) = true
abbrev nmsL (xs : List Str) (ts : List (Str × Nat)) : List Str := xs ++ ts.map (·.1)
/-- what the loop does: filled at D, turn by turn -/
def CompG (J : It) (g : TG) (tt : TT) (te : TE) (k : Nat) (st : St) (D : Addr) (H1 : Hp) (Q : VK) : Prop :=
  ∃ W : Nat → Nat → List V → Hp → Prop, (∃ m, W 0 m [] (upd H1 D (.lst []))) ∧ ∀ i m ys H2, W i m ys H2 →
    (J.stop i H2 ∧ Q (.ref D) H2) ∨ (J.go i H2 ∧ ∀ x H3 σ0, J.yld i H2 x H3 → σ0.length = k → g x (σ0 ++ st) H3 fun σ2 H4 => (∃ σ1, σ1.length = k ∧ σ2 = σ1 ++ st) ∧ tt σ2 H4 fun b H5 =>
      if b = true then te σ2 H5 fun y H6 => H6 D = some (.lst ys) ∧ ys.length < sizeLine ∧ ∃ m', m' < m ∧ W (i + 1) m' (ys ++ [y]) (upd H6 D (.lst (ys ++ [y])))
      else ∃ m', m' < m ∧ W (i + 1) m' ys H5)
def tCompG (wi : TI) (g : TG) (tt : TT) (k : Nat) (fr : List Nat) (te : TE) : TE := fun σ H Q => wi σ H fun J H1 => ∀ D, H1 D = none → CompG J g tt te k (taken σ fr) D H1 Q
section
variable {X : Cx} {elt iter tg : Expr} {ifs : List Expr} {xs : List Str} {pos : Pos} {scope : Scope} {cl : List (Str × Addr)} {ts : List (Str × Nat)} {wi : TI} {te : TE} {g : TG} {tt : TT}
theorem CompOkL.nocell' (O : CompOkL X xs ts scope cl) : ∀ y ∈ scope.names, y.2 ≠ .cell := fun y hy e => by
  have := List.all_eq_true.mp O.nocell y hy
  rw [e] at this
  cases this
theorem CompOkL.locs' (O : CompOkL X xs ts scope cl) : ∀ y ∈ scope.names, y.2 = .local → scope.names.lookup y.1 = some .local := fun y hy e => by
  have h := List.all_eq_true.mp O.locs y hy
  rw [e] at h
  rcases Bool.or_eq_true_iff.mp h with z | z
  · cases z
  · exact beq_iff_eq.mp z
theorem CompOkL.from' (O : CompOkL X xs ts scope cl) : ∀ (i : Nat) (y : Str), (ts.map (·.1))[i]? = some y → ∃ j, (sltOf ts)[i]? = some j ∧ X.N[j]? = some y ∧ (X.env.kindOf y = some .cell ∨ X.env.kindOf y = some .free) ∧ (cl.lookup y).isSome = true ∧
    ((relabel scope X.env).names.lookup y = some .cell ∨ (relabel scope X.env).names.lookup y = some .free) := fun i y e1 => by
  rw [List.getElem?_map] at e1
  cases q : ts[i]? with
  | none => rw [q] at e1; cases e1
  | some p =>
    rw [q] at e1
    have e2 : p.1 = y := Option.some.inj e1
    subst e2
    have h := List.all_eq_true.mp O.around p (List.mem_of_getElem? q)
    simp only [Bool.and_eq_true, Bool.or_eq_true, beq_iff_eq, decide_eq_true_eq] at h
    obtain ⟨⟨⟨h1, h2⟩, h3⟩, h4⟩ := h
    refine ⟨p.2, ?_, h1, h2, h3, h4⟩
    show (ts.map (·.2))[i]? = some p.2
    rw [List.getElem?_map, q] <;> rfl
theorem CompOkL.has' (O : CompOkL X xs ts scope cl) : ∀ y, ((relabel scope X.env).names.lookup y = some .cell ∨ (relabel scope X.env).names.lookup y = some .free) → (cl.lookup y).isSome = true := fun y h => by
  have go : ∀ k : NameKind, (k = .cell ∨ k = .free) → (relabel scope X.env).names.lookup y = some k → (cl.lookup y).isSome = true := fun k hk e => by
    have z := List.all_eq_true.mp O.has (y, k) (PySem.mem_of_lookup e)
    rcases Bool.or_eq_true_iff.mp z with z | z
    · rcases hk with e | e <;> (rw [e] at z; cases z)
    · exact z
  rcases h with h | h
  · exact go _ (.inl rfl) h
  · exact go _ (.inr rfl) h
theorem compL_ok {pins : List (Addr × Obj)} {σ : St} {H3 : Hp} {s3 : Shared} {fp : List Addr} (O : CompOkL X xs ts scope cl) (I3 : Inv X pins σ H3 s3) (hfp : ∀ b ∈ fp, FpOk X pins H3 b ∧ b < s3.heap.objs.size) :
    (cxComp X (nmsL xs ts) scope cl s3.heap.objs.size s3 H3 fp).Ok where
  mod := I3.ok.mod
  kind := O.kind
  glob := I3.ok.glob
  blt := I3.ok.blt
  above := Nat.le_refl _
  inj := fun y z c h1 h2 => I3.ok.inj y z c (O.sub y c h1) (O.sub z c h2)
  has := fun y h => Option.isSome_iff_exists.mp (O.has' y h)
  cab := fun y c h => by cases h
  hd := I3.ok.hd
  frames := I3.ok.frames
  stk := .inl rfl
  exf := fun b hb => ⟨Nat.ne_of_lt (hfp b hb).2, fun y c e => (hfp b hb).1.2.2.2.2.1 y c (O.sub y c e)⟩
  bs := fun b o e => I3.bs b o e
  bsz := Nat.le_trans I3.ok.bsz I3.sz
  noex := fun b o e hb => by
    rcases (hfp b hb).1.2.2.2.1 with z | z
    · exact I3.ok.noex b o e z
    · exact absurd (Nat.lt_of_lt_of_le (Heap.lt_size (I3.ok.bs b o e).1) z) (Nat.lt_irrefl _)
  exfs := fun b hb hz => by
    rcases List.mem_cons.mp (I3.stkSub b hz) with e | e
    · exact (hfp b hb).1.2.1 e
    · exact (hfp b hb).1.2.2.1 e
  funs := I3.stack
  frf := I3.stkFree
theorem compL_start {pins : List (Addr × Obj)} {σ : St} {H3 : Hp} {s3 : Shared} {fp : List Addr} {h1 : Heap} {tk : Nat} (O : CompOkL X xs ts scope cl) (I3 : Inv X pins σ H3 s3) (hfp : ∀ b ∈ fp, FpOk X pins H3 b ∧ b < s3.heap.objs.size)
    (hns : h1.Ns s3.heap.objs.size fun _ => none) (old : ∀ b o, s3.heap.get? b = some o → h1.get? b = some o) :
    Inv (cxComp X (nmsL xs ts) scope cl s3.heap.objs.size s3 H3 fp) [] (List.replicate xs.length none ++ taken σ (sltOf ts)) H3 { s3 with heap := h1, toks := tk } := by
  refine ⟨compL_ok O I3 hfp, rfl, I3.bare, Un.kept old, ⟨_, hns, fun i y v e1 e2 e3 => ?_⟩, fun y c e => ?_, I3.hok.fresh (Nat.le_refl _), fun y c e => I3.freeC y c (O.sub y c e), fun p hp => absurd (show p ∈ ([] : List (Addr × Obj)) from hp) (by simp), I3.hok.kept old, ?_⟩
  · by_cases hi : i < xs.length
    · rw [List.getElem?_append_left (by simpa using hi), List.getElem?_replicate, if_pos hi] at e2
      cases e2
    · have hi' : xs.length ≤ i := Nat.le_of_not_lt hi
      have e1' : (ts.map (·.1))[i - xs.length]? = some y := by
        have : (xs ++ ts.map (·.1))[i]? = some y := e1
        rw [List.getElem?_append_right hi'] at this; exact this
      rw [List.getElem?_append_right (by simpa using hi')] at e2
      rw [List.length_replicate] at e2
      obtain ⟨j, hj, hN, hk, hcl, hk2⟩ := O.from' _ y e1'
      have e2' : σ[j]? = some (some v) := by
        have q := e2
        unfold taken at q
        rw [List.getElem?_map, hj] at q
        have q' : (σ[j]?).getD none = some v := Option.some.inj q
        cases z : σ[j]? with
        | none => rw [z] at q'; cases q'
        | some w => rw [z] at q'; rw [show w = some v from q']
      obtain ⟨m, hn, hl⟩ := I3.loc
      have vis : Vis X.env.scope y := hk.elim (fun z => .inr (.inl z)) fun z => .inr (.inr z)
      obtain ⟨u, r, l⟩ := hl j y v hN e2' vis
      obtain ⟨c, hc⟩ := Option.isSome_iff_exists.mp hcl
      refine ⟨u, r, .inr ⟨hk2, c, hc, ?_⟩⟩
      rcases l with ⟨k, _⟩ | ⟨_, c', hc', z⟩
      · rcases hk with hk | hk
        · rw [k] at hk; cases hk
        · rw [k] at hk; cases hk
      · rw [O.sub y c hc] at hc'
        cases hc'
        obtain ⟨o, ho, hd⟩ := z
        exact ⟨o, old c o ho, hd⟩
  · obtain ⟨v, o, ho, hd⟩ := I3.cell y c (O.sub y c e)
    exact ⟨v, o, old c o ho, hd⟩
  · show (List.replicate xs.length none ++ taken σ (sltOf ts)).length = (nmsL xs ts).length
    simp [taken]
theorem compG_run {use : Option (Value → Sem Unit)} {QV : Value → Shared → Prop} {cpos : Pos} {pins : List (Addr × Obj)} {s : Shared} {σ : St} {H : Hp} {Q : VK} (hc : X.calm = true) (O : CompOkL X xs ts scope cl) (hi : PI X tg iter wi) (hg : ∀ C s3 H3 fp, PG (cxComp X (nmsL xs ts) scope cl C s3 H3 fp) tg g)
    (ht : ∀ C s3 H3 fp, PIf (cxComp X (nmsL xs ts) scope cl C s3 H3 fp) ifs tt) (he : ∀ C s3 H3 fp, PE (cxComp X (nmsL xs ts) scope cl C s3 H3 fp) elt te)
    (hs : ∀ x, foldedSetIterable iter X.env x = pure x) (I : Inv X pins σ H s) (h : tCompG wi g tt xs.length (sltOf ts) te σ H Q)
    (fin : ∀ (D C : Addr) (s6 : Shared) (H5 : Hp), Inv X pins σ H5 s6 → FpOk X pins H5 C → (∃ m, s6.heap.Ns C m) → Q (.ref D) H5 → compPost (model X.prog X.w) X.A X.xe use QV (.ref D) C (.ok .next) s6) :
    wpAny (model X.prog X.w) X.A (comprehension (.ListComp elt [⟨tg, iter, ifs, 0⟩] scope pos) scope X.env cpos (newList []) false (eval iter X.env) use) QV X.xe s := by
  refine wpAny_comprehension_free (use := use) rfl hs O.clos O.kind O.locs' (thn (hi pins s σ H _ I h) fun v s1 h1 => thn h1 fun itv s2 h2 => ?_)
  obtain ⟨it, fp, tn, J, H2, rfl, I2, T, st2, f2, q⟩ := h2
  have hD : H2 s2.heap.objs.size = none := I2.hok.fresh (Nat.le_refl _)
  obtain ⟨W, ⟨m0, w0⟩, turn⟩ := q s2.heap.objs.size hD
  refine wpAny_newObj_type ?_
  have I3 : Inv X pins σ (upd H2 s2.heap.objs.size (.lst [])) { s2 with heap := s2.heap.push { cls := .type "list", dict := none, data := .seq ([] : List Value).toArray } } :=
    I2.laid (a := s2.heap.objs.size) (o := .lst []) (t' := s2.toks) (fun b u e => Heap.get?_push_of_some _ e) (Nat.le_refl _) ⟨Nat.zero_le _, [], 0, .nil, Heap.get?_push_size _ rfl⟩
  generalize hs3 : ({ s2 with heap := s2.heap.push { cls := .type "list", dict := none, data := .seq ([] : List Value).toArray } } : Shared) = s3 at I3
  have sz3 : s3.heap.objs.size = s2.heap.objs.size + 1 := by rw [← hs3, Heap.size_push]
  have old3 : ∀ b u, s2.heap.get? b = some u → s3.heap.get? b = some u := fun b u e => by rw [← hs3]; exact Heap.get?_push_of_some _ e
  generalize hH3 : upd H2 s2.heap.objs.size (.lst []) = H3 at I3 w0
  have fp2 : ∀ b ∈ fp, b < s2.heap.objs.size := fun b hb => by
    obtain ⟨o, e, _⟩ := T.obj _ _ st2 b hb
    exact Heap.lt_size e
  have hfp : ∀ b ∈ fp, FpOk X pins H3 b ∧ b < s3.heap.objs.size := fun b hb => by
    refine ⟨⟨?_, (f2 b hb).2⟩, by rw [sz3]; exact Nat.lt_succ_of_lt (fp2 b hb)⟩
    rw [← hH3, upd_ne (Nat.ne_of_lt (fp2 b hb))]
    exact (f2 b hb).1
  refine wpAny_newFunctionEnv O.nocell' (by intro y hy; simp at hy) (fun h₁ hns₁ hsb₁ => ?_) O.kind
  have old : ∀ b o, s3.heap.get? b = some o → h₁.get? b = some o := fun b o e => hsb₁.extBut b o (Nat.ne_of_lt (Heap.lt_size e)) (Heap.get?_push_of_some _ e)
  have start : Inv (cxComp X (nmsL xs ts) scope cl s3.heap.objs.size s3 H3 fp) [] (List.replicate xs.length none ++ taken σ (sltOf ts)) H3 { s3 with heap := h₁, toks := s3.toks + 0 } := compL_start O I3 hfp hns₁ old
  have st4 : tn 0 h₁ := T.keep _ _ _ st2 fun b hb o e => old b o (old3 b o e)
  have okX : ∀ {H' : Hp}, (∀ b ∈ fp, H' b = none) → ∀ b ∈ fp, FpOk (cxComp X (nmsL xs ts) scope cl s3.heap.objs.size s3 H3 fp) [] H' b := fun hn b hb => by
    refine ⟨hn b hb, Nat.ne_of_lt (hfp b hb).2, fun z => ?_, .inl hb, fun y c e => (f2 b hb).2.2.2.2.1 y c (O.sub y c e), fun p hp => absurd (show p ∈ ([] : List (Addr × Obj)) from hp) (by simp)⟩
    rcases List.mem_cons.mp (I3.stkSub b z) with e | e
    · exact (f2 b hb).2.1 e
    · exact (f2 b hb).2.2.1 e
  have loop : ∀ s₄ : Shared, s₄ = { s3 with heap := h₁, toks := s3.toks + 0 } →
      codeAny (model X.prog X.w) X.A (.compLoop (.ListComp elt [⟨tg, iter, ifs, 0⟩] scope pos) 0 (.ref it) (.ref s2.heap.objs.size) (compEnvC scope cl s3.heap.objs.size X.env))
        (compPost (model X.prog X.w) X.A X.xe use QV (.ref s2.heap.objs.size) s3.heap.objs.size) s₄ := by
    rintro s₄ rfl
    refine compLoop_ifs (fun n s' => ∃ i ys σ0 H', σ0.length = xs.length ∧ Inv (cxComp X (nmsL xs ts) scope cl s3.heap.objs.size s3 H3 fp) [] (σ0 ++ taken σ (sltOf ts)) H' s' ∧ tn i s'.heap ∧ (∀ b ∈ fp, H' b = none) ∧ W i n ys H') ?_ m0
      ⟨0, [], _, H3, by simp, start, st4, fun b hb => (hfp b hb).1.1, w0⟩
    rintro n s5 ⟨i, ys, σ0, H5, l0, I5, st5, fr5, w5⟩
    rcases turn i n ys H5 w5 with ⟨stop, qn⟩ | ⟨go, step⟩
    · refine thn (T.done (cxComp X (nmsL xs ts) scope cl s3.heap.objs.size s3 H3 fp) rfl rfl rfl hc i [] s5 (σ0 ++ taken σ (sltOf ts)) H5 _ I5 (okX fr5) st5 stop) fun r s6 ⟨hr, I6⟩ => ?_
      subst hr
      obtain ⟨m, hn, _⟩ := id I6.loc
      have u6 : Un (frs X.stack) fp H3 H5 s3.heap s6.heap := I6.base
      have fC : H5 s3.heap.objs.size = none := I6.free
      exact fin s2.heap.objs.size s3.heap.objs.size s6 H5 (I3.call' (s' := s6) (ch := fp) I6.os u6 I6.hok I6.bare (fun b hb => ⟨(f2 b hb).2.2.2.1, (f2 b hb).2.1, (f2 b hb).2.2.2.2.1, (f2 b hb).2.2.2.2.2⟩))
        (I3.fpOk (Nat.le_refl _) fC) ⟨m, hn⟩ qn
    · refine thn (T.item (cxComp X (nmsL xs ts) scope cl s3.heap.objs.size s3 H3 fp) rfl rfl rfl hc i [] s5 (σ0 ++ taken σ (sltOf ts)) H5 _ I5 (okX fr5) st5 go) fun r s6 ⟨u, hr, h6⟩ => ?_
      subst hr
      refine thn h6 fun _ s7 ⟨z, H7, I7, rz, yz, st7, fr7⟩ => ?_
      have I7' := I7.pinned (okX fr7) (T.obj _ _ st7)
      refine thn (hg s3.heap.objs.size s3 H3 fp _ s7 _ H7 z u _ I7' rz (step z H7 σ0 yz l0)) fun _ s8 ⟨σ8, H8, I8, ⟨σ1, l1, e8⟩, q8⟩ => ?_
      subst e8
      refine thn (ht s3.heap.objs.size s3 H3 fp _ s8 _ H8 _ I8 q8) fun b s9 ⟨H9, I9, q9⟩ => ?_
      cases b with
      | true =>
        rw [if_pos rfl] at q9 ⊢
        refine thn (he s3.heap.objs.size s3 H3 fp _ s9 _ H9 _ I9 q9) fun y s10 ⟨vy, H10, I10, ry, hD9, hl9, m', hm', w9⟩ => ?_
        refine thn (mt_append (X := cxComp X (nmsL xs ts) scope cl s3.heap.objs.size s3 H3 fp) _ s10 _ H10 (.ref s2.heap.objs.size) [vy] (.ref s2.heap.objs.size) [y] (fun _ H11 => H11 = upd H10 s2.heap.objs.size (.lst (ys ++ [vy]))) I10 rfl (.cons ry .nil) ⟨_, ys, vy, rfl, rfl, hD9, hl9, rfl⟩) fun _ s11 ⟨_, H11, I11, _, e11⟩ => ?_
        subst e11
        refine ⟨m', hm', i + 1, ys ++ [vy], σ1, _, l1, I11.unpinned, T.keep _ _ _ st7 fun b hb o e => (I11.pin (b, o) (List.mem_append_right _ (List.mem_append_right _ (mem_pinsAt hb e)))).1, fun b hb => ?_, w9⟩
        obtain ⟨o, e, d⟩ := T.obj _ _ st7 b hb
        exact (I11.pin (b, o) (List.mem_append_right _ (List.mem_append_right _ (mem_pinsAt hb e)))).2.1
      | false =>
        rw [if_neg Bool.false_ne_true] at q9 ⊢
        obtain ⟨m', hm', w9⟩ := q9
        refine ⟨m', hm', i + 1, ys, σ1, _, l1, I9.unpinned, T.keep _ _ _ st7 fun b hb o e => (I9.pin (b, o) (List.mem_append_right _ (List.mem_append_right _ (mem_pinsAt hb e)))).1, fun b hb => ?_, w9⟩
        obtain ⟨o, e, d⟩ := T.obj _ _ st7 b hb
        exact (I9.pin (b, o) (List.mem_append_right _ (List.mem_append_right _ (mem_pinsAt hb e)))).2.1
  have hst := codeAny_compStart_list (loop _ rfl) (T.self X.A 0 _ _ _ st4 (loop _ rfl))
  exact hst
theorem pe_compG (hc : X.calm = true) (O : CompOkL X xs ts scope cl) (hi : PI X tg iter wi) (hg : ∀ C s3 H3 fp, PG (cxComp X (nmsL xs ts) scope cl C s3 H3 fp) tg g)
    (ht : ∀ C s3 H3 fp, PIf (cxComp X (nmsL xs ts) scope cl C s3 H3 fp) ifs tt) (he : ∀ C s3 H3 fp, PE (cxComp X (nmsL xs ts) scope cl C s3 H3 fp) elt te)
    (hs : ∀ x, foldedSetIterable iter X.env x = pure x := by intro _; rfl) : PE X (.ListComp elt [⟨tg, iter, ifs, 0⟩] scope pos) (tCompG wi g tt xs.length (sltOf ts) te) := by
  intro pins s σ H Q I h
  rw [eval_ListComp]
  refine compG_run (use := none) hc O hi hg ht he hs I h fun D C s6 H5 I6 fC ⟨m, hn⟩ q => ?_
  refine ⟨m, hn, fun h' sb => ⟨.ref D, H5, ?_, rfl, q⟩⟩
  exact I6.turned (it := C) (t' := s6.toks) (fun b o hb e => (sb.2 b hb).trans e) fC.1 fC.2.1 fC.2.2.2.1 fC.2.2.2.2.1 fC.2.2.2.2.2
/-- x = [..]: stored while the comprehension's block still stands -/
theorem ps_setC {i : Nat} {x : Str} {pos' sp : Pos} (hN : X.N.Nodup) (hix : X.N[i]? = some x) (hx : Loc X.env.scope x) (hc : X.calm = true) (O : CompOkL X xs ts scope cl) (hi : PI X tg iter wi) (hg : ∀ C s3 H3 fp, PG (cxComp X (nmsL xs ts) scope cl C s3 H3 fp) tg g)
    (ht : ∀ C s3 H3 fp, PIf (cxComp X (nmsL xs ts) scope cl C s3 H3 fp) ifs tt) (he : ∀ C s3 H3 fp, PE (cxComp X (nmsL xs ts) scope cl C s3 H3 fp) elt te)
    (hs : ∀ x, foldedSetIterable iter X.env x = pure x := by intro _; rfl) (hw : swapsWith (.ListComp elt [⟨tg, iter, ifs, 0⟩] scope pos) (some (.Name x pos')) sp.line X.env = pure true := by rfl)
    (hf : X.fn x = true ∨ X.env.scope.names.lookup x = some .local := by first | exact .inl rfl | exact .inr rfl | assumption) :
    PS X (.Assign [.Name x pos'] (.ListComp elt [⟨tg, iter, ifs, 0⟩] scope pos) sp) (tAsg (tCompG wi g tt xs.length (sltOf ts) te) (gName i)) := by
  intro pins s σ H D I h
  rw [exec_Assign_Name_used x pos' _ sp hw]
  refine wpAny_bind (wpAny_standAt (wpAny_bind ?_))
  show wpAny _ _ ((comprehension _ scope X.env _ (newList []) _ _ (some _)) >>= fun _ => pure ()) _ _ s
  refine wpAny_bind (compG_run (use := some (assign (.Name x pos') X.env)) hc O hi hg ht he hs I h fun A C s6 H5 I6 fC ⟨m, hn⟩ q => ?_)
  obtain ⟨o, es, ep, ho, r⟩ := id hn
  have onlyC : ∀ b : Addr, b ∈ [C] → b = C := fun b hb => by simpa using hb
  have I6' := I6.pinned (fp := [C]) (fun b hb => onlyC b hb ▸ fC) (fun b hb => by
    rw [onlyC b hb]
    exact ⟨o, ho, fun v z => by rw [r.1] at z; cases z⟩)
  refine wpAny_assign_Name (store_ok I6' hN hix hx (v := .ref A) rfl (fun s7 I7 => ?_) hf)
  have e7 : s7.heap.get? C = some o := (I7.pin (C, o) (List.mem_append_right _ (List.mem_append_right _ (mem_pinsAt (by simp) ho)))).1
  refine ⟨m, ⟨o, es, ep, e7, r⟩, fun h' sb => wpAny_pure (wpAny_pure ⟨_, H5, ?_, q⟩)⟩
  exact I7.unpinned.turned (it := C) (t' := s7.toks) (fun b o hb e => (sb.2 b hb).trans e) fC.1 fC.2.1 fC.2.2.2.1 fC.2.2.2.2.1 fC.2.2.2.2.2
end
/-- its target, several names -/
theorem pg_tupC {X : Cx} {N' : List Str} {scope : Scope} {cl : List (Str × Addr)} {C : Addr} {s3 : Shared} {H3 : Hp} {fp : List Addr} {pos : Pos} {es : List Expr} {k : Nat} {t : TGs} {n : Nat} (hc : X.calm = true) (h : PGs (cxComp X N' scope cl C s3 H3 fp) es t)
    (hn : (assignEach es (cxComp X N' scope cl C s3 H3 fp).env).length = n := by rfl) (hst : (assignEach es (cxComp X N' scope cl C s3 H3 fp).env).findIdx? (·.1) = none := by rfl) : PG (cxComp X N' scope cl C s3 H3 fp) (.Tuple es k pos) (gTup X.K n t) := pg_tup hc h hn hst
theorem sub0 {cs : List (Str × Addr)} : ∀ (y : Str) (c : Addr), List.lookup y ([] : List (Str × Addr)) = some c → cs.lookup y = some c := fun _ _ h => by cases h
end L2

set_option maxHeartbeats 4000000
namespace L2
open PySem PySem.Spec PyProof.Rows
section
variable {X : Cx}
/-! ### xs.insert(i, y), 0 ≤ i ≤ len(xs) -/
def rInsert : V → List V → Hp → VK → Prop := fun x vs H Q => ∃ (l : Addr) (xs : List V) (i : Int) (y : V), x = .ref l ∧ vs = [.int i, y] ∧ H l = some (.lst xs) ∧ 0 ≤ i ∧ i.toNat ≤ xs.length ∧ xs.length < sizeLine ∧ Q .non (upd H l (.lst (xs.take i.toNat ++ y :: xs.drop i.toNat)))
theorem ins_meets (l : Addr) (items : Array Value) (n : Nat) (x : Int) (u : Tok) (y : Value) (h0 : 0 ≤ x) (h : x < 2 ^ 63) (hs : items.size ≤ sizeLine) : Meets (Builtin.«list.insert» { pos := [Value.ref l, Value.int x u, y] }) fun x_1 R s =>
        s.heap.get? l = some { cls := Value.type "list", data := Data.seq items n } ∧
          R (Except.ok (Flow.ret Value.none)) { s with heap := s.heap.update l (Obj.mapSeq fun xs => (xs.extract 0 (min x.toNat xs.size)).push y ++ xs.extract (min x.toNat xs.size)) } := by
  have hfit : ¬(!Builtin.List.listFitsIndex x) = true := by
    have : Builtin.List.listFitsIndex x = true := by
      unfold Builtin.List.listFitsIndex
      simp
      omega
    rw [this]; exact fun z => nomatch z
  have M := AutoSeq1.list_insert_list_int_val_1 l items n x u y hfit hs
  simp only [if_neg (show ¬ x < 0 by omega)] at M
  exact M
theorem mt_insert : MtM X "list.insert" rInsert := by
  intro pins s σ H x vs v us Q I rx rv h
  obtain ⟨l, xs, i, y, rfl, rfl, hH, h0, hi, hz, q⟩ := h
  cases rx
  cases rv with
  | cons r1 rr =>
    obtain ⟨t, rfl⟩ := r1
    obtain ⟨u, rfl, ru⟩ := Vals.one rr
    obtain ⟨z, its, n, r, hl, e⟩ := I.lstM hH
    have hsz : its.toArray.size ≤ sizeLine := by rw [List.size_toArray]; omega
    have hb : i < 2 ^ 63 := by
      have : sizeLine = 2 ^ 24 := rfl
      omega
    refine call_meets F.slot_list_insert ⟨_, e, rfl⟩ F.entry_list_insert (F.args_list_insert_3 (.ref l) (.int i t) u) (ins_meets l its.toArray n i t u h0 hb hsz) ⟨e, ?_⟩
    refine ⟨.non, _, I.lset (its' := its.take i.toNat ++ u :: its.drop i.toNat) hH e ?_ ((r.take _).append (.cons ru (r.drop _))) ?_, rfl, q⟩
    · have g : min i.toNat its.length = i.toNat := by omega
      simp [g]
      exact List.take_of_length_le (by simp)
    · simp; omega
end
end L2

set_option maxHeartbeats 4000000
namespace L2
open PySem PySem.Spec PyProof.Rows
section
variable {X : Cx}
/-! ### still greater ints -/
def Smk (i : Int) : Prop := i.natAbs < 2 ^ 8900
theorem Smk.bits {i : Int} (h : Smk i) : Builtin.Int.intBits i ≤ 8900 := intBits_le_iff.mpr h
theorem mulOk_smk {i j : Int} (hi : Smk i) (hj : Smk j) : IntMulOk i j := by
  have h1 := hi.bits
  have h2 := hj.bits
  unfold IntMulOk Builtin.Int.intTooBig
  intro h
  have h4 := of_decide_eq_true (Bool.and_eq_true_iff.mp h).2
  rw [bitsLine_eq] at h4
  omega
theorem noPy_smk {i j : Int} (hj : Smk j) : Builtin.divisionGoesByPylong i j = false := by
  refine PyProof.noPylong_of_log2 ?_
  by_cases h0 : j.natAbs = 0
  · rw [h0]; decide +kernel
  · have h : j.natAbs.log2 < 8900 := (Nat.log2_lt h0).mpr hj
    omega
theorem op_mulK : OpR X (binaryOp .Mult) (rI (fun i j => Smk i ∧ Smk j) fun i j => .int (i * j)) := opI fun _ _ _ _ _ _ _ hc q => mul_int q (mulOk_smk hc.1 hc.2)
theorem op_fdivK : OpR X (binaryOp .FloorDiv) (rI (fun _ j => j ≠ 0 ∧ Smk j) fun i j => .int (i.fdiv j)) := opI fun _ _ _ _ _ _ _ hc q => floordiv_int hc.1 q (.inl (noPy_smk hc.2))
end
/-! ### rules inside a comprehension, told with the part K of around -/
section
variable {X : Cx} {N' : List Str} {scope : Scope} {cl : List (Str × Addr)} {C : Addr} {s3 : Shared} {H3 : Hp} {fp : List Addr}
theorem ix_listC : IxR (cxComp X N' scope cl C s3 H3 fp) (rIxL X.K) := ix_list
theorem ix_tupC : IxR (cxComp X N' scope cl C s3 H3 fp) (rIxT X.K) := ix_tup
theorem call_isinstDC : CallR (cxComp X N' scope cl C s3 H3 fp) (.builtin "isinstance") (fun xs H Q => ∃ x t T b, xs = [x, V.ty T] ∧ Den H t x ∧ PySem.W.kitOne X.K (tyTh t) (.type T) = some b ∧ Q (.bl b) H) := call_isinstD
theorem call_len_seqC : CallR (cxComp X N' scope cl C s3 H3 fp) (.builtin "len") (fun xs H Q => ∃ p ys, xs = [V.ref p] ∧ (SqL X.K H p ys ∨ SqT X.K H p ys) ∧ Q (.int ((ys.length : Nat) : Int)) H) := call_len_seq
theorem op_in_seqC : OpR (cxComp X N' scope cl C s3 H3 fp) (compareOp .In) (rIn X.K false) := op_in_seq
theorem op_notIn_seqC : OpR (cxComp X N' scope cl C s3 H3 fp) (compareOp .NotIn) (rIn X.K true) := op_notIn_seq
theorem sl_tupC : SlR (cxComp X N' scope cl C s3 H3 fp) (rSlT X.K) := sl_tup
theorem sl_listC : SlR (cxComp X N' scope cl C s3 H3 fp) (rSlL X.K) := sl_list
theorem call_tuple_ofC : CallR (cxComp X N' scope cl C s3 H3 fp) (.type "tuple") (fun xs H Q => ∃ p ys, xs = [V.ref p] ∧ ((SqL X.K H p ys ∧ ∀ (l : Addr), H l = none → Q (.ref l) (upd H l (.tup ys))) ∨ SqT X.K H p ys ∧ Q (.ref p) H)) := call_tuple_of
theorem call_list_ofC : CallR (cxComp X N' scope cl C s3 H3 fp) (.type "list") (fun xs H Q => ∃ p ys, xs = [V.ref p] ∧ (SqL X.K H p ys ∨ SqT X.K H p ys) ∧ ∀ (l : Addr), H l = none → Q (.ref l) (upd H l (.lst ys))) := call_list_of
end
/-! ### readings of comprehensions -/
theorem Rd.same {H H' : Hp} {a : Addr} {u : HO} (e : Same H H') (h : Rd H a u) : Rd H' a u := by
  rcases h with h | ⟨o, h⟩
  · exact .inl (e a _ h)
  · exact .inr ⟨o, e a _ h⟩
theorem Same.tup {K : PySem.W.Frag} {H H' : Hp} {a : Addr} {xs : List V} (e : Same H H') (h : SqT K H a xs) : SqT K H' a xs := by
  rcases h with h | h
  · exact .inl (h.same e)
  · exact .inr h
theorem same_upd {H1 H2 : Hp} {D : Addr} {o : HO} (h : Same H1 H2) (hD : H1 D = none) : Same H1 (upd H2 D o) := fun b u e => by
  rw [upd_ne (ne_of_none e hD)]; exact h b u e
/-- over a range -/
theorem comp_rangeG {lo : Int} {n : Nat} {te : TE} {st : St} {H1 : Hp} {Q : VK} {D : Addr} (f : Nat → V) (hD : H1 D = none) (hn : n ≤ sizeLine)
    (hs : ∀ (i : Nat) (H2 : Hp) (k : VK), i < n → Same H1 H2 → (∀ H4, Same H2 H4 → k (f i) H4) → te (some (.int (lo + i)) :: st) H2 k)
    (hd : ∀ H2, Same H1 H2 → H2 D = some (.lst ((List.range n).map f)) → Q (.ref D) H2) : CompG (Itr lo n) (gName 0) tYes te 1 st D H1 Q := by
  refine ⟨fun i m ys H2 => m = n - i ∧ i ≤ n ∧ ys = (List.range i).map f ∧ Same H1 H2 ∧ H2 D = some (.lst ys), ⟨n, by simp, Nat.zero_le _, rfl, same_upd (Same.refl H1) hD, upd_same⟩, ?_⟩
  rintro i m ys H2 ⟨rfl, hi, rfl, sm, e⟩
  by_cases hlt : i < n
  · refine .inr ⟨hlt, ?_⟩
    rintro x H3 σ0 ⟨rfl, rfl⟩ l0
    obtain ⟨a, rfl⟩ : ∃ a, σ0 = [a] := by
      match σ0, l0 with
      | [a], _ => exact ⟨a, rfl⟩
    refine ⟨⟨[some (.int (lo + i))], rfl, rfl⟩, ?_⟩
    have ln : ((List.range i).map f).length = i := by rw [List.length_map, List.length_range]
    refine hs i _ _ hlt sm fun H4 s4 => ⟨s4 _ _ e, by rw [ln]; omega, n - (i + 1), by omega, rfl, hlt, ?_, same_upd (sm.trans s4) hD, upd_same⟩
    rw [List.range_succ, List.map_append] <;> rfl
  · have ei : i = n := by omega
    subst ei
    exact .inl ⟨Nat.le_refl _, hd _ sm e⟩
/-- over a tuple -/
theorem comp_tup {K : PySem.W.Frag} {a : Addr} {xs : List V} {te : TE} {st : St} {H1 : Hp} {Q : VK} {D : Addr} (f : V → V) (hD : H1 D = none) (q1 : SqT K H1 a xs) (hn : xs.length ≤ sizeLine)
    (hs : ∀ (i : Nat) (x : V) (H2 : Hp) (k : VK), xs[i]? = some x → Same H1 H2 → (∀ H4, Same H2 H4 → k (f x) H4) → te (some x :: st) H2 k)
    (hd : ∀ H2, Same H1 H2 → H2 D = some (.lst (xs.map f)) → Q (.ref D) H2) : CompGo (Itt K a) te st D H1 Q := by
  refine ⟨fun i m zs H2 => m = xs.length - i ∧ i ≤ xs.length ∧ zs = (xs.take i).map f ∧ Same H1 H2 ∧ H2 D = some (.lst zs), ⟨xs.length, by simp, Nat.zero_le _, by simp, same_upd (Same.refl H1) hD, upd_same⟩, ?_⟩
  rintro i m zs H2 ⟨rfl, hi, rfl, sm, e⟩
  by_cases hlt : i < xs.length
  · have ex : xs[i]? = some xs[i] := List.getElem?_eq_getElem hlt
    refine .inr ⟨⟨xs, _, sm.tup q1, ex⟩, ?_⟩
    rintro x H3 ⟨rfl, hx⟩
    have hx' := hx xs (sm.tup q1)
    have tk : xs.take (i + 1) = xs.take i ++ [x] := by rw [List.take_add_one, hx']; rfl
    have ln : ((xs.take i).map f).length = i := by simp; omega
    refine hs i x _ _ hx' sm fun H4 s4 => ⟨s4 _ _ e, by rw [ln]; omega, xs.length - (i + 1), by omega, rfl, hlt, ?_, same_upd (sm.trans s4) hD, upd_same⟩
    rw [tk, List.map_append] <;> rfl
  · have ei : i = xs.length := by omega
    subst ei
    refine .inl ⟨⟨xs, sm.tup q1, Nat.le_refl _⟩, hd _ sm ?_⟩
    rw [e, List.take_of_length_le (Nat.le_refl _)]
/-- over two lists side by side: the i-th item is f of both -/
theorem comp_zip {K : PySem.W.Frag} {l1 l2 : Addr} {xs ys : List V} {te : TE} {st : St} {H1 : Hp} {Q : VK} {D : Addr} (f : V → V → V) (hD : H1 D = none) (q1 : SqL K H1 l1 xs) (q2 : SqL K H1 l2 ys) (hl : xs.length = ys.length) (hn : xs.length ≤ sizeLine)
    (hs : ∀ (i : Nat) (x y : V) (H2 : Hp) (k : VK), xs[i]? = some x → ys[i]? = some y → Same H1 H2 → (∀ H4, Same H2 H4 → k (f x y) H4) → te (some x :: some y :: st) H2 k)
    (hd : ∀ H2, Same H1 H2 → H2 D = some (.lst (List.zipWith f xs ys)) → Q (.ref D) H2) : CompG (Itz K l1 l2) (gTup K 2 (gCons (gName 0) (gCons (gName 1) gNil))) tYes te 2 st D H1 Q := by
  refine ⟨fun i m zs H2 => m = xs.length - i ∧ i ≤ xs.length ∧ zs = (List.zipWith f xs ys).take i ∧ Same H1 H2 ∧ H2 D = some (.lst zs), ⟨xs.length, by simp, Nat.zero_le _, by simp, same_upd (Same.refl H1) hD, upd_same⟩, ?_⟩
  rintro i m zs H2 ⟨rfl, hi, rfl, sm, e⟩
  by_cases hlt : i < xs.length
  · have hlt2 : i < ys.length := by omega
    have ex : xs[i]? = some xs[i] := List.getElem?_eq_getElem hlt
    have ey : ys[i]? = some ys[i] := List.getElem?_eq_getElem hlt2
    refine .inr ⟨⟨xs, ys, _, _, sm.seq q1, sm.seq q2, ex, ey⟩, ?_⟩
    rintro v H3 σ0 ⟨T, x, y, fr, rfl, rfl, hx, hy⟩ l0
    have hx' := hx xs (sm.seq q1)
    have hy' := hy ys (sm.seq q2)
    obtain ⟨a, b, rfl⟩ : ∃ a b, σ0 = [a, b] := by
      match σ0, l0 with
      | [a, b], _ => exact ⟨a, b, rfl⟩
    refine ⟨T, [x, y], rfl, SqT.of upd_same, rfl, x, [y], rfl, y, [], rfl, rfl, ⟨[some x, some y], rfl, rfl⟩, ?_⟩
    have s3 : Same H2 (upd H2 T (.tup [x, y])) := same_new fr _
    refine hs i x y _ _ hx' hy' (sm.trans s3) fun H4 s4 => ?_
    have ln : ((List.zipWith f xs ys).take i).length = i := by simp; omega
    refine ⟨s4 _ _ (s3 _ _ e), by rw [ln]; omega, xs.length - (i + 1), by omega, rfl, hlt, ?_, same_upd (sm.trans (s3.trans s4)) hD, upd_same⟩
    have : (List.zipWith f xs ys)[i]? = some (f x y) := by rw [List.getElem?_zipWith, hx', hy']
    rw [List.take_add_one, this] <;> rfl
  · have ei : i = xs.length := by omega
    subst ei
    refine .inl ⟨⟨xs, ys, sm.seq q1, sm.seq q2, .inl (Nat.le_refl _)⟩, hd _ sm ?_⟩
    rw [e, List.take_of_length_le (by simp; omega)]
/-- over a list, with a test: the items that pass it, f of each -/
theorem comp_listF {K : PySem.W.Frag} {l : Addr} {xs : List V} {te : TE} {tt : TT} {st : St} {H1 : Hp} {Q : VK} {D : Addr} (p : V → Bool) (f : V → V) (hD : H1 D = none) (q1 : SqL K H1 l xs) (hn : xs.length ≤ sizeLine)
    (ht : ∀ (i : Nat) (x : V) (H2 : Hp) (k : Bool → Hp → Prop), xs[i]? = some x → Same H1 H2 → (∀ H4, Same H2 H4 → k (p x) H4) → tt (some x :: st) H2 k)
    (hs : ∀ (i : Nat) (x : V) (H2 : Hp) (k : VK), xs[i]? = some x → p x = true → Same H1 H2 → (∀ H4, Same H2 H4 → k (f x) H4) → te (some x :: st) H2 k)
    (hd : ∀ H2, Same H1 H2 → H2 D = some (.lst ((xs.filter p).map f)) → Q (.ref D) H2) : CompG (Itl K l) (gName 0) tt te 1 st D H1 Q := by
  refine ⟨fun i m zs H2 => m = xs.length - i ∧ i ≤ xs.length ∧ zs = ((xs.take i).filter p).map f ∧ Same H1 H2 ∧ H2 D = some (.lst zs), ⟨xs.length, by simp, Nat.zero_le _, by simp, same_upd (Same.refl H1) hD, upd_same⟩, ?_⟩
  rintro i m zs H2 ⟨rfl, hi, rfl, sm, e⟩
  by_cases hlt : i < xs.length
  · have ex : xs[i]? = some xs[i] := List.getElem?_eq_getElem hlt
    refine .inr ⟨⟨xs, _, sm.seq q1, ex⟩, ?_⟩
    rintro x H3 σ0 ⟨rfl, hx⟩ l0
    have hx' := hx xs (sm.seq q1)
    obtain ⟨a, rfl⟩ : ∃ a, σ0 = [a] := by
      match σ0, l0 with
      | [a], _ => exact ⟨a, rfl⟩
    refine ⟨⟨[some x], rfl, rfl⟩, ?_⟩
    refine ht i x _ _ hx' sm fun H4 s4 => ?_
    have tk : xs.take (i + 1) = xs.take i ++ [x] := by rw [List.take_add_one, hx']; rfl
    have ln : (((xs.take i).filter p).map f).length ≤ i := by
      rw [List.length_map]; exact Nat.le_trans (List.length_filter_le _ _) (by simp; omega)
    cases hp : p x with
    | true =>
      rw [if_pos rfl]
      refine hs i x _ _ hx' hp (sm.trans s4) fun H5 s5 => ⟨s5 _ _ (s4 _ _ e), by omega, xs.length - (i + 1), by omega, rfl, hlt, ?_, same_upd (sm.trans (s4.trans s5)) hD, upd_same⟩
      rw [tk, List.filter_append, List.map_append]
      simp [hp]
    | false =>
      rw [if_neg Bool.false_ne_true]
      refine ⟨xs.length - (i + 1), by omega, rfl, hlt, ?_, sm.trans s4, s4 _ _ e⟩
      rw [tk, List.filter_append, List.map_append]
      simp [hp]
  · have ei : i = xs.length := by omega
    subst ei
    refine .inl ⟨⟨xs, sm.seq q1, Nat.le_refl _⟩, hd _ sm ?_⟩
    rw [e, List.take_of_length_le (Nat.le_refl _)]
end L2

namespace Gc
/-- what the walk of rests comes to -/
theorem gstep {a b : Int} (ha : 0 ≤ a) (hb : 0 ≤ b) (h : b ≠ 0) : Int.gcd b (a % b) = Int.gcd a b := by
  rw [Int.gcd_comm a b]
  unfold Int.gcd
  have e : (a % b).natAbs = a.natAbs % b.natAbs := by
    rw [Int.natAbs_emod_of_nonneg ha]
  rw [e, Nat.gcd_comm b.natAbs (a.natAbs % b.natAbs), ← Nat.gcd_rec]
theorem gend {a : Int} (ha : 0 ≤ a) : (Int.gcd a 0 : Int) = a := by
  rw [Int.gcd_zero_right]; omega
theorem gabs (a b : Int) : Int.gcd (if a < 0 then -a else a) (if b < 0 then -b else b) = Int.gcd a b := by
  unfold Int.gcd
  have h1 : (if a < 0 then -a else a).natAbs = a.natAbs := by split <;> omega
  have h2 : (if b < 0 then -b else b).natAbs = b.natAbs := by split <;> omega
  rw [h1, h2]
theorem gpos {a b : Int} (h : b ≠ 0) : 0 < (Int.gcd a b : Int) := by
  have : 0 < Int.gcd a b := Nat.pos_of_ne_zero fun e => h (Int.gcd_eq_zero_iff.mp e).2
  omega
end Gc

namespace Gc
theorem fdiv_mul {g t : Int} (h : g ≠ 0) : (g * t).fdiv g = t := by
  rw [Int.mul_comm]; exact Int.mul_fdiv_cancel _ h
/-- the fraction that is made -/
def frD (t b : Int) : Int := if b < 0 then -(Int.gcd t b : Int) else (Int.gcd t b : Int)
def frT (t b : Int) : Int := t.fdiv (frD t b)
def frB (t b : Int) : Int := b.fdiv (frD t b)
theorem gne {t b : Int} (h : b ≠ 0) : Int.gcd t b ≠ 0 := fun e => h (Int.gcd_eq_zero_iff.mp e).2
theorem frD_ne {t b : Int} (h : b ≠ 0) : frD t b ≠ 0 := by
  have := gne (t := t) h
  unfold frD; split <;> omega
theorem fr_split {t b : Int} (h : b ≠ 0) : t = frD t b * frT t b ∧ b = frD t b * frB t b := by
  have hd : (Int.gcd t b : Int) ∣ t := Int.gcd_dvd_left ..
  have hb : (Int.gcd t b : Int) ∣ b := Int.gcd_dvd_right ..
  have hd' : frD t b ∣ t := by unfold frD; split; · exact Int.neg_dvd.mpr hd
                               · exact hd
  have hb' : frD t b ∣ b := by unfold frD; split; · exact Int.neg_dvd.mpr hb
                               · exact hb
  obtain ⟨x, hx⟩ := hd'
  obtain ⟨y, hy⟩ := hb'
  have ne := frD_ne (t := t) h
  generalize hD : frD t b = d at *
  have e1 : frT t b = x := by unfold frT; rw [hD]; conv => lhs; rw [hx]
                              exact fdiv_mul ne
  have e2 : frB t b = y := by unfold frB; rw [hD]; conv => lhs; rw [hy]
                              exact fdiv_mul ne
  rw [e1, e2]; exact ⟨hx, hy⟩
theorem frB_pos {t b : Int} (h : b ≠ 0) : 0 < frB t b := by
  obtain ⟨_, e⟩ := fr_split (t := t) h
  have g := gne (t := t) h
  rcases Int.lt_trichotomy (frB t b) 0 with c | c | c
  · exfalso
    by_cases hb : b < 0
    · have hd : frD t b < 0 := by unfold frD; rw [if_pos hb]; omega
      have := Int.mul_pos_of_neg_of_neg hd c
      omega
    · have hd : 0 < frD t b := by unfold frD; rw [if_neg hb]; omega
      have := Int.mul_neg_of_pos_of_neg hd c
      omega
  · rw [c, Int.mul_zero] at e; exact absurd e h
  · exact c
theorem fr_gcd {t b : Int} (h : b ≠ 0) : Int.gcd (frT t b) (frB t b) = 1 := by
  obtain ⟨e1, e2⟩ := fr_split (t := t) h
  have g := gne (t := t) h
  have k : Int.gcd t b = (frD t b).natAbs * Int.gcd (frT t b) (frB t b) := by
    rw [← Int.gcd_mul_left, ← e1, ← e2]
  have hn : (frD t b).natAbs = Int.gcd t b := by unfold frD; split <;> omega
  rw [hn] at k
  have : Int.gcd t b * 1 = Int.gcd t b * Int.gcd (frT t b) (frB t b) := by rw [Nat.mul_one]; exact k
  exact (Nat.eq_of_mul_eq_mul_left (Nat.pos_of_ne_zero g) this).symm
theorem fr_cross {t b : Int} (h : b ≠ 0) : frT t b * b = t * frB t b := by
  obtain ⟨e1, e2⟩ := fr_split (t := t) h
  generalize frT t b = x at *
  generalize frB t b = y at *
  generalize frD t b = d at *
  subst e1 e2
  rw [Int.mul_left_comm, Int.mul_assoc]
theorem dvd_cop {k m n : Int} (h : k ∣ m * n) (c : Int.gcd k m = 1) : k ∣ n := by
  have h' : k.natAbs ∣ m.natAbs * n.natAbs := by rw [← Int.natAbs_mul]; exact Int.natAbs_dvd_natAbs.mpr h
  exact Int.natAbs_dvd_natAbs.mp (Nat.Coprime.dvd_of_dvd_mul_left c h')
/-- two fractions in lowest terms that stand for the same are the same -/
theorem fr_same {a b c d : Int} (hb : 0 < b) (hd : 0 < d) (g1 : Int.gcd a b = 1) (g2 : Int.gcd c d = 1) (e : a * d = c * b) : a = c ∧ b = d := by
  have h1 : b ∣ d := by
    have : b ∣ a * d := ⟨c, by rw [e, Int.mul_comm]⟩
    have k : Int.gcd b a = 1 := by rw [Int.gcd_comm]; exact g1
    exact dvd_cop this k
  have h2 : d ∣ b := by
    have : d ∣ c * b := ⟨a, by rw [← e, Int.mul_comm]⟩
    have k : Int.gcd d c = 1 := by rw [Int.gcd_comm]; exact g2
    exact dvd_cop this k
  have hbd : b = d := Int.dvd_antisymm (by omega) (by omega) h1 h2
  subst hbd
  exact ⟨Int.eq_of_mul_eq_mul_right (by omega) e, rfl⟩
end Gc

namespace Gc
theorem mul_ne {a b : Int} (ha : 0 < a) (hb : 0 < b) : a * b ≠ 0 := Int.ne_of_gt (Int.mul_pos ha hb)
theorem cancel {k x y : Int} (h : k ≠ 0) (e : k * x = k * y) : x = y := Int.eq_of_mul_eq_mul_left h e
/-- what is made of t over b, where c over d stands for the same -/
theorem fr_is {t b c d : Int} (hb : b ≠ 0) (hd : 0 < d) (g : Int.gcd c d = 1) (e : t * d = c * b) : frT t b = c ∧ frB t b = d := by
  have h := fr_cross (t := t) hb
  refine fr_same (frB_pos hb) hd (fr_gcd hb) g ?_
  refine cancel hb ?_
  generalize frT t b = x at *
  generalize frB t b = y at *
  grind
theorem back {a b c d : Int} (hb : 0 < b) (hd : 0 < d) (g : Int.gcd c d = 1) :
    frT (frT (a * d + c * b) (b * d) * b - a * frB (a * d + c * b) (b * d)) (frB (a * d + c * b) (b * d) * b) = c ∧
    frB (frT (a * d + c * b) (b * d) * b - a * frB (a * d + c * b) (b * d)) (frB (a * d + c * b) (b * d) * b) = d := by
  have hn := mul_ne hb hd
  have h1 := fr_cross (t := a * d + c * b) hn
  have h2 := frB_pos (t := a * d + c * b) hn
  generalize frT (a * d + c * b) (b * d) = p at *
  generalize frB (a * d + c * b) (b * d) = q at *
  refine fr_is (mul_ne h2 hb) hd g ?_
  grind
theorem back2 {a b c d : Int} (hb : 0 < b) (hd : 0 < d) (hc : c ≠ 0) (g : Int.gcd a b = 1) :
    frT (frT (a * d) (b * c) * c) (frB (a * d) (b * c) * d) = a ∧ frB (frT (a * d) (b * c) * c) (frB (a * d) (b * c) * d) = b := by
  have hn : b * c ≠ 0 := Int.mul_ne_zero (Int.ne_of_gt hb) hc
  have h1 := fr_cross (t := a * d) hn
  have h2 := frB_pos (t := a * d) hn
  generalize frT (a * d) (b * c) = p at *
  generalize frB (a * d) (b * c) = q at *
  refine fr_is (mul_ne h2 hd) hb g ?_
  grind
/-! sizes -/
def Sz (n : Nat) (i : Int) : Prop := i.natAbs < 2 ^ n
theorem Sz.mono {m n : Nat} {i : Int} (h : Sz m i) (hn : m ≤ n) : Sz n i := Nat.lt_of_lt_of_le h (Nat.pow_le_pow_right (by decide) hn)
theorem Sz.mul {m n : Nat} {i j : Int} (h1 : Sz m i) (h2 : Sz n j) : Sz (m + n) (i * j) := by
  unfold Sz at *
  rw [Int.natAbs_mul, Nat.pow_add]
  exact Nat.mul_lt_mul'' h1 h2
theorem Sz.add {n : Nat} {i j : Int} (h1 : Sz n i) (h2 : Sz n j) : Sz (n + 1) (i + j) := by
  unfold Sz at *
  rw [Nat.pow_succ]; omega
theorem Sz.sub {n : Nat} {i j : Int} (h1 : Sz n i) (h2 : Sz n j) : Sz (n + 1) (i - j) := by
  unfold Sz at *
  rw [Nat.pow_succ]; omega
theorem Sz.fr {n m : Nat} {a b : Int} (h : b ≠ 0) (sa : Sz n a) (sb : Sz m b) : Sz n (frT a b) ∧ Sz m (frB a b) := by
  obtain ⟨e1, e2⟩ := fr_split (t := a) h
  have nd := frD_ne (t := a) h
  have h1 : (frT a b).natAbs ≤ a.natAbs := by
    have : a.natAbs = (frD a b).natAbs * (frT a b).natAbs := by rw [← Int.natAbs_mul, ← e1]
    rw [this]; exact Nat.le_mul_of_pos_left _ (by omega)
  have h2 : (frB a b).natAbs ≤ b.natAbs := by
    have : b.natAbs = (frD a b).natAbs * (frB a b).natAbs := by rw [← Int.natAbs_mul, ← e2]
    rw [this]; exact Nat.le_mul_of_pos_left _ (by omega)
  exact ⟨Nat.lt_of_le_of_lt h1 sa, Nat.lt_of_le_of_lt h2 sb⟩
structure FrOK (a b : Int) : Prop where
  pos : 0 < b
  low : Int.gcd a b = 1
  s1 : Sz 200 a
  s2 : Sz 200 b
theorem FrOK.of {a b : Int} (h : 0 < b) (sa : Sz 200 a) (sb : Sz 200 b) : FrOK (frT a b) (frB a b) :=
  have z := Sz.fr (by omega) sa sb
  ⟨frB_pos (by omega), fr_gcd (by omega), z.1, z.2⟩
theorem frD_pos {a b : Int} (h : 0 < b) : frD a b = Int.gcd a b := if_neg (by omega)
end Gc

namespace Ch
def binom : Nat → Nat → Nat
  | _, 0 => 1
  | 0, _ + 1 => 0
  | n + 1, k + 1 => binom n k + binom n (k + 1)
theorem b0 (n : Nat) : binom n 0 = 1 := by cases n <;> rfl
theorem bs (n k : Nat) : binom (n + 1) (k + 1) = binom n k + binom n (k + 1) := rfl
theorem blt : ∀ {n k : Nat}, n < k → binom n k = 0
  | 0, k + 1, _ => rfl
  | n + 1, k + 1, h => by rw [bs, blt (by omega : n < k), blt (by omega : n < k + 1)]
theorem bself : ∀ n : Nat, binom n n = 1
  | 0 => rfl
  | n + 1 => by rw [bs, bself n, blt (Nat.lt_succ_self n)]
theorem babs : ∀ n k : Nat, binom n (k + 1) * (k + 1) = binom n k * (n - k)
  | 0, k => by rw [show binom 0 (k + 1) = 0 from rfl]; simp
  | n + 1, 0 => by
    have ih := babs n 0
    rw [bs, b0, b0]
    rw [b0] at ih
    simp only [Nat.zero_add, Nat.mul_one, Nat.one_mul, Nat.sub_zero] at *
    omega
  | n + 1, k + 1 => by
    have i1 := babs n k
    have i2 := babs n (k + 1)
    rw [bs n (k + 1), bs n k]
    by_cases h : k < n
    · have e1 : n - k = (n - (k + 1)) + 1 := by omega
      have e2 : n + 1 - (k + 1) = n - k := by omega
      rw [e2]
      rw [e1] at i1 ⊢
      generalize n - (k + 1) = d at *
      have : (binom n (k + 1) + binom n (k + 1 + 1)) * (k + 1 + 1) = binom n (k + 1) * (k + 1) + binom n (k + 1) + binom n (k + 1 + 1) * (k + 1 + 1) := by
        rw [Nat.add_mul, Nat.mul_add (binom n (k + 1)) (k + 1) 1, Nat.mul_one]
      rw [this, i1, i2, Nat.add_mul, Nat.mul_add (binom n k) d 1, Nat.mul_add (binom n (k + 1)) d 1]
      omega
    · have z1 : binom n (k + 1) = 0 := blt (by omega)
      have z2 : binom n (k + 1 + 1) = 0 := blt (by omega)
      have e2 : n + 1 - (k + 1) = 0 := by omega
      rw [z1, z2, e2]; simp
theorem bsymm : ∀ {n k : Nat}, k ≤ n → binom n (n - k) = binom n k
  | 0, 0, _ => rfl
  | n + 1, 0, _ => by rw [Nat.sub_zero, bself, b0]
  | n + 1, k + 1, h => by
    by_cases e : k = n
    · subst e; rw [Nat.sub_self, b0, bself]
    · have e1 : n + 1 - (k + 1) = (n - (k + 1)) + 1 := by omega
      have e2 : n - (k + 1) + 1 = n - k := by omega
      rw [e1, bs, bs, e2, bsymm (by omega : k + 1 ≤ n), bsymm (by omega : k ≤ n)]
      omega
/-- the loop's turn -/
theorem bturn (n t : Nat) : binom n t * (n - t) / (t + 1) = binom n (t + 1) := by
  rw [← babs, Nat.mul_div_cancel _ (Nat.succ_pos t)]
/-- sums by rows -/
def bsum (n : Nat) : Nat → Nat
  | 0 => 0
  | k + 1 => bsum n k + binom n k
theorem bsum_succ (n : Nat) : ∀ k : Nat, bsum (n + 1) (k + 1) = bsum n k + bsum n (k + 1)
  | 0 => by simp [bsum, b0]
  | k + 1 => by
    have ih := bsum_succ n k
    have e : bsum (n + 1) (k + 1 + 1) = bsum (n + 1) (k + 1) + binom (n + 1) (k + 1) := rfl
    rw [e, ih, bs]
    show bsum n k + bsum n (k + 1) + (binom n k + binom n (k + 1)) = bsum n (k + 1) + (bsum n (k + 1) + binom n (k + 1))
    have e2 : bsum n (k + 1) = bsum n k + binom n k := rfl
    omega
theorem bsum_over (n : Nat) : bsum n (n + 1 + 1) = bsum n (n + 1) := by
  show bsum n (n + 1) + binom n (n + 1) = _
  rw [blt (Nat.lt_succ_self n)]; omega
theorem bsum_all : ∀ n : Nat, bsum n (n + 1) = 2 ^ n
  | 0 => rfl
  | n + 1 => by
    rw [bsum_succ, bsum_over, bsum_all n, Nat.pow_succ]; omega
/-- the def's answer -/
def cho (n k : Int) : Int := if k < 0 ∨ n < k then 0 else (binom n.toNat k.toNat : Int)
theorem cho_out {n k : Int} (h : k < 0 ∨ n < k) : cho n k = 0 := if_pos h
theorem cho_in {n k : Int} (h0 : 0 ≤ k) (h1 : k ≤ n) : cho n k = (binom n.toNat k.toNat : Int) := if_neg (by omega)
theorem cho_symm {n k : Int} (h0 : 0 ≤ k) (h1 : k ≤ n) : cho n k = cho n (n - k) := by
  rw [cho_in h0 h1, cho_in (by omega) (by omega)]
  have e : (n - k).toNat = n.toNat - k.toNat := by omega
  rw [e, bsymm (by omega)]
theorem cho_ends {n k : Int} (h0 : 0 ≤ k) (h1 : k ≤ n) (h : k = 0 ∨ k = n) : cho n k = 1 := by
  rw [cho_in h0 h1]
  rcases h with e | e
  · subst e; simp [b0]
  · subst e; rw [bself]; rfl
theorem cho_pascal {n k : Int} (h0 : 0 < k) (h1 : k < n) : cho n k = cho (n - 1) k + cho (n - 1) (k - 1) := by
  rw [cho_in (by omega) (by omega), cho_in (by omega) (by omega), cho_in (by omega) (by omega)]
  obtain ⟨m, hm⟩ : ∃ m, n.toNat = m + 1 := ⟨n.toNat - 1, by omega⟩
  obtain ⟨j, hj⟩ : ∃ j, k.toNat = j + 1 := ⟨k.toNat - 1, by omega⟩
  have e1 : (n - 1).toNat = m := by omega
  have e2 : (k - 1).toNat = j := by omega
  rw [hm, hj, e1, e2, bs]; omega
/-- the loop ends with it -/
theorem cho_min {n k : Int} (h0 : 0 ≤ k) (h1 : k ≤ n) : (binom n.toNat (if n - k < k then n - k else k).toNat : Int) = cho n k := by
  rw [cho_in h0 h1]
  by_cases c : n - k < k
  · rw [if_pos c]
    have e : (n - k).toNat = n.toNat - k.toNat := by omega
    rw [e, bsymm (by omega)]
  · rw [if_neg c]
theorem cho_turn {n : Int} {t : Nat} (h : (t : Int) < n) : (binom n.toNat t : Int) * (n - t) / ((t : Int) + 1) = (binom n.toNat (t + 1) : Int) := by
  rw [← bturn n.toNat t]
  have e : n - (t : Int) = ((n.toNat - t : Nat) : Int) := by omega
  rw [e]
  simp
theorem sum_cho {n : Int} (hn : 0 ≤ n) : ∀ j : Nat, (j : Int) ≤ n + 1 → ((List.range j).map fun (i : Nat) => cho n i).sum = (bsum n.toNat j : Int)
  | 0, _ => rfl
  | j + 1, h => by
    rw [List.range_succ, List.map_append, List.sum_append, sum_cho hn j (by omega)]
    show _ + (cho n j + 0) = _
    rw [cho_in (by omega) (by omega)]
    show _ = ((bsum n.toNat j + binom n.toNat j : Nat) : Int)
    rw [Int.natCast_add]
    simp
theorem sum_all {n : Int} (hn : 0 ≤ n) : ((List.range (n + 1).toNat).map fun (i : Nat) => cho n i).sum = 2 ^ n.toNat := by
  rw [sum_cho hn _ (by omega)]
  have e : (n + 1).toNat = n.toNat + 1 := by omega
  rw [e, bsum_all]; norm_cast
/-- bits of b below n, added up, as the law does -/
def bits (b : Nat) : Nat → Nat
  | 0 => 0
  | j + 1 => bits b j + b / 2 ^ j % 2
def cnt (n : Nat) (k : Int) : Nat → Nat
  | 0 => 0
  | b + 1 => cnt n k b + (if (bits b n : Int) = k then 1 else 0)
def okAll (n : Nat) : Bool := (List.range (n + 3)).all fun j => decide (cho n ((j : Int) - 1) = (cnt n ((j : Int) - 1) (2 ^ n) : Nat))
theorem ok9 : (List.range 10).all okAll = true := by decide +kernel
theorem sets_eq {n : Nat} {k : Int} (hn : n < 10) (h0 : -1 ≤ k) (h1 : k ≤ (n : Int) + 1) : cho n k = (cnt n k (2 ^ n) : Nat) := by
  have a := List.all_eq_true.mp ok9 n (List.mem_range.mpr hn)
  have b := List.all_eq_true.mp a (k + 1).toNat (List.mem_range.mpr (by omega))
  have c := of_decide_eq_true b
  have e : (((k + 1).toNat : Nat) : Int) - 1 = k := by omega
  rw [e] at c; exact c
end Ch

namespace Gc
open Ch
theorem rle {a b c : Rat} (h : a ≤ b) (hc : 0 ≤ c) : c * a ≤ c * b := Rat.mul_le_mul_of_nonneg_left h hc
/- sums over k < m -/
def sm (f : Nat → Rat) : Nat → Rat
  | 0 => 0
  | m + 1 => sm f m + f m
theorem sm_add (f g : Nat → Rat) : ∀ m, sm (fun k => f k + g k) m = sm f m + sm g m
  | 0 => by simp only [sm]; grind
  | m + 1 => by simp only [sm, sm_add f g m]; grind
theorem sm_mul (c : Rat) (f : Nat → Rat) : ∀ m, sm (fun k => c * f k) m = c * sm f m
  | 0 => by simp only [sm]; grind
  | m + 1 => by simp only [sm, sm_mul c f m]; grind
theorem sm_le {f g : Nat → Rat} : ∀ {m : Nat}, (∀ k, k < m → f k ≤ g k) → sm f m ≤ sm g m
  | 0, _ => Rat.le_refl
  | m + 1, h => by
      have h1 := sm_le (m := m) fun k hk => h k (by omega)
      have h2 := h m (by omega)
      simp only [sm]; grind
theorem sm_congr {f g : Nat → Rat} : ∀ {m : Nat}, (∀ k, k < m → f k = g k) → sm f m = sm g m
  | 0, _ => rfl
  | m + 1, h => by
      have h1 := sm_congr (m := m) fun k hk => h k (by omega)
      have h2 := h m (by omega)
      simp only [sm, h1, h2]
theorem sm_zero {f : Nat → Rat} : ∀ {m : Nat}, (∀ k, k < m → f k = 0) → sm f m = 0
  | 0, _ => rfl
  | m + 1, h => by
      have h1 := sm_zero (m := m) fun k hk => h k (by omega)
      have h2 := h m (by omega)
      simp only [sm, h1, h2]; grind
theorem sm_nonneg {f : Nat → Rat} {m : Nat} (h : ∀ k, k < m → 0 ≤ f k) : 0 ≤ sm f m := by
  have := sm_le (f := fun _ => 0) (g := f) (m := m) h
  rw [sm_zero (fun _ _ => rfl)] at this; exact this
theorem sm_front (f : Nat → Rat) : ∀ m, sm f (m + 1) = f 0 + sm (fun k => f (k + 1)) m
  | 0 => by simp only [sm]; grind
  | m + 1 => by rw [sm, sm_front f m]; simp only [sm]; grind
theorem sm_split (f : Nat → Rat) (a : Nat) : ∀ b, sm f (a + b) = sm f a + sm (fun k => f (a + k)) b
  | 0 => by simp only [sm, Nat.add_zero]; grind
  | b + 1 => by rw [← Nat.add_assoc, sm, sm_split f a b]; simp only [sm]; grind
theorem sm_rev (f : Nat → Rat) : ∀ m, sm (fun k => f (m - 1 - k)) m = sm f m
  | 0 => rfl
  | m + 1 => by
      rw [sm_front]
      have : sm (fun k => f (m + 1 - 1 - (k + 1))) m = sm f m := by
        rw [← sm_rev f m]; exact sm_congr fun k _ => by congr 1; omega
      rw [this, sm]
      have e : m + 1 - 1 - 0 = m := by omega
      rw [e]; grind

/- the weight of the outcome k of n trials with the share p -/
def wt (p : Rat) : Nat → Nat → Rat
  | 0, 0 => 1
  | 0, _ + 1 => 0
  | n + 1, 0 => (1 - p) * wt p n 0
  | n + 1, k + 1 => (1 - p) * wt p n (k + 1) + p * wt p n k
theorem wt_zero (p : Rat) : ∀ n, wt p n 0 = (1 - p) ^ n
  | 0 => by rw [wt]; grind
  | n + 1 => by rw [wt, wt_zero p n]; grind
theorem wt_form (p : Rat) : ∀ n k, wt p n k = (binom n k : Rat) * p ^ k * (1 - p) ^ (n - k)
  | 0, 0 => by simp [wt, binom]
  | 0, k + 1 => by simp [wt, binom]
  | n + 1, 0 => by rw [wt_zero, b0]; simp
  | n + 1, k + 1 => by
      rw [wt, wt_form p n k, wt_form p n (k + 1), bs]
      have e : n + 1 - (k + 1) = n - k := by omega
      rw [e]
      by_cases h : k < n
      · have e2 : n - k = (n - (k + 1)) + 1 := by omega
        rw [e2]; push_cast; grind
      · rw [blt (show n < k + 1 by omega)]; push_cast; grind
theorem wt_over {p : Rat} : ∀ {n k : Nat}, n < k → wt p n k = 0 := fun h => by
  rw [wt_form, blt h]; simp
theorem wt_nonneg {p : Rat} (h0 : 0 ≤ p) (h1 : p ≤ 1) : ∀ n k, 0 ≤ wt p n k
  | 0, 0 => by rw [wt]; decide
  | 0, k + 1 => by rw [wt]; decide
  | n + 1, 0 => by
      rw [wt]; exact Rat.mul_nonneg (by grind) (wt_nonneg h0 h1 n 0)
  | n + 1, k + 1 => by
      have a := Rat.mul_nonneg (show 0 ≤ 1 - p by grind) (wt_nonneg h0 h1 n (k + 1))
      have b := Rat.mul_nonneg h0 (wt_nonneg h0 h1 n k)
      rw [wt]; grind
theorem wt_mirror (p : Rat) {n k : Nat} (h : k ≤ n) : wt (1 - p) n (n - k) = wt p n k := by
  rw [wt_form, wt_form, bsymm h]
  have e : n - (n - k) = k := by omega
  have e2 : 1 - (1 - p) = p := by grind
  rw [e, e2]; grind
/- the sum of the first m weights -/
def cu (p : Rat) (n m : Nat) : Rat := sm (wt p n) m
theorem cu_step (p : Rat) (n m : Nat) : cu p (n + 1) (m + 1) = (1 - p) * cu p n (m + 1) + p * cu p n m := by
  simp only [cu]
  rw [sm_front, sm_front (wt p n)]
  have : sm (fun k => wt p (n + 1) (k + 1)) m = (1 - p) * sm (fun k => wt p n (k + 1)) m + p * sm (wt p n) m := by
    rw [← sm_mul, ← sm_mul, ← sm_add]; exact sm_congr fun k _ => by rw [wt]
  rw [this, wt]; grind
theorem cu_zero (p : Rat) (n : Nat) : cu p n 0 = 0 := rfl
theorem cu_all (p : Rat) : ∀ {n m : Nat}, n < m → cu p n m = 1
  | 0, m + 1, _ => by
      rw [cu, sm_front, sm_zero (fun k _ => by rw [wt]), wt]; grind
  | n + 1, m + 1, h => by rw [cu_step, cu_all p (show n < m + 1 by omega), cu_all p (show n < m by omega)]; grind
theorem cu_mono {p : Rat} (h0 : 0 ≤ p) (h1 : p ≤ 1) (n : Nat) {a : Nat} : ∀ {b : Nat}, a ≤ b → cu p n a ≤ cu p n b
  | 0, h => by have : a = 0 := by omega
               subst this; exact Rat.le_refl
  | b + 1, h => by
      by_cases e : a = b + 1
      · subst e; exact Rat.le_refl
      · have := cu_mono h0 h1 n (show a ≤ b by omega)
        have w := wt_nonneg h0 h1 n b
        simp only [cu, sm] at *; grind
theorem cu_nonneg {p : Rat} (h0 : 0 ≤ p) (h1 : p ≤ 1) (n m : Nat) : 0 ≤ cu p n m := by
  have := cu_mono h0 h1 n (show 0 ≤ m by omega); rw [cu_zero] at this; exact this
theorem cu_le {p : Rat} (h0 : 0 ≤ p) (h1 : p ≤ 1) (n m : Nat) : cu p n m ≤ 1 := by
  have := cu_mono h0 h1 n (show m ≤ m + n + 1 by omega); rw [cu_all p (show n < m + n + 1 by omega)] at this; exact this
/- as the share rises, the sum of the first ones never rises -/
theorem cu_anti {p q : Rat} (h0 : 0 ≤ p) (h : p ≤ q) (h1 : q ≤ 1) : ∀ n m, cu q n m ≤ cu p n m
  | _, 0 => by rw [cu_zero, cu_zero]; exact Rat.le_refl
  | 0, m + 1 => by rw [cu_all q (by omega), cu_all p (by omega)]; exact Rat.le_refl
  | n + 1, m + 1 => by
      rw [cu_step, cu_step]
      have a := rle (cu_anti h0 h h1 n (m + 1)) (show 0 ≤ 1 - q by grind)
      have b := rle (cu_anti h0 h h1 n m) (show 0 ≤ q by grind)
      have c := rle (cu_mono h0 (by grind) n (show m ≤ m + 1 by omega) : cu p n m ≤ cu p n (m + 1)) (show 0 ≤ q - p by grind)
      grind
/- the sum of a run from i to j, j + 1 = d -/
def rn (p : Rat) (n i d : Nat) : Rat := cu p n d - cu p n i
theorem rn_unit {p : Rat} (h0 : 0 ≤ p) (h1 : p ≤ 1) {n i d : Nat} (h : i ≤ d) : 0 ≤ rn p n i d ∧ rn p n i d ≤ 1 := by
  have a := cu_mono h0 h1 n h
  have b := cu_le h0 h1 n d
  have c := cu_nonneg h0 h1 n i
  unfold rn; constructor <;> grind
/- its change is at most n times that of the share -/
theorem rn_lip {p q : Rat} (h0 : 0 ≤ p) (h : p ≤ q) (h1 : q ≤ 1) : ∀ n {i d : Nat}, i ≤ d →
    rn q n i d - rn p n i d ≤ (n : Rat) * (q - p) ∧ rn p n i d - rn q n i d ≤ (n : Rat) * (q - p)
  | 0, i, d, hi => by
      have e : ∀ x, rn x 0 i d = rn p 0 i d := fun x => by
        unfold rn
        have : ∀ m, cu x 0 m = cu p 0 m := fun m => by
          cases m with
          | zero => rfl
          | succ m => rw [cu_all _ (by omega), cu_all _ (by omega)]
        rw [this, this]
      rw [e q]; push_cast; constructor <;> grind
  | n + 1, i, d, hi => by
      have key : ∀ x, rn x (n + 1) i d = (1 - x) * rn x n i d + x * rn x n (i - 1) (d - 1) := fun x => by
        unfold rn
        cases i with
        | zero =>
          cases d with
          | zero => simp only [cu_zero, Nat.zero_sub]; grind
          | succ d => rw [cu_step]; simp only [cu_zero, Nat.zero_sub, Nat.add_sub_cancel]; grind
        | succ i =>
          cases d with
          | zero => omega
          | succ d => rw [cu_step, cu_step]; simp only [Nat.add_sub_cancel]; grind
      obtain ⟨a1, a2⟩ := rn_lip h0 h h1 n hi
      obtain ⟨b1, b2⟩ := rn_lip h0 h h1 n (show i - 1 ≤ d - 1 by omega)
      have u1 := rn_unit h0 (by grind : p ≤ 1) (n := n) hi
      have u2 := rn_unit h0 (by grind : p ≤ 1) (n := n) (show i - 1 ≤ d - 1 by omega)
      rw [key q, key p]
      have x1 := rle a1 (show 0 ≤ 1 - q by grind)
      have x2 := rle a2 (show 0 ≤ 1 - q by grind)
      have y1 := rle b1 (show 0 ≤ q by grind)
      have y2 := rle b2 (show 0 ≤ q by grind)
      have z1 := rle (show rn p n (i - 1) (d - 1) - rn p n i d ≤ 1 by grind) (show 0 ≤ q - p by grind)
      have z2 := rle (show rn p n i d - rn p n (i - 1) (d - 1) ≤ 1 by grind) (show 0 ≤ q - p by grind)
      push_cast
      constructor <;> grind
end Gc

namespace Gc
open Ch
/- a row of numbers whose steps never fall -/
def Cvx (G : Nat → Rat) : Prop := ∀ k, G (k + 1) - G k ≤ G (k + 2) - G (k + 1)
theorem Cvx.steps {G : Nat → Rat} (h : Cvx G) (a : Nat) : ∀ e, G (a + 1) - G a ≤ G (a + e + 1) - G (a + e)
  | 0 => Rat.le_refl
  | e + 1 => by
      have := h.steps a e
      have s := h (a + e)
      have e1 : a + (e + 1) = a + e + 1 := by omega
      have e2 : a + (e + 1) + 1 = a + e + 2 := by omega
      rw [e2, e1]; grind
theorem Cvx.up {G : Nat → Rat} (h : Cvx G) (a : Nat) : ∀ e : Nat, (e : Rat) * (G (a + 1) - G a) ≤ G (a + e) - G a
  | 0 => by have : a + 0 = a := rfl
            rw [this]; push_cast; grind
  | e + 1 => by
      have i := h.up a e
      have s := h.steps a e
      have e1 : a + (e + 1) = a + e + 1 := by omega
      rw [e1]; push_cast; grind
theorem Cvx.dn {G : Nat → Rat} (h : Cvx G) (a : Nat) : ∀ e : Nat, G (a + e) - G a ≤ (e : Rat) * (G (a + e + 1) - G (a + e))
  | 0 => by have : a + 0 = a := rfl
            rw [this]; push_cast; grind
  | e + 1 => by
      have i := h.dn a e
      have s := h (a + e)
      have m := rle s (show (0 : Rat) ≤ (e : Rat) by exact_mod_cast Nat.zero_le e)
      have e1 : a + (e + 1) = a + e + 1 := by omega
      have e2 : a + (e + 1) + 1 = a + e + 2 := by omega
      rw [e2, e1]; push_cast; grind
theorem castpos {e : Nat} (h : 0 < e) : (0 : Rat) < (e : Rat) := by exact_mod_cast h
theorem pos_of {e x : Rat} (he : 0 < e) (h : 0 < e * x) : 0 < x := by
  by_cases hx : 0 < x
  · exact hx
  · have := rle (show x ≤ 0 by grind) (show 0 ≤ e by grind); grind
theorem nonneg_of {e x : Rat} (he : 0 < e) (h : 0 ≤ e * x) : 0 ≤ x := by
  by_cases hx : 0 ≤ x
  · exact hx
  · have := Rat.mul_pos he (show 0 < -x by grind); grind
theorem Cvx.mid {G : Nat → Rat} (h : Cvx G) {a d k : Nat} (ha : G a = 0) (hd : G d = 0) (h1 : a ≤ k) (h2 : k ≤ d) : G k ≤ 0 := by
  by_cases hk : 0 < G k
  · exfalso
    obtain ⟨e, rfl⟩ := Nat.exists_eq_add_of_le h1
    obtain ⟨f, rfl⟩ := Nat.exists_eq_add_of_le h2
    have u := h.dn a e
    have v := h.up (a + e) f
    by_cases he : e = 0
    · subst he; have : a + 0 = a := rfl
      rw [this] at hk; grind
    · have p := pos_of (castpos (show 0 < e by omega)) (show 0 < (e : Rat) * (G (a + e + 1) - G (a + e)) by grind)
      have q : 0 ≤ (f : Rat) * (G (a + e + 1) - G (a + e)) := Rat.mul_nonneg (by exact_mod_cast Nat.zero_le f) (by grind)
      grind
  · grind
theorem Cvx.out {G : Nat → Rat} (h : Cvx G) {a d k : Nat} (ha : G a = 0) (hd : G d = 0) (had : a < d) (h1 : k ≤ a ∨ d ≤ k) : 0 ≤ G k := by
  obtain ⟨f, rfl⟩ := Nat.exists_eq_add_of_le (Nat.le_of_lt had)
  have fp := castpos (show 0 < f by omega)
  cases h1 with
  | inl h1 =>
    obtain ⟨e, rfl⟩ := Nat.exists_eq_add_of_le h1
    have u := h.dn k e
    have v := h.up (k + e) f
    have x : 0 ≤ -(G (k + e + 1) - G (k + e)) := nonneg_of fp (by grind)
    have y := Rat.mul_nonneg (show (0 : Rat) ≤ (e : Rat) by exact_mod_cast Nat.zero_le e) x
    grind
  | inr h1 =>
    obtain ⟨e, rfl⟩ := Nat.exists_eq_add_of_le h1
    have u := h.dn a f
    have v := h.up (a + f) e
    have x : 0 ≤ G (a + f + 1) - G (a + f) := nonneg_of fp (by grind)
    have y := Rat.mul_nonneg (show (0 : Rat) ≤ (e : Rat) by exact_mod_cast Nat.zero_le e) x
    grind
theorem pow_le_one' {u : Rat} (h0 : 0 ≤ u) (h1 : u ≤ 1) : ∀ e : Nat, u ^ e ≤ 1
  | 0 => by grind
  | e + 1 => by have i := rle (pow_le_one' h0 h1 e) h0
                rw [Rat.pow_succ]; grind
theorem one_le_pow' {v : Rat} (h1 : 1 ≤ v) : ∀ e : Nat, 1 ≤ v ^ e
  | 0 => by grind
  | e + 1 => by have i := rle (one_le_pow' h1 e) (show 0 ≤ v by grind)
                rw [Rat.pow_succ]; grind
theorem pw_cvx {u v l m : Rat} (hu : 0 < u) (hv : 0 < v) (hl : 0 ≤ l) (hm : 0 ≤ m) : Cvx fun k => l * u ^ k + m * v ^ k - 1 := fun k => by
  have a : 0 ≤ l * (u ^ k * ((u - 1) * (u - 1))) := Rat.mul_nonneg hl (Rat.mul_nonneg (Rat.le_of_lt (Rat.pow_pos hu)) (by
    by_cases h : 0 ≤ u - 1
    · exact Rat.mul_nonneg h h
    · have := Rat.mul_nonneg (show 0 ≤ 1 - u by grind) (show 0 ≤ 1 - u by grind); grind))
  have b : 0 ≤ m * (v ^ k * ((v - 1) * (v - 1))) := Rat.mul_nonneg hm (Rat.mul_nonneg (Rat.le_of_lt (Rat.pow_pos hv)) (by
    by_cases h : 0 ≤ v - 1
    · exact Rat.mul_nonneg h h
    · have := Rat.mul_nonneg (show 0 ≤ 1 - v by grind) (show 0 ≤ 1 - v by grind); grind))
  have e1 : u ^ (k + 1) = u ^ k * u := Rat.pow_succ u k
  have e2 : u ^ (k + 2) = u ^ k * u * u := by rw [Rat.pow_succ, Rat.pow_succ]
  have e3 : v ^ (k + 1) = v ^ k * v := Rat.pow_succ v k
  have e4 : v ^ (k + 2) = v ^ k * v * v := by rw [Rat.pow_succ, Rat.pow_succ]
  simp only [e1, e2, e3, e4]
  generalize u ^ k = x at *
  generalize v ^ k = y at *
  grind
/- through two places -/
theorem pw_two {u v : Rat} (hu : 0 < u) (hu1 : u < 1) (hv : 1 < v) {a d : Nat} (h : a < d) :
    ∃ l m : Rat, 0 ≤ l ∧ 0 ≤ m ∧ l * u ^ a + m * v ^ a - 1 = 0 ∧ l * u ^ d + m * v ^ d - 1 = 0 := by
  obtain ⟨f, rfl⟩ := Nat.exists_eq_add_of_lt h
  have ua : 0 < u ^ a := Rat.pow_pos hu
  have va : 0 < v ^ a := Rat.pow_pos (show 0 < v by grind)
  have uf := pow_le_one' (Rat.le_of_lt hu) (Rat.le_of_lt hu1) f
  have vf := one_le_pow' (Rat.le_of_lt hv) f
  have U : u ^ (f + 1) < 1 := by
    have := rle uf (Rat.le_of_lt hu); rw [Rat.pow_succ]; grind
  have V : 1 < v ^ (f + 1) := by
    have := rle vf (show 0 ≤ v by grind); rw [Rat.pow_succ]; grind
  have eu : u ^ (a + f + 1) = u ^ a * u ^ (f + 1) := by grind
  have ev : v ^ (a + f + 1) = v ^ a * v ^ (f + 1) := by grind
  rw [eu, ev]
  generalize u ^ (f + 1) = x at *
  generalize v ^ (f + 1) = y at *
  generalize u ^ a = s at *
  generalize v ^ a = t at *
  have D : y - x ≠ 0 := by grind
  have Dp : 0 < (y - x)⁻¹ := Rat.inv_pos.mpr (by grind)
  have sp : 0 < s⁻¹ := Rat.inv_pos.mpr ua
  have tp : 0 < t⁻¹ := Rat.inv_pos.mpr va
  refine ⟨(y - 1) * ((y - x)⁻¹ * s⁻¹), (1 - x) * ((y - x)⁻¹ * t⁻¹), Rat.mul_nonneg (by grind) (Rat.mul_nonneg (Rat.le_of_lt Dp) (Rat.le_of_lt sp)),
    Rat.mul_nonneg (by grind) (Rat.mul_nonneg (Rat.le_of_lt Dp) (Rat.le_of_lt tp)), ?_, ?_⟩
  · have e1 : s⁻¹ * s = 1 := Rat.inv_mul_cancel _ (by grind)
    have e2 : t⁻¹ * t = 1 := Rat.inv_mul_cancel _ (by grind)
    have e3 : (y - x)⁻¹ * (y - x) = 1 := Rat.inv_mul_cancel _ D
    grind
  · have e1 : s⁻¹ * s = 1 := Rat.inv_mul_cancel _ (by grind)
    have e2 : t⁻¹ * t = 1 := Rat.inv_mul_cancel _ (by grind)
    have e3 : (y - x)⁻¹ * (y - x) = 1 := Rat.inv_mul_cancel _ D
    grind

theorem wt_tilt {p q b u : Rat} (h1 : p = u * b * q) (h2 : 1 - p = b * (1 - q)) : ∀ n k, wt p n k = b ^ n * u ^ k * wt q n k
  | 0, 0 => by simp only [wt]; grind
  | 0, k + 1 => by simp only [wt]; grind
  | n + 1, 0 => by
      simp only [wt, wt_tilt h1 h2 n 0, h2, Rat.pow_succ]; grind
  | n + 1, k + 1 => by
      have a := wt_tilt h1 h2 n k
      have c := wt_tilt h1 h2 n (k + 1)
      rw [Rat.pow_succ] at c
      simp only [wt, a, c, h2, Rat.pow_succ]
      generalize wt q n k = x
      generalize wt q n (k + 1) = y
      generalize b ^ n = z
      generalize u ^ k = t
      rw [h1]; grind
def ind (i d k : Nat) : Rat := if i ≤ k ∧ k < d then 1 else 0
theorem sm_ind (f : Nat → Rat) {i d : Nat} (h : i ≤ d) : ∀ m, sm (fun k => f k * ind i d k) m = sm f (min d m) - sm f (min i m)
  | 0 => by simp [sm]; grind
  | m + 1 => by
      rw [sm, sm_ind f h m]
      by_cases h1 : m < i
      · rw [ind, if_neg (by omega), Nat.min_eq_right (by omega : m ≤ d), Nat.min_eq_right (by omega : m ≤ i),
          Nat.min_eq_right (by omega : m + 1 ≤ d), Nat.min_eq_right (by omega : m + 1 ≤ i)]; grind
      · by_cases h2 : m < d
        · rw [ind, if_pos (by omega), Nat.min_eq_right (by omega : m ≤ d), Nat.min_eq_left (by omega : i ≤ m),
            Nat.min_eq_right (by omega : m + 1 ≤ d), Nat.min_eq_left (by omega : i ≤ m + 1), sm]; grind
        · rw [ind, if_neg (by omega), Nat.min_eq_left (by omega : d ≤ m), Nat.min_eq_left (by omega : i ≤ m),
            Nat.min_eq_left (by omega : d ≤ m + 1), Nat.min_eq_left (by omega : i ≤ m + 1)]; grind
theorem rn_ind (p c : Rat) {n i d : Nat} (h : i ≤ d) (hd : d ≤ n + 1) :
    sm (fun k => wt p n k * (ind i d k - c)) (n + 1) = rn p n i d - c := by
  have e : sm (fun k => wt p n k * (ind i d k - c)) (n + 1)
      = sm (fun k => wt p n k * ind i d k + (-c) * wt p n k) (n + 1) := sm_congr fun k _ => by grind
  rw [e, sm_add, sm_mul, sm_ind (wt p n) h, Nat.min_eq_left hd, Nat.min_eq_left (by omega : i ≤ n + 1)]
  have := cu_all p (show n < n + 1 by omega)
  simp only [rn, cu] at *; grind
theorem lt_self_div {a b : Rat} (h : a < b) (hb : 0 < b) : a * b⁻¹ < 1 := by
  have bp : 0 < b⁻¹ := Rat.inv_pos.mpr hb
  have := Rat.mul_pos (show 0 < b - a by grind) bp
  have e : b * b⁻¹ = 1 := Rat.mul_inv_cancel _ (by grind)
  grind
/- strictly within 0 and 1 -/
theorem rn_uni0 {p q r : Rat} (h0 : 0 < p) (h1 : p < q) (h2 : q < r) (h3 : r < 1) {n i d : Nat} (hi : i < d) (hd : d ≤ n + 1) :
    rn p n i d ≤ rn q n i d ∨ rn r n i d ≤ rn q n i d := by
  have qp : 0 < q := by grind
  have q1 : 0 < 1 - q := by grind
  have i1 : q * q⁻¹ = 1 := Rat.mul_inv_cancel _ (by grind)
  have i2 : (1 - q) * (1 - q)⁻¹ = 1 := Rat.mul_inv_cancel _ (by grind)
  have i3 : (1 - p) * (1 - p)⁻¹ = 1 := Rat.mul_inv_cancel _ (by grind)
  have i4 : (1 - r) * (1 - r)⁻¹ = 1 := Rat.mul_inv_cancel _ (by grind)
  have b1 : 0 < (1 - p) * (1 - q)⁻¹ := Rat.mul_pos (by grind) (Rat.inv_pos.mpr q1)
  have b2 : 0 < (1 - r) * (1 - q)⁻¹ := Rat.mul_pos (by grind) (Rat.inv_pos.mpr q1)
  have u0 : 0 < (p * q⁻¹) * ((1 - q) * (1 - p)⁻¹) := Rat.mul_pos (Rat.mul_pos h0 (Rat.inv_pos.mpr qp)) (Rat.mul_pos q1 (Rat.inv_pos.mpr (by grind)))
  have u1 : (p * q⁻¹) * ((1 - q) * (1 - p)⁻¹) < 1 := by
    have x := lt_self_div h1 qp
    have y := lt_self_div (show 1 - q < 1 - p by grind) (show 0 < 1 - p by grind)
    have xp : 0 < p * q⁻¹ := Rat.mul_pos h0 (Rat.inv_pos.mpr qp)
    have := rle (Rat.le_of_lt y) (Rat.le_of_lt xp)
    grind
  have v1 : 1 < (r * q⁻¹) * ((1 - q) * (1 - r)⁻¹) := by
    have x := Rat.mul_pos (show 0 < r - q by grind) (Rat.inv_pos.mpr qp)
    have y := Rat.mul_pos (show 0 < r - q by grind) (Rat.inv_pos.mpr (show 0 < 1 - r by grind))
    have ex : r * q⁻¹ = 1 + (r - q) * q⁻¹ := by grind
    have ey : (1 - q) * (1 - r)⁻¹ = 1 + (r - q) * (1 - r)⁻¹ := by grind
    rw [ex, ey]
    generalize (r - q) * q⁻¹ = x' at *
    generalize (r - q) * (1 - r)⁻¹ = y' at *
    have z := Rat.mul_pos x y
    grind
  have tp := wt_tilt (p := p) (q := q) (b := (1 - p) * (1 - q)⁻¹) (u := (p * q⁻¹) * ((1 - q) * (1 - p)⁻¹)) (by grind) (by grind) n
  have tr := wt_tilt (p := r) (q := q) (b := (1 - r) * (1 - q)⁻¹) (u := (r * q⁻¹) * ((1 - q) * (1 - r)⁻¹)) (by grind) (by grind) n
  generalize (1 - p) * (1 - q)⁻¹ = b at *
  generalize (1 - r) * (1 - q)⁻¹ = b' at *
  generalize (p * q⁻¹) * ((1 - q) * (1 - p)⁻¹) = u at *
  generalize (r * q⁻¹) * ((1 - q) * (1 - r)⁻¹) = v at *
  by_cases hn : rn p n i d ≤ rn q n i d ∨ rn r n i d ≤ rn q n i d
  · exact hn
  · exfalso
    obtain ⟨c, c1, c2, c3⟩ : ∃ c, c ≤ rn p n i d ∧ c ≤ rn r n i d ∧ rn q n i d < c := by
      by_cases h : rn p n i d ≤ rn r n i d
      · exact ⟨rn p n i d, by grind, h, by grind⟩
      · exact ⟨rn r n i d, by grind, by grind, by grind⟩
    have un := rn_unit (Rat.le_of_lt h0) (show p ≤ 1 by grind) (n := n) (Nat.le_of_lt hi)
    have unq := rn_unit (Rat.le_of_lt qp) (show q ≤ 1 by grind) (n := n) (Nat.le_of_lt hi)
    obtain ⟨l, m, hl, hm, za, zd⟩ := pw_two u0 u1 v1 hi
    have cv := pw_cvx u0 (show 0 < v by grind) hl hm
    have key : sm (fun k => l * (wt q n k * u ^ k * (ind i d k - c)) + m * (wt q n k * v ^ k * (ind i d k - c))) (n + 1)
        ≤ sm (fun k => wt q n k * (ind i d k - c)) (n + 1) := sm_le fun k _ => by
      have w := wt_nonneg (Rat.le_of_lt qp) (show q ≤ 1 by grind) n k
      have g : (ind i d k - c) * (l * u ^ k + m * v ^ k - 1) ≤ 0 := by
        by_cases hk : i ≤ k ∧ k < d
        · have x := cv.mid za zd hk.1 (Nat.le_of_lt hk.2)
          rw [ind, if_pos hk]
          have := rle x (show 0 ≤ 1 - c by grind); grind
        · have x := cv.out za zd hi (show k ≤ i ∨ d ≤ k by omega)
          rw [ind, if_neg hk]
          have := Rat.mul_nonneg (show 0 ≤ c by grind) x; grind
      have := rle g w
      generalize u ^ k = s at *
      generalize v ^ k = t at *
      generalize ind i d k = o at *
      grind
    rw [sm_add, sm_mul, sm_mul, rn_ind q c (Nat.le_of_lt hi) hd] at key
    have sp : b ^ n * sm (fun k => wt q n k * u ^ k * (ind i d k - c)) (n + 1) = rn p n i d - c := by
      rw [← rn_ind p c (Nat.le_of_lt hi) hd, ← sm_mul]; exact sm_congr fun k _ => by rw [tp k]; grind
    have sr : b' ^ n * sm (fun k => wt q n k * v ^ k * (ind i d k - c)) (n + 1) = rn r n i d - c := by
      rw [← rn_ind r c (Nat.le_of_lt hi) hd, ← sm_mul]; exact sm_congr fun k _ => by rw [tr k]; grind
    have x := nonneg_of (Rat.pow_pos b1 : 0 < b ^ n) (by rw [sp]; grind)
    have y := nonneg_of (Rat.pow_pos b2 : 0 < b' ^ n) (by rw [sr]; grind)
    have x' := Rat.mul_nonneg hl x
    have y' := Rat.mul_nonneg hm y
    grind

theorem cu_at0 : ∀ n m : Nat, cu 0 n (m + 1) = 1
  | 0, m => cu_all 0 (by omega)
  | n + 1, m => by rw [cu_step, cu_at0 n m]; grind
theorem cu_at1 : ∀ {n m : Nat}, m ≤ n → cu 1 n m = 0
  | _, 0, _ => cu_zero 1 _
  | n + 1, m + 1, h => by rw [cu_step, cu_at1 (show m ≤ n by omega)]; grind
/- at the middle one no less than at one of the others -/
theorem rn_uni {p q r : Rat} (h0 : 0 ≤ p) (h1 : p ≤ q) (h2 : q ≤ r) (h3 : r ≤ 1) {n i d : Nat} (hi : i ≤ d) (hd : d ≤ n + 1) :
    rn p n i d ≤ rn q n i d ∨ rn r n i d ≤ rn q n i d := by
  have qu := rn_unit (show 0 ≤ q by grind) (show q ≤ 1 by grind) (n := n) hi
  by_cases e1 : p = q
  · left; rw [e1]; exact Rat.le_refl
  by_cases e2 : q = r
  · right; rw [e2]; exact Rat.le_refl
  by_cases e3 : i = d
  · left; subst e3; unfold rn; grind
  by_cases e4 : i = 0
  · right; subst e4
    have := cu_anti (show 0 ≤ q by grind) h2 h3 n d
    simp only [rn, cu_zero]; grind
  by_cases e5 : d = n + 1
  · left; subst e5
    have := cu_anti h0 h1 (show q ≤ 1 by grind) n i
    simp only [rn, cu_all p (show n < n + 1 by omega), cu_all q (show n < n + 1 by omega)]; grind
  by_cases e6 : p = 0
  · left
    obtain ⟨i', rfl⟩ : ∃ i', i = i' + 1 := ⟨i - 1, by omega⟩
    obtain ⟨d', rfl⟩ : ∃ d', d = d' + 1 := ⟨d - 1, by omega⟩
    have : rn 0 n (i' + 1) (d' + 1) = 0 := by unfold rn; rw [cu_at0, cu_at0]; grind
    rw [e6, this]; exact qu.1
  by_cases e7 : r = 1
  · right
    have : rn 1 n i d = 0 := by unfold rn; rw [cu_at1 (by omega), cu_at1 (by omega)]; grind
    rw [e7, this]; exact qu.1
  exact rn_uni0 (by grind) (by grind) (by grind) (by grind) (by omega) hd
end Gc

namespace Gc
open Ch
/- the program's fraction of a rational number is (num, den) -/
theorem rden (r : Rat) : (0 : Int) < (r.den : Int) := by have := r.den_nz; omega
theorem rgcd (r : Rat) : Int.gcd r.num (r.den : Int) = 1 := by
  have := r.reduced
  rw [Int.gcd]; simpa [Nat.Coprime] using this
theorem rdenQ (r : Rat) : (r.den : Rat) ≠ 0 := by
  have := r.den_nz
  intro h; exact this (by exact_mod_cast h)
theorem rsplit (r : Rat) : r * (r.den : Rat) = (r.num : Rat) := by
  have h := Rat.mkRat_self r
  rw [Rat.mkRat_eq_div] at h
  have d := rdenQ r
  generalize (r.num : Rat) = x at *
  generalize (r.den : Rat) = y at *
  grind
theorem fr_rat {t b : Int} (h : b ≠ 0) {r : Rat} (e : r * (b : Rat) = (t : Rat)) : frT t b = r.num ∧ frB t b = (r.den : Int) := by
  refine fr_is h (rden r) (rgcd r) ?_
  have s := rsplit r
  have : ((t * (r.den : Int) : Int) : Rat) = ((r.num * b : Int) : Rat) := by push_cast; rw [← e, ← s]; grind
  exact_mod_cast this
theorem fr_plus (r s : Rat) : frT (r.num * s.den + s.num * r.den) (r.den * s.den) = (r + s).num
    ∧ frB (r.num * s.den + s.num * r.den) (r.den * s.den) = ((r + s).den : Int) := by
  refine fr_rat (mul_ne (rden r) (rden s)) ?_
  have a := rsplit r; have b := rsplit s
  push_cast; rw [← a, ← b]; grind
theorem fr_minus (r s : Rat) : frT (r.num * s.den - s.num * r.den) (r.den * s.den) = (r - s).num
    ∧ frB (r.num * s.den - s.num * r.den) (r.den * s.den) = ((r - s).den : Int) := by
  refine fr_rat (mul_ne (rden r) (rden s)) ?_
  have a := rsplit r; have b := rsplit s
  push_cast; rw [← a, ← b]; grind
theorem fr_times (r s : Rat) : frT (r.num * s.num) (r.den * s.den) = (r * s).num
    ∧ frB (r.num * s.num) (r.den * s.den) = ((r * s).den : Int) := by
  refine fr_rat (mul_ne (rden r) (rden s)) ?_
  have a := rsplit r; have b := rsplit s
  push_cast; rw [← a, ← b]; grind
theorem rnum0 {r : Rat} : r.num = 0 ↔ r = 0 := by
  constructor
  · intro h; have := rsplit r; rw [h] at this; have d := rdenQ r
    by_cases e : r = 0
    · exact e
    · exfalso; have := Rat.mul_eq_zero.mp (by simpa using this); grind
  · intro h; rw [h]; rfl
theorem fr_over (r : Rat) {s : Rat} (h : s ≠ 0) : frT (r.num * s.den) (r.den * s.num) = (r / s).num
    ∧ frB (r.num * s.den) (r.den * s.num) = ((r / s).den : Int) := by
  have sn : s.num ≠ 0 := fun e => h (rnum0.mp e)
  refine fr_rat (Int.mul_ne_zero (Int.ne_of_gt (rden r)) sn) ?_
  have a := rsplit r; have b := rsplit s
  have c : r / s * s = r := by grind
  push_cast; rw [← a, ← b]; grind
theorem castlt {a b : Int} : ((a : Rat) < (b : Rat)) ↔ a < b := Rat.intCast_lt_intCast
theorem r_under (r s : Rat) : r.num * (s.den : Int) < s.num * (r.den : Int) ↔ r < s := by
  have a := rsplit r; have b := rsplit s
  have dr : (0 : Rat) < (r.den : Rat) := by exact_mod_cast (show 0 < r.den by have := r.den_nz; omega)
  have ds : (0 : Rat) < (s.den : Rat) := by exact_mod_cast (show 0 < s.den by have := s.den_nz; omega)
  have p := Rat.mul_pos dr ds
  rw [← castlt]; push_cast; rw [← a, ← b]
  constructor
  · intro h
    have := pos_of p (x := s - r) (by grind); grind
  · intro h
    have := Rat.mul_pos p (show 0 < s - r by grind); grind
theorem r_same {r s : Rat} (h1 : r.num = s.num) (h2 : (r.den : Int) = (s.den : Int)) : r = s := by
  apply Rat.ext h1; exact_mod_cast h2
theorem r_nonneg (r : Rat) : 0 ≤ r.num ↔ 0 ≤ r := Rat.num_nonneg
theorem r_le1 (r : Rat) : r.num ≤ (r.den : Int) ↔ r ≤ 1 := by
  have := r_under 1 r
  have e1 : (1 : Rat).num = 1 := rfl
  have e2 : ((1 : Rat).den : Int) = 1 := rfl
  rw [e1, e2] at this
  constructor
  · intro h
    by_cases c : 1 < r
    · exact absurd (this.mpr c) (by omega)
    · grind
  · intro h
    by_cases c : 1 * (r.den : Int) < r.num * 1
    · have := this.mp c; grind
    · omega
/- a rational number of two whole numbers -/
def rq (t b : Int) : Rat := (t : Rat) / (b : Rat)
theorem rq_back {t b : Int} (h : 0 < b) (g : Int.gcd t b = 1) : (rq t b).num = t ∧ ((rq t b).den : Int) = b := by
  have hq : (b : Rat) ≠ 0 := by intro e; have : b = 0 := by exact_mod_cast e
                                omega
  have e : rq t b * (b : Rat) = (t : Rat) := by unfold rq; grind
  have := fr_rat (Int.ne_of_gt h) e
  have k := fr_is (t := t) (b := b) (Int.ne_of_gt h) h g rfl
  exact ⟨this.1.symm.trans k.1, this.2.symm.trans k.2⟩
/- its bottom divides B -/
def Ov (B : Nat) (r : Rat) : Prop := ∃ m : Int, r * (B : Rat) = (m : Rat)
theorem Ov.dvd {B : Nat} {r : Rat} (h : Ov B r) : r.den ∣ B := by
  obtain ⟨m, hm⟩ := h
  have s := rsplit r
  have : ((r.num * (B : Int) : Int) : Rat) = ((m * (r.den : Int) : Int) : Rat) := by push_cast; rw [← hm, ← s]; grind
  have e : r.num * (B : Int) = m * (r.den : Int) := by exact_mod_cast this
  have d : (r.den : Int) ∣ (B : Int) := dvd_cop (k := (r.den : Int)) (m := r.num) ⟨m, by rw [e]; exact Int.mul_comm _ _⟩ (by rw [Int.gcd_comm]; exact rgcd r)
  exact_mod_cast d
theorem Ov.self (r : Rat) : Ov r.den r := ⟨r.num, rsplit r⟩
theorem Ov.add {B : Nat} {r s : Rat} (h : Ov B r) (k : Ov B s) : Ov B (r + s) := by
  obtain ⟨a, ha⟩ := h; obtain ⟨b, hb⟩ := k
  exact ⟨a + b, by push_cast; rw [← ha, ← hb]; grind⟩
theorem Ov.sub {B : Nat} {r s : Rat} (h : Ov B r) (k : Ov B s) : Ov B (r - s) := by
  obtain ⟨a, ha⟩ := h; obtain ⟨b, hb⟩ := k
  exact ⟨a - b, by push_cast; rw [← ha, ← hb]; grind⟩
theorem Ov.mul {A B : Nat} {r s : Rat} (h : Ov A r) (k : Ov B s) : Ov (A * B) (r * s) := by
  obtain ⟨a, ha⟩ := h; obtain ⟨b, hb⟩ := k
  exact ⟨a * b, by push_cast; rw [← ha, ← hb]; grind⟩
theorem Ov.nat (B m : Nat) : Ov B (m : Rat) := ⟨(m : Int) * (B : Int), by push_cast; rfl⟩
theorem Ov.up {A B : Nat} {r : Rat} (h : Ov A r) (k : A ∣ B) : Ov B r := by
  obtain ⟨c, rfl⟩ := k
  obtain ⟨a, ha⟩ := h
  exact ⟨a * c, by push_cast; rw [← ha]; grind⟩
theorem Ov.pow {B : Nat} {r : Rat} (h : Ov B r) : ∀ n : Nat, Ov (B ^ n) (r ^ n)
  | 0 => ⟨1, by simp⟩
  | n + 1 => by rw [Rat.pow_succ, Nat.pow_succ]; exact (h.pow n).mul h
theorem Ov.one (B : Nat) : Ov B 1 := ⟨(B : Int), by push_cast; grind⟩
theorem wt_ov {p : Rat} {B : Nat} (h : Ov B p) : ∀ n k, Ov (B ^ n) (wt p n k)
  | 0, 0 => by rw [wt]; exact Ov.one _
  | 0, k + 1 => by rw [wt]; exact ⟨0, by simp⟩
  | n + 1, 0 => by rw [wt, Nat.pow_succ, Nat.mul_comm]; exact ((Ov.one B).sub h).mul (wt_ov h n 0)
  | n + 1, k + 1 => by
      rw [wt, Nat.pow_succ, Nat.mul_comm]
      exact (((Ov.one B).sub h).mul (wt_ov h n (k + 1))).add (h.mul (wt_ov h n k))
theorem sm_ov {B : Nat} {f : Nat → Rat} (h : ∀ k, Ov B (f k)) : ∀ m, Ov B (sm f m)
  | 0 => ⟨0, by simp [sm]⟩
  | m + 1 => (sm_ov h m).add (h m)
theorem cu_ov {p : Rat} {B : Nat} (h : Ov B p) (n m : Nat) : Ov (B ^ n) (cu p n m) := sm_ov (wt_ov h n) m
theorem rn_ov {p : Rat} {B : Nat} (h : Ov B p) (n i d : Nat) : Ov (B ^ n) (rn p n i d) := (cu_ov h n d).sub (cu_ov h n i)
/- sizes of a fraction within 0 and 1 -/
structure RSz (n : Nat) (r : Rat) : Prop where
  t : Sz n r.num
  b : Sz n (r.den : Int)
theorem RSz.of {n B : Nat} {r : Rat} (h : Ov B r) (hB : 0 < B) (hn : B < 2 ^ n) (h0 : 0 ≤ r) (h1 : r ≤ 1) : RSz n r := by
  have a := (r_nonneg r).mpr h0
  have b := (r_le1 r).mpr h1
  have c := Nat.le_of_dvd hB h.dvd
  constructor <;> (unfold Sz; omega)
theorem powlt {b m : Nat} (h : b < 2 ^ m) : ∀ {n : Nat}, 0 < n → b ^ n < 2 ^ (m * n)
  | 1, _ => by simpa using h
  | n + 2, _ => by
      have i := powlt (b := b) h (show 0 < n + 1 by omega)
      have e : b ^ (n + 2) = b ^ (n + 1) * b := Nat.pow_succ b (n + 1)
      have e2 : 2 ^ (m * (n + 2)) = 2 ^ (m * (n + 1)) * 2 ^ m := by rw [← Nat.pow_add]; congr 1
      rw [e, e2]
      exact Nat.mul_lt_mul'' i h
end Gc

namespace Gc
open Ch
theorem rmul_pow (a b : Rat) : ∀ n : Nat, (a * b) ^ n = a ^ n * b ^ n
  | 0 => by simp
  | n + 1 => by rw [Rat.pow_succ, Rat.pow_succ, Rat.pow_succ, rmul_pow a b n]; grind
theorem rpow_add (a : Rat) (m : Nat) : ∀ n : Nat, a ^ (m + n) = a ^ m * a ^ n
  | 0 => by simp
  | n + 1 => by rw [← Nat.add_assoc, Rat.pow_succ, Rat.pow_succ, rpow_add a m n]; grind
theorem icast_pow (a : Int) : ∀ n : Nat, ((a ^ n : Int) : Rat) = (a : Rat) ^ n
  | 0 => by simp
  | n + 1 => by rw [Int.pow_succ, Rat.pow_succ, ← icast_pow a n]; push_cast; rfl
/- the top over den ^ n of the weight -/
def wtop (p : Rat) (n k : Nat) : Int := (binom n k : Int) * p.num ^ k * ((p.den : Int) - p.num) ^ (n - k)
theorem wtop_is (p : Rat) {n k : Nat} (h : k ≤ n) : wt p n k * (((p.den : Int) ^ n : Int) : Rat) = ((wtop p n k : Int) : Rat) := by
  obtain ⟨m, rfl⟩ := Nat.exists_eq_add_of_le h
  have s := rsplit p
  have e1 : k + m - k = m := by omega
  rw [wt_form, wtop, e1, icast_pow, rpow_add]
  push_cast
  have a1 : p ^ k * (p.den : Rat) ^ k = (p.num : Rat) ^ k := by rw [← rmul_pow, s]
  have a2 : (1 - p) * (p.den : Rat) = (p.den : Rat) - (p.num : Rat) := by rw [← s]; grind
  have a3 : (1 - p) ^ m * (p.den : Rat) ^ m = ((p.den : Rat) - (p.num : Rat)) ^ m := by rw [← rmul_pow, a2]
  have i1 : ((p.num ^ k : Int) : Rat) = (p.num : Rat) ^ k := icast_pow _ _
  have i2 : ((((p.den : Int) - p.num) ^ m : Int) : Rat) = ((p.den : Rat) - (p.num : Rat)) ^ m := by rw [icast_pow]; push_cast; rfl
  first
  | rw [i1, i2, ← a1, ← a3]
  | rw [← a1, ← a3]
  generalize p ^ k = x
  generalize (1 - p) ^ m = y
  grind
theorem wtop_over (p : Rat) {n k : Nat} (h : n < k) : wtop p n k = 0 := by rw [wtop, blt h]; simp
def ism (f : Nat → Int) : Nat → Int
  | 0 => 0
  | m + 1 => ism f m + f m
theorem ism_cast {f : Nat → Int} {g : Nat → Rat} {c : Rat} : ∀ {m : Nat}, (∀ k, k < m → g k * c = (f k : Rat)) → sm g m * c = ((ism f m : Int) : Rat)
  | 0, _ => by simp only [sm, ism]; push_cast; grind
  | m + 1, h => by
      have i := ism_cast (m := m) fun k hk => h k (by omega)
      have j := h m (by omega)
      simp only [sm, ism]; push_cast; grind
theorem wtop_all (p : Rat) (n : Nat) : ism (wtop p n) (n + 1) = (p.den : Int) ^ n := by
  have e := ism_cast (f := wtop p n) (g := wt p n) (c := (((p.den : Int) ^ n : Int) : Rat)) (m := n + 1) fun k hk => wtop_is p (by omega)
  have a : sm (wt p n) (n + 1) = 1 := cu_all p (show n < n + 1 by omega)
  rw [a] at e
  have : (((p.den : Int) ^ n : Int) : Rat) = ((ism (wtop p n) (n + 1) : Int) : Rat) := by rw [← e]; grind
  exact (by exact_mod_cast this : (p.den : Int) ^ n = ism (wtop p n) (n + 1)).symm
theorem cross {r : Rat} {t b : Int} (e : r * (b : Rat) = (t : Rat)) : r.num * b = t * (r.den : Int) := by
  have s := rsplit r
  have : ((r.num * b : Int) : Rat) = ((t * (r.den : Int) : Int) : Rat) := by push_cast; rw [← e, ← s]; grind
  exact_mod_cast this
/- sizes -/
theorem Sz.powN {m : Nat} {b : Int} (h : Sz m b) : ∀ i : Nat, Sz (m * i + 1) (b ^ i)
  | 0 => by rw [Int.pow_zero, Nat.mul_zero]; show (1 : Int).natAbs < 2 ^ 1; decide
  | i + 1 => by
      rw [Int.pow_succ]
      exact ((Sz.powN h i).mul h).mono (by rw [Nat.mul_succ]; omega)
theorem binom_le : ∀ n k : Nat, binom n k ≤ 2 ^ n
  | 0, 0 => by decide
  | 0, k + 1 => by simp [binom]
  | n + 1, 0 => by rw [b0]; exact Nat.one_le_two_pow
  | n + 1, k + 1 => by
      have a := binom_le n k
      have b := binom_le n (k + 1)
      rw [bs, Nat.pow_succ]; omega
theorem sz_binom (n k : Nat) : Sz (n + 1) (binom n k : Int) := by
  unfold Sz
  have := binom_le n k
  rw [Nat.pow_succ]
  have : 0 < 2 ^ n := Nat.two_pow_pos n
  omega
theorem sz_sub {m : Nat} {a b : Int} (h0 : 0 ≤ a) (h1 : a ≤ b) (sb : Sz m b) : Sz m (b - a) := by unfold Sz at *; omega
theorem sz_le {m : Nat} {a b : Int} (h0 : 0 ≤ a) (h1 : a ≤ b) (sb : Sz m b) : Sz m a := by unfold Sz at *; omega
end Gc

-- CLASSES StretchError NoNumber
-- RAISED NoNumber
-- RAISES fraction
set_option maxHeartbeats 4000000
namespace K6
open PySem L2 Gc Ch
seal wpAny
def top (i : Nat) : Stmt := PySem.Challenge.pw_surestretch_k06_weights.main.body.getD i (.Pass ⟨0, 0, 0, 0⟩)
abbrev s_cho : Stmt := top 1
abbrev s_whole : Stmt := top 6
abbrev s_cd : Stmt := top 7
abbrev s_frac : Stmt := top 8
abbrev s_pow : Stmt := top 10
abbrev s_wtop : Stmt := top 11
abbrev s_wgt : Stmt := top 12
abbrev s_cell : Stmt := top 14
abbrev s_div : Stmt := top 15
abbrev s_shr : Stmt := top 16
abbrev s_row : Stmt := top 17
abbrev s_right : Stmt := top 18
abbrev s_all : Stmt := top 19
abbrev s_law : Stmt := top 20
structure Txt (mg : Str → Option Value) : Prop where
  range : mg "range" = none
  min : mg "min" = none
  len : mg "len" = none
  isinstance : mg "isinstance" = none
  int : mg "int" = none
  bool : mg "bool" = none
  tuple : mg "tuple" = none
  abs : mg "abs" = none
  zip : mg "zip" = none
structure CA where
  StretchError : Addr
  NoNumber : Addr
structure CF (K : PySem.W.Frag) (mg : Str → Option Value) (C : CA) : Prop where
  mStretchError : mg "StretchError" = some (.ref C.StretchError)
  mNoNumber : mg "NoNumber" = some (.ref C.NoNumber)
  xNoNumber : XCls K mg "NoNumber" C.NoNumber
  iNoNumber : XInst K C.NoNumber
theorem passN {P : Program} {w : World} {X : Cx} : Passes (CXX P w) X E0 := fun _ _ _ _ _ _ _ h => (cxx_never h).elim
def isW (t : Th) : Bool := isIntT t && !isBoolT t
theorem isW_shape {t : Th} (h : isW t = true) : ∃ i, t = .int i := by
  cases t <;> first | exact ⟨_, rfl⟩ | (simp [isW, isIntT, isBoolT] at h)
theorem at0 {x : V} {xs : List V} : atI (x :: xs) 0 = some x := atI_nat (xs := x :: xs) (j := 0) rfl
theorem at1 {x y : V} {xs : List V} : atI (x :: y :: xs) 1 = some y := atI_nat (xs := x :: y :: xs) (j := 1) rfl
theorem den_pair {H : Hp} {a b : Int} {v : V} (d : Den H (.tup [.int a, .int b]) v) : ∃ p, v = .ref p ∧ H p = some (.tup [.int a, .int b]) := by
  obtain ⟨p, xs, rfl, h, y, ys, e1, e2, z, zs, e3, e4, e5⟩ := d
  have e2' : y = V.int a := e2
  have e4' : z = V.int b := e4
  have e5' : zs = [] := e5
  subst e5' e4' e3 e2' e1
  exact ⟨p, rfl, h⟩
theorem getD_mem {α : Type} {l : List α} {i : Nat} {d : α} (h : i < l.length) : l.getD i d ∈ l := by rw [getD_in h]; exact List.getElem_mem h
theorem lt_of {c m : Int} (h : 0 < m) {n : Nat} (e : m = n) : (c % m).toNat < n := by
  have h1 := md0 c h
  have h2 := md1 c h
  omega
theorem den_p {H : Hp} {p : Addr} {a b : Int} (h : H p = some (.tup [.int a, .int b])) : Den H (.tup [.int a, .int b]) (.ref p) := ⟨p, _, rfl, h, _, _, rfl, rfl, _, _, rfl, rfl, rfl⟩
theorem den2 {H : Hp} {p : Addr} {x y : V} {a b : Th} (h : H p = some (.tup [x, y])) (d1 : Den H a x) (d2 : Den H b y) : Den H (.tup [a, b]) (.ref p) := ⟨p, _, rfl, h, _, _, rfl, d1, _, _, rfl, d2, rfl⟩
theorem bg_getD {ns : List Int} (h : ∀ i ∈ ns, Bg i) (k : Nat) : Bg (ns.getD k 0) := by
  by_cases hk : k < ns.length
  · exact h _ (getD_mem hk)
  · rw [getD_out (by omega)]; exact Bg.zero
theorem _root_.Gc.Sz.smk {n : Nat} {i : Int} (h : Sz n i) (hn : n ≤ 8900) : Smk i := h.mono hn
section
variable {P : Program} {w : World} {K : PySem.W.Frag} {mg : Str → Option Value} {base : Heap}
def spCho : Sp := fun vs H Q _ => ∃ n k : Int, vs = [.int n, .int k] ∧ n ≤ 100 ∧ Q (.int (cho n k)) H
theorem sc_cho : FnScope ["n", "k", "ways", "taken"] ["n", "k"] (defScope s_cho) := ⟨rfl, rfl, rfl, by decide +kernel, rfl, by decide +kernel, by decide +kernel⟩
theorem ok_cho {f : Addr} {fd : FuncData} (F : Fun K "choices" "choices" s_cho f fd) (T : Txt mg) : FnOk P w K mg base CX0 1 f fd ["n", "k"] spCho := by
  refine F.ok sc_cho (fun vs H Q E h => ?_) (fun cdv A outer s H vs Q E hr h => ?_)
  · obtain ⟨n, k, rfl, _⟩ := h
    rfl
  obtain ⟨n, k, rfl, hn, q⟩ := h
  refine ⟨_, (pss_cons (ps_if (PW.pt (pw_or (pt_cmpR op_lt (pv 1) pe_int (nomark _)) (pw_or1 (pt_cmpR op_gt (pv 1) (pv 0) (nomark _))))) (pss_one (ps_ret pe_int)) pss_nil)
    (pss_cons (ps_set (i := 2) sc_cho.nd rfl (Or.inl rfl) pe_int)
    (pss_cons (ps_for PassesOwn.never rfl (pi_range1 rfl T.range (pa_cons (pe_callB (call_min2 rfl) rfl T.min boot_min (pa_cons (pv 1) (pa_cons (pe_op op_sub (pv 0) (pv 1)) pa_nil))) pa_nil)) (pg_name (i := 3) sc_cho.nd rfl (Or.inl rfl)) (pss_one (ps_set (i := 2) sc_cho.nd rfl (Or.inl rfl) (pe_op op_fdiv (pe_op op_mul (pv 2) (pe_op op_sub (pv 0) (pv 3))) (pe_op op_add (pv 3) pe_int)))))
    (pss_one (ps_ret (pv 2)))))), ?_⟩
  refine ⟨_, rfl, _, _, rfl, rfl, _, rfl, ?_⟩
  refine ite2 (fun c => ?_) (fun c => ?_)
  · have c' : k < 0 := of_decide_eq_true c
    refine iteT ?_
    show Q (.int 0) H
    rw [cho_out (.inl c')] at q
    exact q
  have c' : ¬ k < 0 := ofD c
  refine ⟨_, rfl, _, rfl, _, _, rfl, rfl, _, rfl, ?_⟩
  refine ite2 (fun d => ?_) (fun d => ?_)
  · have d' : n < k := of_decide_eq_true d
    show Q (.int 0) H
    rw [cho_out (.inr d')] at q
    exact q
  have d' : ¬ n < k := ofD d
  refine ⟨_, rfl, _, rfl, _, rfl, _, _, rfl, rfl, _, _, rfl, ?_⟩
  refine ⟨_, rfl, ?_, ?_, ?_⟩
  · split <;> omega
  · split <;> omega
  refine for_range (lo := 0) (fun i σ H' => H' = H ∧ ∃ v, σ = [some (.int n), some (.int k), some (.int (binom n.toNat i : Int)), v]) ⟨rfl, none, ?_⟩ ?_ ?_
  · rw [b0] <;> rfl
  · rintro i σ H' hi ⟨rfl, v, rfl⟩
    have hi2 : (i : Int) < n := by
      by_cases z : n - k < k
      · rw [if_pos z] at hi; omega
      · rw [if_neg z] at hi; omega
    have e : (binom n.toNat i : Int) * (n - (0 + (i : Int))) / (0 + (i : Int) + 1) = (binom n.toNat (i + 1) : Int) := by
      rw [Int.zero_add]; exact cho_turn hi2
    refine ⟨_, rfl, _, rfl, _, rfl, _, _, rfl, rfl, _, _, rfl, rfl, .inr ⟨?_, ?_⟩, _, rfl, _, _, rfl, rfl, _, _, rfl, rfl, ⟨?_, ?_⟩, rfl, some (.int (0 + (i : Int))), ?_⟩
    · omega
    · omega
    · omega
    · omega
    rw [← e] <;> rfl
  · rintro σ H' ⟨rfl, v, rfl⟩
    refine ⟨_, rfl, ?_⟩
    rw [← cho_min (by omega) (by omega)] at q
    exact q
def spWhole : Sp := fun vs H Q _ => ∃ x t, vs = [x] ∧ Den H t x ∧ Q (.bl (isW t)) H
theorem sc_whole : FnScope ["thing"] ["thing"] (defScope s_whole) := ⟨rfl, rfl, rfl, by decide +kernel, rfl, by decide +kernel, by decide +kernel⟩
theorem ok_whole {f : Addr} {fd : FuncData} (F : Fun K "is_whole" "is_whole" s_whole f fd) (T : Txt mg) : FnOk P w K mg base CX0 1 f fd ["thing"] spWhole := by
  refine F.ok sc_whole (fun vs H Q E h => ?_) (fun cdv A outer s H vs Q E hr h => ?_)
  · obtain ⟨x, t, rfl, _⟩ := h
    rfl
  obtain ⟨x, t, rfl, d, q⟩ := h
  refine ⟨_, (pss_one (ps_ret (pe_and (pe_callB call_isinstD rfl T.isinstance boot_isinstance (pa_cons (pv 0) (pa_cons (pe_bltn (v := .ty "int") rfl T.int boot_int rfl) pa_nil))) (pe_one (pe_not (pe_callB call_isinstD rfl T.isinstance boot_isinstance (pa_cons (pv 0) (pa_cons (pe_bltn (v := .ty "bool") rfl T.bool boot_bool rfl) pa_nil)))))))), ?_⟩
  refine ⟨_, rfl, x, t, _, _, rfl, d, kit_int t, _, rfl, ?_⟩
  cases hi : isIntT t with
  | false =>
    unfold isW at q
    rw [hi, Bool.false_and] at q
    exact iteF q
  | true =>
    unfold isW at q
    rw [hi, Bool.true_and] at q
    exact iteT ⟨_, rfl, x, t, _, _, rfl, d, kit_bool t, _, rfl, q⟩
def spCd : Sp := fun vs H Q _ => ∃ a b : Int, vs = [.int a, .int b] ∧ 0 ≤ a ∧ 0 ≤ b ∧ Q (.int (Int.gcd a b)) H
def mu2 (σ : St) : Nat := match σ with
  | _ :: some (.int y) :: _ => y.toNat
  | _ => 0
theorem sc_cd : FnScope ["one", "other", "rest"] ["one", "other"] (defScope s_cd) := ⟨rfl, rfl, rfl, by decide +kernel, rfl, by decide +kernel, by decide +kernel⟩
theorem ok_cd {f : Addr} {fd : FuncData} (F : Fun K "common_divisor" "common_divisor" s_cd f fd) (T : Txt mg) : FnOk P w K mg base CX0 1 f fd ["one", "other"] spCd := by
  refine F.ok sc_cd (fun vs H Q E h => ?_) (fun cdv A outer s H vs Q E hr h => ?_)
  · obtain ⟨a, b, rfl, _⟩ := h
    rfl
  obtain ⟨a, b, rfl, ha, hb, q⟩ := h
  refine ⟨_, (pss_cons (ps_while PassesOwn.never (pt_cmpR op_ne (pv 1) pe_int (nomark _)) (pss_cons (ps_set (i := 2) sc_cd.nd rfl (Or.inl rfl) (pe_op op_mod (pv 0) (pv 1)))
      (pss_cons (ps_set (i := 0) sc_cd.nd rfl (Or.inl rfl) (pv 1))
      (pss_one (ps_set (i := 1) sc_cd.nd rfl (Or.inl rfl) (pv 2))))))
    (pss_one (ps_ret (pv 0)))), ?_⟩
  refine while_by (fun σ H' => H' = H ∧ ∃ x y v, σ = [some (.int x), some (.int y), v] ∧ 0 ≤ x ∧ 0 ≤ y ∧ Int.gcd x y = Int.gcd a b) (fun σ _ => mu2 σ) ⟨rfl, a, b, none, rfl, ha, hb, rfl⟩ ?_ ?_
  · rintro σ H' ⟨rfl, x, y, v, rfl, hx, hy, g⟩
    refine ⟨_, rfl, rfl, _, rfl, ?_⟩
    refine ite2 (fun c => ?_) (fun c => ?_)
    · have c' : y ≠ 0 := by rintro rfl; exact absurd c (by decide)
      have hm := Int.emod_nonneg x c'
      have hl := Int.emod_lt_of_pos x (show 0 < y by omega)
      refine ⟨_, rfl, _, rfl, _, _, rfl, rfl, (by show 0 < y; omega), _, rfl, _, rfl, ?_⟩
      refine ⟨⟨rfl, y, x % y, some (.int (x % y)), rfl, hy, hm, by rw [gstep hx hy c']; exact g⟩, ?_⟩
      show (x % y).toNat < y.toNat
      omega
    · have c' : y = 0 := by
        by_cases z : y = 0
        · exact z
        · exact absurd (show (!decide (V.int y = V.int 0)) = true by rw [decide_eq_false (fun w => z (by injection w))]; rfl) c
      subst c'
      refine ⟨_, rfl, ?_⟩
      rw [← g, gend hx] at q
      exact q
  · intro σ H Q Q' hq h
    obtain ⟨v, e, h1, k, e2, h2⟩ := h
    exact ⟨v, e, h1, k, e2, hq _ _ h2⟩
def spDivn : Sp := fun vs H Q _ => ∃ a b : Int, vs = [.int a, .int b] ∧ 0 ≤ a ∧ 0 ≤ b ∧ Q (.int (Int.gcd a b)) H
theorem sc_div : FnScope ["_law_one", "_law_other"] ["_law_one", "_law_other"] (defScope s_div) := ⟨rfl, rfl, rfl, by decide +kernel, rfl, by decide +kernel, by decide +kernel⟩
theorem ok_div {f : Addr} {fd : FuncData} (F : Fun K "_law_divides" "_law_divides" s_div f fd) (T : Txt mg) : FnOk P w K mg base CX0 1 f fd ["_law_one", "_law_other"] spDivn := by
  refine F.ok sc_div (fun vs H Q E h => ?_) (fun cdv A outer s H vs Q E hr h => ?_)
  · obtain ⟨a, b, rfl, _⟩ := h
    rfl
  obtain ⟨a, b, rfl, ha, hb, q⟩ := h
  refine ⟨_, (pss_cons (ps_while PassesOwn.never (pt_cmpR op_ne (pv 1) pe_int (nomark _)) (pss_one (ps_par (i := 0) (j := 1) rfl sc_div.nd rfl rfl (by decide) rfl rfl (pa_cons (pv 1) (pa_cons (pe_op op_mod (pv 0) (pv 1)) pa_nil)) rfl)))
    (pss_one (ps_ret (pv 0)))), ?_⟩
  refine while_by (fun σ H' => H' = H ∧ ∃ x y, σ = [some (.int x), some (.int y)] ∧ 0 ≤ x ∧ 0 ≤ y ∧ Int.gcd x y = Int.gcd a b) (fun σ _ => mu2 σ) ⟨rfl, _, _, rfl, ha, hb, rfl⟩ ?_ ?_
  · rintro σ H' ⟨rfl, x, y, rfl, hx, hy, g⟩
    refine ⟨_, rfl, rfl, _, rfl, ?_⟩
    refine ite2 (fun c => ?_) (fun c => ?_)
    · have c' : y ≠ 0 := by rintro rfl; exact absurd c (by decide)
      have hm := Int.emod_nonneg x c'
      have hl := Int.emod_lt_of_pos x (show 0 < y by omega)
      refine ⟨_, rfl, _, rfl, _, rfl, _, _, rfl, rfl, (by show 0 < y; omega), _, _, rfl, ?_⟩
      refine ⟨⟨rfl, y, x % y, rfl, hy, hm, by rw [gstep hx hy c']; exact g⟩, ?_⟩
      show (x % y).toNat < y.toNat
      omega
    · have c' : y = 0 := by
        by_cases z : y = 0
        · exact z
        · exact absurd (show (!decide (V.int y = V.int 0)) = true by rw [decide_eq_false (fun w => z (by injection w))]; rfl) c
      subst c'
      refine ⟨_, rfl, ?_⟩
      rw [← g, gend hx] at q
      exact q
  · intro σ H Q Q' hq h
    obtain ⟨v, e, h1, k, e2, h2⟩ := h
    exact ⟨v, e, h1, k, e2, hq _ _ h2⟩
def spCell (K : PySem.W.Frag) : Sp := fun vs H Q _ => ∃ (a : Addr) (ns : List Int) (k : Int), vs = [.ref a, .int k] ∧ SqL K H a (ns.map V.int) ∧ 0 ≤ k ∧ Q (.int (ns.getD k.toNat 0)) H
theorem sc_cell : FnScope ["_law_script", "_law_k"] ["_law_script", "_law_k"] (defScope s_cell) := ⟨rfl, rfl, rfl, by decide +kernel, rfl, by decide +kernel, by decide +kernel⟩
theorem ok_cell {f : Addr} {fd : FuncData} (F : Fun K "_law_cell_at" "_law_cell_at" s_cell f fd) (T : Txt mg) : FnOk P w K mg base CX0 1 f fd ["_law_script", "_law_k"] (spCell K) := by
  refine F.ok sc_cell (fun vs H Q E h => ?_) (fun cdv A outer s H vs Q E hr h => ?_)
  · obtain ⟨a, ns, k, rfl, _⟩ := h
    rfl
  obtain ⟨a, ns, k, rfl, hS, h0, q⟩ := h
  refine ⟨_, (pss_cons (ps_if (pt_cmpR op_lt (pv 1) (pe_callB call_len_seq rfl T.len boot_len (pa_cons (pv 0) pa_nil)) (nomark _)) (pss_one (ps_ret (pe_ix ix_list (pv 0) (pv 1) (fun _ _ => rfl)))) pss_nil)
    (pss_one (ps_ret pe_int))), ?_⟩
  have hl : (ns.map V.int).length = ns.length := List.length_map _
  refine ⟨_, rfl, _, rfl, a, _, rfl, .inl hS, _, _, rfl, rfl, _, rfl, ?_⟩
  refine ite2 (fun c => ?_) (fun c => ?_)
  · have c' : k < (((ns.map V.int).length : Nat) : Int) := of_decide_eq_true c
    rw [hl] at c'
    exact ⟨_, rfl, _, rfl, a, _, k, _, rfl, rfl, hS, at_getD h0 c', q⟩
  · have c' := ofD c
    rw [hl] at c'
    rw [getD_out (by omega)] at q
    exact q
def frOk : Th → Th → Option (Int × Int)
  | .int a, .int b => if b = 0 then none else some (a, b)
  | _, _ => none
theorem frOk_shape {tx ty : Th} {a b : Int} (h : frOk tx ty = some (a, b)) : tx = .int a ∧ ty = .int b ∧ b ≠ 0 := by
  unfold frOk at h
  split at h
  · split at h
    · cases h
    · rename_i hz; cases h; exact ⟨rfl, rfl, hz⟩
  · cases h
theorem frOk_no1 {tx ty : Th} (h : isW tx = false) : frOk tx ty = none := by
  cases tx <;> first | rfl | cases h
theorem frOk_no2 {tx ty : Th} (h : isW ty = false) : frOk tx ty = none := by
  cases tx <;> cases ty <;> first | rfl | cases h
theorem frOk_yes {a b : Int} (h : b ≠ 0) : frOk (.int a) (.int b) = some (a, b) := if_neg h
def spFrac (C : CA) : Sp := fun vs H Q E => ∃ x y tx ty, vs = [x, y] ∧ Den H tx x ∧ Den H ty y ∧
  (∀ a b, frOk tx ty = some (a, b) → Smk b ∧ ∀ p, H p = none → Q (.ref p) (upd H p (.tup [.int (frT a b), .int (frB a b)]))) ∧ (frOk tx ty = none → E (.ref C.NoNumber) none H)
theorem smk_frD {a b : Int} (h : b ≠ 0) (sb : Smk b) : Smk (frD a b) := by
  have h1 : (frD a b).natAbs = Int.gcd a b := by unfold frD; split <;> omega
  have h2 : Int.gcd a b ≤ b.natAbs := Nat.le_of_dvd (by omega) (Nat.gcd_dvd_right ..)
  exact Nat.lt_of_le_of_lt (by rw [h1]; exact h2) sb
theorem gcd_abs (a b : Int) : (Int.gcd (if a < 0 then -a else a) (if b < 0 then -b else b) : Int) = Int.gcd a b := by rw [gabs]
theorem sc_frac : FnScope ["top", "bottom", "divisor"] ["top", "bottom"] (defScope s_frac) := ⟨rfl, rfl, rfl, by decide +kernel, rfl, by decide +kernel, by decide +kernel⟩
theorem ok_frac {C : CA} {f : Addr} {fd : FuncData} (F : Fun K "fraction" "fraction" s_frac f fd) (T : Txt mg) (cf : CF K mg C) {fwhole : Addr} {dwhole : FuncData} (Gwhole : FnOk P w K mg base CX0 2 fwhole dwhole ["thing"] spWhole) (bwhole : Binds K dwhole ["thing"] []) (kwhole : PySem.W.keepIn K (.ref fwhole) = true) (mwhole : mg "is_whole" = some (.ref fwhole)) {fcd : Addr} {dcd : FuncData} (Gcd : FnOk P w K mg base CX0 2 fcd dcd ["one", "other"] spCd) (bcd : Binds K dcd ["one", "other"] []) (kcd : PySem.W.keepIn K (.ref fcd) = true) (mcd : mg "common_divisor" = some (.ref fcd)) : FnOk P w K mg base (CXX P w) 3 f fd ["top", "bottom"] (spFrac C) := by
  refine F.okX sc_frac (fun vs H Q E h => ?_) (fun cdv A outer s H vs Q E hr h => ?_)
  · obtain ⟨x, y, tx, ty, rfl, _⟩ := h
    rfl
  obtain ⟨x, y, tx, ty, rfl, d1, d2, q1, q2⟩ := h
  refine ⟨_, (pss_cons (ps_if (PW.pt (pw_or (pt_not (pt_val (pe_call Gwhole hr rfl mwhole kwhole bwhole .nil pass0 (pa_cons (pv 0) pa_nil)))) (pw_or1 (pt_not (pt_val (pe_call Gwhole hr rfl mwhole kwhole bwhole .nil pass0 (pa_cons (pv 1) pa_nil))))))) (pss_one (ps_raise reachOf rfl cf.xNoNumber rfl (pa_cons pe_str pa_nil))) pss_nil)
    (pss_cons (ps_if (pt_cmpR op_eq (pv 1) pe_int (nomark _)) (pss_one (ps_raise reachOf rfl cf.xNoNumber rfl (pa_cons pe_str pa_nil))) pss_nil)
    (pss_cons (ps_set (i := 2) sc_frac.nd rfl (Or.inl rfl) (pe_call Gcd hr rfl mcd kcd bcd .nil pass0 (pa_cons (pe_callB call_abs rfl T.abs boot_abs (pa_cons (pv 0) pa_nil)) (pa_cons (pe_callB call_abs rfl T.abs boot_abs (pa_cons (pv 1) pa_nil)) pa_nil))))
    (pss_cons (ps_if (pt_cmpR op_lt (pv 1) pe_int (nomark _)) (pss_one (ps_set (i := 2) sc_frac.nd rfl (Or.inl rfl) (pe_un un_neg (pv 2)))) pss_nil)
    (pss_one (ps_ret (pe_tup (pa_cons (pe_op op_fdivK (pv 0) (pv 2)) (pa_cons (pe_op op_fdivK (pv 1) (pv 2)) pa_nil))))))))), ?_⟩
  refine ⟨_, rfl, x, tx, rfl, d1, _, rfl, ?_⟩
  cases hx : isW tx with
  | false => exact iteT (iteT ⟨(by show 1 ≤ sizeLine; decide), q2 (frOk_no1 hx)⟩)
  | true =>
    refine iteF ?_
    refine ⟨_, rfl, y, ty, rfl, d2, _, rfl, ?_⟩
    cases hy : isW ty with
    | false => exact iteT ⟨(by show 1 ≤ sizeLine; decide), q2 (frOk_no2 hy)⟩
    | true =>
      refine iteF ?_
      obtain ⟨a, rfl⟩ := isW_shape hx
      obtain ⟨b, rfl⟩ := isW_shape hy
      have d1' : x = V.int a := d1
      have d2' : y = V.int b := d2
      subst d1' d2'
      refine ⟨_, rfl, rfl, _, rfl, ?_⟩
      by_cases hb : b = 0
      · subst hb
        exact iteT ⟨(by show 1 ≤ sizeLine; decide), q2 rfl⟩
      refine ite2 (fun c => absurd (by have := of_decide_eq_true c; injection this) hb) (fun _ => ?_)
      obtain ⟨sb, q⟩ := q1 a b (frOk_yes hb)
      have sd := smk_frD (a := a) hb sb
      have nd := frD_ne (t := a) hb
      have ha : 0 ≤ (if a < 0 then -a else a) := by split <;> omega
      have hb' : 0 ≤ (if b < 0 then -b else b) := by split <;> omega
      refine ⟨_, rfl, _, rfl, _, rfl, _, rfl, _, _, rfl, ha, hb', ?_⟩
      rw [gcd_abs]
      refine ⟨_, rfl, _, _, rfl, rfl, _, rfl, ?_⟩
      refine ite2 (fun c => ?_) (fun c => ?_)
      · have c' : b < 0 := of_decide_eq_true c
        have e : frD a b = -(Int.gcd a b : Int) := if_pos c'
        rw [e] at sd nd
        refine ⟨_, rfl, _, rfl, ?_⟩
        refine ⟨_, rfl, _, rfl, _, _, rfl, rfl, ⟨nd, sd⟩, _, rfl, _, rfl, _, _, rfl, rfl, ⟨nd, sd⟩, (by show 2 ≤ sizeLine; decide), fun p hp => ?_⟩
        have z := q p hp
        unfold frT frB at z
        rw [e] at z
        exact z
      · have c' : ¬ b < 0 := ofD c
        have e : frD a b = (Int.gcd a b : Int) := if_neg c'
        rw [e] at sd nd
        refine ⟨_, rfl, _, rfl, _, _, rfl, rfl, ⟨nd, sd⟩, _, rfl, _, rfl, _, _, rfl, rfl, ⟨nd, sd⟩, (by show 2 ≤ sizeLine; decide), fun p hp => ?_⟩
        have z := q p hp
        unfold frT frB at z
        rw [e] at z
        exact z
/- a share at a -/
structure Shp (H : Hp) (a : Addr) (p : Rat) : Prop where
  ob : H a = some (.tup [.int p.num, .int (p.den : Int)])
  lo : 0 ≤ p
  hi : p ≤ 1
  sz : Sz 200 (p.den : Int)
theorem Shp.keep {H H' : Hp} {a : Addr} {p : Rat} (h : Shp H a p) (s : Same H H') : Shp H' a p := ⟨s _ _ h.ob, h.lo, h.hi, h.sz⟩
def Share (H : Hp) (Q : VK) : Prop := ∀ a H' p, Same H H' → Shp H' a p → Q (.ref a) H'
theorem shp_of {H : Hp} {a : Addr} {t b : Int} (h0 : 0 ≤ t) (h1 : t ≤ b) (hb : 0 < b) (sb : Sz 200 b) (e : H a = some (.tup [.int (t.fdiv (Int.gcd t b : Int)), .int (b.fdiv (Int.gcd t b : Int))])) : Shp H a (rq t b) := by
  have hq : (b : Rat) ≠ 0 := by intro e; have : b = 0 := by exact_mod_cast e
                                omega
  have er : rq t b * (b : Rat) = (t : Rat) := by unfold rq; grind
  obtain ⟨f1, f2⟩ := fr_rat (Int.ne_of_gt hb) er
  have sz := (Sz.fr (Int.ne_of_gt hb) (sz_le h0 h1 sb) sb).2
  unfold frT at f1
  unfold frB at f2 sz
  rw [frD_pos hb] at f1 f2 sz
  have s := rsplit (rq t b)
  have bp : (0 : Rat) < (b : Rat) := by exact_mod_cast hb
  refine ⟨by rw [e, f1, f2], ?_, ?_, by rw [← f2]; exact sz⟩
  · refine nonneg_of bp ?_
    have : (0 : Rat) ≤ (t : Rat) := by exact_mod_cast h0
    grind
  · have : (t : Rat) ≤ (b : Rat) := by exact_mod_cast h1
    have := nonneg_of bp (x := 1 - rq t b) (by grind)
    grind
abbrev botL (c : Int) : List Int := [1, 2, 2 + c % 11, 60, 1 + c % 10 ^ (6 : Int).toNat, 1 + c ^ (5 : Int).toNat % 10 ^ (59 : Int).toNat]
def botI (c : Int) : Int := (botL c).getD (c / 3 % 6).toNat 0
abbrev topL (c : Int) : List Int := [c / 17 % (botI c + 1), c ^ (7 : Int).toNat % (botI c + 1)]
def topI (c : Int) : Int := (topL c).getD (c / 5 % 2).toNat 0
theorem ten6 : (0 : Int) < 10 ^ (6 : Int).toNat := by decide +kernel
theorem ten59 : (0 : Int) < 10 ^ (59 : Int).toNat := by decide +kernel
theorem e6 : (10 : Int) ^ (6 : Int).toNat = 1000000 := by decide +kernel
theorem e59 : (10 : Int) ^ (59 : Int).toNat = 100000000000000000000000000000000000000000000000000000000000 := by decide +kernel
theorem botI_in (c : Int) : 1 ≤ botI c ∧ botI c ≤ 100000000000000000000000000000000000000000000000000000000000 := by
  have hm : botI c ∈ botL c := getD_mem (lt_of (by decide) rfl)
  have g1 := md0 c (show (0 : Int) < 11 by decide)
  have g2 := md0 c ten6
  have g3 := md0 (c ^ (5 : Int).toNat) ten59
  have f1 := md1 c (show (0 : Int) < 11 by decide)
  have f2 := md1 c ten6
  have f3 := md1 (c ^ (5 : Int).toNat) ten59
  generalize botI c = b at *
  simp only [List.mem_cons, List.not_mem_nil, or_false] at hm
  generalize c ^ (5 : Int).toNat % 10 ^ (59 : Int).toNat = z at *
  generalize c % 10 ^ (6 : Int).toNat = y at *
  rw [e59] at f3
  rw [e6] at f2
  rcases hm with e | e | e | e | e | e <;> omega
theorem topI_in (c : Int) : 0 ≤ topI c ∧ topI c ≤ botI c := by
  have hm : topI c ∈ topL c := getD_mem (lt_of (by decide) rfl)
  obtain ⟨b1, b2⟩ := botI_in c
  have g2 := md0 (c / 17) (show (0 : Int) < botI c + 1 by omega)
  have f2 := md1 (c / 17) (show (0 : Int) < botI c + 1 by omega)
  have g3 := md0 (c ^ (7 : Int).toNat) (show (0 : Int) < botI c + 1 by omega)
  have f3 := md1 (c ^ (7 : Int).toNat) (show (0 : Int) < botI c + 1 by omega)
  generalize topI c = t at *
  simp only [List.mem_cons, List.not_mem_nil, or_false] at hm
  generalize c ^ (7 : Int).toNat % (botI c + 1) = z at *
  generalize c / 17 % (botI c + 1) = y at *
  rcases hm with e | e <;> omega
theorem lt200 : (1000000000000000000000000000000000000000000000000000000000000 : Nat) < 2 ^ 200 := by decide +kernel
theorem sz_of {i : Int} (h : i.natAbs ≤ 1000000000000000000000000000000000000000000000000000000000000) : Sz 200 i := Nat.lt_of_le_of_lt h lt200
theorem by_ready {t b : Int} (hb : 0 < b) (sb : Sz 200 b) : (Int.gcd t b : Int) ≠ 0 ∧ Smk (Int.gcd t b : Int) := by
  have e := frD_pos (a := t) hb
  have h1 := frD_ne (t := t) (b := b) (by omega)
  have h2 := smk_frD (a := t) (b := b) (by omega) (sb.smk (by decide))
  rw [e] at h1 h2
  exact ⟨h1, h2⟩
def spShr : Sp := fun vs H Q _ => ∃ c : Int, vs = [.int c] ∧ Bg c ∧ Share H Q
theorem sc_shr : FnScope ["_law_cell", "_law_bottom", "_law_top", "_law_by"] ["_law_cell"] (defScope s_shr) := ⟨rfl, rfl, rfl, by decide +kernel, rfl, by decide +kernel, by decide +kernel⟩
theorem ok_shr {f : Addr} {fd : FuncData} (F : Fun K "_law_share" "_law_share" s_shr f fd) (T : Txt mg) {fdiv : Addr} {ddiv : FuncData} (Gdiv : FnOk P w K mg base CX0 1 fdiv ddiv ["_law_one", "_law_other"] spDivn) (bdiv : Binds K ddiv ["_law_one", "_law_other"] []) (kdiv : PySem.W.keepIn K (.ref fdiv) = true) (mdiv : mg "_law_divides" = some (.ref fdiv)) : FnOk P w K mg base CX0 2 f fd ["_law_cell"] spShr := by
  refine F.ok sc_shr (fun vs H Q E h => ?_) (fun cdv A outer s H vs Q E hr h => ?_)
  · obtain ⟨c, rfl, _⟩ := h
    rfl
  obtain ⟨c, rfl, bg, q⟩ := h
  refine ⟨_, (pss_cons (ps_set (i := 1) sc_shr.nd rfl (Or.inl rfl) (pe_ix ix_list (pe_lst (pa_cons pe_int (pa_cons pe_int (pa_cons (pe_op op_add pe_int (pe_op op_mod (pv 0) pe_int)) (pa_cons pe_int (pa_cons (pe_op op_add pe_int (pe_op op_mod (pv 0) (pe_op op_pow pe_int pe_int))) (pa_cons (pe_op op_add pe_int (pe_op op_mod (pe_op op_powB (pv 0) pe_int) (pe_op op_pow pe_int pe_int))) pa_nil))))))) (pe_op op_mod (pe_op op_fdiv (pv 0) pe_int) pe_int) (fun _ _ => rfl)))
    (pss_cons (ps_set (i := 2) sc_shr.nd rfl (Or.inl rfl) (pe_ix ix_list (pe_lst (pa_cons (pe_op op_mod (pe_op op_fdiv (pv 0) pe_int) (pe_op op_add (pv 1) pe_int)) (pa_cons (pe_op op_mod (pe_op op_powB (pv 0) pe_int) (pe_op op_add (pv 1) pe_int)) pa_nil))) (pe_op op_mod (pe_op op_fdiv (pv 0) pe_int) pe_int) (fun _ _ => rfl)))
    (pss_cons (ps_set (i := 3) sc_shr.nd rfl (Or.inl rfl) (pe_call Gdiv hr rfl mdiv kdiv bdiv .nil pass0 (pa_cons (pv 2) (pa_cons (pv 1) pa_nil))))
    (pss_one (ps_ret (pe_tup (pa_cons (pe_op op_fdivK (pv 2) (pv 3)) (pa_cons (pe_op op_fdivK (pv 1) (pv 3)) pa_nil)))))))), ?_⟩
  obtain ⟨b1, b2⟩ := botI_in c
  obtain ⟨t1, t2⟩ := topI_in c
  refine ⟨_, rfl, _, _, rfl, rfl, (by show (0 : Int) < 11; decide), _, _, rfl, rfl, _, rfl, _, _, rfl, rfl, ⟨by decide, by decide, by decide⟩, _, _, rfl, rfl, ten6, _, _, rfl, rfl, _, rfl, _, _, rfl, rfl, bg.pow (by decide) (by decide), _, _, rfl, rfl, ⟨by decide, by decide, by decide⟩, _, _, rfl, rfl, ten59, _, _, rfl, rfl, (by show 6 ≤ sizeLine; decide), fun p1 h1 => ?_⟩
  refine ⟨_, rfl, _, _, rfl, rfl, ⟨by decide, by decide⟩, _, _, rfl, rfl, (by show (0 : Int) < 6; decide), p1, _, _, _, rfl, rfl, SqL.of upd_same, at_getD (ns := botL c) (md0 _ (by decide)) (md1 _ (by decide)), ?_⟩
  refine ⟨_, rfl, _, _, rfl, rfl, ⟨by decide, by decide⟩, _, rfl, _, _, rfl, rfl, _, _, rfl, rfl, (by show 0 < botI c + 1; omega), _, rfl, _, _, rfl, rfl, bg.pow (by decide) (by decide), _, rfl, _, _, rfl, rfl, _, _, rfl, rfl, (by show 0 < botI c + 1; omega), (by show 2 ≤ sizeLine; decide), fun p2 h2 => ?_⟩
  refine ⟨_, rfl, _, _, rfl, rfl, ⟨by decide, by decide⟩, _, _, rfl, rfl, (by show (0 : Int) < 2; decide), p2, _, _, _, rfl, rfl, SqL.of upd_same, at_getD (ns := topL c) (md0 _ (by decide)) (md1 _ (by decide)), ?_⟩
  have sB : Sz 200 (botI c) := sz_of (by omega)
  obtain ⟨n1, n2⟩ := by_ready (t := topI c) (show 0 < botI c by omega) sB
  refine ⟨_, rfl, _, rfl, topI c, botI c, rfl, t1, by omega, ?_⟩
  refine ⟨_, rfl, _, rfl, _, _, rfl, rfl, ⟨n1, n2⟩, _, rfl, _, rfl, _, _, rfl, rfl, ⟨n1, n2⟩, (by show 2 ≤ sizeLine; decide), fun p3 h3 => ?_⟩
  exact q p3 _ _ (((same_new h1 _).trans (same_new h2 _)).trans (same_new h3 _)) (shp_of t1 t2 (by omega) sB upd_same)
/- fractions as rational numbers -/
def NewFr (H : Hp) (r : Rat) (Q : VK) : Prop := ∀ a H', Same H H' → H' a = some (.tup [.int r.num, .int (r.den : Int)]) → Q (.ref a) H'
def Told (H : Hp) (t b : Int) (Q : VK) : Prop := ∀ p, H p = none → Q (.ref p) (upd H p (.tup [.int (frT t b), .int (frB t b)]))
theorem frac_ready {C : CA} {H : Hp} {Q : VK} {E : XK} {t b : Int} (hb : b ≠ 0) (sb : Smk b) (q : Told H t b Q) : spFrac C [.int t, .int b] H Q E := by
  refine ⟨_, _, .int t, .int b, rfl, rfl, rfl, fun a b' e => ?_, fun e => ?_⟩
  · obtain ⟨e1, e2, _⟩ := frOk_shape e
    cases e1; cases e2
    exact ⟨sb, q⟩
  · rw [frOk_yes hb] at e; cases e
theorem told_new {H : Hp} {t b : Int} {r : Rat} {Q : VK} (e : frT t b = r.num ∧ frB t b = (r.den : Int)) (q : NewFr H r Q) : Told H t b Q := fun x hx => by
  refine q x _ (same_new hx _) ?_
  rw [upd_same, e.1, e.2]
/- a fraction at f, of some size -/
structure FrA (H : Hp) (f : Addr) (r : Rat) : Prop where
  ob : H f = some (.tup [.int r.num, .int (r.den : Int)])
  st : Sz 4400 r.num
  sb : Sz 4400 (r.den : Int)
theorem FrA.keep {H H' : Hp} {f : Addr} {r : Rat} (h : FrA H f r) (s : Same H H') : FrA H' f r := ⟨s _ _ h.ob, h.st, h.sb⟩
def spBinR (g : Rat → Rat → Rat) : Sp := fun vs H Q _ => ∃ f h r s, vs = [.ref f, .ref h] ∧ FrA H f r ∧ FrA H h s ∧ NewFr H (g r s) Q
abbrev spPlus : Sp := spBinR fun r s => r + s
abbrev spMinus : Sp := spBinR fun r s => r - s
abbrev spTimes : Sp := spBinR fun r s => r * s
def spPow : Sp := fun vs H Q _ => ∃ b t : Int, vs = [.int b, .int t] ∧ Sz 200 b ∧ 0 ≤ t ∧ t ≤ 20 ∧ Q (.int (b ^ t.toNat)) H
theorem sc_pow : FnScope ["base", "count", "product", "turn"] ["base", "count"] (defScope s_pow) := ⟨rfl, rfl, rfl, by decide +kernel, rfl, by decide +kernel, by decide +kernel⟩
theorem ok_pow {f : Addr} {fd : FuncData} (F : Fun K "power" "power" s_pow f fd) (T : Txt mg) : FnOk P w K mg base CX0 1 f fd ["base", "count"] spPow := by
  refine F.ok sc_pow (fun vs H Q E h => ?_) (fun cdv A outer s H vs Q E hr h => ?_)
  · obtain ⟨b, t, rfl, _⟩ := h
    rfl
  obtain ⟨b, t, rfl, sb, t0, t1, q⟩ := h
  refine ⟨_, (pss_cons (ps_set (i := 2) sc_pow.nd rfl (Or.inl rfl) pe_int)
    (pss_cons (ps_for PassesOwn.never rfl (pi_range1 rfl T.range (pa_cons (pv 1) pa_nil)) (pg_name (i := 3) sc_pow.nd rfl (Or.inl rfl)) (pss_one (ps_set (i := 2) sc_pow.nd rfl (Or.inl rfl) (pe_op op_mulK (pv 2) (pv 0)))))
    (pss_one (ps_ret (pv 2))))), ?_⟩
  refine ⟨_, rfl, _, rfl, by omega, by omega, ?_⟩
  refine for_range (lo := 0) (fun i σ H' => H' = H ∧ ∃ v, σ = [some (.int b), some (.int t), some (.int (b ^ i)), v]) ⟨rfl, none, by rw [Int.pow_zero] <;> rfl⟩ ?_ ?_
  · rintro i σ H' hi ⟨rfl, v, rfl⟩
    refine ⟨_, rfl, _, rfl, _, _, rfl, rfl, ⟨(sb.powN i).smk (by omega), sb.smk (by decide)⟩, rfl, some (.int (0 + (i : Int))), ?_⟩
    rw [Int.pow_succ] <;> rfl
  · rintro σ H' ⟨rfl, v, rfl⟩
    exact ⟨_, rfl, q⟩
theorem cho_nat {n k : Nat} (h : k ≤ n) : cho (n : Int) (k : Int) = (binom n k : Int) := by
  rw [cho_in (by omega) (by omega)] <;> rfl
theorem Shp.num {H : Hp} {a : Addr} {p : Rat} (h : Shp H a p) : 0 ≤ p.num ∧ p.num ≤ (p.den : Int) := ⟨(r_nonneg p).mpr h.lo, (r_le1 p).mpr h.hi⟩
theorem Shp.sn {H : Hp} {a : Addr} {p : Rat} (h : Shp H a p) : Sz 200 p.num := sz_le h.num.1 h.num.2 h.sz
theorem Shp.sd {H : Hp} {a : Addr} {p : Rat} (h : Shp H a p) : Sz 200 ((p.den : Int) - p.num) := sz_sub h.num.1 h.num.2 h.sz
theorem NewFr.on {H H' : Hp} {r : Rat} {Q : VK} (q : NewFr H r Q) (s : Same H H') : NewFr H' r Q := fun a H'' s' e => q a H'' (s.trans s') e
def spWtop : Sp := fun vs H Q _ => ∃ (n k : Nat) (a : Addr) (p : Rat), vs = [.int n, .int k, .ref a] ∧ Shp H a p ∧ n ≤ 12 ∧ k ≤ n ∧ Q (.int (wtop p n k)) H
theorem sc_wtop : FnScope ["n", "k", "p"] ["n", "k", "p"] (defScope s_wtop) := ⟨rfl, rfl, rfl, by decide +kernel, rfl, by decide +kernel, by decide +kernel⟩
theorem ok_wtop {f : Addr} {fd : FuncData} (F : Fun K "weight_top" "weight_top" s_wtop f fd) (T : Txt mg) {fcho : Addr} {dcho : FuncData} (Gcho : FnOk P w K mg base CX0 1 fcho dcho ["n", "k"] spCho) (bcho : Binds K dcho ["n", "k"] []) (kcho : PySem.W.keepIn K (.ref fcho) = true) (mcho : mg "choices" = some (.ref fcho)) {fpow : Addr} {dpow : FuncData} (Gpow : FnOk P w K mg base CX0 1 fpow dpow ["base", "count"] spPow) (bpow : Binds K dpow ["base", "count"] []) (kpow : PySem.W.keepIn K (.ref fpow) = true) (mpow : mg "power" = some (.ref fpow)) : FnOk P w K mg base CX0 2 f fd ["n", "k", "p"] spWtop := by
  refine F.ok sc_wtop (fun vs H Q E h => ?_) (fun cdv A outer s H vs Q E hr h => ?_)
  · obtain ⟨n, k, a, p, rfl, _⟩ := h
    rfl
  obtain ⟨n, k, a, p, rfl, sp, hn, hk, q⟩ := h
  refine ⟨_, (pss_one (ps_ret (pe_op op_mulK (pe_op op_mulK (pe_call Gcho hr rfl mcho kcho bcho .nil pass0 (pa_cons (pv 0) (pa_cons (pv 1) pa_nil))) (pe_call Gpow hr rfl mpow kpow bpow .nil pass0 (pa_cons (pe_ix ix_tup (pv 2) pe_int (fun _ _ => rfl)) (pa_cons (pv 1) pa_nil)))) (pe_call Gpow hr rfl mpow kpow bpow .nil pass0 (pa_cons (pe_op op_sub (pe_ix ix_tup (pv 2) pe_int (fun _ _ => rfl)) (pe_ix ix_tup (pv 2) pe_int (fun _ _ => rfl))) (pa_cons (pe_op op_sub (pv 0) (pv 1)) pa_nil)))))), ?_⟩
  have e1 : ((k : Int)).toNat = k := rfl
  have e2 : ((n : Int) - (k : Int)).toNat = n - k := by omega
  have s1 : Sz (200 * k + 1) (p.num ^ k) := sp.sn.powN k
  have s2 : Sz (200 * (n - k) + 1) (((p.den : Int) - p.num) ^ (n - k)) := sp.sd.powN (n - k)
  have s3 := (sz_binom n k).mul s1
  refine ⟨_, rfl, _, rfl, n, k, rfl, by omega, _, rfl, a, _, 0, _, rfl, rfl, SqT.of sp.ob, at0, _, rfl, p.num, k, rfl, sp.sn, by omega, by omega, ?_⟩
  rw [cho_nat hk, e1]
  refine ⟨_, _, rfl, rfl, ⟨(sz_binom n k).smk (by omega), s1.smk (by omega)⟩, _, rfl, a, _, 1, _, rfl, rfl, SqT.of sp.ob, at1, _, rfl, a, _, 0, _, rfl, rfl, SqT.of sp.ob, at0, _, _, rfl, rfl, _, rfl, _, rfl, _, _, rfl, rfl, _, _, rfl, sp.sd, by omega, by omega, ?_⟩
  rw [e2]
  exact ⟨_, _, rfl, rfl, ⟨s3.smk (by omega), s2.smk (by omega)⟩, q⟩
def spWgt : Sp := fun vs H Q _ => ∃ (n k : Nat) (a : Addr) (p : Rat), vs = [.int n, .int k, .ref a] ∧ Shp H a p ∧ n ≤ 12 ∧ k ≤ n ∧ NewFr H (wt p n k) Q
theorem sc_wgt : FnScope ["n", "k", "p"] ["n", "k", "p"] (defScope s_wgt) := ⟨rfl, rfl, rfl, by decide +kernel, rfl, by decide +kernel, by decide +kernel⟩
theorem ok_wgt {C : CA} {f : Addr} {fd : FuncData} (F : Fun K "weight" "weight" s_wgt f fd) (T : Txt mg) {fwtop : Addr} {dwtop : FuncData} (Gwtop : FnOk P w K mg base CX0 3 fwtop dwtop ["n", "k", "p"] spWtop) (bwtop : Binds K dwtop ["n", "k", "p"] []) (kwtop : PySem.W.keepIn K (.ref fwtop) = true) (mwtop : mg "weight_top" = some (.ref fwtop)) {fpow : Addr} {dpow : FuncData} (Gpow : FnOk P w K mg base CX0 3 fpow dpow ["base", "count"] spPow) (bpow : Binds K dpow ["base", "count"] []) (kpow : PySem.W.keepIn K (.ref fpow) = true) (mpow : mg "power" = some (.ref fpow)) {ffrac : Addr} {dfrac : FuncData} (Gfrac : FnOk P w K mg base (CXX P w) 3 ffrac dfrac ["top", "bottom"] (spFrac C)) (bfrac : Binds K dfrac ["top", "bottom"] []) (kfrac : PySem.W.keepIn K (.ref ffrac) = true) (mfrac : mg "fraction" = some (.ref ffrac)) : FnOk P w K mg base CX0 4 f fd ["n", "k", "p"] spWgt := by
  refine F.ok sc_wgt (fun vs H Q E h => ?_) (fun cdv A outer s H vs Q E hr h => ?_)
  · obtain ⟨n, k, a, p, rfl, _⟩ := h
    rfl
  obtain ⟨n, k, a, p, rfl, sp, hn, hk, q⟩ := h
  refine ⟨_, (pss_one (ps_ret (pe_call Gfrac hr rfl mfrac kfrac bfrac .nil passN (pa_cons (pe_call Gwtop hr rfl mwtop kwtop bwtop .nil pass0 (pa_cons (pv 0) (pa_cons (pv 1) (pa_cons (pv 2) pa_nil)))) (pa_cons (pe_call Gpow hr rfl mpow kpow bpow .nil pass0 (pa_cons (pe_ix ix_tup (pv 2) pe_int (fun _ _ => rfl)) (pa_cons (pv 0) pa_nil))) pa_nil))))), ?_⟩
  refine ⟨_, rfl, _, rfl, _, rfl, n, k, a, p, rfl, sp, hn, hk, ?_⟩
  refine ⟨_, rfl, a, _, 1, _, rfl, rfl, SqT.of sp.ob, at1, _, rfl, (p.den : Int), n, rfl, sp.sz, by omega, by omega, ?_⟩
  have e3 : ((n : Int)).toNat = n := rfl
  rw [e3]
  have dp : (0 : Int) < (p.den : Int) ^ n := Int.pow_pos (rden p)
  exact frac_ready (Int.ne_of_gt dp) ((sp.sz.powN n).smk (by omega)) (told_new (fr_rat (Int.ne_of_gt dp) (wtop_is p hk)) q)
def rowV (n : Nat) : List Int := (List.range (n + 1)).map fun k => (binom n k : Int)
theorem rowV_len (n : Nat) : (rowV n).length = n + 1 := by simp [rowV]
theorem rowV_succ (n : Nat) : List.zipWith (fun x y => x + y) (0 :: rowV n) (rowV n ++ [0]) = rowV (n + 1) := by
  apply List.ext_getElem?
  intro i
  rw [List.getElem?_zipWith]
  unfold rowV
  rw [List.getElem?_map, List.getElem?_append]
  simp only [List.length_map, List.length_range]
  cases i with
  | zero => simp [b0]
  | succ j =>
    rw [List.getElem?_cons_succ, List.getElem?_map]
    by_cases h1 : j < n
    · rw [List.getElem?_range (by omega), if_pos (by omega), List.getElem?_map, List.getElem?_range (by omega), List.getElem?_range (by omega)]
      simp [bs]
    · by_cases h2 : j = n
      · subst h2
        rw [List.getElem?_range (by omega), if_neg (by omega), List.getElem?_range (by omega)]
        simp [bs, blt]
      · rw [List.getElem?_eq_none (by simp; omega), List.getElem?_eq_none (l := List.range (n + 1 + 1)) (by simp; omega)]
        simp
def spRow : Sp := fun vs H Q _ => ∃ n : Nat, vs = [.int n] ∧ n ≤ 12 ∧ ∀ a H', Same H H' → H' a = some (.lst ((rowV n).map V.int)) → Q (.ref a) H'
def addV : V → V → V
  | .int i, .int j => .int (i + j)
  | v, _ => v
theorem zip_addV (xs : List Int) : ∀ ys : List Int, List.zipWith addV (xs.map V.int) (ys.map V.int) = (List.zipWith (fun x y => x + y) xs ys).map V.int := by
  induction xs with
  | nil => intro ys; rfl
  | cons x xs ih =>
    intro ys
    cases ys with
    | nil => rfl
    | cons y ys =>
      show addV (.int x) (.int y) :: List.zipWith addV (xs.map V.int) (ys.map V.int) = _
      rw [ih ys]; rfl
theorem sc_row : FnScope ["_law_n", "_law_row_here", "_law_k"] ["_law_n"] (defScope s_row) := ⟨rfl, rfl, rfl, by decide +kernel, rfl, by decide +kernel, by decide +kernel⟩
theorem ok_row {f : Addr} {fd : FuncData} (F : Fun K "_law_row" "_law_row" s_row f fd) (T : Txt mg) : FnOk P w K mg base CX0 1 f fd ["_law_n"] spRow := by
  refine F.ok sc_row (fun vs H Q E h => ?_) (fun cdv A outer s H vs Q E hr h => ?_)
  · obtain ⟨n, rfl, _⟩ := h
    rfl
  obtain ⟨n, rfl, hn, q⟩ := h
  refine ⟨_, (pss_cons (ps_set (i := 1) sc_row.nd rfl (Or.inl rfl) (pe_lst (pa_cons pe_int pa_nil)))
    (pss_cons (ps_for PassesOwn.never rfl (pi_range1 rfl T.range (pa_cons (pv 0) pa_nil)) (pg_name (i := 2) sc_row.nd rfl (Or.inl rfl)) (pss_one (ps_setC (i := 1) sc_row.nd rfl (Or.inl rfl) (xs := ["_law_a", "_law_b"]) (ts := []) rfl ⟨rfl, sub0, rfl, rfl, rfl, by decide +kernel, rfl, rfl⟩ (pi_zip rfl T.zip (pa_cons (pe_op op_cat (pe_lst (pa_cons pe_int pa_nil)) (pv 1)) (pa_cons (pe_op op_cat (pv 1) (pe_lst (pa_cons pe_int pa_nil))) pa_nil))) (fun C s3 H3 fp => (pg_tupC (n := 2) rfl (pgs_cons (pg_name (i := 0) (show (["_law_a", "_law_b"] : List Str).Nodup by decide +kernel) rfl (Or.inl rfl) (Or.inr rfl)) (pgs_cons (pg_name (i := 1) (show (["_law_a", "_law_b"] : List Str).Nodup by decide +kernel) rfl (Or.inl rfl) (Or.inr rfl)) pgs_nil)))) (fun C s3 H3 fp => pif_nil) (fun C s3 H3 fp => (pe_op op_add (pv 0) (pv 1))))))
    (pss_one (ps_ret (pv 1))))), ?_⟩
  refine ⟨(by show 1 ≤ sizeLine; decide), fun p1 h1 => ?_⟩
  refine ⟨_, rfl, _, rfl, by omega, by omega, ?_⟩
  refine for_range (lo := 0) (fun i σ H' => Same H H' ∧ ∃ a v, σ = [some (.int n), some (.ref a), v] ∧ H' a = some (.lst ((rowV i).map V.int))) ⟨same_new h1 _, p1, none, rfl, upd_same⟩ ?_ ?_
  · rintro i σ H1 hi ⟨sm, a, v, rfl, ha⟩
    have hin : i < 12 := by omega
    have l1 := rowV_len i
    have big : ∀ m : Nat, m ≤ 20 → m ≤ sizeLine := fun m h => Nat.le_trans h (by decide)
    refine ⟨(by show 1 ≤ sizeLine; decide), fun p2 h2 => ?_⟩
    have s2 := same_new h2 (.lst [V.int 0])
    refine ⟨_, rfl, p2, a, [.int 0], _, rfl, rfl, upd_same, s2 _ _ ha, big _ (by simp [l1]; omega), fun p3 h3 => ?_⟩
    have s3 := s2.trans (same_new h3 (.lst ([V.int 0] ++ (rowV i).map V.int)))
    refine ⟨_, rfl, (by show 1 ≤ sizeLine; decide), fun p4 h4 => ?_⟩
    have s4 := s3.trans (same_new h4 (.lst [V.int 0]))
    refine ⟨a, p4, _, [.int 0], rfl, rfl, s4 _ _ ha, upd_same, big _ (by simp [l1]; omega), fun p5 h5 => ?_⟩
    have s45 := (same_new h4 (.lst [V.int 0])).trans (same_new h5 (.lst ((rowV i).map V.int ++ [V.int 0])))
    have s5 := s3.trans s45
    have q3 := s45 _ _ (upd_same (H := upd H1 p2 (.lst [V.int 0])) (a := p3) (o := .lst ([V.int 0] ++ (rowV i).map V.int)))
    refine ⟨p3, p5, rfl, ⟨_, SqL.of q3⟩, ⟨_, SqL.of upd_same⟩, fun D hD => ?_⟩
    refine comp_zip addV hD (SqL.of q3) (SqL.of upd_same) (by simp) (big _ (by simp [l1]; omega)) ?_ ?_
    · intro j x y H2 kk hx hy sm2 hk
      have ix : ∃ z, x = V.int z := by
        have := List.mem_of_getElem? hx
        simp only [List.cons_append, List.nil_append, List.mem_cons, List.mem_map] at this
        rcases this with e | ⟨z, _, e⟩
        · exact ⟨0, e⟩
        · exact ⟨z, e.symm⟩
      have iy : ∃ z, y = V.int z := by
        have := List.mem_of_getElem? hy
        simp only [List.mem_append, List.mem_cons, List.not_mem_nil, or_false, List.mem_map] at this
        rcases this with ⟨z, _, e⟩ | e
        · exact ⟨z, e.symm⟩
        · exact ⟨0, e⟩
      obtain ⟨x', rfl⟩ := ix
      obtain ⟨y', rfl⟩ := iy
      exact ⟨_, rfl, _, rfl, _, _, rfl, rfl, hk H2 (Same.refl H2)⟩
    · intro H2 sm2 hD2
      refine ⟨(sm.trans s5).trans sm2, D, some (.int (0 + (i : Int))), rfl, ?_⟩
      have e1 : [V.int 0] ++ (rowV i).map V.int = ((0 : Int) :: rowV i).map V.int := rfl
      have e2 : (rowV i).map V.int ++ [V.int 0] = (rowV i ++ [0]).map V.int := by rw [List.map_append] <;> rfl
      rw [hD2, e1, e2, zip_addV, rowV_succ]
  · rintro σ H1 ⟨sm, a, v, rfl, ha⟩
    exact ⟨_, rfl, q a H1 sm ha⟩
def spRight : Sp := fun vs H Q _ => ∃ (f : Addr) (a b p r : Int), vs = [.ref f, .int a, .int b] ∧ H f = some (.tup [.int p, .int r]) ∧ 0 ≤ p ∧ 0 < r ∧ Int.gcd p r = 1 ∧ p * b = a * r ∧ Smk a ∧ Smk b ∧ Smk p ∧ Smk r ∧ Q (.bl true) H
theorem sc_right : FnScope ["_law_found", "_law_top", "_law_bottom", "_law_number"] ["_law_found", "_law_top", "_law_bottom"] (defScope s_right) := ⟨rfl, rfl, rfl, by decide +kernel, rfl, by decide +kernel, by decide +kernel⟩
theorem ok_right {f : Addr} {fd : FuncData} (F : Fun K "_law_right" "_law_right" s_right f fd) (T : Txt mg) {fdiv : Addr} {ddiv : FuncData} (Gdiv : FnOk P w K mg base CX0 1 fdiv ddiv ["_law_one", "_law_other"] spDivn) (bdiv : Binds K ddiv ["_law_one", "_law_other"] []) (kdiv : PySem.W.keepIn K (.ref fdiv) = true) (mdiv : mg "_law_divides" = some (.ref fdiv)) : FnOk P w K mg base CX0 2 f fd ["_law_found", "_law_top", "_law_bottom"] spRight := by
  refine F.ok sc_right (fun vs H Q E h => ?_) (fun cdv A outer s H vs Q E hr h => ?_)
  · obtain ⟨f, a, b, p, r, rfl, _⟩ := h
    rfl
  obtain ⟨fa, a, b, p, r, rfl, hf, hp0, hr0, hg, he, sa, sb, sp, sr, q⟩ := h
  refine ⟨_, (pss_cons (ps_if (PW.pt (pw_or (pt_not (pt_val (pe_callB call_isinstD rfl T.isinstance boot_isinstance (pa_cons (pv 0) (pa_cons (pe_bltn (v := .ty "tuple") rfl T.tuple boot_tuple rfl) pa_nil))))) (pw_or1 (pt_cmpR op_ne (pe_callB call_len_seq rfl T.len boot_len (pa_cons (pv 0) pa_nil)) pe_int (nomark _))))) (pss_one (ps_ret pe_bl)) pss_nil)
    (pss_cons (ps_for PassesOwn.never rfl (pi_tup (pv 0)) (pg_name (i := 3) sc_right.nd rfl (Or.inl rfl)) (pss_one (ps_if (PW.pt (pw_or (pt_not (pt_val (pe_callB call_isinstD rfl T.isinstance boot_isinstance (pa_cons (pv 3) (pa_cons (pe_bltn (v := .ty "int") rfl T.int boot_int rfl) pa_nil))))) (pw_or1 (pt_val (pe_callB call_isinstD rfl T.isinstance boot_isinstance (pa_cons (pv 3) (pa_cons (pe_bltn (v := .ty "bool") rfl T.bool boot_bool rfl) pa_nil))))))) (pss_one (ps_ret pe_bl)) pss_nil)))
    (pss_one (ps_ret (pe_and (pe_cmpR op_gt (pe_ix ix_tup (pv 0) pe_int (fun _ _ => rfl)) pe_int (nomark _)) (pe_and (pe_cmpR op_eq (pe_call Gdiv hr rfl mdiv kdiv bdiv .nil pass0 (pa_cons (pe_ix ix_tup (pv 0) pe_int (fun _ _ => rfl)) (pa_cons (pe_ix ix_tup (pv 0) pe_int (fun _ _ => rfl)) pa_nil))) pe_int (nomark _)) (pe_one (pe_cmpR op_eq (pe_op op_mulK (pe_ix ix_tup (pv 0) pe_int (fun _ _ => rfl)) (pv 2)) (pe_op op_mulK (pv 1) (pe_ix ix_tup (pv 0) pe_int (fun _ _ => rfl))) (nomark _))))))))), ?_⟩
  refine ⟨_, rfl, .ref fa, .tup [.int p, .int r], _, _, rfl, den_p hf, kit_tuple _, _, rfl, iteF ?_⟩
  refine ⟨_, rfl, fa, _, rfl, .inr (SqT.of hf), rfl, _, rfl, iteF ?_⟩
  refine ⟨_, rfl, fa, rfl, ⟨_, SqT.of hf⟩, ?_⟩
  refine for_tup (xs := [.int p, .int r]) (fun i σ H' => H' = H ∧ ∃ v, σ = [some (.ref fa), some (.int a), some (.int b), v]) ⟨rfl, none, rfl⟩ (fun i σ H' _ z => by rw [z.1]; exact SqT.of hf) ?_ ?_
  · rintro i x σ H' hx ⟨rfl, v, rfl⟩
    have hi : ∃ z, x = V.int z := by
      match i, hx with
      | 0, hx => exact ⟨p, by simpa using hx.symm⟩
      | 1, hx => exact ⟨r, by simpa using hx.symm⟩
    obtain ⟨z, rfl⟩ := hi
    exact ⟨_, rfl, _, .int z, _, _, rfl, rfl, kit_int _, _, rfl, iteF ⟨_, rfl, _, .int z, _, _, rfl, rfl, kit_bool _, _, rfl, iteF ⟨rfl, _, rfl⟩⟩⟩
  rintro σ H' ⟨rfl, v, rfl⟩
  refine ⟨_, rfl, fa, _, 1, _, rfl, rfl, SqT.of hf, at1, _, _, rfl, rfl, _, rfl, ?_⟩
  rw [decide_eq_true hr0]
  refine iteT ?_
  refine ⟨_, rfl, fa, _, 0, _, rfl, rfl, SqT.of hf, at0, _, rfl, fa, _, 1, _, rfl, rfl, SqT.of hf, at1, p, r, rfl, hp0, by omega, rfl, _, rfl, ?_⟩
  rw [hg]
  refine iteT ?_
  refine ⟨_, rfl, fa, _, 0, _, rfl, rfl, SqT.of hf, at0, _, rfl, _, _, rfl, rfl, ⟨sp, sb⟩, _, rfl, _, rfl, fa, _, 1, _, rfl, rfl, SqT.of hf, at1, _, _, rfl, rfl, ⟨sa, sr⟩, rfl, ?_⟩
  exact eqT (congrArg V.int he) q
def tp (a b : Int) (n k i : Nat) : Int := (binom n k : Int) * a ^ (min i k) * b ^ (i - min i k)
theorem tp_zero (a b : Int) (n k : Nat) : tp a b n k 0 = (binom n k : Int) := by unfold tp; simp
theorem tp_lt {a b : Int} {n k i : Nat} (h : i < k) : tp a b n k (i + 1) = tp a b n k i * a := by
  unfold tp
  have e1 : min (i + 1) k = i + 1 := by omega
  have e2 : min i k = i := by omega
  rw [e1, e2, Nat.sub_self, Nat.sub_self, Int.pow_succ, Int.pow_zero, Int.mul_one, Int.mul_one, Int.mul_assoc]
theorem tp_ge {a b : Int} {n k i : Nat} (h : k ≤ i) : tp a b n k (i + 1) = tp a b n k i * b := by
  unfold tp
  have e1 : min (i + 1) k = k := by omega
  have e2 : min i k = k := by omega
  have e3 : i + 1 - k = (i - k) + 1 := by omega
  rw [e1, e2, e3, Int.pow_succ, Int.mul_assoc, Int.mul_assoc, Int.mul_assoc]
theorem tp_end (p : Rat) {n k : Nat} (h : k ≤ n) : tp p.num ((p.den : Int) - p.num) n k n = wtop p n k := by
  unfold tp wtop
  rw [Nat.min_eq_right h]
theorem tp_sz {a b : Int} (sa : Sz 200 a) (sb : Sz 200 b) {n k i : Nat} (hi : i ≤ 12) (hn : n ≤ 12) : Sz 3000 (tp a b n k i) := by
  have := (((sz_binom n k).mul (sa.powN (min i k))).mul (sb.powN (i - min i k)))
  exact this.mono (by omega)
theorem rowV_at {n k : Nat} (h : k ≤ n) : (rowV n).getD k 0 = (binom n k : Int) := by
  unfold rowV
  rw [List.getD_eq_getElem?_getD, List.getElem?_map, List.getElem?_range (by omega)] <;> rfl
def spAll : Sp := fun vs H Q _ => ∃ (n : Nat) (a : Addr) (p : Rat), vs = [.int n, .ref a] ∧ Shp H a p ∧ 1 ≤ n ∧ n ≤ 12 ∧ ∀ H', Same H H' → Q (.bl true) H'
theorem sc_all : FnScope ["_law_n", "_law_p", "_law_whole", "_law_k", "_law_ways", "_law_total", "_law_top", "_law_at"] ["_law_n", "_law_p"] (defScope s_all) := ⟨rfl, rfl, rfl, by decide +kernel, rfl, by decide +kernel, by decide +kernel⟩
theorem ok_all {f : Addr} {fd : FuncData} (F : Fun K "_law_all" "_law_all" s_all f fd) (T : Txt mg) {frow : Addr} {drow : FuncData} (Grow : FnOk P w K mg base CX0 4 frow drow ["_law_n"] spRow) (brow : Binds K drow ["_law_n"] []) (krow : PySem.W.keepIn K (.ref frow) = true) (mrow : mg "_law_row" = some (.ref frow)) {fright : Addr} {dright : FuncData} (Gright : FnOk P w K mg base CX0 4 fright dright ["_law_found", "_law_top", "_law_bottom"] spRight) (bright : Binds K dright ["_law_found", "_law_top", "_law_bottom"] []) (kright : PySem.W.keepIn K (.ref fright) = true) (mright : mg "_law_right" = some (.ref fright)) {fwgt : Addr} {dwgt : FuncData} (Gwgt : FnOk P w K mg base CX0 4 fwgt dwgt ["n", "k", "p"] spWgt) (bwgt : Binds K dwgt ["n", "k", "p"] []) (kwgt : PySem.W.keepIn K (.ref fwgt) = true) (mwgt : mg "weight" = some (.ref fwgt)) : FnOk P w K mg base CX0 5 f fd ["_law_n", "_law_p"] spAll := by
  refine F.ok sc_all (fun vs H Q E h => ?_) (fun cdv A outer s H vs Q E hr h => ?_)
  · obtain ⟨n, a, p, rfl, _⟩ := h
    rfl
  obtain ⟨n, a, p, rfl, sp, hn1, hn, q⟩ := h
  refine ⟨_, (pss_cons (ps_set (i := 2) sc_all.nd rfl (Or.inl rfl) pe_int)
    (pss_cons (ps_for PassesOwn.never rfl (pi_range1 rfl T.range (pa_cons (pv 0) pa_nil)) (pg_name (i := 3) sc_all.nd rfl (Or.inl rfl)) (pss_one (ps_set (i := 2) sc_all.nd rfl (Or.inl rfl) (pe_op op_mulK (pv 2) (pe_ix ix_tup (pv 1) pe_int (fun _ _ => rfl))))))
    (pss_cons (ps_set (i := 4) sc_all.nd rfl (Or.inl rfl) (pe_call Grow hr rfl mrow krow brow .nil pass0 (pa_cons (pv 0) pa_nil)))
    (pss_cons (ps_set (i := 5) sc_all.nd rfl (Or.inl rfl) pe_int)
    (pss_cons (ps_for PassesOwn.never rfl (pi_range1 rfl T.range (pa_cons (pe_op op_add (pv 0) pe_int) pa_nil)) (pg_name (i := 3) sc_all.nd rfl (Or.inl rfl)) (pss_cons (ps_set (i := 6) sc_all.nd rfl (Or.inl rfl) (pe_ix ix_list (pv 4) (pv 3) (fun _ _ => rfl)))
      (pss_cons (ps_for PassesOwn.never rfl (pi_range1 rfl T.range (pa_cons (pv 0) pa_nil)) (pg_name (i := 7) sc_all.nd rfl (Or.inl rfl)) (pss_one (ps_set (i := 6) sc_all.nd rfl (Or.inl rfl) (pe_op op_mulK (pv 6) (pe_ix ix_list (pe_lst (pa_cons (pe_op op_sub (pe_ix ix_tup (pv 1) pe_int (fun _ _ => rfl)) (pe_ix ix_tup (pv 1) pe_int (fun _ _ => rfl))) (pa_cons (pe_ix ix_tup (pv 1) pe_int (fun _ _ => rfl)) pa_nil))) (pe_callTy call_int1 rfl T.int boot_int (pa_cons (pe_cmpR op_lt (pv 7) (pv 3) (nomark _)) pa_nil)) (fun _ _ => rfl))))))
      (pss_cons (ps_if (pt_not (pt_val (pe_call Gright hr rfl mright kright bright .nil pass0 (pa_cons (pe_call Gwgt hr rfl mwgt kwgt bwgt .nil pass0 (pa_cons (pv 0) (pa_cons (pv 3) (pa_cons (pv 1) pa_nil)))) (pa_cons (pv 6) (pa_cons (pv 2) pa_nil)))))) (pss_one (ps_ret pe_bl)) pss_nil)
      (pss_one (ps_set (i := 5) sc_all.nd rfl (Or.inl rfl) (pe_op op_add (pv 5) (pv 6))))))))
    (pss_one (ps_ret (pe_cmpR op_eq (pv 5) (pv 2) (nomark _))))))))), ?_⟩
  refine ⟨_, rfl, _, rfl, by omega, by omega, ?_⟩
  refine for_range (lo := 0) (fun i σ H' => H' = H ∧ ∃ v, σ = [some (.int n), some (.ref a), some (.int ((p.den : Int) ^ i)), v, none, none, none, none]) ⟨rfl, none, by rw [Int.pow_zero] <;> rfl⟩ ?_ ?_
  · rintro i σ H' hi ⟨rfl, v, rfl⟩
    refine ⟨_, rfl, _, rfl, a, _, 1, _, rfl, rfl, SqT.of sp.ob, at1, _, _, rfl, rfl, ⟨(sp.sz.powN i).smk (by omega), sp.sz.smk (by decide)⟩, rfl, some (.int (0 + (i : Int))), ?_⟩
    rw [Int.pow_succ] <;> rfl
  rintro σ H' ⟨rfl, v, rfl⟩
  have e3 : ((n : Int)).toNat = n := rfl
  rw [e3]
  refine ⟨_, rfl, n, rfl, hn, fun aw H1 s1 hw => ?_⟩
  refine ⟨_, rfl, _, _, rfl, rfl, _, rfl, by omega, by omega, ?_⟩
  have e4 : ((n : Int) + 1).toNat = n + 1 := by omega
  rw [e4]
  have szW : Smk ((p.den : Int) ^ n) := (sp.sz.powN n).smk (by omega)
  refine for_range (lo := 0) (fun i σ H' => Same H1 H' ∧ ∃ v1 v2 v3, σ = [some (.int n), some (.ref a), some (.int ((p.den : Int) ^ n)), v1, some (.ref aw), some (.int (ism (wtop p n) i)), v2, v3]) ⟨Same.refl H1, v, none, none, rfl⟩ ?_ ?_
  · rintro k σ H2 hk ⟨s2, v1, v2, v3, rfl⟩
    have hkn : k ≤ n := by omega
    have ek : (0 : Int) + (k : Int) = k := by omega
    have sp2 := sp.keep (s1.trans s2)
    rw [ek]
    refine ⟨_, rfl, _, rfl, aw, _, _, _, rfl, rfl, SqL.of (s2 _ _ hw), at_getD (ns := rowV n) (by omega) (by rw [rowV_len]; omega), ?_⟩
    have e5 : ((k : Int)).toNat = k := rfl
    rw [e5, rowV_at hkn]
    refine ⟨_, rfl, _, rfl, by omega, by omega, ?_⟩
    rw [e3]
    refine for_range (lo := 0) (fun i σ H' => Same H2 H' ∧ ∃ v3, σ = [some (.int n), some (.ref a), some (.int ((p.den : Int) ^ n)), some (.int k), some (.ref aw), some (.int (ism (wtop p n) k)), some (.int (tp p.num ((p.den : Int) - p.num) n k i)), v3]) ⟨Same.refl H2, v3, by rw [tp_zero] <;> rfl⟩ ?_ ?_
    · rintro i σ H3 hi ⟨s3, v4, rfl⟩
      have sp3 := sp2.keep s3
      have szT := (tp_sz sp.sn sp.sd (n := n) (k := k) (i := i) (by omega) hn).smk (by decide)
      refine ⟨_, rfl, _, rfl, a, _, 1, _, rfl, rfl, SqT.of sp3.ob, at1, _, rfl, a, _, 0, _, rfl, rfl, SqT.of sp3.ob, at0, _, _, rfl, rfl, _, rfl, a, _, 0, _, rfl, rfl, SqT.of sp3.ob, at0, (by show 2 ≤ sizeLine; decide), fun p1 h1 => ?_⟩
      have ei : (0 : Int) + (i : Int) = i := by omega
      rw [ei]
      refine ⟨_, rfl, _, rfl, _, _, rfl, rfl, .inr ⟨_, rfl, ?_⟩⟩
      by_cases hik : i < k
      · have d : decide ((i : Int) < (k : Int)) = true := decide_eq_true (by omega)
        rw [d]
        refine ⟨p1, _, 1, _, rfl, rfl, SqL.of upd_same, at1, _, _, rfl, rfl, ⟨szT, sp.sn.smk (by decide)⟩, s3.trans (same_new h1 _), some (.int i), ?_⟩
        rw [tp_lt hik] <;> rfl
      · have d : decide ((i : Int) < (k : Int)) = false := decide_eq_false (by omega)
        rw [d]
        refine ⟨p1, _, 0, _, rfl, rfl, SqL.of upd_same, at0, _, _, rfl, rfl, ⟨szT, sp.sd.smk (by decide)⟩, s3.trans (same_new h1 _), some (.int i), ?_⟩
        rw [tp_ge (by omega)] <;> rfl
    rintro σ H3 ⟨s3, v4, rfl⟩
    rw [tp_end p hkn]
    have sp3 := sp2.keep s3
    refine ⟨_, rfl, _, rfl, _, rfl, n, k, a, p, rfl, sp3, hn, hkn, fun x H4 s4 hx => ?_⟩
    have w0 := wt_nonneg sp.lo sp.hi n k
    have hov : Ov (p.den ^ n) (wt p n k) := wt_ov (Ov.self p) n k
    have dpos : 0 < p.den ^ n := Nat.pow_pos (by have := p.den_nz; omega)
    have w1 : wt p n k ≤ 1 := by
      have := cu_le sp.lo sp.hi n (k + 1)
      have c0 := cu_nonneg sp.lo sp.hi n k
      simp only [cu, sm] at this c0
      grind
    have dlt : p.den ^ n < 2 ^ (200 * n) := powlt (by have := sp.sz; unfold Sz at this; omega) (by omega)
    have rs := RSz.of hov dpos dlt w0 w1
    have szT : Smk (wtop p n k) := by rw [← tp_end p hkn]; exact (tp_sz sp.sn sp.sd (by omega) hn).smk (by decide)
    refine ⟨_, rfl, _, rfl, x, wtop p n k, (p.den : Int) ^ n, (wt p n k).num, ((wt p n k).den : Int), rfl, hx, (r_nonneg _).mpr w0, rden _, rgcd _, cross (wtop_is p hkn), szT, szW, rs.t.smk (by omega), rs.b.smk (by omega), _, rfl, iteF ?_⟩
    exact ⟨_, rfl, _, rfl, _, _, rfl, rfl, (s2.trans s3).trans s4, _, _, _, rfl⟩
  · rintro σ H2 ⟨s2, v1, v2, v3, rfl⟩
    rw [wtop_all]
    exact ⟨_, rfl, _, rfl, rfl, eqT rfl (q _ (s1.trans s2))⟩
def spLaw (K : PySem.W.Frag) : Sp := fun vs H Q _ => ∃ (a : Addr) (ns : List Int), vs = [.ref a] ∧ SqL K H a (ns.map V.int) ∧ ns.length ≤ 63 ∧ (∀ i ∈ ns, Bg i) ∧ ∀ H', Q (.bl true) H'
theorem sc_law : FnScope ["_law_script", "_law_k", "_law_cell"] ["_law_script"] (defScope s_law) := ⟨rfl, rfl, rfl, by decide +kernel, rfl, by decide +kernel, by decide +kernel⟩
theorem ok_law {f : Addr} {fd : FuncData} (F : Fun K "law" "law" s_law f fd) (T : Txt mg) {fcell : Addr} {dcell : FuncData} (Gcell : FnOk P w K mg base CX0 6 fcell dcell ["_law_script", "_law_k"] (spCell K)) (bcell : Binds K dcell ["_law_script", "_law_k"] []) (kcell : PySem.W.keepIn K (.ref fcell) = true) (mcell : mg "_law_cell_at" = some (.ref fcell)) {fshr : Addr} {dshr : FuncData} (Gshr : FnOk P w K mg base CX0 6 fshr dshr ["_law_cell"] spShr) (bshr : Binds K dshr ["_law_cell"] []) (kshr : PySem.W.keepIn K (.ref fshr) = true) (mshr : mg "_law_share" = some (.ref fshr)) {fall : Addr} {dall : FuncData} (Gall : FnOk P w K mg base CX0 6 fall dall ["_law_n", "_law_p"] spAll) (ball : Binds K dall ["_law_n", "_law_p"] []) (kall : PySem.W.keepIn K (.ref fall) = true) (mall : mg "_law_all" = some (.ref fall)) : FnOk P w K mg base CX0 7 f fd ["_law_script"] (spLaw K) := by
  refine F.ok sc_law (fun vs H Q E h => ?_) (fun cdv A outer s H vs Q E hr h => ?_)
  · obtain ⟨a, ns, rfl, _⟩ := h
    rfl
  obtain ⟨a, ns, rfl, hS, h63, hbg, q⟩ := h
  refine ⟨_, (pss_cons (ps_for PassesOwn.never rfl (pi_range1 rfl T.range (pa_cons (pe_op op_add pe_int (pe_op op_mod (pe_call Gcell hr rfl mcell kcell bcell .nil pass0 (pa_cons (pv 0) (pa_cons pe_int pa_nil))) pe_int)) pa_nil)) (pg_name (i := 1) sc_law.nd rfl (Or.inl rfl)) (pss_cons (ps_set (i := 2) sc_law.nd rfl (Or.inl rfl) (pe_call Gcell hr rfl mcell kcell bcell .nil pass0 (pa_cons (pv 0) (pa_cons (pv 1) pa_nil))))
      (pss_one (ps_if (pt_not (pt_val (pe_call Gall hr rfl mall kall ball .nil pass0 (pa_cons (pe_op op_add pe_int (pe_op op_mod (pe_op op_fdiv (pv 2) pe_int) pe_int)) (pa_cons (pe_call Gshr hr rfl mshr kshr bshr .nil pass0 (pa_cons (pv 2) pa_nil)) pa_nil))))) (pss_one (ps_ret pe_bl)) pss_nil))))
    (pss_one (ps_ret pe_bl))), ?_⟩
  refine ⟨_, rfl, a, ns, 0, rfl, hS, by omega, _, _, rfl, rfl, (by show (0 : Int) < 8; decide), _, _, rfl, rfl, _, rfl, ?_, ?_, ?_⟩
  · have := md0 (ns.getD (0 : Int).toNat 0) (show (0 : Int) < 8 by decide); omega
  · have := md1 (ns.getD (0 : Int).toNat 0) (show (0 : Int) < 8 by decide); omega
  refine for_range (lo := 0) (fun i σ H' => Same H H' ∧ ∃ v1 v2, σ = [some (.ref a), v1, v2]) ⟨Same.refl H, none, none, rfl⟩ ?_ ?_
  · rintro i σ H1 hi ⟨sm, v1, v2, rfl⟩
    refine ⟨_, rfl, _, rfl, a, ns, _, rfl, sm.seq hS, by omega, ?_⟩
    generalize hc : ns.getD ((0 : Int) + (i : Int)).toNat 0 = c
    have bg : Bg c := by rw [← hc]; exact bg_getD hbg _
    refine ⟨_, rfl, _, _, rfl, rfl, ⟨by decide, by decide⟩, _, _, rfl, rfl, (by show (0 : Int) < 12; decide), _, _, rfl, rfl, _, rfl, c, rfl, bg, fun x H2 p s2 hx => ?_⟩
    have m0 := md0 (c / 11) (show (0 : Int) < 12 by decide)
    have m1 := md1 (c / 11) (show (0 : Int) < 12 by decide)
    have en : (1 : Int) + c / 11 % 12 = (((1 : Int) + c / 11 % 12).toNat : Int) := by omega
    refine ⟨((1 : Int) + c / 11 % 12).toNat, x, p, by rw [← en] <;> rfl, hx, by omega, by omega, fun H3 s3 => ⟨_, rfl, iteF ?_⟩⟩
    exact ⟨(sm.trans s2).trans s3, _, _, rfl⟩
  · rintro σ H1 ⟨sm, v1, v2, rfl⟩
    exact q _
end
theorem all_mk {l : PySem.W.OpenLaw} {w : World} {K : PySem.W.Frag} {h : Heap} {mg : Str → Option Value} {fa f_cho f_whole f_cd f_frac f_pow f_wtop f_wgt f_cell f_div f_shr f_row f_right f_all f_law : Addr} (X : K.In h) (G : h.Ns mainGlobals mg) (hfa : mg "law" = some (.ref fa))
    {od_cho an_cho : Option Addr} {sl_cho : Array (Option Value)} {oc_cho kV_cho dc_cho pm_cho cd_cho ct_cho : Value}
    (a_cho : PySem.W.nsIn K mainGlobals "choices" = some (some (.ref f_cho))) (l_cho : K.lookup f_cho = some ⟨oc_cho, od_cho, .func (PySem.W.fnOf "choices" "choices" (defArgs s_cho) (defBody s_cho) (defScope s_cho) .none kV_cho dc_cho pm_cho an_cho cd_cho ct_cho), sl_cho⟩) (c_cho : PySem.W.codeIn K cd_cho "choices" = true) (k_cho : PySem.W.keepIn K (.ref f_cho) = true)
    {od_whole an_whole : Option Addr} {sl_whole : Array (Option Value)} {oc_whole kV_whole dc_whole pm_whole cd_whole ct_whole : Value}
    (a_whole : PySem.W.nsIn K mainGlobals "is_whole" = some (some (.ref f_whole))) (l_whole : K.lookup f_whole = some ⟨oc_whole, od_whole, .func (PySem.W.fnOf "is_whole" "is_whole" (defArgs s_whole) (defBody s_whole) (defScope s_whole) .none kV_whole dc_whole pm_whole an_whole cd_whole ct_whole), sl_whole⟩) (c_whole : PySem.W.codeIn K cd_whole "is_whole" = true) (k_whole : PySem.W.keepIn K (.ref f_whole) = true)
    {od_cd an_cd : Option Addr} {sl_cd : Array (Option Value)} {oc_cd kV_cd dc_cd pm_cd cd_cd ct_cd : Value}
    (a_cd : PySem.W.nsIn K mainGlobals "common_divisor" = some (some (.ref f_cd))) (l_cd : K.lookup f_cd = some ⟨oc_cd, od_cd, .func (PySem.W.fnOf "common_divisor" "common_divisor" (defArgs s_cd) (defBody s_cd) (defScope s_cd) .none kV_cd dc_cd pm_cd an_cd cd_cd ct_cd), sl_cd⟩) (c_cd : PySem.W.codeIn K cd_cd "common_divisor" = true) (k_cd : PySem.W.keepIn K (.ref f_cd) = true)
    {od_frac an_frac : Option Addr} {sl_frac : Array (Option Value)} {oc_frac kV_frac dc_frac pm_frac cd_frac ct_frac : Value}
    (a_frac : PySem.W.nsIn K mainGlobals "fraction" = some (some (.ref f_frac))) (l_frac : K.lookup f_frac = some ⟨oc_frac, od_frac, .func (PySem.W.fnOf "fraction" "fraction" (defArgs s_frac) (defBody s_frac) (defScope s_frac) .none kV_frac dc_frac pm_frac an_frac cd_frac ct_frac), sl_frac⟩) (c_frac : PySem.W.codeIn K cd_frac "fraction" = true) (k_frac : PySem.W.keepIn K (.ref f_frac) = true)
    {od_pow an_pow : Option Addr} {sl_pow : Array (Option Value)} {oc_pow kV_pow dc_pow pm_pow cd_pow ct_pow : Value}
    (a_pow : PySem.W.nsIn K mainGlobals "power" = some (some (.ref f_pow))) (l_pow : K.lookup f_pow = some ⟨oc_pow, od_pow, .func (PySem.W.fnOf "power" "power" (defArgs s_pow) (defBody s_pow) (defScope s_pow) .none kV_pow dc_pow pm_pow an_pow cd_pow ct_pow), sl_pow⟩) (c_pow : PySem.W.codeIn K cd_pow "power" = true) (k_pow : PySem.W.keepIn K (.ref f_pow) = true)
    {od_wtop an_wtop : Option Addr} {sl_wtop : Array (Option Value)} {oc_wtop kV_wtop dc_wtop pm_wtop cd_wtop ct_wtop : Value}
    (a_wtop : PySem.W.nsIn K mainGlobals "weight_top" = some (some (.ref f_wtop))) (l_wtop : K.lookup f_wtop = some ⟨oc_wtop, od_wtop, .func (PySem.W.fnOf "weight_top" "weight_top" (defArgs s_wtop) (defBody s_wtop) (defScope s_wtop) .none kV_wtop dc_wtop pm_wtop an_wtop cd_wtop ct_wtop), sl_wtop⟩) (c_wtop : PySem.W.codeIn K cd_wtop "weight_top" = true) (k_wtop : PySem.W.keepIn K (.ref f_wtop) = true)
    {od_wgt an_wgt : Option Addr} {sl_wgt : Array (Option Value)} {oc_wgt kV_wgt dc_wgt pm_wgt cd_wgt ct_wgt : Value}
    (a_wgt : PySem.W.nsIn K mainGlobals "weight" = some (some (.ref f_wgt))) (l_wgt : K.lookup f_wgt = some ⟨oc_wgt, od_wgt, .func (PySem.W.fnOf "weight" "weight" (defArgs s_wgt) (defBody s_wgt) (defScope s_wgt) .none kV_wgt dc_wgt pm_wgt an_wgt cd_wgt ct_wgt), sl_wgt⟩) (c_wgt : PySem.W.codeIn K cd_wgt "weight" = true) (k_wgt : PySem.W.keepIn K (.ref f_wgt) = true)
    {od_cell an_cell : Option Addr} {sl_cell : Array (Option Value)} {oc_cell kV_cell dc_cell pm_cell cd_cell ct_cell : Value}
    (a_cell : PySem.W.nsIn K mainGlobals "_law_cell_at" = some (some (.ref f_cell))) (l_cell : K.lookup f_cell = some ⟨oc_cell, od_cell, .func (PySem.W.fnOf "_law_cell_at" "_law_cell_at" (defArgs s_cell) (defBody s_cell) (defScope s_cell) .none kV_cell dc_cell pm_cell an_cell cd_cell ct_cell), sl_cell⟩) (c_cell : PySem.W.codeIn K cd_cell "_law_cell_at" = true) (k_cell : PySem.W.keepIn K (.ref f_cell) = true)
    {od_div an_div : Option Addr} {sl_div : Array (Option Value)} {oc_div kV_div dc_div pm_div cd_div ct_div : Value}
    (a_div : PySem.W.nsIn K mainGlobals "_law_divides" = some (some (.ref f_div))) (l_div : K.lookup f_div = some ⟨oc_div, od_div, .func (PySem.W.fnOf "_law_divides" "_law_divides" (defArgs s_div) (defBody s_div) (defScope s_div) .none kV_div dc_div pm_div an_div cd_div ct_div), sl_div⟩) (c_div : PySem.W.codeIn K cd_div "_law_divides" = true) (k_div : PySem.W.keepIn K (.ref f_div) = true)
    {od_shr an_shr : Option Addr} {sl_shr : Array (Option Value)} {oc_shr kV_shr dc_shr pm_shr cd_shr ct_shr : Value}
    (a_shr : PySem.W.nsIn K mainGlobals "_law_share" = some (some (.ref f_shr))) (l_shr : K.lookup f_shr = some ⟨oc_shr, od_shr, .func (PySem.W.fnOf "_law_share" "_law_share" (defArgs s_shr) (defBody s_shr) (defScope s_shr) .none kV_shr dc_shr pm_shr an_shr cd_shr ct_shr), sl_shr⟩) (c_shr : PySem.W.codeIn K cd_shr "_law_share" = true) (k_shr : PySem.W.keepIn K (.ref f_shr) = true)
    {od_row an_row : Option Addr} {sl_row : Array (Option Value)} {oc_row kV_row dc_row pm_row cd_row ct_row : Value}
    (a_row : PySem.W.nsIn K mainGlobals "_law_row" = some (some (.ref f_row))) (l_row : K.lookup f_row = some ⟨oc_row, od_row, .func (PySem.W.fnOf "_law_row" "_law_row" (defArgs s_row) (defBody s_row) (defScope s_row) .none kV_row dc_row pm_row an_row cd_row ct_row), sl_row⟩) (c_row : PySem.W.codeIn K cd_row "_law_row" = true) (k_row : PySem.W.keepIn K (.ref f_row) = true)
    {od_right an_right : Option Addr} {sl_right : Array (Option Value)} {oc_right kV_right dc_right pm_right cd_right ct_right : Value}
    (a_right : PySem.W.nsIn K mainGlobals "_law_right" = some (some (.ref f_right))) (l_right : K.lookup f_right = some ⟨oc_right, od_right, .func (PySem.W.fnOf "_law_right" "_law_right" (defArgs s_right) (defBody s_right) (defScope s_right) .none kV_right dc_right pm_right an_right cd_right ct_right), sl_right⟩) (c_right : PySem.W.codeIn K cd_right "_law_right" = true) (k_right : PySem.W.keepIn K (.ref f_right) = true)
    {od_all an_all : Option Addr} {sl_all : Array (Option Value)} {oc_all kV_all dc_all pm_all cd_all ct_all : Value}
    (a_all : PySem.W.nsIn K mainGlobals "_law_all" = some (some (.ref f_all))) (l_all : K.lookup f_all = some ⟨oc_all, od_all, .func (PySem.W.fnOf "_law_all" "_law_all" (defArgs s_all) (defBody s_all) (defScope s_all) .none kV_all dc_all pm_all an_all cd_all ct_all), sl_all⟩) (c_all : PySem.W.codeIn K cd_all "_law_all" = true) (k_all : PySem.W.keepIn K (.ref f_all) = true)
    {od_law an_law : Option Addr} {sl_law : Array (Option Value)} {oc_law kV_law dc_law pm_law cd_law ct_law : Value}
    (a_law : PySem.W.nsIn K mainGlobals "law" = some (some (.ref f_law))) (l_law : K.lookup f_law = some ⟨oc_law, od_law, .func (PySem.W.fnOf "law" "law" (defArgs s_law) (defBody s_law) (defScope s_law) .none kV_law dc_law pm_law an_law cd_law ct_law), sl_law⟩) (c_law : PySem.W.codeIn K cd_law "law" = true) (k_law : PySem.W.keepIn K (.ref f_law) = true)
    (z_range : PySem.W.nsIn K mainGlobals "range" = some none) (z_min : PySem.W.nsIn K mainGlobals "min" = some none) (z_len : PySem.W.nsIn K mainGlobals "len" = some none) (z_isinstance : PySem.W.nsIn K mainGlobals "isinstance" = some none) (z_int : PySem.W.nsIn K mainGlobals "int" = some none) (z_bool : PySem.W.nsIn K mainGlobals "bool" = some none) (z_tuple : PySem.W.nsIn K mainGlobals "tuple" = some none) (z_abs : PySem.W.nsIn K mainGlobals "abs" = some none) (z_zip : PySem.W.nsIn K mainGlobals "zip" = some none)
    {d_StretchError d_NoNumber : Addr}
    (n_StretchError : PySem.W.nsIn K mainGlobals "StretchError" = some (some (.ref d_StretchError)))
    (n_NoNumber : PySem.W.nsIn K mainGlobals "NoNumber" = some (some (.ref d_NoNumber)))
    (x_NoNumber : PySem.W.excIn K d_NoNumber vbm "ValueError.__new__" = true)
    (ic_NoNumber : PySem.W.isClsIn K d_NoNumber = true)
    (ga_NoNumber : PySem.W.findIn K (.ref d_NoNumber) "__getattribute__" = some (some (.builtin "BaseException.__getattribute__")))
    (gt_NoNumber : PySem.W.findIn K (.ref d_NoNumber) "__getattr__" = some none)
    (cl_NoNumber : PySem.W.findIn K (.ref d_NoNumber) "__class__" = some (some (.builtin "object.__class__")))
    (sg_NoNumber : PySem.W.specialIn K (.builtin "object.__class__") "__get__" = some (some (.builtin "getset_descriptor.__get__")))
    (tk_NoNumber : PySem.W.takesIn K (.builtin "object.__class__") = some true)
    (ob_NoNumber : PySem.W.mroIn K d_NoNumber (.type "object") = some true)
    (be_NoNumber : PySem.W.mroIn K d_NoNumber (.type "BaseException") = some true) :
    ∃ fd : FuncData, (∀ (s : Shared) (v : Value), BindsTo s fd ⟨[v], []⟩ [("_law_script", v)]) ∧ ∀ base : Heap, K.In base → base.Ns mainGlobals mg → FnOk l.prog w K mg base CX0 7 fa fd ["_law_script"] (spLaw K) := by
  have e := hfa.symm.trans (PySem.W.mg_of X G a_law)
  cases e
  have T : Txt mg := ⟨PySem.W.mg_none_of X G z_range, PySem.W.mg_none_of X G z_min, PySem.W.mg_none_of X G z_len, PySem.W.mg_none_of X G z_isinstance, PySem.W.mg_none_of X G z_int, PySem.W.mg_none_of X G z_bool, PySem.W.mg_none_of X G z_tuple, PySem.W.mg_none_of X G z_abs, PySem.W.mg_none_of X G z_zip⟩
  have cf : CF K mg ⟨d_StretchError, d_NoNumber⟩ := ⟨PySem.W.mg_of X G n_StretchError, PySem.W.mg_of X G n_NoNumber, ⟨PySem.W.mg_of X G n_NoNumber, x_NoNumber⟩, ⟨ga_NoNumber, gt_NoNumber, cl_NoNumber, sg_NoNumber, tk_NoNumber, ob_NoNumber, be_NoNumber, ic_NoNumber⟩⟩
  have F_cho := fun_mk (st := s_cho) l_cho c_cho k_cho
  have b_cho := F_cho.binds (ps := ["n", "k"]) fun _ _ _ _ _ _ us hl => match us, hl with | [_, _], _ => rfl
  have m_cho := PySem.W.mg_of X G a_cho
  have F_whole := fun_mk (st := s_whole) l_whole c_whole k_whole
  have b_whole := F_whole.binds (ps := ["thing"]) fun _ _ _ _ _ _ us hl => match us, hl with | [_], _ => rfl
  have m_whole := PySem.W.mg_of X G a_whole
  have F_cd := fun_mk (st := s_cd) l_cd c_cd k_cd
  have b_cd := F_cd.binds (ps := ["one", "other"]) fun _ _ _ _ _ _ us hl => match us, hl with | [_, _], _ => rfl
  have m_cd := PySem.W.mg_of X G a_cd
  have F_frac := fun_mk (st := s_frac) l_frac c_frac k_frac
  have b_frac := F_frac.binds (ps := ["top", "bottom"]) fun _ _ _ _ _ _ us hl => match us, hl with | [_, _], _ => rfl
  have m_frac := PySem.W.mg_of X G a_frac
  have F_pow := fun_mk (st := s_pow) l_pow c_pow k_pow
  have b_pow := F_pow.binds (ps := ["base", "count"]) fun _ _ _ _ _ _ us hl => match us, hl with | [_, _], _ => rfl
  have m_pow := PySem.W.mg_of X G a_pow
  have F_wtop := fun_mk (st := s_wtop) l_wtop c_wtop k_wtop
  have b_wtop := F_wtop.binds (ps := ["n", "k", "p"]) fun _ _ _ _ _ _ us hl => match us, hl with | [_, _, _], _ => rfl
  have m_wtop := PySem.W.mg_of X G a_wtop
  have F_wgt := fun_mk (st := s_wgt) l_wgt c_wgt k_wgt
  have b_wgt := F_wgt.binds (ps := ["n", "k", "p"]) fun _ _ _ _ _ _ us hl => match us, hl with | [_, _, _], _ => rfl
  have m_wgt := PySem.W.mg_of X G a_wgt
  have F_cell := fun_mk (st := s_cell) l_cell c_cell k_cell
  have b_cell := F_cell.binds (ps := ["_law_script", "_law_k"]) fun _ _ _ _ _ _ us hl => match us, hl with | [_, _], _ => rfl
  have m_cell := PySem.W.mg_of X G a_cell
  have F_div := fun_mk (st := s_div) l_div c_div k_div
  have b_div := F_div.binds (ps := ["_law_one", "_law_other"]) fun _ _ _ _ _ _ us hl => match us, hl with | [_, _], _ => rfl
  have m_div := PySem.W.mg_of X G a_div
  have F_shr := fun_mk (st := s_shr) l_shr c_shr k_shr
  have b_shr := F_shr.binds (ps := ["_law_cell"]) fun _ _ _ _ _ _ us hl => match us, hl with | [_], _ => rfl
  have m_shr := PySem.W.mg_of X G a_shr
  have F_row := fun_mk (st := s_row) l_row c_row k_row
  have b_row := F_row.binds (ps := ["_law_n"]) fun _ _ _ _ _ _ us hl => match us, hl with | [_], _ => rfl
  have m_row := PySem.W.mg_of X G a_row
  have F_right := fun_mk (st := s_right) l_right c_right k_right
  have b_right := F_right.binds (ps := ["_law_found", "_law_top", "_law_bottom"]) fun _ _ _ _ _ _ us hl => match us, hl with | [_, _, _], _ => rfl
  have m_right := PySem.W.mg_of X G a_right
  have F_all := fun_mk (st := s_all) l_all c_all k_all
  have b_all := F_all.binds (ps := ["_law_n", "_law_p"]) fun _ _ _ _ _ _ us hl => match us, hl with | [_, _], _ => rfl
  have m_all := PySem.W.mg_of X G a_all
  have F_law := fun_mk (st := s_law) l_law c_law k_law
  have b_law := F_law.binds (ps := ["_law_script"]) fun _ _ _ _ _ _ us hl => match us, hl with | [_], _ => rfl
  have m_law := PySem.W.mg_of X G a_law
  refine ⟨PySem.W.fnOf "law" "law" (defArgs s_law) (defBody s_law) (defScope s_law) .none kV_law dc_law pm_law an_law cd_law ct_law, fun s v => .of_eq rfl, fun base _ _ => ?_⟩
  have G1 := ok_whole (P := l.prog) (w := w) (base := base) F_whole T
  have G2 := ok_cd (P := l.prog) (w := w) (base := base) F_cd T
  have G3 := ok_frac (P := l.prog) (w := w) (base := base) F_frac T cf (G1.mono (by decide)) b_whole k_whole m_whole (G2.mono (by decide)) b_cd k_cd m_cd
  have G4 := ok_cho (P := l.prog) (w := w) (base := base) F_cho T
  have G5 := ok_pow (P := l.prog) (w := w) (base := base) F_pow T
  have G5a := ok_wtop (P := l.prog) (w := w) (base := base) F_wtop T G4 b_cho k_cho m_cho G5 b_pow k_pow m_pow
  have G6 := ok_wgt (P := l.prog) (w := w) (base := base) F_wgt T (G5a.mono (by decide)) b_wtop k_wtop m_wtop (G5.mono (by decide)) b_pow k_pow m_pow G3 b_frac k_frac m_frac
  have G7 := ok_div (P := l.prog) (w := w) (base := base) F_div T
  have G8 := ok_shr (P := l.prog) (w := w) (base := base) F_shr T G7 b_div k_div m_div
  have G9 := ok_row (P := l.prog) (w := w) (base := base) F_row T
  have G10 := ok_right (P := l.prog) (w := w) (base := base) F_right T G7 b_div k_div m_div
  have G11 := ok_all (P := l.prog) (w := w) (base := base) F_all T (G9.mono (by decide)) b_row k_row m_row (G10.mono (by decide)) b_right k_right m_right G6 b_wgt k_wgt m_wgt
  have G12 := ok_cell (P := l.prog) (w := w) (base := base) F_cell T
  exact ok_law F_law T (G12.mono (by decide)) b_cell k_cell m_cell (G8.mono (by decide)) b_shr k_shr m_shr (G11.mono (by decide)) b_all k_all m_all
theorem walk {l : PySem.W.OpenLaw} {q : Program} {loose : List Str} {XP : (Str → Option Value) → Heap → Prop} {YP : World → Heap → Prop} {d : DefRec} {K : Params → PySem.W.Frag} (hn : l.most = some 63) (hdf : d.params.defaults = [])
    (hY : ∀ (w : World) (h : Heap), YP w h → (K w.params).In h)
    (F : ∀ (w : World) (mg : Str → Option Value) (fa : Addr) (h : Heap), (K w.params).In h → h.Ns mainGlobals mg → mg d.name = some (.ref fa) →
      ∃ fd : FuncData, (∀ (s : Shared) (u : Value), BindsTo s fd ⟨[u], []⟩ [("_law_script", u)]) ∧ ∀ base : Heap, (K w.params).In base → base.Ns mainGlobals mg → FnOk l.prog w (K w.params) mg base CX0 7 fa fd ["_law_script"] (spLaw (K w.params))) :
    PySem.W.WalkO q loose XP YP l.row.toRowW d [] (fun f vs => PySem.call f vs) :=
  L2.walk_ofB (n := 63) (k := 7) (x := "_law_script") (CX := fun _ => CX0) (sp := fun w => spLaw (K w.params)) hn (by decide) hdf ⟨rfl, by decide, by decide⟩ hY F (fun _ _ a ns hl hb _ hS => ⟨a, ns, rfl, hS, hl, hb, fun _ => rfl⟩) fun _ _ _ _ _ z => z
end K6
open PySem PySem.W PyProof.Rows
set_option maxRecDepth 100000 in
set_option maxHeartbeats 0 in
theorem PySem.Challenge.cw_surestretch_k06_weights_holds : PySem.Challenge.rw_surestretch_k06_weights.Holds := by
  w_on; o_law; k_head; (case hw => w_witness2)
  k_fill
  refine K6.walk (l := PySem.Challenge.rw_surestretch_k06_weights) rfl rfl (fun w h Y => PySem.W.kIn_of Y) ?F
  case F =>
    intro w mg fa h KX G hmg
    refine' K6.all_mk KX G hmg ?a_cho ?l_cho ?c_cho ?k_cho ?a_whole ?l_whole ?c_whole ?k_whole ?a_cd ?l_cd ?c_cd ?k_cd ?a_frac ?l_frac ?c_frac ?k_frac ?a_pow ?l_pow ?c_pow ?k_pow ?a_wtop ?l_wtop ?c_wtop ?k_wtop ?a_wgt ?l_wgt ?c_wgt ?k_wgt ?a_cell ?l_cell ?c_cell ?k_cell ?a_div ?l_div ?c_div ?k_div ?a_shr ?l_shr ?c_shr ?k_shr ?a_row ?l_row ?c_row ?k_row ?a_right ?l_right ?c_right ?k_right ?a_all ?l_all ?c_all ?k_all ?a_law ?l_law ?c_law ?k_law ?z_range ?z_min ?z_len ?z_isinstance ?z_int ?z_bool ?z_tuple ?z_abs ?z_zip ?n_StretchError ?n_NoNumber ?x_NoNumber ?ic_NoNumber ?ga_NoNumber ?gt_NoNumber ?cl_NoNumber ?sg_NoNumber ?tk_NoNumber ?ob_NoNumber ?be_NoNumber
    (case a_cho => k_is); (case l_cho => k_is); (case c_cho => k_is); (case k_cho => k_is); (case a_whole => k_is); (case l_whole => k_is); (case c_whole => k_is); (case k_whole => k_is)
    (case a_cd => k_is); (case l_cd => k_is); (case c_cd => k_is); (case k_cd => k_is); (case a_frac => k_is); (case l_frac => k_is); (case c_frac => k_is); (case k_frac => k_is)
    (case a_pow => k_is); (case l_pow => k_is); (case c_pow => k_is); (case k_pow => k_is); (case a_wtop => k_is); (case l_wtop => k_is); (case c_wtop => k_is); (case k_wtop => k_is)
    (case a_wgt => k_is); (case l_wgt => k_is); (case c_wgt => k_is); (case k_wgt => k_is); (case a_cell => k_is); (case l_cell => k_is); (case c_cell => k_is); (case k_cell => k_is)
    (case a_div => k_is); (case l_div => k_is); (case c_div => k_is); (case k_div => k_is); (case a_shr => k_is); (case l_shr => k_is); (case c_shr => k_is); (case k_shr => k_is)
    (case a_row => k_is); (case l_row => k_is); (case c_row => k_is); (case k_row => k_is); (case a_right => k_is); (case l_right => k_is); (case c_right => k_is); (case k_right => k_is)
    (case a_all => k_is); (case l_all => k_is); (case c_all => k_is); (case k_all => k_is); (case a_law => k_is); (case l_law => k_is); (case c_law => k_is); (case k_law => k_is)
    (case z_range => k_is); (case z_min => k_is); (case z_len => k_is); (case z_isinstance => k_is); (case z_int => k_is); (case z_bool => k_is); (case z_tuple => k_is); (case z_abs => k_is)
    (case z_zip => k_is); (case n_StretchError => k_is); (case n_NoNumber => k_is); (case x_NoNumber => k_exc); (case ic_NoNumber => k_is); (case ga_NoNumber => k_is); (case gt_NoNumber => k_is); (case cl_NoNumber => k_is)
    (case sg_NoNumber => k_is); (case tk_NoNumber => k_is); (case ob_NoNumber => k_is); (case be_NoNumber => k_is)

