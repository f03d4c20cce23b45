import PyProof.Rows.All
import PyProof.Rows.SortShell
import KE.KSortAsk
import KE.KDictSum
import PyProof.DictItemsLoops
import PyProof.DictItems
import PyProof.DictWalks
import PyProof.DictIter
import PyProof.Rows.CallKwBuiltin
import KE.KRevIter
import PyProof.EnumMake
import Wide.All
import OpenK.AllK
import Wide.FinOn
import Lean
import PyProof.EqAt
import PyProof.EqKinds
import PyProof.TupleCall
import PySem.Challenge.RW_surestretch_k40_whole_values_changed
set_option Elab.async false
set_option linter.all false
set_option maxRecDepth 100000
namespace L2
open PySem PySem.Spec PyProof.Rows
noncomputable abbrev Key := Sum Int Str
noncomputable def keyIs : Key → Value → Bool
  | .inl k, v => Value.isInt k v
  | .inr x, v => Value.isStrOf x v
noncomputable def keyH (w : World) : Key → Int
  | .inl k => hashInt k
  | .inr x => hashStr w x
theorem keyIs_shape : ∀ {k : Key} {v : Value}, keyIs k v = true → (∃ i t, k = Sum.inl i ∧ v = Value.int i t) ∨ (∃ x t, k = Sum.inr x ∧ v = Value.str x t)
  | .inl i, v, h => by
    obtain ⟨t, e⟩ := Value.isInt_shape (k := i) (v := v) h
    exact .inl ⟨i, t, rfl, e⟩
  | .inr x, v, h => by
    obtain ⟨t, e⟩ := Value.isStrOf_shape (x := x) (v := v) h
    exact .inr ⟨x, t, rfl, e⟩
theorem keyIs_int (i : Int) (t : Tok) : keyIs (.inl i) (.int i t) = true := by simp [keyIs, Value.isInt]
theorem keyIs_str (x : Str) (t : Tok) : keyIs (.inr x) (.str x t) = true := by simp [keyIs, Value.isStrOf]
theorem key_ll (a b : Int) : decide ((Sum.inl a : Key) = Sum.inl b) = (a == b) := by
  by_cases e : a = b
  · subst e; simp
  · have h : ¬ (Sum.inl a : Key) = Sum.inl b := fun q => e (Sum.inl.inj q)
    rw [decide_eq_false h]
    exact (beq_eq_false_iff_ne.mpr e).symm
theorem key_rr (a b : Str) : decide ((Sum.inr a : Key) = Sum.inr b) = decide (a = b) := by
  by_cases e : a = b
  · subst e; simp
  · have h : ¬ (Sum.inr a : Key) = Sum.inr b := fun q => e (Sum.inr.inj q)
    rw [decide_eq_false h, decide_eq_false e]
theorem key_lr (a : Int) (b : Str) : decide ((Sum.inl a : Key) = Sum.inr b) = false := decide_eq_false (fun q => nomatch q)
theorem key_rl (a : Str) (b : Int) : decide ((Sum.inr a : Key) = Sum.inl b) = false := decide_eq_false (fun q => nomatch q)
noncomputable def mixKind (prog : Program) (w : World) : PySem.KeyKind prog w Key where
  is := keyIs
  hash := keyH w
  inj := fun v a b ha hb => by
    rcases keyIs_shape ha with ⟨i, t, rfl, rfl⟩ | ⟨x, t, rfl, rfl⟩
    · rcases keyIs_shape hb with ⟨j, u, rfl, e⟩ | ⟨y, u, rfl, e⟩
      · injection e with e1 _; rw [e1]
      · exact nomatch e
    · rcases keyIs_shape hb with ⟨j, u, rfl, e⟩ | ⟨y, u, rfl, e⟩
      · exact nomatch e
      · injection e with e1 _; rw [e1]
  byValue := fun k v h => by
    rcases keyIs_shape h with ⟨i, t, rfl, rfl⟩ | ⟨x, t, rfl, rfl⟩ <;> rfl
  pyHash := fun hv h => by
    rcases keyIs_shape hv with ⟨i, t, rfl, rfl⟩ | ⟨x, t, rfl, rfl⟩
    · exact wpAny_pyHash_int h
    · exact wpAny_pyHash_str h
  eqBool := fun hu hv h => by
    rcases keyIs_shape hu with ⟨i, t, rfl, rfl⟩ | ⟨x, t, rfl, rfl⟩
    · rcases keyIs_shape hv with ⟨j, u, rfl, rfl⟩ | ⟨y, u, rfl, rfl⟩
      · rw [key_ll] at h; exact wpAny_eqBool_int h
      · rw [key_lr] at h; exact SeqAt.EqAt.int_str i t y u _ _ _ _ h
    · rcases keyIs_shape hv with ⟨j, u, rfl, rfl⟩ | ⟨y, u, rfl, rfl⟩
      · rw [key_rl] at h; exact SeqAt.EqAt.str_int x t j u _ _ _ _ h
      · rw [key_rr] at h; exact wpAny_eqBool_str h
  «strs» := fun k x t v h => by
    rcases keyIs_shape h with ⟨i, u, rfl, e⟩ | ⟨y, u, rfl, e⟩
    · exact nomatch e
    · injection e with e1 _
      subst e1
      cases v <;> rfl
theorem mixKind_int (prog : Program) (w : World) (i : Int) (t : Tok) : (mixKind prog w).is (.inl i) (.int i t) = true := keyIs_int i t
theorem mixKind_str (prog : Program) (w : World) (x : Str) (t : Tok) : (mixKind prog w).is (.inr x) (.str x t) = true := keyIs_str x t
end L2
namespace L2
open PySem PySem.Spec PyProof.Rows
inductive V where
  | non | bl (b : Bool) | int (i : Int) | str (x : Str) | byt (b : Array UInt8) | flt (b : UInt64) | ref (a : Addr) | ty (n : String)
  deriving DecidableEq
noncomputable def RelV : V → Value → Prop
  | .non, u => u = Value.none
  | .bl b, u => u = Value.bool b
  | .int i, u => ∃ t, u = Value.int i t
  | .str x, u => ∃ t, u = Value.str x t
  | .byt b, u => ∃ t, u = Value.bytes b t
  | .flt b, u => ∃ t, u = Value.float b t
  | .ref a, u => u = Value.ref a
  | .ty n, u => u = Value.type n
noncomputable abbrev Vals : List V → List Value → Prop := Paired RelV
theorem Vals.length {xs : List V} {us : List Value} (r : Vals xs us) : xs.length = us.length := Paired.length r
theorem Vals.get : ∀ {xs : List V} {us : List Value} {i : Nat} {x : V}, Vals xs us → xs[i]? = some x → ∃ u, us[i]? = some u ∧ RelV x u
  | _, _, _, _, .nil, e => by simp at e
  | _, _, 0, _, .cons r _, e => by simp at e; subst e; exact ⟨_, rfl, r⟩
  | _, _, i + 1, x, .cons _ t, e => by
    obtain ⟨u, h1, h2⟩ := Vals.get (i := i) (x := x) t (by simpa using e)
    exact ⟨u, by simpa using h1, h2⟩
theorem Vals.set {x : V} {u : Value} (r : RelV x u) : ∀ {xs : List V} {us : List Value} (i : Nat), Vals xs us → Vals (xs.set i x) (us.set i u)
  | _, _, _, .nil => .nil
  | _, _, 0, .cons _ t => .cons r t
  | _, _, i + 1, .cons q t => .cons q (Vals.set r i t)
theorem Vals.append : ∀ {xs ys : List V} {us ws : List Value}, Vals xs us → Vals ys ws → Vals (xs ++ ys) (us ++ ws)
  | _, _, _, _, .nil, s => s
  | _, _, _, _, .cons r t, s => .cons r (Vals.append t s)
theorem Vals.take : ∀ {xs : List V} {us : List Value} (n : Nat), Vals xs us → Vals (xs.take n) (us.take n)
  | _, _, 0, _ => .nil
  | _, _, _ + 1, .nil => .nil
  | _, _, n + 1, .cons r t => .cons r (Vals.take n t)
theorem Vals.drop : ∀ {xs : List V} {us : List Value} (n : Nat), Vals xs us → Vals (xs.drop n) (us.drop n)
  | _, _, 0, r => r
  | _, _, _ + 1, .nil => .nil
  | _, _, n + 1, .cons _ t => Vals.drop n t
theorem Vals.none_of : ∀ {xs : List V} {us : List Value} {i : Nat}, Vals xs us → xs[i]? = none → us[i]? = none := fun {xs us i} r e => by
  have h1 := r.length
  have h2 : xs.length ≤ i := List.getElem?_eq_none_iff.mp e
  exact List.getElem?_eq_none_iff.mpr (by omega)
noncomputable def RelO : Option V → Option Value → Prop
  | some v, some u => RelV v u
  | none, none => True
  | _, _ => False
noncomputable def KV {κ : Type} : List (κ × V) → List (κ × Value) → Prop := Paired fun (p : κ × V) (q : κ × Value) => p.1 = q.1 ∧ RelV p.2 q.2
noncomputable def kV : Key → V
  | .inl i => .int i
  | .inr x => .str x
inductive HO where
  | lst (xs : List V)
  | tup (xs : List V)
  | dK (kvs : List (Key × V)) | dT (kvs : List (List Key × V))
  | set (S : Int → Bool) (n : Nat)
  | ins (C dx : Addr) (fs : List (Str × V))
  | own (x : Addr)
  | xd (fs : List (Str × V))
  | met (f x : Addr)
  | rng (lo hi : Int)
  | frz (o : Obj) (u : HO)
  | tbl (ps : Array Value)
  | ext (φ : Heap → Prop)
noncomputable abbrev Hp := Addr → Option HO
noncomputable def upd (H : Hp) (a : Addr) (o : HO) : Hp := fun b => if b = a then some o else H b
theorem upd_same {H : Hp} {a : Addr} {o : HO} : upd H a o a = some o := by unfold upd; rw [if_pos rfl]
theorem upd_ne {H : Hp} {a b : Addr} {o : HO} (h : b ≠ a) : upd H a o b = H b := by unfold upd; rw [if_neg h]
theorem ne_of {H : Hp} {a b : Addr} {o u : HO} (h : H a = some o) (h' : H b = some u) (d : o ≠ u) : a ≠ b := by
  intro e; subst e; rw [h] at h'; exact d (Option.some.inj h')
theorem ne_of_none {H : Hp} {a b : Addr} {o : HO} (h : H a = some o) (h' : H b = none) : a ≠ b := by
  intro e; subst e; rw [h] at h'; cases h'
section
variable (P : Program) (w : World)
noncomputable def ObjOk (H : Hp) (h : Heap) (a : Addr) : HO → Prop
  | .lst xs => xs.length ≤ sizeLine ∧ ∃ (its : List Value) (n : Nat), Vals xs its ∧ h.get? a = some { cls := .type "list", data := .seq its.toArray n }
  | .tup xs => xs.length ≤ sizeLine ∧ ∃ its : List Value, Vals xs its ∧ IsTup h a its.toArray
  | .dK kvs => kvs.length ≤ sizeLine ∧ (a == sysModules) = false ∧ ∃ vs, KV kvs vs ∧ h.DictOf (mixKind P w) a vs
  | .dT kvs => kvs.length ≤ sizeLine ∧ (a == sysModules) = false ∧ ∃ xs : List (List Key × Addr × Value),
      Paired (fun (p : List Key × V) (q : List Key × Addr × Value) => p.1 = q.1 ∧ H q.2.1 = some (.tup (p.1.map kV)) ∧ RelV p.2 q.2.2) kvs xs ∧
      ∃ o es ep, h.get? a = some o ∧ o.ExactDict ∧ o.data = .dict es ep ∧ es.toList = xs.map (entryOfKey (tupleKind (mixKind P w))) ∧ (xs.map (·.1)).Nodup
  | .set S n => h.SetOf (intKind P w) a S n
  | .ins C dx fs => H dx = some (.own a) ∧ fs.length ≤ 1000 ∧ dx ≠ a ∧ h.get? a = some (PySem.W.instObj C dx) ∧
      ∃ mA, h.Ns1 dx mA ∧ (∀ f, RelO (fs.lookup f) (mA f)) ∧ PySem.Within mA (fs.map (·.1))
  | .own _ => ∃ o, h.get? a = some o
  | .xd fs => ∃ mA, h.Ns1 a mA ∧ ∀ f, RelO (fs.lookup f) (mA f)
  | .rng lo hi => ∃ t u v, h.get? a = some { cls := .type "range", data := .fields #[.int lo t, .int hi u, .int 1 v] }
  | .frz o u => h.get? a = some o ∧ ObjOk H h a u
  | .tbl ps => h.get? a = some { cls := .none, data := .fields ps }
  | .met f x => h.get? a = some (PySem.W.methodObj (.ref f) (.ref x))
  | .ext φ => φ h ∧ (∃ o, h.get? a = some o) ∧ ∀ h1 h2 : Heap, φ h1 → (∀ o, h1.get? a = some o → h2.get? a = some o) → φ h2
noncomputable def HOk (H : Hp) (h : Heap) : Prop := ∀ a o, H a = some o → ObjOk P w H h a o
end
section
variable {P : Program} {w : World} {H H' : Hp} {h h' : Heap} {a : Addr} {o : HO}
theorem ObjOk.lt (x : ObjOk P w H h a o) : a < h.objs.size := by
  cases o with
  | lst xs => obtain ⟨_, _, _, _, e⟩ := x; exact Heap.lt_size e
  | tup xs => obtain ⟨_, _, _, p⟩ := x; exact p.lt
  | dK kvs => obtain ⟨_, _, _, _, o, _, _, e, _⟩ := x; exact Heap.lt_size e
  | dT kvs => obtain ⟨_, _, _, _, o, _, _, e, _⟩ := x; exact Heap.lt_size e
  | set S n => obtain ⟨o, _, _, _, e, _⟩ := x; exact Heap.lt_size e
  | ins C dx fs => obtain ⟨_, _, _, e, _⟩ := x; exact Heap.lt_size e
  | own y => obtain ⟨_, e⟩ := x; exact Heap.lt_size e
  | xd fs => obtain ⟨_, ⟨_, _, _, e, _⟩, _⟩ := x; exact Heap.lt_size e
  | rng lo hi => obtain ⟨_, _, _, e⟩ := x; exact Heap.lt_size e
  | frz ob u => obtain ⟨e, _⟩ := x; exact Heap.lt_size e
  | tbl ps => exact Heap.lt_size (show h.get? a = some _ from x)
  | met f y => exact Heap.lt_size (show h.get? a = some _ from x)
  | ext φ => obtain ⟨_, ⟨_, e⟩, _⟩ := x; exact Heap.lt_size e
theorem Paired.mapP {α β : Type} {F G : α → β → Prop} : ∀ {l₁ : List α} {l₂ : List β}, Paired F l₁ l₂ → (∀ a b, F a b → G a b) → Paired G l₁ l₂
  | _, _, .nil, _ => .nil
  | _, _, .cons r t, f => .cons (f _ _ r) (Paired.mapP t f)
theorem ObjOk.stay (x : ObjOk P w H h a o) (k : ∀ b u, (b = a ∨ H b = some (.own a)) → h.get? b = some u → h'.get? b = some u)
    (ho : ∀ b, H b = some (.own a) → H' b = some (.own a)) (ht : ∀ b xs, H b = some (.tup xs) → H' b = some (.tup xs)) : ObjOk P w H' h' a o := by
  induction o with
  | lst xs => obtain ⟨z, its, n, r, e⟩ := x; exact ⟨z, its, n, r, k _ _ (.inl rfl) e⟩
  | tup xs => obtain ⟨z, its, r, ob, e, c⟩ := x; exact ⟨z, its, r, ob, k _ _ (.inl rfl) e, c⟩
  | dK kvs => obtain ⟨z, y, vs, r, ob, es, ep, e, c⟩ := x; exact ⟨z, y, vs, r, ob, es, ep, k _ _ (.inl rfl) e, c⟩
  | dT kvs =>
    obtain ⟨z, y, xs, r, ob, es, ep, e, c⟩ := x
    exact ⟨z, y, xs, Paired.mapP r fun p q z => ⟨z.1, ht _ _ z.2.1, z.2.2⟩, ob, es, ep, k _ _ (.inl rfl) e, c⟩
  | set S n => obtain ⟨ob, es, ep, t, e, c⟩ := x; exact ⟨ob, es, ep, t, k _ _ (.inl rfl) e, c⟩
  | ins C dx fs =>
    obtain ⟨d, z, ne, e, mA, ⟨od, es, ep, e2, c⟩, r⟩ := x
    exact ⟨ho _ d, z, ne, k _ _ (.inl rfl) e, mA, ⟨od, es, ep, k _ _ (.inr d) e2, c⟩, r⟩
  | own y => obtain ⟨ob, e⟩ := x; exact ⟨ob, k _ _ (.inl rfl) e⟩
  | xd fs => obtain ⟨mA, ⟨od, es, ep, e, c⟩, r⟩ := x; exact ⟨mA, ⟨od, es, ep, k _ _ (.inl rfl) e, c⟩, r⟩
  | rng lo hi => obtain ⟨t, u, v, e⟩ := x; exact ⟨t, u, v, k _ _ (.inl rfl) e⟩
  | frz ob u ih => obtain ⟨e, q⟩ := x; exact ⟨k _ _ (.inl rfl) e, ih q⟩
  | tbl ps =>
    have e : h.get? a = some { cls := .none, data := .fields ps } := x
    show h'.get? a = some { cls := .none, data := .fields ps }
    exact k a _ (.inl rfl) e
  | met f y =>
    have e : h.get? a = some (PySem.W.methodObj (.ref f) (.ref y)) := x
    show h'.get? a = some (PySem.W.methodObj (.ref f) (.ref y))
    exact k a _ (.inl rfl) e
  | ext φ => obtain ⟨p, ⟨o, e⟩, st⟩ := x; exact ⟨st _ _ p fun o q => k _ _ (.inl rfl) q, ⟨o, k _ _ (.inl rfl) e⟩, st⟩
theorem HOk.lt (x : HOk P w H h) (e : H a = some o) : a < h.objs.size := (x a o e).lt
theorem HOk.fresh (x : HOk P w H h) (e : h.objs.size ≤ a) : H a = none := by
  cases q : H a with
  | none => rfl
  | some u => exact absurd (Nat.lt_of_lt_of_le (x.lt q) e) (Nat.lt_irrefl _)
theorem HOk.kept (x : HOk P w H h) (k : ∀ b u, h.get? b = some u → h'.get? b = some u) : HOk P w H h' := fun a o e =>
  (x a o e).stay (fun b u _ q => k b u q) (fun _ q => q) fun _ _ q => q
theorem HOk.laid (x : HOk P w H h) (k : ∀ b u, h.get? b = some u → h'.get? b = some u) (hp : h.objs.size ≤ a) (new : ObjOk P w (upd H a o) h' a o) : HOk P w (upd H a o) h' := fun b u e => by
  have hn := x.fresh hp
  by_cases hb : b = a
  · subst hb; rw [upd_same] at e; cases e; exact new
  · rw [upd_ne hb] at e
    exact (x b u e).stay (fun c v _ q => k c v q) (fun c q => by rw [upd_ne (ne_of_none q hn)]; exact q) fun c xs q => by rw [upd_ne (ne_of_none q hn)]; exact q
end
noncomputable def Rd (H : Hp) (a : Addr) (u : HO) : Prop := H a = some u ∨ ∃ o, H a = some (.frz o u)
theorem Rd.of {H : Hp} {a : Addr} {u : HO} (h : H a = some u) : Rd H a u := .inl h
theorem Rd.ok {P : Program} {w : World} {H : Hp} {h : Heap} {a : Addr} {u : HO} (r : Rd H a u) (x : HOk P w H h) : ObjOk P w H h a u := by
  rcases r with r | ⟨o, r⟩
  · exact x a u r
  · obtain ⟨_, q⟩ := x a _ r
    exact q
noncomputable def Mut : Option HO → Prop
  | some (.lst _) => True
  | some (.dK _) => True
  | some (.dT _) => True
  | some (.set _ _) => True
  | some (.ins _ _ _) => True
  | some (.ext _) => True
  | _ => False
section
variable {P : Program} {w : World} {H : Hp} {h h' : Heap} {x e : Addr} {o' : HO}
theorem HOk.write (ok : HOk P w H h) (mu : Mut (H x)) (he : e = x ∨ H e = some (.own x)) (k : ∀ b u, b ≠ e → h.get? b = some u → h'.get? b = some u) (heo : ∃ u, h'.get? e = some u)
    (new : ObjOk P w (upd H x o') h' x o') : HOk P w (upd H x o') h' := fun b u q => by
  have nown : ∀ c y, H c = some (.own y) → c ≠ x := fun c y r z => by subst z; rw [r] at mu; exact mu
  have ntup : ∀ c xs, H c = some (.tup xs) → c ≠ x := fun c xs r z => by subst z; rw [r] at mu; exact mu
  by_cases hb : b = x
  · subst hb; rw [upd_same] at q; cases q; exact new
  · rw [upd_ne hb] at q
    by_cases hbe : b = e
    · have q' : H b = some (.own x) := by
        rcases he with z | z
        · exact absurd (hbe.trans z) hb
        · rw [hbe]; exact z
      rw [q] at q'; cases q'
      obtain ⟨v, hv⟩ := heo
      exact ⟨v, by rw [hbe]; exact hv⟩
    · refine (ok b u q).stay (fun c v hc r => k c v ?_ r) (fun c r => by rw [upd_ne (nown c b r)]; exact r) fun c xs r => by rw [upd_ne (ntup c xs r)]; exact r
      rcases hc with rfl | hc
      · exact hbe
      · rintro rfl
        rcases he with z | z
        · exact nown c b hc z
        · rw [hc] at z; cases z; exact hb rfl
end
structure Un (fs ex : List Addr) (H H' : Hp) (h h' : Heap) : Prop where
  keep : ∀ b o, h.get? b = some o → H b = none → b ∉ fs → b ∉ ex → h'.get? b = some o
  slot : ∀ b o, h.get? b = some o → H b = none → b ∈ fs → b ∉ ex → ∃ sl, h'.get? b = some { o with slots := sl }
  free : ∀ b o, h.get? b = some o → H b = none → b ∉ ex → H' b = none
  there : ∀ b o, h.get? b = some o → b ∉ ex → ∃ o', h'.get? b = some o'
  tups : ∀ b xs, H b = some (.tup xs) → H' b = some (.tup xs)
  frzs : ∀ b o u, H b = some (.frz o u) → H' b = some (.frz o u)
  tbls : ∀ b ps, H b = some (.tbl ps) → ∃ more, H' b = some (.tbl (ps ++ more))
section
variable {fs fs' ex ex' : List Addr} {H H1 H2 : Hp} {h h1 h2 h' : Heap} {a x e : Addr} {o : HO}
theorem Un.any (u : Un fs ex H H1 h h1) {b : Addr} {ob : Obj} (q : h.get? b = some ob) (n : H b = none) (hx : b ∉ ex) : ∃ sl, h1.get? b = some { ob with slots := sl } := by
  by_cases hb : b ∈ fs
  · exact u.slot b ob q n hb hx
  · exact ⟨ob.slots, u.keep b ob q n hb hx⟩
theorem Un.trans (a : Un fs ex H H1 h h1) (b : Un fs ex H1 H2 h1 h2) : Un fs ex H H2 h h2 where
  keep := fun c ob q n hc hx => b.keep c ob (a.keep c ob q n hc hx) (a.free c ob q n hx) hc hx
  slot := fun c ob q n hc hx => by
    obtain ⟨sl, e1⟩ := a.slot c ob q n hc hx
    obtain ⟨sl', e2⟩ := b.slot c _ e1 (a.free c ob q n hx) hc hx
    exact ⟨sl', e2⟩
  free := fun c ob q n hx => by
    obtain ⟨o', e1⟩ := a.there c ob q hx
    exact b.free c o' e1 (a.free c ob q n hx) hx
  there := fun c ob q hx => by
    obtain ⟨o', e1⟩ := a.there c ob q hx
    exact b.there c o' e1 hx
  tups := fun c xs q => b.tups c xs (a.tups c xs q)
  frzs := fun c ob xs q => b.frzs c ob xs (a.frzs c ob xs q)
  tbls := fun c ps q => by
    obtain ⟨m1, e1⟩ := a.tbls c ps q
    obtain ⟨m2, e2⟩ := b.tbls c _ e1
    exact ⟨m1 ++ m2, by rw [e2, Array.append_assoc]⟩
theorem Un.kept (k : ∀ b u, h.get? b = some u → h'.get? b = some u) : Un fs ex H H h h' :=
  ⟨fun b ob q _ _ _ => k b ob q, fun b ob q _ _ _ => ⟨ob.slots, k b ob q⟩, fun _ _ _ n _ => n, fun b ob q _ => ⟨ob, k b ob q⟩, fun _ _ q => q, fun _ _ _ q => q, fun _ ps q => ⟨#[], by rw [q]; simp⟩⟩
theorem Un.refl : Un fs ex H H h h := Un.kept fun _ _ q => q
theorem Un.laid (k : ∀ b u, h.get? b = some u → h'.get? b = some u) (hp : h.objs.size ≤ a) (hn : H a = none) : Un fs ex H (upd H a o) h h' where
  keep := fun b u q _ _ _ => k b u q
  slot := fun b u q _ _ _ => ⟨u.slots, k b u q⟩
  free := fun b u q n _ => by rw [upd_ne (Nat.ne_of_lt (Nat.lt_of_lt_of_le (Heap.lt_size q) hp))]; exact n
  there := fun b u q _ => ⟨u, k b u q⟩
  tups := fun b xs q => by rw [upd_ne (ne_of_none q hn)]; exact q
  frzs := fun b u xs q => by rw [upd_ne (ne_of_none q hn)]; exact q
  tbls := fun b ps q => ⟨#[], by rw [upd_ne (ne_of_none q hn), q]; simp⟩
theorem Un.write (mu : Mut (H x)) (he : e = x ∨ H e = some (.own x)) (k : ∀ b u, b ≠ e → h.get? b = some u → h'.get? b = some u) (heo : ∃ u, h'.get? e = some u) : Un fs ex H (upd H x o) h h' := by
  have hx : ∀ b, H b = none → b ≠ x := fun b n z => by subst z; rw [n] at mu; exact mu
  have hb : ∀ b, H b = none → b ≠ e := fun b n z => by
    subst z
    rcases he with r | r
    · exact hx b n r
    · rw [n] at r; cases r
  have hm : ∀ b u, H b = some u → ¬ Mut (some u) → b ≠ x := fun b u q nm z => by subst z; rw [q] at mu; exact nm mu
  refine ⟨fun b u q n _ _ => k b u (hb b n) q, fun b u q n _ _ => ⟨u.slots, k b u (hb b n) q⟩, fun b u q n _ => by rw [upd_ne (hx b n)]; exact n, fun b u q _ => ?_,
    fun b xs q => by rw [upd_ne (hm b _ q fun z => z)]; exact q, fun b u xs q => by rw [upd_ne (hm b _ q fun z => z)]; exact q, fun b ps q => ⟨#[], by rw [upd_ne (hm b _ q fun z => z), q]; simp⟩⟩
  by_cases hbe : b = e
  · subst hbe; exact heo
  · exact ⟨u, k b u hbe q⟩
theorem Un.mono (u : Un fs ex H H1 h h1) (hs : ∀ b ∈ fs, b ∈ fs') (hx : ∀ b ∈ ex, b ∈ ex') : Un fs' ex' H H1 h h1 :=
  ⟨fun b ob q n hb he => u.keep b ob q n (fun z => hb (hs b z)) fun z => he (hx b z), fun _ _ q n _ he => u.any q n fun z => he (hx _ z), fun b ob q n he => u.free b ob q n fun z => he (hx b z), fun b ob q he => u.there b ob q fun z => he (hx b z), u.tups, u.frzs, u.tbls⟩
end
noncomputable def trk (h : Heap) (H : Hp) : List Addr := (List.range h.objs.size).filter fun a => (H a).isSome
noncomputable def hidT (h : Heap) (H : Hp) : Heap := PySem.W.hideAll h (trk h H)
theorem hidT_size (h : Heap) (H : Hp) : (hidT h H).objs.size = h.objs.size := PySem.W.hideAll_size _ _
theorem hidT_get {h : Heap} {H : Hp} {b : Addr} {o : Obj} (e : h.get? b = some o) (n : H b = none) : (hidT h H).get? b = some o :=
  PySem.W.hideAll_get _ e fun hm => by
    have q : (H b).isSome = true := (List.mem_filter.mp hm).2
    rw [n] at q; simp at q
theorem of_hidT {h : Heap} {H : Hp} {b : Addr} {o : Obj} (e : (hidT h H).get? b = some o) : h.get? b = some o ∧ H b = none := by
  have e' : h.get? b = some o := PySem.W.of_hideAll (trk h H) e
  refine ⟨e', ?_⟩
  cases q : H b with
  | none => rfl
  | some x =>
    have hm : b ∈ trk h H := List.mem_filter.mpr ⟨List.mem_range.mpr (Heap.lt_size e'), by simp [q]⟩
    have z : (hidT h H).get? b = none := PySem.W.hideAll_none (trk h H) hm
    rw [z] at e; cases e
noncomputable def allNews (g h : Heap) (L : Addr) : List (Addr × Obj) := (List.range h.objs.size).filterMap fun a => if a = L ∨ (g.get? a).isSome = true then none else (h.get? a).map fun o => (a, o)
noncomputable def rest (g h : Heap) (L d : Addr) : List (Addr × Obj) := (allNews g h L).filter fun p => decide (p.1 ≠ d)
end L2
namespace L2
open PySem PySem.Spec PyProof.Rows
structure Mod (K : PySem.W.Frag) (mg : Str → Option Value) (base : Heap) : Prop where
  kin : K.In base
  glob : base.Ns mainGlobals mg
  blt : ∃ mb, base.Ns builtinsNs mb ∧ ∀ x : Str, x ≠ "__name__" → mb x = bootBuiltins x
  nolimit : base.NoLimit
structure Cx where
  prog : Program
  w : World
  K : PySem.W.Frag
  mg : Str → Option Value
  base : Heap
  A : Around
  N : List Str
  s₀ : Shared
  H₀ : Hp
  env : Env
  outer : List Env
  stack : List Env
  ex : List Addr
  fn : Str → Bool
  calm : Bool
  pn : List (Addr × Obj)
  xe : Value → Shared → Prop
noncomputable def frs (l : List Env) : List Addr := l.filterMap (·.frame)
noncomputable abbrev Cx.fs (X : Cx) : List Addr := frs X.outer
noncomputable def Vis (sc : Scope) (x : Str) : Prop := sc.names.lookup x = some .local ∨ sc.names.lookup x = some .cell ∨ sc.names.lookup x = some .free
noncomputable def Loc (sc : Scope) (x : Str) : Prop := sc.names.lookup x = some .local ∨ sc.names.lookup x = some .cell
noncomputable def Look (env : Env) (h : Heap) (m : Str → Option Value) (x : Str) (u : Value) : Prop :=
  (env.kindOf x = some .local ∧ m x = some u) ∨ ((env.kindOf x = some .cell ∨ env.kindOf x = some .free) ∧ ∃ c, env.cells.lookup x = some c ∧ h.IsCell c (some u))
structure Cx.Ok (X : Cx) : Prop where
  mod : Mod X.K X.mg X.base
  kind : X.env.scope.kind = .function
  glob : X.env.globals = mainGlobals
  blt : X.env.builtins = builtinsNs
  above : X.s₀.heap.objs.size ≤ X.env.locals
  inj : ∀ x y c, X.env.cells.lookup x = some c → X.env.cells.lookup y = some c → x = y
  has : ∀ x, (X.env.kindOf x = some .cell ∨ X.env.kindOf x = some .free) → ∃ c, X.env.cells.lookup x = some c
  cab : ∀ x c, X.fn x = true → X.env.cells.lookup x = some c → X.s₀.heap.objs.size ≤ c
  hd : X.calm = true → X.A.handled = none
  frames : X.A.frames = some X.stack
  stk : X.stack = X.outer ∨ (X.stack = X.env :: X.outer ∧ X.env.frame = some X.env.locals)
  exf : ∀ b ∈ X.ex, b ≠ X.env.locals ∧ ∀ x c, X.env.cells.lookup x = some c → c ≠ b
  bs : ∀ b o, X.base.get? b = some o → X.s₀.heap.get? b = some o ∧ X.H₀ b = none
  bsz : X.base.objs.size ≤ X.s₀.heap.objs.size
  noex : ∀ b o, X.base.get? b = some o → b ∉ X.ex
  exfs : ∀ b ∈ X.ex, b ∉ X.fs
  funs : X.s₀.heap.FunFrames X.base X.outer
  frf : ∀ b ∈ X.fs, X.H₀ b = none
structure Inv (X : Cx) (pins : List (Addr × Obj)) (σ : List (Option V)) (H : Hp) (s : Shared) : Prop where
  ok : X.Ok
  os : s.os = X.s₀.os
  bare : AllBare s.gens
  base : Un X.fs X.ex X.H₀ H X.s₀.heap s.heap
  loc : ∃ m, s.heap.Ns X.env.locals m ∧ ∀ (i : Nat) (x : Str) (v : V), X.N[i]? = some x → σ[i]? = some (some v) → Vis X.env.scope x → ∃ u, RelV v u ∧ Look X.env s.heap m x u
  cell : ∀ x c, X.env.cells.lookup x = some c → ∃ v, s.heap.IsCell c v
  free : H X.env.locals = none
  freeC : ∀ x c, X.env.cells.lookup x = some c → H c = none
  pin : ∀ p ∈ X.pn ++ pins, s.heap.get? p.1 = some p.2 ∧ H p.1 = none ∧ p.1 ≠ X.env.locals ∧ p.1 ∉ X.fs ∧ ∀ v, p.2.data ≠ .cell v
  hok : HOk X.prog X.w H s.heap
  len : σ.length = X.N.length
section
variable {X : Cx} {pins : List (Addr × Obj)} {σ : List (Option V)} {H H' : Hp} {s : Shared} {h' : Heap}
theorem Cx.Ok.nofr (ok : X.Ok) {b : Addr} {o : Obj} (e : X.base.get? b = some o) : b ∉ X.fs := fun hb => by
  have := (ok.funs.mem hb).1
  rw [e] at this; cases this
theorem Inv.bs (I : Inv X pins σ H s) : ∀ b o, X.base.get? b = some o → s.heap.get? b = some o ∧ H b = none := fun b o e =>
  ⟨I.base.keep b o (I.ok.bs b o e).1 (I.ok.bs b o e).2 (I.ok.nofr e) (I.ok.noex b o e), I.base.free b o (I.ok.bs b o e).1 (I.ok.bs b o e).2 (I.ok.noex b o e)⟩
theorem Inv.bk (I : Inv X pins σ H s) : ∀ b o, X.base.get? b = some o → s.heap.get? b = some o := fun b o e => (I.bs b o e).1
theorem Inv.mod (I : Inv X pins σ H s) : Mod X.K X.mg X.base := I.ok.mod
theorem Inv.kIn (I : Inv X pins σ H s) : X.K.In s.heap := I.ok.mod.kin.keeps I.bk
theorem Inv.nolimit (I : Inv X pins σ H s) : s.heap.NoLimit := I.ok.mod.nolimit.keeps I.bk
theorem Inv.fr (I : Inv X pins σ H s) : ∃ m, Fr X.base X.env.locals s.heap m :=
  let ⟨m, hn, _⟩ := I.loc
  ⟨m, hn, I.bk, Nat.le_trans I.ok.bsz I.ok.above⟩
theorem Inv.lt (I : Inv X pins σ H s) : X.env.locals < s.heap.objs.size := let ⟨_, hn, _⟩ := I.loc; hn.lt
theorem Inv.sz (I : Inv X pins σ H s) : X.s₀.heap.objs.size ≤ s.heap.objs.size := Nat.le_trans I.ok.above (Nat.le_of_lt I.lt)
theorem Inv.nofs (I : Inv X pins σ H s) {a : Addr} (h : s.heap.objs.size ≤ a) : a ∉ X.fs := fun hb => by
  obtain ⟨_, o, ho, _⟩ := I.ok.funs.mem hb
  exact absurd (Nat.lt_of_lt_of_le (Heap.lt_size ho) (Nat.le_trans I.sz h)) (Nat.lt_irrefl _)
theorem Inv.cne (I : Inv X pins σ H s) : ∀ x c, X.env.cells.lookup x = some c → c ≠ X.env.locals := fun x c e z => by
  obtain ⟨v, o, ho, hd⟩ := I.cell x c e
  obtain ⟨m, ⟨o', es, ep, ho', hd', _⟩, _⟩ := I.loc
  rw [z, ho'] at ho; cases ho; rw [hd'] at hd; cases hd
theorem Inv.funs (I : Inv X pins σ H s) : s.heap.FunFrames X.base X.outer := by
  have all : ∀ (l : List Env), (∀ b ∈ frs l, b ∈ X.fs) → X.s₀.heap.FunFrames X.base l → s.heap.FunFrames X.base l := by
    intro l
    induction l with
    | nil => intro _ _; trivial
    | cons env r ih =>
      intro hs hl
      obtain ⟨hk, ⟨L, o, hf, hn, ho, hd⟩, hr⟩ := hl
      have hL : L ∈ X.fs := hs L (by unfold frs; rw [List.filterMap_cons, hf]; exact List.mem_cons_self)
      obtain ⟨sl, e⟩ := I.base.slot L o ho (I.ok.frf L hL) hL fun z => I.ok.exfs L z hL
      exact ⟨hk, ⟨L, _, hf, hn, e, hd⟩, ih (fun b hb => hs b (by unfold frs; rw [List.filterMap_cons, hf]; exact List.mem_cons_of_mem _ hb)) hr⟩
  exact all X.outer (fun _ hb => hb) I.ok.funs
theorem Inv.stack (I : Inv X pins σ H s) : s.heap.FunFrames X.base X.stack := by
  rcases I.ok.stk with e | ⟨e, hf⟩
  · rw [e]; exact I.funs
  · rw [e]
    obtain ⟨m, hn, _⟩ := I.loc
    refine .cons (by rw [I.ok.kind]; decide) hf hn ?_ I.funs
    exact Heap.get?_none_of_le (Nat.le_trans I.ok.bsz I.ok.above)
theorem Inv.stkSub (I : Inv X pins σ H s) : ∀ b ∈ frs X.stack, b ∈ X.env.locals :: X.fs := fun b hb => by
  rcases I.ok.stk with e | ⟨e, hf⟩
  · rw [e] at hb; exact List.mem_cons_of_mem _ hb
  · rw [e] at hb
    unfold frs at hb
    rw [List.filterMap_cons, hf] at hb
    exact hb
theorem Inv.stkFree (I : Inv X pins σ H s) : ∀ b ∈ frs X.stack, H b = none := fun b hb => by
  rcases List.mem_cons.mp (I.stkSub b hb) with e | hb
  · rw [e]; exact I.free
  · obtain ⟨_, o, ho, _⟩ := I.ok.funs.mem hb
    exact I.base.free b o ho (I.ok.frf b hb) fun z => I.ok.exfs b z hb
theorem Inv.step {g' : Array GenState} {t' : Nat} {d' : Drawn} {ch : List Addr} (I : Inv X pins σ H s)
    (hch : ∀ b ∈ ch, (b ∈ X.ex ∨ X.s₀.heap.objs.size ≤ b) ∧ b ≠ X.env.locals ∧ (∀ x c, X.env.cells.lookup x = some c → c ≠ b) ∧ ∀ p ∈ X.pn ++ pins, p.1 ≠ b)
    (keep : ∀ b o, b ≠ X.env.locals → b ∉ X.fs → b ∉ ch → s.heap.get? b = some o → H b = none → h'.get? b = some o)
    (slot : ∀ b o, b ≠ X.env.locals → b ∈ X.fs → b ∉ ch → s.heap.get? b = some o → H b = none → ∃ sl, h'.get? b = some { o with slots := sl }) (free : ∀ b o, b ∉ ch → s.heap.get? b = some o → H b = none → H' b = none)
    (there : ∀ b o, b ∉ ch → s.heap.get? b = some o → ∃ o', h'.get? b = some o')
    (tups : ∀ b xs, H b = some (.tup xs) → H' b = some (.tup xs)) (frzs : ∀ b o u, H b = some (.frz o u) → H' b = some (.frz o u)) (tbls : ∀ b ps, H b = some (.tbl ps) → ∃ more, H' b = some (.tbl (ps ++ more)))
    (ns : ∀ m, s.heap.Ns X.env.locals m → h'.Ns X.env.locals m) (hok : HOk X.prog X.w H' h') (hg : AllBare g') :
    Inv X pins σ H' { s with heap := h', gens := g', drawn := d', toks := t' } := by
  have neL : ∀ b o, X.s₀.heap.get? b = some o → b ≠ X.env.locals := fun b o e => Nat.ne_of_lt (Nat.lt_of_lt_of_le (Heap.lt_size e) I.ok.above)
  have neC : ∀ b o, X.s₀.heap.get? b = some o → b ∉ X.ex → b ∉ ch := fun b o e hx hb => by
    rcases (hch b hb).1 with z | z
    · exact hx z
    · exact absurd (Nat.lt_of_lt_of_le (Heap.lt_size e) z) (Nat.lt_irrefl _)
  have cellK : ∀ x c, X.env.cells.lookup x = some c → ∀ v, s.heap.IsCell c v → h'.IsCell c v := fun x c e v ⟨o, ho, hd⟩ => by
    have nch : c ∉ ch := fun z => (hch c z).2.2.1 x c e rfl
    by_cases hc : c ∈ X.fs
    · obtain ⟨sl, q⟩ := slot c o (I.cne x c e) hc nch ho (I.freeC x c e)
      exact ⟨_, q, hd⟩
    · exact ⟨o, keep c o (I.cne x c e) hc nch ho (I.freeC x c e), hd⟩
  refine ⟨I.ok, I.os, hg, ⟨fun b o e n hb hx => ?_, fun b o e n hb hx => ?_, fun b o e n hx => ?_, fun b o e hx => ?_, fun b xs e => tups b xs (I.base.tups b xs e), fun b o xs e => frzs b o xs (I.base.frzs b o xs e), fun b ps e => ?_⟩, ?_, fun x c e => ?_, ?_, fun x c e => ?_, fun p hp => ?_, hok, I.len⟩
  · exact keep b o (neL b o e) hb (neC b o e hx) (I.base.keep b o e n hb hx) (I.base.free b o e n hx)
  · obtain ⟨sl, e1⟩ := I.base.slot b o e n hb hx
    obtain ⟨sl', e2⟩ := slot b _ (neL b o e) hb (neC b o e hx) e1 (I.base.free b o e n hx)
    exact ⟨sl', e2⟩
  · obtain ⟨o', e1⟩ := I.base.there b o e hx
    exact free b o' (neC b o e hx) e1 (I.base.free b o e n hx)
  · obtain ⟨o', e1⟩ := I.base.there b o e hx
    exact there b o' (neC b o e hx) e1
  · obtain ⟨m1, e1⟩ := I.base.tbls b ps e
    obtain ⟨m2, e2⟩ := tbls b _ e1
    exact ⟨m1 ++ m2, by rw [e2, Array.append_assoc]⟩
  · obtain ⟨m, hn, hl⟩ := I.loc
    refine ⟨m, ns m hn, fun i x v e1 e2 e3 => ?_⟩
    obtain ⟨u, r, l⟩ := hl i x v e1 e2 e3
    refine ⟨u, r, ?_⟩
    rcases l with l | ⟨k, c, e, z⟩
    · exact .inl l
    · exact .inr ⟨k, c, e, cellK x c e _ z⟩
  · obtain ⟨v, z⟩ := I.cell x c e
    exact ⟨v, cellK x c e v z⟩
  · obtain ⟨m, ⟨o, _, _, ho, _⟩, _⟩ := I.loc
    exact free _ o (fun z => (hch _ z).2.1 rfl) ho I.free
  · obtain ⟨v, o, ho, hd⟩ := I.cell x c e
    exact free c o (fun z => (hch c z).2.2.1 x c e rfl) ho (I.freeC x c e)
  · obtain ⟨e, n, ne, nf, d⟩ := I.pin p hp
    have nch : p.1 ∉ ch := fun z => (hch p.1 z).2.2.2 p hp rfl
    exact ⟨keep p.1 p.2 ne nf nch e n, free p.1 p.2 nch e n, ne, nf, d⟩
theorem Inv.un {t' : Nat} (I : Inv X pins σ H s) (u : Un X.fs [] H H' s.heap h') (hok : HOk X.prog X.w H' h') : Inv X pins σ H' { s with heap := h', toks := t' } := by
  obtain ⟨m, ⟨o, es, ep, ho, r⟩, _⟩ := id I.loc
  obtain ⟨sl, hL⟩ := u.any ho I.free (by simp)
  exact I.step (g' := s.gens) (d' := s.drawn) (ch := []) (fun _ z => nomatch z) (fun b o _ hb _ e n => u.keep b o e n hb (by simp)) (fun b o _ hb _ e n => u.slot b o e n hb (by simp)) (fun b o _ e n => u.free b o e n (by simp)) (fun b o _ e => u.there b o e (by simp)) u.tups u.frzs u.tbls (fun m' hm => by
    obtain ⟨o', es', ep', ho', r'⟩ := hm
    rw [ho] at ho'; cases ho'
    exact ⟨_, es', ep', hL, r'⟩) hok I.bare
theorem Inv.call {g' : Array GenState} {t' : Nat} {d' : Drawn} {ch : List Addr} (I : Inv X pins σ H s) (u : Un (frs X.stack) ch H H' s.heap h') (hok : HOk X.prog X.w H' h') (hg : AllBare g')
    (hch : ∀ b ∈ ch, (b ∈ X.ex ∨ X.s₀.heap.objs.size ≤ b) ∧ b ≠ X.env.locals ∧ (∀ x c, X.env.cells.lookup x = some c → c ≠ b) ∧ ∀ p ∈ X.pn ++ pins, p.1 ≠ b) :
    Inv X pins σ H' { s with heap := h', gens := g', drawn := d', toks := t' } := by
  obtain ⟨m, ⟨o, es, ep, ho, r⟩, _⟩ := id I.loc
  obtain ⟨sl, hL⟩ := u.any ho I.free fun z => (hch _ z).2.1 rfl
  exact I.step (ch := ch) hch (fun b o hL hb hc e n => u.keep b o e n (fun z => (List.mem_cons.mp (I.stkSub b z)).elim hL hb) hc) (fun b o _ _ hc e n => u.any e n hc) (fun b o hc e n => u.free b o e n hc) (fun b o hc e => u.there b o e hc) u.tups u.frzs u.tbls (fun m' hm => by
    obtain ⟨o', es', ep', ho', r'⟩ := hm
    rw [ho] at ho'; cases ho'
    exact ⟨_, es', ep', hL, r'⟩) hok hg
theorem Inv.turned {t' : Nat} {it : Addr} (I : Inv X pins σ H s) (k : ∀ b o, b ≠ it → s.heap.get? b = some o → h'.get? b = some o) (hn : H it = none) (hL : it ≠ X.env.locals)
    (h1 : it ∈ X.ex ∨ X.s₀.heap.objs.size ≤ it) (h2 : ∀ x c, X.env.cells.lookup x = some c → c ≠ it) (h3 : ∀ p ∈ X.pn ++ pins, p.1 ≠ it) : Inv X pins σ H { s with heap := h', toks := t' } := by
  have nit : ∀ b u, H b = some u → b ≠ it := fun b u e z => by rw [z, hn] at e; cases e
  refine I.step (g' := s.gens) (d' := s.drawn) (ch := [it]) (fun b hb => ?_) (fun b o _ _ hc e _ => k b o (fun z => hc (by simp [z])) e) (fun b o _ _ hc e _ => ⟨o.slots, k b o (fun z => hc (by simp [z])) e⟩) (fun _ _ _ _ n => n)
    (fun b o hc e => ⟨o, k b o (fun z => hc (by simp [z])) e⟩) (fun _ _ e => e) (fun _ _ _ e => e) (fun b ps e => ⟨#[], by rw [e]; simp⟩) (fun m hm => ?_) (fun b u e => ?_) I.bare
  · have e : b = it := by simpa using hb
    subst e
    exact ⟨h1, hL, h2, h3⟩
  · obtain ⟨o, es, ep, ho, r⟩ := hm
    exact ⟨o, es, ep, k _ o (Ne.symm hL) ho, r⟩
  · refine (I.hok b u e).stay (fun c v hc q => k c v ?_ q) (fun _ q => q) fun _ _ q => q
    rcases hc with z | z
    · rw [z]; exact nit b u e
    · exact nit c _ z
theorem Inv.tok (I : Inv X pins σ H s) (t : Nat) : Inv X pins σ H { s with toks := t } := I.un (h' := s.heap) (t' := t) Un.refl I.hok
theorem Inv.kept {t' : Nat} (I : Inv X pins σ H s) (k : ∀ b u, s.heap.get? b = some u → h'.get? b = some u) : Inv X pins σ H { s with heap := h', toks := t' } := I.un (Un.kept k) (I.hok.kept k)
theorem Inv.laid {a : Addr} {o : HO} {t' : Nat} (I : Inv X pins σ H s) (k : ∀ b u, s.heap.get? b = some u → h'.get? b = some u) (hp : s.heap.objs.size ≤ a) (new : ObjOk X.prog X.w (upd H a o) h' a o) :
    Inv X pins σ (upd H a o) { s with heap := h', toks := t' } := I.un (Un.laid k hp (I.hok.fresh hp)) (I.hok.laid k hp new)
theorem Inv.write {x e : Addr} {o : HO} {t' : Nat} (I : Inv X pins σ H s) (mu : Mut (H x)) (he : e = x ∨ H e = some (.own x)) (k : ∀ b u, b ≠ e → s.heap.get? b = some u → h'.get? b = some u) (heo : ∃ u, h'.get? e = some u)
    (new : ObjOk X.prog X.w (upd H x o) h' x o) : Inv X pins σ (upd H x o) { s with heap := h', toks := t' } := I.un (Un.write mu he k heo) (I.hok.write mu he k heo new)
theorem Inv.pins_of {pins' : List (Addr × Obj)} (I : Inv X pins σ H s) (h : ∀ p ∈ pins', s.heap.get? p.1 = some p.2 ∧ H p.1 = none ∧ p.1 ≠ X.env.locals ∧ p.1 ∉ X.fs ∧ ∀ v, p.2.data ≠ .cell v) : Inv X pins' σ H s :=
  ⟨I.ok, I.os, I.bare, I.base, I.loc, I.cell, I.free, I.freeC, fun p hp => (List.mem_append.mp hp).elim (fun z => I.pin p (List.mem_append_left _ z)) (h p), I.hok, I.len⟩
theorem nodup_ix {N : List Str} (hN : N.Nodup) {i j : Nat} {x : Str} (a : N[i]? = some x) (b : N[j]? = some x) : i = j := by
  obtain ⟨h1, e1⟩ := List.getElem?_eq_some_iff.mp a
  obtain ⟨h2, e2⟩ := List.getElem?_eq_some_iff.mp b
  exact (List.getElem_inj hN).mp (e1.trans e2.symm)
theorem store_ok2 {M : Model} {A : Around} {E : Value → Shared → Prop} {i : Nat} {x : Str} {v : V} {u : Value} {Q : Unit → Shared → Prop} (I : Inv X pins σ H s) (hN : X.N.Nodup) (hi : X.N[i]? = some x) (hx : Loc X.env.scope x) (r : RelV v u)
    (h : ∀ s', Inv X pins (σ.set i (some v)) H s' → (∃ a, Heap.SameBut a s.heap s'.heap ∧ (a = X.env.locals ∨ X.env.cells.lookup x = some a)) → Q () s') (hf : X.fn x = true ∨ X.env.scope.names.lookup x = some .local := by first | exact .inl rfl | exact .inr rfl | assumption) : wpAny M A (storeName X.env x u) Q E s := by
  obtain ⟨m, hn, hl⟩ := id I.loc
  have hcls : (X.env.scope.kind == .class || (X.env.scope.kind == .module && X.env.locals != X.env.globals)) = false := by rw [I.ok.kind]; rfl
  have hiσ : i < σ.length := by rw [I.len]; exact (List.getElem?_eq_some_iff.mp hi).1
  have cne := I.cne
  have tracked : ∀ {a : Addr} {h' : Heap}, (∃ o, s.heap.get? a = some o ∧ H a = none) → Heap.SameBut a s.heap h' → HOk X.prog X.w H h' := fun {a h'} ha hs b ob e => by
    obtain ⟨_, _, hfree⟩ := ha
    refine (I.hok b ob e).stay (fun c w' hc q => (hs.2 c ?_).trans q) (fun _ q => q) fun _ _ q => q
    rintro rfl
    rcases hc with rfl | hc
    · rw [hfree] at e; cases e
    · rw [hfree] at hc; cases hc
  rcases hx with hk | hk
  · refine wpAny_storeName_local hk hn (fun h' hn' hs => ?_) hcls
    obtain ⟨oL, _, _, hoL, _⟩ := id hn
    refine h _ ⟨I.ok, I.os, I.bare, ⟨fun b o e n hb hx => ?_, fun b o e n hb hx => ?_, I.base.free, fun b o e hx => ?_, I.base.tups, I.base.frzs, I.base.tbls⟩, ⟨_, hn', fun j y v' e1 e2 e3 => ?_⟩, fun y c e => ?_, I.free, I.freeC, fun p hp => ?_, tracked ⟨oL, hoL, I.free⟩ hs, by simpa using I.len⟩ ⟨_, hs, .inl rfl⟩
    · exact (hs.2 b (Nat.ne_of_lt (Nat.lt_of_lt_of_le (Heap.lt_size e) I.ok.above))).trans (I.base.keep b o e n hb hx)
    · obtain ⟨sl, e1⟩ := I.base.slot b o e n hb hx
      exact ⟨sl, (hs.2 b (Nat.ne_of_lt (Nat.lt_of_lt_of_le (Heap.lt_size e) I.ok.above))).trans e1⟩
    · obtain ⟨o', e1⟩ := I.base.there b o e hx
      exact ⟨o', (hs.2 b (Nat.ne_of_lt (Nat.lt_of_lt_of_le (Heap.lt_size e) I.ok.above))).trans e1⟩
    · by_cases hj : j = i
      · subst hj
        rw [hi] at e1; cases e1
        rw [List.getElem?_set_self hiσ] at e2
        cases e2
        exact ⟨u, r, .inl ⟨hk, by simp⟩⟩
      · rw [List.getElem?_set_ne (Ne.symm hj)] at e2
        obtain ⟨u', r', q⟩ := hl j y v' e1 e2 e3
        refine ⟨u', r', ?_⟩
        rcases q with ⟨k, e⟩ | ⟨k, c, e, z⟩
        · refine .inl ⟨k, ?_⟩
          have : y ≠ x := fun e => hj (nodup_ix hN e1 (e ▸ hi))
          simp [this, e]
        · exact .inr ⟨k, c, e, z.sameBut hs (cne y c e)⟩
    · obtain ⟨w', z⟩ := I.cell y c e
      exact ⟨w', z.sameBut hs (cne y c e)⟩
    · obtain ⟨e, n, ne, nf, d⟩ := I.pin p hp
      exact ⟨(hs.2 p.1 ne).trans e, n, ne, nf, d⟩
  · have hfn : X.fn x = true := by
      rcases hf with z | z
      · exact z
      · rw [z] at hk; cases hk
    obtain ⟨c, hc⟩ := I.ok.has x (.inl hk)
    obtain ⟨w', z⟩ := I.cell x c hc
    refine wpAny_storeName_cell I.ok.kind hk hc z (fun h' hc' hs => ?_)
    obtain ⟨oc, hoc, hocd⟩ := id z
    refine h { s with heap := h' } ⟨I.ok, I.os, I.bare, ⟨fun b o e n hb hx => ?_, fun b o e n hb hx => ?_, I.base.free, fun b o e hx => ?_, I.base.tups, I.base.frzs, I.base.tbls⟩, ⟨m, hn.sameBut hs (Ne.symm (cne x c hc)), fun j y v' e1 e2 e3 => ?_⟩, fun y c' e => ?_, I.free, I.freeC, fun p hp => ?_, tracked ⟨oc, hoc, I.freeC x c hc⟩ hs, by simpa using I.len⟩ ⟨c, hs, .inr hc⟩
    · exact (hs.2 b (Nat.ne_of_lt (Nat.lt_of_lt_of_le (Heap.lt_size e) (I.ok.cab x c hfn hc)))).trans (I.base.keep b o e n hb hx)
    · obtain ⟨sl, e1⟩ := I.base.slot b o e n hb hx
      exact ⟨sl, (hs.2 b (Nat.ne_of_lt (Nat.lt_of_lt_of_le (Heap.lt_size e) (I.ok.cab x c hfn hc)))).trans e1⟩
    · obtain ⟨o', e1⟩ := I.base.there b o e hx
      exact ⟨o', (hs.2 b (Nat.ne_of_lt (Nat.lt_of_lt_of_le (Heap.lt_size e) (I.ok.cab x c hfn hc)))).trans e1⟩
    · by_cases hj : j = i
      · subst hj
        rw [hi] at e1; cases e1
        rw [List.getElem?_set_self hiσ] at e2
        cases e2
        exact ⟨u, r, .inr ⟨.inl hk, c, hc, hc'⟩⟩
      · rw [List.getElem?_set_ne (Ne.symm hj)] at e2
        obtain ⟨u', r', q⟩ := hl j y v' e1 e2 e3
        refine ⟨u', r', ?_⟩
        rcases q with q | ⟨k, c', e, z'⟩
        · exact .inl q
        · refine .inr ⟨k, c', e, z'.sameBut hs ?_⟩
          rintro rfl
          exact hj (nodup_ix hN e1 (I.ok.inj _ _ _ e hc ▸ hi))
    · by_cases hcc : c' = c
      · subst hcc; exact ⟨_, hc'⟩
      · obtain ⟨w2, z2⟩ := I.cell y c' e
        exact ⟨w2, z2.sameBut hs hcc⟩
    · obtain ⟨e, n, ne, nf, d⟩ := I.pin p hp
      refine ⟨(hs.2 p.1 ?_).trans e, n, ne, nf, d⟩
      intro q
      rw [q, hoc] at e
      have q' : oc = p.2 := Option.some.inj e
      exact d w' (by rw [← q']; exact hocd)
theorem store_ok {M : Model} {A : Around} {E : Value → Shared → Prop} {i : Nat} {x : Str} {v : V} {u : Value} {Q : Unit → Shared → Prop} (I : Inv X pins σ H s) (hN : X.N.Nodup) (hi : X.N[i]? = some x) (hx : Loc X.env.scope x) (r : RelV v u)
    (h : ∀ s', Inv X pins (σ.set i (some v)) H s' → Q () s') (hf : X.fn x = true ∨ X.env.scope.names.lookup x = some .local := by first | exact .inl rfl | exact .inr rfl | assumption) : wpAny M A (storeName X.env x u) Q E s :=
  store_ok2 I hN hi hx r (fun s' I' _ => h s' I') hf
theorem Inv.call' {s' : Shared} {ch : List Addr} (I : Inv X pins σ H s) (ho : s'.os = s.os) (u : Un (frs X.stack) ch H H' s.heap s'.heap) (hok : HOk X.prog X.w H' s'.heap) (hg : AllBare s'.gens)
    (hch : ∀ b ∈ ch, (b ∈ X.ex ∨ X.s₀.heap.objs.size ≤ b) ∧ b ≠ X.env.locals ∧ (∀ x c, X.env.cells.lookup x = some c → c ≠ b) ∧ ∀ p ∈ X.pn ++ pins, p.1 ≠ b) : Inv X pins σ H' s' := by
  obtain ⟨h', g', d', t', o'⟩ := s'
  have e : o' = s.os := ho
  subst e
  exact I.call (g' := g') (t' := t') (d' := d') u hok hg hch
end
noncomputable abbrev XK := Value → Option Addr → Hp → Prop
noncomputable abbrev St := List (Option V)
noncomputable abbrev VK := V → Hp → Prop
noncomputable abbrev TE := St → Hp → VK → Prop
noncomputable abbrev TT := St → Hp → (Bool → Hp → Prop) → Prop
noncomputable abbrev TA := St → Hp → (List V → Hp → Prop) → Prop
structure Ends where
  nx : St → Hp → Prop
  rt : VK
  bk : St → Hp → Prop := fun _ _ => False
  ct : St → Hp → Prop := fun _ _ => False
noncomputable abbrev TS := Ends → St → Hp → Prop
noncomputable def EP (X : Cx) (pins : List (Addr × Obj)) (σ : St) (Q : VK) (u : Value) (s' : Shared) : Prop := ∃ v H', Inv X pins σ H' s' ∧ RelV v u ∧ Q v H'
noncomputable def TP (X : Cx) (pins : List (Addr × Obj)) (σ : St) (Q : Bool → Hp → Prop) (b : Bool) (s' : Shared) : Prop := ∃ H', Inv X pins σ H' s' ∧ Q b H'
noncomputable def AP (X : Cx) (pins : List (Addr × Obj)) (σ : St) (Q : List V → Hp → Prop) (us : List Value) (s' : Shared) : Prop := ∃ vs H', Inv X pins σ H' s' ∧ Vals vs us ∧ Q vs H'
noncomputable def SP (X : Cx) (pins : List (Addr × Obj)) (D : Ends) (f : Flow) (s' : Shared) : Prop :=
  match f with
  | .next => ∃ σ' H', Inv X pins σ' H' s' ∧ D.nx σ' H'
  | .brk => ∃ σ' H', Inv X pins σ' H' s' ∧ D.bk σ' H'
  | .cont => ∃ σ' H', Inv X pins σ' H' s' ∧ D.ct σ' H'
  | .ret u => ∃ v σ' H', Inv X pins σ' H' s' ∧ RelV v u ∧ D.rt v H'
noncomputable def PE (X : Cx) (e : Expr) (t : TE) : Prop :=
  ∀ (pins : List (Addr × Obj)) (s : Shared) (σ : St) (H : Hp) (Q : VK), Inv X pins σ H s → t σ H Q → wpAny (model X.prog X.w) X.A (eval e X.env) (EP X pins σ Q) X.xe s
noncomputable def PT (X : Cx) (e : Expr) (t : TT) : Prop :=
  ∀ (pins : List (Addr × Obj)) (s : Shared) (σ : St) (H : Hp) (Q : Bool → Hp → Prop), Inv X pins σ H s → t σ H Q → wpAny (model X.prog X.w) X.A (isTrue e X.env (eval e X.env)) (TP X pins σ Q) X.xe s
noncomputable def PW (X : Cx) (e : Expr) (t : TT) : Prop :=
  ∀ (whole : Sem Value) (pins : List (Addr × Obj)) (s : Shared) (σ : St) (H : Hp) (Q : Bool → Hp → Prop), Inv X pins σ H s → t σ H Q → wpAny (model X.prog X.w) X.A (isTrue e X.env whole) (TP X pins σ Q) X.xe s
theorem PW.pt {X : Cx} {e : Expr} {t : TT} (h : PW X e t) : PT X e t := h _
noncomputable def PA (X : Cx) (es : List Expr) (t : TA) : Prop :=
  ∀ (pos : Pos) (pins : List (Addr × Obj)) (s : Shared) (σ : St) (H : Hp) (Q : List V → Hp → Prop), Inv X pins σ H s → t σ H Q → wpAny (model X.prog X.w) X.A (spliced (backTo pos (starEach es X.env))) (AP X pins σ Q) X.xe s
noncomputable def PS (X : Cx) (st : Stmt) (t : TS) : Prop :=
  ∀ (pins : List (Addr × Obj)) (s : Shared) (σ : St) (H : Hp) (D : Ends), Inv X pins σ H s → t D σ H → wpAny (model X.prog X.w) X.A (exec st X.env) (SP X pins D) X.xe s
noncomputable def PSs (X : Cx) (st : List Stmt) (t : TS) : Prop :=
  ∀ (pins : List (Addr × Obj)) (s : Shared) (σ : St) (H : Hp) (D : Ends), Inv X pins σ H s → t D σ H → wpAny (model X.prog X.w) X.A (execs st X.env) (SP X pins D) X.xe s
theorem thn {α : Type} {t : Sem α} {Q Q' : α → Shared → Prop} {M : Model} {A : Around} {E : Value → Shared → Prop} {s : Shared} (h : wpAny M A t Q E s) (hQ : ∀ a s, Q a s → Q' a s) : wpAny M A t Q' E s := wpAny_mono h hQ fun _ _ x => x
end L2
namespace L2
open PySem PySem.Spec PyProof.Rows
section
variable {X : Cx}
noncomputable def tVar (i : Nat) : TE := fun σ H Q => ∃ v, σ[i]? = some (some v) ∧ Q v H
noncomputable def tC (v : V) : TE := fun _ H Q => Q v H
theorem pe_var {i : Nat} {x : Str} {pos : Pos} (hN : X.N[i]? = some x) (hv : Vis X.env.scope x) (hd : (x == ("__debug__" : Str)) = false := by decide) (hcd : (x == ("__classdict__" : Str)) = false := by decide) : PE X (.Name x pos) (tVar i) := by
  intro pins s σ H Q I h
  obtain ⟨v, e, h⟩ := h
  obtain ⟨m, hn, hl⟩ := I.loc
  obtain ⟨u, r, l⟩ := hl i x v hN e hv
  have fin : EP X pins σ Q u s := ⟨v, H, I, r, h⟩
  rcases l with ⟨hk, hm⟩ | ⟨hk, c, hc, hcell⟩
  · exact wpAny_Name (wpAny_loadName_local I.ok.kind hk hn hm fin) hd
  · rcases hk with hk | hk
    · exact wpAny_Name (wpAny_loadName_cell I.ok.kind hk hc hcell fin) hd
    · exact wpAny_Name (wpAny_loadName_free I.ok.kind hk hc hcell fin hcd) hd
theorem pe_int {i j pos} : PE X (.Constant (.int i) j pos) (tC (.int i)) := fun _ _ _ H _ I h => wpAny_Constant_int ⟨.int i, H, I.tok _, ⟨_, rfl⟩, h⟩
theorem pe_bl {b j pos} : PE X (.Constant (.bool b) j pos) (tC (.bl b)) := fun _ _ _ H _ I h => Constant_bool ⟨.bl b, H, I, rfl, h⟩
theorem pe_non {j pos} : PE X (.Constant .none j pos) (tC .non) := fun _ _ _ H _ I h => Constant_none ⟨.non, H, I, rfl, h⟩
theorem pe_str {x j pos} : PE X (.Constant (.str x) j pos) (tC (.str x)) := fun _ _ _ H _ I h => Calls.Constant_str ⟨.str x, H, I.tok _, ⟨_, rfl⟩, h⟩
noncomputable def Gl (X : Cx) (x : Str) : Prop := X.env.kindOf x = some .globalImplicit
theorem ld_glob {E : Value → Shared → Prop} {pins : List (Addr × Obj)} {s : Shared} {σ : St} {H : Hp} {x : Str} {u : Value} {pos : Pos} {Q : Value → Shared → Prop} (I : Inv X pins σ H s) (hg : Gl X x) (hm : X.mg x = some u) (h : Q u s)
    (hd : (x == ("__debug__" : Str)) = false := by decide) : wpAny (model X.prog X.w) X.A (eval (.Name x pos) X.env) Q E s :=
  Calls.Name_function_global I.ok.kind hg (Calls.loadGlobal_global (by rw [I.ok.glob]; exact I.mod.glob.keeps I.bk) hm h) hd
theorem ld_blt {E : Value → Shared → Prop} {pins : List (Addr × Obj)} {s : Shared} {σ : St} {H : Hp} {x : Str} {u : Value} {pos : Pos} {Q : Value → Shared → Prop} (I : Inv X pins σ H s) (hg : Gl X x) (hm : X.mg x = none) (hv : bootBuiltins x = some u) (h : Q u s)
    (hn : x ≠ "__name__" := by decide) (hd : (x == ("__debug__" : Str)) = false := by decide) : wpAny (model X.prog X.w) X.A (eval (.Name x pos) X.env) Q E s := by
  obtain ⟨mb, h1, h2⟩ := I.mod.blt
  exact Calls.Name_function_global I.ok.kind hg (Calls.loadGlobal_builtin (by rw [I.ok.glob]; exact I.mod.glob.keeps I.bk) hm (by rw [I.ok.blt]; exact h1.keeps I.bk) ((h2 x hn).trans hv) h) hd
theorem pe_bltn {x : Str} {v : V} {u : Value} {pos : Pos} (hg : Gl X x) (hm : X.mg x = none) (hv : bootBuiltins x = some u) (r : RelV v u) (hn : x ≠ "__name__" := by decide) (hd : (x == ("__debug__" : Str)) = false := by decide) : PE X (.Name x pos) (tC v) :=
  fun _ _ _ H _ I h => ld_blt I hg hm hv ⟨v, H, I, r, h⟩ hn hd
variable {a b : Expr} {ta tb : TE} {pos : Pos}
noncomputable def tB (t : TE) : TT := fun σ H Q => t σ H fun x H1 => ∃ c, x = .bl c ∧ Q c H1
theorem pt_val {e : Expr} {t : TE} (h : PE X e t) (he : ∀ whole, isTrue e X.env whole = (do let v ← whole; standAt e.pos; holding [v] (truthy v)) := by intro _; rfl) : PT X e (tB t) := by
  intro pins s σ H Q I hw
  refine isTrue_plain (thn (h pins s σ H _ I hw) fun v s1 ⟨x, H1, I1, r1, q1⟩ => ?_) (he _)
  obtain ⟨d, rfl, q⟩ := q1
  cases r1
  exact wpAny_truthy_bool ⟨H1, I1, q⟩
variable {tA tB' : TT} {rest : List Expr}
noncomputable def tOr (t u : TT) : TT := fun σ H Q => t σ H fun c H1 => if c = true then Q true H1 else u σ H1 Q
noncomputable def tNot (t : TT) : TT := fun σ H Q => t σ H fun c H1 => Q (!c) H1
theorem pw_or1 (ha : PT X a tA) : PW X (.BoolOp .Or [a] pos) tA := by
  intro wh pins s σ H Q I h
  refine isTrue_or (thn (ha pins s σ H Q I h) fun c s1 e => ?_)
  cases c with
  | false => exact isTrue_or_nil e
  | true => exact e
theorem pw_or (ha : PT X a tA) (hb : PW X (.BoolOp .Or (b :: rest) pos) tB') : PW X (.BoolOp .Or (a :: b :: rest) pos) (tOr tA tB') := by
  intro wh pins s σ H Q I h
  refine isTrue_or (thn (ha pins s σ H _ I h) fun c s1 ⟨H1, I1, q1⟩ => ?_)
  cases c with
  | true => exact ⟨H1, I1, q1⟩
  | false => exact hb wh pins s1 σ H1 Q I1 q1
theorem pt_not (ha : PT X a tA) : PT X (.UnaryOp .Not a pos) (tNot tA) := by
  intro pins s σ H Q I h
  exact isTrue_not (ha pins s σ H (fun c H1 => Q (!c) H1) I h)
noncomputable def tAndV (ta tb : TE) : TE := fun σ H Q => ta σ H fun x H1 => ∃ c, x = .bl c ∧ if c = true then tb σ H1 Q else Q (.bl false) H1
noncomputable def tNotV (ta : TE) : TE := fun σ H Q => ta σ H fun x H1 => ∃ c, x = .bl c ∧ Q (.bl (!c)) H1
theorem pe_one {op} {t : TE} (h : PE X a t) : PE X (.BoolOp op [a] pos) t := fun pins s σ H Q I hw => BoolOp_one (h pins s σ H Q I hw)
theorem pe_and (ha : PE X a ta) (hb : PE X (.BoolOp .And (b :: rest) pos) tb) : PE X (.BoolOp .And (a :: b :: rest) pos) (tAndV ta tb) := by
  intro pins s σ H Q I h
  refine BoolOp_and (thn (ha pins s σ H _ I h) fun v s1 ⟨x, H1, I1, r1, q1⟩ => ?_)
  obtain ⟨c, rfl, q1⟩ := q1
  cases r1
  refine wpAny_truthy_bool ?_
  cases c with
  | true => exact hb pins s1 σ H1 Q I1 q1
  | false => exact ⟨.bl false, H1, I1, rfl, q1⟩
theorem pe_not (ha : PE X a ta) : PE X (.UnaryOp .Not a pos) (tNotV ta) := by
  intro pins s σ H Q I h
  refine UnaryOp_ (thn (ha pins s σ H _ I h) fun v s1 ⟨x, H1, I1, r1, q1⟩ => ?_)
  obtain ⟨c, rfl, q1⟩ := q1
  cases r1
  exact not_of (wpAny_truthy_bool ⟨.bl (!c), H1, I1, rfl, q1⟩)
end
end L2
namespace L2
open PySem PySem.Spec PyProof.Rows
noncomputable def SqL (K : PySem.W.Frag) (H : Hp) (a : Addr) (xs : List V) : Prop :=
  Rd H a (.lst xs) ∨
    ∃ (o : Obj) (its : Array Value) (n : Nat), K.lookup a = some o ∧ o.cls = .type "list" ∧ o.dict = none ∧ o.data = .seq its n ∧ its.size ≤ sizeLine ∧ Vals xs its.toList
noncomputable def SqT (K : PySem.W.Frag) (H : Hp) (a : Addr) (xs : List V) : Prop :=
  Rd H a (.tup xs) ∨
    ∃ (o : Obj) (its : Array Value) (n : Nat), K.lookup a = some o ∧ o.cls = .type "tuple" ∧ o.data = .seq its n ∧ its.size ≤ sizeLine ∧ Vals xs its.toList
noncomputable def absV : Value → Option V
  | .none => some .non
  | .bool b => some (.bl b)
  | .int i _ => some (.int i)
  | .str x _ => some (.str x)
  | .bytes b _ => some (.byt b)
  | .float b _ => some (.flt b)
  | .ref a => some (.ref a)
  | .type n => some (.ty n)
  | _ => none
theorem RelV.abs {x : V} {u : Value} (r : RelV x u) : absV u = some x := by
  cases x with
  | non => cases r; rfl
  | bl _ => cases r; rfl
  | int _ => obtain ⟨t, rfl⟩ := r; rfl
  | str _ => obtain ⟨t, rfl⟩ := r; rfl
  | byt _ => obtain ⟨t, rfl⟩ := r; rfl
  | flt _ => obtain ⟨t, rfl⟩ := r; rfl
  | ref _ => cases r; rfl
  | ty _ => cases r; rfl
theorem RelV.inj {x y : V} {u : Value} (r : RelV x u) (q : RelV y u) : x = y := Option.some.inj (r.abs.symm.trans q.abs)
theorem Vals.inj : ∀ {xs ys : List V} {us : List Value}, Vals xs us → Vals ys us → xs = ys
  | _, _, _, .nil, .nil => rfl
  | _, _, _, .cons r t, .cons r' t' => by rw [r.inj r', Vals.inj t t']
section
variable {X : Cx} {pins : List (Addr × Obj)} {σ : St} {H : Hp} {s : Shared} {a : Addr} {xs ys : List V}
theorem SqL.of {K : PySem.W.Frag} (h : H a = some (.lst xs)) : SqL K H a xs := .inl (.inl h)
theorem SqT.of {K : PySem.W.Frag} (h : H a = some (.tup xs)) : SqT K H a xs := .inl (.inl h)
theorem Inv.list (I : Inv X pins σ H s) (h : SqL X.K H a xs) : ∃ its : List Value, Vals xs its ∧ PlainL s.heap a its.toArray ∧ xs.length ≤ sizeLine := by
  rcases h with h | ⟨o, its, n, hk, hc, hd, hs, hz, r⟩
  · obtain ⟨z, its, n, r, e⟩ := h.ok I.hok
    exact ⟨its, r, ⟨_, n, e, rfl, rfl, rfl⟩, z⟩
  · refine ⟨its.toList, r, ⟨o, n, I.kIn a o hk, hc, hd, by simpa using hs⟩, ?_⟩
    have e := r.length
    simp only [Array.length_toList] at e
    omega
theorem Inv.tuple (I : Inv X pins σ H s) (h : SqT X.K H a xs) : ∃ its : List Value, Vals xs its ∧ IsTup s.heap a its.toArray ∧ xs.length ≤ sizeLine := by
  rcases h with h | ⟨o, its, n, hk, hc, hs, hz, r⟩
  · obtain ⟨z, its, r, p⟩ := h.ok I.hok
    exact ⟨its, r, p, z⟩
  · refine ⟨its.toList, r, ⟨o, I.kIn a o hk, hc, n, by simpa using hs⟩, ?_⟩
    have e := r.length
    simp only [Array.length_toList] at e
    omega
theorem Inv.list_inj (I : Inv X pins σ H s) (h : SqL X.K H a xs) (h' : SqL X.K H a ys) : xs = ys := by
  obtain ⟨its, r, ⟨o, n, e, _, _, d⟩, _⟩ := I.list h
  obtain ⟨its', r', ⟨o', n', e', _, _, d'⟩, _⟩ := I.list h'
  rw [e] at e'; cases e'
  rw [d] at d'
  injection d' with d1 _
  have : its = its' := by simpa using congrArg Array.toList d1
  subst this
  exact r.inj r'
theorem Inv.tuple_inj (I : Inv X pins σ H s) (h : SqT X.K H a xs) (h' : SqT X.K H a ys) : xs = ys := by
  obtain ⟨its, r, ⟨o, e, _, n, d⟩, _⟩ := I.tuple h
  obtain ⟨its', r', ⟨o', e', _, n', d'⟩, _⟩ := I.tuple h'
  rw [e] at e'; cases e'
  rw [d] at d'
  injection d' with d1 _
  have : its = its' := by simpa using congrArg Array.toList d1
  subst this
  exact r.inj r'
end
noncomputable abbrev Cx.wish (X : Cx) (E : Value → Shared → Prop) : Cx := { X with xe := E }
noncomputable abbrev Cx.nox (X : Cx) : Cx := X.wish fun _ _ => False
theorem Cx.Ok.wish {X : Cx} (ok : X.Ok) (E : Value → Shared → Prop) : (X.wish E).Ok :=
  ⟨ok.mod, ok.kind, ok.glob, ok.blt, ok.above, ok.inj, ok.has, ok.cab, ok.hd, ok.frames, ok.stk, ok.exf, ok.bs, ok.bsz, ok.noex, ok.exfs, ok.funs, ok.frf⟩
theorem Cx.Ok.unwish {X : Cx} {E : Value → Shared → Prop} (ok : (X.wish E).Ok) : X.Ok :=
  ⟨ok.mod, ok.kind, ok.glob, ok.blt, ok.above, ok.inj, ok.has, ok.cab, ok.hd, ok.frames, ok.stk, ok.exf, ok.bs, ok.bsz, ok.noex, ok.exfs, ok.funs, ok.frf⟩
section
variable {X : Cx} {pins : List (Addr × Obj)} {σ : St} {H : Hp} {s : Shared} {E : Value → Shared → Prop}
theorem Inv.wish (I : Inv X pins σ H s) (E : Value → Shared → Prop) : Inv (X.wish E) pins σ H s := ⟨I.ok.wish E, I.os, I.bare, I.base, I.loc, I.cell, I.free, I.freeC, I.pin, I.hok, I.len⟩
theorem Inv.unwish (I : Inv (X.wish E) pins σ H s) : Inv X pins σ H s := ⟨I.ok.unwish, I.os, I.bare, I.base, I.loc, I.cell, I.free, I.freeC, I.pin, I.hok, I.len⟩
theorem SP.unwish {D : Ends} {f : Flow} {s' : Shared} (h : SP (X.wish E) pins D f s') : SP X pins D f s' := by
  cases f with
  | next => obtain ⟨σ', H', I, q⟩ := h; exact ⟨σ', H', I.unwish, q⟩
  | brk => obtain ⟨σ', H', I, q⟩ := h; exact ⟨σ', H', I.unwish, q⟩
  | cont => obtain ⟨σ', H', I, q⟩ := h; exact ⟨σ', H', I.unwish, q⟩
  | ret u => obtain ⟨v, σ', H', I, r, q⟩ := h; exact ⟨v, σ', H', I.unwish, r, q⟩
theorem PE.nox {e : Expr} {t : TE} (h : PE X.nox e t) : PE X e t := fun pins s σ H Q I hw =>
  wpAny_mono (h pins s σ H Q (I.wish _) hw) (fun _ _ ⟨v, H', I', r, q⟩ => ⟨v, H', I'.unwish, r, q⟩) fun _ _ z => False.elim z
theorem PT.nox {e : Expr} {t : TT} (h : PT X.nox e t) : PT X e t := fun pins s σ H Q I hw =>
  wpAny_mono (h pins s σ H Q (I.wish _) hw) (fun _ _ ⟨H', I', q⟩ => ⟨H', I'.unwish, q⟩) fun _ _ z => False.elim z
theorem PSs.nox {st : List Stmt} {t : TS} (h : PSs X.nox st t) : PSs X st t := fun pins s σ H D I hw =>
  wpAny_mono (h pins s σ H D (I.wish _) hw) (fun _ _ q => q.unwish) fun _ _ z => False.elim z
end
section
variable {X : Cx} {st : Stmt} {rest : List Stmt} {t u : TS} {e : Expr} {te : TE} {pos : Pos}
noncomputable def tNext : TS := fun D σ H => D.nx σ H
noncomputable def tSeq (t u : TS) : TS := fun D σ H => t { D with nx := u D } σ H
theorem pss_nil : PSs X [] tNext := fun _ _ σ H _ I h => wpAny_execs_nil ⟨σ, H, I, h⟩
theorem pss_cons (h1 : PS X st t) (h2 : PSs X rest u) : PSs X (st :: rest) (tSeq t u) := by
  intro pins s σ H D I h
  refine wpAny_execs_cons (thn (h1 pins s σ H { D with nx := u D } I h) fun f s1 q => ?_)
  cases f with
  | next =>
    obtain ⟨σ', H', I', q⟩ := q
    exact h2 pins s1 σ' H' D I' q
  | ret v => exact q
  | brk => exact q
  | cont => exact q
theorem pss_one (h1 : PS X st t) : PSs X [st] t := by
  intro pins s σ H D I h
  refine wpAny_execs_cons (thn (h1 pins s σ H D I h) fun f s1 q => ?_)
  cases f with
  | next => exact wpAny_execs_nil q
  | ret v => exact q
  | brk => exact q
  | cont => exact q
theorem Inv.quiet {pins : List (Addr × Obj)} {σ : St} {H : Hp} {s : Shared} (I : Inv X pins σ H s) : interactive X.env = false := by simp [interactive, I.ok.kind]
noncomputable def tDrop (te : TE) : TS := fun D σ H => te σ H fun _ H1 => D.nx σ H1
theorem ps_expr (he : PE X e te) (hs : swapsWith e none pos.line X.env = pure false := by rfl) : PS X (.Expr e pos) (tDrop te) := by
  intro pins s σ H D I h
  exact wpAny_Expr_any (thn (he pins s σ H _ I h) fun v s1 ⟨x, H1, I1, r1, q1⟩ => ⟨σ, H1, I1, q1⟩) I.quiet hs
noncomputable def tRet (te : TE) : TS := fun D σ H => te σ H D.rt
theorem ps_ret (he : PE X e te) : PS X (.Return (some e) pos) (tRet te) := by
  intro pins s σ H D I h
  exact wpAny_Return_some (thn (he pins s σ H _ I h) fun v s1 ⟨x, H1, I1, r1, q1⟩ => ⟨x, σ, H1, I1, r1, q1⟩)
noncomputable def tIfS (c : TT) (t u : TS) : TS := fun D σ H => c σ H fun b H1 => if b = true then t D σ H1 else u D σ H1
theorem ps_if {c : Expr} {a b : List Stmt} {tc : TT} (hc : PT X c tc) (ha : PSs X a t) (hb : PSs X b u) : PS X (.If c a b pos) (tIfS tc t u) := by
  intro pins s σ H D I h
  refine wpAny_If (thn (hc pins s σ H _ I h) fun d s1 ⟨H1, I1, q1⟩ => ?_)
  cases d with
  | true => exact ha pins s1 σ H1 D I1 q1
  | false => exact hb pins s1 σ H1 D I1 q1
end
noncomputable abbrev TG := V → St → Hp → (St → Hp → Prop) → Prop
noncomputable abbrev TGs := List V → St → Hp → (St → Hp → Prop) → Prop
noncomputable def PG (X : Cx) (target : Expr) (t : TG) : Prop :=
  ∀ (pins : List (Addr × Obj)) (s : Shared) (σ : St) (H : Hp) (v : V) (u : Value) (Q : St → Hp → Prop), Inv X pins σ H s → RelV v u → t v σ H Q →
    wpAny (model X.prog X.w) X.A (assign target X.env u) (fun _ s' => ∃ σ' H', Inv X pins σ' H' s' ∧ Q σ' H') X.xe s
noncomputable def PGs (X : Cx) (ts : List Expr) (t : TGs) : Prop :=
  ∀ (pins : List (Addr × Obj)) (s : Shared) (σ : St) (H : Hp) (vs : List V) (us : List Value) (Q : St → Hp → Prop), Inv X pins σ H s → Vals vs us → t vs σ H Q →
    wpAny (model X.prog X.w) X.A (assignInOrder ((assignEach ts X.env).map (·.2)) us) (fun _ s' => ∃ σ' H', Inv X pins σ' H' s' ∧ Q σ' H') X.xe s
section
variable {X : Cx} {pos : Pos}
noncomputable def gName (i : Nat) : TG := fun v σ H Q => Q (σ.set i (some v)) H
theorem pg_name {i : Nat} {x : Str} (hN : X.N.Nodup) (hi : X.N[i]? = some x) (hx : Loc X.env.scope x) (hf : X.fn x = true ∨ X.env.scope.names.lookup x = some .local := by first | exact .inl rfl | exact .inr rfl | assumption) : PG X (.Name x pos) (gName i) := by
  intro pins s σ H v u Q I r h
  exact wpAny_assign_Name (store_ok I hN hi hx r (fun s' I' => ⟨_, H, I', h⟩) hf)
noncomputable def gNil : TGs := fun vs σ H Q => vs = [] ∧ Q σ H
noncomputable def gCons (t : TG) (u : TGs) : TGs := fun vs σ H Q => ∃ v r, vs = v :: r ∧ t v σ H fun σ' H' => u r σ' H' Q
theorem pgs_nil : PGs X [] gNil := by
  intro pins s σ H vs us Q I r h
  obtain ⟨e, h⟩ := h
  subst e
  cases r
  exact assignInOrder_nil ⟨σ, H, I, h⟩
theorem pgs_cons {e : Expr} {es : List Expr} {t : TG} {u : TGs} (h1 : PG X e t) (h2 : PGs X es u)
    (hs : (assignEach (e :: es) X.env).map (·.2) = assign e X.env :: (assignEach es X.env).map (·.2) := by rfl) : PGs X (e :: es) (gCons t u) := by
  intro pins s σ H vs us Q I r h
  obtain ⟨v, vr, e1, h⟩ := h
  subst e1
  cases r with
  | cons r rr =>
    rw [hs]
    refine assignInOrder_cons (thn (h1 pins s σ H _ _ _ I r h) fun _ s1 ⟨σ1, H1, I1, q1⟩ => ?_)
    exact h2 pins s1 σ1 H1 _ _ Q I1 rr q1
noncomputable def gTup (K : PySem.W.Frag) (n : Nat) (t : TGs) : TG := fun v σ H Q => ∃ a xs, v = .ref a ∧ SqT K H a xs ∧ xs.length = n ∧ t xs σ H Q
theorem pg_tup {es : List Expr} {k : Nat} {t : TGs} {n : Nat} (hc : X.calm = true) (h : PGs X es t)
    (hn : (assignEach es X.env).length = n := by rfl) (hst : (assignEach es X.env).findIdx? (·.1) = none := by rfl) : PG X (.Tuple es k pos) (gTup X.K n t) := by
  intro pins s σ H v u Q I r hw
  obtain ⟨a, xs, e1, hq, hl, hw⟩ := hw
  subst e1
  cases r
  obtain ⟨its, rv, ht, hz⟩ := I.tuple hq
  refine assign_Tuple_tuple (I.ok.hd hc) ht (by simp [hn, ← hl, rv.length]) hst fun h' hx => ?_
  have I1 : Inv X pins σ H { s with heap := h' } := I.kept (t' := s.toks) fun b o e => hx b o (Nat.ne_of_lt (Heap.lt_size e)) e
  exact h pins _ σ H xs _ Q I1 (by simpa using rv) hw
noncomputable def tAsg (te : TE) (g : TG) : TS := fun D σ H => te σ H fun x H1 => g x σ H1 D.nx
theorem ps_asg {tg e : Expr} {te : TE} {g : TG} (he : PE X e te) (hg : PG X tg g) (hs : swapsWithSole [tg] e pos.line X.env = pure false := by rfl) (hw : swappedStores [tg] e X.env = pure none := by rfl)
    (h1 : (assignEach [tg] X.env).map (·.2) = [assign tg X.env] := by rfl) : PS X (.Assign [tg] e pos) (tAsg te g) := by
  intro pins s σ H D I h
  refine wpAny_Assign_stores (thn (he pins s σ H _ I h) fun v s1 ⟨x, H1, I1, r1, q1⟩ => ?_) hs hw
  rw [h1]
  exact thn (hg pins s1 σ H1 x v _ I1 r1 q1) fun _ s2 q => q
theorem ps_set {i : Nat} {x : Str} {e : Expr} {te : TE} {pos' : Pos} (hN : X.N.Nodup) (hi : X.N[i]? = some x) (hx : Loc X.env.scope x) (he : PE X e te) (hs : swapsWith e (some (.Name x pos')) pos.line X.env = pure false := by rfl) (hf : X.fn x = true ∨ X.env.scope.names.lookup x = some .local := by first | exact .inl rfl | exact .inr rfl | assumption) :
    PS X (.Assign [.Name x pos'] e pos) (tAsg te (gName i)) := by
  intro pins s σ H D I h
  refine wpAny_Assign_Name (thn (he pins s σ H _ I h) fun v s1 ⟨y, H1, I1, r1, q1⟩ => ?_) hs
  exact store_ok I1 hN hi hx r1 (fun s2 I2 => ⟨_, H1, I2, q1⟩) hf
end
section
variable {X : Cx} {pos : Pos}
noncomputable def tWhile (c : TT) (tb : TS) : TS := fun D σ H => ∃ W : Nat → St → Hp → Prop, (∃ m, W m σ H) ∧ ∀ m σ H, W m σ H →
  c σ H fun b H1 => if b = true then ∃ N : St → Hp → Prop, (∀ σ' H', N σ' H' → ∃ m', m' < m ∧ W m' σ' H') ∧ tb { D with nx := N, ct := N, bk := D.nx } σ H1 else D.nx σ H1
theorem ps_while {c : Expr} {body : List Stmt} {tc : TT} {tb : TS} (hp : PassesOwn (model X.prog X.w) X.A X.env X.xe) (hc : PT X c tc) (hb : PSs X body tb) : PS X (.While c body [] pos) (tWhile tc tb) := by
  intro pins s σ H D I h
  obtain ⟨W, ⟨m0, w0⟩, turn⟩ := h
  refine wpAny_While (codeAny_whileLoop (fun n s' => ∃ σ' H', Inv X pins σ' H' s' ∧ W n σ' H') ?_ m0 ⟨σ, H, I, w0⟩)
  rintro n s1 ⟨σ1, H1, I1, w1⟩
  refine wpAny_passesOwn hp (thn (hc pins s1 σ1 H1 _ I1 (turn n σ1 H1 w1)) fun b s2 ⟨H2, I2, q2⟩ => ?_)
  cases b with
  | true =>
    obtain ⟨N, hN, q2⟩ := q2
    rw [if_pos rfl]
    refine wpAny_passesOwn hp (thn (hb pins s2 σ1 H2 _ I2 q2) fun f s3 q3 => ?_)
    cases f with
    | next =>
      obtain ⟨σ3, H3, I3, n3⟩ := q3
      obtain ⟨m', hm, w3⟩ := hN σ3 H3 n3
      exact ⟨m', hm, σ3, H3, I3, w3⟩
    | cont =>
      obtain ⟨σ3, H3, I3, n3⟩ := q3
      obtain ⟨m', hm, w3⟩ := hN σ3 H3 n3
      exact ⟨m', hm, σ3, H3, I3, w3⟩
    | brk => exact q3
    | ret v => exact q3
  | false =>
    rw [if_neg Bool.false_ne_true]
    exact wpAny_execs_nil ⟨σ1, H2, I2, q2⟩
end
structure It where
  go : Nat → Hp → Prop
  yld : Nat → Hp → V → Hp → Prop
  stop : Nat → Hp → Prop
noncomputable def FpOk (X : Cx) (pins : List (Addr × Obj)) (H : Hp) (b : Addr) : Prop :=
  H b = none ∧ b ≠ X.env.locals ∧ b ∉ X.fs ∧ (b ∈ X.ex ∨ X.s₀.heap.objs.size ≤ b) ∧ (∀ x c, X.env.cells.lookup x = some c → c ≠ b) ∧ ∀ p ∈ X.pn ++ pins, p.1 ≠ b
theorem Inv.fpOk {X : Cx} {pins : List (Addr × Obj)} {σ : St} {H H' : Hp} {s : Shared} {b : Addr} (I : Inv X pins σ H s) (hb : s.heap.objs.size ≤ b) (hn : H' b = none) : FpOk X pins H' b := by
  refine ⟨hn, Nat.ne_of_gt (Nat.lt_of_lt_of_le I.lt hb), I.nofs hb, .inr (Nat.le_trans I.sz hb), fun x c e z => ?_, fun p hp z => ?_⟩
  · obtain ⟨v, q⟩ := I.cell x c e
    exact absurd (Nat.lt_of_lt_of_le q.lt (by rw [z]; exact hb)) (Nat.lt_irrefl _)
  · exact absurd (Nat.lt_of_lt_of_le (Heap.lt_size (I.pin p hp).1) (by rw [z]; exact hb)) (Nat.lt_irrefl _)
structure Turn (P : Program) (w : World) (K : PySem.W.Frag) (tg : Expr) (J : It) (fp : List Addr) (it : Addr) (tn : Nat → Heap → Prop) : Prop where
  mem : it ∈ fp
  obj : ∀ i h, tn i h → ∀ b ∈ fp, ∃ o, h.get? b = some o ∧ ∀ v, o.data ≠ .cell v
  keep : ∀ i h h', tn i h → (∀ b ∈ fp, ∀ o, h.get? b = some o → h'.get? b = some o) → tn i h'
  item : ∀ (X : Cx), X.prog = P → X.w = w → X.K = K → X.calm = true → ∀ (i : Nat) (pins : List (Addr × Obj)) (s : Shared) (σ : St) (H : Hp) (E : Value → Shared → Prop), Inv X pins σ H s → (∀ b ∈ fp, FpOk X pins H b) → tn i s.heap → J.go i H →
    wpAny (model P w) X.A (pyNext (.ref it)) (fun r s1 => ∃ u, r = some u ∧
      wpAny (model P w) X.A (letOwnedTupleGo tg (.ref it) u) (fun _ s2 => ∃ x H', Inv X pins σ H' s2 ∧ RelV x u ∧ J.yld i H x H' ∧ tn (i + 1) s2.heap ∧ ∀ b ∈ fp, H' b = none) E s1) E s
  done : ∀ (X : Cx), X.prog = P → X.w = w → X.K = K → X.calm = true → ∀ (i : Nat) (pins : List (Addr × Obj)) (s : Shared) (σ : St) (H : Hp) (E : Value → Shared → Prop), Inv X pins σ H s → (∀ b ∈ fp, FpOk X pins H b) → tn i s.heap → J.stop i H →
    wpAny (model P w) X.A (pyNext (.ref it)) (fun r s1 => r = none ∧ Inv X pins σ H s1) E s
  self : ∀ (A : Around) (i : Nat) (s : Shared) (Q : Value → Shared → Prop) (E : Value → Shared → Prop), tn i s.heap → Q (.ref it) s → wpAny (model P w) A (pyIter (.ref it)) Q E s
noncomputable abbrev TI := St → Hp → (It → Hp → Prop) → Prop
noncomputable def PIE (X : Cx) (pins : List (Addr × Obj)) (σ : St) (tg : Expr) (R : It → Hp → Prop) (itv : Value) (s2 : Shared) : Prop :=
  ∃ (it : Addr) (fp : List Addr) (tn : Nat → Heap → Prop) (J : It) (H' : Hp), itv = .ref it ∧ Inv X pins σ H' s2 ∧ Turn X.prog X.w X.K tg J fp it tn ∧ tn 0 s2.heap ∧ (∀ b ∈ fp, FpOk X pins H' b) ∧ R J H'
noncomputable def PI (X : Cx) (tg iter : Expr) (wi : TI) : Prop :=
  ∀ (pins : List (Addr × Obj)) (s : Shared) (σ : St) (H : Hp) (R : It → Hp → Prop), Inv X pins σ H s → wi σ H R →
    wpAny (model X.prog X.w) X.A (eval iter X.env) (fun v s1 => wpAny (model X.prog X.w) X.A (pyIter v) (PIE X pins σ tg R) X.xe s1) X.xe s
theorem go_of {M : Model} {A : Around} {E : Value → Shared → Prop} {s : Shared} {tg : Expr} {it : Addr} {u : Value} {o : Obj} {n : String} {vs : Array Value} {Q : Unit → Shared → Prop} (ho : s.heap.get? it = some o) (hc : o.cls = .type n) (hd : o.data = .fields vs)
    (hn : ["enumerate", "zip", "dict_itemiterator", "dict_reverseitemiterator", "odict_iterator", "itertools.zip_longest", "itertools.pairwise"].contains n = false) (hQ : Q () s) : wpAny M A (letOwnedTupleGo tg (.ref it) u) Q E s := by
  unfold letOwnedTupleGo
  cases tg <;> first
    | exact wpAny_pure hQ
    | (cases u <;> first
        | exact wpAny_pure hQ
        | (refine wpAny_bind (wpAny_load ho ?_)
           rw [hc, hd]
           show wpAny M A (if (["enumerate", "zip", "dict_itemiterator", "dict_reverseitemiterator", "odict_iterator", "itertools.zip_longest", "itertools.pairwise"].contains n && vs[0]? == some (rawInt _)) = true then _ else _) Q E s
           rw [if_neg (by intro h; rw [hn, Bool.false_and] at h; cases h)]
           exact wpAny_pure hQ))
noncomputable def Itl (K : PySem.W.Frag) (a : Addr) : It :=
  ⟨fun i H => ∃ xs x, SqL K H a xs ∧ xs[i]? = some x, fun i H x H' => H' = H ∧ ∀ xs, SqL K H a xs → xs[i]? = some x, fun i H => ∃ xs, SqL K H a xs ∧ xs.length ≤ i⟩
noncomputable def Itr (lo : Int) (n : Nat) : It := ⟨fun i _ => i < n, fun i H x H' => H' = H ∧ x = .int (lo + i), fun i _ => n ≤ i⟩
theorem turn_list {P : Program} {w : World} {K : PySem.W.Frag} {tg : Expr} (a it : Addr) : Turn P w K tg (Itl K a) [it] it (fun i h => h.IsListIter it a i) where
  mem := by simp
  obj := fun i h st b hb => by
    have e : b = it := by simpa using hb
    subst e
    obtain ⟨o, e, c, d⟩ := st
    exact ⟨o, e, fun v z => by rw [d] at z; cases z⟩
  keep := fun i h h' st k => st.at fun o e => k it (by simp) o e
  item := by
    intro X hP hw hK hc i pins s σ H E I hf st hg
    subst hP hw hK
    obtain ⟨xs, x, hq, hx⟩ := hg
    obtain ⟨its, rv, p, hz⟩ := I.list hq
    obtain ⟨u, hu, ru⟩ := rv.get hx
    obtain ⟨f0, f1, f2, f3, f4, f5⟩ := hf it (by simp)
    refine wpAny_pyNext_list_item st p.isList (x := u) (by simpa using hu) fun h' st' sb => ?_
    have I1 : Inv X pins σ H { s with heap := h' } := I.turned (t' := s.toks) (fun b o hb e => (sb.2 b hb).trans e) f0 f1 f3 f4 f5
    obtain ⟨o, e, c, d⟩ := id st'
    exact ⟨u, rfl, go_of (s := { s with heap := h' }) e c d (by decide) ⟨x, H, I1, ru, ⟨rfl, fun ys hy => by rw [I.list_inj hy hq]; exact hx⟩, st', fun b hb => (hf b hb).1⟩⟩
  done := by
    intro X hP hw hK hc i pins s σ H E I hf st hg
    subst hP hw hK
    obtain ⟨xs, hq, hx⟩ := hg
    obtain ⟨its, rv, p, hz⟩ := I.list hq
    obtain ⟨f0, f1, f2, f3, f4, f5⟩ := hf it (by simp)
    have hl := rv.length
    exact wpAny_pyNext_list_end (I.ok.hd hc) st p.isList (by simp; omega) fun h' eb => ⟨rfl, I.turned (t' := s.toks) (fun b o hb e => eb b o hb e) f0 f1 f3 f4 f5⟩
  self := fun _ _ _ _ _ st h => wpAny_pyIter_listiter st h
theorem turn_range {P : Program} {w : World} {K : PySem.W.Frag} {tg : Expr} (it : Addr) (lo : Int) (n : Nat) : Turn P w K tg (Itr lo n) [it] it (fun i h => IsRangeIter h it (lo + (i : Nat) * 1) ((n : Int) - (i : Nat)) 1) where
  mem := by simp
  obj := fun i h st b hb => by
    have e : b = it := by simpa using hb
    subst e
    exact ⟨_, st, fun v z => by
      have z' : Data.fields _ = Data.cell v := z
      cases z'⟩
  keep := fun i h h' st k => k it (by simp) _ st
  item := by
    intro X hP hw hK hc i pins s σ H E I hf st hg
    subst hP hw hK
    obtain ⟨f0, f1, f2, f3, f4, f5⟩ := hf it (by simp)
    have W := Walks.range (prog := X.prog) (w := X.w) (I.ok.hd hc) it lo 1 n
    refine W.item i s _ _ hg st fun v h' tk hv st' kk => ?_
    obtain ⟨t, rfl⟩ := hv
    have I1 : Inv X pins σ H { s with heap := h', toks := tk } := I.turned (fun b o hb e => kk b o (by simpa using hb) e) f0 f1 f3 f4 f5
    refine ⟨_, rfl, go_of (s := { s with heap := h', toks := tk }) (n := "range_iterator") st' rfl rfl (by decide) ⟨.int (lo + i), H, I1, ⟨t, ?_⟩, ⟨rfl, rfl⟩, st', fun b hb => (hf b hb).1⟩⟩
    rw [Int.mul_one]
  done := by
    intro X hP hw hK hc i pins s σ H E I hf st hg
    subst hP hw hK
    obtain ⟨f0, f1, f2, f3, f4, f5⟩ := hf it (by simp)
    exact wpAny_pyNext_range_end (I.ok.hd hc) st (by have : n ≤ i := hg; omega) fun h' eb => ⟨rfl, I.turned (t' := s.toks) (fun b o hb e => eb b o hb e) f0 f1 f3 f4 f5⟩
  self := fun _ _ _ _ _ st h => wpAny_pyIter_rangeiter st h
end L2
namespace L2
open PySem PySem.Spec PyProof.Rows
section
variable {X : Cx} {tg : Expr}
noncomputable def iList (K : PySem.W.Frag) (tl : TE) : TI := fun σ H R => tl σ H fun x H1 => ∃ a, x = .ref a ∧ (∃ xs, SqL K H1 a xs) ∧ R (Itl K a) H1
theorem pi_list {l : Expr} {tl : TE} (hl : PE X l tl) : PI X tg l (iList X.K tl) := by
  intro pins s σ H R I h
  refine thn (hl pins s σ H _ I h) fun v s1 ⟨x, H1, I1, r1, q1⟩ => ?_
  obtain ⟨a, e, ⟨xs, hq⟩, q⟩ := q1
  subst e
  cases r1
  obtain ⟨its, rv, p, hz⟩ := I1.list hq
  refine wpAny_pyIter_list p.isList ?_
  refine ⟨s1.heap.objs.size, [s1.heap.objs.size], _, _, H1, rfl, I1.kept (t' := s1.toks) fun b o e => Heap.get?_push_of_some _ e, turn_list a _, ⟨_, Heap.get?_push_size _ rfl, rfl, rfl⟩, fun b hb => ?_, q⟩
  have e : b = s1.heap.objs.size := by simpa using hb
  subst e
  exact I1.fpOk (Nat.le_refl _) (I1.hok.fresh (Nat.le_refl _))
theorem range_it {pins : List (Addr × Obj)} {σ : St} {H : Hp} {s : Shared} {R : It → Hp → Prop} {E : Value → Shared → Prop} {lo hi : Int} {t u v : Tok} {tk : Nat} (I : Inv X pins σ H s) (h1 : -(2 ^ 62) ≤ lo) (h2 : lo < 2 ^ 62) (h3 : -(2 ^ 62) ≤ hi) (h4 : hi < 2 ^ 62)
    (q : R (Itr lo (hi - lo).toNat) H) : wpAny (model X.prog X.w) X.A (pyIter (.ref s.heap.objs.size)) (PIE X pins σ tg R) E { s with heap := s.heap.push { cls := .type "range", data := .fields #[.int lo t, .int hi u, .int 1 v] }, toks := tk } := by
  refine wpAny_pyIter_range (IsRange.new ..) (small_one h1 h2 h3 h4) ?_
  have I1 : Inv X pins σ H { s with heap := s.heap.push { cls := .type "range", data := .fields #[.int lo t, .int hi u, .int 1 v] }, toks := tk } := I.kept fun b o e => Heap.get?_push_of_some _ e
  refine ⟨(s.heap.push { cls := .type "range", data := .fields #[.int lo t, .int hi u, .int 1 v] }).objs.size, [(s.heap.push { cls := .type "range", data := .fields #[.int lo t, .int hi u, .int 1 v] }).objs.size], _, _, H, rfl,
    I1.kept (t' := tk) fun b o e => Heap.get?_push_of_some _ e, turn_range _ lo (hi - lo).toNat, ?_, fun b hb => ?_, q⟩
  · have e1 : lo + ((0 : Nat) : Int) * 1 = lo := by simp
    have e2 : (((hi - lo).toNat : Nat) : Int) - ((0 : Nat) : Int) = Builtin.Range.rangeSize lo hi 1 := by rw [rangeSize_one]; split <;> omega
    show IsRangeIter _ _ (lo + ((0 : Nat) : Int) * 1) ((((hi - lo).toNat : Nat) : Int) - ((0 : Nat) : Int)) 1
    rw [e1, e2]
    exact Heap.get?_push_size _ rfl
  · have e : b = (s.heap.push { cls := .type "range", data := .fields #[.int lo t, .int hi u, .int 1 v] }).objs.size := by simpa using hb
    subst e
    exact I1.fpOk (Nat.le_refl _) (I1.hok.fresh (Nat.le_refl _))
noncomputable def iRng1 (ta : TA) : TI := fun σ H R => ta σ H fun vs H1 => ∃ j : Int, vs = [.int j] ∧ -(2 ^ 62) ≤ j ∧ j < 2 ^ 62 ∧ R (Itr 0 j.toNat) H1
noncomputable def iRng2 (ta : TA) : TI := fun σ H R => ta σ H fun vs H1 => ∃ i j : Int, vs = [.int i, .int j] ∧ (-(2 ^ 62) ≤ i ∧ i < 2 ^ 62 ∧ -(2 ^ 62) ≤ j ∧ j < 2 ^ 62) ∧ R (Itr i (j - i).toNat) H1
theorem pi_range1 {a : Expr} {ta : TA} {p pos : Pos} (hg : Gl X "range") (hm : X.mg "range" = none) (ha : PA X [a] ta) (hs : starEach [a] X.env = [(false, eval a X.env)] := by rfl) : PI X tg (.Call (.Name "range" p) [a] [] pos) (iRng1 ta) := by
  intro pins s σ H R I h
  refine Call_ (ld_blt I hg hm boot_range (PyProof.Rows.callWith_type1 (thn (ha pos pins s σ H _ I h) fun us s1 ⟨vs, H1, I1, r1, q1⟩ => ?_) hs rfl))
  obtain ⟨j, e, q1, q2, q⟩ := q1
  subst e
  cases r1 with
  | cons r rr =>
    cases rr
    obtain ⟨t, rfl⟩ := r
    exact call_range_1 (range_it I1 (by omega) (by omega) q1 q2 (by simpa using q))
theorem pi_range2 {a b : Expr} {ta : TA} {p pos : Pos} (hg : Gl X "range") (hm : X.mg "range" = none) (ha : PA X [a, b] ta) (hs : starEach [a, b] X.env = [(false, eval a X.env), (false, eval b X.env)] := by rfl) (hs2 : starEach [b] X.env = [(false, eval b X.env)] := by rfl) :
    PI X tg (.Call (.Name "range" p) [a, b] [] pos) (iRng2 ta) := by
  intro pins s σ H R I h
  refine Call_ (ld_blt I hg hm boot_range (PyProof.Rows.callWith_type1 (thn (ha pos pins s σ H _ I h) fun us s1 ⟨vs, H1, I1, r1, q1⟩ => ?_) (by rw [hs, hs2]) (by rw [hs2]; rfl)))
  obtain ⟨i, j, e, ⟨q1, q2, q3, q4⟩, q⟩ := q1
  subst e
  cases r1 with
  | cons r rr =>
    cases rr with
    | cons r' rr =>
      cases rr
      obtain ⟨t, rfl⟩ := r
      obtain ⟨t', rfl⟩ := r'
      exact call_range_2 (range_it I1 q1 q2 q3 q4 q)
noncomputable def tFor (wi : TI) (g : TG) (tb : TS) : TS := fun D σ H => wi σ H fun J H1 => ∃ W : Nat → Nat → St → Hp → Prop, (∃ m, W 0 m σ H1) ∧ ∀ i m σ H, W i m σ H →
  (J.stop i H ∧ D.nx σ H) ∨ (J.go i H ∧ ∃ N : St → Hp → Prop, (∀ σ' H', N σ' H' → ∃ m', m' < m ∧ W (i + 1) m' σ' H') ∧ ∀ x H', J.yld i H x H' → g x σ H' fun σ2 H2 => tb { D with nx := N, ct := N, bk := D.nx } σ2 H2)
noncomputable def pinsAt (fp : List Addr) (h : Heap) : List (Addr × Obj) := fp.filterMap fun b => (h.get? b).map fun o => (b, o)
theorem mem_pinsAt {fp : List Addr} {h : Heap} {b : Addr} {o : Obj} (hb : b ∈ fp) (e : h.get? b = some o) : (b, o) ∈ pinsAt fp h := List.mem_filterMap.mpr ⟨b, hb, by rw [e]; rfl⟩
theorem of_pinsAt {fp : List Addr} {h : Heap} {p : Addr × Obj} (hp : p ∈ pinsAt fp h) : p.1 ∈ fp ∧ h.get? p.1 = some p.2 := by
  obtain ⟨b, hb, e⟩ := List.mem_filterMap.mp hp
  cases q : h.get? b with
  | none => rw [q] at e; cases e
  | some o =>
    rw [q] at e
    have e' : (b, o) = p := Option.some.inj e
    subst e'
    exact ⟨hb, q⟩
theorem Inv.pinned {pins : List (Addr × Obj)} {σ : St} {H : Hp} {s : Shared} {fp : List Addr} (I : Inv X pins σ H s) (hf : ∀ b ∈ fp, FpOk X pins H b) (ho : ∀ b ∈ fp, ∃ o, s.heap.get? b = some o ∧ ∀ v, o.data ≠ .cell v) : Inv X (pins ++ pinsAt fp s.heap) σ H s :=
  I.pins_of fun p hp => (List.mem_append.mp hp).elim (fun z => I.pin p (List.mem_append_right _ z)) fun z => by
    obtain ⟨hb, e⟩ := of_pinsAt z
    obtain ⟨f0, f1, f2, _⟩ := hf p.1 hb
    obtain ⟨o, e', d⟩ := ho p.1 hb
    rw [e] at e'; cases e'
    exact ⟨e, f0, f1, f2, d⟩
theorem Inv.unpinned {pins pl : List (Addr × Obj)} {σ : St} {H : Hp} {s : Shared} (I : Inv X (pins ++ pl) σ H s) : Inv X pins σ H s := I.pins_of fun p hp => I.pin p (List.mem_append_right _ (List.mem_append_left _ hp))
theorem ps_for {iter : Expr} {body : List Stmt} {wi : TI} {g : TG} {tb : TS} {pos : Pos} (hp : PassesOwn (model X.prog X.w) X.A X.env X.xe) (hc : X.calm = true) (hi : PI X tg iter wi) (hg : PG X tg g) (hb : PSs X body tb)
    (hs : ∀ x, foldedSetIterable iter X.env x = pure x := by intro _; rfl) : PS X (.For tg iter body [] pos) (tFor wi g tb) := by
  intro pins s σ H D I h
  refine wpAny_For (thn (hi pins s σ H _ I h) fun v s1 h1 => thn h1 fun itv s2 h2 => ?_) hs
  obtain ⟨it, fp, tn, J, H2, e, I2, T, st2, f2, W, ⟨m0, w0⟩, turn⟩ := h2
  subst e
  have stat : ∀ {H' : Hp}, (∀ b ∈ fp, H' b = none) → ∀ b ∈ fp, FpOk X pins H' b := fun hn b hb => ⟨hn b hb, (f2 b hb).2⟩
  refine codeAny_forLoop_any (fun n s' => ∃ i σ' H', Inv X pins σ' H' s' ∧ tn i s'.heap ∧ (∀ b ∈ fp, H' b = none) ∧ W i n σ' H') ?_ m0 ⟨0, σ, H2, I2, st2, fun b hb => (f2 b hb).1, w0⟩
  rintro n s3 ⟨i, σ3, H3, I3, st3, fr3, w3⟩
  rcases turn i n σ3 H3 w3 with ⟨stop, qn⟩ | ⟨go, N, hN, step⟩
  · refine wpAny_passesOwn hp (thn (T.done X rfl rfl rfl hc i pins s3 σ3 H3 X.xe I3 (stat fr3) st3 stop) fun r s4 ⟨hr, I4⟩ => ?_)
    subst hr
    exact wpAny_execs_nil ⟨σ3, H3, I4, qn⟩
  · refine wpAny_passesOwn hp (thn (T.item X rfl rfl rfl hc i pins s3 σ3 H3 X.xe I3 (stat fr3) st3 go) fun r s4 ⟨u, hr, h4⟩ => ?_)
    subst hr
    refine wpAny_passesOwn hp (thn h4 fun _ s5 ⟨x, H5, I5, r5, y5, st5, fr5⟩ => ?_)
    have I5' := I5.pinned (stat fr5) (T.obj _ _ st5)
    refine wpAny_passesOwn hp (thn (hg _ s5 σ3 H5 x u _ I5' r5 (step x H5 y5)) fun _ s6 ⟨σ6, H6, I6, q6⟩ => ?_)
    refine wpAny_passesOwn hp (thn (hb _ s6 σ6 H6 _ I6 q6) fun f s7 q7 => ?_)
    have again : ∀ {σ7 : St} {H7 : Hp}, Inv X (pins ++ pinsAt fp s5.heap) σ7 H7 s7 → N σ7 H7 → ∃ m, m < n ∧ ∃ i σ' H', Inv X pins σ' H' s7 ∧ tn i s7.heap ∧ (∀ b ∈ fp, H' b = none) ∧ W i m σ' H' := fun {σ7 H7} I7 n7 => by
      obtain ⟨m', hm, w7⟩ := hN σ7 H7 n7
      refine ⟨m', hm, i + 1, σ7, H7, I7.unpinned, T.keep _ _ _ st5 fun b hb o e => (I7.pin (b, o) (List.mem_append_right _ (List.mem_append_right _ (mem_pinsAt hb e)))).1, fun b hb => ?_, w7⟩
      obtain ⟨o, e, d⟩ := T.obj _ _ st5 b hb
      exact (I7.pin (b, o) (List.mem_append_right _ (List.mem_append_right _ (mem_pinsAt hb e)))).2.1
    cases f with
    | next => obtain ⟨σ7, H7, I7, n7⟩ := q7; exact again I7 n7
    | cont => obtain ⟨σ7, H7, I7, n7⟩ := q7; exact again I7 n7
    | brk => obtain ⟨σ7, H7, I7, q7⟩ := q7; exact ⟨σ7, H7, I7.unpinned, q7⟩
    | ret v => obtain ⟨x7, σ7, H7, I7, r7, q7⟩ := q7; exact ⟨x7, σ7, H7, I7.unpinned, r7, q7⟩
end
theorem for_list {K : PySem.W.Frag} {a : Addr} {xs : List V} {g : TG} {tb : TS} {D : Ends} {σ : St} {H : Hp} (Pv : Nat → St → Hp → Prop) (h0 : Pv 0 σ H) (hl : ∀ i σ H, i ≤ xs.length → Pv i σ H → SqL K H a xs)
    (hs : ∀ i x σ H, xs[i]? = some x → Pv i σ H → g x σ H fun σ2 H2 => tb { D with nx := Pv (i + 1), ct := Pv (i + 1), bk := D.nx } σ2 H2) (hd : ∀ σ H, Pv xs.length σ H → D.nx σ H) :
    ∃ W : Nat → Nat → St → Hp → Prop, (∃ m, W 0 m σ H) ∧ ∀ i m σ H, W i m σ H →
      ((Itl K a).stop i H ∧ D.nx σ H) ∨ ((Itl K a).go i H ∧ ∃ N : St → Hp → Prop, (∀ σ' H', N σ' H' → ∃ m', m' < m ∧ W (i + 1) m' σ' H') ∧ ∀ x H', (Itl K a).yld i H x H' → g x σ H' fun σ2 H2 => tb { D with nx := N, ct := N, bk := D.nx } σ2 H2) := by
  refine ⟨fun i m σ H => m = xs.length - i ∧ i ≤ xs.length ∧ Pv i σ H, ⟨xs.length, by simp, Nat.zero_le _, h0⟩, ?_⟩
  rintro i m σ H ⟨rfl, hi, p⟩
  have q := hl i σ H hi p
  by_cases hlt : i < xs.length
  · refine .inr ⟨⟨xs, xs[i], q, by simp [hlt]⟩, Pv (i + 1), fun σ' H' p' => ⟨xs.length - (i + 1), by omega, rfl, hlt, p'⟩, fun x H' y => ?_⟩
    obtain ⟨e, y⟩ := y
    subst e
    exact hs i x σ _ (y xs q) p
  · have e : i = xs.length := by omega
    subst e
    exact .inl ⟨⟨xs, q, Nat.le_refl _⟩, hd σ H p⟩
theorem for_range {lo : Int} {n : Nat} {g : TG} {tb : TS} {D : Ends} {σ : St} {H : Hp} (Pv : Nat → St → Hp → Prop) (h0 : Pv 0 σ H)
    (hs : ∀ i σ H, i < n → Pv i σ H → g (.int (lo + i)) σ H fun σ2 H2 => tb { D with nx := Pv (i + 1), ct := Pv (i + 1), bk := D.nx } σ2 H2) (hd : ∀ σ H, Pv n σ H → D.nx σ H) :
    ∃ W : Nat → Nat → St → Hp → Prop, (∃ m, W 0 m σ H) ∧ ∀ i m σ H, W i m σ H →
      ((Itr lo n).stop i H ∧ D.nx σ H) ∨ ((Itr lo n).go i H ∧ ∃ N : St → Hp → Prop, (∀ σ' H', N σ' H' → ∃ m', m' < m ∧ W (i + 1) m' σ' H') ∧ ∀ x H', (Itr lo n).yld i H x H' → g x σ H' fun σ2 H2 => tb { D with nx := N, ct := N, bk := D.nx } σ2 H2) := by
  refine ⟨fun i m σ H => m = n - i ∧ i ≤ n ∧ Pv i σ H, ⟨n, by simp, Nat.zero_le _, h0⟩, ?_⟩
  rintro i m σ H ⟨rfl, hi, p⟩
  by_cases hlt : i < n
  · refine .inr ⟨hlt, Pv (i + 1), fun σ' H' p' => ⟨n - (i + 1), by omega, rfl, hlt, p'⟩, fun x H' y => ?_⟩
    obtain ⟨e, y⟩ := y
    subst e y
    exact hs i σ _ hlt p
  · have e : i = n := by omega
    subst e
    exact .inl ⟨Nat.le_refl _, hd σ H p⟩
theorem while_by {c : TT} {tb : TS} {D : Ends} {σ : St} {H : Hp} (Pv : St → Hp → Prop) (μ : St → Hp → Nat) (h0 : Pv σ H)
    (hs : ∀ σ H, Pv σ H → c σ H fun b H1 => if b = true then tb { D with nx := fun σ' H' => Pv σ' H' ∧ μ σ' H' < μ σ H, ct := fun σ' H' => Pv σ' H' ∧ μ σ' H' < μ σ H, bk := D.nx } σ H1 else D.nx σ H1)
    (mono : ∀ σ H Q Q', (∀ b H1, Q b H1 → Q' b H1) → c σ H Q → c σ H Q') : tWhile c tb D σ H := by
  refine ⟨fun m σ H => m = μ σ H ∧ Pv σ H, ⟨_, rfl, h0⟩, ?_⟩
  rintro m σ H ⟨rfl, p⟩
  refine mono σ H _ _ (fun b H1 q => ?_) (hs σ H p)
  cases b with
  | true => exact ⟨_, fun σ' H' ⟨p', l⟩ => ⟨_, l, rfl, p'⟩, q⟩
  | false => exact q
end L2
namespace L2
open PySem PySem.Spec PyProof.Rows
noncomputable abbrev R2 := V → V → Hp → VK → Prop
noncomputable def OpR (X : Cx) (f : Value → Value → Sem Value) (r : R2) : Prop :=
  ∀ (pins : List (Addr × Obj)) (s : Shared) (σ : St) (H : Hp) (x y : V) (v u : Value) (Q : VK), Inv X pins σ H s → RelV x v → RelV y u → r x y H Q →
    wpAny (model X.prog X.w) X.A (f v u) (EP X pins σ Q) X.xe s
noncomputable def UnR (X : Cx) (f : Value → Sem Value) (r : V → Hp → VK → Prop) : Prop :=
  ∀ (pins : List (Addr × Obj)) (s : Shared) (σ : St) (H : Hp) (x : V) (v : Value) (Q : VK), Inv X pins σ H s → RelV x v → r x H Q →
    wpAny (model X.prog X.w) X.A (f v) (EP X pins σ Q) X.xe s
noncomputable def CallR (X : Cx) (f : Value) (r : List V → Hp → VK → Prop) : Prop :=
  ∀ (pins : List (Addr × Obj)) (s : Shared) (σ : St) (H : Hp) (xs : List V) (us : List Value) (Q : VK), Inv X pins σ H s → Vals xs us → r xs H Q →
    wpAny (model X.prog X.w) X.A (call f us) (EP X pins σ Q) X.xe s
noncomputable def tOp (r : R2) (ta tb : TE) : TE := fun σ H Q => ta σ H fun x H1 => tb σ H1 fun y H2 => r x y H2 Q
noncomputable def tUn (r : V → Hp → VK → Prop) (ta : TE) : TE := fun σ H Q => ta σ H fun x H1 => r x H1 Q
noncomputable def rI (C : Int → Int → Prop) (g : Int → Int → V) : R2 := fun x y H Q => ∃ i j, x = .int i ∧ y = .int j ∧ C i j ∧ Q (g i j) H
noncomputable def rI0 (g : Int → Int → V) : R2 := fun x y H Q => ∃ i j, x = .int i ∧ y = .int j ∧ Q (g i j) H
noncomputable def rU (g : Int → V) : V → Hp → VK → Prop := fun x H Q => ∃ i, x = .int i ∧ Q (g i) H
section
variable {X : Cx} {a b c : Expr} {ta tb tc : TE} {pos : Pos}
theorem binT (ha : PE X a ta) (hb : PE X b tb) {pins : List (Addr × Obj)} {s : Shared} {σ : St} {H : Hp} {R : V → V → Hp → Prop} (I : Inv X pins σ H s)
    (h : ta σ H fun x H1 => tb σ H1 fun y H2 => R x y H2) {Q : Value → Shared → Prop} {f : Value → Value → Sem Value}
    (hf : ∀ v u s2 x y H2, Inv X pins σ H2 s2 → RelV x v → RelV y u → R x y H2 → wpAny (model X.prog X.w) X.A (f v u) Q X.xe s2) :
    wpAny (model X.prog X.w) X.A (eval a X.env) (fun v s₁ => wpAny (model X.prog X.w) X.A (eval b X.env) (fun u s₂ => wpAny (model X.prog X.w) X.A (f v u) Q X.xe s₂) X.xe s₁) X.xe s := by
  refine thn (ha pins s σ H _ I h) fun v s1 ⟨x, H1, I1, r1, q1⟩ => ?_
  refine thn (hb pins s1 σ H1 _ I1 q1) fun u s2 ⟨y, H2, I2, r2, q2⟩ => ?_
  exact hf v u s2 x y H2 I2 r1 r2 q2
theorem pe_op {op : Operator} {r : R2} (ho : OpR X (binaryOp op) r) (ha : PE X a ta) (hb : PE X b tb) : PE X (.BinOp a op b pos) (tOp r ta tb) := by
  intro pins s σ H Q I h
  exact wpAny_BinOp (binT ha hb I h fun v u s2 x y H2 I2 rx ry q => ho pins s2 σ H2 x y v u Q I2 rx ry q)
theorem pe_un {op : UnaryOp} {r : V → Hp → VK → Prop} (ho : UnR X (unaryOp op) r) (ha : PE X a ta) : PE X (.UnaryOp op a pos) (tUn r ta) := by
  intro pins s σ H Q I h
  exact UnaryOp_ (thn (ha pins s σ H _ I h) fun v s1 ⟨x, H1, I1, r1, q1⟩ => ho pins s1 σ H1 x v Q I1 r1 q1)
theorem opI {f : Value → Value → Sem Value} {C : Int → Int → Prop} {g : Int → Int → Int}
    (rule : ∀ (i j : Int) (t u : Tok) (s : Shared) (Q : Value → Shared → Prop) (E : Value → Shared → Prop), C i j → Q (.int (g i j) s.toks) { s with toks := s.toks + 1 } → wpAny (model X.prog X.w) X.A (f (.int i t) (.int j u)) Q E s) :
    OpR X f (rI C fun i j => .int (g i j)) := by
  intro pins s σ H x y v u Q I rx ry h
  obtain ⟨i, j, rfl, rfl, hc, q⟩ := h
  obtain ⟨t, rfl⟩ := rx
  obtain ⟨t', rfl⟩ := ry
  exact rule i j t t' s _ _ hc ⟨.int (g i j), H, I.tok _, ⟨_, rfl⟩, q⟩
theorem opI0 {f : Value → Value → Sem Value} {g : Int → Int → Int}
    (rule : ∀ (i j : Int) (t u : Tok) (s : Shared) (Q : Value → Shared → Prop) (E : Value → Shared → Prop), Q (.int (g i j) s.toks) { s with toks := s.toks + 1 } → wpAny (model X.prog X.w) X.A (f (.int i t) (.int j u)) Q E s) :
    OpR X f (rI0 fun i j => .int (g i j)) := by
  intro pins s σ H x y v u Q I rx ry h
  obtain ⟨i, j, rfl, rfl, q⟩ := h
  obtain ⟨t, rfl⟩ := rx
  obtain ⟨t', rfl⟩ := ry
  exact rule i j t t' s _ _ ⟨.int (g i j), H, I.tok _, ⟨_, rfl⟩, q⟩
theorem opB0 {f : Value → Value → Sem Value} {g : Int → Int → Bool}
    (rule : ∀ (i j : Int) (t u : Tok) (s : Shared) (Q : Value → Shared → Prop) (E : Value → Shared → Prop), Q (.bool (g i j)) s → wpAny (model X.prog X.w) X.A (f (.int i t) (.int j u)) Q E s) :
    OpR X f (rI0 fun i j => .bl (g i j)) := by
  intro pins s σ H x y v u Q I rx ry h
  obtain ⟨i, j, rfl, rfl, q⟩ := h
  obtain ⟨t, rfl⟩ := rx
  obtain ⟨t', rfl⟩ := ry
  exact rule i j t t' s _ _ ⟨.bl (g i j), H, I, rfl, q⟩
noncomputable def CDiv (i j : Int) : Prop := 0 < j ∧ j < 1073741824
noncomputable def CPow (i j : Int) : Prop := 0 ≤ j ∧ j ≤ 1000000 ∧ i.natAbs < 2 ^ 64
noncomputable def CMul (i j : Int) : Prop := (-(2 ^ 64) < i ∧ i < 2 ^ 64) ∨ (-(2 ^ 64) < j ∧ j < 2 ^ 64)
theorem CMul.ok {i j : Int} (h : CMul i j) : IntMulOk i j := by
  rcases h with ⟨h1, h2⟩ | ⟨h1, h2⟩
  · exact .of_left (intBits_le_64 h1 h2)
  · exact .of_right (intBits_le_64 h1 h2)
theorem op_add : OpR X (binaryOp .Add) (rI0 fun i j => .int (i + j)) := opI0 fun _ _ _ _ _ _ _ q => add_int q
theorem op_sub : OpR X (binaryOp .Sub) (rI0 fun i j => .int (i - j)) := opI0 fun _ _ _ _ _ _ _ q => sub_int q
theorem op_mul : OpR X (binaryOp .Mult) (rI CMul fun i j => .int (i * j)) := opI fun _ _ _ _ _ _ _ hc q => mul_int q hc.ok
theorem op_fdiv : OpR X (binaryOp .FloorDiv) (rI CDiv fun i j => .int (i / j)) := opI fun i j _ _ _ _ _ hc q => by
  have h1 : (0 : Int) < j := hc.1
  have h2 : j < 1073741824 := hc.2
  exact floordiv_int (by omega) (by rw [Int.fdiv_eq_ediv_of_nonneg i (by omega)]; exact q) (.inl (PyProof.noPylong_small (by omega)))
theorem op_mod : OpR X (binaryOp .Mod) (rI (fun _ j => 0 < j) fun i j => .int (i % j)) := opI fun i j _ _ _ _ _ hc q => by
  have h1 : (0 : Int) < j := hc
  exact mod_int' (by omega) (by rw [Int.fmod_eq_emod_of_nonneg i (by omega)]; exact q)
theorem op_pow : OpR X (binaryOp .Pow) (rI CPow fun i j => .int (i ^ j.toNat)) := opI fun _ _ _ _ _ _ _ hc q => pow_int_small hc.1 hc.2.1 hc.2.2 q
theorem unI {f : Value → Sem Value} {g : Int → Int}
    (rule : ∀ (i : Int) (t : Tok) (s : Shared) (Q : Value → Shared → Prop) (E : Value → Shared → Prop), Q (.int (g i) s.toks) { s with toks := s.toks + 1 } → wpAny (model X.prog X.w) X.A (f (.int i t)) Q E s) :
    UnR X f (rU fun i => .int (g i)) := by
  intro pins s σ H x v Q I rx h
  obtain ⟨i, rfl, q⟩ := h
  obtain ⟨t, rfl⟩ := rx
  exact rule i t s _ _ ⟨.int (g i), H, I.tok _, ⟨_, rfl⟩, q⟩
theorem un_neg : UnR X (unaryOp .USub) (rU fun i => .int (-i)) := unI fun _ _ _ _ _ q => neg_int q
end
noncomputable def scal : V → V → Bool
  | .non, .non => true | .non, .int _ => true | .int _, .non => true | .non, .bl _ => true | .bl _, .non => true | .non, .str _ => true | .str _, .non => true
  | .int _, .int _ => true | .bl _, .bl _ => true | .str _, .str _ => true | .byt _, .byt _ => true
  | .int _, .str _ => true | .str _, .int _ => true | .bl _, .str _ => true | .str _, .bl _ => true
  | _, _ => false
noncomputable def rEq : R2 := fun x y H Q => scal x y = true ∧ Q (.bl (decide (x = y))) H
noncomputable def rNe : R2 := fun x y H Q => scal x y = true ∧ Q (.bl (!decide (x = y))) H
theorem dec_int {i j : Int} : decide (V.int i = V.int j) = (i == j) := by
  rw [Bool.eq_iff_iff]
  simp
theorem dec_bl {i j : Bool} : decide (V.bl i = V.bl j) = (i == j) := by
  rw [Bool.eq_iff_iff]
  simp
theorem dec_str {i j : Str} : decide (V.str i = V.str j) = (i == j) := by
  rw [Bool.eq_iff_iff]
  simp
theorem dec_byt {i j : Array UInt8} : decide (V.byt i = V.byt j) = (i.toList == j.toList) := by
  rw [Bool.eq_iff_iff]
  cases i
  cases j
  simp
section
variable {X : Cx} {a b c : Expr} {ta tb tc : TE} {pos : Pos}
theorem fin_bl {pins : List (Addr × Obj)} {σ : St} {H : Hp} {s : Shared} {Q : VK} {k k' : Bool} (I : Inv X pins σ H s) (q : Q (.bl k) H) (e : k = k') : EP X pins σ Q (.bool k') s := by
  subst e
  exact ⟨.bl k, H, I, rfl, q⟩
theorem op_eq : OpR X (compareOp .Eq) rEq := by
  intro pins s σ H x y v u Q I rx ry h
  obtain ⟨hs, q⟩ := h
  cases x with
  | non =>
    cases rx
    cases y with
    | non => cases ry; exact PySem.EqNone.eq_none_none (fin_bl I q (by simp))
    | bl j => cases ry; exact PySem.EqNone.eq_none_bool (fin_bl I q (by simp))
    | int j => obtain ⟨t', rfl⟩ := ry; exact PySem.EqNone.eq_none_int (fin_bl I q (by simp))
    | str j => obtain ⟨t', rfl⟩ := ry; exact PySem.EqNone.eq_none_str (fin_bl I q (by simp))
    | _ => exact absurd (show false = true from hs) Bool.false_ne_true
  | bl i =>
    cases rx
    cases y with
    | non => cases ry; exact PySem.EqNone.eq_bool_none (fin_bl I q (by simp))
    | bl j => cases ry; exact eq_bool (fin_bl I q dec_bl)
    | str j => obtain ⟨t', rfl⟩ := ry; exact PySem.EqMixed.eq_bool_str (fin_bl I q (by simp))
    | _ => exact absurd (show false = true from hs) Bool.false_ne_true
  | int i =>
    obtain ⟨t, rfl⟩ := rx
    cases y with
    | non => cases ry; exact PySem.EqNone.eq_int_none (fin_bl I q (by simp))
    | int j => obtain ⟨t', rfl⟩ := ry; exact eq_int (fin_bl I q dec_int)
    | str j => obtain ⟨t', rfl⟩ := ry; exact PySem.EqMixed.eq_int_str (fin_bl I q (by simp))
    | _ => exact absurd (show false = true from hs) Bool.false_ne_true
  | str i =>
    obtain ⟨t, rfl⟩ := rx
    cases y with
    | non => cases ry; exact PySem.EqNone.eq_str_none (fin_bl I q (by simp))
    | bl j => cases ry; exact PySem.EqMixed.eq_str_bool (fin_bl I q (by simp))
    | int j => obtain ⟨t', rfl⟩ := ry; exact PySem.EqMixed.eq_str_int (fin_bl I q (by simp))
    | str j => obtain ⟨t', rfl⟩ := ry; exact eq_str (fin_bl I q dec_str)
    | _ => exact absurd (show false = true from hs) Bool.false_ne_true
  | byt i =>
    obtain ⟨t, rfl⟩ := rx
    cases y with
    | byt j => obtain ⟨t', rfl⟩ := ry; exact PySem.W.eq_bytes (fin_bl I q dec_byt)
    | _ => exact absurd (show false = true from hs) Bool.false_ne_true
  | _ => cases y <;> exact absurd (show false = true from hs) Bool.false_ne_true
theorem op_ne : OpR X (compareOp .NotEq) rNe := by
  intro pins s σ H x y v u Q I rx ry h
  obtain ⟨hs, q⟩ := h
  cases x with
  | non =>
    cases rx
    cases y with
    | non => cases ry; exact PySem.EqNone.ne_none_none (fin_bl I q (by simp))
    | bl j => cases ry; exact PySem.EqNone.ne_none_bool (fin_bl I q (by simp))
    | int j => obtain ⟨t', rfl⟩ := ry; exact PySem.EqNone.ne_none_int (fin_bl I q (by simp))
    | str j => obtain ⟨t', rfl⟩ := ry; exact PySem.EqNone.ne_none_str (fin_bl I q (by simp))
    | _ => exact absurd (show false = true from hs) Bool.false_ne_true
  | bl i =>
    cases rx
    cases y with
    | non => cases ry; exact PySem.EqNone.ne_bool_none (fin_bl I q (by simp))
    | bl j => cases ry; exact ne_bool (fin_bl I q (congrArg not dec_bl))
    | str j => obtain ⟨t', rfl⟩ := ry; exact PySem.EqMixed.ne_bool_str (fin_bl I q (by simp))
    | _ => exact absurd (show false = true from hs) Bool.false_ne_true
  | int i =>
    obtain ⟨t, rfl⟩ := rx
    cases y with
    | non => cases ry; exact PySem.EqNone.ne_int_none (fin_bl I q (by simp))
    | int j => obtain ⟨t', rfl⟩ := ry; exact ne_int (fin_bl I q (congrArg not dec_int))
    | str j => obtain ⟨t', rfl⟩ := ry; exact PySem.EqMixed.ne_int_str (fin_bl I q (by simp))
    | _ => exact absurd (show false = true from hs) Bool.false_ne_true
  | str i =>
    obtain ⟨t, rfl⟩ := rx
    cases y with
    | non => cases ry; exact PySem.EqNone.ne_str_none (fin_bl I q (by simp))
    | bl j => cases ry; exact PySem.EqMixed.ne_str_bool (fin_bl I q (by simp))
    | int j => obtain ⟨t', rfl⟩ := ry; exact PySem.EqMixed.ne_str_int (fin_bl I q (by simp))
    | str j => obtain ⟨t', rfl⟩ := ry; exact ne_str (fin_bl I q (congrArg not dec_str))
    | _ => exact absurd (show false = true from hs) Bool.false_ne_true
  | byt i =>
    obtain ⟨t, rfl⟩ := rx
    cases y with
    | byt j => obtain ⟨t', rfl⟩ := ry; exact PySem.W.ne_bytes (fin_bl I q (congrArg not dec_byt))
    | _ => exact absurd (show false = true from hs) Bool.false_ne_true
  | _ => cases y <;> exact absurd (show false = true from hs) Bool.false_ne_true
theorem op_lt : OpR X (compareOp .Lt) (rI0 fun i j => .bl (decide (i < j))) := opB0 fun _ _ _ _ _ _ _ q => lt_int q
theorem op_le : OpR X (compareOp .LtE) (rI0 fun i j => .bl (decide (i ≤ j))) := opB0 fun _ _ _ _ _ _ _ q => le_int q
theorem op_gt : OpR X (compareOp .Gt) (rI0 fun i j => .bl (decide (j < i))) := opB0 fun _ _ _ _ _ _ _ q => gt_int q
theorem op_ge : OpR X (compareOp .GtE) (rI0 fun i j => .bl (decide (j ≤ i))) := opB0 fun _ _ _ _ _ _ _ q => ge_int q
theorem OpR.or {f : Value → Value → Sem Value} {r r' : R2} (h : OpR X f r) (h' : OpR X f r') : OpR X f (fun x y H Q => r x y H Q ∨ r' x y H Q) := by
  intro pins s σ H x y v u Q I rx ry q
  rcases q with q | q
  · exact h pins s σ H x y v u Q I rx ry q
  · exact h' pins s σ H x y v u Q I rx ry q
theorem nomark (b : Expr) {op : CmpOp} (h : op ≠ .In := by decide) (h2 : op ≠ .NotIn := by decide) : behindInMarks op b = false := by
  have e1 : (op == CmpOp.In) = false := by cases op <;> first | rfl | exact absurd rfl h
  have e2 : (op == CmpOp.NotIn) = false := by cases op <;> first | rfl | exact absurd rfl h2
  cases b <;> simp [behindInMarks, e1, e2]
theorem pe_cmpR {op : CmpOp} {r : R2} (ho : OpR X (compareOp op) r) (ha : PE X a ta) (hb : PE X b tb) (hm : behindInMarks op b = false) : PE X (.Compare a [op] [b] pos) (tOp r ta tb) := by
  intro pins s σ H Q I h
  exact wpAny_Compare1 (binT ha hb I h fun v u s2 x y H2 I2 rx ry q => ho pins s2 σ H2 x y v u Q I2 rx ry q) hm
noncomputable def tTest (t : TE) : TT := fun σ H Q => t σ H fun x H' => ∃ k, x = .bl k ∧ Q k H'
theorem pt_cmpR {op : CmpOp} {r : R2} (ho : OpR X (compareOp op) r) (ha : PE X a ta) (hb : PE X b tb) (hm : behindInMarks op b = false) : PT X (.Compare a [op] [b] pos) (tTest (tOp r ta tb)) := by
  intro pins s σ H Q I h
  refine wpAny_isTrue_Compare1 (thn (ha pins s σ H _ I h) fun v s1 ⟨x, H1, I1, r1, q1⟩ => thn (hb pins s1 σ H1 _ I1 q1) fun u s2 ⟨y, H2, I2, r2, q2⟩ =>
    thn (ho pins s2 σ H2 x y v u _ I2 r1 r2 q2) fun c s3 ⟨z, H3, I3, r3, k, e, q3⟩ => ?_) hm
  subst e
  cases r3
  exact wpAny_truthy_bool ⟨H3, I3, q3⟩
theorem line63 : (sizeLine : Nat) < 2 ^ 63 := by rw [sizeLine_eq]; decide
theorem vals1 {x : V} {us : List Value} (r : Vals [x] us) : ∃ u, us = [u] ∧ RelV x u := by
  cases r with
  | cons r1 r2 => cases r2; exact ⟨_, rfl, r1⟩
theorem vals2 {x y : V} {us : List Value} (r : Vals [x, y] us) : ∃ u w', us = [u, w'] ∧ RelV x u ∧ RelV y w' := by
  cases r with
  | cons r1 r2 =>
    cases r2 with
    | cons r3 r4 => cases r4; exact ⟨_, _, rfl, r1, r3⟩
theorem call_abs : CallR X (.builtin "abs") (fun xs H Q => ∃ i, xs = [.int i] ∧ Q (.int (if i < 0 then -i else i)) H) := by
  intro pins s σ H xs us Q I r h
  obtain ⟨i, rfl, q⟩ := h
  obtain ⟨u, rfl, t, rfl⟩ := vals1 r
  exact call_abs_int fun u tk => ⟨.int (if i < 0 then -i else i), H, I.tok _, ⟨_, rfl⟩, q⟩
theorem call_int1 : CallR X (.type "int") (fun xs H Q => (∃ i, xs = [.int i] ∧ Q (.int i) H) ∨ ∃ k, xs = [.bl k] ∧ Q (.int (if k then 1 else 0)) H) := by
  intro pins s σ H xs us Q I r h
  rcases h with ⟨i, rfl, q⟩ | ⟨k, rfl, q⟩
  · obtain ⟨u, rfl, t, rfl⟩ := vals1 r
    exact call_int_int ⟨.int i, H, I, ⟨_, rfl⟩, q⟩
  · obtain ⟨u, rfl, r1⟩ := vals1 r
    cases r1
    exact call_int_bool ⟨.int (if k then 1 else 0), H, I.tok _, ⟨_, rfl⟩, q⟩
end
end L2
namespace L2
open PySem PySem.Spec PyProof.Rows
structure ObjM (h : Heap) (x dx C : Addr) (mA : Str → Option Value) : Prop where
  obj : h.get? x = some (PySem.W.instObj C dx)
  ns : h.Ns1 dx mA
  ne : dx ≠ x
theorem lookIn_ns {h : Heap} {dx : Addr} {mA : Str → Option Value} (n : h.Ns1 dx mA) : ∃ od, h.get? dx = some od ∧ ∀ name, PySem.W.lookIn name od = some (mA name) := by
  obtain ⟨o, es, ep, ho, hd, hk, _, hm⟩ := n
  refine ⟨o, ho, fun name => ?_⟩
  have e := hm name
  unfold nsFind findBy at e
  rw [← Array.find?_toList] at e
  unfold PySem.W.lookIn
  rw [hd]
  dsimp only
  split
  · rename_i y q
    rw [q] at e
    exact congrArg some e
  · rename_i q
    rw [q] at e
    have a : es.toList.any (·.refKey) = false := by
      rw [List.any_eq_false]
      intro y hy
      obtain ⟨z, t, hkey⟩ := hk y (Array.mem_toList_iff.mp hy)
      simp [DictEntry.refKey, hkey]
    have a' : ¬ es.toList.any (·.refKey) = true := by rw [a]; exact Bool.false_ne_true
    rw [if_neg a']
    exact congrArg some e
theorem ObjM.look {h : Heap} {x dx C : Addr} {mA : Str → Option Value} (I : ObjM h x dx C mA) : ∃ od, PySem.W.InstAt h x (PySem.W.instObj C dx) C (some od) ∧ ∀ name, PySem.W.lookIn name od = some (mA name) :=
  let ⟨od, ho, hl⟩ := lookIn_ns I.ns
  ⟨od, ⟨I.obj, rfl, rfl, ho⟩, hl⟩
section
variable {prog : Program} {w : World} {A : Around} {E : Value → Shared → Prop} {s : Shared} {K : PySem.W.Frag} {x dx C f : Addr} {mA : Str → Option Value} {name : Str} {v : Value}
end
theorem RelO.some_of {v : V} {o : Option Value} (r : RelO (some v) o) : ∃ u, o = some u ∧ RelV v u := by
  cases o with
  | none => exact (show False from r).elim
  | some u => exact ⟨u, rfl, r⟩
theorem RelO.none_of {o : Option Value} (r : RelO none o) : o = none := by
  cases o with
  | none => rfl
  | some u => exact (show False from r).elim
section
variable {P : Program} {w : World} {H H' : Hp} {h h' : Heap} {a C dx : Addr} {fs fs' : List (Str × V)}
theorem ins_get (hok : HOk P w H h) (e : H a = some (.ins C dx fs)) : ∃ mA, ObjM h a dx C mA ∧ (∀ f, RelO (fs.lookup f) (mA f)) ∧ PySem.Within mA (fs.map (·.1)) ∧ fs.length ≤ 1000 ∧ H dx = some (.own a) := by
  obtain ⟨d, z, ne, ob, mA, n, r, q⟩ := (show ObjOk P w H h a (.ins C dx fs) from hok a _ e)
  exact ⟨mA, ⟨ob, n, ne⟩, r, q, z, d⟩
end
structure Cls (K : PySem.W.Frag) (C : Addr) : Prop where
  pg : PySem.W.plainGet K C Str.empty = true
  hd : PySem.W.hasDictIn K C = true
  po : PySem.W.plainOver K C = true
  sa : PySem.W.findIn K (.ref C) "__setattr__" = some (some (.builtin "object.__setattr__"))
theorem Cls.get {K : PySem.W.Frag} {C : Addr} (c : Cls K C) (f : Str) : PySem.W.plainGet K C f = true := c.pg
structure Con (K : PySem.W.Frag) (C : Addr) (f : Str) (v : V) (u : Value) : Prop where
  at_ : PySem.W.findIn K (.ref C) f = some (some u)
  rel : RelV v u
  get : PySem.W.specialIn K u "__get__" = some none
  cp : PySem.W.copiedNames.contains f = false
structure Meth (K : PySem.W.Frag) (C : Addr) (m : Str) (f : Addr) : Prop where
  at_ : PySem.W.findIn K (.ref C) m = some (some (.ref f))
  fn : PySem.W.isFn K (.ref f) = true
  kp : PySem.W.keepIn K (.ref f) = true
section
variable {X : Cx} {pins : List (Addr × Obj)} {σ : St} {H : Hp} {s : Shared} {a C dx : Addr} {fs : List (Str × V)} {f : Str} {v : V} {A : Around} {E : Value → Shared → Prop}
theorem Inv.made (I : Inv X pins σ H s) : Inv X pins σ (upd (upd H s.heap.objs.size (.own (s.heap.objs.size + 1))) (s.heap.objs.size + 1) (.ins C s.heap.objs.size []))
    { s with heap := (s.heap.push PySem.W.emptyDict).push (PySem.W.instObj C s.heap.objs.size) } := by
  have e1 : (s.heap.push PySem.W.emptyDict).get? s.heap.objs.size = some PySem.W.emptyDict := Heap.get?_push_size s.heap rfl
  have e2 : ((s.heap.push PySem.W.emptyDict).push (PySem.W.instObj C s.heap.objs.size)).get? (s.heap.objs.size + 1) = some (PySem.W.instObj C s.heap.objs.size) := by
    have := Heap.get?_push_size (s.heap.push PySem.W.emptyDict) (o := PySem.W.instObj C s.heap.objs.size) rfl
    rwa [Heap.size_push] at this
  have e3 : (s.heap.push PySem.W.emptyDict).Ns s.heap.objs.size (fun _ => none) := ⟨PySem.W.emptyDict, #[], _, e1, rfl, (fun e he => absurd he (by simp)), fun _ => rfl⟩
  have I1 := I.laid (a := s.heap.objs.size) (o := .own (s.heap.objs.size + 1)) (h' := s.heap.push PySem.W.emptyDict) (t' := s.toks) (fun b u q => Heap.get?_push_of_some _ q) (Nat.le_refl _) ⟨_, e1⟩
  refine I1.laid (a := s.heap.objs.size + 1) (o := .ins C s.heap.objs.size []) (t' := s.toks) (fun b u q => Heap.get?_push_of_some _ q) (Nat.le_of_eq (Heap.size_push _ _)) ?_
  have ne : s.heap.objs.size ≠ s.heap.objs.size + 1 := Nat.ne_of_lt (Nat.lt_succ_self _)
  refine ⟨by rw [upd_ne ne, upd_same], Nat.zero_le _, ne, e2, fun _ => none, (Heap.Ns1.of_empty e3).at fun o q => Heap.get?_push_of_some _ q, fun _ => True.intro, fun y hy => absurd rfl hy⟩
end
section
variable {X : Cx} {o e value : Expr} {f : Str} {pos pos' tpos : Pos} {ta tv : TE}
end
section
variable {X : Cx} {pins : List (Addr × Obj)} {σ : St} {H : Hp} {s : Shared} {A : Around} {E : Value → Shared → Prop} {Q : Value → Shared → Prop} {c : Value} {b : Bool}
inductive TyOf (K : PySem.W.Frag) (H : Hp) : V → Value → Prop where
  | non : TyOf K H .non (.type "NoneType")
  | bl (x : Bool) : TyOf K H (.bl x) (.type "bool")
  | int (i : Int) : TyOf K H (.int i) (.type "int")
  | str (x : Str) : TyOf K H (.str x) (.type "str")
  | flt (x : UInt64) : TyOf K H (.flt x) (.type "float")
  | lst {a : Addr} {xs : List V} (e : H a = some (.lst xs)) : TyOf K H (.ref a) (.type "list")
  | frz {a : Addr} {o : Obj} {xs : List V} (e : H a = some (.frz o (.lst xs))) : TyOf K H (.ref a) (.type "list")
  | tup {a : Addr} {xs : List V} (e : H a = some (.tup xs)) : TyOf K H (.ref a) (.type "tuple")
  | dK {a : Addr} {kvs : List (Key × V)} (e : H a = some (.dK kvs)) : TyOf K H (.ref a) (.type "dict")
  | dT {a : Addr} {kvs : List (List Key × V)} (e : H a = some (.dT kvs)) : TyOf K H (.ref a) (.type "dict")
  | ins {a C dx : Addr} {fs : List (Str × V)} (e : H a = some (.ins C dx fs)) (cl : Cls K C) (ha : PySem.W.findIn K (.ref C) "__class__" = some (some (.builtin "object.__class__")))
      (hn : PySem.W.specialIn K (.builtin "object.__class__") "__get__" = some (some (.builtin "getset_descriptor.__get__"))) (htk : PySem.W.takesIn K (.builtin "object.__class__") = some true)
      (hm : PySem.W.mroIn K C (.type "object") = some true) : TyOf K H (.ref a) (.ref C)
theorem isinst_ok {x : V} {u t : Value} (I : Inv X pins σ H s) (rx : RelV x u) (ty : TyOf X.K H x t) (e : PySem.W.kitOne X.K t c = some b) (h : ∀ tk, Q (.bool b) { s with toks := tk }) :
    wpAny (model X.prog X.w) A (call (.builtin "isinstance") [u, c]) Q E s := by
  cases ty with
  | non => cases (show u = Value.none from rx); exact PySem.W.kia_one PySem.W.kitx_none I.kIn True.intro e (fun z => nomatch z) h
  | bl y => cases (show u = Value.bool y from rx); exact PySem.W.kia_one PySem.W.kitx_bool I.kIn True.intro e (fun z => nomatch z) h
  | int i => obtain ⟨t, q⟩ := (show ∃ t, u = Value.int i t from rx); cases q; exact PySem.W.kia_one PySem.W.kitx_int I.kIn True.intro e (fun z => nomatch z) h
  | str y => obtain ⟨t, q⟩ := (show ∃ t, u = Value.str y t from rx); cases q; exact PySem.W.kia_one PySem.W.kitx_str I.kIn True.intro e (fun z => nomatch z) h
  | flt y => obtain ⟨t, q⟩ := (show ∃ t, u = Value.float y t from rx); cases q; exact PySem.W.kia_one PySem.W.kitx_float I.kIn True.intro e (fun z => nomatch z) h
  | @lst a xs ea =>
    cases (show u = Value.ref a from rx)
    obtain ⟨_, _, n, _, h1⟩ := (show ObjOk X.prog X.w H s.heap a (.lst xs) from I.hok a _ ea)
    exact PySem.W.kia_one PySem.W.kitx_list I.kIn ⟨_, h1, rfl⟩ e (fun z => nomatch z) h
  | @frz a ob xs ea =>
    cases (show u = Value.ref a from rx)
    obtain ⟨_, _, _, n, _, h1⟩ := (show ObjOk X.prog X.w H s.heap a (.frz ob (.lst xs)) from I.hok a _ ea)
    exact PySem.W.kia_one PySem.W.kitx_list I.kIn ⟨_, h1, rfl⟩ e (fun z => nomatch z) h
  | @tup a xs ea =>
    cases (show u = Value.ref a from rx)
    obtain ⟨_, _, _, p⟩ := (show ObjOk X.prog X.w H s.heap a (.tup xs) from I.hok a _ ea)
    obtain ⟨o, h1, h2, _⟩ := p
    exact PySem.W.kia_one PySem.W.kitx_tuple I.kIn ⟨o, h1, h2⟩ e (fun z => nomatch z) h
  | @dK a kvs ea =>
    cases (show u = Value.ref a from rx)
    obtain ⟨_, _, vs, _, p⟩ := (show ObjOk X.prog X.w H s.heap a (.dK kvs) from I.hok a _ ea)
    obtain ⟨o, es, ep, h1, h2, _⟩ := p
    exact PySem.W.kia_one PySem.W.kitx_dict I.kIn ⟨o, h1, h2.1⟩ e (fun z => nomatch z) h
  | @dT a kvs ea =>
    cases (show u = Value.ref a from rx)
    obtain ⟨_, _, xs, _, o, es, ep, h1, h2, _⟩ := (show ObjOk X.prog X.w H s.heap a (.dT kvs) from I.hok a _ ea)
    exact PySem.W.kia_one PySem.W.kitx_dict I.kIn ⟨o, h1, h2.1⟩ e (fun z => nomatch z) h
  | @ins a C dx fs ea cl ha hn htk hm =>
    cases (show u = Value.ref a from rx)
    obtain ⟨mA, O, _⟩ := ins_get I.hok ea
    obtain ⟨od, J, _⟩ := O.look
    exact PySem.W.kia_one (PySem.W.kitx_own (cl.get _) cl.hd ha hn htk hm) I.kIn J e (fun z => nomatch z) h
end
end L2
namespace L2
open PySem PySem.Spec PyProof.Rows
structure Room (k : Nat) (A : Around) : Prop where
  hd : A.handled = none
  dp : A.depth + 3 * k + 5 < recursionLimit
  un : A.units + 16 * k + 200 < cLine
theorem Room.mono {j k : Nat} {A : Around} (r : Room k A) (h : j ≤ k) : Room j A := ⟨r.hd, by have := r.dp; omega, by have := r.un; omega⟩
theorem Room.deeper {k : Nat} {A : Around} (r : Room (k + 1) A) (env : Env) : Room k (A.deeper env) :=
  ⟨r.hd, by have := r.dp; show A.depth + 1 + 3 * k + 5 < _; omega, by have := r.un; show A.units + 3 + 16 * k + 200 < _; omega⟩
theorem Room.in1 {k : Nat} {A : Around} (r : Room (k + 1) A) : Room k A.in1 :=
  ⟨r.hd, by have := r.dp; show A.depth + 3 * k + 5 < _; omega, by have := r.un; show A.units + 1 + 16 * k + 200 < _; omega⟩
theorem Room.depth {k : Nat} {A : Around} (r : Room k A) : A.depth < recursionLimit := by have := r.dp; omega
theorem Room.units {k : Nat} {A : Around} (r : Room k A) : A.units + 64 < cLine := by have := r.un; omega
noncomputable def tNil : TA := fun _ H Q => Q [] H
noncomputable def tCons (ta : TE) (tr : TA) : TA := fun σ H Q => ta σ H fun x H1 => tr σ H1 fun xs H2 => Q (x :: xs) H2
section
variable {X : Cx} {e : Expr} {es : List Expr} {te : TE} {t : TA} {pos : Pos}
theorem pa_nil : PA X [] tNil := fun _ _ _ _ H Q I h => Calls.spliced_nil ⟨[], H, I, .nil, h⟩
theorem pa_cons (ha : PE X e te) (hr : PA X es t) (hs : starEach (e :: es) X.env = (false, eval e X.env) :: starEach es X.env := by rfl) : PA X (e :: es) (tCons te t) := by
  intro pos pins s σ H Q I h
  rw [hs]
  show wpAny _ _ (spliced ((false, eval e X.env) :: backTo pos (starEach es X.env))) _ _ s
  refine Calls.spliced_cons (thn (ha pins s σ H _ I h) fun u s1 ⟨x, H1, I1, r1, q1⟩ => ?_)
  exact thn (hr pos pins s1 σ H1 _ I1 q1) fun us s2 ⟨xs, H2, I2, r2, q2⟩ => ⟨x :: xs, H2, I2, .cons r1 r2, q2⟩
noncomputable def tTup (t : TA) : TE := fun σ H Q => t σ H fun xs H1 => xs.length ≤ sizeLine ∧ ∀ p, H1 p = none → Q (.ref p) (upd H1 p (.tup xs))
noncomputable def tLst (t : TA) : TE := fun σ H Q => t σ H fun xs H1 => xs.length ≤ sizeLine ∧ ∀ p, H1 p = none → Q (.ref p) (upd H1 p (.lst xs))
theorem pe_tup {x1} (h : PA X es t) : PE X (.Tuple es x1 pos) (tTup t) := by
  intro pins s σ H Q I hq
  refine wpAny_Tuple_spliced (thn (h pos pins s σ H _ I hq) fun us s1 ⟨xs, H1, I1, r, z, q⟩ => ⟨by rw [← r.length]; exact z, ?_⟩)
  have hf : H1 s1.heap.objs.size = none := I1.hok.fresh (Nat.le_refl _)
  refine ⟨.ref s1.heap.objs.size, upd H1 s1.heap.objs.size (.tup xs), I1.laid (t' := s1.toks) (fun b u e => Heap.get?_push_of_some _ e) (Nat.le_refl _) ?_, rfl, q _ hf⟩
  exact ⟨z, us, r, ⟨_, Heap.get?_push_size _ rfl, rfl, _, rfl⟩⟩
theorem pe_lst (h : PA X es t) : PE X (.List es pos) (tLst t) := by
  intro pins s σ H Q I hq
  refine wpAny_List_spliced (thn (h pos pins s σ H _ I hq) fun us s1 ⟨xs, H1, I1, r, z, q⟩ => ⟨by rw [← r.length]; exact z, ?_⟩)
  have hf : H1 s1.heap.objs.size = none := I1.hok.fresh (Nat.le_refl _)
  refine ⟨.ref s1.heap.objs.size, upd H1 s1.heap.objs.size (.lst xs), I1.laid (t' := s1.toks) (fun b u e => Heap.get?_push_of_some _ e) (Nat.le_refl _) ?_, rfl, q _ hf⟩
  exact ⟨z, us, 0, r, Heap.get?_push_size _ rfl⟩
end
noncomputable abbrev Sp := List V → Hp → VK → XK → Prop
noncomputable abbrev CXT := List Env → Hp → Shared → XK → Value → Shared → Prop
structure Env0 (P : Program) (w : World) (K : PySem.W.Frag) (mg : Str → Option Value) (base : Heap) (A : Around) (outer : List Env) (s : Shared) (H : Hp) : Prop where
  frames : A.frames = some outer
  mod : Mod K mg base
  bs : ∀ b o, base.get? b = some o → s.heap.get? b = some o ∧ H b = none
  bsz : base.objs.size ≤ s.heap.objs.size
  funs : s.heap.FunFrames base outer
  frf : ∀ b ∈ frs outer, H b = none
  hok : HOk P w H s.heap
  bare : AllBare s.gens
noncomputable def CE (outer : List Env) (P : Program) (w : World) (H : Hp) (s : Shared) (Q : VK) (u : Value) (s' : Shared) : Prop :=
  ∃ v H', s'.os = s.os ∧ AllBare s'.gens ∧ Un (frs outer) [] H H' s.heap s'.heap ∧ HOk P w H' s'.heap ∧ RelV v u ∧ Q v H'
noncomputable def CR (CX : CXT) (outer : List Env) (P : Program) (w : World) (H : Hp) (s : Shared) (Q : VK) (E : XK) (r : Result) (s' : Shared) : Prop :=
  match r with
  | .ok (.ret u) => CE outer P w H s Q u s'
  | .ok _ => False
  | .error e => CX outer H s E e s'
structure FnOk (P : Program) (w : World) (K : PySem.W.Frag) (mg : Str → Option Value) (base : Heap) (CX : CXT) (k : Nat) (f : Addr) (fd : FuncData) (ps : List Str) (sp : Sp) : Prop where
  len : ∀ vs H Q E, sp vs H Q E → vs.length = ps.length
  run : ∀ (A : Around) (outer : List Env) (s : Shared) (H : Hp) (args : Args) (us : List Value) (vs : List V) (Q : VK) (E : XK), Room k A → Env0 P w K mg base A outer s H → BindsTo s fd args (ps.zip us) → Vals vs us → sp vs H Q E →
    codeAny (model P w) A (.call (.ref f) args) (CR CX outer P w H s Q E) s
theorem FnOk.mono {P : Program} {w : World} {K : PySem.W.Frag} {mg : Str → Option Value} {base : Heap} {CX : CXT} {j k : Nat} {f : Addr} {fd : FuncData} {ps : List Str} {sp : Sp} (F : FnOk P w K mg base CX j f fd ps sp) (h : j ≤ k) :
    FnOk P w K mg base CX k f fd ps sp := ⟨F.len, fun A outer s H args us vs Q E hr => F.run A outer s H args us vs Q E (hr.mono h)⟩
theorem FnOk.imp {P : Program} {w : World} {K : PySem.W.Frag} {mg : Str → Option Value} {base : Heap} {CX : CXT} {k : Nat} {f : Addr} {fd : FuncData} {ps : List Str} {sp sp' : Sp} (F : FnOk P w K mg base CX k f fd ps sp)
    (h : ∀ vs H Q E, sp' vs H Q E → sp vs H Q E) : FnOk P w K mg base CX k f fd ps sp' :=
  ⟨fun vs H Q E q => F.len vs H Q E (h _ _ _ _ q), fun A outer s H args us vs Q E hr he hb hv hs => F.run A outer s H args us vs Q E hr he hb hv (h _ _ _ _ hs)⟩
theorem Env0.in1 {P : Program} {w : World} {K : PySem.W.Frag} {mg : Str → Option Value} {base : Heap} {A : Around} {outer : List Env} {s : Shared} {H : Hp} (e : Env0 P w K mg base A outer s H) :
    Env0 P w K mg base A.in1 outer s H := ⟨e.frames, e.mod, e.bs, e.bsz, e.funs, e.frf, e.hok, e.bare⟩
section
variable {X : Cx} {pins : List (Addr × Obj)} {σ : St} {H : Hp} {s s' : Shared}
theorem Inv.env0 (I : Inv X pins σ H s) : Env0 X.prog X.w X.K X.mg X.base X.A X.stack s H :=
  ⟨I.ok.frames, I.ok.mod, I.bs, Nat.le_trans I.ok.bsz I.sz, I.stack, I.stkFree, I.hok, I.bare⟩
theorem Inv.after {Q : VK} {u : Value} (I : Inv X pins σ H s) (h : CE X.stack X.prog X.w H s Q u s') : EP X pins σ Q u s' := by
  obtain ⟨v, H', os, bare, un, hok, r, q⟩ := h
  obtain ⟨hh, g, d, t, os'⟩ := s'
  obtain rfl : os' = s.os := os
  exact ⟨v, H', I.call (h' := hh) (g' := g) (d' := d) (t' := t) (ch := []) un hok bare (fun b z => absurd z (by simp)), r, q⟩
end
noncomputable def tCall (sp : Sp) (dvs : List V) (E : XK) (t : TA) : TE := fun σ H Q => t σ H fun vs H1 => sp (vs ++ dvs) H1 Q E
noncomputable def Binds (K : PySem.W.Frag) (fd : FuncData) (ps : List Str) (ds : List Value) : Prop :=
  ∀ (s : Shared) (us : List Value), K.In s.heap → (us ++ ds).length = ps.length → BindsTo s fd ⟨us, []⟩ (ps.zip (us ++ ds))
theorem Binds.all {K : PySem.W.Frag} {fd : FuncData} {ps : List Str} (h : ∀ us : List Value, us.length = ps.length → bindArgs fd ⟨us, []⟩ = pure (ps.zip us)) : Binds K fd ps [] := fun s us _ hl => by
  rw [List.append_nil] at hl ⊢
  exact .of_eq (h us hl)
noncomputable def Passes (CX : CXT) (X : Cx) (E : XK) : Prop := ∀ (pins : List (Addr × Obj)) (σ : St) (H : Hp) (s : Shared) (e : Value) (s' : Shared), Inv X pins σ H s → CX X.stack H s E e s' → X.xe e s'
section
variable {X : Cx} {CX : CXT} {k : Nat} {f C : Addr} {fd : FuncData} {ps : List Str} {sp : Sp} {dvs : List V} {ds : List Value} {E : XK} {x m : Str} {p pos apos : Pos} {e o : Expr} {es : List Expr} {ta : TE} {t : TA}
theorem run_fn {pins : List (Addr × Obj)} {σ : St} {H : Hp} {s : Shared} {Q : VK} {us : List Value} {vs : List V} (F : FnOk X.prog X.w X.K X.mg X.base CX k f fd ps sp) (hr : Room k X.A) (hb : Binds X.K fd ps ds) (hd : Vals dvs ds) (hx : Passes CX X E)
    (I : Inv X pins σ H s) (r : Vals vs us) (h : sp (vs ++ dvs) H Q E) : wpAny (model X.prog X.w) X.A (call (.ref f) us) (EP X pins σ Q) X.xe s := by
  have r2 : Vals (vs ++ dvs) (us ++ ds) := r.append hd
  have hl : (us ++ ds).length = ps.length := by rw [← r2.length]; exact F.len _ _ _ _ h
  refine wpAny_call (codeAny_mono (F.run X.A X.stack s H ⟨us, []⟩ (us ++ ds) (vs ++ dvs) Q E hr I.env0 (hb s us I.kIn hl) r2 h) fun r s' hq => ?_)
  cases r with
  | error e => exact hx pins σ H s e s' I hq
  | ok fl =>
    cases fl with
    | ret u => exact I.after hq
    | next => exact False.elim hq
    | brk => exact False.elim hq
    | cont => exact False.elim hq
theorem pe_call (F : FnOk X.prog X.w X.K X.mg X.base CX k f fd ps sp) (hr : Room k X.A) (hg : Gl X x) (hm : X.mg x = some (.ref f)) (hk : PySem.W.keepIn X.K (.ref f) = true) (hb : Binds X.K fd ps ds) (hd : Vals dvs ds) (hx : Passes CX X E)
    (ha : PA X (e :: es) t) (hdb : (x == ("__debug__" : Str)) = false := by decide) (he : starEach (e :: es) X.env = (false, eval e X.env) :: starEach es X.env := by rfl) (hpl : (backTo pos (starEach es X.env)).any (·.1) = false := by rfl) :
    PE X (.Call (.Name x p) (e :: es) [] pos) (tCall sp dvs E t) := by
  intro pins s σ H Q I h
  refine wpAny_Call_Name_kw (ld_glob I hg hm ?_ hdb)
  refine PySem.W.callWith_K (h₀ := X.base) I.ok.mod.kin hk (thn (ha pos pins s σ H _ I h) fun us s1 ⟨vs, H1, I1, r, q⟩ => ⟨I1.kIn, ?_⟩) he hpl
  exact run_fn F hr hb hd hx I1 r q
structure Mk (K : PySem.W.Frag) (C f : Addr) : Prop where
  makes : PySem.W.makesIn K C = true
  init : PySem.W.findIn K (.ref C) "__init__" = some (some (.ref f))
  fn : PySem.W.isFn K (.ref f) = true
  kp : PySem.W.keepIn K (.ref C) = true
end
section
variable {X : Cx} {CX : CXT} {k : Nat} {f C : Addr} {fd : FuncData} {ps ks : List Str} {sp : Sp} {E : XK} {x m : Str} {p pos apos kpos : Pos} {e o : Expr} {es : List Expr} {kws : List Keyword} {te ta : TE} {t tk : TA} {nm : Option Str}
structure KBinds (K : PySem.W.Frag) (fd : FuncData) (ps ks : List Str) (g : List Value → List Value → List Value) (gV : List V → List V → List V) : Prop where
  to : ∀ (s : Shared) (us ws : List Value), K.In s.heap → (g us ws).length = ps.length → BindsTo s fd ⟨us, ks.zip ws⟩ (ps.zip (g us ws))
  rel : ∀ {vs : List V} {us : List Value} {zs : List V} {ws : List Value}, Vals vs us → Vals zs ws → Vals (gV vs zs) (g us ws)
variable {g : List Value → List Value → List Value} {gV : List V → List V → List V}
end
structure FnScope (N P : List Str) (sc : Scope) : Prop where
  kind : sc.kind = .function
  co : sc.isCoroutine = false
  gen : sc.isGenerator = false
  nd : N.Nodup
  pre : N.take P.length = P
  par : ∀ x ∈ P, sc.names.lookup x = some .local ∨ sc.names.lookup x = some .cell
  nofree : ∀ y ∈ sc.names, y.2 ≠ .free
theorem bindL_out {kindOf : Str → Option NameKind} {x : Str} : ∀ {binds : List (Str × Value)} {m : Str → Option Value}, (∀ v, (x, v) ∉ binds) → bindL kindOf binds m x = m x
  | [], _, _ => rfl
  | (n, v) :: r, m, h => by
    unfold bindL
    rw [bindL_out fun w hw => h w (List.mem_cons_of_mem _ hw)]
    split
    · have : x ≠ n := by rintro rfl; exact h v List.mem_cons_self
      simp [this]
    · rfl
theorem bindC_out {kindOf : Str → Option NameKind} {x : Str} : ∀ {binds : List (Str × Value)} {m : Str → Option Value}, (∀ v, (x, v) ∉ binds) → bindC kindOf binds m x = m x
  | [], _, _ => rfl
  | (n, v) :: r, m, h => by
    unfold bindC
    rw [bindC_out fun w hw => h w (List.mem_cons_of_mem _ hw)]
    split
    · rfl
    · have : x ≠ n := by rintro rfl; exact h v List.mem_cons_self
      simp [this]
theorem bindL_get {kindOf : Str → Option NameKind} {x : Str} {v : Value} : ∀ {P : List Str} {vs : List Value} {i : Nat} {m : Str → Option Value}, P.Nodup → P[i]? = some x → vs[i]? = some v → kindOf x = some .local →
    bindL kindOf (P.zip vs) m x = some v
  | [], _, _, _, _, h, _, _ => by simp at h
  | _ :: _, [], _, _, _, _, h, _ => by simp at h
  | p :: P, w :: vs, 0, m, nd, h1, h2, hk => by
    simp at h1 h2; subst h1; subst h2
    show bindL kindOf ((p, w) :: P.zip vs) m p = _
    unfold bindL
    rw [bindL_out fun v hv => (List.nodup_cons.mp nd).1 (List.of_mem_zip hv).1, if_pos hk]
    simp
  | p :: P, w :: vs, i + 1, m, nd, h1, h2, hk => by
    show bindL kindOf ((p, w) :: P.zip vs) m x = _
    unfold bindL
    exact bindL_get (i := i) (List.nodup_cons.mp nd).2 (by simpa using h1) (by simpa using h2) hk
theorem bindC_get {kindOf : Str → Option NameKind} {x : Str} {v : Value} : ∀ {P : List Str} {vs : List Value} {i : Nat} {m : Str → Option Value}, P.Nodup → P[i]? = some x → vs[i]? = some v → kindOf x ≠ some .local →
    bindC kindOf (P.zip vs) m x = some v
  | [], _, _, _, _, h, _, _ => by simp at h
  | _ :: _, [], _, _, _, _, h, _ => by simp at h
  | p :: P, w :: vs, 0, m, nd, h1, h2, hk => by
    simp at h1 h2; subst h1; subst h2
    show bindC kindOf ((p, w) :: P.zip vs) m p = _
    unfold bindC
    rw [bindC_out fun v hv => (List.nodup_cons.mp nd).1 (List.of_mem_zip hv).1, if_neg hk]
    simp
  | p :: P, w :: vs, i + 1, m, nd, h1, h2, hk => by
    show bindC kindOf ((p, w) :: P.zip vs) m x = _
    unfold bindC
    exact bindC_get (i := i) (List.nodup_cons.mp nd).2 (by simpa using h1) (by simpa using h2) hk
noncomputable def start (N : List Str) (vs : List V) : St := vs.map some ++ List.replicate (N.length - vs.length) none
noncomputable def cxOf (CX : CXT) (P : Program) (w : World) (K : PySem.W.Frag) (mg : Str → Option Value) (base : Heap) (N : List Str) (qual : Str) (scope : Scope) (f : Addr) (cd : Value) (A : Around) (outer : List Env) (s : Shared) (H : Hp) (E : XK) : Cx where
  prog := P
  w := w
  K := K
  mg := mg
  base := base
  A := A.deeper (envOfC qual scope s.heap.objs.size f cd)
  N := N
  s₀ := s
  H₀ := H
  env := envOfC qual scope s.heap.objs.size f cd
  outer := outer
  stack := envOfC qual scope s.heap.objs.size f cd :: outer
  ex := []
  calm := true
  fn := fun _ => true
  pn := []
  xe := fun e s' => wpAny (model P w) (A.deeper (envOfC qual scope s.heap.objs.size f cd)) (leaving (envOfC qual scope s.heap.objs.size f cd) e) (fun _ s'' => CX outer H s E e s'') (fun e' s'' => CX outer H s E e' s'') s'
theorem cell_has {sc : Scope} {n : Nat} {x : Str} (h : sc.names.lookup x = some .cell) : ∃ c, (cellsFrom n sc.names []).lookup x = some c := by
  have q := PySem.W.cellsFrom_some sc.names n [] (.inl h)
  exact Option.isSome_iff_exists.mp q
theorem inv_start {CX : CXT} {P : Program} {w : World} {K : PySem.W.Frag} {mg : Str → Option Value} {base : Heap} {N ps : List Str} {qual : Str} {scope : Scope} {f : Addr} {cd : Value} {A : Around} {outer : List Env} {s s1 : Shared} {H : Hp} {E : XK} {us : List Value} {vs : List V}
    (S : FnScope N ps scope) (hd : A.handled = none) (e0 : Env0 P w K mg base A outer s H) (hl : vs.length = ps.length) (r : Vals vs us)
    (x : InCallC s s.heap.objs.size (bindL (envOfC qual scope s.heap.objs.size f cd).kindOf (ps.zip us) fun _ => none) (cellsFrom (s.heap.objs.size + 1) scope.names []) (bindC (envOfC qual scope s.heap.objs.size f cd).kindOf (ps.zip us) fun _ => none) s1) :
    Inv (cxOf CX P w K mg base N qual scope f cd A outer s H E) [] (start N vs) H s1 := by
  have hpl : ps.length ≤ N.length := by have := congrArg List.length S.pre; rw [List.length_take] at this; omega
  obtain ⟨h1, tk, rfl, hk⟩ := x.done
  have noA : ∀ b : Addr, b ∉ (cxOf CX P w K mg base N qual scope f cd A outer s H E).ex := fun b z => absurd (show b ∈ ([] : List Addr) from z) (by simp)
  refine ⟨⟨e0.mod, S.kind, rfl, rfl, Nat.le_refl _, fun y z c h1 h2 => ?_, fun y hy => ?_, fun y c _ h => ?_, fun _ => hd, Around.frames_deeper e0.frames, .inr ⟨rfl, rfl⟩, fun b z => absurd z (noA b), e0.bs, e0.bsz, fun b _ _ => noA b, fun b z => absurd z (noA b), e0.funs, e0.frf⟩,
    rfl, e0.bare, Un.kept hk, ⟨_, x.toInCall.ns, fun i y v h1 h2 h3 => ?_⟩, fun y c h => ⟨_, x.cell y c h⟩, e0.hok.fresh (Nat.le_refl _), fun y c h => ?_, fun p hp => absurd (show p ∈ ([] : List (Addr × Obj)) from hp) (by simp), e0.hok.kept hk, ?_⟩
  · exact name_of_addr x.apart (PySem.mem_of_lookup h1) (PySem.mem_of_lookup h2)
  · have hy : scope.names.lookup y = some .cell ∨ scope.names.lookup y = some .free := hy
    rcases hy with hy | hy
    · exact cell_has hy
    · exact absurd rfl (S.nofree _ (PySem.mem_of_lookup hy))
  · exact Nat.le_of_lt (x.above y c (PySem.mem_of_lookup h))
  · have hi : i < vs.length := by
      unfold start at h2
      by_cases hi : i < vs.length
      · exact hi
      · rw [List.getElem?_append_right (by simpa using hi)] at h2
        rw [List.getElem?_replicate] at h2
        split at h2 <;> cases h2
    have ha : vs[i]? = some v := by
      unfold start at h2
      rw [List.getElem?_append_left (by simpa using hi), List.getElem?_map] at h2
      cases e : vs[i]? with
      | none => rw [e] at h2; cases h2
      | some a => rw [e] at h2; cases h2; rfl
    obtain ⟨u, hu, rv⟩ := r.get ha
    have hp : ps[i]? = some y := by
      rw [← S.pre, List.getElem?_take_of_lt (by omega)]; exact h1
    have ndP : ps.Nodup := by rw [← S.pre]; exact S.nd.sublist (List.take_sublist _ _)
    refine ⟨u, rv, ?_⟩
    rcases S.par y (List.mem_of_getElem? hp) with k | k
    · exact .inl ⟨k, bindL_get ndP hp hu k⟩
    · obtain ⟨c, e⟩ := cell_has (n := s.heap.objs.size + 1) k
      refine .inr ⟨.inl k, c, e, ?_⟩
      have q := x.cell y c e
      rw [bindC_get ndP hp hu (by show scope.names.lookup y ≠ _; rw [k]; decide)] at q
      exact q
  · exact e0.hok.fresh (Nat.le_of_lt (x.above y c (PySem.mem_of_lookup h)))
  · unfold start
    show _ = N.length
    rw [List.length_append, List.length_map, List.length_replicate]
    omega
theorem fn_of {CX : CXT} {P : Program} {w : World} {K : PySem.W.Frag} {mg : Str → Option Value} {base : Heap} {k : Nat} {f : Addr} {name qual : Str} {params : Arguments} {body : List Stmt} {scope : Scope} {dV kV doc pm cdv ct oc : Value} {an od : Option Addr}
    {osl : Array (Option Value)} {N ps : List Str} {sp : Sp} (lk : K.lookup f = some ⟨oc, od, .func (PySem.W.fnOf name qual params body scope dV kV doc pm an cdv ct), osl⟩) (hcd : PySem.W.codeIn K cdv qual = true) (S : FnScope N ps scope)
    (len : ∀ vs H Q E, sp vs H Q E → vs.length = ps.length)
    (hbody : ∀ (A : Around) (outer : List Env) (s : Shared) (H : Hp) (vs : List V) (Q : VK) (E : XK), Room k (A.deeper (envOfC qual scope s.heap.objs.size f cdv)) → sp vs H Q E →
      ∃ t, PSs (cxOf CX P w K mg base N qual scope f cdv A outer s H E) body t ∧ t { nx := fun _ H' => Q .non H', rt := Q } (start N vs) H) :
    FnOk P w K mg base CX (k + 1) f (PySem.W.fnOf name qual params body scope dV kV doc pm an cdv ct) ps sp := by
  refine ⟨len, fun A outer s H args us vs Q E hr e0 hb r hsp => ?_⟩
  have hl := len _ _ _ _ hsp
  have KX : K.In s.heap := e0.mod.kin.keeps fun b o e => (e0.bs b o e).1
  have lim : s.heap.NoLimit := e0.mod.nolimit.keeps fun b o e => (e0.bs b o e).1
  have hkind : ∀ y ∈ ps.zip us, scope.names.lookup y.1 = some .local ∨ (scope.names.lookup y.1 = some .cell ∧ ((cellsFrom (s.heap.objs.size + 1) scope.names []).lookup y.1).isSome = true) := fun ⟨n, v⟩ hy => by
    rcases S.par n (List.of_mem_zip hy).1 with q | q
    · exact .inl q
    · exact .inr ⟨q, PySem.W.cellsFrom_some _ _ _ (.inl q)⟩
  refine codeAny_call_function hr.depth (KX _ _ lk) rfl S.co S.gen rfl (PySem.W.codeRec_of KX hcd) (hb _ _ _ _ ?_)
  refine wpAny_newFunctionEnv_cells S.kind hkind fun env he s1 x => ?_
  subst he
  refine ⟨lim.keeps x.toInCall.keep, codeAny_func ?_⟩
  obtain ⟨t, ht, hq⟩ := hbody A outer s H vs Q E (hr.deeper _) hsp
  have I : Inv (cxOf CX P w K mg base N qual scope f cdv A outer s H E) [] (start N vs) H s1 := inv_start S hr.hd e0 hl r x
  refine wpAny_mono (ht [] s1 (start N vs) H _ I hq) (fun fl s' hs => ?_) fun e s' hs => hs
  have fin : ∀ {σ' : St} {H' : Hp} {v : V} {u : Value}, Inv (cxOf CX P w K mg base N qual scope f cdv A outer s H E) [] σ' H' s' → RelV v u → Q v H' → CE outer P w H s Q u s' :=
    fun {σ' H' v u} J rv q => ⟨v, H', J.os, J.bare, J.base, J.hok, rv, q⟩
  cases fl with
  | ret u =>
    obtain ⟨v, σ', H', J, rv, q⟩ := hs
    exact fin J rv q
  | next =>
    obtain ⟨σ', H', J, q⟩ := hs
    exact fin (v := V.non) (u := Value.none) J rfl q
  | brk =>
    obtain ⟨_, _, _, q⟩ := hs
    exact False.elim q
  | cont =>
    obtain ⟨_, _, _, q⟩ := hs
    exact False.elim q
end L2
namespace L2
open PySem PySem.Spec PyProof.Rows
section
variable {X : Cx} {x : Str} {p pos : Pos} {e : Expr} {es : List Expr} {t : TA} {id T : String} {r : List V → Hp → VK → Prop}
noncomputable def tCB (r : List V → Hp → VK → Prop) (t : TA) : TE := fun σ H Q => t σ H fun vs H1 => r vs H1 Q
theorem pe_callB (hc : CallR X (.builtin id) r) (hg : Gl X x) (hm : X.mg x = none) (hv : bootBuiltins x = some (.builtin id)) (ha : PA X (e :: es) t) (hn : x ≠ "__name__" := by decide) (hdb : (x == ("__debug__" : Str)) = false := by decide)
    (he : starEach (e :: es) X.env = (false, eval e X.env) :: starEach es X.env := by rfl) (hpl : (backTo pos (starEach es X.env)).any (·.1) = false := by rfl) : PE X (.Call (.Name x p) (e :: es) [] pos) (tCB r t) := by
  intro pins s σ H Q I h
  refine wpAny_Call_Name_kw (ld_blt I hg hm hv ?_ hn hdb)
  exact PyProof.Rows.callWith_builtin1 (thn (ha pos pins s σ H _ I h) fun us s1 ⟨vs, H1, I1, r1, q1⟩ => hc pins s1 σ H1 vs us Q I1 r1 q1) he hpl
theorem pe_callTy (hc : CallR X (.type T) r) (hg : Gl X x) (hm : X.mg x = none) (hv : bootBuiltins x = some (.type T)) (ha : PA X (e :: es) t) (hn : x ≠ "__name__" := by decide) (hdb : (x == ("__debug__" : Str)) = false := by decide)
    (he : starEach (e :: es) X.env = (false, eval e X.env) :: starEach es X.env := by rfl) (hpl : (backTo pos (starEach es X.env)).any (·.1) = false := by rfl) : PE X (.Call (.Name x p) (e :: es) [] pos) (tCB r t) := by
  intro pins s σ H Q I h
  refine wpAny_Call_Name_kw (ld_blt I hg hm hv ?_ hn hdb)
  exact PyProof.Rows.callWith_type1 (thn (ha pos pins s σ H _ I h) fun us s1 ⟨vs, H1, I1, r1, q1⟩ => hc pins s1 σ H1 vs us Q I1 r1 q1) he hpl
end
end L2
namespace HT
open PySem PyProof.Rows
section
open PySem.SeqAt
open PySem.AutoSeq1 (wpAny_loadPart')
open PySem.MeetsSeq PySem.MeetsSeq2 PySem.MeetsSeq3
end
section
variable {prog : Program} {w : World} {A : Around} {E : Value → Shared → Prop} {s : Shared}
noncomputable def sIx (n d : Nat) : Option Int → Nat
  | none => d
  | some v => if v < 0 then (v + (n : Int)).toNat else min v.toNat n
theorem sIx_none (n d : Nat) : sIx n d none = d := rfl
theorem sIx_nat (n d k : Nat) : sIx n d (some (k : Int)) = min k n := by
  show (if (k : Int) < 0 then ((k : Int) + (n : Int)).toNat else min (k : Int).toNat n) = min k n
  rw [if_neg (by omega), Int.toNat_natCast]
end
end HT
namespace L2
open PySem PySem.Spec PyProof.Rows
noncomputable abbrev TO := St → Hp → (Option Int → Hp → Prop) → Prop
noncomputable def PO (X : Cx) (e : Option Expr) (t : TO) : Prop :=
  ∀ (pins : List (Addr × Obj)) (s : Shared) (σ : St) (H : Hp) (Q : Option Int → Hp → Prop), Inv X pins σ H s → t σ H Q →
    wpAny (model X.prog X.w) X.A (evalPart e X.env) (fun u s' => ∃ o H', Inv X pins σ H' s' ∧ IsPart u o ∧ Q o H') X.xe s
noncomputable def tNoPart : TO := fun _ H Q => Q none H
noncomputable def tPart (t : TE) : TO := fun σ H Q => t σ H fun x H1 => ∃ i, x = .int i ∧ Q (some i) H1
theorem intsAre_of {ns : List Int} : ∀ {us : List Value}, Vals (ns.map V.int) us → IntsAre us ns := by
  induction ns with
  | nil => intro us r; rw [List.map_nil] at r; cases r; exact .nil
  | cons n ns ih =>
    intro us r
    rw [List.map_cons] at r
    cases r with
    | cons r1 r2 =>
      obtain ⟨t, e⟩ := r1
      subst e
      exact .cons n t (ih r2)
section
variable {X : Cx} {e : Expr} {te : TE} {lo hi : Option Expr} {tl th : TO} {pos p2 : Pos}
theorem po_none : PO X none tNoPart := by
  intro pins s σ H Q I h
  rw [evalPart_none]
  exact wpAny_pure ⟨none, H, I, .none, h⟩
theorem po_some (h : PE X e te) : PO X (some e) (tPart te) := by
  intro pins s σ H Q I hw
  rw [evalPart_some]
  refine thn (h pins s σ H _ I hw) fun u s1 ⟨x, H1, I1, r1, q1⟩ => ?_
  obtain ⟨i, rfl, q⟩ := q1
  obtain ⟨t, rfl⟩ := r1
  exact ⟨some i, H1, I1, .int i t, q⟩
noncomputable def SlR (X : Cx) (r : V → Option Int → Option Int → Hp → VK → Prop) : Prop :=
  ∀ (pins : List (Addr × Obj)) (s : Shared) (σ : St) (H : Hp) (x : V) (v vl vu : Value) (lo hi : Option Int) (sl : Addr) (Q : VK), Inv X pins σ H s → RelV x v → s.heap.IsSliceOf sl vl vu .none → IsPart vl lo → IsPart vu hi → r x lo hi H Q →
    ∃ T id, typeLookup (.type T) "__getitem__" = pure (some (.builtin id)) ∧ s.TypeIs v T ∧ wpAny (model X.prog X.w) X.A (getItem v (.ref sl)) (EP X pins σ Q) X.xe s
theorem SlR.or {r r' : V → Option Int → Option Int → Hp → VK → Prop} (h : SlR X r) (h' : SlR X r') : SlR X (fun x lo hi H Q => r x lo hi H Q ∨ r' x lo hi H Q) := by
  intro pins s σ H x v vl vu lo hi sl Q I rx hs pl pu q
  rcases q with q | q
  · exact h pins s σ H x v vl vu lo hi sl Q I rx hs pl pu q
  · exact h' pins s σ H x v vl vu lo hi sl Q I rx hs pl pu q
noncomputable def tSl (r : V → Option Int → Option Int → Hp → VK → Prop) (te : TE) (tl th : TO) : TE := fun σ H Q => te σ H fun x H1 => tl σ H1 fun l H2 => th σ H2 fun u H3 => r x l u H3 Q
theorem pe_slice {r : V → Option Int → Option Int → Hp → VK → Prop} (hr : SlR X r) (he : PE X e te) (hl : PO X lo tl) (hu : PO X hi th) : PE X (.Subscript e (.Slice lo hi none p2) pos) (tSl r te tl th) := by
  intro pins s σ H Q I h
  refine Subscript_ (thn (he pins s σ H _ I h) fun v s1 ⟨x, H1, I1, r1, q1⟩ => ?_)
  refine wpAny_Slice (thn (hl pins s1 σ H1 _ I1 q1) fun vl s2 ⟨l, H2, I2, pl, q2⟩ => thn (hu pins s2 σ H2 _ I2 q2) fun vu s3 ⟨u, H3, I3, pu, q3⟩ => ?_)
  rw [evalPart_none]
  refine wpAny_pure ?_
  have I4 : Inv X pins σ H3 { s3 with heap := s3.heap.push { cls := .type "slice", data := .fields #[vl, vu, .none] } } := I3.kept (t' := s3.toks) fun b ob q => Heap.get?_push_of_some _ q
  obtain ⟨T, id, hT, ht, hg⟩ := hr pins { s3 with heap := s3.heap.push { cls := .type "slice", data := .fields #[vl, vu, .none] } } σ H3 x v vl vu l u s3.heap.objs.size Q I4 r1 (Heap.IsSliceOf.new ..) pl pu q3
  show wpAny (model X.prog X.w) X.A (subscriptTail e (.Slice lo hi none p2) v (.ref s3.heap.objs.size)) (EP X pins σ Q) X.xe { s3 with heap := s3.heap.push { cls := .type "slice", data := .fields #[vl, vu, .none] } }
  exact tail_any (ops := [.ref s3.heap.objs.size, v]) ht hT hg (by with_unfolding_all rfl)
noncomputable def cutV (xs : List V) (lo hi : Option Int) : List V := (xs.drop (HT.sIx xs.length 0 lo)).take (HT.sIx xs.length xs.length hi - HT.sIx xs.length 0 lo)
theorem cutV_length (xs : List V) (lo hi : Option Int) : (cutV xs lo hi).length ≤ xs.length := by
  unfold cutV
  rw [List.length_take, List.length_drop]
  omega
end
end L2
namespace L2
open PySem PySem.Spec PyProof.Rows
noncomputable def ixN (n : Nat) (i : Int) : Option Nat := if 0 ≤ i then (if i < n then some i.toNat else none) else if -(n : Int) ≤ i then some (i + n).toNat else none
noncomputable def atI {α : Type} (xs : List α) (i : Int) : Option α := (ixN xs.length i).bind fun j => xs[j]?
theorem ixN_seq {n : Nat} {i : Int} {j : Nat} (h : ixN n i = some j) : seqIndex? i n = some j ∧ j < n ∧ -(n : Int) ≤ i ∧ i < n := by
  unfold ixN at h
  by_cases h0 : 0 ≤ i
  · rw [if_pos h0] at h
    by_cases h1 : i < n
    · rw [if_pos h1] at h
      have e : i.toNat = j := Option.some.inj h
      exact ⟨by rw [seqIndex_of h0 h1, e], by omega, by omega, h1⟩
    · rw [if_neg h1] at h; cases h
  · rw [if_neg h0] at h
    by_cases h1 : -(n : Int) ≤ i
    · rw [if_pos h1] at h
      have e : (i + n).toNat = j := Option.some.inj h
      exact ⟨by rw [seqIndex_neg (by omega) h1, e], by omega, h1, by omega⟩
    · rw [if_neg h1] at h; cases h
theorem atI_get {α : Type} {xs : List α} {i : Int} {v : α} (h : atI xs i = some v) : ∃ j, seqIndex? i xs.length = some j ∧ xs[j]? = some v ∧ j < xs.length ∧ -(xs.length : Int) ≤ i ∧ i < xs.length := by
  unfold atI at h
  cases e : ixN xs.length i with
  | none => rw [e] at h; cases h
  | some j =>
    rw [e] at h
    obtain ⟨h1, h2, h3, h4⟩ := ixN_seq e
    exact ⟨j, h1, h, h2, h3, h4⟩
theorem atI_nat {α : Type} {xs : List α} {j : Nat} {v : α} (h : xs[j]? = some v) : atI xs (j : Int) = some v := by
  have hj : j < xs.length := (List.getElem?_eq_some_iff.mp h).1
  have e : ixN xs.length (j : Int) = some j := by
    unfold ixN
    rw [if_pos (by omega), if_pos (by omega)]; simp
  unfold atI; rw [e]; exact h
noncomputable def PlainIx (b : Expr) : Prop := ∀ o i, subscripted b false o i = operate [o, i] (getItem o i)
noncomputable def IxR (X : Cx) (r : R2) : Prop :=
  ∀ (value slice : Expr) (pins : List (Addr × Obj)) (s : Shared) (σ : St) (H : Hp) (x y : V) (v u : Value) (Q : VK), Inv X pins σ H s → RelV x v → RelV y u → r x y H Q →
    subscripted slice false v u = operate [v, u] (getItem v u) → wpAny (model X.prog X.w) X.A (subscriptTail value slice v u) (EP X pins σ Q) X.xe s
noncomputable def MtR (X : Cx) (id : String) (r : V → List V → Hp → VK → Prop) : Prop :=
  ∀ (pins : List (Addr × Obj)) (s : Shared) (σ : St) (H : Hp) (x : V) (xs : List V) (v : Value) (us : List Value) (Q : VK), Inv X pins σ H s → RelV x v → Vals xs us → r x xs H Q →
    wpAny (model X.prog X.w) X.A (call (.builtin id) (v :: us)) (EP X pins σ Q) X.xe s
section
variable {X : Cx} {a b : Expr} {ta tb : TE} {pos : Pos}
theorem IxR.or {r r' : R2} (h : IxR X r) (h' : IxR X r') : IxR X (fun x y H Q => r x y H Q ∨ r' x y H Q) := by
  intro value slice pins s σ H x y v u Q I rx ry q hs
  rcases q with q | q
  · exact h value slice pins s σ H x y v u Q I rx ry q hs
  · exact h' value slice pins s σ H x y v u Q I rx ry q hs
theorem MtR.or {id : String} {r r' : V → List V → Hp → VK → Prop} (h : MtR X id r) (h' : MtR X id r') : MtR X id (fun x xs H Q => r x xs H Q ∨ r' x xs H Q) := by
  intro pins s σ H x xs v us Q I rx rs q
  rcases q with q | q
  · exact h pins s σ H x xs v us Q I rx rs q
  · exact h' pins s σ H x xs v us Q I rx rs q
theorem pe_ix {r : R2} (hr : IxR X r) (ha : PE X a ta) (hb : PE X b tb) (hs : PlainIx b) : PE X (.Subscript a b pos) (tOp r ta tb) := by
  intro pins s σ H Q I h
  exact Subscript_ (binT ha hb I h fun v u s2 x y H2 I2 rx ry q => hr a b pins s2 σ H2 x y v u Q I2 rx ry q (hs _ _))
noncomputable def rIxL (K : PySem.W.Frag) : R2 := fun x y H Q => ∃ p xs i v, x = .ref p ∧ y = .int i ∧ SqL K H p xs ∧ atI xs i = some v ∧ Q v H
noncomputable def rIxT (K : PySem.W.Frag) : R2 := fun x y H Q => ∃ p xs i v, x = .ref p ∧ y = .int i ∧ SqT K H p xs ∧ atI xs i = some v ∧ Q v H
theorem ix_list : IxR X (rIxL X.K) := by
  intro value slice pins s σ H x y v u Q I rx ry h hs
  obtain ⟨p, xs, i, z, rfl, rfl, hq, he, q⟩ := h
  cases rx
  obtain ⟨t, rfl⟩ := ry
  obtain ⟨its, r, pl, hz⟩ := I.list hq
  obtain ⟨j, h1, h2, h3, h4, h5⟩ := atI_get he
  obtain ⟨w, ew, rw'⟩ := r.get h2
  have hl := r.length
  have hn := line63
  have fin : EP X pins σ Q w s := ⟨z, H, I, rw', q⟩
  by_cases h0 : 0 ≤ i
  · have hj : i.toNat = j := by
      rw [seqIndex_of h0 h5] at h1
      exact Option.some.inj h1
    exact item_listR pl.isList h0 (by omega) (by rw [hj]; simpa using ew) fin hs
  · have hj : (i + (its.toArray.size : Int)).toNat = j := by
      rw [seqIndex_neg (by omega) h4] at h1
      rw [List.size_toArray, ← hl]
      exact Option.some.inj h1
    exact subscriptTail_builtinR (x := w) pl.isList.typeIs slot_list_getitem.lookup
      (wpAny_getItem_list_neg (Q := fun r s' => r = w ∧ EP X pins σ Q r s') pl.isList (by omega) (by rw [List.size_toArray] <;> omega) (by omega) (by rw [hj]; simpa using ew) ⟨rfl, fin⟩) hs
theorem ix_tup : IxR X (rIxT X.K) := by
  intro value slice pins s σ H x y v u Q I rx ry h hs
  obtain ⟨p, xs, i, z, rfl, rfl, hq, he, q⟩ := h
  cases rx
  obtain ⟨t, rfl⟩ := ry
  obtain ⟨its, r, pl, hz⟩ := I.tuple hq
  obtain ⟨j, h1, h2, h3, h4, h5⟩ := atI_get he
  obtain ⟨w, ew, rw'⟩ := r.get h2
  have hl := r.length
  have hn := line63
  have fin : EP X pins σ Q w s := ⟨z, H, I, rw', q⟩
  exact subscriptTail_builtinR (x := w) pl.typeIs slot_tuple_getitem.lookup
    (getItem_tuple (j := j) (Q := fun r s' => r = w ∧ EP X pins σ Q r s') pl (by omega) (by omega) (by rw [List.size_toArray, ← hl]; exact h1) (by simpa using ew) ⟨rfl, fin⟩) hs
theorem Inv.lst {pins : List (Addr × Obj)} {σ : St} {H : Hp} {s : Shared} {p : Addr} {xs : List V} (I : Inv X pins σ H s) (h : H p = some (.lst xs)) :
    ∃ (its : List Value) (n : Nat), Vals xs its ∧ s.heap.get? p = some { cls := .type "list", data := .seq its.toArray n } ∧ xs.length ≤ sizeLine := by
  obtain ⟨z, its, n, r, e⟩ := I.hok p _ h
  exact ⟨its, n, r, e, z⟩
theorem slice_bounds (lo hi : Option Int) (n : Nat) : (sliceBounds lo hi none n).1 = ((HT.sIx n 0 lo : Nat) : Int) ∧ (sliceBounds lo hi none n).2.1 = ((HT.sIx n n hi : Nat) : Int) ∧ (sliceBounds lo hi none n).2.2 = 1 := by
  refine ⟨?_, ?_, rfl⟩
  · cases lo with
    | none => simp [sliceBounds, HT.sIx]
    | some i =>
      simp only [sliceBounds, HT.sIx, Option.getD_none, show (1 : Int) > 0 by decide, if_true]
      by_cases h : i < 0
      · simp only [h, if_true] <;> omega
      · simp only [h, if_false] <;> omega
  · cases hi with
    | none => simp [sliceBounds, HT.sIx]
    | some i =>
      simp only [sliceBounds, HT.sIx, Option.getD_none, show (1 : Int) > 0 by decide, if_true]
      by_cases h : i < 0
      · simp only [h, if_true] <;> omega
      · simp only [h, if_false] <;> omega
theorem slicePick_cut (its : List Value) (lo hi : Option Int) : slicePick its.toArray lo hi none = ((its.drop (HT.sIx its.length 0 lo)).take (HT.sIx its.length its.length hi - HT.sIx its.length 0 lo)).toArray := by
  obtain ⟨h1, h2, h3⟩ := slice_bounds lo hi its.toArray.size
  unfold slicePick
  rw [h1, h2, h3]
  simp only [sliceRange_one, pick_run, List.size_toArray] <;> rfl
noncomputable def rSlL (K : PySem.W.Frag) : V → Option Int → Option Int → Hp → VK → Prop := fun x lo hi H Q => ∃ a xs, x = .ref a ∧ SqL K H a xs ∧ ∀ p, H p = none → Q (.ref p) (upd H p (.lst (cutV xs lo hi)))
theorem sl_list : SlR X (rSlL X.K) := by
  intro pins s σ H x v vl vu lo hi sl Q I rx hs pl pu h
  obtain ⟨a, xs, rfl, hx, q⟩ := h
  cases rx
  obtain ⟨its, r, ht, hz⟩ := I.list hx
  have hlen := r.length
  refine ⟨"list", _, slot_list_getitem.lookup, ht.isList.typeIs, ?_⟩
  refine wpAny_getItem_list_slice ht.isList hs pl pu .none (by simp) ?_ (by rw [List.size_toArray] <;> omega)
  rw [slicePick_cut, ← hlen]
  refine ⟨.ref s.heap.objs.size, _, I.laid (t' := s.toks) (o := .lst (cutV xs lo hi)) (fun b ob q => Heap.get?_push_of_some _ q) (Nat.le_refl _) ?_, rfl, q _ (I.hok.fresh (Nat.le_refl _))⟩
  exact ⟨Nat.le_trans (cutV_length xs lo hi) hz, _, 0, (r.drop (HT.sIx xs.length 0 lo)).take (HT.sIx xs.length xs.length hi - HT.sIx xs.length 0 lo), Heap.get?_push_size _ rfl⟩
theorem call_len_seq : CallR X (.builtin "len") (fun xs H Q => ∃ p ys, xs = [.ref p] ∧ (SqL X.K H p ys ∨ SqT X.K H p ys) ∧ Q (.int ys.length) H) := by
  intro pins s σ H xs us Q I r h
  obtain ⟨p, ys, rfl, hq, q⟩ := h
  obtain ⟨u, rfl, rx⟩ := vals1 r
  cases rx
  have hn := line63
  rcases hq with hq | hq
  · obtain ⟨its, r', pl, hz⟩ := I.list hq
    have hlen := r'.length
    exact Calls.call_len_list pl.isList (by simp only [List.size_toArray] <;> omega) ⟨.int ys.length, H, I.tok _, ⟨s.toks + 1, by rw [List.size_toArray, hlen]⟩, q⟩
  · obtain ⟨its, r', pl, hz⟩ := I.tuple hq
    have hlen := r'.length
    exact len_tuple pl (by simp only [List.size_toArray] <;> omega) ⟨.int ys.length, H, I.tok _, ⟨s.toks + 1, by rw [List.size_toArray, hlen]⟩, q⟩
theorem CallR.or {f : Value} {r r' : List V → Hp → VK → Prop} (h : CallR X f r) (h' : CallR X f r') : CallR X f (fun xs H Q => r xs H Q ∨ r' xs H Q) := by
  intro pins s σ H xs us Q I rs q
  rcases q with q | q
  · exact h pins s σ H xs us Q I rs q
  · exact h' pins s σ H xs us Q I rs q
theorem call_list_of : CallR X (.type "list") (fun xs H Q => ∃ p ys, xs = [.ref p] ∧ (SqL X.K H p ys ∨ SqT X.K H p ys) ∧ ∀ l, H l = none → Q (.ref l) (upd H l (.lst ys))) := by
  intro pins s σ H xs us Q I r h
  obtain ⟨p, ys, rfl, hq, q⟩ := h
  obtain ⟨u, rfl, rx⟩ := vals1 r
  cases rx
  have fin : ∀ (its : List Value), Vals ys its → ys.length ≤ sizeLine → ∀ (h' : Heap) (c' : Nat), (∀ b o', s.heap.get? b = some o' → h'.get? b = some o') →
      h'.get? s.heap.objs.size = some { cls := .type "list", dict := none, data := .seq its.toArray c', slots := #[] } → EP X pins σ Q (.ref s.heap.objs.size) { s with heap := h' } := fun its r' hz h' c' kp e =>
    ⟨.ref s.heap.objs.size, _, I.laid (t' := s.toks) kp (Nat.le_refl _) (show ObjOk X.prog X.w _ h' _ (.lst ys) from ⟨hz, its, c', r', e⟩), rfl, q _ (I.hok.fresh (Nat.le_refl _))⟩
  rcases hq with hq | hq
  · obtain ⟨its, r', pl, hz⟩ := I.list hq
    have hlen := r'.length
    obtain ⟨o, ho, hc, n, hd⟩ := pl.isList
    exact call_list_seq p (.inl rfl) ho hc hd (fun h' c' kp e => fin its r' hz h' c' kp e) (by simp only [List.size_toArray] <;> omega)
  · obtain ⟨its, r', pl, hz⟩ := I.tuple hq
    have hlen := r'.length
    obtain ⟨o, ho, hc, n, hd⟩ := pl
    exact call_list_seq p (.inr rfl) ho hc hd (fun h' c' kp e => fin its r' hz h' c' kp e) (by simp only [List.size_toArray] <;> omega)
noncomputable def tyV (K : PySem.W.Frag) (T : String) (x : V) (H : Hp) : Prop := match x with
  | .str _ => T = "str"
  | .int _ => T = "int"
  | .ref p => (T = "list" ∧ ∃ xs, SqL K H p xs) ∨ (T = "tuple" ∧ ∃ o, K.lookup p = some o ∧ o.cls = .type "tuple" ∧ o.dict = none) ∨
      (T = "dict" ∧ ((∃ kvs, H p = some (.dK kvs)) ∨ ∃ kvs, H p = some (.dT kvs))) ∨ (T = "set" ∧ ∃ S n, H p = some (.set S n))
  | _ => False
theorem tyV_is {pins : List (Addr × Obj)} {σ : St} {H : Hp} {s : Shared} {T : String} {x : V} {v : Value} (I : Inv X pins σ H s) (r : RelV x v) (ty : tyV X.K T x H) :
    s.TypeIs v T ∧ ∀ a, v = .ref a → ∃ ob, s.heap.get? a = some ob ∧ ob.dict = none := by
  cases x with
  | str z =>
    obtain ⟨t, rfl⟩ := r
    cases (show T = "str" from ty)
    exact ⟨typeIs_str s z t, fun _ e => nomatch e⟩
  | int i =>
    obtain ⟨t, rfl⟩ := r
    cases (show T = "int" from ty)
    exact ⟨typeIs_int s i t, fun _ e => nomatch e⟩
  | ref p =>
    cases r
    rcases ty with ⟨rfl, xs, hq⟩ | ⟨rfl, o, hk, hc, hd⟩ | ⟨rfl, hk⟩ | ⟨rfl, S, n, hk⟩
    · obtain ⟨its, _, pl, _⟩ := I.list hq
      refine ⟨pl.isList.typeIs, fun a e => ?_⟩
      cases e
      obtain ⟨o, n, e, c, hd, _⟩ := pl
      exact ⟨o, e, hd⟩
    · refine ⟨⟨o, I.kIn p o hk, hc⟩, fun a e => ?_⟩
      cases e
      exact ⟨o, I.kIn _ o hk, hd⟩
    · have z : ∃ o, s.heap.get? p = some o ∧ o.ExactDict := by
        rcases hk with ⟨kvs, hk⟩ | ⟨kvs, hk⟩
        · obtain ⟨_, _, _, _, o, _, _, e, ex, _⟩ := I.hok p _ hk
          exact ⟨o, e, ex⟩
        · obtain ⟨_, _, _, _, o, _, _, e, ex, _⟩ := I.hok p _ hk
          exact ⟨o, e, ex⟩
      obtain ⟨o, e, ex⟩ := z
      refine ⟨⟨o, e, ex.1⟩, fun a e2 => ?_⟩
      cases e2
      exact ⟨o, e, ex.2.1⟩
    · obtain ⟨o, _, _, _, e, ex, _⟩ := I.hok p _ hk
      refine ⟨⟨o, e, ex.1⟩, fun a e2 => ?_⟩
      cases e2
      exact ⟨o, e, ex.2.1⟩
  | _ => exact False.elim ty
noncomputable def tBM (K : PySem.W.Frag) (T : String) (r : V → List V → Hp → VK → Prop) (to : TE) (t : TA) : TE := fun σ H Q => to σ H fun x H1 => tyV K T x H1 ∧ t σ H1 fun xs H2 => r x xs H2 Q
variable {o e : Expr} {es : List Expr} {to : TE} {t : TA} {name : Str} {apos cpos : Pos} {T id : String} {r : V → List V → Hp → VK → Prop}
theorem pe_bm (pa : PlainAttrs T) (slot : Slot T name id) (hty : typeOf (.builtin id) = pure (.type "method_descriptor")) (hm : MtR X id r) (ho : PE X o to) (ha : PA X (e :: es) t)
    (hbase : attributeBase o name X.env (eval o X.env) = eval o X.env := by rfl)
    (hfew : ((backTo cpos (starEach (e :: es) X.env)).all (fun x => !x.1) && (backToKw cpos (keywordEach [] X.env)).all (fun x => x.1.isSome)
      && decide ((e :: es).length + ([] : List Keyword).length + (if ([] : List Keyword).isEmpty then 0 else 1) < 30)) = true := by rfl)
    (hline : (apos.endLine == cpos.line) = true := by rfl) (hs : starEach (e :: es) X.env = (false, eval e X.env) :: starEach es X.env := by rfl) (hplain : (backTo cpos (starEach es X.env)).any (·.1) = false := by rfl) :
    PE X (.Call (.Attribute o name apos) (e :: es) [] cpos) (tBM X.K T r to t) := by
  intro pins s σ H Q I h
  refine wpAny_Call_method_late hbase hfew hline rfl (thn (ho pins s σ H _ I h) fun v s1 ⟨x, H1, I1, r1, ty, q1⟩ => ?_)
  obtain ⟨h1, h2⟩ := tyV_is I1 r1 ty
  refine ⟨T, id, pa, slot, hty, h1, h2, ?_⟩
  have hA := ha cpos pins s1 σ H1 _ I1 q1
  rw [hs] at hA ⊢
  refine Calls.callWith_builtin (by show (false || (backTo cpos (starEach es X.env)).any (·.1)) = false; rw [hplain] <;> rfl) (Calls.evalArgs_plain ?_)
  exact thn hA fun us s2 ⟨vs, H2, I2, r2, q2⟩ => hm pins s2 σ H2 x vs v us Q I2 r1 r2 q2
end
end L2
namespace L2
open PySem PySem.Spec PyProof.Rows
noncomputable def MtM (X : Cx) (id : String) (r : V → List V → Hp → VK → Prop) : Prop :=
  ∀ (pins : List (Addr × Obj)) (s : Shared) (σ : St) (H : Hp) (x : V) (xs : List V) (v : Value) (us : List Value) (Q : VK), Inv X pins σ H s → RelV x v → Vals xs us → r x xs H Q →
    wpAny (model X.prog X.w) X.A (call (.builtin id) (v :: us)) (EP X pins σ Q) X.xe s
theorem Vals.one : ∀ {x : V} {us : List Value}, Vals [x] us → ∃ u, us = [u] ∧ RelV x u
  | _, _, .cons r .nil => ⟨_, rfl, r⟩
theorem Vals.two : ∀ {x y : V} {us : List Value}, Vals [x, y] us → ∃ u v, us = [u, v] ∧ RelV x u ∧ RelV y v
  | _, _, _, .cons r (.cons q .nil) => ⟨_, _, rfl, r, q⟩
theorem Vals.zero : ∀ {us : List Value}, Vals [] us → us = []
  | _, .nil => rfl
theorem Vals.eraseIdx : ∀ {xs : List V} {us : List Value} (i : Nat), Vals xs us → Vals (xs.eraseIdx i) (us.eraseIdx i)
  | _, _, _, .nil => .nil
  | _, _, 0, .cons _ t => t
  | _, _, i + 1, .cons r t => .cons r (Vals.eraseIdx i t)
theorem Vals.reverse {xs : List V} {us : List Value} (h : Vals xs us) : Vals xs.reverse us.reverse := by
  induction h with
  | nil => exact .nil
  | cons r t ih => rw [List.reverse_cons, List.reverse_cons]; exact Vals.append ih (.cons r .nil)
section
variable {X : Cx} {pins : List (Addr × Obj)} {σ : St} {H : Hp} {s : Shared} {l b : Addr} {xs ys zs : List V}
theorem Inv.lset {its its' : List Value} {n : Nat} {f : Array Value → Array Value} {t' : Nat} (I : Inv X pins σ H s) (hH : H l = some (.lst xs))
    (e : s.heap.get? l = some { cls := .type "list", data := .seq its.toArray n }) (hf : f its.toArray = its'.toArray) (hv : Vals ys its') (hz : ys.length ≤ sizeLine) :
    Inv X pins σ (upd H l (.lst ys)) { s with heap := s.heap.update l (Obj.mapSeq f), toks := t' } := by
  have q := PySem.IsL.update e f
  rw [hf] at q
  refine I.write (x := l) (e := l) (by rw [hH]; exact trivial) (.inl rfl) (fun b' u hb hu => (Heap.get?_update_other s.heap (Obj.mapSeq f) (Ne.symm hb)).trans hu) ⟨_, q⟩ ?_
  exact ⟨hz, its', _, hv, q⟩
theorem Inv.lnew {its : List Value} {t' : Nat} (I : Inv X pins σ H s) (hv : Vals ys its) (hz : ys.length ≤ sizeLine) :
    Inv X pins σ (upd H s.heap.objs.size (.lst ys)) { s with heap := s.heap.push { cls := .type "list", data := .seq its.toArray }, toks := t' } :=
  I.laid (fun _ _ q => Heap.get?_push_of_some _ q) (Nat.le_refl _) ⟨hz, its, 0, hv, Heap.get?_push_size _ rfl⟩
theorem Inv.fresh (I : Inv X pins σ H s) : H s.heap.objs.size = none := I.hok.fresh (Nat.le_refl _)
theorem Inv.lstM (I : Inv X pins σ H s) (hH : H l = some (.lst xs)) : xs.length ≤ sizeLine ∧ ∃ (its : List Value) (n : Nat), Vals xs its ∧ xs.length = its.length ∧ s.heap.get? l = some { cls := .type "list", data := .seq its.toArray n } := by
  obtain ⟨z, its, n, r, e⟩ := I.hok l _ hH
  exact ⟨z, its, n, r, r.length, e⟩
end
section
variable {X : Cx}
noncomputable def rAppend : V → List V → Hp → VK → Prop := fun x vs H Q => ∃ l xs y, x = .ref l ∧ vs = [y] ∧ H l = some (.lst xs) ∧ xs.length < sizeLine ∧ Q .non (upd H l (.lst (xs ++ [y])))
theorem mt_append : MtM X "list.append" rAppend := by
  intro pins s σ H x vs v us Q I rx rv h
  obtain ⟨l, xs, y, rfl, rfl, hH, hz, q⟩ := h
  cases rx
  obtain ⟨u, rfl, ru⟩ := rv.one
  obtain ⟨z, its, n, r, hl, e⟩ := I.lstM hH
  refine call_meets F.slot_list_append ⟨_, e, rfl⟩ F.entry_list_append (F.args_list_append_2 _ _) (PySem.list_append l its.toArray n u (by rw [List.size_toArray]; omega)) ⟨e, ?_⟩
  refine ⟨.non, _, I.lset (its' := its ++ [u]) hH e (by simp) (r.append (.cons ru .nil)) ?_, rfl, q⟩
  rw [List.length_append, List.length_singleton]
  omega
noncomputable def rCat : R2 := fun x y H Q => ∃ l b xs zs, x = .ref l ∧ y = .ref b ∧ H l = some (.lst xs) ∧ H b = some (.lst zs) ∧ xs.length + zs.length ≤ sizeLine ∧ ∀ p, H p = none → Q (.ref p) (upd H p (.lst (xs ++ zs)))
theorem op_cat : OpR X (binaryOp .Add) rCat := by
  intro pins s σ H x y v u Q I rx ry h
  obtain ⟨l, b, xs, zs, rfl, rfl, hH, hB, hz, q⟩ := h
  cases rx
  cases ry
  obtain ⟨z, its, n, r, hl, e⟩ := I.lstM hH
  obtain ⟨z2, its2, n2, r2, hl2, e2⟩ := I.lstM hB
  refine PySem.P.add_list e e2 ?_ (by rw [List.size_toArray, List.size_toArray]; omega)
  have ea : its.toArray ++ its2.toArray = (its ++ its2).toArray := by simp
  rw [ea]
  exact ⟨.ref _, _, I.lnew (t' := s.toks) (r.append r2) (by rw [List.length_append]; omega), rfl, q _ I.fresh⟩
end
section
variable {prog : Program} {w : World} {A : Around} {E : Value → Shared → Prop} {s : Shared}
end
section
variable {X : Cx}
end
end L2
namespace Att
open PySem PySem.W PySem.Calls PyProof.Rows
theorem ints_of_wellAll {P : Params} {h : Heap} : ∀ (ns : List Int) (vs : List Value), WellAll P h vs (ns.map WData.int) → IntsAre vs ns := by
  intro ns
  induction ns with
  | nil =>
    intro vs w
    rw [List.map_nil] at w
    cases w
    exact .nil
  | cons n ns ih =>
    intro vs w
    rw [List.map_cons] at w
    cases w with
    | cons a b =>
      cases a
      exact .cons _ _ (ih _ b)
theorem script_of {l : OpenLaw} {n : Nat} (hn : l.most = some n) {P : Params} {h : Heap} {args : List WData} {vals : List Value}
    (hpre : l.row.toRowW.claim.pre args = true) (hwl : WellAll P h vals args) :
    ∃ a vs ns, vals = [Value.ref a] ∧ args = [WData.list (ns.map WData.int)] ∧ h.get? a = some { cls := .type "list", data := .seq vs.toArray } ∧ IntsAre vs ns ∧ ns.length ≤ n := by
  have hsh : WShape.hasAll [] args [.list .int] = true := (pre_splitW hpre).1
  have hc : l.pre.holds [] { args := args } = true := (pre_splitW hpre).2
  obtain ⟨d, r, rfl, h1, h2⟩ := hasAllW_cons hsh
  obtain rfl := hasAllW_nil h2
  obtain ⟨xs, rfl, h3⟩ := hasW_list h1
  obtain ⟨ns, rfl⟩ := items_int h3
  have hlen : ns.length ≤ n := by
    unfold OpenLaw.pre at hc
    have h4 : (WTm.not (.lt (.lit (.int (n : Int))) (.len (.arg 0)))).holds [] { args := [.list (ns.map .int)] } = true := by
      have h4 := (holds_andW hc).1
      rw [hn] at h4
      exact h4
    have h5 := condW_of h4 (w_not (w_lt w_lit (w_len_list (w_arg rfl))))
    rw [List.length_map] at h5
    refine Nat.le_of_not_lt fun q => ?_
    have q' : (n : Int) < ((ns.length : Nat) : Int) := by omega
    first
      | (rw [decide_eq_true q'] at h5; exact absurd h5 (by decide))
      | (simp at h5; omega)
  cases hwl with
  | cons w1 w2 =>
    cases w2
    cases w1 with
    | list ho hall => exact ⟨_, _, ns, rfl, rfl, ho, ints_of_wellAll ns _ hall, hlen⟩
theorem post_true (l : OpenLaw) (args : List WData) : l.row.toRowW.claim.post args (.bool true) args = true :=
  postW_of (r := l.row.toRowW) (X := (true == true))
    (show WShape.has [] (.bool true) .bool = true by first | rfl | decide | simp [WShape.has, WShape.arms, WShape.armsAll])
    (show (WTm.eq .res (.lit (.bool true))).value [] { args := args, res := some (.bool true), after := args } = some (.bool (true == true)) from w_eq_bool (w_res rfl) w_lit) rfl
section
variable {prog : Program} {w : World} {A : Around} {E : Value → Shared → Prop} {s : Shared} {K : Frag}
end
end Att
namespace L2
open PySem PySem.Spec PyProof.Rows
theorem vals_ints : ∀ {vs : List Value} {ns : List Int}, IntsAre vs ns → Vals (ns.map V.int) vs
  | _, _, .nil => .nil
  | _, _, .cons n t h => .cons ⟨t, rfl⟩ (vals_ints h)
noncomputable def Only (H : Hp) : Prop := ∀ b, H b = none ∨ ∃ o xs, H b = some (.frz o (.lst xs))
theorem law_call {P : Program} {w : World} {K : PySem.W.Frag} {mg mb : Str → Option Value} {CX : CXT} {k : Nat} {fa a : Addr} {fd : FuncData} {x : Str} {sp : Sp} {s₁ : Shared} {vs : List Value} {ns : List Int}
    (KX : K.In s₁.heap) (hns : s₁.heap.Ns mainGlobals mg) (hb : s₁.heap.Ns builtinsNs mb) (hbb : ∀ x : Str, x ≠ "__name__" → mb x = bootBuiltins x) (hlim : s₁.heap.NoLimit) (hg : s₁.gens = #[])
    (ha : s₁.heap.get? a = some { cls := .type "list", data := .seq vs.toArray }) (hi : IntsAre vs ns) (hl : ns.length ≤ sizeLine) (hr : Room k callerA)
    (F : ∀ base : Heap, K.In base → base.Ns mainGlobals mg → FnOk P w K mg base CX k fa fd [x] sp) (hbind : ∀ (s : Shared) (u : Value), BindsTo s fd ⟨[u], []⟩ [(x, u)])
    (hsp : ∀ H : Hp, Only H → SqL K H a (ns.map V.int) → sp [.ref a] H (fun v _ => v = .bl true) fun _ _ _ => False)
    (hCX : ∀ H e s', CX [] H s₁ (fun _ _ _ => False) e s' → False) :
    codeAny (model P w) callerA (.call (.ref fa) ⟨[.ref a], []⟩) (fun r s' => r = .ok (.ret (.bool true)) ∧ OldK s₁.heap s'.heap ∧ s'.os = s₁.os ∧ AllBare s'.gens) s₁ := by
  have rv := vals_ints hi
  have lenV := hi.length
  have core : ∀ H : Hp, Only H → SqL K H a (ns.map V.int) → HOk P w H s₁.heap → (∀ b, H b ≠ none → b = a) → (H a ≠ none → K.lookup a = none) →
      codeAny (model P w) callerA (.call (.ref fa) ⟨[.ref a], []⟩) (fun r s' => r = .ok (.ret (.bool true)) ∧ OldK s₁.heap s'.heap ∧ s'.os = s₁.os ∧ AllBare s'.gens) s₁ := by
    intro H hO hS hok hA hK
    have base_of : ∀ {b : Addr} {o : Obj}, s₁.heap.get? b = some o → H b = none → (hidT s₁.heap H).get? b = some o := fun e n => hidT_get e n
    have noA : ∀ {b : Addr} {o : Obj} {es : Array DictEntry} {ep : Nat}, s₁.heap.get? b = some o → o.data = .dict es ep → H b = none := fun {b o es ep} e d => by
      cases q : H b with
      | none => rfl
      | some u =>
        have e' : b = a := hA b (by rw [q]; simp)
        subst e'
        rw [ha] at e; cases e
        have d' : Data.seq vs.toArray _ = Data.dict es ep := d
        cases d'
    have nsK : ∀ {b : Addr} {m : Str → Option Value}, s₁.heap.Ns b m → (hidT s₁.heap H).Ns b m := fun {b m} ⟨o, es, ep, e, d, r⟩ => ⟨o, es, ep, base_of e (noA e d), d, r⟩
    have hKb : K.In (hidT s₁.heap H) := fun b o e => base_of (KX b o e) (by
      cases q : H b with
      | none => rfl
      | some u =>
        have e' : b = a := hA b (by rw [q]; simp)
        subst e'
        rw [hK (by rw [q]; simp)] at e; cases e)
    have hM : Mod K mg (hidT s₁.heap H) := ⟨hKb, nsK hns, ⟨mb, nsK hb, hbb⟩, let ⟨mc, h1, h2⟩ := hlim; ⟨mc, nsK h1, h2⟩⟩
    have e0 : Env0 P w K mg (hidT s₁.heap H) callerA [] s₁ H := ⟨rfl, hM, fun b o e => of_hidT e, Nat.le_of_eq (hidT_size _ _), trivial, fun b hb => absurd (show b ∈ ([] : List Addr) from hb) (by simp), hok, .of_eq hg⟩
    refine codeAny_mono ((F _ hKb (nsK hns)).run callerA [] s₁ H ⟨[.ref a], []⟩ [.ref a] [.ref a] _ _ hr e0 (hbind s₁ (.ref a)) (.cons rfl .nil) (hsp H hO hS)) fun r s' h => ?_
    cases r with
    | error e => exact (hCX H e s' h).elim
    | ok fl =>
      cases fl with
      | next => exact False.elim h
      | brk => exact False.elim h
      | cont => exact False.elim h
      | ret u =>
        obtain ⟨v, H', os, bare, un, hok', r', q⟩ := h
        have q' : v = .bl true := q
        subst q'
        obtain rfl : u = Value.bool true := r'
        refine ⟨rfl, OldK.of_keep fun b o e => ?_, os, bare⟩
        cases q : H b with
        | none => exact un.keep b o e q (by intro z; exact absurd (show b ∈ ([] : List Addr) from z) (by simp)) (by simp)
        | some u =>
          rcases hO b with z | ⟨ob, xs, z⟩
          · rw [q] at z; cases z
          · have z2 := un.frzs b ob _ z
            obtain ⟨e1, _⟩ := hok b _ z
            obtain ⟨e2, _⟩ := hok' b _ z2
            rw [e] at e1; cases e1
            exact e2
  cases hk : K.lookup a with
  | some o =>
    have e := KX a o hk
    rw [ha] at e
    cases e
    refine core (fun _ => none) (fun _ => .inl rfl) (.inr ⟨_, vs.toArray, _, hk, rfl, rfl, rfl, by rw [List.size_toArray, lenV]; exact hl, by simpa using rv⟩) (fun b u z => by have z' : (none : Option HO) = some u := z; cases z') (fun b z => absurd rfl z) fun z => absurd rfl z
  | none =>
    refine core (fun b => if b = a then some (.frz { cls := .type "list", data := .seq vs.toArray } (.lst (ns.map V.int))) else none) (fun b => ?_) (.inl (.inr ⟨{ cls := .type "list", data := .seq vs.toArray }, if_pos rfl⟩)) (fun b u z => ?_) (fun b z => ?_) fun _ => hk
    · by_cases hb : b = a
      · exact .inr ⟨_, _, if_pos hb⟩
      · exact .inl (if_neg hb)
    · by_cases hb : b = a
      · have z' := (if_pos hb).symm.trans z
        cases z'
        subst hb
        exact ⟨ha, by rw [List.length_map]; exact hl, vs, _, rv, ha⟩
      · have z' := (if_neg hb).symm.trans z
        cases z'
    · by_cases hb : b = a
      · exact hb
      · exact absurd (if_neg hb) z
end L2
namespace L2
open PySem PySem.Spec PyProof.Rows
end L2
namespace L2
open PySem PySem.Spec PyProof.Rows
noncomputable def defArgs (s : Stmt) : Arguments := match s with
  | .FunctionDef _ a _ _ _ _ _ _ _ _ => a
  | _ => { posonlyargs := [], args := [], vararg := none, kwonlyargs := [], kw_defaults := [], kwarg := none, defaults := [] }
noncomputable def defBody (s : Stmt) : List Stmt := match s with
  | .FunctionDef _ _ b _ _ _ _ _ _ _ => b
  | _ => []
noncomputable def defScope (s : Stmt) : Scope := match s with
  | .FunctionDef _ _ _ _ _ _ sc _ _ _ => sc
  | _ => { kind := .function, names := [], isGenerator := false, isCoroutine := false }
noncomputable abbrev CX0 : CXT := fun _ _ _ _ _ _ => False
noncomputable abbrev E0 : XK := fun _ _ _ => False
theorem pass0 {X : Cx} : Passes CX0 X E0 := fun _ _ _ _ _ _ _ h => h.elim
structure Fun (K : PySem.W.Frag) (x qual : Str) (st : Stmt) (f : Addr) (fd : FuncData) : Prop where
  ex : ∃ (oc : Value) (od : Option Addr) (kV doc pm : Value) (an : Option Addr) (cdv ct : Value) (osl : Array (Option Value)),
    fd = PySem.W.fnOf x qual (defArgs st) (defBody st) (defScope st) .none kV doc pm an cdv ct ∧ K.lookup f = some ⟨oc, od, .func fd, osl⟩ ∧ PySem.W.codeIn K cdv qual = true
  kp : PySem.W.keepIn K (.ref f) = true
section
variable {P : Program} {w : World} {K : PySem.W.Frag} {mg : Str → Option Value} {base : Heap}
theorem Fun.ok {x qual : Str} {st : Stmt} {f : Addr} {fd : FuncData} {N ps : List Str} {k : Nat} {sp : Sp} (F : Fun K x qual st f fd) (S : FnScope N ps (defScope st)) (len : ∀ vs H Q E, sp vs H Q E → vs.length = ps.length)
    (hbody : ∀ (cdv : Value) (A : Around) (outer : List Env) (s : Shared) (H : Hp) (vs : List V) (Q : VK) (E : XK), Room k (A.deeper (envOfC qual (defScope st) s.heap.objs.size f cdv)) → sp vs H Q E →
      ∃ t, PSs (cxOf CX0 P w K mg base N qual (defScope st) f cdv A outer s H E).nox (defBody st) t ∧ t { nx := fun _ H' => Q .non H', rt := Q } (start N vs) H) : FnOk P w K mg base CX0 (k + 1) f fd ps sp := by
  obtain ⟨oc, od, kV, doc, pm, an, cdv, ct, osl, rfl, lk, hcd⟩ := F.ex
  refine fn_of lk hcd S len fun A outer s H vs Q E hr hsp => ?_
  obtain ⟨t, h, q⟩ := hbody cdv A outer s H vs Q E hr hsp
  exact ⟨t, h.nox, q⟩
theorem Fun.binds {x qual : Str} {st : Stmt} {f : Addr} {fd : FuncData} {ps : List Str} (F : Fun K x qual st f fd)
    (h : ∀ (kV doc pm : Value) (an : Option Addr) (cdv ct : Value) (us : List Value), us.length = ps.length → bindArgs (PySem.W.fnOf x qual (defArgs st) (defBody st) (defScope st) .none kV doc pm an cdv ct) ⟨us, []⟩ = pure (ps.zip us)) : Binds K fd ps [] := by
  obtain ⟨oc, od, kV, doc, pm, an, cdv, ct, osl, rfl, lk, hcd⟩ := F.ex
  exact .all (h kV doc pm an cdv ct)
theorem fun_mk {x qual : Str} {st : Stmt} {f : Addr} {oc : Value} {od an : Option Addr} {osl : Array (Option Value)} {kV doc pm cdv ct : Value} (l : K.lookup f = some ⟨oc, od, .func (PySem.W.fnOf x qual (defArgs st) (defBody st) (defScope st) .none kV doc pm an cdv ct), osl⟩)
    (c : PySem.W.codeIn K cdv qual = true) (k : PySem.W.keepIn K (.ref f) = true) : Fun K x qual st f (PySem.W.fnOf x qual (defArgs st) (defBody st) (defScope st) .none kV doc pm an cdv ct) := ⟨⟨oc, od, kV, doc, pm, an, cdv, ct, osl, rfl, l, c⟩, k⟩
end
theorem hu_of {A : Around} {k : Nat} (hr : Room k A) : A.units + 1 < cLine := Nat.lt_of_le_of_lt (Nat.add_le_add_left (by decide : 1 ≤ 64) _) hr.units
section
variable {X : Cx}
theorem pv (i : Nat) {x : Str} {pos : Pos} (hN : X.N[i]? = some x := by rfl) (hv : Vis X.env.scope x := by first | exact Or.inl rfl | exact Or.inr (Or.inl rfl) | exact Or.inr (Or.inr rfl)) (hd : (x == ("__debug__" : Str)) = false := by decide)
    (hcd : (x == ("__classdict__" : Str)) = false := by decide) : PE X (.Name x pos) (tVar i) := pe_var hN hv hd hcd
end
theorem iteF {A B : Prop} (h : B) : if false = true then A else B := by
  rw [if_neg Bool.false_ne_true]
  exact h
theorem iteT {A B : Prop} (h : A) : if true = true then A else B := by
  rw [if_pos rfl]
  exact h
theorem ite2 {c A B : Prop} [Decidable c] (h1 : c → A) (h2 : ¬ c → B) : if c then A else B := by
  by_cases h : c
  · rw [if_pos h]
    exact h1 h
  · rw [if_neg h]
    exact h2 h
noncomputable def Same (H H' : Hp) : Prop := ∀ b o, H b = some o → H' b = some o
theorem Same.refl (H : Hp) : Same H H := fun _ _ h => h
theorem Same.trans {H H1 H2 : Hp} (a : Same H H1) (b : Same H1 H2) : Same H H2 := fun c o h => b c o (a c o h)
theorem Same.free {H H' : Hp} (e : Same H H') {l : Addr} (h : H' l = Option.none) : H l = Option.none := by
  cases q : H l with
  | none => rfl
  | some o =>
    rw [e l o q] at h
    cases h
theorem Same.seq {K : PySem.W.Frag} {H H' : Hp} {a : Addr} {xs : List V} (e : Same H H') (h : SqL K H a xs) : SqL K H' a xs := by
  rcases h with (h | ⟨o, h⟩) | h
  · exact .inl (.inl (e _ _ h))
  · exact .inl (.inr ⟨o, e _ _ h⟩)
  · exact .inr h
end L2
set_option maxHeartbeats 4000000
namespace L2
open PySem PySem.Spec PyProof.Rows
section
variable {X : Cx}
noncomputable def Sml (i : Int) : Prop := i.natAbs < 2 ^ 4000
theorem Sml.bits {i : Int} (h : Sml i) : Builtin.Int.intBits i ≤ 4000 := intBits_le_iff.mpr h
theorem call_isinst : CallR X (.builtin "isinstance") (fun xs H Q => ∃ x t T b, xs = [x, .ty T] ∧ TyOf X.K H x t ∧ PySem.W.kitOne X.K t (.type T) = some b ∧ Q (.bl b) H) := by
  intro pins s σ H xs us Q I r h
  obtain ⟨x, t, T, b, rfl, ty, e, q⟩ := h
  obtain ⟨u, w', rfl, r1, r2⟩ := vals2 r
  cases r2
  exact isinst_ok I r1 ty e fun tk => ⟨.bl b, H, I.tok _, rfl, q⟩
theorem intItems_of : ∀ {ns : List Int} {us : List Value}, Vals (ns.map V.int) us → ∃ xs : Array (Int × Tok), us.toArray = intItems xs ∧ xs.toList.map (·.1) = ns := fun {ns us} r => by
  have hi : IntsAre us ns := intsAre_of r
  obtain ⟨xs, hx⟩ := hi.allInts.items
  refine ⟨xs, hx, ?_⟩
  rw [← nums_intItems, ← hx]
  exact (show numsOf us.toArray.toList = ns from hi.numsOf)
theorem call_sum (hc : X.calm = true) : CallR X (.builtin "sum") (fun xs H Q => ∃ (p : Addr) (ns : List Int), xs = [.ref p] ∧ SqL X.K H p (ns.map V.int) ∧ Q (.int ns.sum) H) := by
  intro pins s σ H xs us Q I r h
  obtain ⟨p, ns, rfl, hq, q⟩ := h
  obtain ⟨u, rfl, r1⟩ := vals1 r
  cases r1
  obtain ⟨its, rv, pl, hz⟩ := I.list hq
  obtain ⟨ys, hy, e1⟩ := intItems_of rv
  refine sum_intListG (I.ok.hd hc) (hy ▸ pl.isList) fun h' tk t' hk => ?_
  have e2 : preSum (numAt ys) ys.size = ns.sum := by
    rw [preSum_eq, List.take_of_length_le (by simp), e1]
  rw [e2]
  exact ⟨.int ns.sum, H, I.kept hk, ⟨_, rfl⟩, q⟩
end
theorem boot_sum : bootBuiltins "sum" = some (.builtin "sum") := PyProof.Rows.boot_sum
theorem boot_abs : bootBuiltins "abs" = some (.builtin "abs") := PyProof.Rows.boot_abs
theorem boot_isinstance : bootBuiltins "isinstance" = some (.builtin "isinstance") := PyProof.Rows.boot_isinstance
theorem boot_int : bootBuiltins "int" = some (.type "int") := PyProof.Rows.boot_int
theorem boot_bool : bootBuiltins "bool" = some (.type "bool") := PyProof.Rows.boot_bool
theorem boot_list : bootBuiltins "list" = some (.type "list") := PyProof.Rows.boot_list
theorem getD_in {α : Type} {ns : List α} {i : Nat} {d : α} (h : i < ns.length) : ns.getD i d = ns[i] := by simp [List.getD, h]
theorem same_new {H : Hp} {p : Addr} (h : H p = none) (o : HO) : Same H (upd H p o) := fun b u q => by rw [upd_ne (ne_of_none q h)]; exact q
theorem ofD {p : Prop} [Decidable p] (h : ¬ decide p = true) : ¬ p := of_decide_eq_false (Bool.eq_false_iff.mpr h)
theorem sub1 {cs : List (Str × Addr)} {x : Str} {c : Addr} (h : cs.lookup x = some c) : ∀ y c', [(x, c)].lookup y = some c' → cs.lookup y = some c' := fun y c' e => by
  by_cases z : y = x
  · subst z
    simp at e
    subst e
    exact h
  · have : (y == x) = false := by simpa using z
    simp [List.lookup, this] at e
theorem at_getD {ns : List Int} {i : Int} (h0 : 0 ≤ i) (h1 : i < (ns.length : Int)) : atI (ns.map V.int) i = some (.int (ns.getD i.toNat 0)) := by
  have hk : i.toNat < ns.length := by omega
  have ek : i = ((i.toNat : Nat) : Int) := by omega
  have z : atI (ns.map V.int) ((i.toNat : Nat) : Int) = some (.int ns[i.toNat]) := atI_nat (by rw [List.getElem?_map, List.getElem?_eq_getElem hk] <;> rfl)
  rw [← ek] at z
  rw [z, getD_in hk]
theorem md0 (c : Int) {m : Int} (h : 0 < m) : 0 ≤ c % m := Int.emod_nonneg _ (by omega)
theorem md1 (c : Int) {m : Int} (h : 0 < m) : c % m < m := Int.emod_lt_of_pos _ h
end L2
set_option maxHeartbeats 4000000
namespace L2
open PySem PySem.Spec PyProof.Rows
noncomputable def cxComp (X : Cx) (N' : List Str) (scope : Scope) (cl : List (Str × Addr)) (C : Addr) (s3 : Shared) (H3 : Hp) (fp : List Addr) : Cx where
  prog := X.prog
  w := X.w
  K := X.K
  mg := X.mg
  base := X.base
  A := X.A
  N := N'
  s₀ := s3
  H₀ := H3
  env := compEnvC scope cl C X.env
  outer := X.stack
  stack := X.stack
  ex := fp
  fn := fun _ => false
  calm := X.calm
  pn := []
  xe := fun _ _ => False
noncomputable def taken (σ : St) (fr : List Nat) : St := fr.map fun j => (σ[j]?).getD none
noncomputable def CompGo (J : It) (te : TE) (st : St) (D : Addr) (H1 : Hp) (Q : VK) : Prop :=
  ∃ W : Nat → Nat → List V → Hp → Prop, (∃ m, W 0 m [] (upd H1 D (.lst []))) ∧ ∀ i m ys H2, W i m ys H2 →
    (J.stop i H2 ∧ Q (.ref D) H2) ∨ (J.go i H2 ∧ ∀ x H3, J.yld i H2 x H3 → te (some x :: st) H3 fun y H4 => H4 D = some (.lst ys) ∧ ys.length < sizeLine ∧ ∃ m', m' < m ∧ W (i + 1) m' (ys ++ [y]) (upd H4 D (.lst (ys ++ [y]))))
noncomputable def tComp (wi : TI) (fr : List Nat) (te : TE) : TE := fun σ H Q => wi σ H fun J H1 => ∀ D, H1 D = none → CompGo J te (taken σ fr) D H1 Q
theorem compLoop_any {prog : Program} {w : World} {A : Around} {R : Result → Shared → Prop} {s : Shared} {elt tg iter : Expr} {scope : Scope} {pos : Pos} {it acc : Value} {env : Env} (Iv : Nat → Shared → Prop)
    (turn : ∀ k s, Iv k s → wpAny (model prog w) A (pyNext it) (fun r s1 => match r with
      | none => R (.ok .next) s1
      | some v => wpAny (model prog w) A (letOwnedTupleGo tg it v) (fun _ s2 => wpAny (model prog w) A (assign tg env v) (fun _ s3 => wpAny (model prog w) A (eval elt env) (fun y s4 =>
          wpAny (model prog w) A (call (.builtin "list.append") [acc, y]) (fun _ s5 => ∃ m, m < k ∧ Iv m s5) (fun _ _ => False) s4) (fun _ _ => False) s3) (fun _ _ => False) s2) (fun _ _ => False) s1) (fun _ _ => False) s)
    (k : Nat) (h : Iv k s) : codeAny (model prog w) A (.compLoop (.ListComp elt [⟨tg, iter, [], 0⟩] scope pos) 0 it acc env) R s := by
  refine codeAny_loop rfl Iv (fun k s hI => ?_) k h
  show wpAny _ _ ((compTurn (.ListComp elt [⟨tg, iter, [], 0⟩] scope pos) 0 it acc env).onRaise (fun e => do noteFrame e env; theTreesLotGoes e)) _ _ s
  refine wpAny_noted ?_
  rw [compTurn_list1]
  refine wpAny_bind (wpAny_standAt (wpAny_bind (wpAny_mono (turn k s hI) (fun r s1 h1 => ?_) fun _ _ f => f.elim)))
  cases r with
  | none => exact wpAny_pure h1
  | some v =>
    exact wpAny_bind (wpAny_mono h1 (fun _ s2 h2 => wpAny_bind (wpAny_mono h2 (fun _ s3 h3 => wpAny_bind (wpAny_bind (wpAny_mono h3 (fun y s4 h4 => wpAny_bind (wpAny_mono h4
      (fun _ s5 h5 => wpAny_pure (wpAny_pure ⟨rfl, h5⟩)) fun _ _ f => f.elim)) fun _ _ f => f.elim))) fun _ _ f => f.elim)) fun _ _ f => f.elim)
structure CompOk (X : Cx) (x : Str) (ts : List (Str × Nat)) (scope : Scope) (cl : List (Str × Addr)) : Prop where
  clos : closureFor scope X.env = pure cl
  sub : ∀ y c, cl.lookup y = some c → X.env.cells.lookup y = some c
  nocell : (scope.names.all fun p => p.2 != .cell) = true
  kind : scope.kind = .function
  locs : (scope.names.all fun p => p.2 != .local || scope.names.lookup p.1 == some .local) = true
  var : scope.names.lookup x = some .local
  nd : (x :: ts.map (·.1)).Nodup
  around : (ts.all fun p => decide (X.N[p.2]? = some p.1) && (X.env.kindOf p.1 == some .cell || X.env.kindOf p.1 == some .free) && (cl.lookup p.1).isSome &&
    ((relabel scope X.env).names.lookup p.1 == some .cell || (relabel scope X.env).names.lookup p.1 == some .free)) = true
  has : ((relabel scope X.env).names.all fun p => !(p.2 == .cell || p.2 == .free) || (cl.lookup p.1).isSome) = true
noncomputable abbrev nmsOf (x : Str) (ts : List (Str × Nat)) : List Str := x :: ts.map (·.1)
noncomputable abbrev sltOf (ts : List (Str × Nat)) : List Nat := ts.map (·.2)
theorem CompOk.nocell' {X : Cx} {x : Str} {ts : List (Str × Nat)} {scope : Scope} {cl : List (Str × Addr)} (O : CompOk X x ts scope cl) : ∀ y ∈ scope.names, y.2 ≠ .cell := fun y hy e => by
  have := List.all_eq_true.mp O.nocell y hy
  rw [e] at this
  cases this
theorem CompOk.locs' {X : Cx} {x : Str} {ts : List (Str × Nat)} {scope : Scope} {cl : List (Str × Addr)} (O : CompOk X x ts scope cl) : ∀ y ∈ scope.names, y.2 = .local → scope.names.lookup y.1 = some .local := fun y hy e => by
  have h := List.all_eq_true.mp O.locs y hy
  rw [e] at h
  rcases Bool.or_eq_true_iff.mp h with z | z
  · cases z
  · exact beq_iff_eq.mp z
theorem CompOk.from' {X : Cx} {x : Str} {ts : List (Str × Nat)} {scope : Scope} {cl : List (Str × Addr)} (O : CompOk X x ts scope cl) : ∀ (i : Nat) (y : Str), (nmsOf x ts)[i + 1]? = some y → ∃ j, (sltOf ts)[i]? = some j ∧ X.N[j]? = some y ∧ (X.env.kindOf y = some .cell ∨ X.env.kindOf y = some .free) ∧ (cl.lookup y).isSome = true ∧
    ((relabel scope X.env).names.lookup y = some .cell ∨ (relabel scope X.env).names.lookup y = some .free) := fun i y e => by
  have e1 : (ts.map (·.1))[i]? = some y := by simpa using e
  rw [List.getElem?_map] at e1
  cases q : ts[i]? with
  | none => rw [q] at e1; cases e1
  | some p =>
    rw [q] at e1
    have e2 : p.1 = y := Option.some.inj e1
    subst e2
    have h := List.all_eq_true.mp O.around p (List.mem_of_getElem? q)
    simp only [Bool.and_eq_true, Bool.or_eq_true, beq_iff_eq, decide_eq_true_eq] at h
    obtain ⟨⟨⟨h1, h2⟩, h3⟩, h4⟩ := h
    refine ⟨p.2, ?_, h1, h2, h3, h4⟩
    show (ts.map (·.2))[i]? = some p.2
    rw [List.getElem?_map, q] <;> rfl
theorem CompOk.has' {X : Cx} {x : Str} {ts : List (Str × Nat)} {scope : Scope} {cl : List (Str × Addr)} (O : CompOk X x ts scope cl) : ∀ y, ((relabel scope X.env).names.lookup y = some .cell ∨ (relabel scope X.env).names.lookup y = some .free) → (cl.lookup y).isSome = true := fun y h => by
  have go : ∀ k : NameKind, (k = .cell ∨ k = .free) → (relabel scope X.env).names.lookup y = some k → (cl.lookup y).isSome = true := fun k hk e => by
    have z := List.all_eq_true.mp O.has (y, k) (PySem.mem_of_lookup e)
    rcases Bool.or_eq_true_iff.mp z with z | z
    · rcases hk with e | e <;> (rw [e] at z; cases z)
    · exact z
  rcases h with h | h
  · exact go _ (.inl rfl) h
  · exact go _ (.inr rfl) h
section
variable {X : Cx} {elt iter : Expr} {x : Str} {px pos : Pos} {scope : Scope} {cl : List (Str × Addr)} {ts : List (Str × Nat)} {wi : TI} {te : TE}
theorem comp_ok {pins : List (Addr × Obj)} {σ : St} {H3 : Hp} {s3 : Shared} {fp : List Addr} (O : CompOk X x ts scope cl) (I3 : Inv X pins σ H3 s3) (hfp : ∀ b ∈ fp, FpOk X pins H3 b ∧ b < s3.heap.objs.size) :
    (cxComp X (nmsOf x ts) scope cl s3.heap.objs.size s3 H3 fp).Ok where
  mod := I3.ok.mod
  kind := O.kind
  glob := I3.ok.glob
  blt := I3.ok.blt
  above := Nat.le_refl _
  inj := fun y z c h1 h2 => I3.ok.inj y z c (O.sub y c h1) (O.sub z c h2)
  has := fun y h => Option.isSome_iff_exists.mp (O.has' y h)
  cab := fun y c h => by cases h
  hd := I3.ok.hd
  frames := I3.ok.frames
  stk := .inl rfl
  exf := fun b hb => ⟨Nat.ne_of_lt (hfp b hb).2, fun y c e => (hfp b hb).1.2.2.2.2.1 y c (O.sub y c e)⟩
  bs := fun b o e => I3.bs b o e
  bsz := Nat.le_trans I3.ok.bsz I3.sz
  noex := fun b o e hb => by
    rcases (hfp b hb).1.2.2.2.1 with z | z
    · exact I3.ok.noex b o e z
    · exact absurd (Nat.lt_of_lt_of_le (Heap.lt_size (I3.ok.bs b o e).1) z) (Nat.lt_irrefl _)
  exfs := fun b hb hz => by
    rcases List.mem_cons.mp (I3.stkSub b hz) with e | e
    · exact (hfp b hb).1.2.1 e
    · exact (hfp b hb).1.2.2.1 e
  funs := I3.stack
  frf := I3.stkFree
theorem comp_start {pins : List (Addr × Obj)} {σ : St} {H3 : Hp} {s3 : Shared} {fp : List Addr} {h1 : Heap} {tk : Nat} (O : CompOk X x ts scope cl) (I3 : Inv X pins σ H3 s3) (hfp : ∀ b ∈ fp, FpOk X pins H3 b ∧ b < s3.heap.objs.size)
    (hns : h1.Ns s3.heap.objs.size fun _ => none) (old : ∀ b o, s3.heap.get? b = some o → h1.get? b = some o) :
    Inv (cxComp X (nmsOf x ts) scope cl s3.heap.objs.size s3 H3 fp) [] (none :: taken σ (sltOf ts)) H3 { s3 with heap := h1, toks := tk } := by
  refine ⟨comp_ok O I3 hfp, rfl, I3.bare, Un.kept old, ⟨_, hns, fun i y v e1 e2 e3 => ?_⟩, fun y c e => ?_, I3.hok.fresh (Nat.le_refl _), fun y c e => I3.freeC y c (O.sub y c e), fun p hp => absurd (show p ∈ ([] : List (Addr × Obj)) from hp) (by simp), I3.hok.kept old, ?_⟩
  · cases i with
    | zero => simp at e2
    | succ i =>
      obtain ⟨j, hj, hN, hk, hcl, hk2⟩ := O.from' i y e1
      have e2' : σ[j]? = some (some v) := by
        have q : (taken σ (sltOf ts))[i]? = some (some v) := by simpa using e2
        unfold taken at q
        rw [List.getElem?_map, hj] at q
        have q' : (σ[j]?).getD none = some v := Option.some.inj q
        cases z : σ[j]? with
        | none => rw [z] at q'; cases q'
        | some w => rw [z] at q'; rw [show w = some v from q']
      obtain ⟨m, hn, hl⟩ := I3.loc
      have vis : Vis X.env.scope y := hk.elim (fun z => .inr (.inl z)) fun z => .inr (.inr z)
      obtain ⟨u, r, l⟩ := hl j y v hN e2' vis
      obtain ⟨c, hc⟩ := Option.isSome_iff_exists.mp hcl
      refine ⟨u, r, .inr ⟨hk2, c, hc, ?_⟩⟩
      rcases l with ⟨k, _⟩ | ⟨_, c', hc', z⟩
      · rcases hk with hk | hk
        · rw [k] at hk; cases hk
        · rw [k] at hk; cases hk
      · rw [O.sub y c hc] at hc'
        cases hc'
        obtain ⟨o, ho, hd⟩ := z
        exact ⟨o, old c o ho, hd⟩
  · obtain ⟨v, o, ho, hd⟩ := I3.cell y c (O.sub y c e)
    exact ⟨v, o, old c o ho, hd⟩
  · show (none :: taken σ (sltOf ts)).length = (nmsOf x ts).length
    simp [taken]
theorem pe_comp (hc : X.calm = true) (O : CompOk X x ts scope cl) (hi : PI X (.Name x px) iter wi) (he : ∀ C s3 H3 fp, PE (cxComp X (nmsOf x ts) scope cl C s3 H3 fp) elt te)
    (hs : ∀ x, foldedSetIterable iter X.env x = pure x := by intro _; rfl) : PE X (.ListComp elt [⟨.Name x px, iter, [], 0⟩] scope pos) (tComp wi (sltOf ts) te) := by
  intro pins s σ H Q I h
  rw [eval_ListComp]
  refine wpAny_comprehension_free (use := none) rfl hs O.clos O.kind O.locs' (thn (hi pins s σ H _ I h) fun v s1 h1 => thn h1 fun itv s2 h2 => ?_)
  obtain ⟨it, fp, tn, J, H2, rfl, I2, T, st2, f2, q⟩ := h2
  have hD : H2 s2.heap.objs.size = none := I2.hok.fresh (Nat.le_refl _)
  obtain ⟨W, ⟨m0, w0⟩, turn⟩ := q s2.heap.objs.size hD
  refine wpAny_newObj_type ?_
  have I3 : Inv X pins σ (upd H2 s2.heap.objs.size (.lst [])) { s2 with heap := s2.heap.push { cls := .type "list", dict := none, data := .seq ([] : List Value).toArray } } :=
    I2.laid (a := s2.heap.objs.size) (o := .lst []) (t' := s2.toks) (fun b u e => Heap.get?_push_of_some _ e) (Nat.le_refl _) ⟨Nat.zero_le _, [], 0, .nil, Heap.get?_push_size _ rfl⟩
  generalize hs3 : ({ s2 with heap := s2.heap.push { cls := .type "list", dict := none, data := .seq ([] : List Value).toArray } } : Shared) = s3 at I3
  have sz3 : s3.heap.objs.size = s2.heap.objs.size + 1 := by rw [← hs3, Heap.size_push]
  have old3 : ∀ b u, s2.heap.get? b = some u → s3.heap.get? b = some u := fun b u e => by rw [← hs3]; exact Heap.get?_push_of_some _ e
  generalize hH3 : upd H2 s2.heap.objs.size (.lst []) = H3 at I3 w0
  have H3D : H3 s2.heap.objs.size = some (.lst []) := by rw [← hH3]; exact upd_same
  have fp2 : ∀ b ∈ fp, b < s2.heap.objs.size := fun b hb => by
    obtain ⟨o, e, _⟩ := T.obj _ _ st2 b hb
    exact Heap.lt_size e
  have hfp : ∀ b ∈ fp, FpOk X pins H3 b ∧ b < s3.heap.objs.size := fun b hb => by
    refine ⟨⟨?_, (f2 b hb).2⟩, by rw [sz3]; exact Nat.lt_succ_of_lt (fp2 b hb)⟩
    rw [← hH3, upd_ne (Nat.ne_of_lt (fp2 b hb))]
    exact (f2 b hb).1
  refine wpAny_newFunctionEnv O.nocell' (by intro y hy; simp at hy) (fun h₁ hns₁ hsb₁ => ?_) O.kind
  have old : ∀ b o, s3.heap.get? b = some o → h₁.get? b = some o := fun b o e => hsb₁.extBut b o (Nat.ne_of_lt (Heap.lt_size e)) (Heap.get?_push_of_some _ e)
  have start : Inv (cxComp X (nmsOf x ts) scope cl s3.heap.objs.size s3 H3 fp) [] (none :: taken σ (sltOf ts)) H3 { s3 with heap := h₁, toks := s3.toks + 0 } := comp_start O I3 hfp hns₁ old
  have st4 : tn 0 h₁ := T.keep _ _ _ st2 fun b hb o e => old b o (old3 b o e)
  have okX : ∀ {H' : Hp}, (∀ b ∈ fp, H' b = none) → ∀ b ∈ fp, FpOk (cxComp X (nmsOf x ts) scope cl s3.heap.objs.size s3 H3 fp) [] H' b := fun hn b hb => by
    refine ⟨hn b hb, Nat.ne_of_lt (hfp b hb).2, fun z => ?_, .inl hb, fun y c e => (f2 b hb).2.2.2.2.1 y c (O.sub y c e), fun p hp => absurd (show p ∈ ([] : List (Addr × Obj)) from hp) (by simp)⟩
    rcases List.mem_cons.mp (I3.stkSub b z) with e | e
    · exact (f2 b hb).2.1 e
    · exact (f2 b hb).2.2.1 e
  have loop : ∀ s₄ : Shared, s₄ = { s3 with heap := h₁, toks := s3.toks + 0 } →
      codeAny (model X.prog X.w) X.A (.compLoop (.ListComp elt [⟨.Name x px, iter, [], 0⟩] scope pos) 0 (.ref it) (.ref s2.heap.objs.size) (compEnvC scope cl s3.heap.objs.size X.env))
        (compPost (model X.prog X.w) X.A X.xe none (EP X pins σ Q) (.ref s2.heap.objs.size) s3.heap.objs.size) s₄ := by
    rintro s₄ rfl
    refine compLoop_any (fun n s' => ∃ i ys σ0 H', Inv (cxComp X (nmsOf x ts) scope cl s3.heap.objs.size s3 H3 fp) [] (σ0 :: taken σ (sltOf ts)) H' s' ∧ tn i s'.heap ∧ (∀ b ∈ fp, H' b = none) ∧ W i n ys H') ?_ m0
      ⟨0, [], none, H3, start, st4, fun b hb => (hfp b hb).1.1, w0⟩
    rintro n s5 ⟨i, ys, σ0, H5, I5, st5, fr5, w5⟩
    rcases turn i n ys H5 w5 with ⟨stop, qn⟩ | ⟨go, step⟩
    · refine thn (T.done (cxComp X (nmsOf x ts) scope cl s3.heap.objs.size s3 H3 fp) rfl rfl rfl hc i [] s5 (σ0 :: taken σ (sltOf ts)) H5 _ I5 (okX fr5) st5 stop) fun r s6 ⟨hr, I6⟩ => ?_
      subst hr
      obtain ⟨m, hn, _⟩ := id I6.loc
      refine ⟨m, hn, fun h' sb => ?_⟩
      have u6 : Un (frs X.stack) fp H3 H5 s3.heap s6.heap := I6.base
      have neC : ∀ b o, s3.heap.get? b = some o → b ≠ s3.heap.objs.size := fun b o e => Nat.ne_of_lt (Heap.lt_size e)
      have un : Un (frs X.stack) fp H3 H5 s3.heap h' := ⟨fun b o e n1 hb hx => (sb.2 b (neC b o e)).trans (u6.keep b o e n1 hb hx), fun b o e n1 hb hx => by
          obtain ⟨sl, z⟩ := u6.slot b o e n1 hb hx
          exact ⟨sl, (sb.2 b (neC b o e)).trans z⟩, u6.free, fun b o e hx => by
          obtain ⟨o', z⟩ := u6.there b o e hx
          exact ⟨o', (sb.2 b (neC b o e)).trans z⟩, u6.tups, u6.frzs, u6.tbls⟩
      have hok : HOk X.prog X.w H5 h' := fun b u e => by
        refine (I6.hok b u e).stay (fun c v hc' z => (sb.2 c ?_).trans z) (fun _ z => z) fun _ _ z => z
        rintro rfl
        have fC : H5 s3.heap.objs.size = none := I6.free
        rcases hc' with z' | z'
        · rw [← z', fC] at e; cases e
        · rw [fC] at z'; cases z'
      refine ⟨.ref s2.heap.objs.size, H5, I3.call' (s' := { s6 with heap := h' }) (ch := fp) ?_ un hok I6.bare (fun b hb => ⟨(f2 b hb).2.2.2.1, (f2 b hb).2.1, (f2 b hb).2.2.2.2.1, (f2 b hb).2.2.2.2.2⟩), rfl, qn⟩
      exact I6.os
    · refine thn (T.item (cxComp X (nmsOf x ts) scope cl s3.heap.objs.size s3 H3 fp) rfl rfl rfl hc i [] s5 (σ0 :: taken σ (sltOf ts)) H5 _ I5 (okX fr5) st5 go) fun r s6 ⟨u, hr, h6⟩ => ?_
      subst hr
      refine thn h6 fun _ s7 ⟨z, H7, I7, rz, yz, st7, fr7⟩ => ?_
      have I7' := I7.pinned (okX fr7) (T.obj _ _ st7)
      have PG' : PG (cxComp X (nmsOf x ts) scope cl s3.heap.objs.size s3 H3 fp) (.Name x px) (gName 0) := pg_name (i := 0) O.nd rfl (.inl (lookup_relabel_local O.var)) (.inr (lookup_relabel_local O.var))
      refine thn (PG' _ s7 _ H7 z u (fun σ' H' => σ' = some z :: taken σ (sltOf ts) ∧ H' = H7) I7' rz ⟨rfl, rfl⟩) fun _ s8 ⟨σ8, H8, I8, e8, eh8⟩ => ?_
      subst e8 eh8
      refine thn (he s3.heap.objs.size s3 H3 fp _ s8 _ H8 _ I8 (step z H8 yz)) fun y s9 ⟨vy, H9, I9, ry, hD9, hl9, m', hm', w9⟩ => ?_
      refine thn (mt_append (X := cxComp X (nmsOf x ts) scope cl s3.heap.objs.size s3 H3 fp) _ s9 _ H9 (.ref s2.heap.objs.size) [vy] (.ref s2.heap.objs.size) [y] (fun _ H10 => H10 = upd H9 s2.heap.objs.size (.lst (ys ++ [vy]))) I9 rfl (.cons ry .nil) ⟨_, ys, vy, rfl, rfl, hD9, hl9, rfl⟩) fun _ s10 ⟨_, H10, I10, _, e10⟩ => ?_
      subst e10
      refine ⟨m', hm', i + 1, ys ++ [vy], some z, _, I10.unpinned, T.keep _ _ _ st7 fun b hb o e => (I10.pin (b, o) (List.mem_append_right _ (List.mem_append_right _ (mem_pinsAt hb e)))).1, fun b hb => ?_, w9⟩
      obtain ⟨o, e, d⟩ := T.obj _ _ st7 b hb
      exact (I10.pin (b, o) (List.mem_append_right _ (List.mem_append_right _ (mem_pinsAt hb e)))).2.1
  have hst := codeAny_compStart_list (loop _ rfl) (T.self X.A 0 _ _ _ st4 (loop _ rfl))
  exact hst
end
end L2
set_option maxHeartbeats 4000000
namespace L2
open PySem PySem.Spec PyProof.Rows
inductive Th where
  | non | bl (b : Bool) | int (i : Int) | str (x : Str) | lst (xs : List Th) | tup (xs : List Th) | emp | dic
mutual
noncomputable def Den (H : Hp) : Th → V → Prop
  | .non, v => v = .non
  | .bl b, v => v = .bl b
  | .int i, v => v = .int i
  | .str x, v => v = .str x
  | .lst ts, v => ∃ a xs, v = .ref a ∧ H a = some (.lst xs) ∧ Dens H ts xs
  | .tup ts, v => ∃ a xs, v = .ref a ∧ H a = some (.tup xs) ∧ Dens H ts xs
  | .emp, v => ∃ a, v = .ref a ∧ H a = some (.dK [])
  | .dic, v => ∃ a kvs, v = .ref a ∧ H a = some (.dK kvs)
noncomputable def Dens (H : Hp) : List Th → List V → Prop
  | [], xs => xs = []
  | t :: ts, xs => ∃ y ys, xs = y :: ys ∧ Den H t y ∧ Dens H ts ys
end
mutual
theorem Den.keep {H H' : Hp} (s : Same H H') : ∀ {t : Th} {v : V}, Den H t v → Den H' t v
  | .non, _, h => h
  | .bl _, _, h => h
  | .int _, _, h => h
  | .str _, _, h => h
  | .lst _, _, ⟨a, xs, e, h, d⟩ => ⟨a, xs, e, s _ _ h, Dens.keep s d⟩
  | .tup _, _, ⟨a, xs, e, h, d⟩ => ⟨a, xs, e, s _ _ h, Dens.keep s d⟩
  | .emp, _, ⟨a, e, h⟩ => ⟨a, e, s _ _ h⟩
  | .dic, _, ⟨a, k, e, h⟩ => ⟨a, k, e, s _ _ h⟩
theorem Dens.keep {H H' : Hp} (s : Same H H') : ∀ {ts : List Th} {xs : List V}, Dens H ts xs → Dens H' ts xs
  | [], _, h => h
  | _ :: _, _, ⟨y, ys, e, d, ds⟩ => ⟨y, ys, e, Den.keep s d, Dens.keep s ds⟩
end
theorem Dens.len {H : Hp} : ∀ {ts : List Th} {xs : List V}, Dens H ts xs → xs.length = ts.length
  | [], _, h => by rw [show _ = [] from h]; rfl
  | _ :: _, _, ⟨y, ys, e, d, ds⟩ => by rw [e, List.length_cons, List.length_cons, Dens.len ds]
theorem Dens.get {H : Hp} : ∀ {ts : List Th} {xs : List V} {i : Nat} {t : Th}, Dens H ts xs → ts[i]? = some t → ∃ v, xs[i]? = some v ∧ Den H t v
  | _ :: _, _, 0, t, ⟨y, ys, e, d, ds⟩, h => by
    rw [List.getElem?_cons_zero] at h
    cases h
    exact ⟨y, by rw [e]; rfl, d⟩
  | _ :: _, _, i + 1, t, ⟨y, ys, e, d, ds⟩, h => by
    rw [List.getElem?_cons_succ] at h
    obtain ⟨v, h1, h2⟩ := Dens.get ds h
    exact ⟨v, by rw [e, List.getElem?_cons_succ]; exact h1, h2⟩
noncomputable def tyTh : Th → Value
  | .non => .type "NoneType"
  | .bl _ => .type "bool"
  | .int _ => .type "int"
  | .str _ => .type "str"
  | .lst _ => .type "list"
  | .tup _ => .type "tuple"
  | .emp => .type "dict"
  | .dic => .type "dict"
theorem Den.ty {K : PySem.W.Frag} {H : Hp} : ∀ {t : Th} {v : V}, Den H t v → TyOf K H v (tyTh t)
  | .non, _, h => by cases (show _ = V.non from h); exact .non
  | .bl b, _, h => by cases (show _ = V.bl b from h); exact .bl b
  | .int i, _, h => by cases (show _ = V.int i from h); exact .int i
  | .str x, _, h => by cases (show _ = V.str x from h); exact .str x
  | .lst _, _, ⟨a, xs, e, h, _⟩ => by subst e; exact .lst h
  | .tup _, _, ⟨a, xs, e, h, _⟩ => by subst e; exact .tup h
  | .emp, _, ⟨a, e, h⟩ => by subst e; exact .dK h
  | .dic, _, ⟨a, k, e, h⟩ => by subst e; exact .dK h
noncomputable def isIntT : Th → Bool
  | .int _ => true
  | .bl _ => true
  | _ => false
noncomputable def isBoolT : Th → Bool
  | .bl _ => true
  | _ => false
theorem kit_int {K : PySem.W.Frag} (t : Th) : PySem.W.kitOne K (tyTh t) (.type "int") = some (isIntT t) := by cases t <;> rfl
theorem kit_bool {K : PySem.W.Frag} (t : Th) : PySem.W.kitOne K (tyTh t) (.type "bool") = some (isBoolT t) := by cases t <;> rfl
section
variable {X : Cx}
theorem call_isinstD : CallR X (.builtin "isinstance") (fun xs H Q => ∃ x t T b, xs = [x, .ty T] ∧ Den H t x ∧ PySem.W.kitOne X.K (tyTh t) (.type T) = some b ∧ Q (.bl b) H) := by
  intro pins s σ H xs us Q I r h
  obtain ⟨x, t, T, b, e, d, k, q⟩ := h
  exact call_isinst pins s σ H xs us Q I r ⟨x, tyTh t, T, b, e, d.ty, k, q⟩
theorem range_all_true (n : Nat) : ((List.range n).all fun _ => true) = true := List.all_eq_true.mpr fun _ _ => rfl
theorem dict_nil_any {P P' : Program} {w w' : World} {h : Heap} {a : Addr} (d : h.DictOf (mixKind P w) a []) : h.DictOf (mixKind P' w') a [] := by
  obtain ⟨o, es, ep, h1, h2, h3, h4, h5, h6⟩ := d
  have e : es = #[] := by
    have hl : es.toList.length = 0 := by
      have := h5.length
      simpa using this
    cases es with | mk l => cases l with
      | nil => rfl
      | cons x r => simp at hl
  subst e
  exact ⟨o, #[], ep, h1, h2, h3, (by intro z hz; simp at hz), .nil, List.nodup_nil⟩
mutual
noncomputable def depT : Th → Nat
  | .lst ts => depTs ts + 1
  | .tup ts => depTs ts + 1
  | .emp => 1
  | .dic => cLine + 1
  | .non | .bl _ | .int _ | .str _ => 0
noncomputable def depTs : List Th → Nat
  | [] => 0
  | t :: ts => max (depT t) (depTs ts)
end
theorem depTs_mem : ∀ {ts : List Th} {i : Nat} {t : Th}, ts[i]? = some t → depT t ≤ depTs ts
  | _ :: _, 0, _, h => by
    rw [List.getElem?_cons_zero] at h
    cases h
    exact Nat.le_max_left _ _
  | _ :: _, _ + 1, _, h => by
    rw [List.getElem?_cons_succ] at h
    exact Nat.le_trans (depTs_mem h) (Nat.le_max_right _ _)
theorem dens_at {H : Hp} {ts : List Th} {xs ys : List V} {us ws : List Value} (d1 : Dens H ts xs) (d2 : Dens H ts ys) (r1 : Vals xs us) (r2 : Vals ys ws) (j : Nat) (h1 : j < us.toArray.size) (h2 : j < ws.toArray.size) :
    ∃ t v1 v2, ts[j]? = some t ∧ Den H t v1 ∧ Den H t v2 ∧ RelV v1 us.toArray[j] ∧ RelV v2 ws.toArray[j] := by
  have hl : j < ts.length := by
    rw [← d1.len, r1.length]
    simpa using h1
  obtain ⟨v1, e1, q1⟩ := d1.get (List.getElem?_eq_getElem hl)
  obtain ⟨v2, e2, q2⟩ := d2.get (List.getElem?_eq_getElem hl)
  obtain ⟨u1, f1, g1⟩ := r1.get e1
  obtain ⟨u2, f2, g2⟩ := r2.get e2
  have k1 : us.toArray[j] = u1 := by
    have : us[j]? = some us.toArray[j] := by simp
    rw [this] at f1; exact Option.some.inj f1
  have k2 : ws.toArray[j] = u2 := by
    have : ws[j]? = some ws.toArray[j] := by simp
    rw [this] at f2; exact Option.some.inj f2
  exact ⟨ts[j], v1, v2, List.getElem?_eq_getElem hl, q1, q2, by rw [k1]; exact g1, by rw [k2]; exact g2⟩
theorem eqDen {P : Program} {w : World} {H : Hp} {s : Shared} (hok : HOk P w H s.heap) : ∀ (n : Nat) (A : Around) (t : Th) (v1 v2 : V) (u1 u2 : Value), depT t ≤ n → A.units + n < cLine → Den H t v1 → Den H t v2 → RelV v1 u1 → RelV v2 u2 → SeqAt.EqAt A s u1 u2 true
  | n, A, .non, v1, v2, u1, u2, _, _, d1, d2, r1, r2 => by
    cases (show v1 = V.non from d1); cases (show v2 = V.non from d2)
    cases (show u1 = Value.none from r1); cases (show u2 = Value.none from r2)
    exact SeqAt.EqAt.same _
  | n, A, .bl b, v1, v2, u1, u2, _, _, d1, d2, r1, r2 => by
    cases (show v1 = V.bl b from d1); cases (show v2 = V.bl b from d2)
    cases (show u1 = Value.bool b from r1); cases (show u2 = Value.bool b from r2)
    exact SeqAt.EqAt.same _
  | n, A, .int i, v1, v2, u1, u2, _, _, d1, d2, r1, r2 => by
    cases (show v1 = V.int i from d1); cases (show v2 = V.int i from d2)
    obtain ⟨k1, rfl⟩ := (show ∃ k, u1 = Value.int i k from r1)
    obtain ⟨k2, rfl⟩ := (show ∃ k, u2 = Value.int i k from r2)
    have h := SeqAt.EqAt.int_int (A := A) (s := s) i k1 i k2
    rw [beq_self_eq_true] at h
    exact h
  | n, A, .str x, v1, v2, u1, u2, _, _, d1, d2, r1, r2 => by
    cases (show v1 = V.str x from d1); cases (show v2 = V.str x from d2)
    obtain ⟨k1, rfl⟩ := (show ∃ k, u1 = Value.str x k from r1)
    obtain ⟨k2, rfl⟩ := (show ∃ k, u2 = Value.str x k from r2)
    have h := SeqAt.EqAt.str_str (A := A) (s := s) x k1 x k2
    rw [beq_self_eq_true] at h
    exact h
  | 0, A, .lst ts, v1, v2, u1, u2, hd, _, d1, d2, r1, r2 => absurd hd (by simp [depT])
  | 0, A, .tup ts, v1, v2, u1, u2, hd, _, d1, d2, r1, r2 => absurd hd (by simp [depT])
  | 0, A, .emp, v1, v2, u1, u2, hd, _, d1, d2, r1, r2 => absurd hd (by simp [depT])
  | 0, A, .dic, v1, v2, u1, u2, hd, _, d1, d2, r1, r2 => absurd hd (by simp [depT])
  | n + 1, A, .dic, v1, v2, u1, u2, hd, hu, d1, d2, r1, r2 => absurd (show cLine + 1 ≤ n + 1 from hd) (by omega)
  | n + 1, A, .lst ts, v1, v2, u1, u2, hd, hu, d1, d2, r1, r2 => by
    obtain ⟨a1, xs, rfl, h1, e1⟩ := d1
    obtain ⟨a2, ys, rfl, h2, e2⟩ := d2
    cases (show u1 = Value.ref a1 from r1); cases (show u2 = Value.ref a2 from r2)
    by_cases hne : a1 = a2
    · subst hne; exact SeqAt.EqAt.same _
    obtain ⟨_, us, n1, q1, g1⟩ := (show ObjOk P w H s.heap a1 (.lst xs) from hok a1 _ h1)
    obtain ⟨_, ws, n2, q2, g2⟩ := (show ObjOk P w H s.heap a2 (.lst ys) from hok a2 _ h2)
    have hsz : us.toArray.size = ws.toArray.size := by
      rw [List.size_toArray, List.size_toArray, ← q1.length, ← q2.length, e1.len, e2.len]
    have hd' : depTs ts + 1 ≤ n + 1 := hd
    have h := SeqAt.RcAt.lists (A := A) (s := s) (e := fun _ => true) (⟨_, g1, rfl, _, rfl⟩ : s.heap.IsList a1 us.toArray) (⟨_, g2, rfl, _, rfl⟩ : s.heap.IsList a2 ws.toArray) hsz (by omega) fun j j1 j2 => by
      obtain ⟨t, w1, w2, ht, p1, p2, s1, s2⟩ := dens_at e1 e2 q1 q2 j j1 j2
      exact eqDen hok n A.in1 t w1 w2 _ _ (by have := depTs_mem ht; omega) (by show A.units + 1 + n < cLine; omega) p1 p2 s1 s2
    rw [range_all_true] at h
    exact SeqAt.EqAt.of_refs hne h
  | n + 1, A, .tup ts, v1, v2, u1, u2, hd, hu, d1, d2, r1, r2 => by
    obtain ⟨a1, xs, rfl, h1, e1⟩ := d1
    obtain ⟨a2, ys, rfl, h2, e2⟩ := d2
    cases (show u1 = Value.ref a1 from r1); cases (show u2 = Value.ref a2 from r2)
    by_cases hne : a1 = a2
    · subst hne; exact SeqAt.EqAt.same _
    obtain ⟨_, us, q1, g1⟩ := (show ObjOk P w H s.heap a1 (.tup xs) from hok a1 _ h1)
    obtain ⟨_, ws, q2, g2⟩ := (show ObjOk P w H s.heap a2 (.tup ys) from hok a2 _ h2)
    have hsz : us.toArray.size = ws.toArray.size := by
      rw [List.size_toArray, List.size_toArray, ← q1.length, ← q2.length, e1.len, e2.len]
    have hd' : depTs ts + 1 ≤ n + 1 := hd
    have h := SeqAt.RcAt.tuples (A := A) (s := s) (e := fun _ => true) (show s.heap.IsTuple a1 us.toArray from g1) (show s.heap.IsTuple a2 ws.toArray from g2) (by omega) fun j j1 j2 => by
      obtain ⟨t, w1, w2, ht, p1, p2, s1, s2⟩ := dens_at e1 e2 q1 q2 j j1 j2
      exact eqDen hok n A.in1 t w1 w2 _ _ (by have := depTs_mem ht; omega) (by show A.units + 1 + n < cLine; omega) p1 p2 s1 s2
    rw [range_all_true, hsz, beq_self_eq_true, Bool.and_self] at h
    exact SeqAt.EqAt.of_refs hne h
  | n + 1, A, .emp, v1, v2, u1, u2, hd, hu, d1, d2, r1, r2 => by
    obtain ⟨a1, rfl, h1⟩ := d1
    obtain ⟨a2, rfl, h2⟩ := d2
    cases (show u1 = Value.ref a1 from r1); cases (show u2 = Value.ref a2 from r2)
    by_cases hne : a1 = a2
    · subst hne; exact SeqAt.EqAt.same _
    obtain ⟨_, m1, vs1, q1, g1⟩ := (show ObjOk P w H s.heap a1 (.dK []) from hok a1 _ h1)
    obtain ⟨_, m2, vs2, q2, g2⟩ := (show ObjOk P w H s.heap a2 (.dK []) from hok a2 _ h2)
    cases q1
    cases q2
    refine SeqAt.EqAt.of_refs hne fun prog w' E Q hq => ?_
    exact PySem.W.keq_eq (K := Key) (knd := mixKind prog w') (r := true) m1 m2 (dict_nil_any g1) (dict_nil_any g2) (by omega) (fun _ => .nil) hq
theorem op_neD (hu : X.A.units + 64 < cLine) : OpR X (compareOp .NotEq) (fun x y H Q => ∃ t, Den H t x ∧ Den H t y ∧ depT t ≤ 60 ∧ Q (.bl false) H) := by
  intro pins s σ H x y v u Q I rx ry h
  obtain ⟨t, d1, d2, hd, q⟩ := h
  have scal_case : scal x y = true → x = y → wpAny (model X.prog X.w) X.A (compareOp .NotEq v u) (EP X pins σ Q) X.xe s := fun h1 h2 =>
    op_ne pins s σ H x y v u Q I rx ry ⟨h1, by rw [decide_eq_true h2]; exact q⟩
  cases t with
  | non => cases (show x = V.non from d1); cases (show y = V.non from d2); exact scal_case rfl rfl
  | bl b => cases (show x = V.bl b from d1); cases (show y = V.bl b from d2); exact scal_case rfl rfl
  | int i => cases (show x = V.int i from d1); cases (show y = V.int i from d2); exact scal_case rfl rfl
  | str z => cases (show x = V.str z from d1); cases (show y = V.str z from d2); exact scal_case rfl rfl
  | lst ts =>
    obtain ⟨a1, xs, rfl, h1, e1⟩ := d1
    obtain ⟨a2, ys, rfl, h2, e2⟩ := d2
    cases (show v = Value.ref a1 from rx); cases (show u = Value.ref a2 from ry)
    obtain ⟨_, us, n1, q1, g1⟩ := (show ObjOk X.prog X.w H s.heap a1 (.lst xs) from I.hok a1 _ h1)
    obtain ⟨_, ws, n2, q2, g2⟩ := (show ObjOk X.prog X.w H s.heap a2 (.lst ys) from I.hok a2 _ h2)
    have hsz : us.toArray.size = ws.toArray.size := by
      rw [List.size_toArray, List.size_toArray, ← q1.length, ← q2.length, e1.len, e2.len]
    have hd' : depTs ts + 1 ≤ 60 := hd
    have h := SeqAt.RcNeAt.lists (A := X.A) (s := s) (e := fun _ => true) (⟨_, g1, rfl, _, rfl⟩ : s.heap.IsList a1 us.toArray) (⟨_, g2, rfl, _, rfl⟩ : s.heap.IsList a2 ws.toArray) hsz (by omega) fun j j1 j2 => by
      obtain ⟨t, w1, w2, ht, p1, p2, s1, s2⟩ := dens_at e1 e2 q1 q2 j j1 j2
      exact eqDen I.hok 60 X.A.in1 t w1 w2 _ _ (by have := depTs_mem ht; omega) (by show X.A.units + 1 + 60 < cLine; omega) p1 p2 s1 s2
    rw [range_all_true] at h
    exact h X.prog X.w _ _ ⟨.bl false, H, I, rfl, q⟩
  | tup ts =>
    obtain ⟨a1, xs, rfl, h1, e1⟩ := d1
    obtain ⟨a2, ys, rfl, h2, e2⟩ := d2
    cases (show v = Value.ref a1 from rx); cases (show u = Value.ref a2 from ry)
    obtain ⟨_, us, q1, g1⟩ := (show ObjOk X.prog X.w H s.heap a1 (.tup xs) from I.hok a1 _ h1)
    obtain ⟨_, ws, q2, g2⟩ := (show ObjOk X.prog X.w H s.heap a2 (.tup ys) from I.hok a2 _ h2)
    have hsz : us.toArray.size = ws.toArray.size := by
      rw [List.size_toArray, List.size_toArray, ← q1.length, ← q2.length, e1.len, e2.len]
    have hd' : depTs ts + 1 ≤ 60 := hd
    have h := SeqAt.RcNeAt.tuples (A := X.A) (s := s) (e := fun _ => true) (show s.heap.IsTuple a1 us.toArray from g1) (show s.heap.IsTuple a2 ws.toArray from g2) (by omega) fun j j1 j2 => by
      obtain ⟨t, w1, w2, ht, p1, p2, s1, s2⟩ := dens_at e1 e2 q1 q2 j j1 j2
      exact eqDen I.hok 60 X.A.in1 t w1 w2 _ _ (by have := depTs_mem ht; omega) (by show X.A.units + 1 + 60 < cLine; omega) p1 p2 s1 s2
    rw [range_all_true, hsz, beq_self_eq_true, Bool.and_self] at h
    exact h X.prog X.w _ _ ⟨.bl false, H, I, rfl, q⟩
  | emp =>
    obtain ⟨a1, rfl, h1⟩ := d1
    obtain ⟨a2, rfl, h2⟩ := d2
    cases (show v = Value.ref a1 from rx); cases (show u = Value.ref a2 from ry)
    obtain ⟨_, m1, vs1, q1, g1⟩ := (show ObjOk X.prog X.w H s.heap a1 (.dK []) from I.hok a1 _ h1)
    obtain ⟨_, m2, vs2, q2, g2⟩ := (show ObjOk X.prog X.w H s.heap a2 (.dK []) from I.hok a2 _ h2)
    cases q1
    cases q2
    exact PySem.W.keq_ne (K := Key) (knd := mixKind X.prog X.w) (r := true) m1 m2 g1 g2 (by omega) (fun _ => .nil) ⟨.bl false, H, I, rfl, q⟩
  | dic => exact absurd (show cLine + 1 ≤ 60 from hd) (by omega)
end
end L2
set_option maxHeartbeats 4000000
namespace L2
open PySem PySem.Spec PyProof.Rows
theorem ObjOk.there {P : Program} {w : World} {H : Hp} {h : Heap} {a : Addr} {o : HO} (k : ObjOk P w H h a o) : ∃ ob, h.get? a = some ob := by
  cases o with
  | lst _ => obtain ⟨_, _, _, _, e⟩ := k; exact ⟨_, e⟩
  | tup _ => obtain ⟨_, _, _, o, e, _⟩ := k; exact ⟨o, e⟩
  | dK _ => obtain ⟨_, _, _, _, o, _, _, e, _⟩ := k; exact ⟨o, e⟩
  | dT _ => obtain ⟨_, _, _, _, o, _, _, e, _⟩ := k; exact ⟨o, e⟩
  | set _ _ => obtain ⟨o, _, _, _, e, _⟩ := k; exact ⟨o, e⟩
  | ins _ _ _ => obtain ⟨_, _, _, e, _⟩ := k; exact ⟨_, e⟩
  | own _ => obtain ⟨o, e⟩ := k; exact ⟨o, e⟩
  | xd _ => obtain ⟨_, ⟨o, _, _, e, _⟩, _⟩ := k; exact ⟨o, e⟩
  | rng _ _ => obtain ⟨_, _, _, e⟩ := k; exact ⟨_, e⟩
  | frz _ _ => obtain ⟨e, _⟩ := k; exact ⟨_, e⟩
  | tbl _ => exact ⟨_, k⟩
  | met _ _ => exact ⟨_, k⟩
  | ext _ => obtain ⟨_, ⟨o, e⟩, _⟩ := k; exact ⟨o, e⟩
noncomputable def Fly (l : List Env) (h0 : Heap) (H' : Hp) (e : Addr) (cls : Value) (h : Heap) : Prop :=
  ∃ (B : Heap) (t : Addr), Heap.FlyingW B l e cls (.ref t) h ∧ h0.get? e = none ∧ H' e = none ∧
    ∀ b o, h.get? b = some o → ((∃ o', h0.get? b = some o') ∨ ∃ u, H' b = some u) → b ∉ frs l → B.get? b = some o
noncomputable def CXX (P : Program) (w : World) : CXT := fun outer H s E e s' =>
  ∃ a cls H', e = .ref a ∧ s'.os = s.os ∧ AllBare s'.gens ∧ Un (frs outer) [] H H' s.heap s'.heap ∧ HOk P w H' s'.heap ∧ Fly outer s.heap H' a cls s'.heap ∧ E cls none H'
theorem cxx_never {P : Program} {w : World} {H : Hp} {s : Shared} {e : Value} {s' : Shared} {l : List Env} (h : CXX P w l H s (fun _ _ _ => False) e s') : False := by
  obtain ⟨_, _, _, _, _, _, _, _, _, q⟩ := h
  exact q
theorem fly_keeps {P : Program} {w : World} {fs : List Addr} {l : List Env} {base B h0 h h5 : Heap} {H H' : Hp} (un : Un fs [] H H' h0 h) (hok : HOk P w H' h)
    (kB : ∀ b o, h.get? b = some o → ((∃ o', h0.get? b = some o') ∨ ∃ u, H' b = some u) → b ∉ frs l → B.get? b = some o)
    (ff : h.FunFrames base l) (hfs : ∀ b ∈ fs, b ∈ frs l) (hl : ∀ b ∈ frs l, b ∉ fs → h0.get? b = none) (hu : ∀ b ∈ frs l, H' b = none)
    (st : B.StaysIn h5) (up : h.UpToSlots h5) : Un fs [] H H' h0 h5 ∧ HOk P w H' h5 := by
  have kk : ∀ b o, h.get? b = some o → (∃ o', h0.get? b = some o') → b ∉ fs → h5.get? b = some o := fun b o e1 ⟨o', e0⟩ hb => by
    refine st b o (kB b o e1 (.inl ⟨o', e0⟩) fun z => ?_)
    rw [hl b z hb] at e0; cases e0
  have ks : ∀ b o, h.get? b = some o → b ∈ fs → ∃ sl, h5.get? b = some { o with slots := sl } := fun b o e1 hb => by
    obtain ⟨_, o2, e2, nf⟩ := ff.mem (hfs b hb)
    rw [e1] at e2; cases e2
    exact up b o e1 nf
  refine ⟨⟨fun b o e n hb hx => kk b o (un.keep b o e n hb hx) ⟨o, e⟩ hb, fun b o e n hb hx => ?_, un.free, fun b o e hx => ?_, un.tups, un.frzs, un.tbls⟩, fun a o e => ?_⟩
  · obtain ⟨s1, e1⟩ := un.slot b o e n hb hx
    obtain ⟨s2, e2⟩ := ks b _ e1 hb
    exact ⟨s2, e2⟩
  · obtain ⟨o', e1⟩ := un.there b o e hx
    by_cases hb : b ∈ fs
    · obtain ⟨s2, e2⟩ := ks b _ e1 hb
      exact ⟨_, e2⟩
    · exact ⟨o', kk b o' e1 ⟨o, e⟩ hb⟩
  · have tr : ∀ b u v, H' b = some u → h.get? b = some v → h5.get? b = some v := fun b u v q e1 => st b v (kB b v e1 (.inr ⟨u, q⟩) fun z => by rw [hu b z] at q; cases q)
    refine (hok a o e).stay (fun b v hb q => ?_) (fun _ q => q) fun _ _ q => q
    rcases hb with z | z
    · subst z; exact tr b o v e q
    · exact tr b _ v z q
structure DefCx (X : Cx) : Prop where
  st : X.stack = X.env :: X.outer
  fr : X.env.frame = some X.env.locals
  ex : X.ex = []
section
variable {X : Cx} {pins : List (Addr × Obj)} {σ : St} {H : Hp} {s : Shared} {E : XK} {M : Model}
theorem Inv.gone (I : Inv X pins σ H s) (dx : DefCx X) {e : Addr} (n : s.heap.get? e = none) : X.s₀.heap.get? e = none ∧ H e = none := by
  constructor
  · cases q : X.s₀.heap.get? e with
    | none => rfl
    | some o =>
      obtain ⟨o', z⟩ := I.base.there e o q (by rw [dx.ex]; simp)
      rw [n] at z; cases z
  · cases q : H e with
    | none => rfl
    | some u =>
      obtain ⟨o', z⟩ := (I.hok e u q).there
      rw [n] at z; cases z
theorem Inv.notMine (I : Inv X pins σ H s) {b : Addr} {o : Obj} (e : X.s₀.heap.get? b = some o) : b ≠ X.env.locals := Nat.ne_of_lt (Nat.lt_of_lt_of_le (Heap.lt_size e) I.ok.above)
theorem fly_out (dx : DefCx X) (I : Inv X pins σ H s) {B h' : Heap} {e t : Addr} {cls : Value}
    (kB : ∀ b o, s.heap.get? b = some o → ((∃ o', X.s₀.heap.get? b = some o') ∨ ∃ u, H b = some u) → b ∉ frs X.stack → B.get? b = some o)
    (fw : Heap.FlyingW B X.outer e cls (.ref t) h') (up : s.heap.UpToSlots h') (ne : X.s₀.heap.get? e = none) (hn : H e = none) (q : E cls none H) :
    CXX X.prog X.w X.outer X.H₀ X.s₀ E (.ref e) { s with heap := h' } := by
  have un0 : Un X.fs [] X.H₀ H X.s₀.heap s.heap := by have := I.base; rw [dx.ex] at this; exact this
  have sub : ∀ b ∈ X.fs, b ∈ frs X.stack := fun b hb => by
    rw [dx.st]; unfold frs; rw [List.filterMap_cons, dx.fr]; exact List.mem_cons_of_mem _ hb
  have hl : ∀ b ∈ frs X.stack, b ∉ X.fs → X.s₀.heap.get? b = none := fun b hb hn => by
    rcases List.mem_cons.mp (I.stkSub b hb) with z | z
    · cases q : X.s₀.heap.get? b with
      | none => rfl
      | some o => exact absurd z (I.notMine q)
    · exact absurd z hn
  obtain ⟨un, hok⟩ := fly_keeps (h5 := h') un0 I.hok kB I.stack sub hl I.stkFree fw.1 up
  refine ⟨e, cls, H, rfl, I.os, I.bare, un, hok, ⟨B, t, fw, ne, hn, fun b o e1 hz hb => ?_⟩, q⟩
  have there : ∃ o2, s.heap.get? b = some o2 := by
    rcases hz with ⟨o', z⟩ | ⟨u, z⟩
    · exact un0.there b o' z (by simp)
    · exact (I.hok b u z).there
  have nst : b ∉ frs X.stack := fun z => by
    rcases List.mem_cons.mp (I.stkSub b z) with y | y
    · rcases hz with ⟨o', q⟩ | ⟨u, q⟩
      · exact I.notMine q y
      · rw [I.stkFree b z] at q; cases q
    · exact hb y
  obtain ⟨o2, e2⟩ := there
  have e3 := kB b o2 e2 hz nst
  have e4 := fw.1 b o2 e3
  have e1' : h'.get? b = some o := e1
  rw [e1'] at e4
  cases e4
  exact e3
theorem leave_made (dx : DefCx X) (I : Inv X pins σ H s) {h1 : Heap} {e : Addr} {cls : Value} {args : List Value} (mk : Heap.MadeExcOf s.heap h1 e cls args) (q : E cls none H) {E' : Value → Shared → Prop} :
    wpAny M X.A (leaving X.env (.ref e)) (fun _ s2 => CXX X.prog X.w X.outer X.H₀ X.s₀ E (.ref e) s2) E' { s with heap := h1 } := by
  have hin : ∀ env ∈ X.stack, ∀ b, env.frame = some b → b ∈ frs X.stack := fun env he b hb => List.mem_filterMap.mpr ⟨env, he, hb⟩
  have ff := PySem.W.funFrames_hide I.stack hin
  rw [dx.st] at ff
  obtain ⟨n1, n2⟩ := I.gone dx mk.new
  refine wpAny_leaves_madeW (base := PySem.W.hideAll s.heap (frs (X.env :: X.outer))) (h := s.heap) (by rw [I.ok.frames, dx.st]) dx.fr (fun b o z => PySem.W.of_hideAll _ z) ff mk fun h' t x1 _ _ x4 => ?_
  exact fly_out dx I (fun b o e1 _ hb => PySem.W.hideAll_get _ e1 (by rw [← dx.st]; exact hb)) x1 ((Heap.UpToSlots.of_keeps mk.keeps).trans x4) n1 n2 q
end
end L2
set_option maxHeartbeats 4000000
namespace L2
open PySem PySem.Spec PyProof.Rows
abbrev vbm : List Value := [.type "ValueError", .type "Exception", .type "BaseException", .type "object"]
theorem cls_of {K : PySem.W.Frag} {h : Heap} {C : Addr} {nid : String} {bmB : List Value} (kin : K.In h) (z : PySem.W.excIn K C bmB nid = true) :
    ∃ (tl : List Value) (N : Addr) (nm qn : Str) (bs : List Value) (hd : Bool) (sn : List Str) (su : List Value) (ab : Bool) (co : Option Bool) (dd : Option Addr) (k0 k1 k2 k3 k5 : Option Value) (mN : Str → Option Value),
      h.get? C = some (excClassObj nm qn C N bs tl hd sn su ab co dd k0 k1 k2 k3 k5 nid) ∧ h.Ns N mN ∧ mN "__init__" = none ∧ OwnTail h bmB tl := by
  unfold PySem.W.excIn at z
  split at z
  · rename_i d0 c0 slt lk
    split at z
    · rename_i C2 tl a0 a1 a2 a3 nn a5 em es
      simp only [Bool.and_eq_true, beq_iff_eq, Bool.not_eq_true'] at z
      obtain ⟨⟨⟨⟨⟨y1, y2⟩, y3⟩, y4⟩, y5⟩, y6⟩ := z
      subst y1 y2
      obtain ⟨nm, bs, mr, ns, qn, hd, sn, su, ab, co, de⟩ := c0
      dsimp only at em y3 y5 y6
      subst em y3
      have sz : slt = #[a0, a1, a2, a3, some (.builtin nn), a5] := by
        cases slt with | mk l => exact congrArg Array.mk es
      subst sz
      exact ⟨tl, ns, nm, qn, bs, hd, sn, su, ab, co, d0, a0, a1, a2, a3, a5, _, kin _ _ lk, .of_isNs (PySem.W.isNs_of_in kin y5), PySem.W.nsMap_none_of_in kin y5 y6, PySem.W.tail_of_in kin y4⟩
    · cases z
  · cases z
structure XCls (K : PySem.W.Frag) (mg : Str → Option Value) (x : Str) (C : Addr) : Prop where
  at_ : mg x = some (.ref C)
  ok : PySem.W.excIn K C vbm "ValueError.__new__" = true
section
variable {X : Cx} {E : XK} {x : Str} {C : Addr} {np cpos pos : Pos} {e : Expr} {es : List Expr} {t : TA}
noncomputable def Reach (X : Cx) (E : XK) : Prop := ∀ (pins : List (Addr × Obj)) (σ : St) (H : Hp) (s : Shared) (h1 : Heap) (e : Addr) (cls : Value) (args : List Value), Inv X pins σ H s → Heap.MadeExcOf s.heap h1 e cls args → E cls none H → X.xe (.ref e) { s with heap := h1 }
noncomputable def tRaise (C : Addr) (E : XK) (t : TA) : TS := fun _ σ H => t σ H fun vs H1 => vs.length ≤ sizeLine ∧ E (.ref C) none H1
theorem ps_raise (hr : Reach X E) (hc : X.calm = true) (xc : XCls X.K X.mg x C) (hg : Gl X x) (ha : PA X (e :: es) t)
    (hdb : (x == ("__debug__" : Str)) = false := by decide) (he : starEach (e :: es) X.env = (false, eval e X.env) :: starEach es X.env := by rfl) (hpl : (backTo cpos (starEach es X.env)).any (·.1) = false := by rfl) :
    PS X (.Raise (some (.Call (.Name x np) (e :: es) [] cpos)) none pos) (tRaise C E t) := by
  intro pins s σ H D I h
  obtain ⟨tl, N, nm, qn, bs, hd, sn, su, ab, co, dd, k0, k1, k2, k3, k5, mN, hC, hN, hni, T⟩ := cls_of I.mod.kin xc.ok
  refine wpAny_Raise_call_subT (C := C) (nm := nm) (q := qn) (N := N) (bs := bs) (bm := tl) (hdct := hd) (sn := sn) (sub := su) (ab := ab) (col := co) (dd := dd) (k0 := k0) (k1 := k1) (k2 := k2) (k3 := k3) (k5 := k5)
    PySem.F.excBase_ValueError (mN := mN) (T.hasType PySem.F.excBase_ValueError.hasBase) (I.ok.hd hc) (by rw [he]; show (false || _) = false; exact hpl) hni (ld_glob I hg xc.at_ ⟨rfl, ?_⟩ hdb)
  have h2 := ha cpos pins s σ H _ I h
  rw [he] at h2 ⊢
  exact Calls.evalArgs_plain (wpAny_mono h2 (fun us s2 ⟨vs, H1, I1, rv, hl, q⟩ => ⟨rfl, by rw [← rv.length]; exact hl, I1.bk _ _ hC, hN.keeps I1.bk, T.keeps I1.bk, fun h' e mk => hr pins σ H1 s2 h' e _ us I1 mk q⟩) fun _ _ y => y)
end
section
variable {P : Program} {w : World} {K : PySem.W.Frag} {mg : Str → Option Value} {base : Heap} {N : List Str} {qual : Str} {scope : Scope} {f : Addr} {cd : Value} {A : Around} {outer : List Env} {s : Shared} {H : Hp} {E : XK}
theorem dxOf {CX : CXT} : DefCx (cxOf CX P w K mg base N qual scope f cd A outer s H E) := ⟨rfl, rfl, rfl⟩
theorem reachOf : Reach (cxOf (CXX P w) P w K mg base N qual scope f cd A outer s H E) E := fun _ _ _ _ _ _ _ _ I mk q => leave_made dxOf I mk q
theorem Fun.okX {x : Str} {st : Stmt} {fd : FuncData} {ps : List Str} {k : Nat} {sp : Sp} (F : Fun K x qual st f fd) (S : FnScope N ps (defScope st)) (len : ∀ vs H Q E, sp vs H Q E → vs.length = ps.length)
    (hbody : ∀ (cdv : Value) (A : Around) (outer : List Env) (s : Shared) (H : Hp) (vs : List V) (Q : VK) (E : XK), Room k (A.deeper (envOfC qual (defScope st) s.heap.objs.size f cdv)) → sp vs H Q E →
      ∃ t, PSs (cxOf (CXX P w) P w K mg base N qual (defScope st) f cdv A outer s H E) (defBody st) t ∧ t { nx := fun _ H' => Q .non H', rt := Q } (start N vs) H) : FnOk P w K mg base (CXX P w) (k + 1) f fd ps sp := by
  obtain ⟨oc, od, kV, doc, pm, an, cdv, ct, osl, rfl, lk, hcd⟩ := F.ex
  exact fn_of lk hcd S len fun A outer s H vs Q E hr hsp => hbody cdv A outer s H vs Q E hr hsp
end
theorem FnOk.calm {P : Program} {w : World} {K : PySem.W.Frag} {mg : Str → Option Value} {base : Heap} {CX : CXT} {k : Nat} {f : Addr} {fd : FuncData} {ps : List Str} {sp : Sp} (F : FnOk P w K mg base CX0 k f fd ps sp) : FnOk P w K mg base CX k f fd ps sp :=
  ⟨F.len, fun A outer s H args us vs Q E hr he hb hv hs => codeAny_mono (F.run A outer s H args us vs Q E hr he hb hv hs) fun r s' h => by
    cases r with
    | ok fl => cases fl <;> exact h
    | error e => exact False.elim h⟩
section
variable {X : Cx}
theorem PS.nox {st : Stmt} {t : TS} (h : PS X.nox st t) : PS X st t := fun pins s σ H D I hw =>
  wpAny_mono (h pins s σ H D (I.wish _) hw) (fun _ _ q => q.unwish) fun _ _ z => z.elim
end
end L2
set_option maxHeartbeats 4000000
namespace L2
open PySem PySem.Spec PyProof.Rows
section
variable {X : Cx} {pins pins' : List (Addr × Obj)} {σ : St} {H : Hp} {s : Shared} {xe : Value → Shared → Prop} {e : Addr} {oe : Obj}
end
section
variable {X : Cx} {CX : CXT} {k : Nat} {f : Addr} {fd : FuncData} {ps : List Str} {sp : Sp} {dvs : List V} {ds : List Value} {E : St → XK} {x : Str} {p pos : Pos} {e : Expr} {es : List Expr} {t : TA}
end
structure Catch (K : PySem.W.Frag) (CS : Addr) : Prop where
  ty : PySem.W.typeIn K (.ref CS) = some (.type "type")
  isc : PySem.W.isClsIn K CS = true
  base : PySem.W.subIn K (.ref CS) (.type "BaseException") = some true
end L2
set_option maxHeartbeats 4000000
namespace L2
open PySem PySem.Spec PyProof.Rows
noncomputable def Bg (i : Int) : Prop := Builtin.Int.intBits i ≤ 1048576
theorem Bg.le {i j : Int} (h : Bg i) (hj : j.natAbs ≤ i.natAbs) : Bg j := intBits_le_iff.mpr (Nat.lt_of_le_of_lt hj (intBits_le_iff.mp h))
theorem Bg.pow {i : Int} (h : Bg i) {j : Int} (h0 : 0 ≤ j) (h1 : j ≤ 127) : 0 ≤ j ∧ (Builtin.Int.intBits i : Int) * j ≤ 2 ^ 27 := by
  refine ⟨h0, ?_⟩
  have h' : (Builtin.Int.intBits i : Int) ≤ 1048576 := by unfold Bg at h; omega
  have := Int.mul_le_mul h' h1 h0 (by decide)
  have e : (1048576 : Int) * 127 ≤ 2 ^ 27 := by decide
  omega
theorem Bg.zero : Bg 0 := by unfold Bg Builtin.Int.intBits; decide
open PySem.W in
theorem bg_of_lay {ns : List Int} (h : WData.layableAll [WData.list (ns.map WData.int)] = true) : ∀ i ∈ ns, Bg i := fun i hi => by
  have h1 := layableW_arg h _ (List.mem_singleton.mpr rfl)
  have h2 := layableW_item h1 (.int i) (List.mem_map.mpr ⟨i, hi, rfl⟩)
  have h3 := (layableW_iff.mp h2).2.2
  exact h3
open PySem.W in
theorem attachB {l : OpenLaw} {n : Nat} {q : Program} {loose : List Str} {XP : (Str → Option Value) → Heap → Prop} {YP : World → Heap → Prop} {d : DefRec}
    (hn : l.most = some n) (hdf : d.params.defaults = [])
    (run : ∀ (w : World) (s0 s1 : Shared) (mg mb : Str → Option Value) (fa : Addr) (o : Obj) (pm cd doc : Value) (a : Addr) (vs : List Value) (ns : List Int),
      Ground q loose [] XP w s0 mg mb s1.heap → YP w s1.heap →
      s1.heap.get? fa = some o → o.data = .func (Calls.docDef d.name d.params d.body d.scope pm cd doc) → s1.heap.CodeRec cd d.name → mg d.name = some (.ref fa) →
      s1.heap.get? a = some { cls := .type "list", data := .seq vs.toArray } → IntsAre vs ns → ns.length ≤ n → (∀ i ∈ ns, Bg i) → s1.gens = #[] →
      codeAny (model l.prog w) callerA (.call (.ref fa) ⟨[.ref a], []⟩) (fun r s' => r = .ok (.ret (.bool true)) ∧ OldK s1.heap s'.heap ∧ s'.os = s1.os ∧ AllBare s'.gens) s1) :
    WalkO q loose XP YP l.row.toRowW d [] (fun f vs => PySem.call f vs) := by
  intro w s0 s1 mg mb G Y fa o pm cd doc dV kV ho hd hcd hD hmg hg args vals as hpre hlay hrd hwl hlo
  obtain rfl : dV = .none := Dflts.none hD hdf
  obtain rfl : kV = .none := Dflts.noKw hD
  obtain ⟨a, vs, ns, rfl, rfl, hobj, hints, hlen⟩ := Att.script_of hn hpre hwl
  have hbg := bg_of_lay hlay
  refine enter_call (codeAny_mono (run w s0 s1 mg mb fa o pm cd doc a vs ns G Y ho (fd_plain hd) hcd hmg hobj hints hlen hbg hg) fun r s' hq => ?_)
  obtain ⟨e1, h2, h3, h4⟩ := hq
  subst e1
  exact ⟨.inl ⟨.bool true, .bool true, [], rfl, fun _ => rfl, .bool true, Att.post_true l _, fun _ => ⟨List.Pairwise.nil, fun _ hm => (nomatch hm)⟩⟩, h2, h3, h4⟩
theorem walk_ofB {l : PySem.W.OpenLaw} {n k : Nat} {q : Program} {loose : List Str} {XP : (Str → Option Value) → Heap → Prop} {YP : World → Heap → Prop} {d : DefRec} {K : Params → PySem.W.Frag} {CX : World → CXT} {sp : World → Sp} {x : Str}
    (hn : l.most = some n) (hn2 : n ≤ sizeLine) (hdf : d.params.defaults = []) (hr : Room k callerA)
    (hY : ∀ (w : World) (h : Heap), YP w h → (K w.params).In h)
    (F : ∀ (w : World) (mg : Str → Option Value) (fa : Addr) (h : Heap), (K w.params).In h → h.Ns mainGlobals mg → mg d.name = some (.ref fa) →
      ∃ fd : FuncData, (∀ (s : Shared) (u : Value), BindsTo s fd ⟨[u], []⟩ [(x, u)]) ∧
        ∀ base : Heap, (K w.params).In base → base.Ns mainGlobals mg → FnOk l.prog w (K w.params) mg base (CX w) k fa fd [x] (sp w))
    (hsp : ∀ (w : World) (H : Hp) (a : Addr) (ns : List Int), ns.length ≤ n → (∀ i ∈ ns, Bg i) → Only H → SqL (K w.params) H a (ns.map V.int) → sp w [.ref a] H (fun v _ => v = .bl true) fun _ _ _ => False)
    (hCX : ∀ (w : World) (H : Hp) (s : Shared) (e : Value) (s' : Shared), CX w [] H s (fun _ _ _ => False) e s' → False) :
    PySem.W.WalkO q loose XP YP l.row.toRowW d [] (fun f vs => PySem.call f vs) := by
  refine attachB hn hdf fun w s0 s1 mg mb fa o pm cd doc a vs ns G Y ho hd hcd hmg hobj hints hlen hbg hg => ?_
  have KX := hY w _ Y
  obtain ⟨fd, hb, hF⟩ := F w mg fa _ KX G.T.g hmg
  exact law_call KX G.T.g G.T.b G.T.builtins G.T.nolimit hg hobj hints (Nat.le_trans hlen hn2) hr hF hb (fun H hO hS => hsp w H a ns hlen hbg hO hS) fun H e s' => hCX w H s1 e s'
theorem Inv.big {X : Cx} {pins : List (Addr × Obj)} {σ : St} {H : Hp} {s : Shared} (I : Inv X pins σ H s) : sysModules < s.heap.objs.size := by
  have h : mainGlobals < s.heap.objs.size := (I.mod.glob.keeps I.bk).lt
  exact Nat.lt_trans (by decide) h
theorem dk_empty {P : Program} {w : World} {H : Hp} (h : Heap) (hb : sysModules < h.objs.size) : ObjOk P w H (h.push { cls := .type "dict", data := .dict #[] }) h.objs.size (.dK []) :=
  ⟨Nat.zero_le _, beq_eq_false_iff_ne.mpr (Ne.symm (Nat.ne_of_lt hb)), [], .nil, Heap.DictOf.new h⟩
noncomputable def tDNewK : TE := fun _ H Q => ∀ p, H p = none → Q (.ref p) (upd H p (.dK []))
theorem pe_dnewK {X : Cx} {pos : Pos} : PE X (.Dict [] [] pos) tDNewK := fun pins s σ H Q I h =>
  wpAny_Dict_empty ⟨.ref s.heap.objs.size, _, I.laid (a := s.heap.objs.size) (o := .dK []) (t' := s.toks) (fun _ _ q => Heap.get?_push_of_some _ q) (Nat.le_refl _) (dk_empty s.heap I.big), rfl, h _ (I.hok.fresh (Nat.le_refl _))⟩
theorem Dens.at {H : Hp} {ts : List Th} {xs : List V} {i : Int} (d : Th) (h : Dens H ts xs) (h0 : 0 ≤ i) (h1 : i < (ts.length : Int)) : ∃ v, atI xs i = some v ∧ Den H (ts.getD i.toNat d) v := by
  have hk : i.toNat < ts.length := by omega
  have ek : i = ((i.toNat : Nat) : Int) := by omega
  obtain ⟨v, e, q⟩ := h.get (List.getElem?_eq_getElem hk)
  have z := atI_nat e
  rw [← ek] at z
  refine ⟨v, z, ?_⟩
  rw [getD_in hk]; exact q
end L2
set_option maxHeartbeats 4000000
namespace L2
open PySem PySem.Spec PyProof.Rows
section
variable {prog : Program} {w : World} {A : Around} {E : Value → Shared → Prop}
end
end L2
set_option maxHeartbeats 4000000
namespace L2
open PySem PySem.Spec PySem.W PyProof.Rows Builtin Builtin.ObjectAttr Builtin.Getset_descriptor
structure XInst (K : Frag) (C : Addr) : Prop where
  ga : findIn K (.ref C) "__getattribute__" = some (some (.builtin "BaseException.__getattribute__"))
  gt : findIn K (.ref C) "__getattr__" = some none
  cl : findIn K (.ref C) "__class__" = some (some (.builtin "object.__class__"))
  sg : specialIn K (.builtin "object.__class__") "__get__" = some (some (.builtin "getset_descriptor.__get__"))
  tk : takesIn K (.builtin "object.__class__") = some true
  ob : mroIn K C (.type "object") = some true
  be : mroIn K C (.type "BaseException") = some true
  ok : isClsIn K C = true
section
variable {prog : Program} {w : World} {A : Around} {E : Value → Shared → Prop} {K : Frag} {a C : Addr} {oe : Obj} {h : Heap} {g : Array GenState} {d : Drawn} {t : Nat} {os : OsState}
end
section
variable {X : Cx} {e : Addr} {oe : Obj}
theorem op_eqD (hu : X.A.units + 64 < cLine) : OpR X (compareOp .Eq) (fun x y H Q => ∃ t, Den H t x ∧ Den H t y ∧ depT t ≤ 60 ∧ Q (.bl true) H) := by
  intro pins s σ H x y v u Q I rx ry h
  obtain ⟨t, d1, d2, hd, q⟩ := h
  have scal_case : scal x y = true → x = y → wpAny (model X.prog X.w) X.A (compareOp .Eq v u) (EP X pins σ Q) X.xe s := fun h1 h2 =>
    op_eq pins s σ H x y v u Q I rx ry ⟨h1, by rw [decide_eq_true h2]; exact q⟩
  cases t with
  | non => cases (show x = V.non from d1); cases (show y = V.non from d2); exact scal_case rfl rfl
  | bl b => cases (show x = V.bl b from d1); cases (show y = V.bl b from d2); exact scal_case rfl rfl
  | int i => cases (show x = V.int i from d1); cases (show y = V.int i from d2); exact scal_case rfl rfl
  | str z => cases (show x = V.str z from d1); cases (show y = V.str z from d2); exact scal_case rfl rfl
  | lst ts =>
    obtain ⟨a1, xs, rfl, h1, e1⟩ := d1
    obtain ⟨a2, ys, rfl, h2, e2⟩ := d2
    cases (show v = Value.ref a1 from rx); cases (show u = Value.ref a2 from ry)
    obtain ⟨_, us, n1, q1, g1⟩ := (show ObjOk X.prog X.w H s.heap a1 (.lst xs) from I.hok a1 _ h1)
    obtain ⟨_, ws, n2, q2, g2⟩ := (show ObjOk X.prog X.w H s.heap a2 (.lst ys) from I.hok a2 _ h2)
    have hsz : us.toArray.size = ws.toArray.size := by
      rw [List.size_toArray, List.size_toArray, ← q1.length, ← q2.length, e1.len, e2.len]
    have hd' : depTs ts + 1 ≤ 60 := hd
    have h := SeqAt.RcAt.lists (A := X.A) (s := s) (e := fun _ => true) (⟨_, g1, rfl, _, rfl⟩ : s.heap.IsList a1 us.toArray) (⟨_, g2, rfl, _, rfl⟩ : s.heap.IsList a2 ws.toArray) hsz (by omega) fun j j1 j2 => by
      obtain ⟨t, w1, w2, ht, p1, p2, s1, s2⟩ := dens_at e1 e2 q1 q2 j j1 j2
      exact eqDen I.hok 60 X.A.in1 t w1 w2 _ _ (by have := depTs_mem ht; omega) (by show X.A.units + 1 + 60 < cLine; omega) p1 p2 s1 s2
    rw [range_all_true] at h
    exact h X.prog X.w _ _ ⟨.bl true, H, I, rfl, q⟩
  | tup ts =>
    obtain ⟨a1, xs, rfl, h1, e1⟩ := d1
    obtain ⟨a2, ys, rfl, h2, e2⟩ := d2
    cases (show v = Value.ref a1 from rx); cases (show u = Value.ref a2 from ry)
    obtain ⟨_, us, q1, g1⟩ := (show ObjOk X.prog X.w H s.heap a1 (.tup xs) from I.hok a1 _ h1)
    obtain ⟨_, ws, q2, g2⟩ := (show ObjOk X.prog X.w H s.heap a2 (.tup ys) from I.hok a2 _ h2)
    have hsz : us.toArray.size = ws.toArray.size := by
      rw [List.size_toArray, List.size_toArray, ← q1.length, ← q2.length, e1.len, e2.len]
    have hd' : depTs ts + 1 ≤ 60 := hd
    have h := SeqAt.RcAt.tuples (A := X.A) (s := s) (e := fun _ => true) (show s.heap.IsTuple a1 us.toArray from g1) (show s.heap.IsTuple a2 ws.toArray from g2) (by omega) fun j j1 j2 => by
      obtain ⟨t, w1, w2, ht, p1, p2, s1, s2⟩ := dens_at e1 e2 q1 q2 j j1 j2
      exact eqDen I.hok 60 X.A.in1 t w1 w2 _ _ (by have := depTs_mem ht; omega) (by show X.A.units + 1 + 60 < cLine; omega) p1 p2 s1 s2
    rw [range_all_true, hsz, beq_self_eq_true, Bool.and_self] at h
    exact h X.prog X.w _ _ ⟨.bl true, H, I, rfl, q⟩
  | emp =>
    obtain ⟨a1, rfl, h1⟩ := d1
    obtain ⟨a2, rfl, h2⟩ := d2
    cases (show v = Value.ref a1 from rx); cases (show u = Value.ref a2 from ry)
    obtain ⟨_, m1, vs1, q1, g1⟩ := (show ObjOk X.prog X.w H s.heap a1 (.dK []) from I.hok a1 _ h1)
    obtain ⟨_, m2, vs2, q2, g2⟩ := (show ObjOk X.prog X.w H s.heap a2 (.dK []) from I.hok a2 _ h2)
    cases q1
    cases q2
    exact PySem.W.keq_eq (K := Key) (knd := mixKind X.prog X.w) (r := true) m1 m2 g1 g2 (by omega) (fun _ => .nil) ⟨.bl true, H, I, rfl, q⟩
  | dic => exact absurd (show cLine + 1 ≤ 60 from hd) (by omega)
end
end L2
set_option maxHeartbeats 4000000
namespace L2
open PySem PySem.Spec PyProof.Rows
section
variable {X : Cx} {pins : List (Addr × Obj)} {σ : St} {H : Hp} {s : Shared} {h' : Heap}
theorem Inv.turnedL {t' : Nat} {fp : List Addr} (I : Inv X pins σ H s) (k : ∀ b o, b ∉ fp → s.heap.get? b = some o → h'.get? b = some o) (hf : ∀ b ∈ fp, FpOk X pins H b) :
    Inv X pins σ H { s with heap := h', toks := t' } := by
  have nin : ∀ b u, H b = some u → b ∉ fp := fun b u e z => by rw [(hf b z).1] at e; cases e
  refine I.step (g' := s.gens) (d' := s.drawn) (ch := fp) (fun b hb => ⟨(hf b hb).2.2.2.1, (hf b hb).2.1, (hf b hb).2.2.2.2.1, (hf b hb).2.2.2.2.2⟩) (fun b o _ _ hc e _ => k b o hc e) (fun b o _ _ hc e _ => ⟨o.slots, k b o hc e⟩) (fun _ _ _ _ n => n)
    (fun b o hc e => ⟨o, k b o hc e⟩) (fun _ _ e => e) (fun _ _ _ e => e) (fun b ps e => ⟨#[], by rw [e]; simp⟩) (fun m hm => ?_) (fun b u e => ?_) I.bare
  · obtain ⟨o, es, ep, ho, r⟩ := hm
    exact ⟨o, es, ep, k _ o (fun z => (hf _ z).2.1 rfl) ho, r⟩
  · refine (I.hok b u e).stay (fun c v hc q => k c v ?_ q) (fun _ q => q) fun _ _ q => q
    rcases hc with z | z
    · rw [z]; exact nin b u e
    · exact nin c _ z
theorem Inv.turnLay {t' : Nat} {fp : List Addr} {a : Addr} {o : HO} (I : Inv X pins σ H s) (k : ∀ b u, b ∉ fp → s.heap.get? b = some u → h'.get? b = some u) (hf : ∀ b ∈ fp, FpOk X pins H b)
    (ha : s.heap.objs.size ≤ a) (new : ObjOk X.prog X.w (upd H a o) h' a o) : Inv X pins σ (upd H a o) { s with heap := h', toks := t' } := by
  have nin : ∀ b u, H b = some u → b ∉ fp := fun b u e z => by rw [(hf b z).1] at e; cases e
  have hn : H a = none := I.hok.fresh ha
  have ne : ∀ b u, H b = some u → b ≠ a := fun b u e z => by rw [z, hn] at e; cases e
  refine I.step (g' := s.gens) (d' := s.drawn) (ch := fp) (fun b hb => ⟨(hf b hb).2.2.2.1, (hf b hb).2.1, (hf b hb).2.2.2.2.1, (hf b hb).2.2.2.2.2⟩) (fun b o _ _ hc e _ => k b o hc e) (fun b o _ _ hc e _ => ⟨o.slots, k b o hc e⟩)
    (fun b u _ e n => by rw [upd_ne (Nat.ne_of_lt (Nat.lt_of_lt_of_le (Heap.lt_size e) ha))]; exact n)
    (fun b o hc e => ⟨o, k b o hc e⟩) (fun b xs e => by rw [upd_ne (ne b _ e)]; exact e) (fun b o u e => by rw [upd_ne (ne b _ e)]; exact e) (fun b ps e => ⟨#[], by rw [upd_ne (ne b _ e), e]; simp⟩) (fun m hm => ?_) (fun b u e => ?_) I.bare
  · obtain ⟨o, es, ep, ho, r⟩ := hm
    exact ⟨o, es, ep, k _ o (fun z => (hf _ z).2.1 rfl) ho, r⟩
  · by_cases hb : b = a
    · subst hb
      rw [upd_same] at e
      cases e
      exact new
    · rw [upd_ne hb] at e
      refine (I.hok b u e).stay (fun c v hc q => k c v ?_ q) (fun c q => by rw [upd_ne (ne c _ q)]; exact q) fun c xs q => by rw [upd_ne (ne c _ q)]; exact q
      rcases hc with z | z
      · rw [z]; exact nin b u e
      · exact nin c _ z
end
end L2
set_option maxHeartbeats 4000000
namespace L2
open PySem PySem.Spec PyProof.Rows
noncomputable abbrev testsOf (ifs : List Expr) (env : Env) : Sem Bool := forIn ifs true fun c ok => if ok = true then do
      let ok ← PySem.isTrue c env (eval c env)
      pure (ForInStep.yield ok)
    else pure (ForInStep.yield ok)
theorem compTurn_ifs (elt target iter : Expr) (ifs : List Expr) (scope : Scope) (pos : Pos) (it acc : Value) (env : Env) :
  compTurn (elt.ListComp [⟨target, iter, ifs, 0⟩] scope pos) 0 it acc env = (do
    standAt iter.pos
    let r ← pyNext it
    match r with
      | none => pure (Fin.done Flow.next)
      | some v => do
        letOwnedTupleGo target it v
        assign target env v
        let ok ← testsOf ifs env
        if ok = true then do
          let x ← eval elt env
          let _ ← call (Value.builtin "list.append") [acc, x]
          again (Code.compLoop (elt.ListComp [⟨target, iter, ifs, 0⟩] scope pos) 0 it acc env)
        else again (Code.compLoop (elt.ListComp [⟨target, iter, ifs, 0⟩] scope pos) 0 it acc env)) := by
  unfold compTurn
  simp
  rfl
noncomputable def PIf (X : Cx) (ifs : List Expr) (t : TT) : Prop :=
  ∀ (pins : List (Addr × Obj)) (s : Shared) (σ : St) (H : Hp) (Q : Bool → Hp → Prop), Inv X pins σ H s → t σ H Q → wpAny (model X.prog X.w) X.A (testsOf ifs X.env) (TP X pins σ Q) X.xe s
noncomputable def tYes : TT := fun _ H Q => Q true H
theorem pif_nil {X : Cx} : PIf X [] tYes := fun pins s σ H Q I h => by
  show wpAny _ _ (pure true) _ _ s
  exact wpAny_pure ⟨H, I, h⟩
theorem pif_one {X : Cx} {c : Expr} {t : TT} (hc : PT X c t) : PIf X [c] t := fun pins s σ H Q I h => by
  have e : testsOf [c] X.env = PySem.isTrue c X.env (eval c X.env) := by simp [testsOf]
  rw [e]
  exact hc pins s σ H Q I h
theorem compLoop_ifs {prog : Program} {w : World} {A : Around} {R : Result → Shared → Prop} {s : Shared} {elt tg iter : Expr} {ifs : List Expr} {scope : Scope} {pos : Pos} {it acc : Value} {env : Env} (Iv : Nat → Shared → Prop)
    (turn : ∀ k s, Iv k s → wpAny (model prog w) A (pyNext it) (fun r s1 => match r with
      | none => R (.ok .next) s1
      | some v => wpAny (model prog w) A (letOwnedTupleGo tg it v) (fun _ s2 => wpAny (model prog w) A (assign tg env v) (fun _ s3 => wpAny (model prog w) A (testsOf ifs env) (fun b s4 => if b = true then
          wpAny (model prog w) A (eval elt env) (fun y s5 => wpAny (model prog w) A (call (.builtin "list.append") [acc, y]) (fun _ s6 => ∃ m, m < k ∧ Iv m s6) (fun _ _ => False) s5) (fun _ _ => False) s4
          else ∃ m, m < k ∧ Iv m s4) (fun _ _ => False) s3) (fun _ _ => False) s2) (fun _ _ => False) s1) (fun _ _ => False) s)
    (k : Nat) (h : Iv k s) : codeAny (model prog w) A (.compLoop (.ListComp elt [⟨tg, iter, ifs, 0⟩] scope pos) 0 it acc env) R s := by
  refine codeAny_loop rfl Iv (fun k s hI => ?_) k h
  show wpAny _ _ ((compTurn (.ListComp elt [⟨tg, iter, ifs, 0⟩] scope pos) 0 it acc env).onRaise (fun e => do noteFrame e env; theTreesLotGoes e)) _ _ s
  refine wpAny_noted ?_
  rw [compTurn_ifs]
  refine wpAny_bind (wpAny_standAt (wpAny_bind (wpAny_mono (turn k s hI) (fun r s1 h1 => ?_) fun _ _ f => f.elim)))
  cases r with
  | none => exact wpAny_pure h1
  | some v =>
    refine wpAny_bind (wpAny_mono h1 (fun _ s2 h2 => wpAny_bind (wpAny_mono h2 (fun _ s3 h3 => wpAny_bind (wpAny_mono h3 (fun b s4 h4 => ?_) fun _ _ f => f.elim)) fun _ _ f => f.elim)) fun _ _ f => f.elim)
    cases b with
    | true =>
      rw [if_pos rfl] at h4 ⊢
      exact wpAny_bind (wpAny_mono h4 (fun y s5 h5 => wpAny_bind (wpAny_mono h5 (fun _ s6 h6 => wpAny_pure ⟨rfl, h6⟩) fun _ _ f => f.elim)) fun _ _ f => f.elim)
    | false =>
      rw [if_neg Bool.false_ne_true] at h4 ⊢
      exact wpAny_pure ⟨rfl, h4⟩
structure CompOkL (X : Cx) (xs : List Str) (ts : List (Str × Nat)) (scope : Scope) (cl : List (Str × Addr)) : Prop where
  clos : closureFor scope X.env = pure cl
  sub : ∀ y c, cl.lookup y = some c → X.env.cells.lookup y = some c
  nocell : (scope.names.all fun p => p.2 != .cell) = true
  kind : scope.kind = .function
  locs : (scope.names.all fun p => p.2 != .local || scope.names.lookup p.1 == some .local) = true
  nd : (xs ++ ts.map (·.1)).Nodup
  around : (ts.all fun p => decide (X.N[p.2]? = some p.1) && (X.env.kindOf p.1 == some .cell || X.env.kindOf p.1 == some .free) && (cl.lookup p.1).isSome &&
    ((relabel scope X.env).names.lookup p.1 == some .cell || (relabel scope X.env).names.lookup p.1 == some .free)) = true
  has : ((relabel scope X.env).names.all fun p => !(p.2 == .cell || p.2 == .free) || (cl.lookup p.1).isSome) = true
noncomputable abbrev nmsL (xs : List Str) (ts : List (Str × Nat)) : List Str := xs ++ ts.map (·.1)
noncomputable def CompG (J : It) (g : TG) (tt : TT) (te : TE) (k : Nat) (st : St) (D : Addr) (H1 : Hp) (Q : VK) : Prop :=
  ∃ W : Nat → Nat → List V → Hp → Prop, (∃ m, W 0 m [] (upd H1 D (.lst []))) ∧ ∀ i m ys H2, W i m ys H2 →
    (J.stop i H2 ∧ Q (.ref D) H2) ∨ (J.go i H2 ∧ ∀ x H3 σ0, J.yld i H2 x H3 → σ0.length = k → g x (σ0 ++ st) H3 fun σ2 H4 => (∃ σ1, σ1.length = k ∧ σ2 = σ1 ++ st) ∧ tt σ2 H4 fun b H5 =>
      if b = true then te σ2 H5 fun y H6 => H6 D = some (.lst ys) ∧ ys.length < sizeLine ∧ ∃ m', m' < m ∧ W (i + 1) m' (ys ++ [y]) (upd H6 D (.lst (ys ++ [y])))
      else ∃ m', m' < m ∧ W (i + 1) m' ys H5)
noncomputable def tCompG (wi : TI) (g : TG) (tt : TT) (k : Nat) (fr : List Nat) (te : TE) : TE := fun σ H Q => wi σ H fun J H1 => ∀ D, H1 D = none → CompG J g tt te k (taken σ fr) D H1 Q
section
variable {X : Cx} {elt iter tg : Expr} {ifs : List Expr} {xs : List Str} {pos : Pos} {scope : Scope} {cl : List (Str × Addr)} {ts : List (Str × Nat)} {wi : TI} {te : TE} {g : TG} {tt : TT}
theorem CompOkL.nocell' (O : CompOkL X xs ts scope cl) : ∀ y ∈ scope.names, y.2 ≠ .cell := fun y hy e => by
  have := List.all_eq_true.mp O.nocell y hy
  rw [e] at this
  cases this
theorem CompOkL.locs' (O : CompOkL X xs ts scope cl) : ∀ y ∈ scope.names, y.2 = .local → scope.names.lookup y.1 = some .local := fun y hy e => by
  have h := List.all_eq_true.mp O.locs y hy
  rw [e] at h
  rcases Bool.or_eq_true_iff.mp h with z | z
  · cases z
  · exact beq_iff_eq.mp z
theorem CompOkL.from' (O : CompOkL X xs ts scope cl) : ∀ (i : Nat) (y : Str), (ts.map (·.1))[i]? = some y → ∃ j, (sltOf ts)[i]? = some j ∧ X.N[j]? = some y ∧ (X.env.kindOf y = some .cell ∨ X.env.kindOf y = some .free) ∧ (cl.lookup y).isSome = true ∧
    ((relabel scope X.env).names.lookup y = some .cell ∨ (relabel scope X.env).names.lookup y = some .free) := fun i y e1 => by
  rw [List.getElem?_map] at e1
  cases q : ts[i]? with
  | none => rw [q] at e1; cases e1
  | some p =>
    rw [q] at e1
    have e2 : p.1 = y := Option.some.inj e1
    subst e2
    have h := List.all_eq_true.mp O.around p (List.mem_of_getElem? q)
    simp only [Bool.and_eq_true, Bool.or_eq_true, beq_iff_eq, decide_eq_true_eq] at h
    obtain ⟨⟨⟨h1, h2⟩, h3⟩, h4⟩ := h
    refine ⟨p.2, ?_, h1, h2, h3, h4⟩
    show (ts.map (·.2))[i]? = some p.2
    rw [List.getElem?_map, q] <;> rfl
theorem CompOkL.has' (O : CompOkL X xs ts scope cl) : ∀ y, ((relabel scope X.env).names.lookup y = some .cell ∨ (relabel scope X.env).names.lookup y = some .free) → (cl.lookup y).isSome = true := fun y h => by
  have go : ∀ k : NameKind, (k = .cell ∨ k = .free) → (relabel scope X.env).names.lookup y = some k → (cl.lookup y).isSome = true := fun k hk e => by
    have z := List.all_eq_true.mp O.has (y, k) (PySem.mem_of_lookup e)
    rcases Bool.or_eq_true_iff.mp z with z | z
    · rcases hk with e | e <;> (rw [e] at z; cases z)
    · exact z
  rcases h with h | h
  · exact go _ (.inl rfl) h
  · exact go _ (.inr rfl) h
theorem compL_ok {pins : List (Addr × Obj)} {σ : St} {H3 : Hp} {s3 : Shared} {fp : List Addr} (O : CompOkL X xs ts scope cl) (I3 : Inv X pins σ H3 s3) (hfp : ∀ b ∈ fp, FpOk X pins H3 b ∧ b < s3.heap.objs.size) :
    (cxComp X (nmsL xs ts) scope cl s3.heap.objs.size s3 H3 fp).Ok where
  mod := I3.ok.mod
  kind := O.kind
  glob := I3.ok.glob
  blt := I3.ok.blt
  above := Nat.le_refl _
  inj := fun y z c h1 h2 => I3.ok.inj y z c (O.sub y c h1) (O.sub z c h2)
  has := fun y h => Option.isSome_iff_exists.mp (O.has' y h)
  cab := fun y c h => by cases h
  hd := I3.ok.hd
  frames := I3.ok.frames
  stk := .inl rfl
  exf := fun b hb => ⟨Nat.ne_of_lt (hfp b hb).2, fun y c e => (hfp b hb).1.2.2.2.2.1 y c (O.sub y c e)⟩
  bs := fun b o e => I3.bs b o e
  bsz := Nat.le_trans I3.ok.bsz I3.sz
  noex := fun b o e hb => by
    rcases (hfp b hb).1.2.2.2.1 with z | z
    · exact I3.ok.noex b o e z
    · exact absurd (Nat.lt_of_lt_of_le (Heap.lt_size (I3.ok.bs b o e).1) z) (Nat.lt_irrefl _)
  exfs := fun b hb hz => by
    rcases List.mem_cons.mp (I3.stkSub b hz) with e | e
    · exact (hfp b hb).1.2.1 e
    · exact (hfp b hb).1.2.2.1 e
  funs := I3.stack
  frf := I3.stkFree
theorem compL_start {pins : List (Addr × Obj)} {σ : St} {H3 : Hp} {s3 : Shared} {fp : List Addr} {h1 : Heap} {tk : Nat} (O : CompOkL X xs ts scope cl) (I3 : Inv X pins σ H3 s3) (hfp : ∀ b ∈ fp, FpOk X pins H3 b ∧ b < s3.heap.objs.size)
    (hns : h1.Ns s3.heap.objs.size fun _ => none) (old : ∀ b o, s3.heap.get? b = some o → h1.get? b = some o) :
    Inv (cxComp X (nmsL xs ts) scope cl s3.heap.objs.size s3 H3 fp) [] (List.replicate xs.length none ++ taken σ (sltOf ts)) H3 { s3 with heap := h1, toks := tk } := by
  refine ⟨compL_ok O I3 hfp, rfl, I3.bare, Un.kept old, ⟨_, hns, fun i y v e1 e2 e3 => ?_⟩, fun y c e => ?_, I3.hok.fresh (Nat.le_refl _), fun y c e => I3.freeC y c (O.sub y c e), fun p hp => absurd (show p ∈ ([] : List (Addr × Obj)) from hp) (by simp), I3.hok.kept old, ?_⟩
  · by_cases hi : i < xs.length
    · rw [List.getElem?_append_left (by simpa using hi), List.getElem?_replicate, if_pos hi] at e2
      cases e2
    · have hi' : xs.length ≤ i := Nat.le_of_not_lt hi
      have e1' : (ts.map (·.1))[i - xs.length]? = some y := by
        have : (xs ++ ts.map (·.1))[i]? = some y := e1
        rw [List.getElem?_append_right hi'] at this; exact this
      rw [List.getElem?_append_right (by simpa using hi')] at e2
      rw [List.length_replicate] at e2
      obtain ⟨j, hj, hN, hk, hcl, hk2⟩ := O.from' _ y e1'
      have e2' : σ[j]? = some (some v) := by
        have q := e2
        unfold taken at q
        rw [List.getElem?_map, hj] at q
        have q' : (σ[j]?).getD none = some v := Option.some.inj q
        cases z : σ[j]? with
        | none => rw [z] at q'; cases q'
        | some w => rw [z] at q'; rw [show w = some v from q']
      obtain ⟨m, hn, hl⟩ := I3.loc
      have vis : Vis X.env.scope y := hk.elim (fun z => .inr (.inl z)) fun z => .inr (.inr z)
      obtain ⟨u, r, l⟩ := hl j y v hN e2' vis
      obtain ⟨c, hc⟩ := Option.isSome_iff_exists.mp hcl
      refine ⟨u, r, .inr ⟨hk2, c, hc, ?_⟩⟩
      rcases l with ⟨k, _⟩ | ⟨_, c', hc', z⟩
      · rcases hk with hk | hk
        · rw [k] at hk; cases hk
        · rw [k] at hk; cases hk
      · rw [O.sub y c hc] at hc'
        cases hc'
        obtain ⟨o, ho, hd⟩ := z
        exact ⟨o, old c o ho, hd⟩
  · obtain ⟨v, o, ho, hd⟩ := I3.cell y c (O.sub y c e)
    exact ⟨v, o, old c o ho, hd⟩
  · show (List.replicate xs.length none ++ taken σ (sltOf ts)).length = (nmsL xs ts).length
    simp [taken]
theorem compG_run {use : Option (Value → Sem Unit)} {QV : Value → Shared → Prop} {cpos : Pos} {pins : List (Addr × Obj)} {s : Shared} {σ : St} {H : Hp} {Q : VK} (hc : X.calm = true) (O : CompOkL X xs ts scope cl) (hi : PI X tg iter wi) (hg : ∀ C s3 H3 fp, PG (cxComp X (nmsL xs ts) scope cl C s3 H3 fp) tg g)
    (ht : ∀ C s3 H3 fp, PIf (cxComp X (nmsL xs ts) scope cl C s3 H3 fp) ifs tt) (he : ∀ C s3 H3 fp, PE (cxComp X (nmsL xs ts) scope cl C s3 H3 fp) elt te)
    (hs : ∀ x, foldedSetIterable iter X.env x = pure x) (I : Inv X pins σ H s) (h : tCompG wi g tt xs.length (sltOf ts) te σ H Q)
    (fin : ∀ (D C : Addr) (s6 : Shared) (H5 : Hp), Inv X pins σ H5 s6 → FpOk X pins H5 C → (∃ m, s6.heap.Ns C m) → Q (.ref D) H5 → compPost (model X.prog X.w) X.A X.xe use QV (.ref D) C (.ok .next) s6) :
    wpAny (model X.prog X.w) X.A (comprehension (.ListComp elt [⟨tg, iter, ifs, 0⟩] scope pos) scope X.env cpos (newList []) false (eval iter X.env) use) QV X.xe s := by
  refine wpAny_comprehension_free (use := use) rfl hs O.clos O.kind O.locs' (thn (hi pins s σ H _ I h) fun v s1 h1 => thn h1 fun itv s2 h2 => ?_)
  obtain ⟨it, fp, tn, J, H2, rfl, I2, T, st2, f2, q⟩ := h2
  have hD : H2 s2.heap.objs.size = none := I2.hok.fresh (Nat.le_refl _)
  obtain ⟨W, ⟨m0, w0⟩, turn⟩ := q s2.heap.objs.size hD
  refine wpAny_newObj_type ?_
  have I3 : Inv X pins σ (upd H2 s2.heap.objs.size (.lst [])) { s2 with heap := s2.heap.push { cls := .type "list", dict := none, data := .seq ([] : List Value).toArray } } :=
    I2.laid (a := s2.heap.objs.size) (o := .lst []) (t' := s2.toks) (fun b u e => Heap.get?_push_of_some _ e) (Nat.le_refl _) ⟨Nat.zero_le _, [], 0, .nil, Heap.get?_push_size _ rfl⟩
  generalize hs3 : ({ s2 with heap := s2.heap.push { cls := .type "list", dict := none, data := .seq ([] : List Value).toArray } } : Shared) = s3 at I3
  have sz3 : s3.heap.objs.size = s2.heap.objs.size + 1 := by rw [← hs3, Heap.size_push]
  have old3 : ∀ b u, s2.heap.get? b = some u → s3.heap.get? b = some u := fun b u e => by rw [← hs3]; exact Heap.get?_push_of_some _ e
  generalize hH3 : upd H2 s2.heap.objs.size (.lst []) = H3 at I3 w0
  have fp2 : ∀ b ∈ fp, b < s2.heap.objs.size := fun b hb => by
    obtain ⟨o, e, _⟩ := T.obj _ _ st2 b hb
    exact Heap.lt_size e
  have hfp : ∀ b ∈ fp, FpOk X pins H3 b ∧ b < s3.heap.objs.size := fun b hb => by
    refine ⟨⟨?_, (f2 b hb).2⟩, by rw [sz3]; exact Nat.lt_succ_of_lt (fp2 b hb)⟩
    rw [← hH3, upd_ne (Nat.ne_of_lt (fp2 b hb))]
    exact (f2 b hb).1
  refine wpAny_newFunctionEnv O.nocell' (by intro y hy; simp at hy) (fun h₁ hns₁ hsb₁ => ?_) O.kind
  have old : ∀ b o, s3.heap.get? b = some o → h₁.get? b = some o := fun b o e => hsb₁.extBut b o (Nat.ne_of_lt (Heap.lt_size e)) (Heap.get?_push_of_some _ e)
  have start : Inv (cxComp X (nmsL xs ts) scope cl s3.heap.objs.size s3 H3 fp) [] (List.replicate xs.length none ++ taken σ (sltOf ts)) H3 { s3 with heap := h₁, toks := s3.toks + 0 } := compL_start O I3 hfp hns₁ old
  have st4 : tn 0 h₁ := T.keep _ _ _ st2 fun b hb o e => old b o (old3 b o e)
  have okX : ∀ {H' : Hp}, (∀ b ∈ fp, H' b = none) → ∀ b ∈ fp, FpOk (cxComp X (nmsL xs ts) scope cl s3.heap.objs.size s3 H3 fp) [] H' b := fun hn b hb => by
    refine ⟨hn b hb, Nat.ne_of_lt (hfp b hb).2, fun z => ?_, .inl hb, fun y c e => (f2 b hb).2.2.2.2.1 y c (O.sub y c e), fun p hp => absurd (show p ∈ ([] : List (Addr × Obj)) from hp) (by simp)⟩
    rcases List.mem_cons.mp (I3.stkSub b z) with e | e
    · exact (f2 b hb).2.1 e
    · exact (f2 b hb).2.2.1 e
  have loop : ∀ s₄ : Shared, s₄ = { s3 with heap := h₁, toks := s3.toks + 0 } →
      codeAny (model X.prog X.w) X.A (.compLoop (.ListComp elt [⟨tg, iter, ifs, 0⟩] scope pos) 0 (.ref it) (.ref s2.heap.objs.size) (compEnvC scope cl s3.heap.objs.size X.env))
        (compPost (model X.prog X.w) X.A X.xe use QV (.ref s2.heap.objs.size) s3.heap.objs.size) s₄ := by
    rintro s₄ rfl
    refine compLoop_ifs (fun n s' => ∃ i ys σ0 H', σ0.length = xs.length ∧ Inv (cxComp X (nmsL xs ts) scope cl s3.heap.objs.size s3 H3 fp) [] (σ0 ++ taken σ (sltOf ts)) H' s' ∧ tn i s'.heap ∧ (∀ b ∈ fp, H' b = none) ∧ W i n ys H') ?_ m0
      ⟨0, [], _, H3, by simp, start, st4, fun b hb => (hfp b hb).1.1, w0⟩
    rintro n s5 ⟨i, ys, σ0, H5, l0, I5, st5, fr5, w5⟩
    rcases turn i n ys H5 w5 with ⟨stop, qn⟩ | ⟨go, step⟩
    · refine thn (T.done (cxComp X (nmsL xs ts) scope cl s3.heap.objs.size s3 H3 fp) rfl rfl rfl hc i [] s5 (σ0 ++ taken σ (sltOf ts)) H5 _ I5 (okX fr5) st5 stop) fun r s6 ⟨hr, I6⟩ => ?_
      subst hr
      obtain ⟨m, hn, _⟩ := id I6.loc
      have u6 : Un (frs X.stack) fp H3 H5 s3.heap s6.heap := I6.base
      have fC : H5 s3.heap.objs.size = none := I6.free
      exact fin s2.heap.objs.size s3.heap.objs.size s6 H5 (I3.call' (s' := s6) (ch := fp) I6.os u6 I6.hok I6.bare (fun b hb => ⟨(f2 b hb).2.2.2.1, (f2 b hb).2.1, (f2 b hb).2.2.2.2.1, (f2 b hb).2.2.2.2.2⟩))
        (I3.fpOk (Nat.le_refl _) fC) ⟨m, hn⟩ qn
    · refine thn (T.item (cxComp X (nmsL xs ts) scope cl s3.heap.objs.size s3 H3 fp) rfl rfl rfl hc i [] s5 (σ0 ++ taken σ (sltOf ts)) H5 _ I5 (okX fr5) st5 go) fun r s6 ⟨u, hr, h6⟩ => ?_
      subst hr
      refine thn h6 fun _ s7 ⟨z, H7, I7, rz, yz, st7, fr7⟩ => ?_
      have I7' := I7.pinned (okX fr7) (T.obj _ _ st7)
      refine thn (hg s3.heap.objs.size s3 H3 fp _ s7 _ H7 z u _ I7' rz (step z H7 σ0 yz l0)) fun _ s8 ⟨σ8, H8, I8, ⟨σ1, l1, e8⟩, q8⟩ => ?_
      subst e8
      refine thn (ht s3.heap.objs.size s3 H3 fp _ s8 _ H8 _ I8 q8) fun b s9 ⟨H9, I9, q9⟩ => ?_
      cases b with
      | true =>
        rw [if_pos rfl] at q9 ⊢
        refine thn (he s3.heap.objs.size s3 H3 fp _ s9 _ H9 _ I9 q9) fun y s10 ⟨vy, H10, I10, ry, hD9, hl9, m', hm', w9⟩ => ?_
        refine thn (mt_append (X := cxComp X (nmsL xs ts) scope cl s3.heap.objs.size s3 H3 fp) _ s10 _ H10 (.ref s2.heap.objs.size) [vy] (.ref s2.heap.objs.size) [y] (fun _ H11 => H11 = upd H10 s2.heap.objs.size (.lst (ys ++ [vy]))) I10 rfl (.cons ry .nil) ⟨_, ys, vy, rfl, rfl, hD9, hl9, rfl⟩) fun _ s11 ⟨_, H11, I11, _, e11⟩ => ?_
        subst e11
        refine ⟨m', hm', i + 1, ys ++ [vy], σ1, _, l1, I11.unpinned, T.keep _ _ _ st7 fun b hb o e => (I11.pin (b, o) (List.mem_append_right _ (List.mem_append_right _ (mem_pinsAt hb e)))).1, fun b hb => ?_, w9⟩
        obtain ⟨o, e, d⟩ := T.obj _ _ st7 b hb
        exact (I11.pin (b, o) (List.mem_append_right _ (List.mem_append_right _ (mem_pinsAt hb e)))).2.1
      | false =>
        rw [if_neg Bool.false_ne_true] at q9 ⊢
        obtain ⟨m', hm', w9⟩ := q9
        refine ⟨m', hm', i + 1, ys, σ1, _, l1, I9.unpinned, T.keep _ _ _ st7 fun b hb o e => (I9.pin (b, o) (List.mem_append_right _ (List.mem_append_right _ (mem_pinsAt hb e)))).1, fun b hb => ?_, w9⟩
        obtain ⟨o, e, d⟩ := T.obj _ _ st7 b hb
        exact (I9.pin (b, o) (List.mem_append_right _ (List.mem_append_right _ (mem_pinsAt hb e)))).2.1
  have hst := codeAny_compStart_list (loop _ rfl) (T.self X.A 0 _ _ _ st4 (loop _ rfl))
  exact hst
theorem pe_compG (hc : X.calm = true) (O : CompOkL X xs ts scope cl) (hi : PI X tg iter wi) (hg : ∀ C s3 H3 fp, PG (cxComp X (nmsL xs ts) scope cl C s3 H3 fp) tg g)
    (ht : ∀ C s3 H3 fp, PIf (cxComp X (nmsL xs ts) scope cl C s3 H3 fp) ifs tt) (he : ∀ C s3 H3 fp, PE (cxComp X (nmsL xs ts) scope cl C s3 H3 fp) elt te)
    (hs : ∀ x, foldedSetIterable iter X.env x = pure x := by intro _; rfl) : PE X (.ListComp elt [⟨tg, iter, ifs, 0⟩] scope pos) (tCompG wi g tt xs.length (sltOf ts) te) := by
  intro pins s σ H Q I h
  rw [eval_ListComp]
  refine compG_run (use := none) hc O hi hg ht he hs I h fun D C s6 H5 I6 fC ⟨m, hn⟩ q => ?_
  refine ⟨m, hn, fun h' sb => ⟨.ref D, H5, ?_, rfl, q⟩⟩
  exact I6.turned (it := C) (t' := s6.toks) (fun b o hb e => (sb.2 b hb).trans e) fC.1 fC.2.1 fC.2.2.2.1 fC.2.2.2.2.1 fC.2.2.2.2.2
theorem ps_setC {i : Nat} {x : Str} {pos' sp : Pos} (hN : X.N.Nodup) (hix : X.N[i]? = some x) (hx : Loc X.env.scope x) (hc : X.calm = true) (O : CompOkL X xs ts scope cl) (hi : PI X tg iter wi) (hg : ∀ C s3 H3 fp, PG (cxComp X (nmsL xs ts) scope cl C s3 H3 fp) tg g)
    (ht : ∀ C s3 H3 fp, PIf (cxComp X (nmsL xs ts) scope cl C s3 H3 fp) ifs tt) (he : ∀ C s3 H3 fp, PE (cxComp X (nmsL xs ts) scope cl C s3 H3 fp) elt te)
    (hs : ∀ x, foldedSetIterable iter X.env x = pure x := by intro _; rfl) (hw : swapsWith (.ListComp elt [⟨tg, iter, ifs, 0⟩] scope pos) (some (.Name x pos')) sp.line X.env = pure true := by rfl)
    (hf : X.fn x = true ∨ X.env.scope.names.lookup x = some .local := by first | exact .inl rfl | exact .inr rfl | assumption) :
    PS X (.Assign [.Name x pos'] (.ListComp elt [⟨tg, iter, ifs, 0⟩] scope pos) sp) (tAsg (tCompG wi g tt xs.length (sltOf ts) te) (gName i)) := by
  intro pins s σ H D I h
  rw [exec_Assign_Name_used x pos' _ sp hw]
  refine wpAny_bind (wpAny_standAt (wpAny_bind ?_))
  show wpAny _ _ ((comprehension _ scope X.env _ (newList []) _ _ (some _)) >>= fun _ => pure ()) _ _ s
  refine wpAny_bind (compG_run (use := some (assign (.Name x pos') X.env)) hc O hi hg ht he hs I h fun A C s6 H5 I6 fC ⟨m, hn⟩ q => ?_)
  obtain ⟨o, es, ep, ho, r⟩ := id hn
  have onlyC : ∀ b : Addr, b ∈ [C] → b = C := fun b hb => by simpa using hb
  have I6' := I6.pinned (fp := [C]) (fun b hb => onlyC b hb ▸ fC) (fun b hb => by
    rw [onlyC b hb]
    exact ⟨o, ho, fun v z => by rw [r.1] at z; cases z⟩)
  refine wpAny_assign_Name (store_ok I6' hN hix hx (v := .ref A) rfl (fun s7 I7 => ?_) hf)
  have e7 : s7.heap.get? C = some o := (I7.pin (C, o) (List.mem_append_right _ (List.mem_append_right _ (mem_pinsAt (by simp) ho)))).1
  refine ⟨m, ⟨o, es, ep, e7, r⟩, fun h' sb => wpAny_pure (wpAny_pure ⟨_, H5, ?_, q⟩)⟩
  exact I7.unpinned.turned (it := C) (t' := s7.toks) (fun b o hb e => (sb.2 b hb).trans e) fC.1 fC.2.1 fC.2.2.2.1 fC.2.2.2.2.1 fC.2.2.2.2.2
end
theorem pg_tupC {X : Cx} {N' : List Str} {scope : Scope} {cl : List (Str × Addr)} {C : Addr} {s3 : Shared} {H3 : Hp} {fp : List Addr} {pos : Pos} {es : List Expr} {k : Nat} {t : TGs} {n : Nat} (hc : X.calm = true) (h : PGs (cxComp X N' scope cl C s3 H3 fp) es t)
    (hn : (assignEach es (cxComp X N' scope cl C s3 H3 fp).env).length = n := by rfl) (hst : (assignEach es (cxComp X N' scope cl C s3 H3 fp).env).findIdx? (·.1) = none := by rfl) : PG (cxComp X N' scope cl C s3 H3 fp) (.Tuple es k pos) (gTup X.K n t) := pg_tup hc h hn hst
theorem sub0 {cs : List (Str × Addr)} : ∀ (y : Str) (c : Addr), List.lookup y ([] : List (Str × Addr)) = some c → cs.lookup y = some c := fun _ _ h => by cases h
end L2
set_option maxHeartbeats 4000000
namespace L2
open PySem PySem.Spec PyProof.Rows
section
variable {X : Cx}
noncomputable def rInsert : V → List V → Hp → VK → Prop := fun x vs H Q => ∃ (l : Addr) (xs : List V) (i : Int) (y : V), x = .ref l ∧ vs = [.int i, y] ∧ H l = some (.lst xs) ∧ 0 ≤ i ∧ i.toNat ≤ xs.length ∧ xs.length < sizeLine ∧ Q .non (upd H l (.lst (xs.take i.toNat ++ y :: xs.drop i.toNat)))
theorem ins_meets (l : Addr) (items : Array Value) (n : Nat) (x : Int) (u : Tok) (y : Value) (h0 : 0 ≤ x) (h : x < 2 ^ 63) (hs : items.size ≤ sizeLine) : Meets (Builtin.«list.insert» { pos := [Value.ref l, Value.int x u, y] }) fun x_1 R s =>
        s.heap.get? l = some { cls := Value.type "list", data := Data.seq items n } ∧
          R (Except.ok (Flow.ret Value.none)) { s with heap := s.heap.update l (Obj.mapSeq fun xs => (xs.extract 0 (min x.toNat xs.size)).push y ++ xs.extract (min x.toNat xs.size)) } := by
  have hfit : ¬(!Builtin.List.listFitsIndex x) = true := by
    have : Builtin.List.listFitsIndex x = true := by
      unfold Builtin.List.listFitsIndex
      simp
      omega
    rw [this]; exact fun z => nomatch z
  have M := AutoSeq1.list_insert_list_int_val_1 l items n x u y hfit hs
  simp only [if_neg (show ¬ x < 0 by omega)] at M
  exact M
theorem mt_insert : MtM X "list.insert" rInsert := by
  intro pins s σ H x vs v us Q I rx rv h
  obtain ⟨l, xs, i, y, rfl, rfl, hH, h0, hi, hz, q⟩ := h
  cases rx
  cases rv with
  | cons r1 rr =>
    obtain ⟨t, rfl⟩ := r1
    obtain ⟨u, rfl, ru⟩ := Vals.one rr
    obtain ⟨z, its, n, r, hl, e⟩ := I.lstM hH
    have hsz : its.toArray.size ≤ sizeLine := by rw [List.size_toArray]; omega
    have hb : i < 2 ^ 63 := by
      have : sizeLine = 2 ^ 24 := rfl
      omega
    refine call_meets F.slot_list_insert ⟨_, e, rfl⟩ F.entry_list_insert (F.args_list_insert_3 (.ref l) (.int i t) u) (ins_meets l its.toArray n i t u h0 hb hsz) ⟨e, ?_⟩
    refine ⟨.non, _, I.lset (its' := its.take i.toNat ++ u :: its.drop i.toNat) hH e ?_ ((r.take _).append (.cons ru (r.drop _))) ?_, rfl, q⟩
    · have g : min i.toNat its.length = i.toNat := by omega
      simp [g]
      exact List.take_of_length_le (by simp)
    · simp; omega
end
end L2
set_option maxHeartbeats 4000000
namespace L2
open PySem PySem.Spec PyProof.Rows
section
variable {X : Cx}
noncomputable def Smk (i : Int) : Prop := i.natAbs < 2 ^ 8900
theorem Smk.bits {i : Int} (h : Smk i) : Builtin.Int.intBits i ≤ 8900 := intBits_le_iff.mpr h
theorem mulOk_smk {i j : Int} (hi : Smk i) (hj : Smk j) : IntMulOk i j := by
  have h1 := hi.bits
  have h2 := hj.bits
  unfold IntMulOk Builtin.Int.intTooBig
  intro h
  have h4 := of_decide_eq_true (Bool.and_eq_true_iff.mp h).2
  rw [bitsLine_eq] at h4
  omega
theorem noPy_smk {i j : Int} (hj : Smk j) : Builtin.divisionGoesByPylong i j = false := by
  refine PyProof.noPylong_of_log2 ?_
  by_cases h0 : j.natAbs = 0
  · rw [h0]; decide +kernel
  · have h : j.natAbs.log2 < 8900 := (Nat.log2_lt h0).mpr hj
    omega
theorem op_mulK : OpR X (binaryOp .Mult) (rI (fun i j => Smk i ∧ Smk j) fun i j => .int (i * j)) := opI fun _ _ _ _ _ _ _ hc q => mul_int q (mulOk_smk hc.1 hc.2)
theorem op_fdivK : OpR X (binaryOp .FloorDiv) (rI (fun _ j => j ≠ 0 ∧ Smk j) fun i j => .int (i.fdiv j)) := opI fun _ _ _ _ _ _ _ hc q => floordiv_int hc.1 q (.inl (noPy_smk hc.2))
end
section
variable {X : Cx} {N' : List Str} {scope : Scope} {cl : List (Str × Addr)} {C : Addr} {s3 : Shared} {H3 : Hp} {fp : List Addr}
theorem ix_listC : IxR (cxComp X N' scope cl C s3 H3 fp) (rIxL X.K) := ix_list
theorem call_len_seqC : CallR (cxComp X N' scope cl C s3 H3 fp) (.builtin "len") (fun xs H Q => ∃ p ys, xs = [V.ref p] ∧ (SqL X.K H p ys ∨ SqT X.K H p ys) ∧ Q (.int ((ys.length : Nat) : Int)) H) := call_len_seq
end
theorem Rd.same {H H' : Hp} {a : Addr} {u : HO} (e : Same H H') (h : Rd H a u) : Rd H' a u := by
  rcases h with h | ⟨o, h⟩
  · exact .inl (e a _ h)
  · exact .inr ⟨o, e a _ h⟩
theorem Same.tup {K : PySem.W.Frag} {H H' : Hp} {a : Addr} {xs : List V} (e : Same H H') (h : SqT K H a xs) : SqT K H' a xs := by
  rcases h with h | h
  · exact .inl (h.same e)
  · exact .inr h
theorem same_upd {H1 H2 : Hp} {D : Addr} {o : HO} (h : Same H1 H2) (hD : H1 D = none) : Same H1 (upd H2 D o) := fun b u e => by
  rw [upd_ne (ne_of_none e hD)]; exact h b u e
end L2
set_option maxHeartbeats 4000000
namespace L2
open PySem PySem.Spec PyProof.Rows
mutual
noncomputable def cmpTh : Th → Th → Bool
  | .int _, .int _ => true
  | .str _, .str _ => true
  | .non, .non => true
  | .tup ts, .tup us => cmpThs ts us
  | .lst ts, .lst us => cmpThs ts us && ts.length == us.length
  | _, _ => false
noncomputable def cmpThs : List Th → List Th → Bool
  | t :: ts, u :: us => cmpTh t u && cmpThs ts us
  | _, _ => true
end
theorem cmp_int {i : Int} {u : Th} (c : cmpTh (.int i) u = true) : ∃ j, u = .int j := by cases u <;> first | exact ⟨_, rfl⟩ | cases c
theorem cmp_str {i : Str} {u : Th} (c : cmpTh (.str i) u = true) : ∃ j, u = .str j := by cases u <;> first | exact ⟨_, rfl⟩ | cases c
theorem cmp_non {u : Th} (c : cmpTh .non u = true) : u = .non := by cases u <;> first | rfl | cases c
theorem cmp_tup {i : List Th} {u : Th} (c : cmpTh (.tup i) u = true) : ∃ j, u = .tup j := by cases u <;> first | exact ⟨_, rfl⟩ | cases c
theorem cmp_lst {i : List Th} {u : Th} (c : cmpTh (.lst i) u = true) : ∃ j, u = .lst j := by cases u <;> first | exact ⟨_, rfl⟩ | cases c
theorem cmp_bl {b : Bool} {u : Th} (c : cmpTh (.bl b) u = true) : False := by cases u <;> cases c
theorem cmp_emp {u : Th} (c : cmpTh .emp u = true) : False := by cases u <;> cases c
theorem cmp_dic {u : Th} (c : cmpTh .dic u = true) : False := by cases u <;> cases c
mutual
theorem Den.inj {H : Hp} : ∀ {t u : Th} {v : V}, cmpTh t u = true → Den H t v → Den H u v → t = u
  | .bl _, u, v, c, d1, d2 => (cmp_bl c).elim
  | .emp, u, v, c, d1, d2 => (cmp_emp c).elim
  | .dic, u, v, c, d1, d2 => (cmp_dic c).elim
  | .int i, u, v, c, d1, d2 => by
    obtain ⟨j, rfl⟩ := cmp_int c
    cases (show v = V.int i from d1); cases (show V.int i = V.int j from d2); rfl
  | .str i, u, v, c, d1, d2 => by
    obtain ⟨j, rfl⟩ := cmp_str c
    cases (show v = V.str i from d1); cases (show V.str i = V.str j from d2); rfl
  | .non, u, v, c, d1, d2 => (cmp_non c).symm
  | .tup ts, u, v, c, d1, d2 => by
    obtain ⟨us, rfl⟩ := cmp_tup c
    obtain ⟨a1, xs, rfl, h1, e1⟩ := d1
    obtain ⟨a2, ys, e0, h2, e2⟩ := d2
    cases e0
    rw [h1] at h2
    cases h2
    rw [cmpTh] at c
    rw [Dens.inj c e1 e2]
  | .lst ts, u, v, c, d1, d2 => by
    obtain ⟨us, rfl⟩ := cmp_lst c
    obtain ⟨a1, xs, rfl, h1, e1⟩ := d1
    obtain ⟨a2, ys, e0, h2, e2⟩ := d2
    cases e0
    rw [h1] at h2
    cases h2
    rw [cmpTh, Bool.and_eq_true] at c
    rw [Dens.inj c.1 e1 e2]
theorem Dens.inj {H : Hp} : ∀ {ts us : List Th} {xs : List V}, cmpThs ts us = true → Dens H ts xs → Dens H us xs → ts = us
  | [], [], _, _, _, _ => rfl
  | [], u :: us, xs, _, d1, d2 => by
    have e1 := d1.len
    have e2 := d2.len
    simp at e1 e2
    rw [e1] at e2
    simp at e2
  | t :: ts, [], xs, _, d1, d2 => by
    have e1 := d1.len
    have e2 := d2.len
    simp at e1 e2
    rw [e2] at e1
    simp at e1
  | t :: ts, u :: us, xs, c, d1, d2 => by
    obtain ⟨x, r, rfl, p1, q1⟩ := d1
    obtain ⟨x', r', e, p2, q2⟩ := d2
    cases e
    rw [cmpThs, Bool.and_eq_true] at c
    rw [Den.inj c.1 p1 p2, Dens.inj c.2 q1 q2]
end
section
variable {X : Cx}
end
theorem subL {cs : List (Str × Addr)} : ∀ {l : List (Str × Addr)}, (∀ p ∈ l, cs.lookup p.1 = some p.2) → ∀ (y : Str) (c : Addr), l.lookup y = some c → cs.lookup y = some c
  | [], _, y, c, h => by cases h
  | p :: l, k, y, c, h => by
    rw [List.lookup_cons] at h
    by_cases e : (y == p.1) = true
    · rw [e] at h
      have h' : p.2 = c := Option.some.inj h
      have ey : y = p.1 := beq_iff_eq.mp e
      rw [ey, ← h']
      exact k p (List.mem_cons_self ..)
    · have e' : (y == p.1) = false := Bool.eq_false_iff.mpr e
      rw [e'] at h
      exact subL (fun q hq => k q (List.mem_cons_of_mem _ hq)) y c h
theorem sub2 {cs : List (Str × Addr)} {x1 x2 : Str} {c1 c2 : Addr} (h1 : cs.lookup x1 = some c1) (h2 : cs.lookup x2 = some c2) : ∀ (y : Str) (c : Addr), List.lookup y [(x1, c1), (x2, c2)] = some c → cs.lookup y = some c :=
  subL fun p hp => by
    simp only [List.mem_cons, List.not_mem_nil, or_false] at hp
    rcases hp with rfl | rfl <;> assumption
theorem comp_rangeR {lo : Int} {n : Nat} {te : TE} {st : St} {H1 : Hp} {Q : VK} {D : Addr} (R : Nat → List V → Hp → Prop) (hD : H1 D = none) (hn : n ≤ sizeLine) (h0 : R 0 [] (upd H1 D (.lst [])))
    (hs : ∀ (i : Nat) (ys : List V) (H2 : Hp) (k : VK), i < n → Same H1 H2 → H2 D = some (.lst ys) → R i ys H2 → (∀ y H4, Same H2 H4 → R (i + 1) (ys ++ [y]) (upd H4 D (.lst (ys ++ [y]))) → k y H4) → te (some (.int (lo + i)) :: st) H2 k)
    (hd : ∀ ys H2, Same H1 H2 → H2 D = some (.lst ys) → ys.length = n → R n ys H2 → Q (.ref D) H2) : CompGo (Itr lo n) te st D H1 Q := by
  refine ⟨fun i m ys H2 => m = n - i ∧ i ≤ n ∧ ys.length = i ∧ Same H1 H2 ∧ H2 D = some (.lst ys) ∧ R i ys H2, ⟨n, by simp, Nat.zero_le _, rfl, same_upd (Same.refl H1) hD, upd_same, h0⟩, ?_⟩
  rintro i m ys H2 ⟨rfl, hi, hl, sm, e, r⟩
  by_cases hlt : i < n
  · refine .inr ⟨hlt, ?_⟩
    rintro x H3 ⟨rfl, rfl⟩
    refine hs i ys _ _ hlt sm e r fun y H4 s4 r4 => ⟨s4 _ _ e, by omega, n - (i + 1), by omega, rfl, hlt, by simp [hl], same_upd (sm.trans s4) hD, upd_same, r4⟩
  · have ei : i = n := by omega
    subst ei
    exact .inl ⟨Nat.le_refl _, hd ys H2 sm e hl r⟩
end L2
set_option maxHeartbeats 4000000
namespace L2
open PySem PySem.Spec PyProof.Rows
theorem comp_listR {K : PySem.W.Frag} {a : Addr} {xs : List V} {te : TE} {st : St} {H1 : Hp} {Q : VK} {D : Addr} (R : Nat → List V → Hp → Prop) (hD : H1 D = none) (q1 : SqL K H1 a xs) (hn : xs.length ≤ sizeLine) (h0 : R 0 [] (upd H1 D (.lst [])))
    (hs : ∀ (i : Nat) (x : V) (ys : List V) (H2 : Hp) (k : VK), xs[i]? = some x → Same H1 H2 → H2 D = some (.lst ys) → R i ys H2 → (∀ y H4, Same H2 H4 → R (i + 1) (ys ++ [y]) (upd H4 D (.lst (ys ++ [y]))) → k y H4) → te (some x :: st) H2 k)
    (hd : ∀ ys H2, Same H1 H2 → H2 D = some (.lst ys) → ys.length = xs.length → R xs.length ys H2 → Q (.ref D) H2) : CompGo (Itl K a) te st D H1 Q := by
  refine ⟨fun i m ys H2 => m = xs.length - i ∧ i ≤ xs.length ∧ ys.length = i ∧ Same H1 H2 ∧ H2 D = some (.lst ys) ∧ R i ys H2, ⟨xs.length, by simp, Nat.zero_le _, rfl, same_upd (Same.refl H1) hD, upd_same, h0⟩, ?_⟩
  rintro i m ys H2 ⟨rfl, hi, hl, sm, e, r⟩
  by_cases hlt : i < xs.length
  · have ex : xs[i]? = some xs[i] := List.getElem?_eq_getElem hlt
    refine .inr ⟨⟨xs, _, sm.seq q1, ex⟩, ?_⟩
    rintro x H3 ⟨rfl, hx⟩
    have hx' := hx xs (sm.seq q1)
    exact hs i x ys _ _ hx' sm e r fun y H4 s4 r4 => ⟨s4 _ _ e, by omega, xs.length - (i + 1), by omega, rfl, hlt, by simp [hl], same_upd (sm.trans s4) hD, upd_same, r4⟩
  · have ei : i = xs.length := by omega
    subst ei
    exact .inl ⟨⟨xs, sm.seq q1, Nat.le_refl _⟩, hd ys H2 sm e hl r⟩
end L2
set_option maxHeartbeats 4000000
namespace L2
open PySem PySem.Spec PyProof.Rows
section
variable {prog : Program} {w : World} {A : Around} {E : Value → Shared → Prop} {s : Shared}
theorem tnext_item {j tu : Addr} {i : Nat} {its : Array Value} {v : Value} {Q : Value → Shared → Prop} (hj : s.heap.IsTupleIter j tu i) (ht : s.heap.IsTuple tu its) (hv : its[i]? = some v)
    (k : ∀ g, g.IsTupleIter j tu (i + 1) → Heap.SameBut j s.heap g → Q v { s with heap := g }) : wpAny (model prog w) A (Builtin.SmallTypes.nextOf (.ref j)) Q E s := by
  obtain ⟨oj, ej, cj, dj⟩ := id hj
  obtain ⟨ot, et, _, nt, dt⟩ := ht
  unfold Builtin.SmallTypes.nextOf
  refine (wpAny_bind (wpAny_callSpecial?_slot (name := Str.ofString "__next__") hj.typeIs F.slot_tuple_iterator_next (wpAny_call_entry F.slot_tuple_iterator_next hj.typeIs F.entry_tuple_iterator_next ?_ (F.args_tuple_iterator_next_1 _))))
  show wpAny _ _ (field (.ref j) 0 >>= _) _ _ s
  refine (wpAny_bind (wpAny_field ej dj (x := .ref tu) rfl ?_))
  show wpAny _ _ (if (Value.ref tu == Value.none) = true then _ else _) _ _ s
  rw [if_neg (show ¬ ((Value.ref tu == Value.none) = true) from Bool.false_ne_true)]
  show wpAny _ _ (field (.ref j) 1 >>= _) _ _ s
  refine (wpAny_bind (wpAny_field ej dj (x := .int i 0) rfl ?_))
  show wpAny _ _ (seqItems? (.ref tu) >>= _) _ _ s
  refine (wpAny_bind (wpAny_seqItems et dt ?_))
  simp only [Int.toNat_natCast, hv]
  refine (wpAny_bind (wpAny_setField ej dj (by simp) (wpAny_pure ⟨v, rfl, wpAny_pure (k _ ?_ (Heap.SameBut.update ..))⟩)))
  refine ⟨_, Heap.get?_update_self _ ej (Obj.isFreed_of_fields (Obj.data_mapFields dj _)), (Obj.cls_mapFields ..).trans cj, ?_⟩
  rw [Obj.data_mapFields dj]
  simp [rawInt]
theorem tnext_end {j tu : Addr} {i : Nat} {its : Array Value} {Q : Value → Shared → Prop} (hh : A.handled = none) (hj : s.heap.IsTupleIter j tu i) (ht : s.heap.IsTuple tu its) (hv : its[i]? = none)
    (k : ∀ g e, Heap.ExtBut j s.heap g → (∃ o, g.get? e = some o ∧ o.cls = .type "StopIteration") → E (.ref e) { s with heap := g }) : wpAny (model prog w) A (Builtin.SmallTypes.nextOf (.ref j)) Q E s := by
  obtain ⟨oj, ej, cj, dj⟩ := id hj
  obtain ⟨ot, et, _, nt, dt⟩ := ht
  unfold Builtin.SmallTypes.nextOf
  refine (wpAny_bind (wpAny_callSpecial?_slot (name := Str.ofString "__next__") hj.typeIs F.slot_tuple_iterator_next (wpAny_call_entry F.slot_tuple_iterator_next hj.typeIs F.entry_tuple_iterator_next ?_ (F.args_tuple_iterator_next_1 _))))
  show wpAny _ _ (field (.ref j) 0 >>= _) _ _ s
  refine (wpAny_bind (wpAny_field ej dj (x := .ref tu) rfl ?_))
  show wpAny _ _ (if (Value.ref tu == Value.none) = true then _ else _) _ _ s
  rw [if_neg (show ¬ ((Value.ref tu == Value.none) = true) from Bool.false_ne_true)]
  show wpAny _ _ (field (.ref j) 1 >>= _) _ _ s
  refine (wpAny_bind (wpAny_field ej dj (x := .int i 0) rfl ?_))
  show wpAny _ _ (seqItems? (.ref tu) >>= _) _ _ s
  refine (wpAny_bind (wpAny_seqItems et dt ?_))
  simp only [Int.toNat_natCast, hv]
  refine (wpAny_bind (wpAny_rule (wpAny_bind (wpAny_setField ej dj (by simp) ?_))))
  show wpAny _ _ (newExc (.type "StopIteration") [] >>= _) (_) _ _
  refine (wpAny_bind ?_)
  simp only [newExc, newTuple]
  refine (wpAny_bind (wpAny_newObj_type ?_ (by size_fits)))
  refine (wpAny_bind (m := firstArgMember _ _) (wpAny_of_eq (a := Value.none) (by first | rfl | (simp only [firstArgMember]; rfl)) ?_))
  refine (wpAny_newObj_type ?_ (by size_fits))
  simp only [raiseNew]
  refine (wpAny_bind (wpAny_handled ?_))
  rw [show A.in1.handled = none from hh]
  refine (wpAny_bind (wpAny_pure (wpAny_throw ?_)))
  exact k _ _ (((Heap.SameBut.update ..).extBut.push _).push _) ⟨_, Heap.get?_push_size _ rfl, rfl⟩
end
end L2
set_option maxHeartbeats 4000000
namespace L2
open PySem PySem.Spec PyProof.Rows
section
variable {X : Cx}
end
section
variable {X : Cx}
end
end L2
set_option maxHeartbeats 4000000
namespace L2
open PySem PySem.Spec PyProof.Rows
section
variable {X : Cx} {e st : Expr} {te ts : TE} {pos p2 : Pos}
end
end L2
set_option maxHeartbeats 4000000
namespace L2
open PySem PySem.Spec PyProof.Rows
section
variable {X : Cx}
end
end L2
namespace Gc
theorem gstep {a b : Int} (ha : 0 ≤ a) (hb : 0 ≤ b) (h : b ≠ 0) : Int.gcd b (a % b) = Int.gcd a b := by
  rw [Int.gcd_comm a b]
  unfold Int.gcd
  have e : (a % b).natAbs = a.natAbs % b.natAbs := by
    rw [Int.natAbs_emod_of_nonneg ha]
  rw [e, Nat.gcd_comm b.natAbs (a.natAbs % b.natAbs), ← Nat.gcd_rec]
theorem gend {a : Int} (ha : 0 ≤ a) : (Int.gcd a 0 : Int) = a := by
  rw [Int.gcd_zero_right]; omega
theorem gabs (a b : Int) : Int.gcd (if a < 0 then -a else a) (if b < 0 then -b else b) = Int.gcd a b := by
  unfold Int.gcd
  have h1 : (if a < 0 then -a else a).natAbs = a.natAbs := by split <;> omega
  have h2 : (if b < 0 then -b else b).natAbs = b.natAbs := by split <;> omega
  rw [h1, h2]
end Gc
namespace Gc
theorem fdiv_mul {g t : Int} (h : g ≠ 0) : (g * t).fdiv g = t := by
  rw [Int.mul_comm]; exact Int.mul_fdiv_cancel _ h
noncomputable def frD (t b : Int) : Int := if b < 0 then -(Int.gcd t b : Int) else (Int.gcd t b : Int)
noncomputable def frT (t b : Int) : Int := t.fdiv (frD t b)
noncomputable def frB (t b : Int) : Int := b.fdiv (frD t b)
theorem gne {t b : Int} (h : b ≠ 0) : Int.gcd t b ≠ 0 := fun e => h (Int.gcd_eq_zero_iff.mp e).2
theorem frD_ne {t b : Int} (h : b ≠ 0) : frD t b ≠ 0 := by
  have := gne (t := t) h
  unfold frD; split <;> omega
theorem fr_split {t b : Int} (h : b ≠ 0) : t = frD t b * frT t b ∧ b = frD t b * frB t b := by
  have hd : (Int.gcd t b : Int) ∣ t := Int.gcd_dvd_left ..
  have hb : (Int.gcd t b : Int) ∣ b := Int.gcd_dvd_right ..
  have hd' : frD t b ∣ t := by unfold frD; split; · exact Int.neg_dvd.mpr hd
                               · exact hd
  have hb' : frD t b ∣ b := by unfold frD; split; · exact Int.neg_dvd.mpr hb
                               · exact hb
  obtain ⟨x, hx⟩ := hd'
  obtain ⟨y, hy⟩ := hb'
  have ne := frD_ne (t := t) h
  generalize hD : frD t b = d at *
  have e1 : frT t b = x := by unfold frT; rw [hD]; conv => lhs; rw [hx]
                              exact fdiv_mul ne
  have e2 : frB t b = y := by unfold frB; rw [hD]; conv => lhs; rw [hy]
                              exact fdiv_mul ne
  rw [e1, e2]; exact ⟨hx, hy⟩
theorem frB_pos {t b : Int} (h : b ≠ 0) : 0 < frB t b := by
  obtain ⟨_, e⟩ := fr_split (t := t) h
  have g := gne (t := t) h
  rcases Int.lt_trichotomy (frB t b) 0 with c | c | c
  · exfalso
    by_cases hb : b < 0
    · have hd : frD t b < 0 := by unfold frD; rw [if_pos hb]; omega
      have := Int.mul_pos_of_neg_of_neg hd c
      omega
    · have hd : 0 < frD t b := by unfold frD; rw [if_neg hb]; omega
      have := Int.mul_neg_of_pos_of_neg hd c
      omega
  · rw [c, Int.mul_zero] at e; exact absurd e h
  · exact c
theorem fr_gcd {t b : Int} (h : b ≠ 0) : Int.gcd (frT t b) (frB t b) = 1 := by
  obtain ⟨e1, e2⟩ := fr_split (t := t) h
  have g := gne (t := t) h
  have k : Int.gcd t b = (frD t b).natAbs * Int.gcd (frT t b) (frB t b) := by
    rw [← Int.gcd_mul_left, ← e1, ← e2]
  have hn : (frD t b).natAbs = Int.gcd t b := by unfold frD; split <;> omega
  rw [hn] at k
  have : Int.gcd t b * 1 = Int.gcd t b * Int.gcd (frT t b) (frB t b) := by rw [Nat.mul_one]; exact k
  exact (Nat.eq_of_mul_eq_mul_left (Nat.pos_of_ne_zero g) this).symm
theorem fr_cross {t b : Int} (h : b ≠ 0) : frT t b * b = t * frB t b := by
  obtain ⟨e1, e2⟩ := fr_split (t := t) h
  generalize frT t b = x at *
  generalize frB t b = y at *
  generalize frD t b = d at *
  subst e1 e2
  rw [Int.mul_left_comm, Int.mul_assoc]
theorem dvd_cop {k m n : Int} (h : k ∣ m * n) (c : Int.gcd k m = 1) : k ∣ n := by
  have h' : k.natAbs ∣ m.natAbs * n.natAbs := by rw [← Int.natAbs_mul]; exact Int.natAbs_dvd_natAbs.mpr h
  exact Int.natAbs_dvd_natAbs.mp (Nat.Coprime.dvd_of_dvd_mul_left c h')
theorem fr_same {a b c d : Int} (hb : 0 < b) (hd : 0 < d) (g1 : Int.gcd a b = 1) (g2 : Int.gcd c d = 1) (e : a * d = c * b) : a = c ∧ b = d := by
  have h1 : b ∣ d := by
    have : b ∣ a * d := ⟨c, by rw [e, Int.mul_comm]⟩
    have k : Int.gcd b a = 1 := by rw [Int.gcd_comm]; exact g1
    exact dvd_cop this k
  have h2 : d ∣ b := by
    have : d ∣ c * b := ⟨a, by rw [← e, Int.mul_comm]⟩
    have k : Int.gcd d c = 1 := by rw [Int.gcd_comm]; exact g2
    exact dvd_cop this k
  have hbd : b = d := Int.dvd_antisymm (by omega) (by omega) h1 h2
  subst hbd
  exact ⟨Int.eq_of_mul_eq_mul_right (by omega) e, rfl⟩
end Gc
namespace Gc
theorem cancel {k x y : Int} (h : k ≠ 0) (e : k * x = k * y) : x = y := Int.eq_of_mul_eq_mul_left h e
theorem fr_is {t b c d : Int} (hb : b ≠ 0) (hd : 0 < d) (g : Int.gcd c d = 1) (e : t * d = c * b) : frT t b = c ∧ frB t b = d := by
  have h := fr_cross (t := t) hb
  refine fr_same (frB_pos hb) hd (fr_gcd hb) g ?_
  refine cancel hb ?_
  generalize frT t b = x at *
  generalize frB t b = y at *
  grind
noncomputable def Sz (n : Nat) (i : Int) : Prop := i.natAbs < 2 ^ n
theorem Sz.mono {m n : Nat} {i : Int} (h : Sz m i) (hn : m ≤ n) : Sz n i := Nat.lt_of_lt_of_le h (Nat.pow_le_pow_right (by decide) hn)
theorem Sz.mul {m n : Nat} {i j : Int} (h1 : Sz m i) (h2 : Sz n j) : Sz (m + n) (i * j) := by
  unfold Sz at *
  rw [Int.natAbs_mul, Nat.pow_add]
  exact Nat.mul_lt_mul'' h1 h2
theorem Sz.sub {n : Nat} {i j : Int} (h1 : Sz n i) (h2 : Sz n j) : Sz (n + 1) (i - j) := by
  unfold Sz at *
  rw [Nat.pow_succ]; omega
theorem Sz.fr {n m : Nat} {a b : Int} (h : b ≠ 0) (sa : Sz n a) (sb : Sz m b) : Sz n (frT a b) ∧ Sz m (frB a b) := by
  obtain ⟨e1, e2⟩ := fr_split (t := a) h
  have nd := frD_ne (t := a) h
  have h1 : (frT a b).natAbs ≤ a.natAbs := by
    have : a.natAbs = (frD a b).natAbs * (frT a b).natAbs := by rw [← Int.natAbs_mul, ← e1]
    rw [this]; exact Nat.le_mul_of_pos_left _ (by omega)
  have h2 : (frB a b).natAbs ≤ b.natAbs := by
    have : b.natAbs = (frD a b).natAbs * (frB a b).natAbs := by rw [← Int.natAbs_mul, ← e2]
    rw [this]; exact Nat.le_mul_of_pos_left _ (by omega)
  exact ⟨Nat.lt_of_le_of_lt h1 sa, Nat.lt_of_le_of_lt h2 sb⟩
structure FrOK (a b : Int) : Prop where
  pos : 0 < b
  low : Int.gcd a b = 1
  s1 : Sz 200 a
  s2 : Sz 200 b
theorem FrOK.of {a b : Int} (h : 0 < b) (sa : Sz 200 a) (sb : Sz 200 b) : FrOK (frT a b) (frB a b) :=
  have z := Sz.fr (by omega) sa sb
  ⟨frB_pos (by omega), fr_gcd (by omega), z.1, z.2⟩
theorem frD_pos {a b : Int} (h : 0 < b) : frD a b = Int.gcd a b := if_neg (by omega)
end Gc
namespace Ch
noncomputable def binom : Nat → Nat → Nat
  | _, 0 => 1
  | 0, _ + 1 => 0
  | n + 1, k + 1 => binom n k + binom n (k + 1)
theorem b0 (n : Nat) : binom n 0 = 1 := by cases n <;> rfl
theorem bs (n k : Nat) : binom (n + 1) (k + 1) = binom n k + binom n (k + 1) := rfl
theorem blt : ∀ {n k : Nat}, n < k → binom n k = 0
  | 0, k + 1, _ => rfl
  | n + 1, k + 1, h => by rw [bs, blt (by omega : n < k), blt (by omega : n < k + 1)]
noncomputable def bits (b : Nat) : Nat → Nat
  | 0 => 0
  | j + 1 => bits b j + b / 2 ^ j % 2
noncomputable def cnt (n : Nat) (k : Int) : Nat → Nat
  | 0 => 0
  | b + 1 => cnt n k b + (if (bits b n : Int) = k then 1 else 0)
end Ch
namespace Gc
open Ch
theorem rle {a b c : Rat} (h : a ≤ b) (hc : 0 ≤ c) : c * a ≤ c * b := Rat.mul_le_mul_of_nonneg_left h hc
noncomputable def sm (f : Nat → Rat) : Nat → Rat
  | 0 => 0
  | m + 1 => sm f m + f m
end Gc
namespace Gc
open Ch
noncomputable def Cvx (G : Nat → Rat) : Prop := ∀ k, G (k + 1) - G k ≤ G (k + 2) - G (k + 1)
theorem Cvx.steps {G : Nat → Rat} (h : Cvx G) (a : Nat) : ∀ e, G (a + 1) - G a ≤ G (a + e + 1) - G (a + e)
  | 0 => Rat.le_refl
  | e + 1 => by
      have := h.steps a e
      have s := h (a + e)
      have e1 : a + (e + 1) = a + e + 1 := by omega
      have e2 : a + (e + 1) + 1 = a + e + 2 := by omega
      rw [e2, e1]; grind
theorem Cvx.up {G : Nat → Rat} (h : Cvx G) (a : Nat) : ∀ e : Nat, (e : Rat) * (G (a + 1) - G a) ≤ G (a + e) - G a
  | 0 => by have : a + 0 = a := rfl
            rw [this]; push_cast; grind
  | e + 1 => by
      have i := h.up a e
      have s := h.steps a e
      have e1 : a + (e + 1) = a + e + 1 := by omega
      rw [e1]; push_cast; grind
theorem Cvx.dn {G : Nat → Rat} (h : Cvx G) (a : Nat) : ∀ e : Nat, G (a + e) - G a ≤ (e : Rat) * (G (a + e + 1) - G (a + e))
  | 0 => by have : a + 0 = a := rfl
            rw [this]; push_cast; grind
  | e + 1 => by
      have i := h.dn a e
      have s := h (a + e)
      have m := rle s (show (0 : Rat) ≤ (e : Rat) by exact_mod_cast Nat.zero_le e)
      have e1 : a + (e + 1) = a + e + 1 := by omega
      have e2 : a + (e + 1) + 1 = a + e + 2 := by omega
      rw [e2, e1]; push_cast; grind
theorem castpos {e : Nat} (h : 0 < e) : (0 : Rat) < (e : Rat) := by exact_mod_cast h
theorem pos_of {e x : Rat} (he : 0 < e) (h : 0 < e * x) : 0 < x := by
  by_cases hx : 0 < x
  · exact hx
  · have := rle (show x ≤ 0 by grind) (show 0 ≤ e by grind); grind
theorem nonneg_of {e x : Rat} (he : 0 < e) (h : 0 ≤ e * x) : 0 ≤ x := by
  by_cases hx : 0 ≤ x
  · exact hx
  · have := Rat.mul_pos he (show 0 < -x by grind); grind
theorem Cvx.out {G : Nat → Rat} (h : Cvx G) {a d k : Nat} (ha : G a = 0) (hd : G d = 0) (had : a < d) (h1 : k ≤ a ∨ d ≤ k) : 0 ≤ G k := by
  obtain ⟨f, rfl⟩ := Nat.exists_eq_add_of_le (Nat.le_of_lt had)
  have fp := castpos (show 0 < f by omega)
  cases h1 with
  | inl h1 =>
    obtain ⟨e, rfl⟩ := Nat.exists_eq_add_of_le h1
    have u := h.dn k e
    have v := h.up (k + e) f
    have x : 0 ≤ -(G (k + e + 1) - G (k + e)) := nonneg_of fp (by grind)
    have y := Rat.mul_nonneg (show (0 : Rat) ≤ (e : Rat) by exact_mod_cast Nat.zero_le e) x
    grind
  | inr h1 =>
    obtain ⟨e, rfl⟩ := Nat.exists_eq_add_of_le h1
    have u := h.dn a f
    have v := h.up (a + f) e
    have x : 0 ≤ G (a + f + 1) - G (a + f) := nonneg_of fp (by grind)
    have y := Rat.mul_nonneg (show (0 : Rat) ≤ (e : Rat) by exact_mod_cast Nat.zero_le e) x
    grind
end Gc
namespace Gc
open Ch
theorem rden (r : Rat) : (0 : Int) < (r.den : Int) := by have := r.den_nz; omega
theorem rgcd (r : Rat) : Int.gcd r.num (r.den : Int) = 1 := by
  have := r.reduced
  rw [Int.gcd]; simpa [Nat.Coprime] using this
theorem rdenQ (r : Rat) : (r.den : Rat) ≠ 0 := by
  have := r.den_nz
  intro h; exact this (by exact_mod_cast h)
theorem rsplit (r : Rat) : r * (r.den : Rat) = (r.num : Rat) := by
  have h := Rat.mkRat_self r
  rw [Rat.mkRat_eq_div] at h
  have d := rdenQ r
  generalize (r.num : Rat) = x at *
  generalize (r.den : Rat) = y at *
  grind
theorem fr_rat {t b : Int} (h : b ≠ 0) {r : Rat} (e : r * (b : Rat) = (t : Rat)) : frT t b = r.num ∧ frB t b = (r.den : Int) := by
  refine fr_is h (rden r) (rgcd r) ?_
  have s := rsplit r
  have : ((t * (r.den : Int) : Int) : Rat) = ((r.num * b : Int) : Rat) := by push_cast; rw [← e, ← s]; grind
  exact_mod_cast this
theorem castlt {a b : Int} : ((a : Rat) < (b : Rat)) ↔ a < b := Rat.intCast_lt_intCast
theorem r_under (r s : Rat) : r.num * (s.den : Int) < s.num * (r.den : Int) ↔ r < s := by
  have a := rsplit r; have b := rsplit s
  have dr : (0 : Rat) < (r.den : Rat) := by exact_mod_cast (show 0 < r.den by have := r.den_nz; omega)
  have ds : (0 : Rat) < (s.den : Rat) := by exact_mod_cast (show 0 < s.den by have := s.den_nz; omega)
  have p := Rat.mul_pos dr ds
  rw [← castlt]; push_cast; rw [← a, ← b]
  constructor
  · intro h
    have := pos_of p (x := s - r) (by grind); grind
  · intro h
    have := Rat.mul_pos p (show 0 < s - r by grind); grind
theorem r_nonneg (r : Rat) : 0 ≤ r.num ↔ 0 ≤ r := Rat.num_nonneg
theorem r_le1 (r : Rat) : r.num ≤ (r.den : Int) ↔ r ≤ 1 := by
  have := r_under 1 r
  have e1 : (1 : Rat).num = 1 := rfl
  have e2 : ((1 : Rat).den : Int) = 1 := rfl
  rw [e1, e2] at this
  constructor
  · intro h
    by_cases c : 1 < r
    · exact absurd (this.mpr c) (by omega)
    · grind
  · intro h
    by_cases c : 1 * (r.den : Int) < r.num * 1
    · have := this.mp c; grind
    · omega
noncomputable def rq (t b : Int) : Rat := (t : Rat) / (b : Rat)
noncomputable def Ov (B : Nat) (r : Rat) : Prop := ∃ m : Int, r * (B : Rat) = (m : Rat)
theorem Ov.dvd {B : Nat} {r : Rat} (h : Ov B r) : r.den ∣ B := by
  obtain ⟨m, hm⟩ := h
  have s := rsplit r
  have : ((r.num * (B : Int) : Int) : Rat) = ((m * (r.den : Int) : Int) : Rat) := by push_cast; rw [← hm, ← s]; grind
  have e : r.num * (B : Int) = m * (r.den : Int) := by exact_mod_cast this
  have d : (r.den : Int) ∣ (B : Int) := dvd_cop (k := (r.den : Int)) (m := r.num) ⟨m, by rw [e]; exact Int.mul_comm _ _⟩ (by rw [Int.gcd_comm]; exact rgcd r)
  exact_mod_cast d
theorem Ov.self (r : Rat) : Ov r.den r := ⟨r.num, rsplit r⟩
theorem Ov.sub {B : Nat} {r s : Rat} (h : Ov B r) (k : Ov B s) : Ov B (r - s) := by
  obtain ⟨a, ha⟩ := h; obtain ⟨b, hb⟩ := k
  exact ⟨a - b, by push_cast; rw [← ha, ← hb]; grind⟩
theorem Ov.mul {A B : Nat} {r s : Rat} (h : Ov A r) (k : Ov B s) : Ov (A * B) (r * s) := by
  obtain ⟨a, ha⟩ := h; obtain ⟨b, hb⟩ := k
  exact ⟨a * b, by push_cast; rw [← ha, ← hb]; grind⟩
theorem Ov.up {A B : Nat} {r : Rat} (h : Ov A r) (k : A ∣ B) : Ov B r := by
  obtain ⟨c, rfl⟩ := k
  obtain ⟨a, ha⟩ := h
  exact ⟨a * c, by push_cast; rw [← ha]; grind⟩
theorem Ov.pow {B : Nat} {r : Rat} (h : Ov B r) : ∀ n : Nat, Ov (B ^ n) (r ^ n)
  | 0 => ⟨1, by simp⟩
  | n + 1 => by rw [Rat.pow_succ, Nat.pow_succ]; exact (h.pow n).mul h
theorem Ov.one (B : Nat) : Ov B 1 := ⟨(B : Int), by push_cast; grind⟩
structure RSz (n : Nat) (r : Rat) : Prop where
  t : Sz n r.num
  b : Sz n (r.den : Int)
theorem RSz.of {n B : Nat} {r : Rat} (h : Ov B r) (hB : 0 < B) (hn : B < 2 ^ n) (h0 : 0 ≤ r) (h1 : r ≤ 1) : RSz n r := by
  have a := (r_nonneg r).mpr h0
  have b := (r_le1 r).mpr h1
  have c := Nat.le_of_dvd hB h.dvd
  constructor <;> (unfold Sz; omega)
end Gc
namespace Gc
open Ch
theorem cross {r : Rat} {t b : Int} (e : r * (b : Rat) = (t : Rat)) : r.num * b = t * (r.den : Int) := by
  have s := rsplit r
  have : ((r.num * b : Int) : Rat) = ((t * (r.den : Int) : Int) : Rat) := by push_cast; rw [← e, ← s]; grind
  exact_mod_cast this
end Gc
namespace Gc
open Ch
end Gc
namespace Gc
noncomputable def lower (r : Rat) : List Rat → Nat
  | [] => 0
  | x :: xs => if x < r then lower r xs + 1 else 0
noncomputable def insR (r : Rat) (l : List Rat) : List Rat := l.take (lower r l) ++ r :: l.drop (lower r l)
noncomputable def srt : List Rat → List Rat := List.foldl (fun acc r => insR r acc) []
noncomputable abbrev Up (l : List Rat) : Prop := l.Pairwise (· ≤ ·)
theorem Up.at {l : List Rat} (h : Up l) {i j : Nat} {x y : Rat} (hij : i ≤ j) (ex : l[i]? = some x) (ey : l[j]? = some y) : x ≤ y := by
  by_cases e : i = j
  · subst e; rw [ex] at ey; cases ey; exact Rat.le_refl
  · obtain ⟨hi, rfl⟩ := List.getElem?_eq_some_iff.mp ex
    obtain ⟨hj, rfl⟩ := List.getElem?_eq_some_iff.mp ey
    exact List.pairwise_iff_getElem.mp h i j hi hj (by omega)
end Gc
namespace Gc
end Gc
namespace Pe
noncomputable def wrd (p : Int × Int) (k : Int) : Option Bool := if k ≤ p.1 then some false else if p.2 ≤ k then some true else none
noncomputable def sm : Nat → (Nat → Int) → Int
  | 0, _ => 0
  | n + 1, f => sm n f + f n
noncomputable def bAt (bs : List (Int × Int)) (t : Nat) : Int × Int := bs.getD t (0, 0)
noncomputable def gw (bs : List (Int × Int)) : Nat → Nat → Int
  | 0, k => if k = 0 then 1 else 0
  | t + 1, k => if wrd (bAt bs t) k = none then gw bs t k + (if k = 0 then 0 else gw bs t (k - 1)) else 0
noncomputable def wy (bs : List (Int × Int)) (t k : Nat) : Int := gw bs t k + (if k = 0 then 0 else gw bs t (k - 1))
noncomputable def wT (a c : Int) (t k : Nat) : Int := a ^ k * c ^ (t - k)
noncomputable def eT (bs : List (Int × Int)) (a c : Int) (f : Bool → Bool) (t : Nat) : Int := sm (t + 2) fun k => if (wrd (bAt bs t) k).any f then wy bs t k * wT a c (t + 1) k else 0
noncomputable def all2 : Bool → Bool := fun _ => true
noncomputable def eN (bs : List (Int × Int)) (a c : Int) (f : Bool → Bool) (n t : Nat) : Int := eT bs a c f t * (a + c) ^ (n - (t + 1))
noncomputable def mN (bs : List (Int × Int)) (a c : Int) (n m : Nat) : Int := sm m fun t => ((t : Int) + 1) * eN bs a c all2 n t
end Pe
namespace Ec
noncomputable def cnR : List Int → Nat → Int → Int
  | [], 0, t => if t = 0 then 1 else 0
  | [], _ + 1, _ => 0
  | _ :: r, 0, t => cnR r 0 t
  | v :: r, j + 1, t => cnR r (j + 1) t + cnR r j (t - v)
theorem cnR_perm {a b : List Int} (h : a.Perm b) : ∀ (j : Nat) (t : Int), cnR a j t = cnR b j t := by
  induction h with
  | nil => intro j t; rfl
  | cons x _ ih =>
    intro j t
    cases j with
    | zero => exact ih 0 t
    | succ j => show cnR _ (j + 1) t + cnR _ j (t - x) = cnR _ (j + 1) t + cnR _ j (t - x); rw [ih, ih]
  | swap x y l =>
    intro j t
    match j with
    | 0 => rfl
    | 1 => show cnR l 1 t + cnR l 0 (t - x) + cnR l 0 (t - y) = cnR l 1 t + cnR l 0 (t - y) + cnR l 0 (t - x); omega
    | j + 2 =>
      show cnR l (j + 2) t + cnR l (j + 1) (t - x) + (cnR l (j + 1) (t - y) + cnR l j (t - y - x)) = cnR l (j + 2) t + cnR l (j + 1) (t - y) + (cnR l (j + 1) (t - x) + cnR l j (t - x - y))
      rw [show t - y - x = t - x - y by omega]
      omega
  | trans _ _ ih1 ih2 => intro j t; rw [ih1, ih2]
theorem cnR_snoc0 (vs : List Int) (v t : Int) : cnR (vs ++ [v]) 0 t = cnR vs 0 t := by
  rw [cnR_perm (List.perm_append_comm (l₁ := vs) (l₂ := [v]))]
  rfl
theorem cnR_snoc (vs : List Int) (v : Int) (j : Nat) (t : Int) : cnR (vs ++ [v]) (j + 1) t = cnR vs (j + 1) t + cnR vs j (t - v) := by
  rw [cnR_perm (List.perm_append_comm (l₁ := vs) (l₂ := [v]))]
  rfl
noncomputable def ch : Nat → Nat → Nat
  | _, 0 => 1
  | 0, _ + 1 => 0
  | n + 1, k + 1 => ch n (k + 1) + ch n k
theorem ch_mono (n k : Nat) : ch n k ≤ ch (n + 1) k := by
  cases k with
  | zero => cases n <;> exact Nat.le_refl _
  | succ k => exact Nat.le_add_right _ _
theorem sum_one {s : Int} : ∀ {l : List Int}, l.Nodup → (l.map fun t => if s = t then (1 : Int) else 0).sum = if s ∈ l then 1 else 0
  | [], _ => rfl
  | x :: l, h => by
    rw [List.nodup_cons] at h
    rw [List.map_cons, List.sum_cons, sum_one h.2]
    by_cases c : s = x
    · subst c
      rw [if_pos rfl, if_neg h.1, if_pos (by simp)]
      rfl
    · rw [if_neg c, Int.zero_add]
      by_cases d : s ∈ l
      · rw [if_pos d, if_pos (by simp [d])]
      · rw [if_neg d, if_neg (by simp [c, d])]
theorem sum_add {α : Type} (f g : α → Int) : ∀ l : List α, (l.map fun x => f x + g x).sum = (l.map f).sum + (l.map g).sum
  | [] => rfl
  | x :: l => by
    rw [List.map_cons, List.map_cons, List.map_cons, List.sum_cons, List.sum_cons, List.sum_cons, sum_add f g l]
    omega
theorem sum_zero {α : Type} {f : α → Int} : ∀ {l : List α}, (∀ x ∈ l, f x = 0) → (l.map f).sum = 0
  | [], _ => rfl
  | x :: l, h => by
    rw [List.map_cons, List.sum_cons, h x (by simp), sum_zero fun y hy => h y (by simp [hy])]
    rfl
noncomputable def ct (S : List Int) (t : Int) : Int := ((S.filter fun s => decide (s = t)).length : Int)
theorem ct_cons (s : Int) (S : List Int) (t : Int) : ct (s :: S) t = ct S t + if s = t then 1 else 0 := by
  unfold ct
  by_cases c : s = t
  · rw [List.filter_cons_of_pos (by simpa using c), if_pos c]
    simp
  · rw [List.filter_cons_of_neg (by simpa using c), if_neg c, Int.add_zero]
theorem sum_ct {ms : List Int} (nd : ms.Nodup) (P : Int → Bool) : ∀ {S : List Int}, (∀ s ∈ S, s ∈ ms) → ((ms.filter P).map (ct S)).sum = ((S.filter P).length : Int)
  | [], _ => by
    rw [sum_zero (f := ct []) fun x _ => rfl]
    rfl
  | s :: S, h => by
    have ih := sum_ct nd P (S := S) fun x hx => h x (by simp [hx])
    have e : (ms.filter P).map (ct (s :: S)) = (ms.filter P).map fun t => ct S t + if s = t then 1 else 0 := List.map_congr_left fun t _ => ct_cons s S t
    rw [e, sum_add, ih, sum_one (nd.sublist List.filter_sublist)]
    have hs := h s (by simp)
    cases p : P s with
    | true =>
      rw [if_pos (List.mem_filter.mpr ⟨hs, p⟩), List.filter_cons_of_pos (by simpa using p)]
      simp
    | false =>
      rw [if_neg (fun z => by have := (List.mem_filter.mp z).2; rw [p] at this; cases this), List.filter_cons_of_neg (by simp [p]), Int.add_zero]
theorem ct_mem {S : List Int} {s : Int} (h : s ∈ S) : ct S s ≠ 0 := by
  unfold ct
  have : s ∈ S.filter fun x => decide (x = s) := List.mem_filter.mpr ⟨h, by simp⟩
  have := List.length_pos_of_mem this
  omega
noncomputable abbrev Spl := List Int × List Int
noncomputable def one1 (sz : Nat) (v : Int) (p : Spl) : List Spl := if p.1.length < sz then [(p.1 ++ [v], p.2)] else []
noncomputable def two1 (r : Nat) (v : Int) (p : Spl) : List Spl := if p.2.length < r then [(p.1, p.2 ++ [v])] else []
noncomputable def stp (sz r : Nat) (v : Int) (fs : List Spl) : List Spl := fs.flatMap fun p => one1 sz v p ++ two1 r v p
noncomputable def cq (fs : List Spl) (j : Nat) (t : Int) : Int := ((fs.filter fun p => decide (p.1.length = j ∧ p.1.sum = t)).length : Int)
structure SpOk (sz r : Nat) (vs : List Int) (fs : List Spl) : Prop where
  per : ∀ p ∈ fs, (p.1 ++ p.2).Perm vs
  l1 : ∀ p ∈ fs, p.1.length ≤ sz
  l2 : ∀ p ∈ fs, p.2.length ≤ r
  cnt : ∀ j t, j ≤ sz → vs.length - j ≤ r → cq fs j t = cnR vs j t
theorem cq_app (a b : List Spl) (j : Nat) (t : Int) : cq (a ++ b) j t = cq a j t + cq b j t := by
  unfold cq
  rw [List.filter_append, List.length_append]
  omega
theorem cq_cons (p : Spl) (a : List Spl) (j : Nat) (t : Int) : cq (p :: a) j t = cq [p] j t + cq a j t := cq_app [p] a j t
theorem cq_one (p : Spl) (j : Nat) (t : Int) : cq [p] j t = if p.1.length = j ∧ p.1.sum = t then 1 else 0 := by
  unfold cq
  by_cases c : p.1.length = j ∧ p.1.sum = t
  · rw [List.filter_cons_of_pos (by simpa using c), if_pos c]; rfl
  · rw [List.filter_cons_of_neg (by simpa using c), if_neg c]; rfl
theorem sum_snoc (l : List Int) (v : Int) : (l ++ [v]).sum = l.sum + v := by simp
theorem cq_step0 {sz r : Nat} {v t : Int} : ∀ {fs : List Spl}, (∀ p ∈ fs, p.1.length = 0 → p.2.length < r) → cq (stp sz r v fs) 0 t = cq fs 0 t
  | [], _ => rfl
  | p :: fs, h => by
    have ih := cq_step0 (sz := sz) (v := v) (t := t) (fs := fs) fun q hq => h q (by simp [hq])
    show cq ((one1 sz v p ++ two1 r v p) ++ stp sz r v fs) 0 t = _
    rw [cq_app, cq_app, ih, cq_cons p fs]
    have e1 : cq (one1 sz v p) 0 t = 0 := by
      unfold one1
      split
      · rw [cq_one, if_neg (by simp)]
      · rfl
    have e2 : cq (two1 r v p) 0 t = cq [p] 0 t := by
      unfold two1
      split
      · rw [cq_one, cq_one]
      · rename_i c
        rw [cq_one, if_neg (fun z => c (h p (by simp) z.1))]
        rfl
    rw [e1, e2]
    omega
theorem cq_step {sz r : Nat} {v t : Int} {j : Nat} (hj : j + 1 ≤ sz) : ∀ {fs : List Spl}, (∀ p ∈ fs, p.1.length = j + 1 → p.2.length < r) → cq (stp sz r v fs) (j + 1) t = cq fs (j + 1) t + cq fs j (t - v)
  | [], _ => rfl
  | p :: fs, h => by
    have ih := cq_step (v := v) (t := t) hj (fs := fs) fun q hq => h q (by simp [hq])
    show cq ((one1 sz v p ++ two1 r v p) ++ stp sz r v fs) (j + 1) t = _
    rw [cq_app, cq_app, ih, cq_cons p fs (j + 1), cq_cons p fs j]
    have e1 : cq (one1 sz v p) (j + 1) t = cq [p] j (t - v) := by
      unfold one1
      split
      · rw [cq_one, cq_one]
        show (if (p.1 ++ [v]).length = j + 1 ∧ (p.1 ++ [v]).sum = t then (1 : Int) else 0) = _
        rw [sum_snoc, List.length_append]
        have : (p.1.length + [v].length = j + 1 ∧ p.1.sum + v = t) ↔ (p.1.length = j ∧ p.1.sum = t - v) := by simp; omega
        simp only [this]
      · rename_i c
        rw [cq_one, if_neg (fun z => c (by omega))]
        rfl
    have e2 : cq (two1 r v p) (j + 1) t = cq [p] (j + 1) t := by
      unfold two1
      split
      · rw [cq_one, cq_one]
      · rename_i c
        rw [cq_one, if_neg (fun z => c (h p (by simp) z.1))]
        rfl
    rw [e1, e2]
    omega
theorem stp_mem {sz r : Nat} {v : Int} {fs : List Spl} {q : Spl} (h : q ∈ stp sz r v fs) : ∃ p ∈ fs, (p.1.length < sz ∧ q = (p.1 ++ [v], p.2)) ∨ (p.2.length < r ∧ q = (p.1, p.2 ++ [v])) := by
  obtain ⟨p, hp, hq⟩ := List.mem_flatMap.mp h
  refine ⟨p, hp, ?_⟩
  rcases List.mem_append.mp hq with z | z
  · unfold one1 at z
    split at z
    · rename_i c; exact .inl ⟨c, List.mem_singleton.mp z⟩
    · cases z
  · unfold two1 at z
    split at z
    · rename_i c; exact .inr ⟨c, List.mem_singleton.mp z⟩
    · cases z
theorem SpOk.step {sz r : Nat} {vs : List Int} {fs : List Spl} (h : SpOk sz r vs fs) (v : Int) : SpOk sz r (vs ++ [v]) (stp sz r v fs) where
  per := fun q hq => by
    obtain ⟨p, hp, ⟨_, rfl⟩ | ⟨_, rfl⟩⟩ := stp_mem hq
    · show (p.1 ++ [v] ++ p.2).Perm (vs ++ [v])
      have a := h.per p hp
      have b : (p.1 ++ [v] ++ p.2).Perm (p.1 ++ p.2 ++ [v]) := by
        rw [List.append_assoc, List.append_assoc]
        exact (List.perm_append_comm (l₁ := [v]) (l₂ := p.2)).append_left p.1
      exact b.trans (a.append_right [v])
    · show (p.1 ++ (p.2 ++ [v])).Perm (vs ++ [v])
      rw [← List.append_assoc]
      exact (h.per p hp).append_right [v]
  l1 := fun q hq => by
    obtain ⟨p, hp, ⟨c, rfl⟩ | ⟨_, rfl⟩⟩ := stp_mem hq
    · show (p.1 ++ [v]).length ≤ sz
      simp; omega
    · exact h.l1 p hp
  l2 := fun q hq => by
    obtain ⟨p, hp, ⟨_, rfl⟩ | ⟨c, rfl⟩⟩ := stp_mem hq
    · exact h.l2 p hp
    · show (p.2 ++ [v]).length ≤ r
      simp; omega
  cnt := fun j t hj hl => by
    have hl' : (vs ++ [v]).length = vs.length + 1 := by simp
    rw [hl'] at hl
    have ln : ∀ p ∈ fs, p.1.length + p.2.length = vs.length := fun p hp => by have := (h.per p hp).length_eq; simpa using this
    cases j with
    | zero => rw [cq_step0 (fun p hp z => by have := ln p hp; omega), cnR_snoc0, h.cnt 0 t (by omega) (by omega)]
    | succ j =>
      rw [cq_step hj (fun p hp z => by have := ln p hp; omega), cnR_snoc, h.cnt (j + 1) t hj (by omega), h.cnt j (t - v) (by omega) (by omega)]
theorem SpOk.done {sz r : Nat} {vs : List Int} {fs : List Spl} (h : SpOk sz r vs fs) (hl : vs.length = sz + r) : (∀ p ∈ fs, p.1.length = sz) ∧ ∀ t, ct (fs.map fun p => p.1.sum) t = cnR vs sz t := by
  have ll : ∀ p ∈ fs, p.1.length = sz := fun p hp => by
    have := (h.per p hp).length_eq
    have := h.l1 p hp
    have := h.l2 p hp
    simp at *
    omega
  refine ⟨ll, fun t => ?_⟩
  rw [← h.cnt sz t (Nat.le_refl _) (by omega)]
  unfold ct cq
  rw [List.filter_map, List.length_map]
  congr 2
  refine List.filter_congr fun p hp => ?_
  simp [ll p hp]
noncomputable def upN (S : List Int) (x : Int) : Int := ((S.filter fun y => decide (x ≤ y)).length : Int)
noncomputable def dnN (S : List Int) (x : Int) : Int := ((S.filter fun y => decide (y ≤ x)).length : Int)
end Ec
namespace Ec
set_option maxRecDepth 10000
theorem ch10 : ∀ n, n < 11 → ∀ k, k < 11 → ch n k ≤ 252 := by decide
noncomputable abbrev Ep := Int × Int
noncomputable def exs (sz v : Int) (fs : List Ep) : List Ep := fs ++ (fs.filter fun p => decide (p.1 < sz)).map fun p => (p.1 + 1, p.2 + v)
noncomputable def ce (fs : List Ep) (j t : Int) : Int := ((fs.filter fun p => decide (p.1 = j ∧ p.2 = t)).length : Int)
theorem ce_app (a b : List Ep) (j t : Int) : ce (a ++ b) j t = ce a j t + ce b j t := by
  unfold ce
  rw [List.filter_append, List.length_append]
  omega
theorem ce_map0 {sz v t : Int} {fs : List Ep} (h : ∀ p ∈ fs, 0 ≤ p.1) : ce ((fs.filter fun p => decide (p.1 < sz)).map fun p => (p.1 + 1, p.2 + v)) 0 t = 0 := by
  unfold ce
  rw [List.filter_map, List.length_map, List.filter_filter]
  have : (fs.filter fun a => ((fun p : Ep => decide (p.1 = 0 ∧ p.2 = t)) ∘ fun p : Ep => (p.1 + 1, p.2 + v)) a && decide (a.1 < sz)) = [] := by
    refine List.filter_eq_nil_iff.mpr fun p hp => ?_
    have := h p hp
    simp [Function.comp]
    omega
  rw [this]
  rfl
theorem ce_map {sz v t : Int} {j : Int} (hj : j < sz) (fs : List Ep) : ce ((fs.filter fun p => decide (p.1 < sz)).map fun p => (p.1 + 1, p.2 + v)) (j + 1) t = ce fs j (t - v) := by
  unfold ce
  rw [List.filter_map, List.length_map, List.filter_filter]
  congr 2
  refine List.filter_congr fun p _ => ?_
  rw [Bool.eq_iff_iff]
  simp [Function.comp]
  omega
structure ExOk (sz : Nat) (vs : List Int) (fs : List Ep) : Prop where
  nn : ∀ p ∈ fs, 0 ≤ p.1
  cnt : ∀ (j : Nat) (t : Int), j ≤ sz → ce fs (j : Int) t = cnR vs j t
theorem ExOk.step {sz : Nat} {vs : List Int} {fs : List Ep} (h : ExOk sz vs fs) (v : Int) : ExOk sz (vs ++ [v]) (exs (sz : Int) v fs) where
  nn := fun p hp => by
    rcases List.mem_append.mp hp with z | z
    · exact h.nn p z
    · obtain ⟨q, hq, rfl⟩ := List.mem_map.mp z
      have := h.nn q ((List.mem_filter.mp hq).1)
      show 0 ≤ q.1 + 1
      omega
  cnt := fun j t hj => by
    unfold exs
    rw [ce_app]
    cases j with
    | zero =>
      rw [show ((0 : Nat) : Int) = 0 from rfl, ce_map0 h.nn, cnR_snoc0, Int.add_zero]
      exact h.cnt 0 t hj
    | succ j => rw [show ((j + 1 : Nat) : Int) = (j : Int) + 1 from rfl, ce_map (by omega), cnR_snoc, ← h.cnt j (t - v) (by omega), ← h.cnt (j + 1) t hj]; rfl
theorem ExOk.done {sz : Nat} {vs : List Int} {fs : List Ep} (h : ExOk sz vs fs) (t : Int) : ct ((fs.filter fun p => decide (p.1 = (sz : Int))).map fun p => p.2) t = cnR vs sz t := by
  rw [← h.cnt sz t (Nat.le_refl _)]
  unfold ct ce
  rw [List.filter_map, List.length_map, List.filter_filter]
  congr 2
  refine List.filter_congr fun p _ => ?_
  rw [Bool.eq_iff_iff]
  simp [Function.comp]
  omega
theorem rows_one : ∀ {a b : List Int}, a.Nodup → b.Nodup → a.Pairwise (· ≤ ·) → b.Pairwise (· ≤ ·) → (∀ t, t ∈ a ↔ t ∈ b) → a = b
  | [], [], _, _, _, _, _ => rfl
  | [], y :: b, _, _, _, _, h => absurd ((h y).mpr (by simp)) (by simp)
  | x :: a, [], _, _, _, _, h => absurd ((h x).mp (by simp)) (by simp)
  | x :: a, y :: b, na, nb, sa, sb, h => by
    rw [List.nodup_cons] at na nb
    rw [List.pairwise_cons] at sa sb
    have e : x = y := by
      have h1 : y ≤ x := by
        rcases List.mem_cons.mp ((h x).mp (by simp)) with z | z
        · omega
        · exact sb.1 x z
      have h2 : x ≤ y := by
        rcases List.mem_cons.mp ((h y).mpr (by simp)) with z | z
        · omega
        · exact sa.1 y z
      omega
    subst e
    rw [rows_one na.2 nb.2 sa.2 sb.2 fun t => ?_]
    constructor
    · intro ht
      rcases List.mem_cons.mp ((h t).mp (by simp [ht])) with z | z
      · exact absurd (z ▸ ht) na.1
      · exact z
    · intro ht
      rcases List.mem_cons.mp ((h t).mpr (by simp [ht])) with z | z
      · exact absurd (z ▸ ht) nb.1
      · exact z
end Ec
namespace Ec
set_option maxRecDepth 10000
noncomputable def sbs : List Int → Nat → List Int
  | [], 0 => [0]
  | [], _ + 1 => []
  | _ :: r, 0 => sbs r 0
  | v :: r, k + 1 => sbs r (k + 1) ++ (sbs r k).map fun s => s + v
theorem ct_app (a b : List Int) (t : Int) : ct (a ++ b) t = ct a t + ct b t := by
  unfold ct
  rw [List.filter_append, List.length_append]
  omega
theorem ct_map_add (l : List Int) (v t : Int) : ct (l.map fun s => s + v) t = ct l (t - v) := by
  unfold ct
  rw [List.filter_map, List.length_map]
  congr 2
  refine List.filter_congr fun s _ => ?_
  simp only [Function.comp]
  exact decide_eq_decide.mpr (by omega)
theorem ct_sbs : ∀ (us : List Int) (k : Nat) (t : Int), ct (sbs us k) t = cnR us k t
  | [], 0, t => by
    show ct [0] t = if t = 0 then 1 else 0
    rw [ct_cons]
    by_cases c : t = 0
    · rw [if_pos c.symm, if_pos c]; rfl
    · rw [if_neg (fun z => c z.symm), if_neg c]; rfl
  | [], _ + 1, _ => rfl
  | _ :: r, 0, t => ct_sbs r 0 t
  | v :: r, k + 1, t => by
    show ct (sbs r (k + 1) ++ (sbs r k).map fun s => s + v) t = cnR r (k + 1) t + cnR r k (t - v)
    rw [ct_app, ct_map_add, ct_sbs, ct_sbs]
theorem ct_count (S : List Int) (t : Int) : ct S t = (S.count t : Int) := by
  unfold ct
  rw [List.count_eq_length_filter]
  congr 2
theorem perm_of {S S' : List Int} (h : ∀ t, ct S t = ct S' t) : S.Perm S' := List.perm_iff_count.mpr fun t => by
  have := h t
  rw [ct_count, ct_count] at this
  exact_mod_cast this
theorem up_perm {S S' : List Int} (h : S.Perm S') (x : Int) : upN S x = upN S' x := by unfold upN; rw [(h.filter _).length_eq]
theorem dn_perm {S S' : List Int} (h : S.Perm S') (x : Int) : dnN S x = dnN S' x := by unfold dnN; rw [(h.filter _).length_eq]
theorem sbs_len : ∀ (us : List Int) (k : Nat), (sbs us k).length = ch us.length k
  | [], 0 => rfl
  | [], _ + 1 => rfl
  | _ :: r, 0 => by
    show (sbs r 0).length = 1
    rw [sbs_len r 0]
    cases r.length <;> rfl
  | v :: r, k + 1 => by
    show (sbs r (k + 1) ++ (sbs r k).map fun s => s + v).length = ch r.length (k + 1) + ch r.length k
    rw [List.length_append, List.length_map, sbs_len, sbs_len]
theorem ch_pos : ∀ (n k : Nat), k ≤ n → 0 < ch n k
  | 0, 0, _ => Nat.one_pos
  | _ + 1, 0, _ => Nat.one_pos
  | n + 1, k + 1, h => Nat.add_pos_right _ (ch_pos n k (by omega))
theorem sbs_add (c : Int) : ∀ (us : List Int) (k : Nat), sbs (us.map fun v => v + c) k = (sbs us k).map fun s => s + c * k
  | [], 0 => by simp [sbs]
  | [], _ + 1 => rfl
  | v :: r, 0 => sbs_add c r 0
  | v :: r, k + 1 => by
    show sbs (r.map fun v => v + c) (k + 1) ++ (sbs (r.map fun v => v + c) k).map (fun s => s + (v + c)) = (sbs r (k + 1) ++ (sbs r k).map fun s => s + v).map fun s => s + c * ((k + 1 : Nat) : Int)
    rw [sbs_add, sbs_add, List.map_append, List.map_map, List.map_map]
    congr 1
    refine List.map_congr_left fun s _ => ?_
    simp only [Function.comp]
    rw [show ((k + 1 : Nat) : Int) = (k : Int) + 1 from rfl, Int.mul_add, Int.mul_one]
    omega
theorem sbs_mul (c : Int) : ∀ (us : List Int) (k : Nat), sbs (us.map fun v => v * c) k = (sbs us k).map fun s => s * c
  | [], 0 => by simp [sbs]
  | [], _ + 1 => rfl
  | v :: r, 0 => sbs_mul c r 0
  | v :: r, k + 1 => by
    show sbs (r.map fun v => v * c) (k + 1) ++ (sbs (r.map fun v => v * c) k).map (fun s => s + v * c) = (sbs r (k + 1) ++ (sbs r k).map fun s => s + v).map fun s => s * c
    rw [sbs_mul, sbs_mul, List.map_append, List.map_map, List.map_map]
    congr 1
    refine List.map_congr_left fun s _ => ?_
    simp only [Function.comp]
    rw [Int.add_mul]
theorem sbs_neg : ∀ (us : List Int) (k : Nat), sbs (us.map fun v => 0 - v) k = (sbs us k).map fun s => 0 - s
  | [], 0 => by simp [sbs]
  | [], _ + 1 => rfl
  | v :: r, 0 => sbs_neg r 0
  | v :: r, k + 1 => by
    show sbs (r.map fun v => 0 - v) (k + 1) ++ (sbs (r.map fun v => 0 - v) k).map (fun s => s + (0 - v)) = (sbs r (k + 1) ++ (sbs r k).map fun s => s + v).map fun s => 0 - s
    rw [sbs_neg, sbs_neg, List.map_append, List.map_map, List.map_map]
    congr 1
    refine List.map_congr_left fun s _ => ?_
    simp only [Function.comp]
    omega
theorem up_app (a b : List Int) (x : Int) : upN (a ++ b) x = upN a x + upN b x := by
  unfold upN
  rw [List.filter_append, List.length_append]
  omega
theorem up_map (a : List Int) (v x : Int) : upN (a.map fun s => s + v) x = upN a (x - v) := by
  unfold upN
  rw [List.filter_map, List.length_map]
  congr 2
  refine List.filter_congr fun s _ => ?_
  simp only [Function.comp]
  exact decide_eq_decide.mpr (by omega)
theorem up_anti (S : List Int) {x y : Int} (h : x ≤ y) : upN S y ≤ upN S x := by
  induction S with
  | nil => exact Int.le_refl _
  | cons s S ih =>
    unfold upN at ih ⊢
    rw [List.filter_cons, List.filter_cons]
    by_cases c : y ≤ s
    · rw [if_pos (decide_eq_true c), if_pos (decide_eq_true (show x ≤ s by omega))]
      simp
      omega
    · rw [if_neg (by simpa using c)]
      split
      · simp
        omega
      · exact ih
theorem up_put {e : Int} (he : 0 ≤ e) : ∀ (as bs : List Int) (k m : Nat) (x : Int), k ≤ m → upN (sbs (as.map (fun v => v + e) ++ bs) k) (x + e * m) ≤ upN (sbs (as ++ bs) k) x
  | [], bs, k, m, x, _ => up_anti _ (by have := Int.mul_nonneg he (show (0 : Int) ≤ (m : Int) by omega); omega)
  | v :: as, bs, 0, m, x, h => up_put he as bs 0 m x h
  | v :: as, bs, k + 1, m, x, h => by
    show upN (sbs (as.map (fun v => v + e) ++ bs) (k + 1) ++ (sbs (as.map (fun v => v + e) ++ bs) k).map fun s => s + (v + e)) (x + e * m) ≤ upN (sbs (as ++ bs) (k + 1) ++ (sbs (as ++ bs) k).map fun s => s + v) x
    rw [up_app, up_app, up_map, up_map]
    have h1 := up_put he as bs (k + 1) m x h
    obtain ⟨m', rfl⟩ : ∃ m', m = m' + 1 := ⟨m - 1, by omega⟩
    have h2 := up_put he as bs k m' (x - v) (by omega)
    have e1 : x + e * ((m' + 1 : Nat) : Int) - (v + e) = x - v + e * (m' : Int) := by
      rw [show ((m' + 1 : Nat) : Int) = (m' : Int) + 1 from rfl, Int.mul_add, Int.mul_one]
      omega
    rw [e1]
    omega
theorem sum_put (as : List Int) (e : Int) : (as.map fun v => v + e).sum = as.sum + e * as.length := by
  induction as with
  | nil => simp
  | cons v as ih =>
    rw [List.map_cons, List.sum_cons, List.sum_cons, ih, List.length_cons, show ((as.length + 1 : Nat) : Int) = (as.length : Int) + 1 from rfl, Int.mul_add, Int.mul_one]
    omega
theorem up_more {as bs : List Int} {e : Int} (he : 0 ≤ e) : upN (sbs (as.map (fun v => v + e) ++ bs) as.length) (as.map fun v => v + e).sum ≤ upN (sbs (as ++ bs) as.length) as.sum := by
  rw [sum_put]
  exact up_put he as bs _ _ _ (Nat.le_refl _)
end Ec
namespace Ec
set_option maxRecDepth 10000
theorem ct_map {f : Int → Int} (inj : ∀ a b, f a = f b → a = b) (S : List Int) (t : Int) : ct (S.map f) (f t) = ct S t := by
  unfold ct
  rw [List.filter_map, List.length_map]
  congr 2
  refine List.filter_congr fun s _ => ?_
  simp only [Function.comp]
  exact decide_eq_decide.mpr ⟨fun h => inj _ _ h, fun h => by rw [h]⟩
theorem ct_zero {S : List Int} {t : Int} (h : ct S t ≠ 0) : t ∈ S := by
  unfold ct at h
  cases e : S.filter fun s => decide (s = t) with
  | nil => rw [e] at h; exact absurd rfl h
  | cons x l =>
    have hx : x ∈ S.filter fun s => decide (s = t) := by rw [e]; simp
    have h2 := (List.mem_filter.mp hx).2
    have : x = t := by simpa using h2
    rw [← this]
    exact (List.mem_filter.mp hx).1
theorem ct_perm {S S' : List Int} (h : S.Perm S') (t : Int) : ct S t = ct S' t := by unfold ct; rw [(h.filter _).length_eq]
section
variable {f : Int → Int} {us us' ms ms' : List Int} {k k' : Nat}
theorem told_cn (inj : ∀ a b, f a = f b → a = b) (hS : (sbs us' k').Perm ((sbs us k).map f)) (t : Int) : cnR us' k' (f t) = cnR us k t := by
  rw [← ct_sbs, ← ct_sbs, ct_perm hS, ct_map inj]
theorem told_mem (inj : ∀ a b, f a = f b → a = b) (hS : (sbs us' k').Perm ((sbs us k).map f)) (mm : ∀ t, t ∈ ms ↔ cnR us k t ≠ 0) (mm' : ∀ t, t ∈ ms' ↔ cnR us' k' t ≠ 0) (t : Int) : t ∈ ms' ↔ t ∈ ms.map f := by
  rw [mm', List.mem_map]
  constructor
  · intro h
    rw [← ct_sbs, ct_perm hS] at h
    obtain ⟨s, hs, e⟩ := List.mem_map.mp (ct_zero h)
    exact ⟨s, (mm s).mpr (by rw [← ct_sbs]; exact ct_mem hs), e⟩
  · rintro ⟨s, hs, rfl⟩
    rw [told_cn inj hS]
    exact (mm s).mp hs
theorem nodup_map (inj : ∀ a b, f a = f b → a = b) : ∀ {l : List Int}, l.Nodup → (l.map f).Nodup
  | [], _ => List.nodup_nil
  | x :: l, h => by
    rw [List.nodup_cons] at h
    rw [List.map_cons, List.nodup_cons]
    refine ⟨fun z => ?_, nodup_map inj h.2⟩
    obtain ⟨y, hy, e⟩ := List.mem_map.mp z
    exact h.1 (inj _ _ e ▸ hy)
theorem told_up (inj : ∀ a b, f a = f b → a = b) (mo : ∀ a b, a ≤ b → f a ≤ f b) (hS : (sbs us' k').Perm ((sbs us k).map f)) (nd : ms.Nodup) (pw : ms.Pairwise (· ≤ ·)) (mm : ∀ t, t ∈ ms ↔ cnR us k t ≠ 0) (nd' : ms'.Nodup) (pw' : ms'.Pairwise (· ≤ ·)) (mm' : ∀ t, t ∈ ms' ↔ cnR us' k' t ≠ 0) :
    (ms'.map fun t => (t, cnR us' k' t)) = ms.map fun t => (f t, cnR us k t) := by
  have e : ms' = ms.map f := rows_one nd' (nodup_map inj nd) pw' (List.pairwise_map.mpr (pw.imp fun h => mo _ _ h)) (told_mem inj hS mm mm')
  rw [e, List.map_map]
  refine List.map_congr_left fun t _ => ?_
  simp only [Function.comp]
  rw [told_cn inj hS]
theorem told_down (inj : ∀ a b, f a = f b → a = b) (mo : ∀ a b, a ≤ b → f b ≤ f a) (hS : (sbs us' k').Perm ((sbs us k).map f)) (nd : ms.Nodup) (pw : ms.Pairwise (· ≤ ·)) (mm : ∀ t, t ∈ ms ↔ cnR us k t ≠ 0) (nd' : ms'.Nodup) (pw' : ms'.Pairwise (· ≤ ·)) (mm' : ∀ t, t ∈ ms' ↔ cnR us' k' t ≠ 0) :
    (ms'.map fun t => (t, cnR us' k' t)) = (ms.map fun t => (f t, cnR us k t)).reverse := by
  have e : ms' = (ms.map f).reverse := rows_one nd' (List.pairwise_reverse.mpr ((nodup_map inj nd).imp Ne.symm)) pw' (List.pairwise_reverse.mpr (List.pairwise_map.mpr (pw.imp fun h => mo _ _ h))) fun t => by rw [List.mem_reverse]; exact told_mem inj hS mm mm' t
  rw [e, List.map_reverse, List.map_map]
  congr 1
  refine List.map_congr_left fun t _ => ?_
  simp only [Function.comp]
  rw [told_cn inj hS]
end
theorem up_mapI {f : Int → Int} (h : ∀ a b, f a ≤ f b ↔ a ≤ b) (S : List Int) (x : Int) : upN (S.map f) (f x) = upN S x := by
  unfold upN
  rw [List.filter_map, List.length_map]
  congr 2
  refine List.filter_congr fun s _ => ?_
  simp only [Function.comp]
  exact decide_eq_decide.mpr (h _ _)
theorem dn_mapI {f : Int → Int} (h : ∀ a b, f a ≤ f b ↔ a ≤ b) (S : List Int) (x : Int) : dnN (S.map f) (f x) = dnN S x := by
  unfold dnN
  rw [List.filter_map, List.length_map]
  congr 2
  refine List.filter_congr fun s _ => ?_
  simp only [Function.comp]
  exact decide_eq_decide.mpr (h _ _)
theorem up_mapD {f : Int → Int} (h : ∀ a b, f a ≤ f b ↔ b ≤ a) (S : List Int) (x : Int) : upN (S.map f) (f x) = dnN S x := by
  unfold upN dnN
  rw [List.filter_map, List.length_map]
  congr 2
  refine List.filter_congr fun s _ => ?_
  simp only [Function.comp]
  exact decide_eq_decide.mpr (h _ _)
theorem dn_mapD {f : Int → Int} (h : ∀ a b, f a ≤ f b ↔ b ≤ a) (S : List Int) (x : Int) : dnN (S.map f) (f x) = upN S x := by
  unfold upN dnN
  rw [List.filter_map, List.length_map]
  congr 2
  refine List.filter_congr fun s _ => ?_
  simp only [Function.comp]
  exact decide_eq_decide.mpr (h _ _)
theorem sum_mul (as : List Int) (c : Int) : (as.map fun v => v * c).sum = as.sum * c := by
  induction as with
  | nil => simp
  | cons v as ih => rw [List.map_cons, List.sum_cons, List.sum_cons, ih, Int.add_mul]
theorem sum_neg (as : List Int) : (as.map fun v => 0 - v).sum = 0 - as.sum := by
  induction as with
  | nil => simp
  | cons v as ih => rw [List.map_cons, List.sum_cons, List.sum_cons, ih]; omega
theorem sbs_perm {us us' : List Int} (h : us'.Perm us) (k : Nat) : (sbs us' k).Perm (sbs us k) := perm_of fun t => by rw [ct_sbs, ct_sbs, cnR_perm h]
end Ec
set_option maxHeartbeats 4000000
namespace L2
open PySem PySem.Spec PyProof.Rows PySem.W Gc
theorem comp_listRG {K : PySem.W.Frag} {a : Addr} {xs : List V} {te : TE} {st : St} {H1 : Hp} {Q : VK} {D : Addr} (R : Nat → List V → Hp → Prop) (hD : H1 D = none) (q1 : SqL K H1 a xs) (hn : xs.length ≤ sizeLine) (h0 : R 0 [] (upd H1 D (.lst [])))
    (hs : ∀ (i : Nat) (x : V) (ys : List V) (H2 : Hp) (k : VK), xs[i]? = some x → Same H1 H2 → H2 D = some (.lst ys) → ys.length = i → R i ys H2 → (∀ y H4, Same H2 H4 → R (i + 1) (ys ++ [y]) (upd H4 D (.lst (ys ++ [y]))) → k y H4) → te (some x :: st) H2 k)
    (hd : ∀ ys H2, Same H1 H2 → H2 D = some (.lst ys) → ys.length = xs.length → R xs.length ys H2 → Q (.ref D) H2) : CompG (Itl K a) (gName 0) tYes te 1 st D H1 Q := by
  refine ⟨fun i m ys H2 => m = xs.length - i ∧ i ≤ xs.length ∧ ys.length = i ∧ Same H1 H2 ∧ H2 D = some (.lst ys) ∧ R i ys H2, ⟨xs.length, by simp, Nat.zero_le _, rfl, same_upd (Same.refl H1) hD, upd_same, h0⟩, ?_⟩
  rintro i m ys H2 ⟨rfl, hi, hl, sm, e, r⟩
  by_cases hlt : i < xs.length
  · have ex : xs[i]? = some xs[i] := List.getElem?_eq_getElem hlt
    refine .inr ⟨⟨xs, _, sm.seq q1, ex⟩, ?_⟩
    rintro x H3 σ0 ⟨rfl, hx⟩ l0
    have hx' := hx xs (sm.seq q1)
    obtain ⟨a', rfl⟩ : ∃ a, σ0 = [a] := by
      match σ0, l0 with
      | [a], _ => exact ⟨a, rfl⟩
    refine ⟨⟨[some x], rfl, rfl⟩, ?_⟩
    exact hs i x ys _ _ hx' sm e hl r fun y H4 s4 r4 => ⟨s4 _ _ e, by omega, xs.length - (i + 1), by omega, rfl, hlt, by simp [hl], same_upd (sm.trans s4) hD, upd_same, r4⟩
  · have ei : i = xs.length := by omega
    subst ei
    exact .inl ⟨⟨xs, sm.seq q1, Nat.le_refl _⟩, hd ys H2 sm e hl r⟩
end L2
namespace L2
open PySem PySem.Spec PyProof.Rows PySem.W Gc
end L2
set_option maxHeartbeats 4000000
namespace L2
open PySem PySem.Spec PyProof.Rows PySem.W Gc
theorem ints_of : ∀ {ns : List Int} {us : List Value}, Vals (ns.map V.int) us → IntsAre us ns
  | [], us, r => by cases r; exact .nil
  | n :: ns, us, r => by
    cases r with
    | cons r1 r2 =>
      obtain ⟨t, rfl⟩ := r1
      exact .cons n t (ints_of r2)
theorem ints_to : ∀ {ns : List Int} {us : List Value}, IntsAre us ns → Vals (ns.map V.int) us
  | _, _, .nil => .nil
  | _, _, .cons n t r => .cons ⟨t, rfl⟩ (ints_to r)
section
variable {prog : Program} {w : World} {A : Around} {E : Value → Shared → Prop} {s : Shared}
end
section
variable {X : Cx} {a b c d : Expr} {ta tb tc td : TE} {pos : Pos}
end
end L2
set_option maxHeartbeats 4000000
namespace L2
open PySem PySem.Spec PyProof.Rows PySem.W Gc
section
variable {X : Cx}
end
end L2
set_option maxHeartbeats 4000000
namespace L2
open PySem PySem.Spec PyProof.Rows PySem.W Gc
section
theorem rv_mro : mroOf (.type "reversed") = pure [.type "reversed", .type "object"] := by rw [mroOf_type]; kernel_rfl
theorem rv_look : typeLookup (.type "reversed") "__new__" = pure (some (.builtin "reversed.__new__")) := by rw [typeLookup_type, builtinLookup_eq_fast]; kernel_rfl
theorem rv_made : Bind.madeBy (.type "reversed") = pure (some "reversed.__new__") := madeBy_type rv_mro rv_look (by decide +kernel)
theorem rv_call (a : Value) : checkTypeCall "reversed" ⟨[a], []⟩ = pure () := by kernel_rfl
theorem rv_calln (a : Value) : checkBuiltinCall "reversed.__new__" ⟨[.type "reversed", a], []⟩ = pure () := by kernel_rfl
theorem rv_entry : entryFor table "reversed.__new__" = some Builtin.«reversed.__new__» := (entryFor_of_tree (by kernel_rfl))
theorem rv_sub : isSubtype (.type "reversed") (.type "reversed") = pure true := by rw [isSubtype_type]; kernel_rfl
theorem rv_isub : isSubtype (.type "list_reverseiterator") (.type "reversed") = pure false := by rw [isSubtype_type]; kernel_rfl
theorem ri_owner : Manifest.owners.lookup (String.ofList "list_reverseiterator".toList) = some Manifest.sig_list_reverseiterator := by kernel_rfl
theorem ri_next : Slot "list_reverseiterator" "__next__" "list_reverseiterator.__next__" :=
  .of (owner := "list_reverseiterator") (n := "__next__") (by rw [typeLookup_type, builtinLookup_eq_fast]; kernel_rfl) (by decide +kernel) (by decide +kernel) (by decide +kernel) (by first | exact .inl (by decide +kernel) | exact .inr (by decide +kernel)) (by rw [isSubtype_type]; kernel_rfl)
theorem ri_iter : Slot "list_reverseiterator" "__iter__" "list_reverseiterator.__iter__" :=
  .of (owner := "list_reverseiterator") (n := "__iter__") (by rw [typeLookup_type, builtinLookup_eq_fast]; kernel_rfl) (by decide +kernel) (by decide +kernel) (by decide +kernel) (by first | exact .inl (by decide +kernel) | exact .inr (by decide +kernel)) (by rw [isSubtype_type]; kernel_rfl)
theorem ri_entry : entryFor table "list_reverseiterator.__next__" = some Builtin.«list_reverseiterator.__next__» := (entryFor_of_tree (by kernel_rfl))
theorem ri_entryI : entryFor table "list_reverseiterator.__iter__" = some Builtin.«dict_keyiterator.__iter__» :=
  entryFor_alias (id' := "dict_keyiterator.__iter__") (by kernel_rfl) (by first | rfl | decide +kernel | (unfold String.splitOn; simp +decide [String.splitOnAux])) (by decide +kernel) (by kernel_rfl)
theorem ri_args (a : Value) : argsOk "list_reverseiterator.__next__" ⟨[a], []⟩ := by
  unfold argsOk
  rw [signature?_of (id := "list_reverseiterator.__next__") (n := "__next__".toList.reverse) (o := "list_reverseiterator".toList.reverse) (by kernel_rfl) (by rw [List.reverse_reverse]; exact ri_owner)]
  kernel_rfl
theorem ri_argsI (a : Value) : argsOk "list_reverseiterator.__iter__" ⟨[a], []⟩ := by
  unfold argsOk
  rw [signature?_of (id := "list_reverseiterator.__iter__") (n := "__iter__".toList.reverse) (o := "list_reverseiterator".toList.reverse) (by kernel_rfl) (by rw [List.reverse_reverse]; exact ri_owner)]
  kernel_rfl
end
section
variable {prog : Program} {w : World} {A : Around} {E : Value → Shared → Prop} {s : Shared}
noncomputable abbrev IsRevIt (h : Heap) (it l : Addr) (i : Int) : Prop := h.get? it = some { cls := .type "list_reverseiterator", dict := none, data := .fields #[.ref l, rawInt i], slots := #[] }
end
theorem rv_init : Slot "reversed" "__init__" "object.__init__" :=
  .of (owner := "object") (n := "__init__") (by rw [typeLookup_type, builtinLookup_eq_fast]; kernel_rfl) (by decide +kernel) (by decide +kernel) (by decide +kernel) (by first | exact .inl (by decide +kernel) | exact .inr (by decide +kernel)) (by rw [isSubtype_type]; kernel_rfl)
theorem rv_type : TypeCalled "reversed" "reversed.__new__" "object.__init__" := ⟨by decide +kernel, by decide +kernel, ⟨_, _, rv_mro⟩, rv_made, by decide +kernel, rv_sub, rv_init⟩
section
variable {prog : Program} {w : World} {A : Around} {E : Value → Shared → Prop} {s : Shared}
noncomputable abbrev rvHeap (h : Heap) (l : Addr) (m : Nat) : Heap := h.push { cls := .type "list_reverseiterator", data := .fields #[.ref l, rawInt (((m : Nat) : Int) - 1)] }
theorem lr_meets (l : Addr) (xs : Array Value) (n : Nat) (dc : Option Addr) (sl : Array (Option Value)) :
    Meets (Builtin.«list.__reversed__» ⟨[.ref l], []⟩) (fun _ R s => s.heap.get? l = some { cls := .type "list", dict := dc, data := .seq xs n, slots := sl } ∧ R (.ok (.ret (.ref s.heap.objs.size))) { s with heap := rvHeap s.heap l xs.size }) :=
  .of_wp fun prog w A R s h => by
    obtain ⟨hp, g, dr, tk, os⟩ := s
    obtain ⟨hl, h⟩ := h
    wp_walk using AutoSeq1.wpAny_loadPart' hl
    exact ⟨_, rfl, h⟩
theorem rv_new (l : Addr) (xs : Array Value) (n : Nat) (dc : Option Addr) (sl : Array (Option Value)) :
    Meets (Builtin.«reversed.__new__» ⟨[.type "reversed", .ref l], []⟩) (fun _ R s => s.heap.get? l = some { cls := .type "list", dict := dc, data := .seq xs n, slots := sl } ∧
      R (.ok (.ret (.ref s.heap.objs.size))) { s with heap := rvHeap s.heap l xs.size }) :=
  .of_wp fun prog w A R s h => by
    obtain ⟨hp, g, dr, tk, os⟩ := s
    obtain ⟨ha, h⟩ := h
    have sub := rv_sub
    have tT : Shared.TypeIs ⟨hp, g, dr, tk, os⟩ (.ref l) "list" := ⟨_, ha, rfl⟩
    have lk := F.slot_list_reversed.lookup
    have bd := F.slot_list_reversed.bind (.ref l)
    wp_walk using AutoSeq1.wpAny_loadPart' ha
    refine codeAny_mono (codeAny_call_builtin F.slot_list_reversed.plain F.entry_list_reversed (F.slot_list_reversed.check _ _ _ _ _ _ _ _ tT (F.args_list_reversed_1 _) (lr_meets l xs n dc sl prog w A.in1 (wants (fun v s' => v = .ref hp.objs.size ∧ s' = ⟨rvHeap hp l xs.size, g, dr, tk, os⟩) fun _ _ => False) _ ⟨ha, rfl, rfl⟩))) fun r s1 hr => ?_
    cases r with
    | error e => exact hr.elim
    | ok fl =>
      cases fl with
      | ret v =>
        obtain ⟨rfl, rfl⟩ := hr
        exact wpAny_pure ⟨_, rfl, h⟩
      | _ => exact hr.elim
theorem rv_made_list {l : Addr} {xs : Array Value} {Q : Value → Shared → Prop} (hL : s.heap.IsList l xs)
    (k : ∀ g, IsRevIt g s.heap.objs.size l (((xs.size : Nat) : Int) - 1) → (∀ c o, s.heap.get? c = some o → g.get? c = some o) → Q (.ref s.heap.objs.size) { s with heap := g }) :
    wpAny (model prog w) A (call (.type "reversed") [.ref l]) Q E s := by
  obtain ⟨⟨c, dc, dt, sl⟩, ha, hc, n, hd⟩ := hL
  replace hc : c = .type "list" := hc
  replace hd : dt = .seq xs n := hd
  subst hc hd
  have ft := rv_type
  obtain ⟨c, tl, hmro⟩ := ft.mro
  have hmade := ft.made
  have hsub := ft.sub
  have hct := rv_call (.ref l)
  refine (wpAny_call (codeAny_of_tree ?_))
  show wpAny _ _ (callAny (.type "reversed") _) (_) _ _
  refine (wpAny_pure ⟨Code.quiet_builtin _ (by decide +kernel), codeAny_builtin F.entry_type_call ?_⟩)
  rw [Around.under_plain (weight_type_call_type "reversed" [.ref l] []) (units_type_call_type "reversed" [.ref l] [])]
  have h1 := ft.notType
  have h2 := ft.canCreate
  repeat (any_goals (first | assumption | wp_step))
  refine codeAny_mono (codeAny_call_builtin ft.plain rv_entry (wpAny_of_eq (rv_calln (.ref l)) (rv_new l xs n dc sl prog w A.in1 (wants (fun v s' => v = .ref s.heap.objs.size ∧ s' = { s with heap := rvHeap s.heap l xs.size }) fun _ _ => False) s ⟨ha, rfl, rfl⟩))) fun r s1 hr => ?_
  cases r with
  | error e => exact hr.elim
  | ok fl =>
    cases fl with
    | ret v =>
      obtain ⟨rfl, rfl⟩ := hr
      have g1 : (rvHeap s.heap l xs.size).get? s.heap.objs.size = some _ := Heap.get?_push_size _ rfl
      have hT : Shared.TypeIs { s with heap := rvHeap s.heap l xs.size } (.ref s.heap.objs.size) "list_reverseiterator" := ⟨_, g1, rfl⟩
      have no := rv_isub
      have fin := k _ g1 fun b o x => Heap.get?_push_of_some _ x
      repeat (any_goals (first | assumption | wp_step))
    | _ => exact hr.elim
theorem ri_self {it l : Addr} {i : Int} {Q : Value → Shared → Prop} (he : IsRevIt s.heap it l i) (h : Q (.ref it) s) : wpAny (model prog w) A (pyIter (.ref it)) Q E s := by
  have ty : s.TypeIs (.ref it) "list_reverseiterator" := ⟨_, he, rfl⟩
  refine (wpAny_pyIter_slot ty ri_iter (wpAny_call_entry ri_iter ty ri_entryI ?_ (ri_argsI _)))
  show wpAny _ _ (ret (.ref it)) (_) _ s
  exact wpAny_pure ⟨_, rfl, "list_reverseiterator", _, ty, ri_next.lookup, h⟩
theorem ri_item {it l : Addr} {i : Nat} {xs : Array Value} {v : Value} {Q : Option Value → Shared → Prop} (he : IsRevIt s.heap it l (i : Int)) (hl : s.heap.IsList l xs) (hv : xs[i]? = some v)
    (k : ∀ g, IsRevIt g it l ((i : Int) - 1) → Heap.SameBut it s.heap g → Q (some v) { s with heap := g }) : wpAny (model prog w) A (pyNext (.ref it)) Q E s := by
  have ty : s.TypeIs (.ref it) "list_reverseiterator" := ⟨_, he, rfl⟩
  obtain ⟨ol, hol, _, nl, hdl⟩ := hl
  unfold pyNext
  refine (wpAny_bind (wpAny_attempt (wpAny_callSpecial?_slot (name := Str.ofString "__next__") ty ri_next (wpAny_call_entry ri_next ty ri_entry ?_ (ri_args _)))))
  show wpAny _ _ (field (.ref it) 1 >>= _) (_) _ s
  refine (wpAny_bind (wpAny_field he rfl (x := rawInt i) rfl ?_))
  have no : ¬ ((i : Int) < 0) := by omega
  show wpAny _ _ (if (i : Int) < 0 then _ else _) (_) _ s
  rw [if_neg no]
  show wpAny _ _ (field (.ref it) 0 >>= _) (_) _ s
  refine (wpAny_bind (wpAny_field he rfl (x := .ref l) rfl ?_))
  show wpAny _ _ (seqItems? (.ref l) >>= _) (_) _ s
  refine (wpAny_bind (wpAny_seqItems hol hdl ?_))
  simp only [Int.toNat_natCast, hv]
  refine (wpAny_bind (wpAny_setField_rec he (by simp) fun g e1 s1 => ?_))
  exact wpAny_pure ⟨v, rfl, wpAny_pure (k g e1 s1)⟩
theorem ri_done {it l : Addr} {i : Int} {Q : Option Value → Shared → Prop} (hh : A.handled = none) (he : IsRevIt s.heap it l i) (neg : i < 0)
    (k : ∀ g, (∀ b o, s.heap.get? b = some o → g.get? b = some o) → Q none { s with heap := g }) : wpAny (model prog w) A (pyNext (.ref it)) Q E s := by
  have ty : s.TypeIs (.ref it) "list_reverseiterator" := ⟨_, he, rfl⟩
  unfold pyNext
  refine (wpAny_bind (wpAny_attempt (wpAny_callSpecial?_slot (name := Str.ofString "__next__") ty ri_next (wpAny_call_entry ri_next ty ri_entry ?_ (ri_args _)))))
  show wpAny _ _ (field (.ref it) 1 >>= _) (_) _ s
  refine (wpAny_bind (wpAny_field he rfl (x := rawInt i) rfl ?_))
  show wpAny _ _ (if i < 0 then _ else _) (_) _ s
  rw [if_pos neg]
  refine (wpAny_bind (wpAny_rule ?_))
  refine (wpAny_bind ?_)
  show wpAny _ _ (newExc (.type "StopIteration") [] >>= _) (_) _ _
  refine (wpAny_bind ?_)
  simp only [newExc, newTuple]
  refine (wpAny_bind (wpAny_newObj_type ?_ (by size_fits)))
  refine (wpAny_bind (m := firstArgMember _ _) (wpAny_of_eq (a := Value.none) (by first | rfl | (simp only [firstArgMember]; rfl)) ?_))
  refine (wpAny_newObj_type ?_ (by size_fits))
  simp only [raiseNew]
  refine (wpAny_bind (wpAny_handled ?_))
  rw [show A.in1.handled = none from hh]
  refine (wpAny_bind (wpAny_pure (wpAny_throw ?_)))
  refine (wpAny_bind (wpAny_isInstance (T := "StopIteration") (b := true) ⟨_, Heap.get?_push_size _ rfl, rfl⟩ isSubtype_stop ?_))
  exact wpAny_pure (k _ fun b o x => Heap.get?_push_of_some _ (Heap.get?_push_of_some _ x))
end
noncomputable def Itrv (K : PySem.W.Frag) (a : Addr) (m : Nat) : It :=
  ⟨fun i H => i < m ∧ ∃ xs x, SqL K H a xs ∧ xs[m - 1 - i]? = some x, fun i H x H' => H' = H ∧ ∀ xs, SqL K H a xs → xs[m - 1 - i]? = some x, fun i _ => m ≤ i⟩
theorem turn_rev {P : Program} {w : World} {K : PySem.W.Frag} {tg : Expr} (a it : Addr) (m : Nat) : Turn P w K tg (Itrv K a m) [it] it (fun i h => IsRevIt h it a ((m : Int) - 1 - (i : Int))) where
  mem := by simp
  obj := fun i h st b hb => by
    have e : b = it := by simpa using hb
    subst e
    exact ⟨_, st, fun v z => by cases z⟩
  keep := fun i h h' st k => k it (by simp) _ st
  item := by
    intro X hP hw hK hc i pins s σ H E I hf st hg
    subst hP hw hK
    obtain ⟨hi, xs, x, hq, hx⟩ := hg
    obtain ⟨its, rv, p, hz⟩ := I.list hq
    obtain ⟨u, hu, ru⟩ := rv.get hx
    obtain ⟨f0, f1, f2, f3, f4, f5⟩ := hf it (by simp)
    have ei : (m : Int) - 1 - (i : Int) = ((m - 1 - i : Nat) : Int) := by omega
    have st0 : IsRevIt s.heap it a ((m - 1 - i : Nat) : Int) := by rw [← ei]; exact st
    refine ri_item st0 p.isList (v := u) (by simpa using hu) fun h' st' sb => ?_
    have I1 : Inv X pins σ H { s with heap := h' } := I.turned (t' := s.toks) (fun b o hb e => (sb.2 b hb).trans e) f0 f1 f3 f4 f5
    have st2 : IsRevIt h' it a ((m : Int) - 1 - ((i + 1 : Nat) : Int)) := by
      have : (m : Int) - 1 - ((i + 1 : Nat) : Int) = ((m - 1 - i : Nat) : Int) - 1 := by omega
      rw [this]
      exact st'
    exact ⟨u, rfl, go_of (s := { s with heap := h' }) st' rfl rfl (by decide) ⟨x, H, I1, ru, ⟨rfl, fun ys hy => by rw [I.list_inj hy hq]; exact hx⟩, st2, fun b hb => (hf b hb).1⟩⟩
  done := by
    intro X hP hw hK hc i pins s σ H E I hf st hg
    subst hP hw hK
    have hm : m ≤ i := hg
    exact ri_done (I.ok.hd hc) st (by omega) fun h' eb => ⟨rfl, I.kept (t' := s.toks) fun b o e => eb b o e⟩
  self := fun _ _ _ _ _ st h => ri_self st h
noncomputable def iRev (K : PySem.W.Frag) (ta : TA) : TI := fun σ H R => ta σ H fun vs H1 => ∃ a xs, vs = [.ref a] ∧ SqL K H1 a xs ∧ R (Itrv K a xs.length) H1
theorem boot_reversed : bootBuiltins "reversed" = some (.type "reversed") := by decide +kernel
theorem pi_rev {X : Cx} {tg : Expr} {a : Expr} {ta : TA} {p pos : Pos} (hg : Gl X "reversed") (hm : X.mg "reversed" = none) (ha : PA X [a] ta) (hs : starEach [a] X.env = (false, eval a X.env) :: starEach [] X.env := by rfl) :
    PI X tg (.Call (.Name "reversed" p) [a] [] pos) (iRev X.K ta) := by
  intro pins s σ H R I h
  refine Call_ (ld_blt I hg hm boot_reversed (PyProof.Rows.callWith_type1 (thn (ha pos pins s σ H _ I h) fun us s1 ⟨vs, H1, I1, r1, q1⟩ => ?_) hs rfl))
  obtain ⟨l1, xs, e, q1, q⟩ := q1
  subst e
  cases r1 with
  | cons r rr =>
    cases rr
    cases r
    obtain ⟨its, rv, p, hz⟩ := I1.list q1
    have lx : its.length = xs.length := rv.length.symm
    refine rv_made_list p.isList fun h' za zk => ?_
    have za' : IsRevIt h' s1.heap.objs.size l1 ((xs.length : Int) - 1 - ((0 : Nat) : Int)) := by
      have : ((its.toArray.size : Nat) : Int) - 1 = (xs.length : Int) - 1 - ((0 : Nat) : Int) := by rw [List.size_toArray, lx]; omega
      rw [← this]
      exact za
    refine ri_self (s := { s1 with heap := h' }) za ?_
    have I2 : Inv X pins σ H1 { s1 with heap := h' } := I1.kept (t' := s1.toks) fun b o e => zk b o e
    refine ⟨_, [_], _, _, H1, rfl, I2, turn_rev l1 s1.heap.objs.size xs.length, za', fun b hb => ?_, q⟩
    have e : b = s1.heap.objs.size := by simpa using hb
    subst e
    exact I1.fpOk (Nat.le_refl _) (I1.hok.fresh (Nat.le_refl _))
end L2
set_option maxHeartbeats 4000000
namespace L2
open PySem PySem.Spec PyProof.Rows
section
variable {M : Model} {A : Around} {E : Value → Shared → Prop} {s : Shared} {B : Heap} {l : List Env} {e L : Addr} {cls a0 : Value}
end
section
variable {X : Cx} {E : XK} {N' : List Str} {scope : Scope} {cl : List (Str × Addr)} {pins0 : List (Addr × Obj)} {σ0 : St} {H3 : Hp} {s3 : Shared} {fp : List Addr} {Q : Value → Shared → Prop} {acc : Value}
end
section
variable {X : Cx} {E : XK} {elt iter tg : Expr} {ifs : List Expr} {xs : List Str} {pos : Pos} {scope : Scope} {cl : List (Str × Addr)} {ts : List (Str × Nat)} {wi : TI} {te : TE} {g : TG} {tt : TT}
end
section
open PySem.W
variable {X : Cx}
end
noncomputable abbrev SeqAt2 (H : Hp) (a : Addr) (xs : List V) : Prop := H a = some (.lst xs) ∨ H a = some (.tup xs)
theorem SeqAt2.keep {H H' : Hp} {a : Addr} {xs : List V} (h : SeqAt2 H a xs) (s : Same H H') : SeqAt2 H' a xs := h.imp (s _ _) (s _ _)
end L2
set_option maxHeartbeats 4000000
namespace L2
open PySem PySem.Spec PyProof.Rows PySem.W Gc
section
variable {prog : Program} {w : World} {A : Around} {E : Value → Shared → Prop} {s : Shared}
end
section
variable {X : Cx}
end
end L2
set_option maxHeartbeats 4000000
namespace L2
open PySem PySem.Spec PyProof.Rows
end L2
set_option maxHeartbeats 4000000
namespace L2
open PySem PySem.Spec PyProof.Rows PySem.W Gc
section
variable {prog : Program} {w : World} {A : Around} {E : Value → Shared → Prop} {s : Shared}
end
noncomputable def SIt (b : Bool) (h : Heap) (it t : Addr) (i : Nat) : Prop := match b with
  | true => h.IsTupleIter it t i
  | false => h.IsListIter it t i
noncomputable def SqH (b : Bool) (h : Heap) (t : Addr) (xs : Array Value) : Prop := match b with
  | true => h.IsTuple t xs
  | false => h.IsList t xs
noncomputable def SqB (b : Bool) (K : PySem.W.Frag) (H : Hp) (a : Addr) (xs : List V) : Prop := match b with
  | true => SqT K H a xs
  | false => SqL K H a xs
theorem SIt.typ {b : Bool} {h : Heap} {it t : Addr} {i : Nat} (x : SIt b h it t i) : ∃ o, h.get? it = some o ∧ ∀ v, o.data ≠ .cell v := by
  cases b with
  | true =>
    obtain ⟨o, e1, _, e2⟩ := (show h.IsTupleIter it t i from x)
    exact ⟨o, e1, fun v q => by rw [e2] at q; cases q⟩
  | false =>
    obtain ⟨o, e1, _, e2⟩ := (show h.IsListIter it t i from x)
    exact ⟨o, e1, fun v q => by rw [e2] at q; cases q⟩
theorem SIt.at {b : Bool} {h h' : Heap} {it t : Addr} {i : Nat} (x : SIt b h it t i) (k : ∀ o, h.get? it = some o → h'.get? it = some o) : SIt b h' it t i := by
  cases b with
  | true => exact (show h.IsTupleIter it t i from x).at k
  | false =>
    obtain ⟨o, e1, e2⟩ := (show h.IsListIter it t i from x)
    exact ⟨o, k o e1, e2⟩
theorem Inv.seqB {X : Cx} {pins : List (Addr × Obj)} {σ : St} {H : Hp} {s : Shared} {b : Bool} {a : Addr} {xs : List V} (I : Inv X pins σ H s) (h : SqB b X.K H a xs) : ∃ its, Vals xs its ∧ SqH b s.heap a its.toArray := by
  cases b with
  | true =>
    obtain ⟨its, rv, pl, hz⟩ := I.tuple h
    exact ⟨its, rv, pl⟩
  | false =>
    obtain ⟨its, rv, pl, hz⟩ := I.list h
    exact ⟨its, rv, pl.isList⟩
theorem Inv.seqB_inj {X : Cx} {pins : List (Addr × Obj)} {σ : St} {H : Hp} {s : Shared} {b : Bool} {a : Addr} {xs ys : List V} (I : Inv X pins σ H s) (h : SqB b X.K H a xs) (h' : SqB b X.K H a ys) : xs = ys := by
  cases b with
  | true => exact I.tuple_inj h h'
  | false => exact I.list_inj h h'
theorem SqB.keep {b : Bool} {K : PySem.W.Frag} {H H' : Hp} {a : Addr} {xs : List V} (h : SqB b K H a xs) (s : Same H H') : SqB b K H' a xs := by
  cases b with
  | true => exact s.tup h
  | false => exact s.seq h
section
variable {prog : Program} {w : World} {A : Around} {E : Value → Shared → Prop} {s : Shared}
theorem snext_item {b : Bool} {it t : Addr} {i : Nat} {xs : Array Value} {v : Value} {Q : Value → Shared → Prop} (hj : SIt b s.heap it t i) (ht : SqH b s.heap t xs) (hv : xs[i]? = some v)
    (k : ∀ g, SIt b g it t (i + 1) → Heap.SameBut it s.heap g → Q v { s with heap := g }) : wpAny (model prog w) A (Builtin.SmallTypes.nextOf (.ref it)) Q E s := by
  cases b with
  | true => exact tnext_item hj ht hv k
  | false => exact wpAny_nextOf_list_item hj ht hv k
theorem snext_end {b : Bool} {it t : Addr} {i : Nat} {xs : Array Value} {Q : Value → Shared → Prop} (hh : A.handled = none) (hj : SIt b s.heap it t i) (ht : SqH b s.heap t xs) (hv : xs[i]? = none)
    (k : ∀ g e, Heap.ExtBut it s.heap g → (∃ o, g.get? e = some o ∧ o.cls = .type "StopIteration") → E (.ref e) { s with heap := g }) : wpAny (model prog w) A (Builtin.SmallTypes.nextOf (.ref it)) Q E s := by
  cases b with
  | true => exact tnext_end hh hj ht hv k
  | false => exact wpAny_nextOf_list_end hh hj ht hv k
noncomputable def sItO (b : Bool) (a : Addr) : Obj := match b with
  | true => { cls := .type "tuple_iterator", data := .fields #[.ref a, rawInt 0] }
  | false => { cls := .type "list_iterator", data := .fields #[.ref a, .int 0 0] }
theorem iter_sq {b : Bool} {a : Addr} {xs : Array Value} {Q : Value → Shared → Prop} (h : SqH b s.heap a xs) (k : Q (.ref s.heap.objs.size) { s with heap := s.heap.push (sItO b a) }) : wpAny (model prog w) A (pyIter (.ref a)) Q E s := by
  cases b with
  | true => exact wpAny_pyIter_tuple h k
  | false => exact wpAny_pyIter_list h k
theorem es_next {b : Bool} {e it t : Addr} {i : Nat} {j : Int} {xs : Array Value} {v old : Value} {Q : Value → Shared → Prop} (he : IsEnum s.heap e it j old) (hi : SIt b s.heap it t i) (ht : SqH b s.heap t xs) (hv : xs[i]? = some v) (ne : e ≠ it)
    (k : ∀ g, IsEnumOut g e it (j + 1) v s.heap.objs.size → SIt b g it t (i + 1) → g.get? s.heap.objs.size = some { cls := .type "tuple", data := .seq #[.int j s.toks, v] } →
      (∀ b o, b ≠ e → b ≠ it → s.heap.get? b = some o → g.get? b = some o) → Q (.ref s.heap.objs.size) { s with heap := g, toks := s.toks + 1 }) :
    wpAny (model prog w) A (Builtin.«enumerate.__next__» ⟨[.ref e], []⟩) (fun f s' => ∃ r, f = .done (.ret r) ∧ Q r s') E s := by
  obtain ⟨hp, gn, dr, tk, os⟩ := s
  show wpAny _ _ (field (.ref e) 2 >>= _) (_) _ _
  refine (wpAny_bind (wpAny_field he rfl (x := .ref it) rfl ?_))
  refine (wpAny_bind (snext_item hi ht hv fun g1 i1 s1 => ?_))
  replace s1 : Heap.SameBut it hp g1 := s1
  have e1 : IsEnum g1 e it j old := (s1.2 e ne).trans he
  show wpAny _ _ (field (.ref e) 3 >>= _) (_) _ (⟨g1, gn, dr, tk, os⟩)
  refine (wpAny_bind (wpAny_field e1 rfl (x := rawInt j) rfl ?_))
  show wpAny _ _ (field (.ref e) 4 >>= _) (_) _ (⟨g1, gn, dr, tk, os⟩)
  refine (wpAny_bind (wpAny_field e1 rfl (x := .none) rfl ?_))
  show wpAny _ _ (mkInt j >>= _) (_) _ (⟨g1, gn, dr, tk, os⟩)
  refine (wpAny_bind (wpAny_mkInt ?_))
  show wpAny _ _ (setField (.ref e) 3 (rawInt (j + 1)) >>= _) (_) _ (⟨g1, gn, dr, tk + 1, os⟩)
  refine (wpAny_bind (wpAny_setField_rec e1 (by simp) fun g2 e2 s2 => ?_))
  replace s2 : Heap.SameBut e g1 g2 := s2
  replace e2 : IsEnum g2 e it (j + 1) old := e2
  show wpAny _ _ (setField (.ref e) 4 .none >>= _) (_) _ (⟨g2, gn, dr, tk + 1, os⟩)
  refine (wpAny_bind (wpAny_setField_rec e2 (by simp) fun g3 e3 s3 => ?_))
  replace s3 : Heap.SameBut e g2 g3 := s3
  replace e3 : IsEnum g3 e it (j + 1) old := e3
  show wpAny _ _ (newTuple [.int j tk, v] >>= _) (_) _ (⟨g3, gn, dr, tk + 1, os⟩)
  refine (wpAny_bind (wpAny_newTuple ?_))
  have e4 : IsEnum (g3.push { cls := .type "tuple", data := .seq #[.int j tk, v] }) e it (j + 1) old := Heap.get?_push_of_some _ e3
  have z3 : g3.objs.size = hp.objs.size := by rw [s3.1, s2.1, s1.1]
  have t4 : (g3.push { cls := .type "tuple", data := .seq #[.int j tk, v] }).get? g3.objs.size = some { cls := .type "tuple", data := .seq #[.int j tk, v] } := Heap.get?_push_size _ rfl
  have k4 : ∀ b o, b ≠ e → b ≠ it → hp.get? b = some o → (g3.push { cls := .type "tuple", data := .seq #[.int j tk, v] }).get? b = some o := fun b o be bi q =>
    Heap.get?_push_of_some _ (s3.extBut b o be (s2.extBut b o be (s1.extBut b o bi q)))
  have i4 : SIt b (g3.push { cls := .type "tuple", data := .seq #[.int j tk, v] }) it t (i + 1) :=
    i1.at fun o q => Heap.get?_push_of_some _ (s3.extBut it o ne.symm (s2.extBut it o ne.symm q))
  rw [z3] at t4
  have lt : e < hp.objs.size := Heap.lt_size he
  rw [z3]
  generalize g3.push { cls := .type "tuple", data := .seq #[.int j tk, v] } = g4 at *
  show wpAny _ _ (Builtin.SmallTypes.ownedTupleIsFree (.ref e) >>= _) (_) _ (⟨g4, gn, dr, tk + 1, os⟩)
  refine (wpAny_bind ?_)
  unfold Builtin.SmallTypes.ownedTupleIsFree
  refine (wpAny_bind (wpAny_field e4 rfl (x := .none) rfl (wpAny_pure ?_)))
  simp only [if_true]
  refine (wpAny_bind (wpAny_rule ?_))
  refine (wpAny_bind (wpAny_field e4 rfl (x := old) rfl ?_))
  refine (wpAny_bind (wpAny_setField_rec e4 (by simp) fun g5 e5 s5 => ?_))
  replace s5 : Heap.SameBut e g4 g5 := s5
  replace e5 : IsEnum g5 e it (j + 1) v := e5
  show wpAny _ _ (Builtin.SmallTypes.ownedTupleHandOut (.ref e) (.ref hp.objs.size) >>= _) (_) _ (⟨g5, gn, dr, tk + 1, os⟩)
  refine (wpAny_bind ?_)
  unfold Builtin.SmallTypes.ownedTupleHandOut
  refine (wpAny_bind (wpAny_setField_rec e5 (by simp) fun g6 e6 s6 => ?_))
  replace s6 : Heap.SameBut e g5 g6 := s6
  replace e6 : IsEnumOut g6 e it (j + 1) v hp.objs.size := e6
  refine wpAny_setField_rec e6 (by simp) fun g7 e7 s7 => ?_
  replace s7 : Heap.SameBut e g6 g7 := s7
  replace e7 : IsEnumOut g7 e it (j + 1) v hp.objs.size := e7
  have up : ∀ b o, b ≠ e → g4.get? b = some o → g7.get? b = some o := fun b o nb q => s7.extBut b o nb (s6.extBut b o nb (s5.extBut b o nb q))
  refine (wpAny_bind (wpAny_letGo (wpAny_pure ⟨_, rfl, k g7 e7 (i4.at fun o q => up _ o ne.symm q) (up _ _ (Nat.ne_of_gt lt) t4) fun b o be bi q => up b o be (k4 b o be bi q)⟩)))
theorem es_pyNext {b : Bool} {e it t : Addr} {i : Nat} {j : Int} {xs : Array Value} {v old : Value} {Q : Option Value → Shared → Prop} (he : IsEnum s.heap e it j old) (hi : SIt b s.heap it t i) (ht : SqH b s.heap t xs) (hv : xs[i]? = some v) (ne : e ≠ it)
    (k : ∀ g, IsEnumOut g e it (j + 1) v s.heap.objs.size → SIt b g it t (i + 1) → g.get? s.heap.objs.size = some { cls := .type "tuple", data := .seq #[.int j s.toks, v] } →
      (∀ b o, b ≠ e → b ≠ it → s.heap.get? b = some o → g.get? b = some o) → Q (some (.ref s.heap.objs.size)) { s with heap := g, toks := s.toks + 1 }) : wpAny (model prog w) A (pyNext (.ref e)) Q E s := by
  have ty : s.TypeIs (.ref e) "enumerate" := ⟨_, he, rfl⟩
  unfold pyNext
  exact (wpAny_bind (wpAny_attempt (wpAny_callSpecial?_slot (name := Str.ofString "__next__") ty F.slot_enumerate_next (wpAny_call_entry F.slot_enumerate_next ty F.entry_enumerate_next (es_next he hi ht hv ne fun g a1 a2 a3 a4 => wpAny_pure (k g a1 a2 a3 a4)) (F.args_enumerate_next_1 _)))))
theorem es_pyEnd {b : Bool} {e it t : Addr} {i : Nat} {j : Int} {xs : Array Value} {old : Value} {Q : Option Value → Shared → Prop} (hh : A.handled = none) (he : IsEnum s.heap e it j old) (hi : SIt b s.heap it t i) (ht : SqH b s.heap t xs) (hv : xs[i]? = none)
    (k : ∀ g, Heap.ExtBut it s.heap g → Q none { s with heap := g }) : wpAny (model prog w) A (pyNext (.ref e)) Q E s := by
  have ty : s.TypeIs (.ref e) "enumerate" := ⟨_, he, rfl⟩
  unfold pyNext
  refine (wpAny_bind (wpAny_attempt (wpAny_callSpecial?_slot (name := Str.ofString "__next__") ty F.slot_enumerate_next (wpAny_call_entry F.slot_enumerate_next ty F.entry_enumerate_next ?_ (F.args_enumerate_next_1 _)))))
  show wpAny _ _ (field (.ref e) 2 >>= _) (_) _ _
  refine (wpAny_bind (wpAny_field he rfl (x := .ref it) rfl ?_))
  refine (wpAny_bind (snext_end hh hi ht hv fun g x hk hs => ?_))
  obtain ⟨o, ho, hc⟩ := hs
  refine (wpAny_bind (wpAny_isInstance (T := "StopIteration") (b := true) ⟨o, ho, hc⟩ isSubtype_stop ?_))
  exact wpAny_pure (k _ hk)
end
end L2
set_option maxHeartbeats 4000000
namespace L2
open PySem PySem.Spec PyProof.Rows Gc
theorem SIt.extBut {b : Bool} {h h' : Heap} {it t : Addr} {i : Nat} {c : Addr} (x : SIt b h it t i) (k : Heap.ExtBut c h h') (ne : it ≠ c) : SIt b h' it t i := x.at fun o q => k it o ne q
theorem SqH.at' {b : Bool} {h h' : Heap} {t : Addr} {xs : Array Value} (x : SqH b h t xs) (k : ∀ o, h.get? t = some o → h'.get? t = some o) : SqH b h' t xs := by
  cases b with
  | true =>
    obtain ⟨o, e1, e2⟩ := (show h.IsTuple t xs from x)
    exact ⟨o, k o e1, e2⟩
  | false =>
    obtain ⟨o, e1, e2⟩ := (show h.IsList t xs from x)
    exact ⟨o, k o e1, e2⟩
theorem SqH.extBut {b : Bool} {h h' : Heap} {t : Addr} {xs : Array Value} {c : Addr} (x : SqH b h t xs) (k : Heap.ExtBut c h h') (ne : t ≠ c) : SqH b h' t xs := x.at' fun o q => k t o ne q
theorem SqH.push {b : Bool} {h : Heap} {t : Addr} {xs : Array Value} (x : SqH b h t xs) (o : Obj) : SqH b (h.push o) t xs := x.at' fun _ q => Heap.get?_push_of_some _ q
theorem SqH.lt {b : Bool} {h : Heap} {t : Addr} {xs : Array Value} (x : SqH b h t xs) : t < h.objs.size := by
  cases b with
  | true =>
    obtain ⟨o, e1, e2⟩ := (show h.IsTuple t xs from x)
    exact Heap.lt_size e1
  | false =>
    obtain ⟨o, e1, e2⟩ := (show h.IsList t xs from x)
    exact Heap.lt_size e1
theorem SIt.new {b : Bool} {h : Heap} {it a : Addr} (e : h.get? it = some (sItO b a)) : SIt b h it a 0 := by
  cases b with
  | true => exact ⟨_, e, rfl, rfl⟩
  | false => exact ⟨_, e, rfl, rfl⟩
section
variable {prog : Program} {w : World} {A : Around} {E : Value → Shared → Prop} {s : Shared}
end
end L2
set_option maxHeartbeats 4000000
namespace L2
open PySem PySem.Spec PyProof.Rows Gc
end L2
set_option maxHeartbeats 4000000
namespace L2
open PySem PySem.Spec PyProof.Rows Gc HT
section
variable {prog : Program} {w : World} {A : Around} {E : Value → Shared → Prop} {s : Shared}
end
section
variable {X : Cx}
end
end L2
set_option maxHeartbeats 4000000
namespace L2
open PySem PySem.Spec PyProof.Rows
section
variable {κ : Type} [DecidableEq κ]
noncomputable def valV (kvs : List (κ × V)) (k : κ) : Option V := (kvs.find? fun kv => decide (kv.1 = k)).map (·.2)
noncomputable def putK (kvs : List (κ × V)) (k : κ) (v : V) : List (κ × V) :=
  if (kvs.any fun kv => decide (kv.1 = k)) = true then kvs.map (fun kv => if kv.1 = k then (kv.1, v) else kv) else kvs ++ [(k, v)]
noncomputable def dropK (kvs : List (κ × V)) (k : κ) : List (κ × V) := kvs.filter fun kv => decide (kv.1 ≠ k)
theorem valV_pos {p : κ × V} {r : List (κ × V)} {k : κ} (e : p.1 = k) : valV (p :: r) k = some p.2 := by simp [valV, List.find?_cons, e]
theorem valV_neg {p : κ × V} {r : List (κ × V)} {k : κ} (e : ¬ p.1 = k) : valV (p :: r) k = valV r k := by simp [valV, List.find?_cons, e]
theorem valV_any (k : κ) : ∀ kvs : List (κ × V), (kvs.any fun kv => decide (kv.1 = k)) = (valV kvs k).isSome
  | [] => rfl
  | p :: r => by
    rw [List.any_cons]
    by_cases e : p.1 = k
    · simp only [valV_pos e, decide_eq_true e, Bool.true_or, Option.isSome_some]
    · rw [valV_neg e, decide_eq_false e, Bool.false_or]; exact valV_any k r
theorem length_putK (kvs : List (κ × V)) (k : κ) (v : V) : (putK kvs k v).length ≤ kvs.length + 1 := by
  unfold putK
  split
  · rw [List.length_map]; omega
  · rw [List.length_append, List.length_cons, List.length_nil]; omega
theorem putK_new {kvs : List (κ × V)} {k : κ} (v : V) (h : valV kvs k = none) : putK kvs k v = kvs ++ [(k, v)] := by
  unfold putK
  rw [valV_any, h]
  exact if_neg (by decide)
theorem RelO.isSome_eq {o : Option V} {u : Option Value} (r : RelO o u) : o.isSome = u.isSome := by
  cases o with
  | none => cases u with
    | none => rfl
    | some _ => exact (show False from r).elim
  | some _ => cases u with
    | none => exact (show False from r).elim
    | some _ => rfl
theorem RelO.getD {o : Option V} {u : Option Value} {d : V} {d' : Value} (r : RelO o u) (rd : RelV d d') : RelV (o.getD d) (u.getD d') := by
  cases o with
  | none => cases u with
    | none => exact rd
    | some _ => exact (show False from r).elim
  | some _ => cases u with
    | none => exact (show False from r).elim
    | some _ => exact r
theorem KV.val {kvs : List (κ × V)} {vs : List (κ × Value)} (r : KV kvs vs) (k : κ) : RelO (valV kvs k) (valueAt vs k) := by
  unfold KV at r
  induction r with
  | nil => exact True.intro
  | @cons p q ps qs h t ih =>
    obtain ⟨h1, h2⟩ := h
    by_cases e : p.1 = k
    · have e' : q.1 = k := h1.symm.trans e
      have b : valueAt (q :: qs) k = some q.2 := by simp [valueAt, List.find?_cons, e']
      rw [valV_pos e, b]; exact h2
    · have e' : ¬ q.1 = k := fun z => e (h1.trans z)
      have b : valueAt (q :: qs) k = valueAt qs k := by simp [valueAt, List.find?_cons, e']
      rw [valV_neg e, b]; exact ih
theorem KV.any {kvs : List (κ × V)} {vs : List (κ × Value)} (r : KV kvs vs) (k : κ) : (kvs.any fun kv => decide (kv.1 = k)) = vs.any fun kv => decide (kv.1 = k) := by
  unfold KV at r
  induction r with
  | nil => rfl
  | cons h t ih => rw [List.any_cons, List.any_cons, ih, h.1]
theorem KV.repl {kvs : List (κ × V)} {vs : List (κ × Value)} (r : KV kvs vs) (k : κ) {y : V} {u : Value} (ry : RelV y u) :
    KV (kvs.map fun kv => if kv.1 = k then (kv.1, y) else kv) (vs.map fun kv => if kv.1 = k then (kv.1, u) else kv) := by
  unfold KV at r ⊢
  induction r with
  | nil => exact .nil
  | @cons p q ps qs h t ih =>
    rw [List.map_cons, List.map_cons]
    refine .cons ?_ ih
    obtain ⟨h1, h2⟩ := h
    by_cases e : p.1 = k
    · rw [if_pos e, if_pos (h1.symm.trans e)]; exact ⟨h1, ry⟩
    · rw [if_neg e, if_neg (fun z => e (h1.trans z))]; exact ⟨h1, h2⟩
theorem KV.put {kvs : List (κ × V)} {vs : List (κ × Value)} (r : KV kvs vs) (k : κ) {y : V} {u : Value} (ry : RelV y u) : KV (putK kvs k y) (stored vs k u) := by
  unfold putK stored
  rw [r.any k]
  by_cases e : (vs.any fun kv => decide (kv.1 = k)) = true
  · rw [if_pos e, if_pos e]; exact r.repl k ry
  · rw [if_neg e, if_neg e]; exact Paired.snoc r ⟨rfl, ry⟩
theorem KV.drop {kvs : List (κ × V)} {vs : List (κ × Value)} (r : KV kvs vs) (k : κ) : KV (dropK kvs k) (without vs k) := by
  unfold KV at r ⊢
  unfold dropK without
  induction r with
  | nil => exact .nil
  | @cons p q ps qs h t ih =>
    obtain ⟨h1, h2⟩ := h
    rw [List.filter_cons, List.filter_cons]
    by_cases e : p.1 = k
    · have a : ¬ decide (p.1 ≠ k) = true := by simp [e]
      have b : ¬ decide (q.1 ≠ k) = true := by simp [h1.symm.trans e]
      rw [if_neg a, if_neg b]; exact ih
    · have e' : ¬ q.1 = k := fun z => e (h1.trans z)
      have a : decide (p.1 ≠ k) = true := by simp [e]
      have b : decide (q.1 ≠ k) = true := by simp [e']
      rw [if_pos a, if_pos b]; exact .cons ⟨h1, h2⟩ ih
theorem KV.keys {kvs : List (κ × V)} {vs : List (κ × Value)} (r : KV kvs vs) : kvs.map (·.1) = vs.map (·.1) := by
  unfold KV at r
  induction r with
  | nil => rfl
  | cons h t ih => rw [List.map_cons, List.map_cons, ih, h.1]
theorem KV.length {kvs : List (κ × V)} {vs : List (κ × Value)} (r : KV kvs vs) : kvs.length = vs.length := Paired.length r
end
theorem kV_is {P : Program} {w : World} {k : Key} {u : Value} (r : RelV (kV k) u) : (mixKind P w).is k u = true := by
  cases k with
  | inl i => obtain ⟨t, e⟩ := (show ∃ t, u = Value.int i t from r); subst e; exact mixKind_int P w i t
  | inr x => obtain ⟨t, e⟩ := (show ∃ t, u = Value.str x t from r); subst e; exact mixKind_str P w x t
theorem items_are {P : Program} {w : World} : ∀ {ks : List Key} {us : List Value}, Vals (ks.map kV) us → ItemsAre (mixKind P w) ks us
  | [], _, r => by rw [List.map_nil] at r; cases r; exact .nil
  | k :: ks, _, r => by
    rw [List.map_cons] at r
    cases r with
    | cons h t => exact .cons (kV_is h) (items_are t)
noncomputable abbrev KT (H : Hp) : List (List Key × V) → List (List Key × Addr × Value) → Prop := Paired fun p q => p.1 = q.1 ∧ H q.2.1 = some (.tup (p.1.map kV)) ∧ RelV p.2 q.2.2
theorem KT.val {H : Hp} {kvs : List (List Key × V)} {xs : List (List Key × Addr × Value)} (r : KT H kvs xs) (k : List Key) : RelO (valV kvs k) ((atKey xs k).map (·.2)) := by
  induction r with
  | nil => exact True.intro
  | @cons p q ps qs h t ih =>
    obtain ⟨h1, _, h2⟩ := h
    by_cases e : p.1 = k
    · have e' : q.1 = k := h1.symm.trans e
      have b : atKey (q :: qs) k = some q.2 := by simp [atKey, List.find?_cons, e']
      rw [valV_pos e, b]; exact h2
    · have e' : ¬ q.1 = k := fun z => e (h1.trans z)
      have b : atKey (q :: qs) k = atKey qs k := by simp [atKey, List.find?_cons, e']
      rw [valV_neg e, b]; exact ih
theorem KT.repl {H : Hp} {kvs : List (List Key × V)} {xs : List (List Key × Addr × Value)} (r : KT H kvs xs) (k : List Key) {y : V} {u : Value} (ry : RelV y u) :
    KT H (kvs.map fun kv => if kv.1 = k then (kv.1, y) else kv) (xs.map (putAt k u)) := by
  induction r with
  | nil => exact .nil
  | @cons p q ps qs h t ih =>
    rw [List.map_cons, List.map_cons]
    refine .cons ?_ ih
    obtain ⟨h1, h2, h3⟩ := h
    unfold putAt
    by_cases e : p.1 = k
    · rw [if_pos e, if_pos (h1.symm.trans e)]; exact ⟨h1, h2, ry⟩
    · rw [if_neg e, if_neg (fun z => e (h1.trans z))]; exact ⟨h1, h2, h3⟩
theorem KT.put {H : Hp} {kvs : List (List Key × V)} {xs : List (List Key × Addr × Value)} (r : KT H kvs xs) (k : List Key) {b : Addr} {y : V} {u : Value} (hb : H b = some (.tup (k.map kV))) (ry : RelV y u) :
    KT H (putK kvs k y) (storedH xs k b u) := by
  have e : (kvs.any fun kv => decide (kv.1 = k)) = (atKey xs k).isSome := by
    rw [valV_any, (r.val k).isSome_eq, Option.isSome_map]
  unfold putK storedH
  rw [e]
  by_cases q : (atKey xs k).isSome = true
  · rw [if_pos q, if_pos q]; exact r.repl k ry
  · rw [if_neg q, if_neg q]; exact Paired.snoc r ⟨rfl, hb, ry⟩
theorem KT.keeps {H H' : Hp} {kvs : List (List Key × V)} {xs : List (List Key × Addr × Value)} (r : KT H kvs xs) (ht : ∀ b ys, H b = some (.tup ys) → H' b = some (.tup ys)) : KT H' kvs xs :=
  Paired.mapP r fun _ _ z => ⟨z.1, ht _ _ z.2.1, z.2.2⟩
section
variable {P : Program} {w : World} {H : Hp} {h : Heap} {a : Addr}
theorem rd_of {u : HO} (ok : HOk P w H h) (e : Rd H a u) : ObjOk P w H h a u := e.ok ok
theorem dk_rd {kvs : List (Key × V)} (ok : HOk P w H h) (e : Rd H a (.dK kvs)) : kvs.length ≤ sizeLine ∧ (a == sysModules) = false ∧ ∃ vs, KV kvs vs ∧ h.DictOf (mixKind P w) a vs :=
  show ObjOk P w H h a (.dK kvs) from rd_of ok e
theorem dk_of {kvs : List (Key × V)} (ok : HOk P w H h) (e : H a = some (.dK kvs)) : kvs.length ≤ sizeLine ∧ (a == sysModules) = false ∧ ∃ vs, KV kvs vs ∧ h.DictOf (mixKind P w) a vs := dk_rd ok (.inl e)
theorem key_of {ks : List Key} (ok : HOk P w H h) (e : H a = some (.tup (ks.map kV))) : (tupleKind (mixKind P w)).is h ks a := by
  obtain ⟨_, its, r, o, h1, h2, n, h3⟩ := (show ObjOk P w H h a (.tup (ks.map kV)) from ok a _ e)
  exact ⟨o, its.toArray, n, h1, h2, h3, by simpa using items_are r⟩
theorem dt_rd {kvs : List (List Key × V)} (ok : HOk P w H h) (e : Rd H a (.dT kvs)) : kvs.length ≤ sizeLine ∧ (a == sysModules) = false ∧
    ∃ xs, KT H kvs xs ∧ h.DictOfH (tupleKind (mixKind P w)) a xs := by
  obtain ⟨z, y, xs, r, o, es, ep, h1, h2, h3, h4, h5⟩ := (show ObjOk P w H h a (.dT kvs) from rd_of ok e)
  refine ⟨z, y, xs, r, o, es, ep, h1, h2, h3, h4, fun x hx => ?_, h5⟩
  have all : ∀ {l : List (List Key × V)} {m : List (List Key × Addr × Value)}, KT H l m → ∀ x ∈ m, (tupleKind (mixKind P w)).is h x.1 x.2.1 := by
    intro l m q
    induction q with
    | nil => intro x hx; exact nomatch hx
    | @cons p q ps qs hq t ih =>
      intro x hx
      rcases List.mem_cons.mp hx with e | hx
      · subst e
        exact key_of ok (by rw [← hq.1]; exact hq.2.1)
      · exact ih x hx
  exact all r x hx
theorem dt_of {kvs : List (List Key × V)} (ok : HOk P w H h) (e : H a = some (.dT kvs)) : kvs.length ≤ sizeLine ∧ (a == sysModules) = false ∧
    ∃ xs, KT H kvs xs ∧ h.DictOfH (tupleKind (mixKind P w)) a xs := dt_rd ok (.inl e)
end
noncomputable def DGet (H : Hp) (a : Addr) (y : V) (r : Option V) : Prop :=
  (∃ kvs k, Rd H a (.dK kvs) ∧ y = kV k ∧ r = valV kvs k) ∨ ∃ kvs k b, Rd H a (.dT kvs) ∧ y = .ref b ∧ H b = some (.tup (k.map kV)) ∧ r = valV kvs k
noncomputable def DPut (H : Hp) (a : Addr) (y v : V) (H' : Hp) : Prop :=
  (∃ kvs k, H a = some (.dK kvs) ∧ y = kV k ∧ kvs.length < sizeLine ∧ H' = upd H a (.dK (putK kvs k v))) ∨
  ∃ kvs k b, H a = some (.dT kvs) ∧ y = .ref b ∧ H b = some (.tup (k.map kV)) ∧ kvs.length < sizeLine ∧ H' = upd H a (.dT (putK kvs k v))
theorem DGet.k {H : Hp} {a : Addr} {kvs : List (Key × V)} {k : Key} (e : H a = some (.dK kvs)) : DGet H a (kV k) (valV kvs k) := .inl ⟨kvs, k, .inl e, rfl, rfl⟩
theorem DGet.t {H : Hp} {a b : Addr} {kvs : List (List Key × V)} {k : List Key} (e : H a = some (.dT kvs)) (eb : H b = some (.tup (k.map kV))) : DGet H a (.ref b) (valV kvs k) := .inr ⟨kvs, k, b, .inl e, rfl, eb, rfl⟩
theorem DPut.k {H : Hp} {a : Addr} {kvs : List (Key × V)} {k : Key} {v : V} (e : H a = some (.dK kvs)) (hl : kvs.length < sizeLine) : DPut H a (kV k) v (upd H a (.dK (putK kvs k v))) := .inl ⟨kvs, k, e, rfl, hl, rfl⟩
theorem DPut.t {H : Hp} {a b : Addr} {kvs : List (List Key × V)} {k : List Key} {v : V} (e : H a = some (.dT kvs)) (eb : H b = some (.tup (k.map kV))) (hl : kvs.length < sizeLine) :
    DPut H a (.ref b) v (upd H a (.dT (putK kvs k v))) := .inr ⟨kvs, k, b, e, rfl, eb, hl, rfl⟩
section
variable {X : Cx} {pins : List (Addr × Obj)} {σ : St} {H : Hp} {s : Shared} {a : Addr} {y v : V} {u r : Value} {o : Option V} {A : Around} {E : Value → Shared → Prop}
theorem d_getItem {Q : Value → Shared → Prop} (hu : A.units + 1 < cLine) (I : Inv X pins σ H s) (g : DGet H a y (some v)) (ry : RelV y u) (h : ∀ w' s', Inv X pins σ H s' → RelV v w' → Q w' s') :
    wpAny (model X.prog X.w) A (getItem (.ref a) u) Q E s := by
  rcases g with ⟨kvs, k, e, ey, l⟩ | ⟨kvs, k, b, e, ey, eb, l⟩
  · subst ey
    obtain ⟨z, hd, vs, rel, dd⟩ := dk_rd I.hok e
    obtain ⟨w', hw, rw'⟩ := RelO.some_of (v := v) (o := valueAt vs k) (by rw [l]; exact rel.val k)
    exact wpAny_getItem_of (kV_is ry) dd.mapOf hw (h w' _ (I.tok _) rw')
  · subst ey
    cases (show u = Value.ref b from ry)
    obtain ⟨z, hd, xs, rel, dd⟩ := dt_rd I.hok e
    obtain ⟨w', hw, rw'⟩ := RelO.some_of (v := v) (o := (atKey xs k).map (·.2)) (by rw [l]; exact rel.val k)
    obtain ⟨p, hp, hp2⟩ := Option.map_eq_some_iff.mp hw
    refine wpAny_getItem_heap (tupleKind_room_in1 hu) (key_of I.hok eb) dd hp ?_
    rw [hp2]
    exact h w' _ (I.tok _) rw'
theorem d_write {h' : Heap} {t' : Nat} {ob : HO} (I : Inv X pins σ H s) (mu : Mut (H a)) (hs : Heap.SameBut a s.heap h') (he : ∃ q, h'.get? a = some q) (new : ObjOk X.prog X.w (upd H a ob) h' a ob) :
    Inv X pins σ (upd H a ob) { s with heap := h', toks := t' } :=
  I.write (x := a) (e := a) mu (.inl rfl) (fun b q hb z => (hs.2 b hb).trans z) he new
theorem dk_new {P : Program} {w : World} {H' : Hp} {h' : Heap} {kvs : List (Key × V)} {vs : List (Key × Value)} (z : kvs.length ≤ sizeLine) (hd : (a == sysModules) = false) (rel : KV kvs vs) (dd : h'.DictOf (mixKind P w) a vs) :
    ObjOk P w H' h' a (.dK kvs) := ⟨z, hd, vs, rel, dd⟩
theorem d_setItem {H' : Hp} {Q : Unit → Shared → Prop} (hu : A.units + 1 < cLine) (I : Inv X pins σ H s) (g : DPut H a y v H') (ry : RelV y u) (rv : RelV v r) (h : ∀ s', Inv X pins σ H' s' → Q () s') :
    wpAny (model X.prog X.w) A (setItem (.ref a) u r) Q E s := by
  rcases g with ⟨kvs, k, e, ey, l, eH⟩ | ⟨kvs, k, b, e, ey, eb, l, eH⟩
  · subst ey eH
    obtain ⟨z, hd, vs, rel, dd⟩ := dk_of I.hok e
    have hz : vs.length ≤ sizeLine := by rw [← rel.length]; exact z
    have hl : (putK kvs k v).length ≤ sizeLine := by have := length_putK kvs k v; omega
    refine wpAny_setItem_pairs (hsz := hz) (kV_is ry) dd fun h' dd' hs => h _ ?_
    have he : ∃ q, h'.get? a = some q := let ⟨q, _, _, hq, _⟩ := dd'; ⟨q, hq⟩
    exact d_write I (by rw [e]; exact True.intro) hs he (dk_new hl hd (rel.put k rv) dd')
  · subst ey eH
    cases (show u = Value.ref b from ry)
    obtain ⟨z, hd, xs, rel, dd⟩ := dt_of I.hok e
    have hz : xs.length ≤ sizeLine := by rw [← Paired.length rel]; exact z
    have hl : (putK kvs k v).length ≤ sizeLine := by have := length_putK kvs k v; omega
    refine wpAny_setItem_heap (hsz := hz) (tupleKind_room_in1 hu) (key_of I.hok eb) dd fun h' dd' hs => h _ ?_
    obtain ⟨q, es, ep, hq, h2, h3, h4, _, h5⟩ := dd'
    refine d_write I (by rw [e]; exact True.intro) hs ⟨q, hq⟩ ⟨hl, hd, _, (rel.put k eb rv).keeps fun c ys ec => ?_, q, es, ep, hq, h2, h3, h4, h5⟩
    rw [upd_ne (ne_of ec e (fun z => nomatch z))]
    exact ec
end
section
variable {X : Cx} {pins : List (Addr × Obj)} {σ : St} {H : Hp} {s : Shared} {a : Addr} {kvs : List (Key × V)} {k : Key} {u : Value} {A : Around} {E : Value → Shared → Prop}
end
noncomputable def NoSl (i : Expr) : Prop := ∀ ov iv, subscripted i false ov iv = operate [ov, iv] (getItem ov iv)
theorem subD_of {prog : Program} {w : World} {A : Around} {E : Value → Shared → Prop} {s : Shared} {env : Env} {value slice : Expr} {pos : Pos} {T id : String} {Q : Value → Shared → Prop}
    (hl : typeLookup (.type T) "__getitem__" = pure (some (.builtin id))) (hs : NoSl slice)
    (h : wpAny (model prog w) A (eval value env) (fun o s₁ => wpAny (model prog w) A (eval slice env) (fun i s₂ => s₂.TypeIs o T ∧ wpAny (model prog w) A (getItem o i) Q E s₂) E s₁) E s) :
    wpAny (model prog w) A (eval (.Subscript value slice pos) env) Q E s := by
  refine Subscript_ (wpAny_mono h (fun o s₁ h₁ => wpAny_mono h₁ (fun i s₂ h₂ => ?_) fun _ _ x => x) fun _ _ x => x)
  obtain ⟨hT, h₂⟩ := h₂
  unfold subscriptTail
  refine wpAny_bind ?_
  rw [getitemInPython_of_ne hT.not_modules]
  refine wpAny_bind (wpAny_specialOf hT hl ?_)
  have fin : wpAny (model prog w) A (subscripted slice false o i) (fun r s₃ => wpAny (model prog w) A (letTemporaryGo value o r >>= fun _ => pure r) Q E s₃) E s₂ := by
    rw [hs o i]
    exact wpAny_operating (wpAny_mono h₂ (fun r s₃ h₃ => wpAny_bind (wpAny_letTemporaryGo (wpAny_pure h₃))) fun _ _ x => x)
  first
    | exact wpAny_pure (wpAny_bind fin)
    | exact wpAny_bind (wpAny_pure (wpAny_bind fin))
    | exact wpAny_bind fin
theorem dict_typeIs {X : Cx} {pins : List (Addr × Obj)} {σ : St} {H : Hp} {s : Shared} {a : Addr} {y : V} {o : Option V} (I : Inv X pins σ H s) (g : DGet H a y o) : s.TypeIs (.ref a) "dict" := by
  rcases g with ⟨kvs, k, e, _, _⟩ | ⟨kvs, k, b, e, _, _, _⟩
  · obtain ⟨_, _, vs, _, dd⟩ := dk_rd I.hok e
    exact dd.typeIs
  · obtain ⟨_, _, xs, _, dd⟩ := dt_rd I.hok e
    exact dd.typeIs
noncomputable def tDGet (td ty : TE) : TE := fun σ H Q => td σ H fun x H1 => ty σ H1 fun y H2 => ∃ a v, x = .ref a ∧ DGet H2 a y (some v) ∧ Q v H2
noncomputable def sDPut (td ty tv : TE) : TS := fun D σ H => tv σ H fun v H1 => td σ H1 fun x H2 => ty σ H2 fun y H3 => ∃ a H4, x = .ref a ∧ DPut H3 a y v H4 ∧ D.nx σ H4
section
variable {X : Cx} {o i e value : Expr} {pos pos' tpos : Pos} {td ty tv : TE}
theorem pe_dget (hu : X.A.units + 1 < cLine) (ho : PE X o td) (hi : PE X i ty) (hs : NoSl i) : PE X (.Subscript o i pos) (tDGet td ty) := by
  intro pins s σ H Q I h
  refine subD_of PySem.F.slot_dict_getitem.lookup hs (thn (ho pins s σ H _ I h) fun u s1 ⟨x, H1, I1, rx, q1⟩ => thn (hi pins s1 σ H1 _ I1 q1) fun iv s2 ⟨y, H2, I2, ry, a, v, ex, g, q2⟩ => ?_)
  subst ex
  obtain rfl : u = Value.ref a := rx
  exact ⟨dict_typeIs I2 g, d_getItem hu I2 g ry fun w' s3 I3 rw' => ⟨v, H2, I3, rw', q2⟩⟩
theorem ps_dput (hu : X.A.units + 1 < cLine) (ho : PE X o td) (hi : PE X i ty) (hv : PE X value tv) (hs : swapsWith value (some (.Subscript o i pos')) pos.line X.env = pure false) :
    PS X (.Assign [.Subscript o i pos'] value pos) (sDPut td ty tv) := by
  intro pins s σ H D I h
  refine wpAny_Assign_Subscript (thn (hv pins s σ H _ I h) fun r s1 ⟨v, H1, I1, rv, q1⟩ => thn (ho pins s1 σ H1 _ I1 q1) fun u s2 ⟨x, H2, I2, rx, q2⟩ => thn (hi pins s2 σ H2 _ I2 q2) fun iv s3 ⟨y, H3, I3, ry, a, H4, ex, g, q3⟩ => ?_) hs
  subst ex
  obtain rfl : u = Value.ref a := rx
  exact d_setItem hu I3 g ry rv fun s4 I4 => ⟨σ, H4, I4, q3⟩
end
section
variable {X : Cx} {pos : Pos}
end
noncomputable def tPairs : List (TE × TE) → St → Hp → (List (V × V) → Hp → Prop) → Prop
  | [], _, H, Q => Q [] H
  | (tk, tv) :: r, σ, H, Q => tk σ H fun x H1 => tv σ H1 fun y H2 => tPairs r σ H2 fun ps H3 => Q ((x, y) :: ps) H3
noncomputable abbrev VV : List (V × V) → List (Value × Value) → Prop := Paired fun p q => RelV p.1 q.1 ∧ RelV p.2 q.2
noncomputable def PPs (X : Cx) (pos : Pos) (keys : List (Option Expr)) (values : List Expr) (trs : List (TE × TE)) : Prop :=
  ∀ (pins : List (Addr × Obj)) (s : Shared) (σ : St) (H : Hp) (Q : List (V × V) → Hp → Prop), Inv X pins σ H s → tPairs trs σ H Q →
    wpAny (model X.prog X.w) X.A (evalPairs (pairTrees keys values X.env pos)) (fun vs s' => ∃ ps H', Inv X pins σ H' s' ∧ VV ps vs ∧ Q ps H') X.xe s
theorem pps_nil {X : Cx} {pos : Pos} : PPs X pos [] [] [] := fun pins s σ H Q I h => pairTrees_nil_walk ⟨[], H, I, .nil, h⟩
theorem pps_cons {X : Cx} {pos : Pos} {k v : Expr} {ks : List (Option Expr)} {vs : List Expr} {tk tv : TE} {trs : List (TE × TE)} (hk : PE X k tk) (hv : PE X v tv) (hr : PPs X pos ks vs trs) :
    PPs X pos (some k :: ks) (v :: vs) ((tk, tv) :: trs) := fun pins s σ H Q I h =>
  pairTrees_cons_walk (thn (hk pins s σ H _ I h) fun u s1 ⟨x, H1, I1, rx, q1⟩ => thn (hv pins s1 σ H1 _ I1 q1) fun w2 s2 ⟨y, H2, I2, ry, q2⟩ =>
    thn (hr pins s2 σ H2 _ I2 q2) fun ws s3 ⟨ps, H3, I3, rel, q3⟩ => ⟨(x, y) :: ps, H3, I3, .cons ⟨rx, ry⟩ rel, q3⟩)
noncomputable def mergeK (kvs more : List (Key × V)) : List (Key × V) := more.foldl (fun acc kv => putK acc kv.1 kv.2) kvs
theorem KV.merge : ∀ {more : List (Key × V)} {rs : List (Key × Value)} {kvs : List (Key × V)} {vs : List (Key × Value)}, KV more rs → KV kvs vs → KV (mergeK kvs more) (merged vs rs) := by
  intro more rs kvs vs r
  unfold KV at r
  induction r generalizing kvs vs with
  | nil => intro q; exact q
  | @cons p q ps qs h t ih =>
    intro r0
    have e : KV (putK kvs p.1 p.2) (stored vs q.1 q.2) := by
      have := r0.put p.1 h.2
      rw [← h.1]; exact this
    exact ih e
theorem length_mergeK : ∀ (more kvs : List (Key × V)), (mergeK kvs more).length ≤ kvs.length + more.length
  | [], kvs => by show kvs.length ≤ kvs.length + 0; omega
  | p :: r, kvs => by
    have h1 := length_mergeK r (putK kvs p.1 p.2)
    have h2 := length_putK kvs p.1 p.2
    show (mergeK (putK kvs p.1 p.2) r).length ≤ _
    rw [List.length_cons]; omega
theorem carries_of {P : Program} {w : World} : ∀ {kvs : List (Key × V)} {ws : List (Value × Value)}, VV (kvs.map fun kv => (kV kv.1, kv.2)) ws → ∃ rs, Carries (mixKind P w) ws rs ∧ KV kvs rs
  | [], _, r => by rw [List.map_nil] at r; cases r; exact ⟨[], True.intro, .nil⟩
  | p :: kvs, _, r => by
    rw [List.map_cons] at r
    cases r with
    | @cons a b as bs h t =>
      obtain ⟨rs, c, q⟩ := carries_of (P := P) (w := w) t
      obtain ⟨b1, b2⟩ := b
      exact ⟨(p.1, b2) :: rs, ⟨kV_is h.1, rfl, c⟩, .cons ⟨rfl, h.2⟩ q⟩
noncomputable def tDisp (trs : List (TE × TE)) : TE := fun σ H Q => ∀ p, H p = none → tPairs trs σ (upd H p (.dK [])) fun ps H2 => H2 p = some (.dK []) ∧ ∃ kvs : List (Key × V), ps = kvs.map (fun kv => (kV kv.1, kv.2)) ∧ kvs.length ≤ 15 ∧ Q (.ref p) (upd H2 p (.dK (mergeK [] kvs)))
theorem pe_disp {X : Cx} {pos : Pos} {keys : List (Option Expr)} {values : List Expr} {trs : List (TE × TE)} (h : PPs X pos keys values trs) (hall : keys.all (·.isSome) = true) (hl : keys.length = values.length) (h0 : keys ≠ [])
    (h15 : keys.length ≤ 15) : PE X (.Dict keys values pos) (tDisp trs) := by
  intro pins s σ H Q I q
  have hn := I.hok.fresh (Nat.le_refl s.heap.objs.size)
  have I1 := I.laid (a := s.heap.objs.size) (o := .dK []) (h' := s.heap.push { cls := .type "dict", data := .dict #[] }) (t' := s.toks) (fun _ _ q => Heap.get?_push_of_some _ q) (Nat.le_refl _) (dk_empty s.heap I.big)
  refine wpAny_Dict_walk (knd := mixKind X.prog X.w) hall hl h0 h15 (thn (h pins _ σ _ _ I1 (q _ hn)) fun ws s2 ⟨ps, H2, I2, rel, e, kvs, ep, lk, q2⟩ => ?_)
  subst ep
  obtain ⟨rs, c, rk⟩ := carries_of (P := X.prog) (w := X.w) rel
  obtain ⟨z, hd, vs0, r0, dd⟩ := dk_of I2.hok e
  cases r0
  refine ⟨rs, c, dd, fun h' dd' hs => ⟨.ref s.heap.objs.size, _, ?_, rfl, q2⟩⟩
  have hz : (mergeK [] kvs).length ≤ sizeLine := by
    have h1 := length_mergeK kvs []
    rw [List.length_nil] at h1
    rw [sizeLine_eq]; omega
  have he : ∃ q, h'.get? s.heap.objs.size = some q := let ⟨q, _, _, hq, _⟩ := dd'; ⟨q, hq⟩
  exact d_write I2 (by rw [e]; exact True.intro) hs he (dk_new hz hd (rk.merge .nil) dd')
structure M1 (X : Cx) (o : Expr) (m : Str) (apos : Pos) (e : Expr) (cpos : Pos) : Prop where
  base : attributeBase o m X.env (eval o X.env) = eval o X.env
  few : ((backTo cpos (starEach [e] X.env)).all (fun x => !x.1) && (backToKw cpos (keywordEach [] X.env)).all (fun x => x.1.isSome)
    && decide (([e] : List Expr).length + ([] : List Keyword).length + (if ([] : List Keyword).isEmpty then 0 else 1) < 30)) = true
  line : (apos.endLine == cpos.line) = true
  trees : backTo cpos (starEach [e] X.env) = [(false, eval e X.env)]
structure M2 (X : Cx) (o : Expr) (m : Str) (apos : Pos) (e f : Expr) (cpos : Pos) : Prop where
  base : attributeBase o m X.env (eval o X.env) = eval o X.env
  few : ((backTo cpos (starEach [e, f] X.env)).all (fun x => !x.1) && (backToKw cpos (keywordEach [] X.env)).all (fun x => x.1.isSome)
    && decide (([e, f] : List Expr).length + ([] : List Keyword).length + (if ([] : List Keyword).isEmpty then 0 else 1) < 30)) = true
  line : (apos.endLine == cpos.line) = true
  trees : backTo cpos (starEach [e, f] X.env) = [(false, eval e X.env), (false, eval f X.env)]
noncomputable def IsD (H : Hp) (a : Addr) : Prop := (∃ kvs, Rd H a (.dK kvs)) ∨ ∃ kvs, Rd H a (.dT kvs)
theorem isD_at {X : Cx} {pins : List (Addr × Obj)} {σ : St} {H : Hp} {s : Shared} {a : Addr} (I : Inv X pins σ H s) (d : IsD H a) :
    s.TypeIs (.ref a) "dict" ∧ (∀ b, Value.ref a = .ref b → ∃ ob, s.heap.get? b = some ob ∧ ob.dict = none) ∧ (a == sysModules) = false := by
  rcases d with ⟨kvs, e⟩ | ⟨kvs, e⟩
  · obtain ⟨_, hd, vs, _, dd⟩ := dk_rd I.hok e
    refine ⟨dd.typeIs, fun b q => ?_, hd⟩
    cases q
    obtain ⟨ob, _, _, h1, h2, _⟩ := dd
    exact ⟨ob, h1, h2.2.1⟩
  · obtain ⟨_, hd, xs, _, dd⟩ := dt_rd I.hok e
    refine ⟨dd.typeIs, fun b q => ?_, hd⟩
    cases q
    obtain ⟨ob, _, _, h1, h2, _⟩ := dd
    exact ⟨ob, h1, h2.2.1⟩
section
variable {X : Cx} {pins : List (Addr × Obj)} {σ : St} {H : Hp} {s : Shared} {a : Addr} {y d : V} {u r : Value} {o : Option V} {A : Around} {E : Value → Shared → Prop}
theorem d_get2 {Q : Value → Shared → Prop} (hu : A.units + 1 < cLine) (I : Inv X pins σ H s) (g : DGet H a y o) (ry : RelV y u) (rd : RelV d r) (h : ∀ w' s', Inv X pins σ H s' → RelV (o.getD d) w' → Q w' s') :
    wpAny (model X.prog X.w) A (call (.builtin "dict.get") [.ref a, u, r]) Q E s := by
  rcases g with ⟨kvs, k, e, ey, l⟩ | ⟨kvs, k, b, e, ey, eb, l⟩
  · subst ey
    obtain ⟨z, hd, vs, rel, dd⟩ := dk_rd I.hok e
    refine call_meetsIn PySem.F.slot_dict_get dd.typeIs PySem.F.entry_dict_get (PySem.F.args_dict_get_3 _ _ _) (meets_dict_get_default (mixKind X.prog X.w) a (kV_is ry) hd r) ⟨_, dd.mapOf, h _ _ (I.tok _) ?_⟩
    rw [l]
    exact (rel.val k).getD rd
  · subst ey
    cases (show u = Value.ref b from ry)
    obtain ⟨z, hd, xs, rel, dd⟩ := dt_rd I.hok e
    refine call_meetsIn PySem.F.slot_dict_get dd.typeIs PySem.F.entry_dict_get (PySem.F.args_dict_get_3 _ _ _) (meetsH_dict_get_default (tupleKind (mixKind X.prog X.w)) a b hd r) ⟨tupleKind_room_in1 hu, k, xs, key_of I.hok eb, dd, h _ _ (I.tok _) ?_⟩
    rw [l]
    exact (rel.val k).getD rd
end
noncomputable def tDGet2 (td ty tx : TE) : TE := fun σ H Q => td σ H fun x H1 => ∃ a, x = .ref a ∧ IsD H1 a ∧ ty σ H1 fun y H2 => tx σ H2 fun z H3 => ∃ o, DGet H3 a y o ∧ Q (o.getD z) H3
section
variable {X : Cx} {o e f : Expr} {apos cpos : Pos} {td ty tx : TE}
theorem pe_dget2 (hu : X.A.units + 1 < cLine) (ho : PE X o td) (he : PE X e ty) (hf : PE X f tx) (m : M2 X o "get" apos e f cpos) : PE X (.Call (.Attribute o "get" apos) [e, f] [] cpos) (tDGet2 td ty tx) := by
  intro pins s σ H Q I h
  refine wpAny_Call_method m.base m.few m.line PySem.F.plainAttrs_dict PySem.F.slot_dict_get PySem.F.type_dict_get (thn (ho pins s σ H _ I h) fun u s1 ⟨x, H1, I1, rx, a, ex, d, q1⟩ => ?_)
  subst ex
  obtain rfl : u = Value.ref a := rx
  obtain ⟨t1, t2, _⟩ := isD_at I1 d
  refine ⟨t1, t2, ?_⟩
  rw [m.trees]
  refine Calls.callWith_builtin rfl (Calls.evalArgs_plain (Calls.spliced_cons (thn (he pins s1 σ H1 _ I1 q1) fun iv s2 ⟨y, H2, I2, ry, q2⟩ =>
    Calls.spliced_cons (thn (hf pins s2 σ H2 _ I2 q2) fun fv s3 ⟨z, H3, I3, rz, ov, g, q3⟩ => Calls.spliced_nil ?_))))
  exact d_get2 hu I3 g ry rz fun w' s4 I4 rw' => ⟨_, H3, I4, rw', q3⟩
end
section
variable {X : Cx} {pins : List (Addr × Obj)} {σ : St} {H : Hp} {s : Shared} {a : Addr} {kvs : List (Key × V)} {A : Around} {E : Value → Shared → Prop}
theorem d_copyOf {Q : Value → Shared → Prop} (I : Inv X pins σ H s) (e : Rd H a (.dK kvs)) (h : ∀ p s', H p = none → Inv X pins σ (upd H p (.dK kvs)) s' → Q (.ref p) s') : wpAny (model X.prog X.w) A (call (.type "dict") [.ref a]) Q E s := by
  obtain ⟨z, hd, vs, rel, dd⟩ := dk_rd I.hok e
  refine kt_call_dict hd dd (by rw [← rel.length]; exact z) fun h' dd' hs => ?_
  refine h _ _ (I.hok.fresh (Nat.le_refl _)) (I.laid (a := s.heap.objs.size) (o := .dK kvs) (t' := s.toks) (fun b q hq => ?_) (Nat.le_refl _) (dk_new z (beq_eq_false_iff_ne.mpr (Ne.symm (Nat.ne_of_lt I.big))) rel dd'))
  exact (hs.2 b (Nat.ne_of_lt (Heap.lt_size hq))).trans (Heap.get?_push_of_some _ hq)
end
section
variable {X : Cx} {pins : List (Addr × Obj)} {σ : St} {H : Hp} {s : Shared} {a : Addr} {y : V} {u : Value} {A : Around} {E : Value → Shared → Prop}
end
end L2
set_option maxHeartbeats 4000000
namespace L2
open PySem PySem.Spec PyProof.Rows Gc
theorem kV_rel {P : Program} {w : World} {k : Key} {u : Value} (h : (mixKind P w).is k u = true) : RelV (kV k) u := by
  rcases keyIs_shape (show keyIs k u = true from h) with ⟨i, t, rfl, rfl⟩ | ⟨x, t, rfl, rfl⟩
  · exact ⟨t, rfl⟩
  · exact ⟨t, rfl⟩
theorem frz_at {X : Cx} {pins : List (Addr × Obj)} {σ : St} {H : Hp} {s : Shared} {d : Addr} {o : Obj} {kvs : List (Key × V)} {es0 : Array DictEntry} {ep : Nat} (I : Inv X pins σ H s) (h : H d = some (.frz o (.dK kvs))) (hd : o.data = .dict es0 ep) :
    ∃ vs, KV kvs vs ∧ s.heap.DictAt (mixKind X.prog X.w) d vs ep ∧ (d == sysModules) = false := by
  obtain ⟨ho, _, hy, vs, r, o', es, ep', e1, e2, e3, e4⟩ := (show ObjOk X.prog X.w H s.heap d (.frz o (.dK kvs)) from I.hok d _ h)
  rw [ho] at e1
  cases e1
  rw [hd] at e3
  cases e3
  exact ⟨vs, r, ⟨o, es0, ho, e2, hd, e4⟩, hy⟩
end L2
set_option maxHeartbeats 4000000
namespace L2
open PySem PySem.Spec PyProof.Rows Gc
end L2
set_option maxHeartbeats 4000000
namespace L2
open PySem PySem.Spec PyProof.Rows Gc
end L2
set_option maxHeartbeats 4000000
namespace L2
open PySem PySem.Spec PyProof.Rows Gc PySem.W
noncomputable def tFrz (t : TE) : TE := fun σ H Q => t σ H fun v H1 => ∃ d kvs, v = .ref d ∧ H1 d = some (.dK kvs) ∧ ∀ o, Q v (upd H1 d (.frz o (.dK kvs)))
theorem pe_frz {X : Cx} {e : Expr} {t : TE} (h : PE X e t) : PE X e (tFrz t) := by
  intro pins s σ H Q I q
  refine thn (h pins s σ H _ I q) fun v s1 ⟨x, H1, I1, r1, q1⟩ => ?_
  obtain ⟨d, kvs, e, hz, rr⟩ := q1
  subst e
  obtain ⟨z0, hy, vs, rk, o, es, ep, e1, e2⟩ := (show ObjOk X.prog X.w H1 s1.heap d (.dK kvs) from I1.hok d _ hz)
  have I2 : Inv X pins σ (upd H1 d (.frz o (.dK kvs))) s1 := d_write (s := s1) (t' := s1.toks) (h' := s1.heap) (ob := .frz o (.dK kvs)) I1 (by rw [hz]; exact True.intro) ⟨rfl, fun _ _ => rfl⟩ ⟨o, e1⟩ ⟨e1, z0, hy, vs, rk, o, es, ep, e1, e2⟩
  exact ⟨.ref d, _, I2, r1, rr o⟩
noncomputable def Iti (d : Addr) (o : Obj) (kvs : List (Key × V)) : It :=
  ⟨fun i H => H d = some (.frz o (.dK kvs)) ∧ i < kvs.length,
   fun i H v H' => ∃ T kv, kvs[i]? = some kv ∧ H T = none ∧ H' = upd H T (.tup [kV kv.1, kv.2]) ∧ v = .ref T,
   fun i H => H d = some (.frz o (.dK kvs)) ∧ kvs.length ≤ i⟩
theorem KV.at : ∀ {kvs : List (Key × V)} {vs : List (Key × Value)} {i : Nat} {kv : Key × V}, KV kvs vs → kvs[i]? = some kv → ∃ x, vs[i]? = some (kv.1, x) ∧ RelV kv.2 x
  | _, _, 0, kv, .cons (a := p) (b := q) r t, h => by
    have h' : p = kv := by simpa using h
    subst h'
    exact ⟨q.2, by simp [r.1], r.2⟩
  | _, _, i + 1, kv, .cons r t, h => by
    have h' := h
    rw [List.getElem?_cons_succ] at h'
    obtain ⟨x, e1, e2⟩ := KV.at t h'
    exact ⟨x, by rw [List.getElem?_cons_succ]; exact e1, e2⟩
  | _, _, 0, kv, .nil, h => by simp at h
  | _, _, _ + 1, kv, .nil, h => by simp at h
theorem entry_itemiter_iter : entryFor table "dict_itemiterator.__iter__" = some Builtin.«dict_keyiterator.__iter__» :=
  entryFor_alias (id' := "dict_keyiterator.__iter__") (by kernel_rfl) rfl (by decide +kernel) (by kernel_rfl)
theorem turn_items {P : Program} {w : World} {K : PySem.W.Frag} {es : List Expr} {k0 : Nat} {p0 : Pos} {d it : Addr} {o : Obj} {kvs : List (Key × V)} {es0 : Array DictEntry} {ep : Nat} (hd : o.data = .dict es0 ep) :
    Turn P w K (.Tuple es k0 p0) (Iti d o kvs) [it] it (fun i h => ∃ ok ov, IsItemIter h it d i kvs.length ep ok ov) where
  mem := by simp
  obj := fun i h ⟨ok, ov, st⟩ b hb => by
    have e : b = it := by simpa using hb
    subst e
    exact ⟨_, st, fun v z => by cases z⟩
  keep := fun i h h' ⟨ok, ov, st⟩ k => ⟨ok, ov, k it (by simp) _ st⟩
  item := by
    intro X hP hw hK hc i pins s σ H E I hf st hg
    subst hP hw hK
    obtain ⟨ok, ov, st⟩ := st
    obtain ⟨hz, hi⟩ := hg
    obtain ⟨vs, rk, da, hy⟩ := frz_at I hz hd
    have ll := rk.length
    have ek := List.getElem?_eq_getElem hi
    obtain ⟨x, ev, rx⟩ := rk.at ek
    rw [ll] at st
    refine wpAny_pyNext_items_item st da ev fun key h' hk za hT hsz zk => ?_
    refine ⟨_, rfl, wpAny_letOwnedTupleGo_items (s := { s with heap := h' }) za fun h2 za2 sb => ?_⟩
    have kk : ∀ b o, b ∉ [it] → s.heap.get? b = some o → h2.get? b = some o := fun b o hb q => by
      simp only [List.mem_cons, List.not_mem_nil, or_false] at hb
      exact (sb.2 b hb).trans (zk b o hb q)
    have sze : s.heap.objs.size ≠ it := fun q => absurd (Heap.lt_size st) (by rw [← q]; exact Nat.lt_irrefl _)
    have hT2 : h2.get? s.heap.objs.size = some { cls := .type "tuple", data := .seq #[key, x] } := (sb.2 _ sze).trans hT
    have fr : H s.heap.objs.size = none := I.hok.fresh (Nat.le_refl _)
    have I2 : Inv X pins σ (upd H s.heap.objs.size (.tup [kV kvs[i].1, kvs[i].2])) { s with heap := h2 } := I.turnLay (t' := s.toks) (fp := [it]) kk hf (Nat.le_refl _)
      ⟨by show 2 ≤ sizeLine; decide, [key, x], .cons (kV_rel hk) (.cons rx .nil), ⟨_, hT2, rfl, _, rfl⟩⟩
    rw [← ll] at za2
    refine ⟨.ref s.heap.objs.size, _, I2, rfl, ⟨_, _, ek, fr, rfl, rfl⟩, ⟨_, _, za2⟩, fun b hb => ?_⟩
    have h0 := (hf b hb).1
    have hlt : b ≠ s.heap.objs.size := fun q => by
      subst q
      simp only [List.mem_cons, List.not_mem_nil, or_false] at hb
      exact sze hb
    rw [upd_ne hlt]
    exact h0
  done := by
    intro X hP hw hK hc i pins s σ H E I hf st hg
    subst hP hw hK
    obtain ⟨ok, ov, st⟩ := st
    obtain ⟨hz, hi⟩ := hg
    obtain ⟨vs, rk, da, hy⟩ := frz_at I hz hd
    have ll := rk.length
    rw [ll] at st
    refine wpAny_pyNext_items_end (I.ok.hd hc) st da (List.getElem?_eq_none (by omega)) fun h' eb => ⟨rfl, I.turnedL (t' := s.toks) (fp := [it]) (fun b o hb q => ?_) hf⟩
    simp only [List.mem_cons, List.not_mem_nil, or_false] at hb
    exact eb b o hb q
  self := fun A i s Q E st h => by
    obtain ⟨ok, ov, st⟩ := st
    refine wpAny_pyIter_slot ⟨_, st, rfl⟩ F.slot_dict_itemiterator_iter (wpAny_call_entry F.slot_dict_itemiterator_iter ⟨_, st, rfl⟩ entry_itemiter_iter ?_ (F.args_dict_itemiterator_iter_1 _))
    show wpAny _ _ (ret (.ref it)) _ _ s
    exact wpAny_pure ⟨_, rfl, "dict_itemiterator", _, ⟨_, st, rfl⟩, F.slot_dict_itemiterator_next.lookup, h⟩
structure M0 (X : Cx) (o : Expr) (m : Str) (apos : Pos) (cpos : Pos) : Prop where
  base : attributeBase o m X.env (eval o X.env) = eval o X.env
  few : ((backTo cpos (starEach [] X.env)).all (fun x => !x.1) && (backToKw cpos (keywordEach [] X.env)).all (fun x => x.1.isSome)
    && decide (([] : List Expr).length + ([] : List Keyword).length + (if ([] : List Keyword).isEmpty then 0 else 1) < 30)) = true
  line : (apos.endLine == cpos.line) = true
  trees : backTo cpos (starEach [] X.env) = []
noncomputable def iItems (td : TE) : TI := fun σ H R => td σ H fun x H1 => ∃ d o kvs, x = .ref d ∧ H1 d = some (.frz o (.dK kvs)) ∧ R (Iti d o kvs) H1
theorem pi_items {X : Cx} {es : List Expr} {k0 : Nat} {p0 : Pos} {l : Expr} {td : TE} {apos cpos : Pos} (hl : PE X l td) (m : M0 X l "items" apos cpos) : PI X (.Tuple es k0 p0) (.Call (.Attribute l "items" apos) [] [] cpos) (iItems td) := by
  intro pins s σ H R I h
  refine wpAny_Call_method m.base m.few m.line PySem.F.plainAttrs_dict PySem.F.slot_dict_items PySem.F.type_dict_items (thn (hl pins s σ H _ I h) fun u s1 ⟨x, H1, I1, rx, d, o, kvs, ex, hz, q1⟩ => ?_)
  subst ex
  obtain rfl : u = Value.ref d := rx
  obtain ⟨ho, _, hy, vs, rk, o', es', ep, e1, e2, e3, e4⟩ := (show ObjOk X.prog X.w H1 s1.heap d (.frz o (.dK kvs)) from I1.hok d _ hz)
  rw [ho] at e1
  cases e1
  have da : s1.heap.DictAt (mixKind X.prog X.w) d vs ep := ⟨o, es', ho, e2, e3, e4⟩
  have dd := da.dictOf
  obtain ⟨t1, t2, _⟩ := isD_at I1 (.inl ⟨kvs, .inr ⟨o, hz⟩⟩)
  refine ⟨t1, t2, ?_⟩
  rw [m.trees]
  refine method_meetsIn F.slot_dict_items F.entry_dict_items rfl (PyProof.Rows.evalArgs_none ⟨rfl, dd.typeIs, F.args_dict_items_1 _, _, meets_dict_items (mixKind X.prog X.w) d hy, ⟨vs, dd⟩, ?_⟩)
  have ll := rk.length
  have hv : (s1.heap.push { cls := .type "dict_items", data := .fields #[.ref d] }).IsItemsView s1.heap.objs.size d := ⟨_, Heap.get?_push_size _ rfl, rfl, rfl⟩
  refine wpAny_pyIter_items (s := { s1 with heap := s1.heap.push { cls := .type "dict_items", data := .fields #[.ref d] } }) hv (da.push _) ?_
  have hsz : (s1.heap.push { cls := .type "dict_items", data := .fields #[.ref d] }).objs.size = s1.heap.objs.size + 1 := Heap.size_push ..
  have I3 : Inv X pins σ H1 { s1 with heap := (s1.heap.push { cls := .type "dict_items", data := .fields #[.ref d] }).push { cls := .type "dict_itemiterator", data := .fields #[.none, .bool false, .ref d, .int 0 0, .int vs.length 0, .int ep 0, .none, .none] } } :=
    I1.kept (t' := s1.toks) fun b u q => Heap.get?_push_of_some _ (Heap.get?_push_of_some _ q)
  refine ⟨_, [_], _, _, H1, rfl, I3, turn_items (it := (s1.heap.push { cls := .type "dict_items", data := .fields #[.ref d] }).objs.size) (kvs := kvs) e3, ?_, fun b hb => ?_, q1⟩
  · rw [ll]
    exact ⟨_, _, Heap.get?_push_size _ rfl⟩
  · have eb := List.mem_singleton.mp hb
    rw [hsz] at eb
    subst eb
    exact I1.fpOk (Nat.le_succ _) (I1.hok.fresh (Nat.le_succ _))
theorem for_items {d : Addr} {o : Obj} {kvs : List (Key × V)} {g : TG} {tb : TS} {D : Ends} {σ : St} {H : Hp} (Pv : Nat → St → Hp → Prop) (h0 : Pv 0 σ H) (hl : ∀ i σ H, i ≤ kvs.length → Pv i σ H → H d = some (.frz o (.dK kvs)))
    (hs : ∀ i kv T σ H, kvs[i]? = some kv → H T = none → Pv i σ H → g (.ref T) σ (upd H T (.tup [kV kv.1, kv.2])) fun σ2 H2 => tb { D with nx := Pv (i + 1), ct := Pv (i + 1), bk := D.nx } σ2 H2) (hd : ∀ σ H, Pv kvs.length σ H → D.nx σ H) :
    ∃ W : Nat → Nat → St → Hp → Prop, (∃ m, W 0 m σ H) ∧ ∀ i m σ H, W i m σ H →
      ((Iti d o kvs).stop i H ∧ D.nx σ H) ∨ ((Iti d o kvs).go i H ∧ ∃ N : St → Hp → Prop, (∀ σ' H', N σ' H' → ∃ m', m' < m ∧ W (i + 1) m' σ' H') ∧ ∀ x H', (Iti d o kvs).yld i H x H' → g x σ H' fun σ2 H2 => tb { D with nx := N, ct := N, bk := D.nx } σ2 H2) := by
  refine ⟨fun i m σ H => m = kvs.length - i ∧ i ≤ kvs.length ∧ Pv i σ H, ⟨kvs.length, by simp, Nat.zero_le _, h0⟩, ?_⟩
  rintro i m σ H ⟨rfl, hi, p⟩
  have q1 := hl i σ H hi p
  by_cases hlt : i < kvs.length
  · refine .inr ⟨⟨q1, hlt⟩, Pv (i + 1), fun σ' H' z => ⟨kvs.length - (i + 1), by omega, rfl, hlt, z⟩, ?_⟩
    rintro v H' ⟨T, kv, e, hT, rfl, rfl⟩
    exact hs i kv T σ H e hT p
  · have ei : i = kvs.length := by omega
    subst ei
    exact .inl ⟨⟨q1, Nat.le_refl _⟩, hd σ H p⟩
theorem call_dictD {X : Cx} : CallR X (.type "dict") (fun xs H Q => ∃ (a : Addr) (kvs : List (Key × V)), xs = [.ref a] ∧ Rd H a (.dK kvs) ∧ ∀ p, H p = none → Q (.ref p) (upd H p (.dK kvs))) := by
  intro pins s σ H xs us Q I r h
  obtain ⟨a, kvs, rfl, hq, q⟩ := h
  obtain ⟨u, rfl, rx⟩ := vals1 r
  cases rx
  exact d_copyOf I hq fun p s' hp I' => ⟨.ref p, _, I', rfl, q p hp⟩
theorem keys_vals {P : Program} {w : World} {kvs : List (Key × V)} {vs : List (Key × Value)} {us : List Value} (rk : KV kvs vs) (hl : us.length = vs.length) (hu : ∀ (j : Nat) (v : Value), us[j]? = some v → ∃ k x, vs[j]? = some (k, x) ∧ (mixKind P w).is k v = true) :
    Vals (kvs.map fun kv => kV kv.1) us := by
  induction rk generalizing us with
  | nil =>
    have : us = [] := List.length_eq_zero_iff.mp hl
    subst this
    exact .nil
  | cons r t ih =>
    match us, hl with
    | u :: us, hl =>
    obtain ⟨k, x, e, hk⟩ := hu 0 u rfl
    simp only [List.getElem?_cons_zero, Option.some.injEq] at e
    refine .cons ?_ (ih (by simpa using hl) fun j v e => hu (j + 1) v (by simpa using e))
    show RelV (kV _) u
    rw [r.1, e]
    exact kV_rel hk
end L2
set_option maxHeartbeats 4000000
namespace L2
namespace Ei
open PySem PySem.Spec PyProof.Rows Gc
noncomputable def embI (ds : List (Int × Int)) : List (Key × V) := ds.map fun p => (Sum.inl (p.1 : Int), V.int p.2)
noncomputable def lookI (ds : List (Int × Int)) (k : Int) : Option Int := (ds.find? fun p => decide (p.1 = k)).map (·.2)
noncomputable def valI (ds : List (Int × Int)) (k : Int) : Int := (lookI ds k).getD 0
noncomputable def putI (ds : List (Int × Int)) (k : Int) (v : Int) : List (Int × Int) := if (lookI ds k).isSome then ds.map (fun p => if p.1 = k then (k, v) else p) else ds ++ [(k, v)]
noncomputable def NdI (ds : List (Int × Int)) : Prop := (ds.map (·.1)).Nodup
theorem inlI_iff {a b : Int} : ((Sum.inl (a : Int) : Key) = Sum.inl (b : Int)) ↔ a = b := ⟨fun h => by injection h, fun h => by rw [h]⟩
theorem valV_embI (k : Int) : ∀ ds : List (Int × Int), valV (embI ds) (Sum.inl (k : Int)) = (lookI ds k).map V.int
  | [] => rfl
  | p :: ds => by
    have ih := valV_embI k ds
    unfold embI at ih ⊢
    rw [List.map_cons]
    unfold lookI at ih ⊢
    by_cases c : p.1 = k
    · rw [valV_pos (show ((Sum.inl (p.1 : Int) : Key), V.int p.2).1 = Sum.inl (k : Int) by rw [c]), List.find?_cons_of_pos (by simpa using c)]
      rfl
    · rw [valV_neg (show ¬ ((Sum.inl (p.1 : Int) : Key), V.int p.2).1 = Sum.inl (k : Int) from fun z => c (inlI_iff.mp z)), List.find?_cons_of_neg (by simpa using c), ih]
theorem putK_embI (ds : List (Int × Int)) (k : Int) (v : Int) : putK (embI ds) (Sum.inl (k : Int)) (V.int v) = embI (putI ds k v) := by
  unfold putI
  cases h : lookI ds k with
  | none =>
    rw [putK_new _ (by rw [valV_embI, h]; rfl)]
    simp [embI]
  | some x =>
    have hv : valV (embI ds) (Sum.inl (k : Int)) = some (V.int x) := by rw [valV_embI, h]; rfl
    unfold putK
    have ha : ((embI ds).any fun kv => decide (kv.1 = Sum.inl (k : Int))) = true := by rw [valV_any, hv]; rfl
    rw [if_pos ha, Option.isSome_some, if_pos rfl]
    unfold embI
    rw [List.map_map, List.map_map]
    refine List.map_congr_left fun p _ => ?_
    simp only [Function.comp]
    by_cases c : p.1 = k
    · rw [if_pos (by rw [c]), if_pos c, c]
    · rw [if_neg (fun z => c (inlI_iff.mp z)), if_neg c]
theorem lookI_cons (p : Int × Int) (ds : List (Int × Int)) (k : Int) : lookI (p :: ds) k = if p.1 = k then some p.2 else lookI ds k := by
  unfold lookI
  by_cases c : p.1 = k
  · rw [List.find?_cons_of_pos (by simpa using c), if_pos c]
    rfl
  · rw [List.find?_cons_of_neg (by simpa using c), if_neg c]
theorem lookI_none {ds : List (Int × Int)} {k : Int} : lookI ds k = none ↔ k ∉ ds.map (·.1) := by
  induction ds with
  | nil => simp [lookI]
  | cons p ds ih =>
    rw [lookI_cons, List.map_cons, List.mem_cons]
    by_cases c : p.1 = k
    · rw [if_pos c]
      simp [c]
    · rw [if_neg c, ih]
      constructor
      · intro h z
        rcases z with z | z
        · exact c z.symm
        · exact h z
      · intro h z
        exact h (.inr z)
theorem lookI_app (ds : List (Int × Int)) (p : Int × Int) (k : Int) : lookI (ds ++ [p]) k = (lookI ds k).or (if p.1 = k then some p.2 else none) := by
  induction ds with
  | nil => simp [lookI_cons, lookI]
  | cons q ds ih =>
    rw [List.cons_append, lookI_cons, lookI_cons, ih]
    by_cases c : q.1 = k
    · rw [if_pos c, if_pos c]
      rfl
    · rw [if_neg c, if_neg c]
theorem lookI_rep (ds : List (Int × Int)) (k : Int) (v : Int) (j : Int) : lookI (ds.map (fun p => if p.1 = k then (k, v) else p)) j = if j = k then (lookI ds k).map (fun _ => v) else lookI ds j := by
  induction ds with
  | nil => simp [lookI]
  | cons q ds ih =>
    rw [List.map_cons, lookI_cons, ih, lookI_cons, lookI_cons]
    by_cases c : q.1 = k
    · rw [if_pos c, if_pos c]
      by_cases d : j = k
      · subst d
        simp
      · simp only [if_neg d]
        rw [if_neg (fun z => d z.symm), if_neg (fun z => d (z.symm.trans c))]
    · rw [if_neg c, if_neg c]
      by_cases d : j = k
      · subst d
        simp [c]
      · simp only [if_neg d]
theorem lookI_put (ds : List (Int × Int)) (k : Int) (v : Int) (j : Int) : lookI (putI ds k v) j = if j = k then some v else lookI ds j := by
  unfold putI
  cases h : lookI ds k with
  | none =>
    rw [Option.isSome_none, if_neg (by simp), lookI_app]
    by_cases d : j = k
    · subst d
      simp [h]
    · rw [if_neg d, if_neg (fun z => d z.symm)]
      simp
  | some x =>
    rw [Option.isSome_some, if_pos rfl, lookI_rep, h]
    rfl
theorem valI_put (ds : List (Int × Int)) (k : Int) (v : Int) (j : Int) : valI (putI ds k v) j = if j = k then v else valI ds j := by
  unfold valI
  rw [lookI_put]
  split <;> rfl
theorem keysI_put (ds : List (Int × Int)) (k : Int) (v : Int) : (putI ds k v).map (·.1) = if (lookI ds k).isSome then ds.map (·.1) else ds.map (·.1) ++ [k] := by
  unfold putI
  split
  · rw [List.map_map]
    refine List.map_congr_left fun p _ => ?_
    simp only [Function.comp]
    split
    · rename_i c; exact c.symm
    · rfl
  · rw [List.map_append]
    rfl
theorem ndI_put {ds : List (Int × Int)} (h : NdI ds) (k : Int) (v : Int) : NdI (putI ds k v) := by
  unfold NdI
  rw [keysI_put]
  split
  · exact h
  · rename_i c
    have c' : lookI ds k = none := by simpa using c
    rw [List.nodup_append]
    refine ⟨h, by simp, fun x hx y hy => ?_⟩
    rw [List.mem_singleton.mp hy]
    intro z
    subst z
    exact lookI_none.mp c' hx
theorem lenI_put (ds : List (Int × Int)) (k : Int) (v : Int) : (putI ds k v).length ≤ ds.length + 1 := by
  unfold putI
  split <;> simp
theorem memI_look {ds : List (Int × Int)} (h : NdI ds) {p : Int × Int} (hp : p ∈ ds) : lookI ds p.1 = some p.2 := by
  induction ds with
  | nil => cases hp
  | cons q ds ih =>
    unfold NdI at h
    rw [List.map_cons, List.nodup_cons] at h
    rw [lookI_cons]
    rcases List.mem_cons.mp hp with y | y
    · subst y
      rw [if_pos rfl]
    · rw [if_neg (fun z => h.1 (by rw [z]; exact List.mem_map_of_mem y))]
      exact ih h.2 y
theorem getI_emb (ds : List (Int × Int)) (k : Int) : (valV (embI ds) (Sum.inl (k : Int))).getD (V.int 0) = V.int (valI ds k) := by
  rw [valV_embI]
  unfold valI
  cases lookI ds k <;> rfl
theorem dgetI_at {H : Hp} {d : Addr} {ds : List (Int × Int)} (hr : Rd H d (.dK (embI ds))) (hn : NdI ds) {p : Int × Int} (hp : p ∈ ds) : DGet H d (V.int (p.1 : Int)) (some (V.int p.2)) := .inl ⟨embI ds, Sum.inl (p.1 : Int), hr, rfl, by rw [valV_embI, memI_look hn hp]; rfl⟩
theorem embI_len (ds : List (Int × Int)) : (embI ds).length = ds.length := by unfold embI; simp
theorem embI_at {ds : List (Int × Int)} {i : Nat} {kv : Key × V} (h : (embI ds)[i]? = some kv) : ∃ p, ds[i]? = some p ∧ kv = (Sum.inl (p.1 : Int), V.int p.2) := by
  unfold embI at h
  rw [List.getElem?_map] at h
  cases e : ds[i]? with
  | none => rw [e] at h; cases h
  | some p => rw [e] at h; cases h; exact ⟨p, rfl, rfl⟩
structure DOk (ds : List (Int × Int)) (f : Int → Int) : Prop where
  nd : NdI ds
  val : ∀ t, valI ds t = f t
  pos : ∀ p ∈ ds, 1 ≤ p.2
theorem memI_put2 {ds : List (Int × Int)} {k : Int} {v : Int} {p : Int × Int} (h : p ∈ putI ds k v) : p = (k, v) ∨ p ∈ ds := by
  unfold putI at h
  split at h
  · obtain ⟨q, hq, e⟩ := List.mem_map.mp h
    split at e
    · exact .inl e.symm
    · rw [← e]; exact .inr hq
  · rcases List.mem_append.mp h with y | y
    · exact .inr y
    · exact .inl (List.mem_singleton.mp y)
theorem DOk.nonneg {ds : List (Int × Int)} {f : Int → Int} (h : DOk ds f) (t : Int) : 0 ≤ valI ds t := by
  unfold valI
  cases e : lookI ds t with
  | none => exact Int.le_refl 0
  | some x =>
    have hm : t ∈ ds.map (·.1) := by
      by_cases c : t ∈ ds.map (·.1)
      · exact c
      · rw [lookI_none.mpr c] at e; cases e
    obtain ⟨p, hp, rfl⟩ := List.mem_map.mp hm
    rw [memI_look h.nd hp] at e
    cases e
    have := h.pos p hp
    show 0 ≤ p.2
    omega
theorem DOk.put {ds : List (Int × Int)} {f : Int → Int} (h : DOk ds f) (k : Int) {c : Int} (hc : 1 ≤ c) : DOk (putI ds k (valI ds k + c)) (fun t => f t + if t = k then c else 0) where
  nd := ndI_put h.nd k _
  val := fun t => by
    rw [valI_put]
    split
    · rename_i e; rw [e, h.val]
    · rw [h.val]; omega
  pos := fun p hp => by
    rcases memI_put2 hp with e | e
    · rw [e]
      have := h.nonneg k
      show 1 ≤ valI ds k + c
      omega
    · exact h.pos p e
theorem DOk.mem {ds : List (Int × Int)} {f : Int → Int} (h : DOk ds f) {t : Int} : t ∈ ds.map (·.1) ↔ f t ≠ 0 := by
  rw [← h.val]
  constructor
  · intro m
    obtain ⟨p, hp, rfl⟩ := List.mem_map.mp m
    have := h.pos p hp
    unfold valI
    rw [memI_look h.nd hp]
    show p.2 ≠ 0
    omega
  · intro m
    by_cases c : t ∈ ds.map (·.1)
    · exact c
    · exfalso
      apply m
      unfold valI
      rw [lookI_none.mpr c]
      rfl
theorem DOk.congr {ds : List (Int × Int)} {f g : Int → Int} (h : DOk ds f) (e : ∀ t, f t = g t) : DOk ds g := ⟨h.nd, fun t => (h.val t).trans (e t), h.pos⟩
noncomputable def acc (fs : List (Int × Int)) (v t : Int) : Int := (fs.map fun p => if t = p.1 + v then p.2 else 0).sum
theorem acc_snoc (fs : List (Int × Int)) (p : Int × Int) (v t : Int) : acc (fs ++ [p]) v t = acc fs v t + if t = p.1 + v then p.2 else 0 := by
  unfold acc
  simp
theorem acc_all : ∀ {fs : List (Int × Int)}, NdI fs → ∀ v t, acc fs v t = valI fs (t - v)
  | [], _, v, t => rfl
  | p :: fs, h, v, t => by
    unfold NdI at h
    rw [List.map_cons, List.nodup_cons] at h
    have ih := acc_all (fs := fs) h.2 v t
    unfold acc at ih ⊢
    rw [List.map_cons, List.sum_cons, ih]
    unfold valI
    rw [lookI_cons]
    by_cases c : p.1 = t - v
    · rw [if_pos c, if_pos (by omega), lookI_none.mpr (by rw [← c]; exact h.1)]
      show p.2 + 0 = p.2
      omega
    · rw [if_neg c, if_neg (by omega)]
      omega
end Ei
end L2
set_option maxHeartbeats 4000000
namespace L2
open PySem PySem.Spec PyProof.Rows Gc
section
variable {X : Cx} {N' : List Str} {scope : Scope} {cl : List (Str × Addr)} {C : Addr} {s3 : Shared} {H3 : Hp} {fp : List Addr}
end
theorem comp_lpairV {α : Type} {K : PySem.W.Frag} {a : Addr} {xs : List V} {te : TE} {tt : TT} {st : St} {H1 : Hp} {Q : VK} {D : Addr} (ps : List α) (p : α → Bool) (f : α → V) (R : α → V → V → Prop) (hD : H1 D = none) (q1 : SqL K H1 a xs) (hl : xs.length = ps.length) (hn : xs.length ≤ sizeLine)
    (hx : ∀ (i : Nat) (h : α), ps[i]? = some h → ∃ b u v, xs[i]? = some (.ref b) ∧ H1 b = some (.tup [u, v]) ∧ R h u v)
    (ht : ∀ (h : α) (u v : V) (H2 : Hp) (k : Bool → Hp → Prop), R h u v → Same H1 H2 → (∀ H4, Same H2 H4 → k (p h) H4) → tt (some u :: some v :: st) H2 k)
    (hs : ∀ (h : α) (u v : V) (H2 : Hp) (k : VK), R h u v → p h = true → Same H1 H2 → (∀ H4, Same H2 H4 → k (f h) H4) → te (some u :: some v :: st) H2 k)
    (hd : ∀ H2, Same H1 H2 → H2 D = some (.lst ((ps.filter p).map f)) → Q (.ref D) H2) : CompG (Itl K a) (gTup K 2 (gCons (gName 0) (gCons (gName 1) gNil))) tt te 2 st D H1 Q := by
  refine ⟨fun i m zs H2 => m = xs.length - i ∧ i ≤ xs.length ∧ zs = ((ps.take i).filter p).map f ∧ Same H1 H2 ∧ H2 D = some (.lst zs), ⟨xs.length, by simp, Nat.zero_le _, by simp, same_upd (Same.refl H1) hD, upd_same⟩, ?_⟩
  rintro i m zs H2 ⟨rfl, hi, rfl, sm, e⟩
  by_cases hlt : i < xs.length
  · have ex : xs[i]? = some xs[i] := List.getElem?_eq_getElem hlt
    obtain ⟨h, ep⟩ : ∃ h, ps[i]? = some h := ⟨_, List.getElem?_eq_getElem (show i < ps.length by omega)⟩
    obtain ⟨b, u, v, e1, e2, r⟩ := hx i h ep
    refine .inr ⟨⟨xs, _, sm.seq q1, ex⟩, ?_⟩
    rintro x H3 σ0 ⟨rfl, hx'⟩ l0
    have hx2 := hx' xs (sm.seq q1)
    rw [e1] at hx2
    cases hx2
    obtain ⟨a', b', rfl⟩ : ∃ a b, σ0 = [a, b] := by
      match σ0, l0 with
      | [a, b], _ => exact ⟨a, b, rfl⟩
    refine ⟨b, [u, v], rfl, SqT.of (sm _ _ e2), rfl, u, [v], rfl, v, [], rfl, rfl, ⟨[some u, some v], rfl, rfl⟩, ?_⟩
    have tk : ps.take (i + 1) = ps.take i ++ [h] := by rw [List.take_add_one, ep]; rfl
    have ln : (((ps.take i).filter p).map f).length ≤ i := by rw [List.length_map]; exact Nat.le_trans (List.length_filter_le _ _) (by simp; omega)
    refine ht h u v _ _ r sm fun H4 s4 => ?_
    cases hp : p h with
    | true =>
      rw [if_pos rfl]
      refine hs h u v _ _ r hp (sm.trans s4) fun H5 s5 => ⟨s5 _ _ (s4 _ _ e), by omega, xs.length - (i + 1), by omega, rfl, hlt, ?_, same_upd (sm.trans (s4.trans s5)) hD, upd_same⟩
      rw [tk, List.filter_append]
      simp [hp]
    | false =>
      rw [if_neg Bool.false_ne_true]
      refine ⟨xs.length - (i + 1), by omega, rfl, hlt, ?_, sm.trans s4, s4 _ _ e⟩
      rw [tk, List.filter_append]
      simp [hp]
  · have ei : i = xs.length := by omega
    subst ei
    refine .inl ⟨⟨xs, sm.seq q1, Nat.le_refl _⟩, hd _ sm ?_⟩
    rw [e, List.take_of_length_le (by omega)]
end L2
set_option maxHeartbeats 4000000
namespace Sg
open PySem PyProof.Rows
structure SB (a₀ : Array Keyed) (st : SortSt) : Prop where
  perm : (arrOf st).Perm a₀
  kind : kindOf st = oneType'
  failed : failedOf st = none
theorem SB.size {a₀ : Array Keyed} {st : SortSt} (h : SB a₀ st) : (arrOf st).size = a₀.size := h.perm.size_eq
theorem SB.setArr {a₀ : Array Keyed} {st : SortSt} (h : SB a₀ st) {xs : Array Keyed} (hp : xs.Perm (arrOf st)) : SB a₀ (setArr st xs) := ⟨hp.trans h.perm, h.kind, h.failed⟩
theorem SB.at {a₀ : Array Keyed} {st : SortSt} (h : SB a₀ st) (h0 : IntKeys a₀) {i : Nat} (hi : i < a₀.size) : ∃ t q, (arrOf st)[i]? = some (.int (K (arrOf st) i) t, q) := by
  have hi' : i < (arrOf st).size := by rw [h.size]; exact hi
  have hm : (arrOf st)[i] ∈ a₀.toList := (Array.perm_iff_toList_perm.mp h.perm).mem_iff.mp (by simp)
  obtain ⟨n, t, hn⟩ := h0 _ hm
  refine ⟨t, (arrOf st)[i].2, ?_⟩
  have e : (arrOf st)[i]? = some (arrOf st)[i] := getElem?_pos _ i hi'
  have e2 : (arrOf st)[i] = (.int n t, (arrOf st)[i].2) := Prod.ext hn rfl
  unfold K
  rw [e, e2]
  rfl
noncomputable def SI (xs : Array Keyed) (lo n : Nat) : Prop := ∀ i j, i ≤ j → j < n → K xs (lo + i) ≤ K xs (lo + j)
noncomputable def NI (xs : Array Keyed) (lo n : Nat) : Prop := ∀ i j, i ≤ j → j < n → K xs (lo + j) ≤ K xs (lo + i)
noncomputable def Bef (lo : Nat) (xs ys : Array Keyed) : Prop := ∀ k, k < lo → xs[k]? = ys[k]?
theorem Bef.refl {lo : Nat} {xs : Array Keyed} : Bef lo xs xs := fun _ _ => rfl
theorem Bef.trans {lo : Nat} {xs ys zs : Array Keyed} (h : Bef lo xs ys) (k : Bef lo ys zs) : Bef lo xs zs := fun i hi => (h i hi).trans (k i hi)
theorem K_mir {xs : Array Keyed} {lo a b : Nat} (hj : lo + b ≤ xs.size) (k : Nat) : K (mirror xs (lo + a) (lo + b) ((lo + b - (lo + a)) / 2)) (lo + k) = if a ≤ k ∧ k < b then K xs (lo + (a + b - 1 - k)) else K xs (lo + k) := by
  rw [K_mirror hj]
  by_cases c : a ≤ k ∧ k < b
  · rw [if_pos c, if_pos (by omega)]
    congr 1
    omega
  · rw [if_neg c, if_neg (by omega)]
theorem bef_mir {xs : Array Keyed} {lo a b : Nat} (hj : lo + b ≤ xs.size) : Bef lo (mirror xs (lo + a) (lo + b) ((lo + b - (lo + a)) / 2)) xs := fun k hk => by
  rw [getElem?_mirror_all hj, if_neg (by omega)]
theorem K_mir_eq {xs : Array Keyed} {lo a b : Nat} (hj : lo + b ≤ xs.size) (heq : ∀ k, a ≤ k → k < b → K xs (lo + k) = K xs (lo + (b - 1))) (k : Nat) : K (mirror xs (lo + a) (lo + b) ((lo + b - (lo + a)) / 2)) (lo + k) = K xs (lo + k) := by
  rw [K_mir hj]
  split
  · rw [heq _ (by omega) (by omega), heq k (by omega) (by omega)]
  · rfl
noncomputable def ascL (lo a nrem : Nat) : StateT SortSt Sem AscSt :=
  forIn [a:nrem] ((none, a) : AscSt) fun _ __s => do
    let __x ← ltAt' (lo + __s.snd) (lo + __s.snd - 1)
    match __x with
    | some smaller => if smaller = true then pure (ForInStep.done (none, __s.snd)) else pure (ForInStep.yield (none, __s.snd + 1))
    | _ => pure (ForInStep.done (some none, __s.snd))
noncomputable def tl3 (lo n nrem : Nat) : StateT SortSt Sem (Option Nat) := do
  reverseSlice' lo (lo + n)
  let __s ← ascL lo n nrem
  match __s.fst with
  | some r => pure r
  | none => pure (some __s.snd)
noncomputable def descL (lo n nrem : Nat) : StateT SortSt Sem DescSt :=
  forIn [n:nrem] ((none, n, 0) : DescSt) fun _ __s => do
    let __x ← ltAt' (lo + __s.snd.fst) (lo + __s.snd.fst - 1)
    match __x with
    | some smaller =>
      if smaller = true then
        if __s.snd.snd > 0 then do
          reverseSlice' (lo + __s.snd.fst - (__s.snd.snd + 1)) (lo + __s.snd.fst)
          pure (ForInStep.yield (none, __s.snd.fst + 1, 0))
        else pure (ForInStep.yield (none, __s.snd.fst + 1, 0))
      else do
        let __x ← ltAt' (lo + __s.snd.fst - 1) (lo + __s.snd.fst)
        match __x with
        | some larger =>
          if larger = true then pure (ForInStep.done (none, __s.snd.fst, __s.snd.snd))
          else pure (ForInStep.yield (none, __s.snd.fst + 1, __s.snd.snd + 1))
        | _ => pure (ForInStep.done (some none, __s.snd.fst, __s.snd.snd))
    | _ => pure (ForInStep.done (some none, __s.snd.fst, __s.snd.snd))
noncomputable def descP (lo n nrem : Nat) : StateT SortSt Sem (Option Nat) := do
  liftM (rule "list.sort.descending-run")
  let __s ← descL lo (n + 1) nrem
  match __s.fst with
  | some r => pure r
  | none =>
    if __s.snd.snd > 0 then do
      reverseSlice' (lo + __s.snd.fst - (__s.snd.snd + 1)) (lo + __s.snd.fst)
      tl3 lo __s.snd.fst nrem
    else tl3 lo __s.snd.fst nrem
theorem countRunG_eq (lo nrem : Nat) : countRun' lo nrem = (do
    let __s ← ascL lo 1 nrem
    match __s.fst with
    | some r => pure r
    | none =>
      if (__s.snd == nrem) = true then pure (some __s.snd)
      else if __s.snd > 1 then do
        let __x ← ltAt' lo (lo + __s.snd - 1)
        match __x with
        | some rose => if rose = true then pure (some __s.snd) else do
            reverseSlice' lo (lo + __s.snd)
            descP lo __s.snd nrem
        | _ => pure none
      else descP lo __s.snd nrem) := by
  rw [countRun'_eq]
  unfold descP tl3 descL ascL
  dsimp only
  congr 1
  funext __s
  obtain ⟨r, n⟩ := __s
  cases r with
  | some r => rfl
  | none =>
    dsimp only
    split
    · rfl
    · split
      · congr 1
        funext x
        cases x with
        | none => rfl
        | some rose =>
          dsimp only
          split
          · rfl
          · congr 1
            funext _r
            congr 1
            funext _u
            congr 1
            congr 1
            funext s2
            obtain ⟨r2, n2, q2⟩ := s2
            cases r2 with
            | some r2 => rfl
            | none =>
              dsimp only
              split
              · congr 1
                funext _v
                congr 1
                funext _w
                congr 1
                funext s3
                obtain ⟨r3, n3⟩ := s3
                cases r3 <;> rfl
              · congr 1
                funext _w
                congr 1
                funext s3
                obtain ⟨r3, n3⟩ := s3
                cases r3 <;> rfl
      · congr 1
        funext _u
        congr 1
        congr 1
        funext s2
        obtain ⟨r2, n2, q2⟩ := s2
        cases r2 with
        | some r2 => rfl
        | none =>
          dsimp only
          split
          · congr 1
            funext _v
            congr 1
            funext _w
            congr 1
            funext s3
            obtain ⟨r3, n3⟩ := s3
            cases r3 <;> rfl
          · congr 1
            funext _w
            congr 1
            funext s3
            obtain ⟨r3, n3⟩ := s3
            cases r3 <;> rfl
section
variable {prog : Program} {w : World} {A : Around} {E : Value → Shared → Prop} {s : Shared} {a₀ : Array Keyed}
theorem wpS_ltG {st : SortSt} {i j : Nat} {Q : Option Bool → SortSt → Prop} (hB : SB a₀ st) (h0 : IntKeys a₀) (hi : i < a₀.size) (hj : j < a₀.size)
    (h : Q (some (decide (K (arrOf st) i < K (arrOf st) j))) st) : wpS (model prog w) A E s (ltAt' i j) Q st := by
  obtain ⟨t, p, e1⟩ := hB.at h0 hi
  obtain ⟨u, q, e2⟩ := hB.at h0 hj
  exact wpS_ltAt hB.kind e1 e2 h
noncomputable def Cr (a₀ : Array Keyed) (st0 : SortSt) (lo nrem : Nat) (m : Nat) (st' : SortSt) : Prop := SB a₀ st' ∧ 1 ≤ m ∧ m ≤ nrem ∧ SI (arrOf st') lo m ∧ Bef lo (arrOf st') (arrOf st0) ∧ pendingOf st' = pendingOf st0 ∧ gallopOf st' = gallopOf st0
theorem wpS_ascL {st : SortSt} {lo a nrem : Nat} {Q : AscSt → SortSt → Prop} (h0 : IntKeys a₀) (hn : lo + nrem ≤ a₀.size) (ha : 1 ≤ a) (han : a ≤ nrem) (hB : SB a₀ st)
    (hs : SI (arrOf st) lo a)
    (h : ∀ n, a ≤ n → n ≤ nrem → SI (arrOf st) lo n → (n = nrem ∨ K (arrOf st) (lo + n) < K (arrOf st) (lo + (n - 1))) → Q (none, n) st) :
    wpS (model prog w) A E s (ascL lo a nrem) Q st := by
  unfold ascL
  refine wpS_forRange (I := fun x c st' => st' = st ∧ c = (none, x) ∧ SI (arrOf st) lo x) ?step ?fin ⟨rfl, rfl, hs⟩
  case fin =>
    rintro c st' ⟨rfl, rfl, hs'⟩
    rw [show max a nrem = nrem by omega] at hs' ⊢
    exact h nrem han (Nat.le_refl _) hs' (.inl rfl)
  case step =>
    rintro x c st' hax hxn ⟨rfl, rfl, hs'⟩
    dsimp only
    rw [show lo + x - 1 = lo + (x - 1) by omega]
    refine wpS_bind (wpS_ltG hB h0 (by omega) (by omega) ?_)
    by_cases hless : K (arrOf st') (lo + x) < K (arrOf st') (lo + (x - 1))
    · simp only [hless, decide_true, if_true]
      exact wpS_pure (h x hax (by omega) hs' (.inr hless))
    · simp only [hless, decide_false, Bool.false_eq_true, if_false]
      refine wpS_pure ⟨rfl, rfl, fun i j hij hj => ?_⟩
      by_cases hjx : j < x
      · exact hs' i j hij hjx
      · have hj' : j = x := by omega
        subst hj'
        by_cases hi' : i = j
        · subst hi'; exact Int.le_refl _
        · exact Int.le_trans (hs' i (j - 1) (by omega) (by omega)) (Int.not_lt.mp hless)
theorem wpS_tl3 {st : SortSt} {lo n nrem : Nat} {Q : Option Nat → SortSt → Prop} (h0 : IntKeys a₀) (hn : lo + nrem ≤ a₀.size) (h1 : 1 ≤ n) (hnn : n ≤ nrem) (hB : SB a₀ st)
    (hs : NI (arrOf st) lo n) (h : ∀ m st', Cr a₀ st lo nrem m st' → Q (some m) st') : wpS (model prog w) A E s (tl3 lo n nrem) Q st := by
  unfold tl3
  have hsz : lo + n ≤ (arrOf st).size := by rw [hB.size]; omega
  refine wpS_bind (wpS_reverse ?_)
  have hB' : SB a₀ (setArr st (mirror (arrOf st) lo (lo + n) ((lo + n - lo) / 2))) := hB.setArr (mirror_perm _ _ _ _)
  have km := fun k => K_mir (xs := arrOf st) (lo := lo) (a := 0) (b := n) hsz k
  have bm := bef_mir (xs := arrOf st) (lo := lo) (a := 0) (b := n) hsz
  rw [Nat.add_zero] at km bm
  refine wpS_bind (wpS_ascL h0 hn h1 hnn hB' ?_ fun m hm1 hm2 hsm _ => wpS_pure (h m _ ⟨hB', by omega, hm2, hsm, bm, rfl, rfl⟩))
  intro i j hij hj
  show K (mirror (arrOf st) lo (lo + n) ((lo + n - lo) / 2)) (lo + i) ≤ K (mirror (arrOf st) lo (lo + n) ((lo + n - lo) / 2)) (lo + j)
  rw [km, km, if_pos (by omega), if_pos (by omega)]
  exact hs _ _ (by omega) (by omega)
theorem wpS_descL {st : SortSt} {lo n nrem : Nat} {Q : DescSt → SortSt → Prop} (h0 : IntKeys a₀) (hn : lo + nrem ≤ a₀.size) (h1 : 1 ≤ n) (hnn : n ≤ nrem) (hB : SB a₀ st)
    (hs : NI (arrOf st) lo n)
    (h : ∀ m neq st', SB a₀ st' → n ≤ m → m ≤ nrem → NI (arrOf st') lo m → neq + 1 ≤ m → (∀ i, m - (neq + 1) ≤ i → i < m → K (arrOf st') (lo + i) = K (arrOf st') (lo + (m - 1))) → Bef lo (arrOf st') (arrOf st) → pendingOf st' = pendingOf st → gallopOf st' = gallopOf st → Q (none, m, neq) st') :
    wpS (model prog w) A E s (descL lo n nrem) Q st := by
  unfold descL
  refine wpS_forRange (I := fun x c st' => ∃ neq, c = (none, x, neq) ∧ SB a₀ st' ∧ NI (arrOf st') lo x ∧ neq + 1 ≤ x ∧
      (∀ i, x - (neq + 1) ≤ i → i < x → K (arrOf st') (lo + i) = K (arrOf st') (lo + (x - 1))) ∧ Bef lo (arrOf st') (arrOf st) ∧ pendingOf st' = pendingOf st ∧ gallopOf st' = gallopOf st) ?step ?fin ⟨0, rfl, hB, hs, by omega, fun i h1 h2 => by congr 2; omega, Bef.refl, rfl, rfl⟩
  case fin =>
    rintro c st' ⟨neq, rfl, hB', hs', hq, he, hb, hp, hg⟩
    rw [show max n nrem = nrem by omega] at hs' hq he ⊢
    exact h nrem neq st' hB' hnn (Nat.le_refl _) hs' hq he hb hp hg
  case step =>
    rintro x c st' hax hxn ⟨neq, rfl, hB', hs', hq, he, hb, hp, hg⟩
    dsimp only
    have hsz : lo + x ≤ (arrOf st').size := by rw [hB'.size]; omega
    rw [show lo + x - 1 = lo + (x - 1) by omega]
    refine wpS_bind (wpS_ltG hB' h0 (by omega) (by omega) ?_)
    by_cases hless : K (arrOf st') (lo + x) < K (arrOf st') (lo + (x - 1))
    · simp only [hless, decide_true, if_true]
      have step1 : ∀ xs : Array Keyed, (∀ k, K xs (lo + k) = K (arrOf st') (lo + k)) → NI xs lo (x + 1) := by
        intro xs hk i j hij hj
        rw [hk, hk]
        by_cases hjx : j < x
        · exact hs' i j hij hjx
        · have hj' : j = x := by omega
          subst hj'
          by_cases hi' : i = j
          · subst hi'; exact Int.le_refl _
          · exact Int.le_trans (Int.le_of_lt hless) (hs' i (j - 1) (by omega) (by omega))
      by_cases hneq : neq > 0
      · rw [if_pos hneq, show lo + x - (neq + 1) = lo + (x - (neq + 1)) by omega]
        refine wpS_bind (wpS_reverse (wpS_pure ⟨0, rfl, hB'.setArr (mirror_perm _ _ _ _), step1 _ (K_mir_eq hsz he), by omega, fun i h1 h2 => by congr 2; omega, (bef_mir hsz).trans hb, hp, hg⟩))
      · rw [if_neg hneq]
        exact wpS_pure ⟨0, rfl, hB', step1 _ (fun _ => rfl), by omega, fun i h1 h2 => by congr 2; omega, hb, hp, hg⟩
    · simp only [hless, decide_false, Bool.false_eq_true, if_false]
      refine wpS_bind (wpS_ltG hB' h0 (by omega) (by omega) ?_)
      by_cases hlarger : K (arrOf st') (lo + (x - 1)) < K (arrOf st') (lo + x)
      · simp only [hlarger, decide_true, if_true]
        exact wpS_pure (h x neq st' hB' hax (by omega) hs' hq he hb hp hg)
      · simp only [hlarger, decide_false, Bool.false_eq_true, if_false]
        have heqx : K (arrOf st') (lo + x) = K (arrOf st') (lo + (x - 1)) := by omega
        refine wpS_pure ⟨neq + 1, rfl, hB', fun i j hij hj => ?_, by omega, fun i h1 h2 => ?_, hb, hp, hg⟩
        · by_cases hjx : j < x
          · exact hs' i j hij hjx
          · have hj' : j = x := by omega
            subst hj'
            by_cases hi' : i = j
            · subst hi'; exact Int.le_refl _
            · rw [heqx]; exact hs' i (j - 1) (by omega) (by omega)
        · rw [show x + 1 - 1 = x by omega]
          by_cases hix : i = x
          · subst hix; rfl
          · rw [heqx]; exact he i (by omega) (by omega)
theorem Cr.from {st0 st1 : SortSt} {lo nrem m : Nat} {st' : SortSt} (h : Cr a₀ st1 lo nrem m st') (b : Bef lo (arrOf st1) (arrOf st0)) (p : pendingOf st1 = pendingOf st0) (g : gallopOf st1 = gallopOf st0) : Cr a₀ st0 lo nrem m st' :=
  ⟨h.1, h.2.1, h.2.2.1, h.2.2.2.1, h.2.2.2.2.1.trans b, h.2.2.2.2.2.1.trans p, h.2.2.2.2.2.2.trans g⟩
theorem wpS_descP {st : SortSt} {lo n nrem : Nat} {Q : Option Nat → SortSt → Prop} (h0 : IntKeys a₀) (hn : lo + nrem ≤ a₀.size) (hnn : n + 1 ≤ nrem) (hB : SB a₀ st)
    (hs : NI (arrOf st) lo (n + 1)) (h : ∀ m st', Cr a₀ st lo nrem m st' → Q (some m) st') : wpS (model prog w) A E s (descP lo n nrem) Q st := by
  unfold descP
  refine wpS_bind (wpS_lift (wpAny_rule ⟨rfl, ?_⟩))
  refine wpS_bind (wpS_descL h0 hn (by omega) hnn hB hs fun m neq st' hB' hm1 hm2 hs' hq he hb hp hg => ?_)
  dsimp only
  have hsz : lo + m ≤ (arrOf st').size := by rw [hB'.size]; omega
  by_cases hneq : neq > 0
  · rw [if_pos hneq, show lo + m - (neq + 1) = lo + (m - (neq + 1)) by omega]
    refine wpS_bind (wpS_reverse (wpS_tl3 h0 hn (by omega) hm2 (hB'.setArr (mirror_perm _ _ _ _)) ?_ fun k st2 hc => h k st2 (hc.from ((bef_mir hsz).trans hb) hp hg)))
    intro i j hij hj
    show K (mirror (arrOf st') _ _ _) (lo + j) ≤ K (mirror (arrOf st') _ _ _) (lo + i)
    rw [K_mir_eq hsz he, K_mir_eq hsz he]
    exact hs' i j hij hj
  · rw [if_neg hneq]
    exact wpS_tl3 h0 hn (by omega) hm2 hB' hs' fun k st2 hc => h k st2 (hc.from hb hp hg)
theorem wpS_countRunG {st : SortSt} {lo nrem : Nat} {Q : Option Nat → SortSt → Prop} (h0 : IntKeys a₀) (hn : lo + nrem ≤ a₀.size) (h1 : 1 ≤ nrem) (hB : SB a₀ st)
    (h : ∀ m st', Cr a₀ st lo nrem m st' → Q (some m) st') : wpS (model prog w) A E s (countRun' lo nrem) Q st := by
  rw [countRunG_eq]
  refine wpS_bind (wpS_ascL h0 hn (Nat.le_refl 1) h1 hB (fun i j hij hj => by have : i = j := by omega
                                                                              subst this; exact Int.le_refl _) fun n hn1 hn2 hsn hor => ?_)
  dsimp only
  by_cases hnn : n = nrem
  · rw [if_pos (by simpa using hnn)]
    exact wpS_pure (h n st ⟨hB, hn1, hn2, hsn, Bef.refl, rfl, rfl⟩)
  · rw [if_neg (by simpa using hnn)]
    have hlt : K (arrOf st) (lo + n) < K (arrOf st) (lo + (n - 1)) := hor.resolve_left hnn
    by_cases hgt : n > 1
    · rw [if_pos hgt, show lo + n - 1 = lo + (n - 1) by omega]
      refine wpS_bind (wpS_ltG hB h0 (by omega) (by omega) ?_)
      by_cases hrose : K (arrOf st) lo < K (arrOf st) (lo + (n - 1))
      · simp only [hrose, decide_true, if_true]
        exact wpS_pure (h n st ⟨hB, hn1, hn2, hsn, Bef.refl, rfl, rfl⟩)
      · simp only [hrose, decide_false, Bool.false_eq_true, if_false]
        have hsz : lo + n ≤ (arrOf st).size := by rw [hB.size]; omega
        have hall : ∀ k, 0 ≤ k → k < n → K (arrOf st) (lo + k) = K (arrOf st) (lo + (n - 1)) := by
          intro k _ hk
          have a1 := hsn 0 k (by omega) hk
          have a2 := hsn k (n - 1) (by omega) (by omega)
          rw [Nat.add_zero] at a1
          omega
        have km := fun k => K_mir_eq (xs := arrOf st) (lo := lo) (a := 0) (b := n) hsz hall k
        have bm := bef_mir (xs := arrOf st) (lo := lo) (a := 0) (b := n) hsz
        rw [Nat.add_zero] at km bm
        refine wpS_bind (wpS_reverse (wpS_descP h0 hn (by omega) (hB.setArr (mirror_perm _ _ _ _)) ?_ fun k st2 hc => h k st2 (hc.from bm rfl rfl)))
        intro i j hij hj
        show K (mirror (arrOf st) _ _ _) (lo + j) ≤ K (mirror (arrOf st) _ _ _) (lo + i)
        rw [km, km]
        by_cases hjn : j < n
        · rw [hall i (by omega) (by omega), hall j (by omega) hjn]; exact Int.le_refl _
        · have hj' : j = n := by omega
          subst hj'
          by_cases hi' : i = j
          · subst hi'; exact Int.le_refl _
          · rw [hall i (by omega) (by omega)]; exact Int.le_of_lt hlt
    · rw [if_neg hgt]
      have hn1' : n = 1 := by omega
      subst hn1'
      refine wpS_descP h0 hn (by omega) hB ?_ h
      intro i j hij hj
      by_cases hi' : i = j
      · subst hi'; exact Int.le_refl _
      · have hi0 : i = 0 := by omega
        have hj1 : j = 1 := by omega
        subst hi0; subst hj1
        exact Int.le_of_lt hlt
theorem wpS_binG {st : SortSt} {lo n ok : Nat} {Q : Bool → SortSt → Prop} (h0 : IntKeys a₀) (hn : lo + n ≤ a₀.size) (hok : ok ≤ n) (hB : SB a₀ st) (hs : SI (arrOf st) lo ok)
    (h : ∀ st', SB a₀ st' → SI (arrOf st') lo n → Bef lo (arrOf st') (arrOf st) → pendingOf st' = pendingOf st → gallopOf st' = gallopOf st → Q true st') : wpS (model prog w) A E s (binarySort' lo n ok) Q st := by
  rw [binarySort'_eq]
  refine wpS_bind (wpS_mono (wpS_forRange (I := fun k c st' => c = (none, ()) ∧ SB a₀ st' ∧ SI (arrOf st') lo (min k n) ∧ Bef lo (arrOf st') (arrOf st) ∧ pendingOf st' = pendingOf st ∧ gallopOf st' = gallopOf st)
    (Q := fun c st' => c = (none, ()) ∧ SB a₀ st' ∧ SI (arrOf st') lo n ∧ Bef lo (arrOf st') (arrOf st) ∧ pendingOf st' = pendingOf st ∧ gallopOf st' = gallopOf st) ?step ?fin ?init) ?post)
  case post =>
    rintro c st' ⟨rfl, hB', hs', hb, hp, hg⟩
    exact wpS_pure (h st' hB' hs' hb hp hg)
  case init =>
    refine ⟨rfl, hB, fun i j hij hj => ?_, Bef.refl, rfl, rfl⟩
    by_cases h1 : ok = 0
    · have : i = j := by omega
      subst this; exact Int.le_refl _
    · exact hs i j hij (by omega)
  case fin =>
    rintro c st' ⟨hc, hB', hs', hb⟩
    refine ⟨hc, hB', ?_, hb⟩
    rwa [show min (max (max ok 1) n) n = n by omega] at hs'
  case step =>
    rintro k c st' hak hkn ⟨rfl, hB', hs', hb, hp, hg⟩
    rw [show min k n = k by omega] at hs'
    have hk : lo + k < a₀.size := by omega
    refine wpS_bind (wpS_mono (wpS_forRange (I := fun x c st'' => st'' = st' ∧ ∃ l r, c = (none, l, r) ∧ l ≤ r ∧ r ≤ k ∧ r - l ≤ k - x ∧
        (∀ i, i < l → K (arrOf st') (lo + i) ≤ K (arrOf st') (lo + k)) ∧ (∀ i, r ≤ i → i < k → K (arrOf st') (lo + k) < K (arrOf st') (lo + i)))
      (Q := fun c st'' => st'' = st' ∧ ∃ l r, c = (none, l, r) ∧ l ≤ k ∧
        (∀ i, i < l → K (arrOf st') (lo + i) ≤ K (arrOf st') (lo + k)) ∧ (∀ i, l ≤ i → i < k → K (arrOf st') (lo + k) < K (arrOf st') (lo + i))) ?istep ?ifin ?iinit) ?ipost)
    case iinit => exact ⟨rfl, 0, k, rfl, by omega, by omega, by omega, fun i hi => by omega, fun i h1 h2 => by omega⟩
    case ifin =>
      rintro c st'' ⟨rfl, l, r, rfl, hlr, hrk, hm, hlo, hhi⟩
      have : l = r := by omega
      subst this
      exact ⟨rfl, l, l, rfl, hrk, hlo, hhi⟩
    case istep =>
      rintro x c st'' _ hxk ⟨rfl, l, r, rfl, hlr, hrk, hm, hlo, hhi⟩
      dsimp only
      by_cases hge : l ≥ r
      · rw [if_pos hge]
        have : l = r := by omega
        subst this
        exact wpS_pure ⟨rfl, l, l, rfl, hrk, hlo, hhi⟩
      · rw [if_neg hge]
        refine wpS_bind (wpS_ltG hB' h0 hk (by omega) ?_)
        by_cases hless : K (arrOf st'') (lo + k) < K (arrOf st'') (lo + (l + r) / 2)
        · simp only [hless, decide_true, if_true]
          refine wpS_pure ⟨rfl, l, (l + r) / 2, rfl, by omega, by omega, by omega, hlo, fun i h1 h2 => ?_⟩
          exact Int.lt_of_lt_of_le hless (hs' _ _ h1 h2)
        · simp only [hless, decide_false, Bool.false_eq_true, if_false]
          refine wpS_pure ⟨rfl, (l + r) / 2 + 1, r, rfl, by omega, by omega, by omega, fun i h1 => ?_, hhi⟩
          exact Int.le_trans (hs' i ((l + r) / 2) (by omega) (by omega)) (Int.not_lt.mp hless)
    case ipost =>
      rintro c st'' ⟨rfl, l, r, rfl, hlk, hlo, hhi⟩
      show wpS _ _ _ _ (do moveDown' (lo + k) (lo + l); pure (ForInStep.yield (none, ()))) _ _
      rw [moveDown'_eq]
      have hks : lo + k < (arrOf st'').size := by rw [hB'.size]; exact hk
      refine wpS_bind (wpS_modify (wpS_pure ⟨rfl, hB'.setArr (bubble_perm _ _ _), ?_, fun i hi => ?_, hp, hg⟩))
      · rw [show min (k + 1) n = k + 1 by omega]
        intro i j hij hj
        show K (bubble (arrOf st'') (lo + k) (lo + k - (lo + l))) (lo + i) ≤ K (bubble (arrOf st'') (lo + k) (lo + k - (lo + l))) (lo + j)
        rw [K_bubble hks (by omega), K_bubble hks (by omega), show lo + k - (lo + k - (lo + l)) = lo + l by omega]
        repeat' split
        all_goals first
          | (exfalso; omega)
          | exact Int.le_refl _
          | exact hlo _ (by omega)
          | (rw [show lo + j - 1 = lo + (j - 1) by omega]; first | exact Int.le_of_lt (hhi _ (by omega) (by omega)) | exact hs' _ _ (by omega) (by omega) | (rw [show lo + i - 1 = lo + (i - 1) by omega]; exact hs' _ _ (by omega) (by omega)))
          | exact Int.le_of_lt (hhi _ (by omega) (by omega))
          | exact hs' _ _ (by omega) (by omega)
      · show (bubble (arrOf st'') (lo + k) (lo + k - (lo + l)))[i]? = _
        rw [getElem?_bubble hks _ (by omega), if_neg (by omega), if_neg (by omega)]
        exact hb i hi
end
end Sg
set_option maxHeartbeats 4000000
namespace Sg
open PySem PyProof.Rows
noncomputable def gallop' : Bool → Keyed → Array Keyed → Nat → Nat → Nat → StateT SortSt Sem (Option Nat) := sortPriv% PySem.Builtin.gallop
theorem gallop'_eq (left : Bool) (key : Keyed) (arr : Array Keyed) (base n hint : Nat) : gallop' left key arr base n hint = (do
  let beyond (i : Nat) : StateT SortSt Sem (Option Bool) := do
    let x ← elem' arr (base + i)
    if left then lt' x key else return (← lt' key x).map (!·)
  let mut lastofs := 0
  let mut ofs := 1
  let mut lo := 0
  let mut hi := 0
  let some right ← beyond hint | return none
  if right then
    let maxofs := n - hint
    for _ in [0:n] do
      if ofs ≥ maxofs then break
      let some more ← beyond (hint + ofs) | return none
      if !more then break
      lastofs := ofs
      ofs := 2 * ofs + 1
    lo := hint + lastofs + 1
    hi := hint + min ofs maxofs
  else
    let maxofs := hint + 1
    for _ in [0:n] do
      if ofs ≥ maxofs then break
      let some found ← beyond (hint - ofs) | return none
      if found then break
      lastofs := ofs
      ofs := 2 * ofs + 1
    lo := hint + 1 - min ofs maxofs
    hi := hint - lastofs
  for _ in [0:n] do
    if lo ≥ hi then break
    let m := lo + (hi - lo) / 2
    let some more ← beyond m | return none
    if more then lo := m + 1 else hi := m
  return some hi) := rfl
noncomputable def IK (x : Keyed) : Prop := ∃ n t, x.1 = .int n t
noncomputable def kk (x : Keyed) : Int := numOf x.1
theorem ik_at {arr : Array Keyed} (h : IntKeys arr) {i : Nat} (hi : i < arr.size) : IK arr[i] := h _ (by simp)
theorem K_at {arr : Array Keyed} {i : Nat} (hi : i < arr.size) : K arr i = kk arr[i] := by
  unfold K
  rw [getElem?_pos arr i hi]
  rfl
section
variable {prog : Program} {w : World} {A : Around} {E : Value → Shared → Prop} {s : Shared}
theorem wpS_lt {st : SortSt} {x y : Keyed} {Q : Option Bool → SortSt → Prop} (hk : kindOf st = oneType') (hx : IK x) (hy : IK y) (h : Q (some (decide (kk x < kk y))) st) : wpS (model prog w) A E s (lt' x y) Q st := by
  obtain ⟨a, t, e1⟩ := hx
  obtain ⟨b, u, e2⟩ := hy
  rw [lt'_eq]
  refine wpS_bind (wpS_get ?_)
  rw [hk, keyLt'_oneType, e1, e2]
  refine wpS_bind (wpS_lift (wpAny_attempt (oneLt_int ⟨rfl, ?_⟩)))
  refine wpS_pure ?_
  unfold kk at h
  rw [e1, e2] at h
  exact h
theorem wpS_elem {st : SortSt} {arr : Array Keyed} {i : Nat} {Q : Keyed → SortSt → Prop} (hi : i < arr.size) (h : Q arr[i] st) : wpS (model prog w) A E s (elem' arr i) Q st := by
  rw [elem'_eq, getElem?_pos arr i hi]
  exact wpS_pure h
noncomputable def bq (left : Bool) (kv x : Int) : Bool := if left then decide (x < kv) else !decide (kv < x)
theorem bq_mono {left : Bool} {kv x y : Int} (h : x ≤ y) (k : bq left kv y = true) : bq left kv x = true := by
  unfold bq at *
  cases left with
  | true => simp at *; omega
  | false => simp at *; omega
noncomputable def byd (left : Bool) (key : Keyed) (arr : Array Keyed) (base i : Nat) : StateT SortSt Sem (Option Bool) := do
    let x ← elem' arr (base + i)
    if left then lt' x key else return (← lt' key x).map (!·)
theorem wpS_byd {st : SortSt} {left : Bool} {key : Keyed} {arr : Array Keyed} {base i : Nat} {Q : Option Bool → SortSt → Prop} (hk : kindOf st = oneType') (ha : IntKeys arr) (hkey : IK key) (hi : base + i < arr.size) (h : Q (some (bq left (kk key) (K arr (base + i)))) st) :
    wpS (model prog w) A E s (byd left key arr base i) Q st := by
  unfold byd
  refine wpS_bind (wpS_elem hi ?_)
  rw [K_at hi] at h
  cases left with
  | true =>
    rw [if_pos rfl]
    exact wpS_lt hk (ik_at ha hi) hkey h
  | false =>
    rw [if_neg Bool.false_ne_true]
    exact wpS_bind (wpS_lt hk hkey (ik_at ha hi) (wpS_pure h))
noncomputable def Gal (left : Bool) (kv : Int) (arr : Array Keyed) (base n k : Nat) : Prop := k ≤ n ∧ (∀ i, i < k → bq left kv (K arr (base + i)) = true) ∧ ∀ i, k ≤ i → i < n → bq left kv (K arr (base + i)) = false
noncomputable def fin3 (left : Bool) (key : Keyed) (arr : Array Keyed) (base n lo hi : Nat) : StateT SortSt Sem (Option Nat) := do
  let mut lo := lo
  let mut hi := hi
  for _ in [0:n] do
    if lo ≥ hi then break
    let m := lo + (hi - lo) / 2
    let some more ← byd left key arr base m | return none
    if more then lo := m + 1 else hi := m
  return some hi
theorem wpS_fin3 {st : SortSt} {left : Bool} {key : Keyed} {arr : Array Keyed} {base n lo hi : Nat} {Q : Option Nat → SortSt → Prop} (hk : kindOf st = oneType') (ha : IntKeys arr) (hkey : IK key) (hn : base + n ≤ arr.size) (hs : SI arr base n) (hl : lo ≤ hi) (hh : hi ≤ n)
    (h1 : ∀ i, i < lo → bq left (kk key) (K arr (base + i)) = true) (h2 : ∀ i, hi ≤ i → i < n → bq left (kk key) (K arr (base + i)) = false) (h : ∀ k, Gal left (kk key) arr base n k → Q (some k) st) :
    wpS (model prog w) A E s (fin3 left key arr base n lo hi) Q st := by
  unfold fin3
  dsimp only
  refine wpS_bind (wpS_mono (wpS_forRange (I := fun x c st' => st' = st ∧ ∃ lo hi, c = (none, lo, hi) ∧ lo ≤ hi ∧ hi ≤ n ∧ hi - lo ≤ n - x ∧ (∀ i, i < lo → bq left (kk key) (K arr (base + i)) = true) ∧ (∀ i, hi ≤ i → i < n → bq left (kk key) (K arr (base + i)) = false))
    (Q := fun c st' => st' = st ∧ ∃ lo hi, c = (none, lo, hi) ∧ Gal left (kk key) arr base n hi) ?step ?fin ?init) ?post)
  case init => exact ⟨rfl, lo, hi, rfl, hl, hh, by omega, h1, h2⟩
  case post =>
    rintro c st' ⟨rfl, lo, hi, rfl, g⟩
    exact wpS_pure (h hi g)
  case fin =>
    rintro c st' ⟨rfl, lo, hi, rfl, a1, a2, a3, a4, a5⟩
    have : lo = hi := by omega
    subst this
    exact ⟨rfl, lo, lo, rfl, a2, a4, a5⟩
  case step =>
    rintro x c st' _ hx ⟨rfl, lo, hi, rfl, a1, a2, a3, a4, a5⟩
    dsimp only
    by_cases hge : lo ≥ hi
    · rw [if_pos hge]
      have : lo = hi := by omega
      subst this
      exact wpS_pure ⟨rfl, lo, lo, rfl, a2, a4, a5⟩
    · rw [if_neg hge]
      refine wpS_bind (wpS_byd hk ha hkey (by omega) ?_)
      cases hb : bq left (kk key) (K arr (base + (lo + (hi - lo) / 2))) with
      | true =>
        dsimp only
        rw [if_pos rfl]
        refine wpS_pure ⟨rfl, _, _, rfl, by omega, by omega, by omega, fun i hi' => ?_, a5⟩
        exact bq_mono (hs i (lo + (hi - lo) / 2) (by omega) (by omega)) hb
      | false =>
        dsimp only
        rw [if_neg Bool.false_ne_true]
        refine wpS_pure ⟨rfl, _, _, rfl, by omega, by omega, by omega, a4, fun i hi' hn' => ?_⟩
        cases hc : bq left (kk key) (K arr (base + i)) with
        | false => rfl
        | true =>
          have := bq_mono (hs (lo + (hi - lo) / 2) i hi' hn') hc
          rw [hb] at this
          cases this
end
end Sg
set_option maxHeartbeats 4000000
namespace Sg
open PySem PyProof.Rows
section
variable {prog : Program} {w : World} {A : Around} {E : Value → Shared → Prop} {s : Shared}
theorem wpS_gallop {st : SortSt} {left : Bool} {key : Keyed} {arr : Array Keyed} {base n hint : Nat} {Q : Option Nat → SortSt → Prop} (hk : kindOf st = oneType') (ha : IntKeys arr) (hkey : IK key) (hn : base + n ≤ arr.size) (hs : SI arr base n) (hh : hint < n)
    (h : ∀ k, Gal left (kk key) arr base n k → Q (some k) st) : wpS (model prog w) A E s (gallop' left key arr base n hint) Q st := by
  rw [gallop'_eq]
  dsimp only
  show wpS _ _ _ _ (byd left key arr base hint >>= _) Q st
  refine wpS_bind (wpS_byd hk ha hkey (by omega) ?_)
  cases hb : bq left (kk key) (K arr (base + hint)) with
  | true =>
    dsimp only
    rw [if_pos rfl]
    refine wpS_bind (wpS_mono (wpS_forRange (I := fun x c st' => st' = st ∧ ∃ la of, c = (none, la, of) ∧ la < of ∧ x + 1 ≤ of ∧ hint + la < n ∧ bq left (kk key) (K arr (base + (hint + la))) = true)
      (Q := fun c st' => st' = st ∧ ∃ la of, c = (none, la, of) ∧ la < of ∧ hint + la < n ∧ bq left (kk key) (K arr (base + (hint + la))) = true ∧ (n - hint ≤ of ∨ bq left (kk key) (K arr (base + (hint + of))) = false)) ?step ?fin ?init) ?post)
    case init => exact ⟨rfl, 0, 1, rfl, by omega, by omega, by omega, hb⟩
    case fin =>
      rintro c st' ⟨rfl, la, of, rfl, a1, a2, a3, a4⟩
      exact ⟨rfl, la, of, rfl, a1, a3, a4, .inl (by omega)⟩
    case step =>
      rintro x c st' _ hx ⟨rfl, la, of, rfl, a1, a2, a3, a4⟩
      dsimp only
      by_cases hge : of ≥ n - hint
      · rw [if_pos hge]
        exact wpS_pure ⟨rfl, la, of, rfl, a1, a3, a4, .inl hge⟩
      · rw [if_neg hge]
        refine wpS_bind ?_
        show wpS _ _ _ _ (byd left key arr base (hint + of)) _ _
        refine wpS_byd hk ha hkey (by omega) ?_
        cases hc : bq left (kk key) (K arr (base + (hint + of))) with
        | true =>
          dsimp only
          rw [if_neg (by decide)]
          exact wpS_pure ⟨rfl, of, 2 * of + 1, rfl, by omega, by omega, by omega, hc⟩
        | false =>
          dsimp only
          rw [if_pos (by decide)]
          exact wpS_pure ⟨rfl, la, of, rfl, a1, a3, a4, .inr hc⟩
    case post =>
      rintro c st' ⟨rfl, la, of, rfl, a1, a3, a4, a5⟩
      dsimp only
      show wpS _ _ _ _ (fin3 left key arr base n (hint + la + 1) (hint + min of (n - hint))) Q _
      refine wpS_fin3 hk ha hkey hn hs (by omega) (by omega) (fun i hi => bq_mono (hs i (hint + la) (by omega) (by omega)) a4) (fun i h1 h2 => ?_) h
      rcases a5 with a5 | a5
      · exfalso; omega
      · cases hc : bq left (kk key) (K arr (base + i)) with
        | false => rfl
        | true =>
          have := bq_mono (hs (hint + of) i (by omega) h2) hc
          rw [a5] at this
          cases this
  | false =>
    dsimp only
    rw [if_neg Bool.false_ne_true]
    refine wpS_bind (wpS_mono (wpS_forRange (I := fun x c st' => st' = st ∧ ∃ la of, c = (none, la, of) ∧ la < of ∧ x + 1 ≤ of ∧ la ≤ hint ∧ bq left (kk key) (K arr (base + (hint - la))) = false)
      (Q := fun c st' => st' = st ∧ ∃ la of, c = (none, la, of) ∧ la < of ∧ la ≤ hint ∧ bq left (kk key) (K arr (base + (hint - la))) = false ∧ (hint + 1 ≤ of ∨ bq left (kk key) (K arr (base + (hint - of))) = true)) ?step ?fin ?init) ?post)
    case init => exact ⟨rfl, 0, 1, rfl, by omega, by omega, by omega, hb⟩
    case fin =>
      rintro c st' ⟨rfl, la, of, rfl, a1, a2, a3, a4⟩
      exact ⟨rfl, la, of, rfl, a1, a3, a4, .inl (by omega)⟩
    case step =>
      rintro x c st' _ hx ⟨rfl, la, of, rfl, a1, a2, a3, a4⟩
      dsimp only
      by_cases hge : of ≥ hint + 1
      · rw [if_pos hge]
        exact wpS_pure ⟨rfl, la, of, rfl, a1, a3, a4, .inl hge⟩
      · rw [if_neg hge]
        refine wpS_bind ?_
        show wpS _ _ _ _ (byd left key arr base (hint - of)) _ _
        refine wpS_byd hk ha hkey (by omega) ?_
        cases hc : bq left (kk key) (K arr (base + (hint - of))) with
        | true =>
          dsimp only
          rw [if_pos rfl]
          exact wpS_pure ⟨rfl, la, of, rfl, a1, a3, a4, .inr hc⟩
        | false =>
          dsimp only
          rw [if_neg Bool.false_ne_true]
          exact wpS_pure ⟨rfl, of, 2 * of + 1, rfl, by omega, by omega, by omega, hc⟩
    case post =>
      rintro c st' ⟨rfl, la, of, rfl, a1, a3, a4, a5⟩
      dsimp only
      show wpS _ _ _ _ (fin3 left key arr base n (hint + 1 - min of (hint + 1)) (hint - la)) Q _
      refine wpS_fin3 hk ha hkey hn hs (by omega) (by omega) (fun i hi => ?_) (fun i h1 h2 => ?_) h
      · rcases a5 with a5 | a5
        · exfalso; omega
        · exact bq_mono (hs i (hint - of) (by omega) (by omega)) a5
      · cases hc : bq left (kk key) (K arr (base + i)) with
        | false => rfl
        | true =>
          have := bq_mono (hs (hint - la) i h1 h2) hc
          rw [a4] at this
          cases this
end
end Sg
set_option maxHeartbeats 4000000
namespace Sg
open PySem PyProof.Rows
noncomputable def mergeLo' : Array Keyed → Array Keyed → StateT SortSt Sem (Array Keyed) := sortPriv% PySem.Builtin.mergeLo
noncomputable abbrev setGal (st : SortSt) (g : Nat) : SortSt := SortSt.mk' (kindOf st) (arrOf st) (pendingOf st) g (failedOf st)
theorem mergeLo'_eq (a b : Array Keyed) : mergeLo' a b = (do
  rule "list.sort.merge-lo"
  let total := a.size + b.size
  let done (out : Array Keyed) (ia ib : Nat) := out ++ a.extract ia a.size ++ b.extract ib b.size
  let lastOfA (out : Array Keyed) (ia ib : Nat) := out ++ b.extract ib b.size ++ a.extract ia a.size
  let mut out : Array Keyed := #[← elem' b 0]
  let mut ia := 0
  let mut ib := 1
  if ib == b.size then return done out ia ib
  if ia + 1 == a.size then return lastOfA out ia ib
  let mut minGallop := gallopOf (← get)
  for _ in [0:total] do
    let mut acount := 0
    let mut bcount := 0
    for _ in [0:total] do
      let some bWins ← lt' (← elem' b ib) (← elem' a ia) | return done out ia ib
      if bWins then
        out := out.push (← elem' b ib); ib := ib + 1; bcount := bcount + 1; acount := 0
        if ib == b.size then return done out ia ib
        if bcount ≥ minGallop then break
      else
        out := out.push (← elem' a ia); ia := ia + 1; acount := acount + 1; bcount := 0
        if ia + 1 == a.size then return lastOfA out ia ib
        if acount ≥ minGallop then break
    rule "list.sort.gallop"
    minGallop := minGallop + 1
    for _ in [0:total] do
      if minGallop > 1 then minGallop := minGallop - 1
      modify fun s => setGal s minGallop
      let some k ← gallop' false (← elem' b ib) a ia (a.size - ia) 0 | return done out ia ib
      acount := k
      if k > 0 then
        out := out ++ a.extract ia (ia + k); ia := ia + k
        if ia + 1 == a.size then return lastOfA out ia ib
        if ia == a.size then return done out ia ib
      out := out.push (← elem' b ib); ib := ib + 1
      if ib == b.size then return done out ia ib
      let some k ← gallop' true (← elem' a ia) b ib (b.size - ib) 0 | return done out ia ib
      bcount := k
      if k > 0 then
        out := out ++ b.extract ib (ib + k); ib := ib + k
        if ib == b.size then return done out ia ib
      out := out.push (← elem' a ia); ia := ia + 1
      if ia + 1 == a.size then return lastOfA out ia ib
      if acount < 7 && bcount < 7 then break
    minGallop := minGallop + 1
    modify fun s => setGal s minGallop
  unsupported "internal:list.sort.merge-bound") := rfl
noncomputable abbrev Ls (l : List Keyed) : Prop := l.Pairwise fun x y => kk x ≤ kk y
theorem si_ls {a : Array Keyed} (h : SI a 0 a.size) : Ls a.toList := by
  refine List.pairwise_iff_getElem.mpr fun i j hi hj hij => ?_
  have := h i j (Nat.le_of_lt hij) (by simpa using hj)
  rw [Nat.zero_add, Nat.zero_add, K_at (by simpa using hi), K_at (by simpa using hj)] at this
  simpa using this
structure Mi (la lb : List Keyed) (out : List Keyed) (ia ib : Nat) : Prop where
  perm : out.Perm (la.take ia ++ lb.take ib)
  srt : Ls out
  le : ∀ x ∈ out, ∀ y, y ∈ la.drop ia ∨ y ∈ lb.drop ib → kk x ≤ kk y
theorem ls_cut {l : List Keyed} (h : Ls l) (i k : Nat) : ∀ x ∈ (l.drop i).take k, ∀ y ∈ l.drop (i + k), kk x ≤ kk y := by
  have e : l.drop i = (l.drop i).take k ++ l.drop (i + k) := by rw [← List.drop_drop, List.take_append_drop]
  have h2 : Ls (l.drop i) := h.sublist (List.drop_sublist _ _)
  rw [e] at h2
  exact (List.pairwise_append.mp h2).2.2
theorem mem_drop_le {l : List Keyed} {i k : Nat} {x : Keyed} (h : x ∈ l.drop (i + k)) : x ∈ l.drop i := by
  rw [← List.drop_drop] at h
  exact List.mem_of_mem_drop h
theorem Mi.chA {la lb out : List Keyed} {ia ib : Nat} (h : Mi la lb out ia ib) (sa : Ls la) (k : Nat) (hk : ∀ x ∈ (la.drop ia).take k, ∀ y ∈ lb.drop ib, kk x ≤ kk y) : Mi la lb (out ++ (la.drop ia).take k) (ia + k) ib where
  perm := by
    rw [List.take_add]
    refine (h.perm.append_right _).trans ?_
    rw [List.append_assoc, List.append_assoc]
    exact List.perm_append_comm.append_left _
  srt := List.pairwise_append.mpr ⟨h.srt, (sa.sublist (List.drop_sublist _ _)).sublist (List.take_sublist _ _), fun x hx y hy => h.le x hx y (.inl (List.mem_of_mem_take hy))⟩
  le := fun x hx y hy => by
    rcases List.mem_append.mp hx with z | z
    · rcases hy with w | w
      · exact h.le x z y (.inl (mem_drop_le w))
      · exact h.le x z y (.inr w)
    · rcases hy with w | w
      · exact ls_cut sa ia k x z y w
      · exact hk x z y w
theorem Mi.chB {la lb out : List Keyed} {ia ib : Nat} (h : Mi la lb out ia ib) (sb : Ls lb) (k : Nat) (hk : ∀ x ∈ (lb.drop ib).take k, ∀ y ∈ la.drop ia, kk x ≤ kk y) : Mi la lb (out ++ (lb.drop ib).take k) ia (ib + k) where
  perm := by
    rw [List.take_add]
    refine (h.perm.append_right _).trans ?_
    rw [List.append_assoc]
  srt := List.pairwise_append.mpr ⟨h.srt, (sb.sublist (List.drop_sublist _ _)).sublist (List.take_sublist _ _), fun x hx y hy => h.le x hx y (.inr (List.mem_of_mem_take hy))⟩
  le := fun x hx y hy => by
    rcases List.mem_append.mp hx with z | z
    · rcases hy with w | w
      · exact h.le x z y (.inl w)
      · exact h.le x z y (.inr (mem_drop_le w))
    · rcases hy with w | w
      · exact hk x z y w
      · exact ls_cut sb ib k x z y w
noncomputable def Mo (la lb out : List Keyed) : Prop := out.Perm (la ++ lb) ∧ Ls out
theorem Mi.doneB {la lb out : List Keyed} {ia ib : Nat} (h : Mi la lb out ia ib) (sa : Ls la) (e : ib = lb.length) : Mo la lb (out ++ la.drop ia ++ lb.drop ib) := by
  subst e
  rw [List.drop_length, List.append_nil]
  have m := h.chA sa (la.length - ia) (by rw [List.drop_length]; intro x _ y hy; cases hy)
  rw [List.take_of_length_le (by simp)] at m
  refine ⟨?_, m.srt⟩
  have p := m.perm
  rw [List.take_length, List.take_of_length_le (by omega)] at p
  exact p
theorem Mi.doneA {la lb out : List Keyed} {ia ib : Nat} (h : Mi la lb out ia ib) (sb : Ls lb) (e : ia = la.length) : Mo la lb (out ++ la.drop ia ++ lb.drop ib) := by
  subst e
  rw [List.drop_length, List.append_nil]
  have m := h.chB sb (lb.length - ib) (by rw [List.drop_length]; intro x _ y hy; cases hy)
  rw [List.take_of_length_le (by simp)] at m
  refine ⟨?_, m.srt⟩
  have p := m.perm
  rw [List.take_length, List.take_of_length_le (by omega)] at p
  exact p
theorem Mi.last {la lb out : List Keyed} {ia ib : Nat} (h : Mi la lb out ia ib) (sa : Ls la) (sb : Ls lb) (hl : ∀ x ∈ lb.drop ib, ∀ y ∈ la.drop ia, kk x ≤ kk y) : Mo la lb (out ++ lb.drop ib ++ la.drop ia) := by
  have m := h.chB sb (lb.length - ib) (fun x hx y hy => hl x (List.mem_of_mem_take hx) y hy)
  rw [List.take_of_length_le (by simp)] at m
  have m2 := m.chA sa (la.length - ia) (by rw [List.drop_eq_nil_of_le (show lb.length ≤ ib + (lb.length - ib) by omega)]; intro x _ y hy; cases hy)
  rw [List.take_of_length_le (by simp)] at m2
  refine ⟨?_, m2.srt⟩
  have p := m2.perm
  rw [List.take_of_length_le (show la.length ≤ ia + (la.length - ia) by omega), List.take_of_length_le (show lb.length ≤ ib + (lb.length - ib) by omega)] at p
  exact p
theorem take1 {a : Array Keyed} {i : Nat} (h : i < a.size) : (a.toList.drop i).take 1 = [a[i]] := by
  rw [List.drop_eq_getElem_cons (by simpa using h)]
  simp
theorem mem_dr {a : Array Keyed} {i : Nat} {y : Keyed} (h : y ∈ a.toList.drop i) : ∃ j, i ≤ j ∧ ∃ hj : j < a.size, y = a[j] := by
  obtain ⟨k, hk, e⟩ := List.mem_iff_getElem.mp h
  rw [List.getElem_drop] at e
  simp at hk
  exact ⟨i + k, by omega, by omega, by simpa using e.symm⟩
theorem mem_ch {a : Array Keyed} {i k : Nat} {y : Keyed} (h : y ∈ (a.toList.drop i).take k) : ∃ j, i ≤ j ∧ j < i + k ∧ ∃ hj : j < a.size, y = a[j] := by
  obtain ⟨m, hm, e⟩ := List.mem_iff_getElem.mp h
  rw [List.getElem_take, List.getElem_drop] at e
  simp at hm
  exact ⟨i + m, by omega, by omega, by omega, by simpa using e.symm⟩
structure Mp (a b : Array Keyed) : Prop where
  ka : IntKeys a
  kb : IntKeys b
  sa : SI a 0 a.size
  sb : SI b 0 b.size
  a1 : 1 ≤ a.size
  b1 : 1 ≤ b.size
  first : K b 0 ≤ K a 0
  last : ∀ i, i < b.size → K b i ≤ K a (a.size - 1)
theorem SI.le {a : Array Keyed} (h : SI a 0 a.size) {i j : Nat} (hij : i ≤ j) (hj : j < a.size) : K a i ≤ K a j := by
  have := h i j hij hj
  rwa [Nat.zero_add, Nat.zero_add] at this
theorem SI.sub {a : Array Keyed} (h : SI a 0 a.size) (i n : Nat) (hn : i + n ≤ a.size) : SI a i n := fun x y hxy hy => h.le (by omega) (by omega)
theorem ext_all (a : Array Keyed) (i : Nat) : (a.extract i a.size).toList = a.toList.drop i := by
  rw [Array.toList_extract]
  simp [List.extract]
  exact List.take_of_length_le (by simp)
theorem ext_part (a : Array Keyed) (i k : Nat) : (a.extract i (i + k)).toList = (a.toList.drop i).take k := by
  rw [Array.toList_extract]
  simp [List.extract]
structure Sm (st st' : SortSt) : Prop where
  kind : kindOf st' = kindOf st
  arr : arrOf st' = arrOf st
  pend : pendingOf st' = pendingOf st
  failed : failedOf st' = failedOf st
theorem Sm.refl {st : SortSt} : Sm st st := ⟨rfl, rfl, rfl, rfl⟩
section
variable {prog : Program} {w : World} {A : Around} {E : Value → Shared → Prop} {s : Shared}
theorem wpS_ite' {α : Type} {c : Prop} [Decidable c] {t e : StateT SortSt Sem α} {Q : α → SortSt → Prop} {st : SortSt} (h1 : c → wpS (model prog w) A E s t Q st) (h2 : ¬ c → wpS (model prog w) A E s e Q st) : wpS (model prog w) A E s (if c then t else e) Q st := by
  by_cases h : c
  · rw [if_pos h]; exact h1 h
  · rw [if_neg h]; exact h2 h
end
noncomputable abbrev St2 := Option (Array Keyed) × Array Keyed × Nat × Nat × Nat × Nat × Nat
noncomputable def jB (a b : Array Keyed) (mg ac i bc : Nat) (out : Array Keyed) (ib : Nat) : StateT SortSt Sem (ForInStep St2) := do
  let x ← elem' a i
  let out := out.push x
  let ia := i + 1
  if (ia + 1 == a.size) = true then pure (ForInStep.done (some (out ++ b.extract ib b.size ++ a.extract ia a.size), out, ia, ib, mg, ac, bc))
  else if (decide (ac < 7) && decide (bc < 7)) = true then pure (ForInStep.done (none, out, ia, ib, mg, ac, bc)) else pure (ForInStep.yield (none, out, ia, ib, mg, ac, bc))
noncomputable def jA (a b : Array Keyed) (mg ac bc ib2 : Nat) (out : Array Keyed) (ia : Nat) : StateT SortSt Sem (ForInStep St2) := do
  let x ← elem' b ib2
  let out := out.push x
  let ib := ib2 + 1
  if (ib == b.size) = true then pure (ForInStep.done (some (out ++ a.extract ia a.size ++ b.extract ib b.size), out, ia, ib, mg, ac, bc))
  else do
    let y ← elem' a ia
    let r ← gallop' true y b ib (b.size - ib) 0
    match r with
    | some k =>
      if k > 0 then
        let out := out ++ b.extract ib (ib + k)
        let ib := ib + k
        if (ib == b.size) = true then pure (ForInStep.done (some (out ++ a.extract ia a.size ++ b.extract ib b.size), out, ia, ib, mg, ac, k)) else jB a b mg ac ia k out ib
      else jB a b mg ac ia k out ib
    | _ => pure (ForInStep.done (some (out ++ a.extract ia a.size ++ b.extract ib b.size), out, ia, ib, mg, ac, bc))
noncomputable def Jr (a b : Array Keyed) (st : SortSt) (n0 : Nat) (r : ForInStep St2) (st' : SortSt) : Prop := match r with
  | .done c' => Sm st st' ∧ ((∃ r out ia2 ib2 mg2 ac bc, c' = (some r, out, ia2, ib2, mg2, ac, bc) ∧ Mo a.toList b.toList r.toList) ∨ ∃ (out : Array Keyed) (ia2 ib2 mg2 ac bc : Nat), c' = (none, out, ia2, ib2, mg2, ac, bc) ∧ Mi a.toList b.toList out.toList ia2 ib2 ∧ ia2 + 1 < a.size ∧ ib2 < b.size ∧ n0 ≤ ia2 + ib2)
  | .yield c' => Sm st st' ∧ ∃ (out : Array Keyed) (ia2 ib2 mg2 ac bc : Nat), c' = (none, out, ia2, ib2, mg2, ac, bc) ∧ Mi a.toList b.toList out.toList ia2 ib2 ∧ ia2 + 1 < a.size ∧ ib2 < b.size ∧ n0 ≤ ia2 + ib2
theorem Sm.gal {st st' : SortSt} (h : Sm st st') (g : Nat) : Sm st (setGal st' g) := ⟨h.kind, h.arr, h.pend, h.failed⟩
theorem gal_false {kv : Int} {arr : Array Keyed} {base n k : Nat} (g : Gal false kv arr base n k) : k ≤ n ∧ (∀ i, i < k → K arr (base + i) ≤ kv) ∧ ∀ i, k ≤ i → i < n → kv < K arr (base + i) := by
  obtain ⟨g1, g2, g3⟩ := g
  refine ⟨g1, fun i hi => ?_, fun i h1 h2 => ?_⟩
  · have := g2 i hi
    unfold bq at this
    simpa using this
  · have := g3 i h1 h2
    unfold bq at this
    simpa using this
theorem gal_true {kv : Int} {arr : Array Keyed} {base n k : Nat} (g : Gal true kv arr base n k) : k ≤ n ∧ (∀ i, i < k → K arr (base + i) < kv) ∧ ∀ i, k ≤ i → i < n → kv ≤ K arr (base + i) := by
  obtain ⟨g1, g2, g3⟩ := g
  refine ⟨g1, fun i hi => ?_, fun i h1 h2 => ?_⟩
  · have := g2 i hi
    unfold bq at this
    simpa using this
  · have := g3 i h1 h2
    unfold bq at this
    simpa using this
noncomputable abbrev PushA (a b : Array Keyed) : Prop := ∀ {out : Array Keyed} {ia ib : Nat} (hia : ia < a.size), Mi a.toList b.toList out.toList ia ib → (∀ j, ib ≤ j → j < b.size → K a ia ≤ K b j) → Mi a.toList b.toList (out.push a[ia]).toList (ia + 1) ib
noncomputable abbrev PushB (a b : Array Keyed) : Prop := ∀ {out : Array Keyed} {ia ib : Nat} (hib : ib < b.size), Mi a.toList b.toList out.toList ia ib → (∀ j, ia ≤ j → j < a.size → K b ib ≤ K a j) → Mi a.toList b.toList (out.push b[ib]).toList ia (ib + 1)
noncomputable abbrev Fin1 (a b : Array Keyed) : Prop := ∀ {out : Array Keyed} {ia ib : Nat}, Mi a.toList b.toList out.toList ia ib → ib = b.size → Mo a.toList b.toList (out ++ a.extract ia a.size ++ b.extract ib b.size).toList
noncomputable abbrev FinL (a b : Array Keyed) : Prop := ∀ {out : Array Keyed} {ia ib : Nat}, Mi a.toList b.toList out.toList ia ib → ia + 1 = a.size → Mo a.toList b.toList (out ++ b.extract ib b.size ++ a.extract ia a.size).toList
section
variable {prog : Program} {w : World} {A : Around} {E : Value → Shared → Prop} {s : Shared}
theorem wpS_jB {st st4 : SortSt} {a b : Array Keyed} {mg ac i bc ib : Nat} {out : Array Keyed} (sm : Sm st st4) (pushA : PushA a b) (finL : FinL a b) (m : Mi a.toList b.toList out.toList i ib) (hi : i + 1 < a.size) (hib : ib < b.size) (hle : ∀ j, ib ≤ j → j < b.size → K a i ≤ K b j) :
    wpS (model prog w) A E s (jB a b mg ac i bc out ib) (Jr a b st (i + ib)) st4 := by
  unfold jB
  refine wpS_bind (wpS_elem (show i < a.size by omega) ?_)
  have mD := pushA (show i < a.size by omega) m hle
  refine wpS_ite' (fun c => wpS_pure ⟨sm, .inl ⟨_, _, _, _, _, _, _, rfl, finL mD (by simpa using c)⟩⟩) (fun c => ?_)
  have c3 : ¬ i + 1 + 1 = a.size := by simpa using c
  exact wpS_ite' (fun e => wpS_pure ⟨sm, .inr ⟨_, i + 1, ib, mg, ac, bc, rfl, mD, by omega, hib, by omega⟩⟩) (fun e => wpS_pure ⟨sm, _, i + 1, ib, mg, ac, bc, rfl, mD, by omega, hib, by omega⟩)
theorem Jr.le {a b : Array Keyed} {st : SortSt} {n0 n1 : Nat} (h : n1 ≤ n0) {r : ForInStep St2} {st' : SortSt} (k : Jr a b st n0 r st') : Jr a b st n1 r st' := by
  cases r with
  | done c =>
    obtain ⟨s1, k | ⟨out, i1, i2, g, ac, bc, e, m, p1, p2, p3⟩⟩ := k
    · exact ⟨s1, .inl k⟩
    · exact ⟨s1, .inr ⟨out, i1, i2, g, ac, bc, e, m, p1, p2, by omega⟩⟩
  | yield c =>
    obtain ⟨s1, out, i1, i2, g, ac, bc, e, m, p1, p2, p3⟩ := k
    exact ⟨s1, out, i1, i2, g, ac, bc, e, m, p1, p2, by omega⟩
theorem wpS_jA {st st4 : SortSt} {a b : Array Keyed} {mg ac bc ib0 ia : Nat} {out : Array Keyed} (M : Mp a b) (hk : kindOf st = oneType') (sm : Sm st st4) (pushA : PushA a b) (pushB : PushB a b) (fin1 : Fin1 a b) (finL : FinL a b) (m : Mi a.toList b.toList out.toList ia ib0) (hi : ia + 1 < a.size) (hib : ib0 < b.size) (hle : ∀ j, ia ≤ j → j < a.size → K b ib0 ≤ K a j) :
    wpS (model prog w) A E s (jA a b mg ac bc ib0 out ia) (Jr a b st (ia + ib0)) st4 := by
  unfold jA
  have lb := si_ls M.sb
  refine wpS_bind (wpS_elem hib ?_)
  have mB := pushB hib m hle
  refine wpS_ite' (fun c => wpS_pure ⟨sm, .inl ⟨_, _, _, _, _, _, _, rfl, fin1 mB (by simpa using c)⟩⟩) (fun c => ?_)
  have c1 : ¬ ib0 + 1 = b.size := by simpa using c
  refine wpS_bind (wpS_elem (show ia < a.size by omega) ?_)
  refine wpS_bind (wpS_gallop (sm.kind.trans hk) M.kb (ik_at M.ka (show ia < a.size by omega)) (by omega) (M.sb.sub _ _ (by omega)) (by omega) fun k g => ?_)
  obtain ⟨g1, g2, g3⟩ := gal_true g
  dsimp only
  have hge : ∀ j, ib0 + 1 + k ≤ j → j < b.size → K a ia ≤ K b j := fun j h1 h2 => by
    have := g3 (j - (ib0 + 1)) (by omega) (by omega)
    rw [show ib0 + 1 + (j - (ib0 + 1)) = j by omega] at this
    rw [K_at (show ia < a.size by omega)]
    exact this
  refine wpS_ite' (fun c => ?_) (fun c => ?_)
  · have mC : Mi a.toList b.toList (out.push b[ib0] ++ b.extract (ib0 + 1) (ib0 + 1 + k)).toList ia (ib0 + 1 + k) := by
      rw [Array.toList_append, ext_part]
      refine mB.chB lb k fun x hx y hy => ?_
      obtain ⟨j, h1, h2, hj, rfl⟩ := mem_ch hx
      obtain ⟨j', h1', hj', rfl⟩ := mem_dr hy
      have e1 := g2 (j - (ib0 + 1)) (by omega)
      rw [show ib0 + 1 + (j - (ib0 + 1)) = j by omega, K_at hj] at e1
      have e2 := M.sa.le h1' hj'
      rw [K_at (show ia < a.size by omega), K_at hj'] at e2
      exact Int.le_trans (Int.le_of_lt e1) e2
    refine wpS_ite' (fun d => wpS_pure ⟨sm, .inl ⟨_, _, _, _, _, _, _, rfl, fin1 mC (by simpa using d)⟩⟩) (fun d => ?_)
    have d1 : ¬ ib0 + 1 + k = b.size := by simpa using d
    exact wpS_mono (wpS_jB sm pushA finL mC hi (by omega) hge) fun r st5 hr => hr.le (by omega)
  · have k0 : k = 0 := by omega
    subst k0
    exact wpS_mono (wpS_jB sm pushA finL mB hi (by omega) hge) fun r st5 hr => hr.le (by omega)
end
section
variable {prog : Program} {w : World} {A : Around} {E : Value → Shared → Prop} {s : Shared}
theorem wpS_ite {α : Type} {c : Prop} [Decidable c] {t e : StateT SortSt Sem α} {Q : α → SortSt → Prop} {st : SortSt} (h1 : c → wpS (model prog w) A E s t Q st) (h2 : ¬ c → wpS (model prog w) A E s e Q st) : wpS (model prog w) A E s (if c then t else e) Q st := by
  by_cases h : c
  · rw [if_pos h]; exact h1 h
  · rw [if_neg h]; exact h2 h
theorem wpS_mergeLo {st : SortSt} {a b : Array Keyed} {Q : Array Keyed → SortSt → Prop} (hk : kindOf st = oneType') (M : Mp a b) (h : ∀ out st', Mo a.toList b.toList out.toList → Sm st st' → Q out st') : wpS (model prog w) A E s (mergeLo' a b) Q st := by
  rw [mergeLo'_eq]
  have la := si_ls M.sa
  have lb := si_ls M.sb
  have hb1 := M.b1
  have ha1 := M.a1
  have m0 : Mi a.toList b.toList [] 0 0 := ⟨by simp, List.Pairwise.nil, fun x hx => by cases hx⟩
  have pushB : ∀ {out : Array Keyed} {ia ib : Nat} (hib : ib < b.size), Mi a.toList b.toList out.toList ia ib → (∀ j, ia ≤ j → j < a.size → K b ib ≤ K a j) → Mi a.toList b.toList (out.push b[ib]).toList ia (ib + 1) := fun {out ia ib} hib m hle => by
    rw [Array.toList_push, ← take1 hib]
    refine m.chB lb 1 fun x hx y hy => ?_
    obtain ⟨j, h1, h2, hj, rfl⟩ := mem_ch hx
    obtain ⟨j', h1', hj', rfl⟩ := mem_dr hy
    have : j = ib := by omega
    subst this
    have := hle j' h1' hj'
    rwa [K_at hj, K_at hj'] at this
  have pushA : ∀ {out : Array Keyed} {ia ib : Nat} (hia : ia < a.size), Mi a.toList b.toList out.toList ia ib → (∀ j, ib ≤ j → j < b.size → K a ia ≤ K b j) → Mi a.toList b.toList (out.push a[ia]).toList (ia + 1) ib := fun {out ia ib} hia m hle => by
    rw [Array.toList_push, ← take1 hia]
    refine m.chA la 1 fun x hx y hy => ?_
    obtain ⟨j, h1, h2, hj, rfl⟩ := mem_ch hx
    obtain ⟨j', h1', hj', rfl⟩ := mem_dr hy
    have : j = ia := by omega
    subst this
    have := hle j' h1' hj'
    rwa [K_at hj, K_at hj'] at this
  have fin1 : ∀ {out : Array Keyed} {ia ib : Nat}, Mi a.toList b.toList out.toList ia ib → ib = b.size → Mo a.toList b.toList (out ++ a.extract ia a.size ++ b.extract ib b.size).toList := fun {out ia ib} m e => by
    rw [Array.toList_append, Array.toList_append, ext_all, ext_all]
    exact m.doneB la (by simpa using e)
  have fin2 : ∀ {out : Array Keyed} {ia ib : Nat}, Mi a.toList b.toList out.toList ia ib → ia = a.size → Mo a.toList b.toList (out ++ a.extract ia a.size ++ b.extract ib b.size).toList := fun {out ia ib} m e => by
    rw [Array.toList_append, Array.toList_append, ext_all, ext_all]
    exact m.doneA lb (by simpa using e)
  have finL : ∀ {out : Array Keyed} {ia ib : Nat}, Mi a.toList b.toList out.toList ia ib → ia + 1 = a.size → Mo a.toList b.toList (out ++ b.extract ib b.size ++ a.extract ia a.size).toList := fun {out ia ib} m e => by
    rw [Array.toList_append, Array.toList_append, ext_all, ext_all]
    refine m.last la lb fun x hx y hy => ?_
    obtain ⟨j, h1, hj, rfl⟩ := mem_dr hx
    obtain ⟨j', h1', hj', rfl⟩ := mem_dr hy
    have e2 : j' = a.size - 1 := by omega
    have := M.last j hj
    rwa [← e2, K_at hj, K_at hj'] at this
  refine wpS_bind (wpS_lift (wpAny_rule ⟨rfl, ?_⟩))
  refine wpS_bind (wpS_elem hb1 ?_)
  have m1 : Mi a.toList b.toList (#[b[0]] : Array Keyed).toList 0 1 := pushB (out := #[]) (ia := 0) (ib := 0) hb1 m0 fun j _ hj => Int.le_trans M.first (M.sa.le (Nat.zero_le _) hj)
  refine wpS_ite (fun c => wpS_pure (h _ _ (fin1 m1 (by simpa using c)) Sm.refl)) (fun c1 => ?_)
  refine wpS_ite (fun c => wpS_pure (h _ _ (finL m1 (by simpa using c)) Sm.refl)) (fun c2 => ?_)
  have c1' : ¬ 1 = b.size := by simpa using c1
  have c2' : ¬ 1 = a.size := by simpa using c2
  refine wpS_bind (wpS_get ?_)
  refine wpS_bind (wpS_mono (wpS_forRange (I := fun x c st' => Sm st st' ∧ ∃ (out : Array Keyed) (ia ib mg : Nat), c = (none, out, ia, ib, mg) ∧ Mi a.toList b.toList out.toList ia ib ∧ ia + 1 < a.size ∧ ib < b.size ∧ x + 1 ≤ ia + ib)
    (Q := fun c st' => Sm st st' ∧ ∃ r out ia ib mg, c = (some r, out, ia, ib, mg) ∧ Mo a.toList b.toList r.toList) ?step ?fin ?init) ?post)
  case init => exact ⟨Sm.refl, _, 0, 1, _, rfl, m1, by omega, by omega, by omega⟩
  case fin =>
    rintro c st' ⟨sm, out, ia, ib, mg, rfl, m, a1, a2, a3⟩
    exfalso
    omega
  case post =>
    rintro c st' ⟨sm, r, out, ia, ib, mg, rfl, mo⟩
    exact wpS_pure (h r st' mo sm)
  case step =>
    rintro x c st' _ hx ⟨sm, out, ia, ib, mg, rfl, m, a1, a2, a3⟩
    have hk' : kindOf st' = oneType' := sm.kind.trans hk
    refine wpS_bind (wpS_mono (wpS_forRange (I := fun y c st'' => st'' = st' ∧ ∃ (out : Array Keyed) (ia' ib' ac bc : Nat), c = (none, out, ia', ib', ac, bc) ∧ Mi a.toList b.toList out.toList ia' ib' ∧ ia' + 1 < a.size ∧ ib' < b.size ∧ ia + ib + y ≤ ia' + ib')
      (Q := fun c st'' => st'' = st' ∧ ((∃ r out ia' ib' ac bc, c = (some r, out, ia', ib', ac, bc) ∧ Mo a.toList b.toList r.toList) ∨ ∃ (out : Array Keyed) (ia' ib' ac bc : Nat), c = (none, out, ia', ib', ac, bc) ∧ Mi a.toList b.toList out.toList ia' ib' ∧ ia' + 1 < a.size ∧ ib' < b.size ∧ ia + ib + 1 ≤ ia' + ib')) ?s1 ?f1 ?i1) ?p1)
    case i1 => exact ⟨rfl, out, ia, ib, 0, 0, rfl, m, a1, a2, by omega⟩
    case f1 =>
      rintro c st'' ⟨rfl, out, ia', ib', ac, bc, rfl, m, b1, b2, b3⟩
      exact ⟨rfl, .inr ⟨out, ia', ib', ac, bc, rfl, m, b1, b2, by omega⟩⟩
    case s1 =>
      rintro y c st'' _ hy ⟨rfl, out, ia', ib', ac, bc, rfl, m, b1, b2, b3⟩
      refine wpS_bind (wpS_elem b2 ?_)
      refine wpS_bind (wpS_elem (show ia' < a.size by omega) ?_)
      refine wpS_bind (wpS_lt hk' (ik_at M.kb b2) (ik_at M.ka (show ia' < a.size by omega)) ?_)
      refine wpS_ite (fun c => ?_) (fun c => ?_)
      · have c' : kk b[ib'] < kk a[ia'] := of_decide_eq_true c
        refine wpS_bind (wpS_elem b2 ?_)
        have m' := pushB b2 m fun j h1 h2 => Int.le_trans (by rw [K_at b2, K_at (show ia' < a.size by omega)]; exact Int.le_of_lt c') (M.sa.le h1 h2)
        refine wpS_ite (fun d => wpS_pure ⟨rfl, .inl ⟨_, _, _, _, _, _, rfl, fin1 m' (by simpa using d)⟩⟩) (fun d => ?_)
        have d' : ¬ ib' + 1 = b.size := by simpa using d
        exact wpS_ite (fun e => wpS_pure ⟨rfl, .inr ⟨out.push b[ib'], ia', ib' + 1, 0, bc + 1, rfl, m', b1, by omega, by omega⟩⟩) (fun e => wpS_pure ⟨rfl, out.push b[ib'], ia', ib' + 1, 0, bc + 1, rfl, m', b1, by omega, by omega⟩)
      · have c' : ¬ kk b[ib'] < kk a[ia'] := fun z => c (decide_eq_true z)
        refine wpS_bind (wpS_elem (show ia' < a.size by omega) ?_)
        have m' := pushA (show ia' < a.size by omega) m fun j h1 h2 => Int.le_trans (by rw [K_at b2, K_at (show ia' < a.size by omega)]; omega) (M.sb.le h1 h2)
        refine wpS_ite (fun d => wpS_pure ⟨rfl, .inl ⟨_, _, _, _, _, _, rfl, finL m' (by simpa using d)⟩⟩) (fun d => ?_)
        have d' : ¬ ia' + 1 + 1 = a.size := by simpa using d
        exact wpS_ite (fun e => wpS_pure ⟨rfl, .inr ⟨out.push a[ia'], ia' + 1, ib', ac + 1, 0, rfl, m', by omega, b2, by omega⟩⟩) (fun e => wpS_pure ⟨rfl, out.push a[ia'], ia' + 1, ib', ac + 1, 0, rfl, m', by omega, b2, by omega⟩)
    case p1 =>
      rintro c st'' ⟨rfl, ⟨r, out, ia', ib', ac, bc, rfl, mo⟩ | ⟨out, ia', ib', ac, bc, rfl, m, b1, b2, b3⟩⟩
      · exact wpS_pure ⟨sm, r, _, _, _, _, rfl, mo⟩
      refine wpS_bind (wpS_lift (wpAny_rule ⟨rfl, ?_⟩))
      refine wpS_bind (wpS_mono (wpS_forRange (I := fun y c st'' => Sm st st'' ∧ ∃ (out : Array Keyed) (ia2 ib2 mg2 ac bc : Nat), c = (none, out, ia2, ib2, mg2, ac, bc) ∧ Mi a.toList b.toList out.toList ia2 ib2 ∧ ia2 + 1 < a.size ∧ ib2 < b.size ∧ ia' + ib' ≤ ia2 + ib2)
        (Q := fun c st'' => Sm st st'' ∧ ((∃ r out ia2 ib2 mg2 ac bc, c = (some r, out, ia2, ib2, mg2, ac, bc) ∧ Mo a.toList b.toList r.toList) ∨ ∃ (out : Array Keyed) (ia2 ib2 mg2 ac bc : Nat), c = (none, out, ia2, ib2, mg2, ac, bc) ∧ Mi a.toList b.toList out.toList ia2 ib2 ∧ ia2 + 1 < a.size ∧ ib2 < b.size ∧ ia' + ib' ≤ ia2 + ib2)) ?s2 ?f2 ?i2) ?p2)
      case i2 => exact ⟨sm, out, ia', ib', _, ac, bc, rfl, m, b1, b2, Nat.le_refl _⟩
      case f2 =>
        rintro c st3 ⟨sm3, out, ia2, ib2, mg2, ac, bc, rfl, m, d1, d2, d3⟩
        exact ⟨sm3, .inr ⟨out, ia2, ib2, mg2, ac, bc, rfl, m, d1, d2, d3⟩⟩
      case p2 =>
        rintro c st3 ⟨sm3, ⟨r, out, ia2, ib2, mg2, ac, bc, rfl, mo⟩ | ⟨out, ia2, ib2, mg2, ac, bc, rfl, m, d1, d2, d3⟩⟩
        · exact wpS_pure ⟨sm3, r, _, _, _, _, rfl, mo⟩
        · refine wpS_bind (wpS_modify (wpS_pure ⟨⟨sm3.kind, sm3.arr, sm3.pend, sm3.failed⟩, out, ia2, ib2, mg2 + 1, rfl, m, d1, d2, by omega⟩))
      case s2 =>
        rintro y c st3 _ hy ⟨sm3, out, ia2, ib2, mg2, ac, bc, rfl, m, d1, d2, d3⟩
        refine wpS_ite (fun e => ?_) (fun e => ?_)
        all_goals
          refine wpS_bind (wpS_modify ?_)
          have sm4 := Sm.gal sm3
          refine wpS_bind (wpS_elem d2 ?_)
          refine wpS_bind (wpS_gallop (left := false) (base := ia2) (n := a.size - ia2) (hint := 0) (sm3.kind.trans hk) M.ka (ik_at M.kb d2) (by omega) (M.sa.sub _ _ (by omega)) (by omega) fun k g => ?_)
          obtain ⟨g1, g2, g3⟩ := gal_false g
          refine wpS_ite (fun c => ?_) (fun c => ?_)
          · have mA : Mi a.toList b.toList (out ++ a.extract ia2 (ia2 + k)).toList (ia2 + k) ib2 := by
              rw [Array.toList_append, ext_part]
              refine m.chA la k fun x hx y hy => ?_
              obtain ⟨j, h1, h2, hj, rfl⟩ := mem_ch hx
              obtain ⟨j', h1', hj', rfl⟩ := mem_dr hy
              have e1 := g2 (j - ia2) (by omega)
              rw [show ia2 + (j - ia2) = j by omega, K_at hj] at e1
              have e2 := M.sb.le h1' hj'
              rw [K_at d2, K_at hj'] at e2
              exact Int.le_trans e1 e2
            refine wpS_ite (fun d => wpS_pure ⟨sm4 _, .inl ⟨_, _, _, _, _, _, _, rfl, finL mA (by simpa using d)⟩⟩) (fun d => ?_)
            refine wpS_ite (fun d' => wpS_pure ⟨sm4 _, .inl ⟨_, _, _, _, _, _, _, rfl, fin2 mA (by simpa using d')⟩⟩) (fun d' => ?_)
            have n1 : ¬ ia2 + k + 1 = a.size := by simpa using d
            have n2 : ¬ ia2 + k = a.size := by simpa using d'
            exact wpS_mono (wpS_jA (ib0 := ib2) (ia := ia2 + k) M hk (sm4 _) pushA pushB fin1 finL mA (by omega) d2 fun j h1 h2 => by
              have := g3 (j - ia2) (by omega) (by omega)
              rw [show ia2 + (j - ia2) = j by omega] at this
              rw [K_at d2]
              exact Int.le_of_lt this) fun r st5 hr => by
              have hr' : Jr a b st (ia' + ib') r st5 := Jr.le (by omega) hr
              cases r with
              | done c => exact hr'
              | yield c => exact hr'
          · have k0 : k = 0 := by omega
            subst k0
            exact wpS_mono (wpS_jA (ib0 := ib2) (ia := ia2) M hk (sm4 _) pushA pushB fin1 finL m d1 d2 fun j h1 h2 => by
              have := g3 (j - ia2) (by omega) (by omega)
              rw [show ia2 + (j - ia2) = j by omega] at this
              rw [K_at d2]
              exact Int.le_of_lt this) fun r st5 hr => by
              have hr' : Jr a b st (ia' + ib') r st5 := Jr.le (by omega) hr
              cases r with
              | done c => exact hr'
              | yield c => exact hr'
end
end Sg
set_option maxHeartbeats 4000000
namespace Sg
open PySem PyProof.Rows
noncomputable def mergeHi' : Array Keyed → Array Keyed → StateT SortSt Sem (Array Keyed) := sortPriv% PySem.Builtin.mergeHi
theorem mergeHi'_eq (a b : Array Keyed) : mergeHi' a b = (do
  rule "list.sort.merge-hi"
  let total := a.size + b.size
  let done (out : Array Keyed) (na nb : Nat) := a.extract 0 na ++ b.extract 0 nb ++ out.reverse
  let firstOfB (out : Array Keyed) (na nb : Nat) := b.extract 0 nb ++ a.extract 0 na ++ out.reverse
  let mut na := a.size - 1
  let mut nb := b.size
  let mut out : Array Keyed := #[← elem' a na]
  if na == 0 then return done out na nb
  if nb == 1 then return firstOfB out na nb
  let mut minGallop := gallopOf (← get)
  for _ in [0:total] do
    let mut acount := 0
    let mut bcount := 0
    for _ in [0:total] do
      let some aWins ← lt' (← elem' b (nb - 1)) (← elem' a (na - 1)) | return done out na nb
      if aWins then
        na := na - 1; out := out.push (← elem' a na); acount := acount + 1; bcount := 0
        if na == 0 then return done out na nb
        if acount ≥ minGallop then break
      else
        nb := nb - 1; out := out.push (← elem' b nb); bcount := bcount + 1; acount := 0
        if nb == 1 then return firstOfB out na nb
        if bcount ≥ minGallop then break
    rule "list.sort.gallop"
    minGallop := minGallop + 1
    for _ in [0:total] do
      if minGallop > 1 then minGallop := minGallop - 1
      modify fun s => setGal s minGallop
      let some at_ ← gallop' false (← elem' b (nb - 1)) a 0 na (na - 1) | return done out na nb
      let k := na - at_
      acount := k
      if k > 0 then
        out := out ++ (a.extract at_ na).reverse; na := at_
        if na == 0 then return done out na nb
      nb := nb - 1; out := out.push (← elem' b nb)
      if nb == 1 then return firstOfB out na nb
      let some at_ ← gallop' true (← elem' a (na - 1)) b 0 nb (nb - 1) | return done out na nb
      let k := nb - at_
      bcount := k
      if k > 0 then
        out := out ++ (b.extract at_ nb).reverse; nb := at_
        if nb == 1 then return firstOfB out na nb
        if nb == 0 then return done out na nb
      na := na - 1; out := out.push (← elem' a na)
      if na == 0 then return done out na nb
      if acount < 7 && bcount < 7 then break
    minGallop := minGallop + 1
    modify fun s => setGal s minGallop
  unsupported "internal:list.sort.merge-bound") := rfl
structure Hi (la lb : List Keyed) (r : List Keyed) (na nb : Nat) : Prop where
  perm : r.Perm (la.drop na ++ lb.drop nb)
  srt : Ls r
  le : ∀ x ∈ r, ∀ y, y ∈ la.take na ∨ y ∈ lb.take nb → kk y ≤ kk x
theorem drop_split {l : List Keyed} {i j : Nat} (h : i ≤ j) : l.drop i = (l.drop i).take (j - i) ++ l.drop j := by
  have e : l.drop j = (l.drop i).drop (j - i) := by rw [List.drop_drop, show i + (j - i) = j by omega]
  rw [e, List.take_append_drop]
theorem take_lt {l : List Keyed} {i j : Nat} (h : i ≤ j) {x : Keyed} (hx : x ∈ l.take i) : x ∈ l.take j := by
  rw [← Nat.min_eq_left h, ← List.take_take] at hx
  exact List.mem_of_mem_take hx
theorem mid_take {l : List Keyed} {i j : Nat} (h : i ≤ j) {x : Keyed} (hx : x ∈ (l.drop i).take (j - i)) : x ∈ l.take j := by
  have e : (l.drop i).take (j - i) = (l.take j).drop i := by rw [List.drop_take]
  rw [e] at hx
  exact List.mem_of_mem_drop hx
theorem ls_mid {l : List Keyed} (h : Ls l) {i : Nat} : ∀ x ∈ l.drop i, ∀ y ∈ l.take i, kk y ≤ kk x := by
  rw [← List.take_append_drop i l] at h
  intro x hx y hy
  exact (List.pairwise_append.mp h).2.2 y hy x hx
theorem Hi.chA {la lb r : List Keyed} {na nb : Nat} (h : Hi la lb r na nb) (sa : Ls la) {i : Nat} (hi : i ≤ na) (hk : ∀ x ∈ (la.drop i).take (na - i), ∀ y ∈ lb.take nb, kk y ≤ kk x) : Hi la lb ((la.drop i).take (na - i) ++ r) i nb where
  perm := by
    have e := drop_split (l := la) hi
    generalize (la.drop i).take (na - i) = chk at *
    rw [e, List.append_assoc]
    exact h.perm.append_left _
  srt := List.pairwise_append.mpr ⟨(sa.sublist (List.drop_sublist _ _)).sublist (List.take_sublist _ _), h.srt, fun x hx y hy => h.le y hy x (.inl (mid_take hi hx))⟩
  le := fun x hx y hy => by
    rcases List.mem_append.mp hx with z | z
    · rcases hy with w | w
      · exact ls_mid sa x (List.mem_of_mem_take z) y w
      · exact hk x z y w
    · rcases hy with w | w
      · exact h.le x z y (.inl (take_lt hi w))
      · exact h.le x z y (.inr w)
theorem Hi.chB {la lb r : List Keyed} {na nb : Nat} (h : Hi la lb r na nb) (sb : Ls lb) {i : Nat} (hi : i ≤ nb) (hk : ∀ x ∈ (lb.drop i).take (nb - i), ∀ y ∈ la.take na, kk y ≤ kk x) : Hi la lb ((lb.drop i).take (nb - i) ++ r) na i where
  perm := by
    have e := drop_split (l := lb) hi
    generalize (lb.drop i).take (nb - i) = chk at *
    refine (h.perm.append_left _).trans ?_
    rw [e, ← List.append_assoc, ← List.append_assoc]
    exact List.perm_append_comm.append_right _
  srt := List.pairwise_append.mpr ⟨(sb.sublist (List.drop_sublist _ _)).sublist (List.take_sublist _ _), h.srt, fun x hx y hy => h.le y hy x (.inr (mid_take hi hx))⟩
  le := fun x hx y hy => by
    rcases List.mem_append.mp hx with z | z
    · rcases hy with w | w
      · exact hk x z y w
      · exact ls_mid sb x (List.mem_of_mem_take z) y w
    · rcases hy with w | w
      · exact h.le x z y (.inl w)
      · exact h.le x z y (.inr (take_lt hi w))
theorem Hi.done0 {la lb r : List Keyed} {na nb : Nat} (h : Hi la lb r na nb) (sa : Ls la) (sb : Ls lb) (e : na = 0) : Mo la lb (la.take na ++ lb.take nb ++ r) := by
  subst e
  have m := h.chB sb (i := 0) (Nat.zero_le _) (by intro x _ y hy; cases hy)
  rw [List.drop_zero, Nat.sub_zero] at m
  rw [List.take_zero, List.nil_append]
  exact ⟨by have p := m.perm; rwa [List.drop_zero, List.drop_zero] at p, m.srt⟩
theorem Hi.doneB {la lb r : List Keyed} {na nb : Nat} (h : Hi la lb r na nb) (sa : Ls la) (sb : Ls lb) (e : nb = 0) : Mo la lb (la.take na ++ lb.take nb ++ r) := by
  subst e
  have m := h.chA sa (i := 0) (Nat.zero_le _) (by intro x _ y hy; cases hy)
  rw [List.drop_zero, Nat.sub_zero] at m
  rw [List.take_zero, List.append_nil]
  exact ⟨by have p := m.perm; rwa [List.drop_zero, List.drop_zero] at p, m.srt⟩
theorem Hi.firstB {la lb r : List Keyed} {na nb : Nat} (h : Hi la lb r na nb) (sa : Ls la) (sb : Ls lb) (hl : ∀ x ∈ la.take na, ∀ y ∈ lb.take nb, kk y ≤ kk x) : Mo la lb (lb.take nb ++ la.take na ++ r) := by
  have m := h.chA sa (i := 0) (Nat.zero_le _) (by rw [List.drop_zero, Nat.sub_zero]; exact hl)
  rw [List.drop_zero, Nat.sub_zero] at m
  have m2 := m.chB sb (i := 0) (Nat.zero_le _) (by intro x _ y hy; cases hy)
  rw [List.drop_zero, Nat.sub_zero] at m2
  rw [List.append_assoc]
  exact ⟨by have p := m2.perm; rwa [List.drop_zero, List.drop_zero] at p, m2.srt⟩
theorem ext_0 (a : Array Keyed) (n : Nat) : (a.extract 0 n).toList = a.toList.take n := by
  rw [Array.toList_extract]
  simp [List.extract]
theorem ext_ij (a : Array Keyed) (i n : Nat) : (a.extract i n).toList = (a.toList.drop i).take (n - i) := by
  rw [Array.toList_extract]
theorem mem_tk {a : Array Keyed} {n : Nat} {y : Keyed} (h : y ∈ a.toList.take n) : ∃ j, j < n ∧ ∃ hj : j < a.size, y = a[j] := by
  obtain ⟨m, hm, e⟩ := List.mem_iff_getElem.mp h
  rw [List.getElem_take] at e
  simp at hm
  exact ⟨m, by omega, by omega, by simpa using e.symm⟩
noncomputable abbrev St3 := Option (Array Keyed) × Nat × Nat × Array Keyed × Nat × Nat × Nat
noncomputable def kB (a b : Array Keyed) (mg ac i bc : Nat) (nb : Nat) (out : Array Keyed) : StateT SortSt Sem (ForInStep St3) := do
  let na := i - 1
  let x ← elem' a na
  let out := out.push x
  if (na == 0) = true then pure (ForInStep.done (some (a.extract 0 na ++ b.extract 0 nb ++ out.reverse), na, nb, out, mg, ac, bc))
  else if (decide (ac < 7) && decide (bc < 7)) = true then pure (ForInStep.done (none, na, nb, out, mg, ac, bc)) else pure (ForInStep.yield (none, na, nb, out, mg, ac, bc))
noncomputable def kA (a b : Array Keyed) (mg ac bc nb0 : Nat) (na : Nat) (out : Array Keyed) : StateT SortSt Sem (ForInStep St3) := do
  let nb := nb0 - 1
  let x ← elem' b nb
  let out := out.push x
  if (nb == 1) = true then pure (ForInStep.done (some (b.extract 0 nb ++ a.extract 0 na ++ out.reverse), na, nb, out, mg, ac, bc))
  else do
    let y ← elem' a (na - 1)
    let r ← gallop' true y b 0 nb (nb - 1)
    match r with
    | some at_ =>
      let k := nb - at_
      if k > 0 then
        let out := out ++ (b.extract at_ nb).reverse
        let nb := at_
        if (nb == 1) = true then pure (ForInStep.done (some (b.extract 0 nb ++ a.extract 0 na ++ out.reverse), na, nb, out, mg, ac, k))
        else if (nb == 0) = true then pure (ForInStep.done (some (a.extract 0 na ++ b.extract 0 nb ++ out.reverse), na, nb, out, mg, ac, k))
        else kB a b mg ac na k nb out
      else kB a b mg ac na k nb out
    | _ => pure (ForInStep.done (some (a.extract 0 na ++ b.extract 0 nb ++ out.reverse), na, nb, out, mg, ac, bc))
noncomputable def Kr (a b : Array Keyed) (st : SortSt) (n0 : Nat) (r : ForInStep St3) (st' : SortSt) : Prop := match r with
  | .done c' => Sm st st' ∧ ((∃ r na nb out mg2 ac bc, c' = (some r, na, nb, out, mg2, ac, bc) ∧ Mo a.toList b.toList r.toList) ∨ ∃ (na nb : Nat) (out : Array Keyed) (mg2 ac bc : Nat), c' = (none, na, nb, out, mg2, ac, bc) ∧ Hi a.toList b.toList out.toList.reverse na nb ∧ 1 ≤ na ∧ 2 ≤ nb ∧ na ≤ a.size ∧ nb ≤ b.size ∧ na + nb ≤ n0)
  | .yield c' => Sm st st' ∧ ∃ (na nb : Nat) (out : Array Keyed) (mg2 ac bc : Nat), c' = (none, na, nb, out, mg2, ac, bc) ∧ Hi a.toList b.toList out.toList.reverse na nb ∧ 1 ≤ na ∧ 2 ≤ nb ∧ na ≤ a.size ∧ nb ≤ b.size ∧ na + nb ≤ n0
theorem Kr.le {a b : Array Keyed} {st : SortSt} {n0 n1 : Nat} (h : n0 ≤ n1) {r : ForInStep St3} {st' : SortSt} (k : Kr a b st n0 r st') : Kr a b st n1 r st' := by
  cases r with
  | done c =>
    obtain ⟨s1, k | ⟨na, nb, out, g, ac, bc, e, m, p1, p2, p3, p4, p5⟩⟩ := k
    · exact ⟨s1, .inl k⟩
    · exact ⟨s1, .inr ⟨na, nb, out, g, ac, bc, e, m, p1, p2, p3, p4, by omega⟩⟩
  | yield c =>
    obtain ⟨s1, na, nb, out, g, ac, bc, e, m, p1, p2, p3, p4, p5⟩ := k
    exact ⟨s1, na, nb, out, g, ac, bc, e, m, p1, p2, p3, p4, by omega⟩
structure Hq (a b : Array Keyed) : Prop where
  pA : ∀ {out : Array Keyed} {na nb : Nat} (h : na - 1 < a.size), 1 ≤ na → Hi a.toList b.toList out.toList.reverse na nb → (∀ j, j < nb → j < b.size → K b j ≤ K a (na - 1)) → Hi a.toList b.toList (out.push a[na - 1]).toList.reverse (na - 1) nb
  pB : ∀ {out : Array Keyed} {na nb : Nat} (h : nb - 1 < b.size), 1 ≤ nb → Hi a.toList b.toList out.toList.reverse na nb → (∀ j, j < na → j < a.size → K a j ≤ K b (nb - 1)) → Hi a.toList b.toList (out.push b[nb - 1]).toList.reverse na (nb - 1)
  f0 : ∀ {out : Array Keyed} {na nb : Nat}, Hi a.toList b.toList out.toList.reverse na nb → na = 0 ∨ nb = 0 → Mo a.toList b.toList (a.extract 0 na ++ b.extract 0 nb ++ out.reverse).toList
  fB : ∀ {out : Array Keyed} {na nb : Nat}, Hi a.toList b.toList out.toList.reverse na nb → nb = 1 → Mo a.toList b.toList (b.extract 0 nb ++ a.extract 0 na ++ out.reverse).toList
theorem hq_of {a b : Array Keyed} (M : Mp a b) : Hq a b where
  pA := fun {out na nb} h h1 m hle => by
    have la := si_ls M.sa
    have := m.chA la (i := na - 1) (by omega) (by
      rw [show na - (na - 1) = 1 by omega, take1 h]
      intro x hx y hy
      rw [List.mem_singleton.mp hx]
      obtain ⟨j, h1, hj, rfl⟩ := mem_tk hy
      have := hle j h1 hj
      rwa [K_at hj, K_at h] at this)
    rw [show na - (na - 1) = 1 by omega, take1 h] at this
    rw [Array.toList_push, List.reverse_append]
    exact this
  pB := fun {out na nb} h h1 m hle => by
    have lb := si_ls M.sb
    have := m.chB lb (i := nb - 1) (by omega) (by
      rw [show nb - (nb - 1) = 1 by omega, take1 h]
      intro x hx y hy
      rw [List.mem_singleton.mp hx]
      obtain ⟨j, h1, hj, rfl⟩ := mem_tk hy
      have := hle j h1 hj
      rwa [K_at hj, K_at h] at this)
    rw [show nb - (nb - 1) = 1 by omega, take1 h] at this
    rw [Array.toList_push, List.reverse_append]
    exact this
  f0 := fun {out na nb} m e => by
    rw [Array.toList_append, Array.toList_append, ext_0, ext_0, Array.toList_reverse]
    rcases e with e | e
    · exact m.done0 (si_ls M.sa) (si_ls M.sb) e
    · exact m.doneB (si_ls M.sa) (si_ls M.sb) e
  fB := fun {out na nb} m e => by
    rw [Array.toList_append, Array.toList_append, ext_0, ext_0, Array.toList_reverse]
    refine m.firstB (si_ls M.sa) (si_ls M.sb) fun x hx y hy => ?_
    obtain ⟨j, h1, hj, rfl⟩ := mem_tk hx
    obtain ⟨j', h1', hj', rfl⟩ := mem_tk hy
    have : j' = 0 := by omega
    subst this
    have := Int.le_trans M.first (M.sa.le (Nat.zero_le j) hj)
    rwa [K_at hj, K_at hj'] at this
section
variable {prog : Program} {w : World} {A : Around} {E : Value → Shared → Prop} {s : Shared}
theorem wpS_kB {st st4 : SortSt} {a b : Array Keyed} {mg ac i bc nb : Nat} {out : Array Keyed} (q : Hq a b) (sm : Sm st st4) (m : Hi a.toList b.toList out.toList.reverse i nb) (hi : 1 ≤ i) (hia : i ≤ a.size) (hnb : 2 ≤ nb) (hbs : nb ≤ b.size) (hle : ∀ j, j < nb → j < b.size → K b j ≤ K a (i - 1)) :
    wpS (model prog w) A E s (kB a b mg ac i bc nb out) (Kr a b st (i + nb)) st4 := by
  unfold kB
  have hlt : i - 1 < a.size := by omega
  refine wpS_bind (wpS_elem hlt ?_)
  have mD := q.pA hlt hi m hle
  refine wpS_ite (fun c => wpS_pure ⟨sm, .inl ⟨_, _, _, _, _, _, _, rfl, q.f0 mD (.inl (by simpa using c))⟩⟩) (fun c => ?_)
  have c3 : ¬ i - 1 = 0 := by simpa using c
  exact wpS_ite (fun e => wpS_pure ⟨sm, .inr ⟨i - 1, nb, _, mg, ac, bc, rfl, mD, by omega, hnb, by omega, hbs, by omega⟩⟩) (fun e => wpS_pure ⟨sm, i - 1, nb, _, mg, ac, bc, rfl, mD, by omega, hnb, by omega, hbs, by omega⟩)
theorem wpS_kA {st st4 : SortSt} {a b : Array Keyed} {mg ac bc nb0 na : Nat} {out : Array Keyed} (M : Mp a b) (q : Hq a b) (hk : kindOf st = oneType') (sm : Sm st st4) (m : Hi a.toList b.toList out.toList.reverse na nb0) (hi : 1 ≤ na) (hia : na ≤ a.size) (hnb : 2 ≤ nb0) (hbs : nb0 ≤ b.size) (hle : ∀ j, j < na → j < a.size → K a j ≤ K b (nb0 - 1)) :
    wpS (model prog w) A E s (kA a b mg ac bc nb0 na out) (Kr a b st (na + nb0)) st4 := by
  unfold kA
  have hlt : nb0 - 1 < b.size := by omega
  have halt : na - 1 < a.size := by omega
  have lb := si_ls M.sb
  refine wpS_bind (wpS_elem hlt ?_)
  have mB := q.pB hlt (by omega) m hle
  refine wpS_ite (fun c => wpS_pure ⟨sm, .inl ⟨_, _, _, _, _, _, _, rfl, q.fB mB (by simpa using c)⟩⟩) (fun c => ?_)
  have c1 : ¬ nb0 - 1 = 1 := by simpa using c
  refine wpS_bind (wpS_elem halt ?_)
  refine wpS_bind (wpS_gallop (left := true) (base := 0) (n := nb0 - 1) (hint := nb0 - 1 - 1) (sm.kind.trans hk) M.kb (ik_at M.ka halt) (by omega) (M.sb.sub _ _ (by omega)) (by omega) fun k g => ?_)
  obtain ⟨g1, g2, g3⟩ := gal_true g
  dsimp only
  have hle2 : ∀ j, j < k → j < b.size → K b j ≤ K a (na - 1) := fun j h1 h2 => by
    have := g2 j h1
    rw [Nat.zero_add] at this
    rw [K_at halt]
    exact Int.le_of_lt this
  refine wpS_ite (fun c => ?_) (fun c => ?_)
  · have mC : Hi a.toList b.toList (out.push b[nb0 - 1] ++ (b.extract k (nb0 - 1)).reverse).toList.reverse na k := by
      rw [Array.toList_append, List.reverse_append, Array.toList_reverse, List.reverse_reverse, ext_ij]
      refine mB.chB lb (by omega) fun x hx y hy => ?_
      obtain ⟨j, h1, h2, hj, rfl⟩ := mem_ch hx
      obtain ⟨j', h1', hj', rfl⟩ := mem_tk hy
      have e1 := g3 j (by omega) (by omega)
      rw [Nat.zero_add, K_at hj] at e1
      have e2 := M.sa.le (show j' ≤ na - 1 by omega) halt
      rw [K_at halt, K_at hj'] at e2
      exact Int.le_trans e2 e1
    refine wpS_ite (fun d => wpS_pure ⟨sm, .inl ⟨_, _, _, _, _, _, _, rfl, q.fB mC (by simpa using d)⟩⟩) (fun d => ?_)
    refine wpS_ite (fun d' => wpS_pure ⟨sm, .inl ⟨_, _, _, _, _, _, _, rfl, q.f0 mC (.inr (by simpa using d'))⟩⟩) (fun d' => ?_)
    have d1 : ¬ k = 1 := by simpa using d
    have d2 : ¬ k = 0 := by simpa using d'
    exact wpS_mono (wpS_kB q sm mC hi hia (by omega) (by omega) hle2) fun r st5 hr => hr.le (by omega)
  · have k0 : k = nb0 - 1 := by omega
    subst k0
    exact wpS_mono (wpS_kB q sm mB hi hia (by omega) (by omega) hle2) fun r st5 hr => hr.le (by omega)
theorem wpS_mergeHi {st : SortSt} {a b : Array Keyed} {Q : Array Keyed → SortSt → Prop} (hk : kindOf st = oneType') (M : Mp a b) (h : ∀ out st', Mo a.toList b.toList out.toList → Sm st st' → Q out st') : wpS (model prog w) A E s (mergeHi' a b) Q st := by
  rw [mergeHi'_eq]
  have la := si_ls M.sa
  have lb := si_ls M.sb
  have hb1 := M.b1
  have ha1 := M.a1
  have q := hq_of M
  have m0 : Hi a.toList b.toList (#[] : Array Keyed).toList.reverse a.size b.size := ⟨by simp, List.Pairwise.nil, fun x hx => by cases hx⟩
  refine wpS_bind (wpS_lift (wpAny_rule ⟨rfl, ?_⟩))
  have hl1 : a.size - 1 < a.size := by omega
  refine wpS_bind (wpS_elem hl1 ?_)
  have m1 : Hi a.toList b.toList (#[a[a.size - 1]] : Array Keyed).toList.reverse (a.size - 1) b.size := q.pA (out := #[]) hl1 ha1 m0 fun j _ hj => M.last j hj
  refine wpS_ite (fun c => wpS_pure (h _ _ (q.f0 m1 (.inl (by simpa using c))) Sm.refl)) (fun c1 => ?_)
  refine wpS_ite (fun c => wpS_pure (h _ _ (q.fB m1 (by simpa using c)) Sm.refl)) (fun c2 => ?_)
  have c1' : ¬ a.size - 1 = 0 := by simpa using c1
  have c2' : ¬ b.size = 1 := by simpa using c2
  refine wpS_bind (wpS_get ?_)
  refine wpS_bind (wpS_mono (wpS_forRange (I := fun x c st' => Sm st st' ∧ ∃ (na nb : Nat) (out : Array Keyed) (mg : Nat), c = (none, na, nb, out, mg) ∧ Hi a.toList b.toList out.toList.reverse na nb ∧ 1 ≤ na ∧ 2 ≤ nb ∧ na ≤ a.size ∧ nb ≤ b.size ∧ x + 1 + na + nb ≤ a.size + b.size)
    (Q := fun c st' => Sm st st' ∧ ∃ r na nb out mg, c = (some r, na, nb, out, mg) ∧ Mo a.toList b.toList r.toList) ?step ?fin ?init) ?post)
  case init => exact ⟨Sm.refl, a.size - 1, b.size, _, _, rfl, m1, by omega, by omega, by omega, by omega, by omega⟩
  case fin =>
    rintro c st' ⟨sm, na, nb, out, mg, rfl, m, a1, a2, a3, a4, a5⟩
    exfalso
    omega
  case post =>
    rintro c st' ⟨sm, r, na, nb, out, mg, rfl, mo⟩
    exact wpS_pure (h r st' mo sm)
  case step =>
    rintro x c st' _ hx ⟨sm, na, nb, out, mg, rfl, m, a1, a2, a3, a4, a5⟩
    have hk' : kindOf st' = oneType' := sm.kind.trans hk
    refine wpS_bind (wpS_mono (wpS_forRange (I := fun y c st'' => st'' = st' ∧ ∃ (na' nb' : Nat) (out : Array Keyed) (ac bc : Nat), c = (none, na', nb', out, ac, bc) ∧ Hi a.toList b.toList out.toList.reverse na' nb' ∧ 1 ≤ na' ∧ 2 ≤ nb' ∧ na' ≤ a.size ∧ nb' ≤ b.size ∧ na' + nb' + y ≤ na + nb)
      (Q := fun c st'' => st'' = st' ∧ ((∃ r na' nb' out ac bc, c = (some r, na', nb', out, ac, bc) ∧ Mo a.toList b.toList r.toList) ∨ ∃ (na' nb' : Nat) (out : Array Keyed) (ac bc : Nat), c = (none, na', nb', out, ac, bc) ∧ Hi a.toList b.toList out.toList.reverse na' nb' ∧ 1 ≤ na' ∧ 2 ≤ nb' ∧ na' ≤ a.size ∧ nb' ≤ b.size ∧ na' + nb' + 1 ≤ na + nb)) ?s1 ?f1 ?i1) ?p1)
    case i1 => exact ⟨rfl, na, nb, out, 0, 0, rfl, m, a1, a2, a3, a4, by omega⟩
    case f1 =>
      rintro c st'' ⟨rfl, na', nb', out, ac, bc, rfl, m, b1, b2, b3, b4, b5⟩
      exact ⟨rfl, .inr ⟨na', nb', out, ac, bc, rfl, m, b1, b2, b3, b4, by omega⟩⟩
    case s1 =>
      rintro y c st'' _ hy ⟨rfl, na', nb', out, ac, bc, rfl, m, b1, b2, b3, b4, b5⟩
      have hbl : nb' - 1 < b.size := by omega
      have hal : na' - 1 < a.size := by omega
      refine wpS_bind (wpS_elem hbl ?_)
      refine wpS_bind (wpS_elem hal ?_)
      refine wpS_bind (wpS_lt hk' (ik_at M.kb hbl) (ik_at M.ka hal) ?_)
      refine wpS_ite (fun c => ?_) (fun c => ?_)
      · have c' : kk b[nb' - 1] < kk a[na' - 1] := of_decide_eq_true c
        refine wpS_bind (wpS_elem hal ?_)
        have m' := q.pA hal b1 m fun j h1 h2 => Int.le_trans (M.sb.le (show j ≤ nb' - 1 by omega) hbl) (by rw [K_at hbl, K_at hal]; exact Int.le_of_lt c')
        refine wpS_ite (fun d => wpS_pure ⟨rfl, .inl ⟨_, _, _, _, _, _, rfl, q.f0 m' (.inl (by simpa using d))⟩⟩) (fun d => ?_)
        have d' : ¬ na' - 1 = 0 := by simpa using d
        exact wpS_ite (fun e => wpS_pure ⟨rfl, .inr ⟨na' - 1, nb', out.push a[na' - 1], ac + 1, 0, rfl, m', by omega, b2, by omega, b4, by omega⟩⟩) (fun e => wpS_pure ⟨rfl, na' - 1, nb', out.push a[na' - 1], ac + 1, 0, rfl, m', by omega, b2, by omega, b4, by omega⟩)
      · have c' : ¬ kk b[nb' - 1] < kk a[na' - 1] := fun z => c (decide_eq_true z)
        refine wpS_bind (wpS_elem hbl ?_)
        have m' := q.pB hbl (by omega) m fun j h1 h2 => Int.le_trans (M.sa.le (show j ≤ na' - 1 by omega) hal) (by rw [K_at hbl, K_at hal]; omega)
        refine wpS_ite (fun d => wpS_pure ⟨rfl, .inl ⟨_, _, _, _, _, _, rfl, q.fB m' (by simpa using d)⟩⟩) (fun d => ?_)
        have d' : ¬ nb' - 1 = 1 := by simpa using d
        exact wpS_ite (fun e => wpS_pure ⟨rfl, .inr ⟨na', nb' - 1, out.push b[nb' - 1], 0, bc + 1, rfl, m', b1, by omega, b3, by omega, by omega⟩⟩) (fun e => wpS_pure ⟨rfl, na', nb' - 1, out.push b[nb' - 1], 0, bc + 1, rfl, m', b1, by omega, b3, by omega, by omega⟩)
    case p1 =>
      rintro c st'' ⟨rfl, ⟨r, na', nb', out, ac, bc, rfl, mo⟩ | ⟨na', nb', out, ac, bc, rfl, m, b1, b2, b3, b4, b5⟩⟩
      · exact wpS_pure ⟨sm, r, _, _, _, _, rfl, mo⟩
      refine wpS_bind (wpS_lift (wpAny_rule ⟨rfl, ?_⟩))
      refine wpS_bind (wpS_mono (wpS_forRange (I := fun y c st'' => Sm st st'' ∧ ∃ (n2 m2 : Nat) (out : Array Keyed) (mg2 ac bc : Nat), c = (none, n2, m2, out, mg2, ac, bc) ∧ Hi a.toList b.toList out.toList.reverse n2 m2 ∧ 1 ≤ n2 ∧ 2 ≤ m2 ∧ n2 ≤ a.size ∧ m2 ≤ b.size ∧ n2 + m2 ≤ na' + nb')
        (Q := fun c st'' => Sm st st'' ∧ ((∃ r n2 m2 out mg2 ac bc, c = (some r, n2, m2, out, mg2, ac, bc) ∧ Mo a.toList b.toList r.toList) ∨ ∃ (n2 m2 : Nat) (out : Array Keyed) (mg2 ac bc : Nat), c = (none, n2, m2, out, mg2, ac, bc) ∧ Hi a.toList b.toList out.toList.reverse n2 m2 ∧ 1 ≤ n2 ∧ 2 ≤ m2 ∧ n2 ≤ a.size ∧ m2 ≤ b.size ∧ n2 + m2 ≤ na' + nb')) ?s2 ?f2 ?i2) ?p2)
      case i2 => exact ⟨sm, na', nb', out, _, ac, bc, rfl, m, b1, b2, b3, b4, Nat.le_refl _⟩
      case f2 =>
        rintro c st3 ⟨sm3, n2, m2, out, mg2, ac, bc, rfl, m, d1, d2, d3, d4, d5⟩
        exact ⟨sm3, .inr ⟨n2, m2, out, mg2, ac, bc, rfl, m, d1, d2, d3, d4, d5⟩⟩
      case p2 =>
        rintro c st3 ⟨sm3, ⟨r, n2, m2, out, mg2, ac, bc, rfl, mo⟩ | ⟨n2, m2, out, mg2, ac, bc, rfl, m, d1, d2, d3, d4, d5⟩⟩
        · exact wpS_pure ⟨sm3, r, _, _, _, _, rfl, mo⟩
        · exact wpS_bind (wpS_modify (wpS_pure ⟨sm3.gal _, n2, m2, out, mg2 + 1, rfl, m, d1, d2, d3, d4, by omega⟩))
      case s2 =>
        rintro y c st3 _ hy ⟨sm3, n2, m2, out, mg2, ac, bc, rfl, m, d1, d2, d3, d4, d5⟩
        have hbl : m2 - 1 < b.size := by omega
        refine wpS_ite (fun e => ?_) (fun e => ?_)
        all_goals
          refine wpS_bind (wpS_modify ?_)
          have sm4 := Sm.gal sm3
          refine wpS_bind (wpS_elem hbl ?_)
          refine wpS_bind (wpS_gallop (left := false) (base := 0) (n := n2) (hint := n2 - 1) (sm3.kind.trans hk) M.ka (ik_at M.kb hbl) (by omega) (M.sa.sub _ _ (by omega)) (by omega) fun k g => ?_)
          obtain ⟨g1, g2, g3⟩ := gal_false g
          have hle : ∀ j, j < k → j < a.size → K a j ≤ K b (m2 - 1) := fun j h1 h2 => by
            have := g2 j h1
            rw [Nat.zero_add] at this
            rw [K_at hbl]
            exact this
          refine wpS_ite (fun c => ?_) (fun c => ?_)
          · have mA : Hi a.toList b.toList (out ++ (a.extract k n2).reverse).toList.reverse k m2 := by
              rw [Array.toList_append, List.reverse_append, Array.toList_reverse, List.reverse_reverse, ext_ij]
              refine m.chA la (by omega) fun x hx y hy => ?_
              obtain ⟨j, h1, h2, hj, rfl⟩ := mem_ch hx
              obtain ⟨j', h1', hj', rfl⟩ := mem_tk hy
              have e1 := g3 j (by omega) (by omega)
              rw [Nat.zero_add, K_at hj] at e1
              have e2 := M.sb.le (show j' ≤ m2 - 1 by omega) hbl
              rw [K_at hbl, K_at hj'] at e2
              exact Int.le_trans e2 (Int.le_of_lt e1)
            refine wpS_ite (fun d => wpS_pure ⟨sm4 _, .inl ⟨_, _, _, _, _, _, _, rfl, q.f0 mA (.inl (by simpa using d))⟩⟩) (fun d => ?_)
            have n1 : ¬ k = 0 := by simpa using d
            exact wpS_mono (wpS_kA (nb0 := m2) (na := k) M q hk (sm4 _) mA (by omega) (by omega) d2 d4 hle) fun r st5 hr => by
              have hr' : Kr a b st (na' + nb') r st5 := Kr.le (by omega) hr
              cases r with
              | done c => exact hr'
              | yield c => exact hr'
          · have k0 : k = n2 := by
              have c' : ¬ n2 - k > 0 := c
              omega
            subst k0
            exact wpS_mono (wpS_kA (nb0 := m2) (na := k) M q hk (sm4 _) m d1 d3 d2 d4 hle) fun r st5 hr => by
              have hr' : Kr a b st (na' + nb') r st5 := Kr.le (by omega) hr
              cases r with
              | done c => exact hr'
              | yield c => exact hr'
end
end Sg
set_option maxHeartbeats 4000000
namespace Sg
open PySem PyProof.Rows
theorem si_iff {xs : Array Keyed} {lo n : Nat} (h : lo + n ≤ xs.size) : SI xs lo n ↔ Ls ((xs.toList.drop lo).take n) := by
  have at' : ∀ {i : Nat} (hi : i < ((xs.toList.drop lo).take n).length), K xs (lo + i) = kk ((xs.toList.drop lo).take n)[i] := fun {i} hi => by
    have hi' : lo + i < xs.size := by simp at hi; omega
    rw [K_at hi']
    congr 1
    simp
  constructor
  · intro s
    refine List.pairwise_iff_getElem.mpr fun i j hi hj hij => ?_
    have := s i j (Nat.le_of_lt hij) (by simp at hj; omega)
    rwa [at' hi, at' hj] at this
  · intro s i j hij hj
    have hl : ((xs.toList.drop lo).take n).length = n := by simp; omega
    by_cases e : i = j
    · subst e; exact Int.le_refl _
    · rw [at' (show i < _ by omega), at' (show j < _ by omega)]
      exact List.pairwise_iff_getElem.mp s i j _ _ (by omega)
theorem si_congr {xs ys : Array Keyed} {lo n : Nat} (h : SI xs lo n) (e : ∀ k, lo ≤ k → k < lo + n → ys[k]? = xs[k]?) : SI ys lo n := fun i j hij hj => by
  have k1 : K ys (lo + i) = K xs (lo + i) := K_congr (e _ (by omega) (by omega))
  have k2 : K ys (lo + j) = K xs (lo + j) := K_congr (e _ (by omega) (by omega))
  rw [k1, k2]
  exact h i j hij hj
theorem fold_set (at_ : Nat) : ∀ (l : List Keyed) (n : Nat) (xs : Array Keyed), at_ + n + l.length ≤ xs.size →
    ((l.zipIdx n).foldl (fun a (x : Keyed × Nat) => a.setIfInBounds (at_ + x.2) x.1) xs).toList = xs.toList.take (at_ + n) ++ l ++ xs.toList.drop (at_ + n + l.length)
  | [], n, xs, h => by simp
  | p :: l, n, xs, h => by
    rw [List.length_cons] at h
    rw [List.zipIdx_cons, List.foldl_cons, fold_set at_ l (n + 1) _ (by rw [Array.size_setIfInBounds]; omega), Array.toList_setIfInBounds]
    have e1 : (xs.toList.set (at_ + n) p).take (at_ + (n + 1)) = xs.toList.take (at_ + n) ++ [p] := by
      rw [show at_ + (n + 1) = at_ + n + 1 by omega, List.take_set, List.take_add_one, List.getElem?_eq_getElem (by simp; omega)]
      have hl : (xs.toList.take (at_ + n)).length = at_ + n := by simp; omega
      show (xs.toList.take (at_ + n) ++ [_]).set (at_ + n) p = _
      rw [List.set_append_right (h := by omega), hl, Nat.sub_self]
      rfl
    have e2 : (xs.toList.set (at_ + n) p).drop (at_ + (n + 1) + l.length) = xs.toList.drop (at_ + n + (l.length + 1)) := by
      rw [List.drop_set_of_lt (by omega)]
      congr 1
      omega
    rw [e1, e2, List.length_cons]
    simp
noncomputable abbrev Pd := Nat × Nat × Nat
noncomputable def Stk (xs : Array Keyed) : List Pd → Nat → Nat → Prop
  | [], a, b => a = b
  | p :: r, a, b => p.1 = a ∧ 1 ≤ p.2.1 ∧ SI xs p.1 p.2.1 ∧ Stk xs r (a + p.2.1) b
theorem Stk.le {xs : Array Keyed} : ∀ {l : List Pd} {a b : Nat}, Stk xs l a b → a + l.length ≤ b
  | [], a, b, h => by rw [show a = b from h]; simp
  | p :: r, a, b, ⟨h1, h2, h3, h4⟩ => by
    have := h4.le
    rw [List.length_cons]
    omega
theorem Stk.congr {xs ys : Array Keyed} : ∀ {l : List Pd} {a b : Nat}, Stk xs l a b → (∀ k, a ≤ k → k < b → ys[k]? = xs[k]?) → Stk ys l a b
  | [], _, _, h, _ => h
  | p :: r, a, b, ⟨h1, h2, h3, h4⟩, e => by
    have := h4.le
    exact ⟨h1, h2, si_congr h3 fun k k1 k2 => e k (by omega) (by omega), h4.congr fun k k1 k2 => e k (by omega) k2⟩
theorem Stk.snoc {xs : Array Keyed} {lo n q : Nat} : ∀ {l : List Pd} {a : Nat}, Stk xs l a lo → 1 ≤ n → SI xs lo n → Stk xs (l ++ [(lo, n, q)]) a (lo + n)
  | [], a, h, h1, h2 => by
    have h' : a = lo := h
    subst h'
    exact ⟨rfl, h1, h2, rfl⟩
  | p :: r, a, ⟨k1, k2, k3, k4⟩, h1, h2 => ⟨k1, k2, k3, k4.snoc h1 h2⟩
theorem Stk.pow {xs : Array Keyed} : ∀ {l l' : List Pd} {a b : Nat}, Stk xs l a b → l'.map (fun p => (p.1, p.2.1)) = l.map (fun p => (p.1, p.2.1)) → Stk xs l' a b
  | [], [], _, _, h, _ => h
  | [], _ :: _, _, _, _, e => by cases e
  | _ :: _, [], _, _, _, e => by cases e
  | p :: r, p' :: r', a, b, ⟨h1, h2, h3, h4⟩, e => by
    rw [List.map_cons, List.map_cons] at e
    injection e with e1 e2
    injection e1 with e3 e4
    show p'.1 = a ∧ 1 ≤ p'.2.1 ∧ SI xs p'.1 p'.2.1 ∧ Stk xs r' (a + p'.2.1) b
    rw [e3, e4]
    exact ⟨h1, h2, h3, h4.pow e2⟩
theorem Stk.two {xs : Array Keyed} : ∀ {l : List Pd} {a b i : Nat} {p q : Pd}, Stk xs l a b → l[i]? = some p → l[i + 1]? = some q → q.1 = p.1 + p.2.1 ∧ SI xs p.1 p.2.1 ∧ SI xs q.1 q.2.1 ∧ 1 ≤ p.2.1 ∧ 1 ≤ q.2.1 ∧ p.1 + p.2.1 + q.2.1 ≤ b ∧ a ≤ p.1 ∧
    ∀ ys : Array Keyed, (∀ k, k < p.1 ∨ p.1 + p.2.1 + q.2.1 ≤ k → ys[k]? = xs[k]?) → SI ys p.1 (p.2.1 + q.2.1) → Stk ys ((l.set i (p.1, p.2.1 + q.2.1, p.2.2)).eraseIdx (i + 1)) a b
  | [], _, _, _, _, _, _, h, _ => by simp at h
  | x :: r, a, b, 0, p, q, ⟨h1, h2, h3, h4⟩, e1, e2 => by
    have e1' : x = p := by simpa using e1
    subst e1'
    match r, h4, e2 with
    | y :: r, ⟨k1, k2, k3, k4⟩, e2 =>
      have e2' : y = q := by simpa using e2
      subst e2'
      have := k4.le
      refine ⟨by omega, h3, k3, h2, k2, by omega, by omega, fun ys hy hs => ?_⟩
      show Stk ys ((x.1, x.2.1 + y.2.1, x.2.2) :: r) a b
      refine ⟨h1, by show 1 ≤ x.2.1 + y.2.1; omega, hs, ?_⟩
      show Stk ys r (a + (x.2.1 + y.2.1)) b
      rw [← Nat.add_assoc]
      exact k4.congr fun k k1 k2 => hy k (.inr (by omega))
  | x :: r, a, b, i + 1, p, q, ⟨h1, h2, h3, h4⟩, e1, e2 => by
    rw [List.getElem?_cons_succ] at e1 e2
    obtain ⟨z1, z2, z3, z4, z5, z6, z7, z8⟩ := h4.two e1 e2
    refine ⟨z1, z2, z3, z4, z5, z6, by omega, fun ys hy hs => ?_⟩
    exact ⟨h1, h2, si_congr h3 fun k k1 k2 => hy k (by omega), z8 ys hy hs⟩
theorem Stk.one {xs : Array Keyed} {l : List Pd} {b : Nat} (h : Stk xs l 0 b) (hl : l.length ≤ 1) (hb : 1 ≤ b) : SI xs 0 b := by
  match l, h, hl with
  | [], h, _ => exact absurd (show 0 = b from h) (by omega)
  | [p], ⟨h1, h2, h3, h4⟩, _ =>
    have e : 0 + p.2.1 = b := h4
    rw [h1, show p.2.1 = b by omega] at h3
    exact h3
  | _ :: _ :: _, _, hl => simp at hl
theorem mergeAt'_eq (i : Nat) : mergeAt' i = (do
  let s ← get
  let (some (sa, na, power), some (sb, nb, _)) := ((pendingOf s)[i]?, (pendingOf s)[i + 1]?) | unsupported "internal:list.sort.pending"
  set (setPending s (((pendingOf s).setIfInBounds i (sa, na + nb, power)).eraseIdxIfInBounds (i + 1)))
  let some k ← gallop' false (← elem' (arrOf s) sb) (arrOf s) sa na 0 | return false
  let (sa, na) := (sa + k, na - k)
  if na == 0 then return true
  let some nb ← gallop' true (← elem' (arrOf s) (sa + na - 1)) (arrOf s) sb nb (nb - 1) | return false
  if nb == 0 then return true
  let x := (arrOf s).extract sa sb
  let y := (arrOf s).extract sb (sb + nb)
  let merged ← if na ≤ nb then mergeLo' x y else mergeHi' x y
  modify fun s => setArr s (merged.toList.zipIdx.foldl (fun a (p, j) => a.setIfInBounds (sa + j) p) (arrOf s))
  return (failedOf (← get)).isNone) := rfl
section
variable {prog : Program} {w : World} {A : Around} {E : Value → Shared → Prop} {s : Shared} {a₀ : Array Keyed}
theorem wpS_set {st st' : SortSt} {Q : PUnit → SortSt → Prop} (h : Q ⟨⟩ st') : wpS (model prog w) A E s (set st' : StateT SortSt Sem PUnit) Q st := by
  unfold wpS; rw [StateT.run_set]; exact wpAny_pure ⟨rfl, h⟩
theorem ik_perm {a b : Array Keyed} (h : IntKeys b) (p : a.Perm b) : IntKeys a := fun x hx => h x ((Array.perm_iff_toList_perm.mp p).mem_iff.mp hx)
theorem ik_ext {a : Array Keyed} (h : IntKeys a) (i j : Nat) : IntKeys (a.extract i j) := fun x hx => h x (by
  rw [ext_ij] at hx
  exact List.mem_of_mem_drop (List.mem_of_mem_take hx))
theorem K_ext {a : Array Keyed} {i j k : Nat} (hj : j ≤ a.size) (hk : i + k < j) : K (a.extract i j) k = K a (i + k) := by
  refine K_congr ?_
  rw [Array.getElem?_extract]
  have : k < min j a.size - i := by omega
  simp [this]
theorem wpS_mergeAt {st : SortSt} {i : Nat} {p q : Pd} {hi : Nat} {Q : Bool → SortSt → Prop} (h0 : IntKeys a₀) (hB : SB a₀ st) (hs : Stk (arrOf st) (pendingOf st).toList 0 hi) (hh : hi ≤ a₀.size) (e1 : (pendingOf st)[i]? = some p) (e2 : (pendingOf st)[i + 1]? = some q)
    (h : ∀ st', SB a₀ st' → Stk (arrOf st') (pendingOf st').toList 0 hi → (pendingOf st').size + 1 = (pendingOf st).size → (∀ k, hi ≤ k → (arrOf st')[k]? = (arrOf st)[k]?) → Q true st') : wpS (model prog w) A E s (mergeAt' i) Q st := by
  obtain ⟨sa, na, pw⟩ := p
  obtain ⟨sb, nb, pw2⟩ := q
  obtain ⟨z1, z2, z3, z4, z5, z6, z7, z8⟩ := hs.two (i := i) (by rw [Array.getElem?_toList]; exact e1) (by rw [Array.getElem?_toList]; exact e2)
  dsimp only at z1 z2 z3 z4 z5 z6 z7 z8
  have hsz := hB.size
  rw [mergeAt'_eq]
  refine wpS_bind (wpS_get ?_)
  rw [e1, e2]
  refine wpS_bind (wpS_set ?_)
  have hiL : i + 1 < (pendingOf st).size := by
    by_cases c : i + 1 < (pendingOf st).size
    · exact c
    · rw [Array.getElem?_eq_none (by omega)] at e2; cases e2
  have newp : (((pendingOf st).setIfInBounds i (sa, na + nb, pw)).eraseIdxIfInBounds (i + 1)).toList = ((pendingOf st).toList.set i (sa, na + nb, pw)).eraseIdx (i + 1) := by
    rw [Array.eraseIdxIfInBounds, dif_pos (by rw [Array.size_setIfInBounds]; exact hiL), Array.toList_eraseIdx, Array.toList_setIfInBounds]
  have newz : (((pendingOf st).setIfInBounds i (sa, na + nb, pw)).eraseIdxIfInBounds (i + 1)).size + 1 = (pendingOf st).size := by
    rw [Array.eraseIdxIfInBounds, dif_pos (by rw [Array.size_setIfInBounds]; exact hiL), Array.size_eraseIdx, Array.size_setIfInBounds]
    omega
  have same : SI (arrOf st) sa (na + nb) → Q true (setPending st (((pendingOf st).setIfInBounds i (sa, na + nb, pw)).eraseIdxIfInBounds (i + 1))) := fun si => by
    refine h _ ⟨hB.perm, hB.kind, hB.failed⟩ ?_ newz fun k _ => rfl
    show Stk (arrOf st) (((pendingOf st).setIfInBounds i (sa, na + nb, pw)).eraseIdxIfInBounds (i + 1)).toList 0 hi
    rw [newp]
    exact z8 _ (fun k _ => rfl) si
  have ka : IntKeys (arrOf st) := ik_perm h0 hB.perm
  have hsb : sb < (arrOf st).size := by omega
  have kind2 : kindOf (setPending st (((pendingOf st).setIfInBounds i (sa, na + nb, pw)).eraseIdxIfInBounds (i + 1))) = oneType' := hB.kind
  refine wpS_bind (wpS_elem hsb ?_)
  refine wpS_bind (wpS_gallop (left := false) (base := sa) (n := na) (hint := 0) kind2 ka (ik_at ka hsb) (by omega) z2 (by omega) fun k g => ?_)
  obtain ⟨g1, g2, g3⟩ := gal_false g
  rw [← K_at hsb] at g2 g3
  refine wpS_ite (fun c => wpS_pure (same fun x y hxy hy => ?_)) (fun c => ?_)
  · have c' : na - k = 0 := by simpa using c
    by_cases y1 : y < na
    · exact z2 x y hxy y1
    · have e : sa + y = sb + (y - na) := by omega
      rw [e]
      by_cases x1 : x < na
      · have a1 := g2 x (by omega)
        have a2 := z3 0 (y - na) (Nat.zero_le _) (by omega)
        rw [Nat.add_zero] at a2
        exact Int.le_trans a1 a2
      · rw [show sa + x = sb + (x - na) by omega]
        exact z3 _ _ (by omega) (by omega)
  have c' : ¬ na - k = 0 := by simpa using c
  have hla : sa + k + (na - k) - 1 < (arrOf st).size := by omega
  refine wpS_bind (wpS_elem hla ?_)
  refine wpS_bind (wpS_gallop (left := true) (base := sb) (n := nb) (hint := nb - 1) kind2 ka (ik_at ka hla) (by omega) z3 (by omega) fun k2 g' => ?_)
  obtain ⟨q1, q2, q3⟩ := gal_true g'
  rw [← K_at hla] at q2 q3
  have ela : sa + k + (na - k) - 1 = sa + (na - 1) := by omega
  rw [ela] at q2 q3
  refine wpS_ite (fun d => wpS_pure (same fun x y hxy hy => ?_)) (fun d => ?_)
  · have d' : k2 = 0 := by simpa using d
    by_cases y1 : y < na
    · exact z2 x y hxy y1
    · have e : sa + y = sb + (y - na) := by omega
      rw [e]
      by_cases x1 : x < na
      · have a1 := z2 x (na - 1) (by omega) (by omega)
        have a2 := q3 (y - na) (by omega) (by omega)
        exact Int.le_trans a1 a2
      · rw [show sa + x = sb + (x - na) by omega]
        exact z3 _ _ (by omega) (by omega)
  have d' : ¬ k2 = 0 := by simpa using d
  have sx : ((arrOf st).extract (sa + k) sb).size = na - k := by rw [Array.size_extract]; omega
  have sy : ((arrOf st).extract sb (sb + k2)).size = k2 := by rw [Array.size_extract]; omega
  have M : Mp ((arrOf st).extract (sa + k) sb) ((arrOf st).extract sb (sb + k2)) := by
    refine ⟨ik_ext ka _ _, ik_ext ka _ _, fun x y hxy hy => ?_, fun x y hxy hy => ?_, by omega, by omega, ?_, fun x hx => ?_⟩
    · rw [sx] at hy
      rw [Nat.zero_add, Nat.zero_add, K_ext (by omega) (by omega), K_ext (by omega) (by omega), show sa + k + x = sa + (k + x) by omega, show sa + k + y = sa + (k + y) by omega]
      exact z2 _ _ (by omega) (by omega)
    · rw [sy] at hy
      rw [Nat.zero_add, Nat.zero_add, K_ext (by omega) (by omega), K_ext (by omega) (by omega)]
      exact z3 _ _ hxy (by omega)
    · rw [K_ext (by omega) (by omega), K_ext (by omega) (by omega), Nat.add_zero, show sa + k + 0 = sa + k by omega]
      exact Int.le_of_lt (g3 k (Nat.le_refl _) (by omega))
    · rw [sy] at hx
      rw [sx, K_ext (by omega) (by omega), K_ext (by omega) (by omega), show sa + k + (na - k - 1) = sa + (na - 1) by omega]
      exact Int.le_of_lt (q2 x hx)
  have fin : ∀ (out : Array Keyed) (st' : SortSt), Mo ((arrOf st).extract (sa + k) sb).toList ((arrOf st).extract sb (sb + k2)).toList out.toList → Sm (setPending st (((pendingOf st).setIfInBounds i (sa, na + nb, pw)).eraseIdxIfInBounds (i + 1))) st' →
      wpS (model prog w) A E s (do
        modify fun s => setArr s (out.toList.zipIdx.foldl (fun a (x : Keyed × Nat) => a.setIfInBounds (sa + k + x.2) x.1) (arrOf s))
        return (failedOf (← get)).isNone) Q st' := fun out st' mo sm => by
    refine wpS_bind (wpS_modify ?_)
    refine wpS_bind (wpS_get (wpS_pure ?_))
    have earr : arrOf st' = arrOf st := sm.arr
    have lo' : out.toList.length = na - k + k2 := by
      rw [mo.1.length_eq, List.length_append]
      simp
      omega
    have lo2 : out.size = na - k + k2 := by rw [← Array.length_toList]; exact lo'
    have tl := fold_set (sa + k) out.toList 0 (arrOf st) (by omega)
    generalize hys : out.toList.zipIdx.foldl (fun a (x : Keyed × Nat) => a.setIfInBounds (sa + k + x.2) x.1) (arrOf st) = ys at *
    rw [Nat.add_zero, lo'] at tl
    rw [earr, hys]
    have fl : failedOf (setArr st' ys) = none := sm.failed.trans hB.failed
    show Q (failedOf (setArr st' ys)).isNone _
    rw [fl]
    generalize hL : (arrOf st).toList = L at *
    have lL : L.length = a₀.size := by rw [← hL, Array.length_toList, hsz]
    have eX : ((arrOf st).extract (sa + k) sb).toList = (L.drop (sa + k)).take (na - k) := by rw [ext_ij, hL, show sb - (sa + k) = na - k by omega]
    have eY : ((arrOf st).extract sb (sb + k2)).toList = (L.drop sb).take k2 := by rw [ext_ij, hL, show sb + k2 - sb = k2 by omega]
    rw [eX, eY] at mo
    have split1 : L = L.take (sa + k) ++ ((L.drop (sa + k)).take (na - k) ++ (L.drop sb).take k2) ++ L.drop (sa + k + (na - k + k2)) := by
      have p1 : L = L.take (sa + k) ++ L.drop (sa + k) := (List.take_append_drop _ _).symm
      have p2 : L.drop (sa + k) = (L.drop (sa + k)).take (na - k) ++ L.drop sb := by
        have := drop_split (l := L) (i := sa + k) (j := sb) (by omega)
        rwa [show sb - (sa + k) = na - k by omega] at this
      have p3 : L.drop sb = (L.drop sb).take k2 ++ L.drop (sa + k + (na - k + k2)) := by
        have := drop_split (l := L) (i := sb) (j := sb + k2) (by omega)
        rwa [show sb + k2 - sb = k2 by omega, show sb + k2 = sa + k + (na - k + k2) by omega] at this
      conv => lhs; rw [p1, p2, p3]
      simp
    have permY : ys.Perm (arrOf st) := by
      refine Array.perm_iff_toList_perm.mpr ?_
      rw [tl, hL]
      conv => rhs; rw [split1]
      exact (mo.1.append_left _).append_right _
    have lt : (L.take (sa + k)).length = sa + k := by simp; omega
    have outk : ∀ j, j < sa + k ∨ sa + k + (na - k + k2) ≤ j → ys[j]? = (arrOf st)[j]? := fun j hj => by
      rw [← Array.getElem?_toList, ← Array.getElem?_toList, tl, hL]
      rcases hj with hj | hj
      · rw [List.append_assoc, List.getElem?_append_left (by omega), List.getElem?_take_of_lt hj]
      · rw [List.getElem?_append_right (by simp; omega), List.getElem?_drop]
        congr 1
        simp
        omega
    have ysz : ys.size = a₀.size := by rw [permY.size_eq, hsz]
    have siY : SI ys sa (na + nb) := by
      refine (si_iff (by omega)).mpr ?_
      have eD : (ys.toList.drop sa).take (na + nb) = (L.drop sa).take k ++ out.toList ++ (L.drop (sb + k2)).take (nb - k2) := by
        rw [tl]
        have q1 : (L.take (sa + k) ++ out.toList ++ L.drop (sa + k + (na - k + k2))).drop sa = (L.drop sa).take k ++ out.toList ++ L.drop (sa + k + (na - k + k2)) := by
          rw [List.append_assoc, List.drop_append_of_le_length (by omega), List.drop_take, show sa + k - sa = k by omega, List.append_assoc]
        rw [q1]
        have l1 : ((L.drop sa).take k).length = k := by simp; omega
        rw [List.take_append, List.take_of_length_le (by simp; omega)]
        congr 1
        rw [show sa + k + (na - k + k2) = sb + k2 by omega]
        congr 1
        simp
        omega
      rw [eD]
      have lsA : Ls ((L.drop sa).take na) := by rw [← hL]; exact (si_iff (by omega)).mp z2
      have lsB : Ls ((L.drop sb).take nb) := by rw [← hL]; exact (si_iff (by omega)).mp z3
      have memX : ∀ v ∈ out.toList, v ∈ (L.drop (sa + k)).take (na - k) ∨ v ∈ (L.drop sb).take k2 := fun v hv => List.mem_append.mp (mo.1.mem_iff.mp hv)
      have at_ : ∀ {v : Keyed} {i0 n0 : Nat}, v ∈ (L.drop i0).take n0 → ∃ j, i0 ≤ j ∧ j < i0 + n0 ∧ ∃ hj : j < (arrOf st).size, v = (arrOf st)[j] := fun {v i0 n0} hv => by
        rw [← hL] at hv
        exact mem_ch hv
      refine List.pairwise_append.mpr ⟨List.pairwise_append.mpr ⟨?_, mo.2, fun x hx y hy => ?_⟩, ?_, fun x hx y hy => ?_⟩
      · have : (L.drop sa).take k = ((L.drop sa).take na).take k := by rw [List.take_take, Nat.min_eq_left (by omega)]
        rw [this]
        exact lsA.sublist (List.take_sublist _ _)
      · obtain ⟨j, h1, h2, hj, rfl⟩ := at_ hx
        have ex := g2 (j - sa) (by omega)
        rw [show sa + (j - sa) = j by omega, K_at hj] at ex
        rcases memX y hy with z | z
        · obtain ⟨j', h1', h2', hj', rfl⟩ := at_ z
          have := z2 (j - sa) (j' - sa) (by omega) (by omega)
          rwa [show sa + (j - sa) = j by omega, show sa + (j' - sa) = j' by omega, K_at hj, K_at hj'] at this
        · obtain ⟨j', h1', h2', hj', rfl⟩ := at_ z
          have := z3 0 (j' - sb) (Nat.zero_le _) (by omega)
          rw [Nat.add_zero, show sb + (j' - sb) = j' by omega, K_at hj'] at this
          exact Int.le_trans ex this
      · have : (L.drop (sb + k2)).take (nb - k2) = ((L.drop sb).take nb).drop k2 := by rw [List.drop_take, List.drop_drop]
        rw [this]
        exact lsB.sublist (List.drop_sublist _ _)
      · obtain ⟨j', h1', h2', hj', rfl⟩ := at_ hy
        have ey := q3 (j' - sb) (by omega) (by omega)
        rw [show sb + (j' - sb) = j' by omega, K_at hj'] at ey
        rcases List.mem_append.mp hx with hx | hx
        · obtain ⟨j, h1, h2, hj, rfl⟩ := at_ hx
          have := z2 (j - sa) (na - 1) (by omega) (by omega)
          rw [show sa + (j - sa) = j by omega, K_at hj] at this
          exact Int.le_trans this ey
        · rcases memX x hx with z | z
          · obtain ⟨j, h1, h2, hj, rfl⟩ := at_ z
            have := z2 (j - sa) (na - 1) (by omega) (by omega)
            rw [show sa + (j - sa) = j by omega, K_at hj] at this
            exact Int.le_trans this ey
          · obtain ⟨j, h1, h2, hj, rfl⟩ := at_ z
            have := z3 (j - sb) (j' - sb) (by omega) (by omega)
            rwa [show sb + (j - sb) = j by omega, show sb + (j' - sb) = j' by omega, K_at hj, K_at hj'] at this
    refine h _ ⟨permY.trans hB.perm, sm.kind.trans kind2, fl⟩ ?_ ?_ fun j hj => outk j (.inr (by omega))
    · show Stk ys (pendingOf st').toList 0 hi
      rw [show pendingOf st' = _ from sm.pend]
      show Stk ys (((pendingOf st).setIfInBounds i (sa, na + nb, pw)).eraseIdxIfInBounds (i + 1)).toList 0 hi
      rw [newp]
      exact z8 ys (fun j hj => outk j (by omega)) siY
    · show (pendingOf st').size + 1 = _
      rw [show pendingOf st' = _ from sm.pend]
      exact newz
  refine wpS_ite (fun e => wpS_bind ?_) (fun e => wpS_bind ?_)
  · exact wpS_mergeLo kind2 M fun out st' mo sm => fin out st' mo sm
  · exact wpS_mergeHi kind2 M fun out st' mo sm => fin out st' mo sm
end
end Sg
set_option maxHeartbeats 4000000
namespace Sg
open PySem PyProof.Rows
noncomputable def jpP (lo n : Nat) : StateT SortSt Sem (ForInStep (Option Unit × Nat)) := do
  modify fun s => setPending s ((pendingOf s).push (lo, n, 0))
  pure (ForInStep.yield (none, lo + n))
noncomputable def aft (size lo n : Nat) : StateT SortSt Sem (ForInStep (Option Unit × Nat)) := do
  let s0 ← get
  match (pendingOf s0).back? with
  | some (s1, n1, _) =>
    let r ← forIn [0:size] ((none, ()) : Option Unit × Unit) fun _ _ => do
      let s2 ← get
      match (if (pendingOf s2).size > 1 then (pendingOf s2)[(pendingOf s2).size - 2]? else none) with
      | some (_, _, older) =>
        if older ≤ power' size (2 * s1 + n1) (2 * s1 + n1 + n1 + n) size then pure (ForInStep.done (none, ()))
        else do
          let ok ← mergeAt' ((pendingOf s2).size - 2)
          if (!ok) = true then pure (ForInStep.done (some (), ())) else pure (ForInStep.yield (none, ()))
      | _ => pure (ForInStep.done (none, ()))
    match r.fst with
    | some r => pure (ForInStep.done (some r, lo))
    | none => do
      modify fun s => setPending s ((pendingOf s).modify ((pendingOf s).size - 1) fun (st, len, _) => (st, len, power' size (2 * s1 + n1) (2 * s1 + n1 + n1 + n) size))
      jpP lo n
  | _ => jpP lo n
theorem mod_map (p : Array Pd) (pw : Nat) : ((p.modify (p.size - 1) fun (st, len, _) => (st, len, pw)).toList.map fun q => (q.1, q.2.1)) = p.toList.map fun q => (q.1, q.2.1) := by
  refine List.ext_getElem? fun i => ?_
  rw [List.getElem?_map, List.getElem?_map, Array.getElem?_toList, Array.getElem?_toList, Array.getElem?_modify]
  split
  · cases p[i]? <;> rfl
  · rfl
section
variable {prog : Program} {w : World} {A : Around} {E : Value → Shared → Prop} {s : Shared} {a₀ : Array Keyed}
theorem wpS_congr {α : Type} {m m' : StateT SortSt Sem α} {Q : α → SortSt → Prop} {st : SortSt} (e : m = m') (h : wpS (model prog w) A E s m' Q st) : wpS (model prog w) A E s m Q st := by rw [e]; exact h
noncomputable def Rn (a₀ : Array Keyed) (x lo n : Nat) (r : ForInStep (Option Unit × Nat)) (st' : SortSt) : Prop := r = .yield (none, lo + n) ∧ SB a₀ st' ∧ Stk (arrOf st') (pendingOf st').toList 0 (lo + n)
theorem wpS_jpP {st : SortSt} {x lo n : Nat} (n1 : 1 ≤ n) (hB : SB a₀ st) (si : SI (arrOf st) lo n) (hs : Stk (arrOf st) (pendingOf st).toList 0 lo) : wpS (model prog w) A E s (jpP lo n) (Rn a₀ x lo n) st := by
  unfold jpP
  refine wpS_bind (wpS_modify (wpS_pure ⟨rfl, ⟨hB.perm, hB.kind, hB.failed⟩, ?_⟩))
  show Stk (arrOf st) ((pendingOf st).push (lo, n, 0)).toList 0 (lo + n)
  rw [Array.toList_push]
  exact hs.snoc n1 si
theorem wpS_aft {st : SortSt} {x lo n : Nat} (h0 : IntKeys a₀) (n1 : 1 ≤ n) (hn : lo + n ≤ a₀.size) (hB : SB a₀ st) (si : SI (arrOf st) lo n) (hs : Stk (arrOf st) (pendingOf st).toList 0 lo) : wpS (model prog w) A E s (aft a₀.size lo n) (Rn a₀ x lo n) st := by
  unfold aft
  refine wpS_bind (wpS_get ?_)
  cases hb : (pendingOf st).back? with
  | none => exact wpS_jpP n1 hB si hs
  | some q =>
    obtain ⟨s1, m1, pw0⟩ := q
    dsimp only
    generalize power' a₀.size (2 * s1 + m1) (2 * s1 + m1 + m1 + n) a₀.size = pw
    refine wpS_bind (wpS_mono (wpS_forRange (I := fun _ c st' => c = (none, ()) ∧ SB a₀ st' ∧ SI (arrOf st') lo n ∧ Stk (arrOf st') (pendingOf st').toList 0 lo) (Q := fun c st' => c = (none, ()) ∧ SB a₀ st' ∧ SI (arrOf st') lo n ∧ Stk (arrOf st') (pendingOf st').toList 0 lo) ?step (fun c st' hh => hh) ⟨rfl, hB, si, hs⟩) ?post)
    case step =>
      rintro y c st' _ hy ⟨rfl, hB', si', hs'⟩
      refine wpS_bind (wpS_get ?_)
      by_cases c : (pendingOf st').size > 1
      · rw [if_pos c]
        have e1 : (pendingOf st')[(pendingOf st').size - 2]? = some (pendingOf st')[(pendingOf st').size - 2] := getElem?_pos _ _ (by omega)
        have e2 : (pendingOf st')[(pendingOf st').size - 2 + 1]? = some (pendingOf st')[(pendingOf st').size - 2 + 1] := getElem?_pos _ _ (by omega)
        rw [e1]
        generalize hq : (pendingOf st')[(pendingOf st').size - 2] = q at *
        obtain ⟨u1, u2, u3⟩ := q
        dsimp only
        refine wpS_ite (fun d => wpS_pure ⟨rfl, hB', si', hs'⟩) (fun d => ?_)
        refine wpS_bind (wpS_mergeAt h0 hB' hs' (by omega) e1 e2 fun st2 b2 stk2 _ out2 => ?_)
        rw [if_neg (by decide)]
        exact wpS_pure ⟨rfl, b2, si_congr si' fun k k1 _ => out2 k k1, stk2⟩
      · rw [if_neg c]
        exact wpS_pure ⟨rfl, hB', si', hs'⟩
    case post =>
      rintro c st' ⟨rfl, hB', si', hs'⟩
      dsimp only
      refine wpS_bind (wpS_modify ?_)
      refine wpS_jpP n1 ⟨hB'.perm, hB'.kind, hB'.failed⟩ si' ?_
      exact hs'.pow (mod_map _ _)
theorem wpS_sortRunsG {st : SortSt} {Q : Unit → SortSt → Prop} (h0 : IntKeys a₀) (hB : SB a₀ st) (hp : pendingOf st = #[]) (h1 : 1 ≤ a₀.size)
    (h : ∀ st', (arrOf st').Perm a₀ → failedOf st' = none → SI (arrOf st') 0 a₀.size → Q () st') : wpS (model prog w) A E s sortRuns' Q st := by
  rw [sortRuns'_eq]
  refine wpS_bind (wpS_get ?_)
  have hsz := hB.size
  rw [hsz]
  refine wpS_bind (wpS_mono (wpS_forRange (I := fun x c st' => ∃ lo, c = (none, lo) ∧ lo ≤ a₀.size ∧ x ≤ lo ∧ SB a₀ st' ∧ Stk (arrOf st') (pendingOf st').toList 0 lo)
    (Q := fun c st' => c = (none, a₀.size) ∧ SB a₀ st' ∧ Stk (arrOf st') (pendingOf st').toList 0 a₀.size) ?step ?fin ?init) ?post)
  case init => exact ⟨0, rfl, Nat.zero_le _, Nat.le_refl _, hB, by rw [hp]; exact rfl⟩
  case fin =>
    rintro c st' ⟨lo, rfl, l1, l2, hB', hs⟩
    have : lo = a₀.size := by omega
    subst this
    exact ⟨rfl, hB', hs⟩
  case step =>
    rintro x c st' _ hx ⟨lo, rfl, l1, l2, hB', hs⟩
    refine wpS_ite (fun c => ?_) (fun c => ?_)
    · have c' : lo ≥ a₀.size := c
      have : lo = a₀.size := by omega
      subst this
      exact wpS_pure ⟨rfl, hB', hs⟩
    have hlt : lo < a₀.size := by
      have c' : ¬ lo ≥ a₀.size := c
      omega
    refine wpS_bind (wpS_countRunG h0 (lo := lo) (nrem := a₀.size - lo) (by omega) (by omega) hB' fun m st2 hc => ?_)
    obtain ⟨hB2, m1, m2, si2, bef2, pd2, _⟩ := hc
    have hs2 : Stk (arrOf st2) (pendingOf st2).toList 0 lo := by
      rw [pd2]
      exact hs.congr fun k _ k2 => bef2 k k2
    refine wpS_ite (fun c2 => ?_) (fun c2 => ?_)
    · refine wpS_bind (wpS_lift (wpAny_rule ⟨rfl, ?_⟩))
      have hf : m ≤ min (a₀.size - lo) (minRun' a₀.size a₀.size 0) := by
        have c3 : m < minRun' a₀.size a₀.size 0 := c2
        omega
      refine wpS_bind (wpS_binG (lo := lo) (n := min (a₀.size - lo) (minRun' a₀.size a₀.size 0)) (ok := m) h0 (by omega) hf hB2 si2 fun st3 hB3 si3 bef3 pd3 _ => ?_)
      refine wpS_ite (fun d => absurd d (by decide)) (fun d => ?_)
      have hs3 : Stk (arrOf st3) (pendingOf st3).toList 0 lo := by
        rw [pd3]
        exact hs2.congr fun k _ k2 => bef3 k k2
      refine wpS_congr (m' := aft a₀.size lo (min (a₀.size - lo) (minRun' a₀.size a₀.size 0))) ?_ ?_
      · unfold aft jpP
        dsimp only
        congr 1
        funext s0
        cases (pendingOf s0).back? with
        | none => rfl
        | some q =>
          obtain ⟨s1, m1, pw0⟩ := q
          dsimp only
          congr 1
          funext r
          cases r.fst <;> rfl
      exact wpS_mono (wpS_aft (x := x) (lo := lo) (n := min (a₀.size - lo) (minRun' a₀.size a₀.size 0)) h0 (by omega) (by omega) hB3 si3 hs3) fun r st4 hr => by
        obtain ⟨rfl, b4, k4⟩ := hr
        exact ⟨_, rfl, by omega, by omega, b4, k4⟩
    · refine wpS_congr (m' := aft a₀.size lo m) ?_ ?_
      · unfold aft jpP
        dsimp only
        congr 1
        funext s0
        cases (pendingOf s0).back? with
        | none => rfl
        | some q =>
          obtain ⟨s1, m1, pw0⟩ := q
          dsimp only
          congr 1
          funext r
          cases r.fst <;> rfl
      exact wpS_mono (wpS_aft (x := x) (lo := lo) (n := m) h0 m1 (by omega) hB2 si2 hs2) fun r st4 hr => by
        obtain ⟨rfl, b4, k4⟩ := hr
        exact ⟨_, rfl, by omega, by omega, b4, k4⟩
  case post =>
    rintro c st' ⟨rfl, hB', hs⟩
    dsimp only
    have ple : (pendingOf st').size ≤ a₀.size := by
      have := hs.le
      rw [Array.length_toList] at this
      omega
    refine wpS_bind (wpS_mono (wpS_forRange (I := fun x c st'' => c = (none, ()) ∧ SB a₀ st'' ∧ Stk (arrOf st'') (pendingOf st'').toList 0 a₀.size ∧ ((pendingOf st'').size + x ≤ a₀.size ∨ (pendingOf st'').size ≤ 1))
      (Q := fun c st'' => c = (none, ()) ∧ SB a₀ st'' ∧ Stk (arrOf st'') (pendingOf st'').toList 0 a₀.size ∧ (pendingOf st'').size ≤ 1) ?st2 ?fi2 ?in2) ?po2)
    case in2 => exact ⟨rfl, hB', hs, .inl (by omega)⟩
    case fi2 =>
      rintro c st2 ⟨rfl, b2, k2, l2⟩
      exact ⟨rfl, b2, k2, by omega⟩
    case po2 =>
      rintro c st2 ⟨rfl, b2, k2, l2⟩
      exact wpS_pure (h st2 b2.perm b2.failed (k2.one (by rw [Array.length_toList]; exact l2) h1))
    case st2 =>
      rintro x c st2 _ hx ⟨rfl, b2, k2, l2⟩
      refine wpS_bind (wpS_get ?_)
      refine wpS_ite (fun d => wpS_pure ⟨rfl, b2, k2, d⟩) (fun d => ?_)
      have d' : ¬ (pendingOf st2).size ≤ 1 := d
      obtain ⟨i, ei, hi⟩ : ∃ i, (if Option.any (fun x => decide (x < Option.elim ((pendingOf st2)[(pendingOf st2).size - 2 + 1]?) 0 fun x => x.2.1)) (if (pendingOf st2).size - 2 > 0 then Option.map (fun x => x.2.1) ((pendingOf st2)[(pendingOf st2).size - 2 - 1]?) else none) = true then (pendingOf st2).size - 2 - 1 else (pendingOf st2).size - 2) = i ∧ i + 1 < (pendingOf st2).size := ⟨_, rfl, by
        generalize Option.any _ _ = bb
        cases bb
        · rw [if_neg Bool.false_ne_true]; omega
        · rw [if_pos rfl]; omega⟩
      have e1 : (pendingOf st2)[i]? = some (pendingOf st2)[i] := getElem?_pos _ _ (by omega)
      have e2 : (pendingOf st2)[i + 1]? = some (pendingOf st2)[i + 1] := getElem?_pos _ _ (by omega)
      refine wpS_bind ?_
      show wpS _ _ _ _ (mergeAt' (if Option.any (fun x => decide (x < Option.elim ((pendingOf st2)[(pendingOf st2).size - 2 + 1]?) 0 fun x => x.2.1)) (if (pendingOf st2).size - 2 > 0 then Option.map (fun x => x.2.1) ((pendingOf st2)[(pendingOf st2).size - 2 - 1]?) else none) = true then (pendingOf st2).size - 2 - 1 else (pendingOf st2).size - 2)) _ _
      rw [ei]
      refine wpS_mergeAt h0 b2 k2 (Nat.le_refl _) e1 e2 fun st3 b3 k3 z3 _ => ?_
      refine wpS_ite (fun e => absurd e (by decide)) (fun e => wpS_pure ⟨rfl, b3, k3, by omega⟩)
theorem list_sort_treeG {a : Addr} {vs : List Value} {ns : List Int} {n : Nat} {P : Fin → Shared → Prop} (ho : s.heap.get? a = some (seqObj "list" vs.toArray n))
    (hI : IntsAre vs ns) (hlen : vs.length ≤ 100000)
    (h : ∀ (out : Array Value) (ns' : List Int), IntsAre out.toList ns' → ns'.Perm ns → ns'.Pairwise (· ≤ ·) → P (.done (.ret .none)) { s with heap := sortedHeap s.heap a vs out }) :
    wpAny (model prog w) A (Builtin.«list.sort» ⟨[.ref a], []⟩) P E s := by
  rw [list_sort_plain]
  have ha : a < s.heap.objs.size := Heap.lt_size ho
  have hlen' : vs.toArray.size ≤ sizeLine := by rw [List.size_toArray, sizeLine_eq]; omega
  refine wpAny_bind (listItems_at ho rfl ?_)
  refine wpAny_bind (listUpdate_at ho rfl ?_ (hsz := hlen'))
  obtain ⟨e1, ho1⟩ : ∃ e1, (s.heap.update a (Obj.mapSeq fun _ => #[])).get? a = some (seqObj "list" #[] e1) := ⟨_, get?_update_seq ho (fun _ => #[])⟩
  refine wpAny_bind (seqEpoch_at ho1 rfl ?_)
  refine wpAny_bind (wpAny_newTuple ?_ (by rw [sizeLine_eq]; simp; omega))
  refine wpAny_bind (wpAny_newList ?_)
  refine wpAny_holding ?_
  have ho6 : (((s.heap.update a (Obj.mapSeq fun _ => #[])).push (seqObj "tuple" vs.toArray 0)).push (seqObj "list" #[] 0)).get? a = some (seqObj "list" #[] e1) := by
    rw [Heap.get?_push_ne _ _ _ (by rw [size_push', Heap.size_update]; exact Nat.ne_of_lt (Nat.lt_succ_of_lt ha)), Heap.get?_push_ne _ _ _ (by rw [Heap.size_update]; exact Nat.ne_of_lt ha)]
    exact ho1
  show wpAny (model prog w) A _ P E { s with heap := ((s.heap.update a (Obj.mapSeq fun _ => #[])).push (seqObj "tuple" vs.toArray 0)).push (seqObj "list" #[] 0) }
  dsimp only
  have hsz : vs.toArray.size = vs.length := by simp
  have fin : ∀ st' : SortSt, (arrOf st').Perm (pairsOf vs) → SortedTo (arrOf st') (pairsOf vs).size →
      P (.done (.ret .none)) { s with heap := sortedHeap s.heap a vs ((arrOf st').map (·.2)) } := by
    intro st' hp hs
    obtain ⟨ns', h1, h2, h3⟩ := sorted_out hI hp hs
    exact h _ ns' h1 h2 h3
  by_cases h2 : vs.toArray.size < 2
  · rw [if_pos h2, if_pos h2]
    refine wpAny_bind (wpAny_pure ?_)
    rw [StateT.run_pure]
    refine wpAny_bind (wpAny_pure ?_)
    dsimp only
    refine wpAny_bind (seqEpoch_at ho6 rfl ?_)
    refine wpAny_bind (listUpdate_at ho6 rfl ?_ (hsz2 := by rw [Array.size_map]; show (pairsOf vs).size ≤ _; rw [pairsOf_size, sizeLine_eq]; omega))
    simp only [bne_self_eq_false, Bool.false_eq_true, if_false]
    refine wpAny_pure (fin (SortSt.mk' general' (vs.toArray.zip vs.toArray) #[] 7 none) (Array.Perm.refl _) ?_)
    intro i j hij hj
    have : i = j := by rw [pairsOf_size] at hj; omega
    subst this; exact Int.le_refl _
  · rw [if_neg h2, if_neg h2]
    obtain ⟨v₁, v₂, rest, rfl⟩ : ∃ v₁ v₂ rest, vs = v₁ :: v₂ :: rest := by
      match vs, hsz, h2 with
      | [], _, h2 => simp at h2
      | [_], _, h2 => simp at h2
      | v₁ :: v₂ :: rest, _, _ => exact ⟨v₁, v₂, rest, rfl⟩
    rw [keyKind_ints hI]
    refine wpAny_bind (wpAny_pure ?_)
    refine wpAny_bind (wpAny_mono (wpS_sortRunsG (a₀ := pairsOf (v₁ :: v₂ :: rest)) (st := SortSt.mk' oneType' ((v₁ :: v₂ :: rest).toArray.zip (v₁ :: v₂ :: rest).toArray) #[] 7 none)
      (Q := fun _ st' => (arrOf st').Perm (pairsOf (v₁ :: v₂ :: rest)) ∧ failedOf st' = none ∧ SortedTo (arrOf st') (pairsOf (v₁ :: v₂ :: rest)).size)
      hI.intKeys ⟨Array.Perm.refl _, rfl, rfl⟩ rfl (by rw [pairsOf_size]; simp) fun st' a1 a2 a3 => ⟨a1, a2, fun i j hij hj => by have := a3 i j hij hj; rwa [Nat.zero_add, Nat.zero_add] at this⟩) ?_ fun _ _ e => e)
    rintro ⟨⟨⟩, st'⟩ s' ⟨rfl, hp, hf, hs⟩
    dsimp only
    refine wpAny_bind (seqEpoch_at ho6 rfl ?_)
    refine wpAny_bind (listUpdate_at ho6 rfl ?_ (hsz2 := by refine Nat.le_trans (Nat.le_of_eq ((Array.size_map ..).trans (hp.size_eq.trans (pairsOf_size _)))) ?_; rw [sizeLine_eq]; omega))
    rw [hf]
    simp only [bne_self_eq_false, Bool.false_eq_true, if_false]
    exact wpAny_pure (fin st' hp hs)
end
end Sg
set_option maxHeartbeats 4000000
namespace L2
open PySem PySem.Spec PyProof.Rows PySem.W Gc
section
variable {prog : Program} {w : World} {A : Around} {E : Value → Shared → Prop} {s : Shared}
end
theorem call_sortedE {X : Cx} (hc : X.calm = true) : CallR X (.builtin "sorted") (fun xs H Q => ∃ (d : Addr) (kvs : List (Key × V)) (ks : List Int), xs = [.ref d] ∧ Rd H d (.dK kvs) ∧ (kvs.map fun kv => kV kv.1) = ks.map V.int ∧ ks.length ≤ 100000 ∧
    ∀ (D : Addr) (ms : List Int), H D = none → ms.Perm ks → ms.Pairwise (· ≤ ·) → Q (.ref D) (upd H D (.lst (ms.map V.int)))) := by
  intro pins s σ H xs us Q I r h
  obtain ⟨d, kvs, ks, rfl, hq, ek, h64, q⟩ := h
  obtain ⟨u, rfl, rx⟩ := vals1 r
  cases rx
  obtain ⟨z, hd, vs, rel, dd⟩ := dk_rd I.hok hq
  obtain ⟨ep, da⟩ := dd.dictAt
  have ll := rel.length
  refine Calls.call_function_entry kind_sorted plain_sorted entry_sorted (args_sorted1 _) ?_
  unfold Builtin.«sorted»
  refine wpAny_bind (m := checkCount "sorted" 1 1 _) (wpAny_pure ?_)
  refine wpAny_bind (kdu_collect (A := X.A.in1) (kdl_dict (knd := mixKind X.prog X.w) (kvs := vs) (ep := ep) hd) (I.ok.hd hc) da (by omega) fun h' tk acc hk hacc => ?_)
  have hl : acc.toList.length = vs.length := by rw [Array.length_toList]; exact hacc.1
  have rv := keys_vals rel hl fun j v e => hacc.2 j v (by rw [← Array.getElem?_toList]; exact e)
  rw [ek] at rv
  have hI := ints_of rv
  have lk : ks.length = acc.toList.length := by rw [← rv.length, List.length_map]
  refine wpAny_bind (wpAny_newList ?_ (by rw [hl]; omega))
  have hoL : (h'.push (seqObj "list" acc.toList.toArray 0)).get? h'.objs.size = some (seqObj "list" acc.toList.toArray 0) := Heap.get?_push_size _ rfl
  have I1 : Inv X pins σ H { s with heap := h', toks := tk } := I.kept (t' := tk) hk
  refine wpAny_bind (wpAny_holding (wpAny_call_entry slot_list_sort ⟨_, hoL, rfl⟩ entry_list_sort (Sg.list_sort_treeG hoL hI (by omega) fun out ms a1 a2 a3 => ⟨_, rfl, ?_⟩) (args_list_sort _)))
  refine wpAny_pure ⟨_, rfl, ?_⟩
  obtain ⟨e, he⟩ := sortedHeap_at (out := out) hoL
  refine ⟨.ref h'.objs.size, _, I1.laid (a := h'.objs.size) (o := .lst (ms.map V.int)) (t' := tk) (fun b o hb => ?_) (Nat.le_refl _) ⟨?_, out.toList, e, ints_to a1, ?_⟩, rfl, q _ ms (I1.hok.fresh (Nat.le_refl _)) a2 a3⟩
  · have hlt : b < h'.objs.size := Heap.lt_size hb
    exact (sortedHeap_old (Nat.ne_of_lt hlt) (by rw [size_push']; exact Nat.lt_succ_of_lt hlt)).trans (Heap.get?_push_of_some _ hb)
  · rw [List.length_map, a2.length_eq, sizeLine_eq]; omega
  · exact he
section
variable {prog : Program} {w : World} {A : Around} {E : Value → Shared → Prop} {s : Shared}
theorem el_new (b : Bool) (a : Addr) :
    Meets (Builtin.«enumerate.__new__» ⟨[.type "enumerate", .ref a], []⟩) (fun _ R s => (∃ xs, SqH b s.heap a xs) ∧
      R (.ok (.ret (.ref (s.heap.push (sItO b a)).objs.size))) { s with heap := (s.heap.push (sItO b a)).push { cls := .type "enumerate", data := .fields #[.none, .bool false, .ref s.heap.objs.size, rawInt 0, .none, .none] } }) :=
  .of_wp fun prog w A R s h => by
    obtain ⟨hp, g, dr, tk, os⟩ := s
    obtain ⟨⟨xs, hx⟩, h⟩ := h
    have sub := sub_enumerate
    wp_walk
    refine (wpAny_stack_any fun st => wpAny_pure ?_)
    split
    · rename_i c _ _ _ _ _
      cases (c == Value.type "enumerate")
      · wp_walk using iter_sq hx
        exact ⟨_, rfl, h⟩
      · wp_walk using iter_sq hx
        exact ⟨_, rfl, h⟩
    · wp_walk using iter_sq hx
      exact ⟨_, rfl, h⟩
theorem el_call {b : Bool} {a : Addr} {xs : Array Value} {Q : Value → Shared → Prop} (hT : SqH b s.heap a xs)
    (k : ∀ g, IsEnum g (s.heap.objs.size + 1) s.heap.objs.size 0 .none → SIt b g s.heap.objs.size a 0 → (∀ c o, s.heap.get? c = some o → g.get? c = some o) → Q (.ref (s.heap.objs.size + 1)) { s with heap := g }) :
    wpAny (model prog w) A (call (.type "enumerate") [.ref a]) Q E s := by
  refine callType_new (F.called_enumerate) (by decide) (F.typeCall_enumerate_1 _) (F.newCall_enumerate_1 _) (fun o => F.args_object_init_2 o _) (F.entry_enumerate_new) (el_new b a) ⟨⟨xs, hT⟩, ?_⟩
  have z1 : (s.heap.push (sItO b a)).objs.size = s.heap.objs.size + 1 := Heap.size_push ..
  have fr : Obj.isFreed (sItO b a) = false := by cases b <;> rfl
  have g2 : ((s.heap.push (sItO b a)).push { cls := .type "enumerate", data := .fields #[.none, .bool false, .ref s.heap.objs.size, rawInt 0, .none, .none] }).get? (s.heap.push (sItO b a)).objs.size = some _ := Heap.get?_push_size _ rfl
  have g1 : ((s.heap.push (sItO b a)).push { cls := .type "enumerate", data := .fields #[.none, .bool false, .ref s.heap.objs.size, rawInt 0, .none, .none] }).get? s.heap.objs.size = some _ := Heap.get?_push_of_some _ (Heap.get?_push_size _ fr)
  show _ ∧ _
  rw [z1] at g2 ⊢
  refine ⟨⟨_, g2, rfl⟩, k _ g2 ?_ fun b o x => Heap.get?_push_of_some _ (Heap.get?_push_of_some _ x)⟩
  cases b with
  | true => exact ⟨_, g1, rfl, rfl⟩
  | false => exact ⟨_, g1, rfl, rfl⟩
end
noncomputable def Itel (b : Bool) (K : PySem.W.Frag) (t : Addr) : It :=
  ⟨fun i H => ∃ xs x, SqB b K H t xs ∧ xs[i]? = some x,
   fun i H v H' => ∃ T x, H T = none ∧ H' = upd H T (.tup [.int (i : Int), x]) ∧ v = .ref T ∧ ∀ xs, SqB b K H t xs → xs[i]? = some x,
   fun i H => ∃ xs, SqB b K H t xs ∧ xs.length ≤ i⟩
noncomputable def EStL (b : Bool) (e it t : Addr) (i : Nat) (h : Heap) : Prop := (∃ old, IsEnum h e it (i : Int) old) ∧ SIt b h it t i
theorem turn_enumL {P : Program} {w : World} {K : PySem.W.Frag} {es : List Expr} {k0 : Nat} {p0 : Pos} {b : Bool} {e it t : Addr} (ne : e ≠ it) : Turn P w K (.Tuple es k0 p0) (Itel b K t) [e, it] e (EStL b e it t) where
  mem := by simp
  obj := fun i h ⟨⟨old, a⟩, d⟩ x hx => by
    simp only [List.mem_cons, List.not_mem_nil, or_false] at hx
    rcases hx with rfl | rfl
    · exact ⟨_, a, fun v q => by cases q⟩
    · exact d.typ
  keep := fun i h h' ⟨⟨old, a⟩, d⟩ kk => ⟨⟨old, kk _ (by simp) _ a⟩, d.at fun o q => kk _ (by simp) o q⟩
  item := by
    intro X hP hw hK hc i pins s σ H E I hf st hg
    subst hP hw hK
    obtain ⟨⟨old, a⟩, d⟩ := st
    obtain ⟨xs, x, q1, x1⟩ := hg
    obtain ⟨its, rv, pl⟩ := I.seqB q1
    obtain ⟨u, hu, ru⟩ := rv.get x1
    refine es_pyNext a d pl (v := u) (by simpa using hu) ne fun h' za zc zt zk => ?_
    refine ⟨_, rfl, wpAny_letOwnedTupleGo_enum (s := { s with heap := h', toks := s.toks + 1 }) za fun h2 za2 sb => ?_⟩
    have kk : ∀ b o, b ∉ [e, it] → s.heap.get? b = some o → h2.get? b = some o := fun b o hb q => by
      simp only [List.mem_cons, List.not_mem_nil, or_false, not_or] at hb
      exact (sb.2 b hb.1).trans (zk b o hb.1 hb.2 q)
    have sze : s.heap.objs.size ≠ e := fun q => absurd (Heap.lt_size a) (by rw [← q]; exact Nat.lt_irrefl _)
    have hT : h2.get? s.heap.objs.size = some { cls := .type "tuple", data := .seq #[.int (i : Int) s.toks, u] } := (sb.2 _ sze).trans zt
    have fr : H s.heap.objs.size = none := I.hok.fresh (Nat.le_refl _)
    have I2 : Inv X pins σ (upd H s.heap.objs.size (.tup [.int (i : Int), x])) { s with heap := h2, toks := s.toks + 1 } := I.turnLay (t' := s.toks + 1) (fp := [e, it]) kk hf (Nat.le_refl _)
      ⟨by show 2 ≤ sizeLine; decide, [.int (i : Int) s.toks, u], .cons ⟨_, rfl⟩ (.cons ru .nil), ⟨_, hT, rfl, _, rfl⟩⟩
    refine ⟨.ref s.heap.objs.size, _, I2, rfl, ⟨_, x, fr, rfl, rfl, fun zs hz => by rw [I.seqB_inj hz q1]; exact x1⟩, ⟨⟨_, (by have := za2; exact this)⟩, zc.at fun o q => (sb.2 _ ne.symm).trans q⟩, fun b hb => ?_⟩
    have h0 := (hf b hb).1
    have hlt : b ≠ s.heap.objs.size := fun q => by
      subst q
      simp only [List.mem_cons, List.not_mem_nil, or_false] at hb
      rcases hb with q | q
      · exact sze q
      · obtain ⟨o, e1, _⟩ := d.typ
        exact absurd (Heap.lt_size e1) (by rw [← q]; exact Nat.lt_irrefl _)
    rw [upd_ne hlt]
    exact h0
  done := by
    intro X hP hw hK hc i pins s σ H E I hf st hg
    subst hP hw hK
    obtain ⟨⟨old, a⟩, d⟩ := st
    obtain ⟨xs, q1, hl⟩ := hg
    obtain ⟨its, rv, pl⟩ := I.seqB q1
    have g1 := rv.length
    refine es_pyEnd (I.ok.hd hc) a d pl (by simp; omega) fun h' zk => ⟨rfl, I.turnedL (t' := s.toks) (fp := [e, it]) (fun b o hb q => ?_) hf⟩
    simp only [List.mem_cons, List.not_mem_nil, or_false, not_or] at hb
    exact zk b o hb.2 q
  self := fun _ _ _ _ _ st h => by
    obtain ⟨⟨old, a⟩, _⟩ := st
    exact wpAny_pyIter_enum a h
noncomputable def iEnumL (K : PySem.W.Frag) (ta : TA) : TI := fun σ H R => ta σ H fun vs H1 => ∃ a b, vs = [.ref a] ∧ (∃ xs, SqB b K H1 a xs) ∧ R (Itel b K a) H1
theorem pi_enumL {X : Cx} {es : List Expr} {k0 : Nat} {p0 : Pos} {a : Expr} {ta : TA} {p pos : Pos} (hg : Gl X "enumerate") (hm : X.mg "enumerate" = none) (ha : PA X [a] ta) (hs : starEach [a] X.env = (false, eval a X.env) :: starEach [] X.env := by rfl) :
    PI X (.Tuple es k0 p0) (.Call (.Name "enumerate" p) [a] [] pos) (iEnumL X.K ta) := by
  intro pins s σ H R I h
  refine Call_ (ld_blt I hg hm boot_enumerate (PyProof.Rows.callWith_type1 (thn (ha pos pins s σ H _ I h) fun us s1 ⟨vs, H1, I1, r1, q1⟩ => ?_) hs rfl))
  obtain ⟨l1, b, e, ⟨xs, q1⟩, q⟩ := q1
  subst e
  cases r1 with
  | cons r rr =>
    cases rr
    cases r
    obtain ⟨its, rv, pl⟩ := I1.seqB q1
    refine el_call pl fun h' za zb zk => ?_
    refine wpAny_pyIter_enum (s := { s1 with heap := h' }) za ?_
    have I2 : Inv X pins σ H1 { s1 with heap := h' } := I1.kept (t' := s1.toks) fun b o e => zk b o e
    refine ⟨_, [_, _], _, _, H1, rfl, I2, turn_enumL (e := s1.heap.objs.size + 1) (it := s1.heap.objs.size) (t := l1) (Nat.succ_ne_self _), ⟨⟨_, za⟩, zb⟩, fun b hb => ?_, q⟩
    simp only [List.mem_cons, List.not_mem_nil, or_false] at hb
    have ge : s1.heap.objs.size ≤ b := by rcases hb with z | z <;> (subst z; first | exact Nat.le_add_right _ _ | exact Nat.le_refl _)
    exact I1.fpOk ge (I1.hok.fresh ge)
theorem comp_enumLR {b : Bool} {K : PySem.W.Frag} {a : Addr} {xs : List V} {te : TE} {st : St} {H1 : Hp} {Q : VK} {D : Addr} (R : Nat → List V → Hp → Prop) (hD : H1 D = none) (q1 : SqB b K H1 a xs) (hn : xs.length ≤ sizeLine) (h0 : R 0 [] (upd H1 D (.lst [])))
    (hs : ∀ (i : Nat) (x : V) (ys : List V) (H2 : Hp) (k : VK), xs[i]? = some x → Same H1 H2 → H2 D = some (.lst ys) → ys.length = i → R i ys H2 → (∀ y H4, Same H2 H4 → R (i + 1) (ys ++ [y]) (upd H4 D (.lst (ys ++ [y]))) → k y H4) → ∀ T, H2 T = none → te (some (.int (i : Int)) :: some x :: st) (upd H2 T (.tup [.int (i : Int), x])) k)
    (hd : ∀ ys H2, Same H1 H2 → H2 D = some (.lst ys) → ys.length = xs.length → R xs.length ys H2 → Q (.ref D) H2) : CompG (Itel b K a) (gTup K 2 (gCons (gName 0) (gCons (gName 1) gNil))) tYes te 2 st D H1 Q := by
  refine ⟨fun i m ys H2 => m = xs.length - i ∧ i ≤ xs.length ∧ ys.length = i ∧ Same H1 H2 ∧ H2 D = some (.lst ys) ∧ R i ys H2, ⟨xs.length, by simp, Nat.zero_le _, rfl, same_upd (Same.refl H1) hD, upd_same, h0⟩, ?_⟩
  rintro i m ys H2 ⟨rfl, hi, hl, sm, e, r⟩
  by_cases hlt : i < xs.length
  · have ex : xs[i]? = some xs[i] := List.getElem?_eq_getElem hlt
    refine .inr ⟨⟨xs, _, q1.keep sm, ex⟩, ?_⟩
    rintro x H3 σ0 ⟨T, y, hT, rfl, rfl, hx⟩ l0
    have hy := hx xs (q1.keep sm)
    obtain ⟨a', b', rfl⟩ : ∃ a b, σ0 = [a, b] := by
      match σ0, l0 with
      | [a, b], _ => exact ⟨a, b, rfl⟩
    have sT := same_new hT (.tup [.int (i : Int), y])
    refine ⟨T, [.int (i : Int), y], rfl, SqT.of upd_same, rfl, .int (i : Int), [y], rfl, y, [], rfl, rfl, ⟨[some (.int (i : Int)), some y], rfl, rfl⟩, ?_⟩
    exact hs i y ys H2 _ hy sm e hl r (fun z H4 s4 r4 => ⟨s4 _ _ e, by omega, xs.length - (i + 1), by omega, rfl, hlt, by simp [hl], same_upd (sm.trans s4) hD, upd_same, r4⟩) T hT
  · have ei : i = xs.length := by omega
    subst ei
    exact .inl ⟨⟨xs, q1.keep sm, Nat.le_refl _⟩, hd ys H2 sm e hl r⟩
end L2
set_option maxHeartbeats 4000000
namespace L2
open PySem PySem.Spec PyProof.Rows PySem.W Gc
theorem comp_rpairR {α : Type} {K : PySem.W.Frag} {a : Addr} {xs : List V} {te : TE} {st : St} {H1 : Hp} {Q : VK} {D : Addr} (ps : List α) (S : List α → List V → Hp → Prop) (R : α → V → V → Prop) (hD : H1 D = none) (q1 : SqL K H1 a xs) (hl : xs.length = ps.length) (hn : xs.length ≤ sizeLine) (h0 : S [] [] (upd H1 D (.lst [])))
    (hx : ∀ (i : Nat) (h : α), ps[i]? = some h → ∃ b u v, xs[i]? = some (.ref b) ∧ H1 b = some (.tup [u, v]) ∧ R h u v)
    (hs : ∀ (i : Nat) (h : α) (u v : V) (ys : List V) (H2 : Hp) (k : VK), R h u v → Same H1 H2 → H2 D = some (.lst ys) → S (ps.reverse.take i) ys H2 → (∀ y H4, Same H2 H4 → S (ps.reverse.take i ++ [h]) (ys ++ [y]) (upd H4 D (.lst (ys ++ [y]))) → k y H4) → te (some u :: some v :: st) H2 k)
    (hd : ∀ ys H2, Same H1 H2 → H2 D = some (.lst ys) → S ps.reverse ys H2 → Q (.ref D) H2) : CompG (Itrv K a xs.length) (gTup K 2 (gCons (gName 0) (gCons (gName 1) gNil))) tYes te 2 st D H1 Q := by
  refine ⟨fun i m ys H2 => m = xs.length - i ∧ i ≤ xs.length ∧ ys.length = i ∧ Same H1 H2 ∧ H2 D = some (.lst ys) ∧ S (ps.reverse.take i) ys H2, ⟨xs.length, by simp, Nat.zero_le _, rfl, same_upd (Same.refl H1) hD, upd_same, h0⟩, ?_⟩
  rintro i m ys H2 ⟨rfl, hi, hl', sm, e, r⟩
  by_cases hlt : i < xs.length
  · have hj : xs.length - 1 - i < xs.length := by omega
    have ex : xs[xs.length - 1 - i]? = some xs[xs.length - 1 - i] := List.getElem?_eq_getElem hj
    have ep : ps[ps.length - 1 - i]? = some ps[ps.length - 1 - i] := List.getElem?_eq_getElem (by omega)
    have er : ps.reverse[i]? = some ps[ps.length - 1 - i] := by rw [List.getElem?_reverse (by omega)]; exact ep
    generalize ps[ps.length - 1 - i] = h at *
    obtain ⟨b, u, v, e1, e2, rr⟩ := hx _ h ep
    rw [← hl] at e1
    refine .inr ⟨⟨hlt, xs, _, sm.seq q1, ex⟩, ?_⟩
    rintro x H3 σ0 ⟨rfl, hx'⟩ l0
    have hx2 := hx' xs (sm.seq q1)
    rw [e1] at hx2
    cases hx2
    obtain ⟨a', b', rfl⟩ : ∃ a b, σ0 = [a, b] := by
      match σ0, l0 with
      | [a, b], _ => exact ⟨a, b, rfl⟩
    have tk : ps.reverse.take (i + 1) = ps.reverse.take i ++ [h] := by rw [List.take_add_one, er]; rfl
    refine ⟨b, [u, v], rfl, SqT.of (sm _ _ e2), rfl, u, [v], rfl, v, [], rfl, rfl, ⟨[some u, some v], rfl, rfl⟩, ?_⟩
    refine hs i h u v ys _ _ rr sm e r fun y H4 s4 r4 => ⟨s4 _ _ e, by omega, xs.length - (i + 1), by omega, rfl, hlt, by simp [hl'], same_upd (sm.trans s4) hD, upd_same, ?_⟩
    rw [tk]
    exact r4
  · have ei : i = xs.length := by omega
    subst ei
    rw [List.take_of_length_le (by simp; omega)] at r
    exact .inl ⟨Nat.le_refl _, hd ys H2 sm e r⟩
theorem comp_lpairS {α : Type} {K : PySem.W.Frag} {a : Addr} {xs : List V} {te : TE} {st : St} {H1 : Hp} {Q : VK} {D : Addr} (ps : List α) (S : List α → List V → Hp → Prop) (R : α → V → V → Prop) (hD : H1 D = none) (q1 : SqL K H1 a xs) (hl : xs.length = ps.length) (hn : xs.length ≤ sizeLine) (h0 : S [] [] (upd H1 D (.lst [])))
    (hx : ∀ (i : Nat) (h : α), ps[i]? = some h → ∃ b u v, xs[i]? = some (.ref b) ∧ H1 b = some (.tup [u, v]) ∧ R h u v)
    (hs : ∀ (i : Nat) (h : α) (u v : V) (ys : List V) (H2 : Hp) (k : VK), R h u v → Same H1 H2 → H2 D = some (.lst ys) → S (ps.take i) ys H2 → (∀ y H4, Same H2 H4 → S (ps.take i ++ [h]) (ys ++ [y]) (upd H4 D (.lst (ys ++ [y]))) → k y H4) → te (some u :: some v :: st) H2 k)
    (hd : ∀ ys H2, Same H1 H2 → H2 D = some (.lst ys) → S ps ys H2 → Q (.ref D) H2) : CompG (Itl K a) (gTup K 2 (gCons (gName 0) (gCons (gName 1) gNil))) tYes te 2 st D H1 Q := by
  refine ⟨fun i m ys H2 => m = xs.length - i ∧ i ≤ xs.length ∧ ys.length = i ∧ Same H1 H2 ∧ H2 D = some (.lst ys) ∧ S (ps.take i) ys H2, ⟨xs.length, by simp, Nat.zero_le _, rfl, same_upd (Same.refl H1) hD, upd_same, h0⟩, ?_⟩
  rintro i m ys H2 ⟨rfl, hi, hl', sm, e, r⟩
  by_cases hlt : i < xs.length
  · have ex : xs[i]? = some xs[i] := List.getElem?_eq_getElem hlt
    have er : ps[i]? = some ps[i] := List.getElem?_eq_getElem (by omega)
    generalize ps[i] = h at *
    obtain ⟨b, u, v, e1, e2, rr⟩ := hx _ h er
    refine .inr ⟨⟨xs, _, sm.seq q1, ex⟩, ?_⟩
    rintro x H3 σ0 ⟨rfl, hx'⟩ l0
    have hx2 := hx' xs (sm.seq q1)
    rw [e1] at hx2
    cases hx2
    obtain ⟨a', b', rfl⟩ : ∃ a b, σ0 = [a, b] := by
      match σ0, l0 with
      | [a, b], _ => exact ⟨a, b, rfl⟩
    have tk : ps.take (i + 1) = ps.take i ++ [h] := by rw [List.take_add_one, er]; rfl
    refine ⟨b, [u, v], rfl, SqT.of (sm _ _ e2), rfl, u, [v], rfl, v, [], rfl, rfl, ⟨[some u, some v], rfl, rfl⟩, ?_⟩
    refine hs i h u v ys _ _ rr sm e r fun y H4 s4 r4 => ⟨s4 _ _ e, by omega, xs.length - (i + 1), by omega, rfl, hlt, by simp [hl'], same_upd (sm.trans s4) hD, upd_same, ?_⟩
    rw [tk]
    exact r4
  · have ei : i = xs.length := by omega
    subst ei
    rw [List.take_of_length_le (by omega)] at r
    exact .inl ⟨⟨xs, sm.seq q1, Nat.le_refl _⟩, hd ys H2 sm e r⟩
end L2
set_option maxHeartbeats 4000000
namespace K40
open PySem L2 Gc Ch
seal wpAny
noncomputable def top (i : Nat) : Stmt := PySem.Challenge.pw_surestretch_k40_whole_values_changed.main.body.getD i (.Pass ⟨0, 0, 0, 0⟩)
noncomputable abbrev s_whole : Stmt := top 4
noncomputable abbrev s_cd : Stmt := top 5
noncomputable abbrev s_frac : Stmt := top 6
noncomputable abbrev s_und : Stmt := top 7
noncomputable abbrev s_sums : Stmt := top 9
noncomputable abbrev s_cbs : Stmt := top 10
noncomputable abbrev s_wv : Stmt := top 11
noncomputable abbrev s_shr : Stmt := top 12
noncomputable abbrev s_shf : Stmt := top 13
noncomputable abbrev s_isen : Stmt := top 14
noncomputable abbrev s_cellU : Stmt := top 16
noncomputable abbrev s_dv : Stmt := top 17
noncomputable abbrev s_low : Stmt := top 18
noncomputable abbrev s_grp : Stmt := top 19
noncomputable abbrev s_lsh : Stmt := top 21
noncomputable abbrev s_mix : Stmt := top 22
noncomputable abbrev s_law : Stmt := top 23
structure Txt (mg : Str → Option Value) : Prop where
  range : mg "range" = none
  len : mg "len" = none
  isinstance : mg "isinstance" = none
  int : mg "int" = none
  bool : mg "bool" = none
  tuple : mg "tuple" = none
  list : mg "list" = none
  dict : mg "dict" = none
  sorted : mg "sorted" = none
  enumerate : mg "enumerate" = none
  sum : mg "sum" = none
  abs : mg "abs" = none
  reversed : mg "reversed" = none
structure CA where
  StretchError : Addr
  NoNumber : Addr
structure CF (K : PySem.W.Frag) (mg : Str → Option Value) (C : CA) : Prop where
  mStretchError : mg "StretchError" = some (.ref C.StretchError)
  mNoNumber : mg "NoNumber" = some (.ref C.NoNumber)
  xNoNumber : XCls K mg "NoNumber" C.NoNumber
  iNoNumber : XInst K C.NoNumber
noncomputable def isW (t : Th) : Bool := isIntT t && !isBoolT t
theorem isW_shape {t : Th} (h : isW t = true) : ∃ i, t = .int i := by
  cases t <;> first | exact ⟨_, rfl⟩ | (simp [isW, isIntT, isBoolT] at h)
theorem at0 {x : V} {xs : List V} : atI (x :: xs) 0 = some x := atI_nat (xs := x :: xs) (j := 0) rfl
theorem at1 {x y : V} {xs : List V} : atI (x :: y :: xs) 1 = some y := atI_nat (xs := x :: y :: xs) (j := 1) rfl
theorem getD_mem {α : Type} {l : List α} {i : Nat} {d : α} (h : i < l.length) : l.getD i d ∈ l := by rw [getD_in h]; exact List.getElem_mem h
theorem den_p {H : Hp} {p : Addr} {a b : Int} (h : H p = some (.tup [.int a, .int b])) : Den H (.tup [.int a, .int b]) (.ref p) := ⟨p, _, rfl, h, _, _, rfl, rfl, _, _, rfl, rfl, rfl⟩
theorem den2 {H : Hp} {p : Addr} {x y : V} {a b : Th} (h : H p = some (.tup [x, y])) (d1 : Den H a x) (d2 : Den H b y) : Den H (.tup [a, b]) (.ref p) := ⟨p, _, rfl, h, _, _, rfl, d1, _, _, rfl, d2, rfl⟩
theorem _root_.Gc.Sz.smk {n : Nat} {i : Int} (h : Sz n i) (hn : n ≤ 8900) : Smk i := h.mono hn
theorem passN {P : Program} {w : World} {X : Cx} : Passes (CXX P w) X E0 := fun _ _ _ _ _ _ _ h => (cxx_never h).elim
theorem lt40 {n : Nat} (h : n ≤ 100000) : n < sizeLine := Nat.lt_of_le_of_lt h (by decide)
theorem boot_sorted : bootBuiltins "sorted" = some (.builtin "sorted") := by decide +kernel
theorem boot_dict : bootBuiltins "dict" = some (.type "dict") := by decide +kernel
section
variable {P : Program} {w : World} {K : PySem.W.Frag} {mg : Str → Option Value} {base : Heap}
noncomputable def spWhole : Sp := fun vs H Q _ => ∃ x t, vs = [x] ∧ Den H t x ∧ Q (.bl (isW t)) H
theorem sc_whole : FnScope ["thing"] ["thing"] (defScope s_whole) := ⟨rfl, rfl, rfl, by decide +kernel, rfl, by decide +kernel, by decide +kernel⟩
theorem ok_whole {f : Addr} {fd : FuncData} (F : Fun K "is_whole" "is_whole" s_whole f fd) (T : Txt mg) : FnOk P w K mg base CX0 1 f fd ["thing"] spWhole := by
  refine F.ok sc_whole (fun vs H Q E h => ?_) (fun cdv A outer s H vs Q E hr h => ?_)
  · obtain ⟨x, t, rfl, _⟩ := h
    rfl
  obtain ⟨x, t, rfl, d, q⟩ := h
  refine ⟨_, (pss_one (ps_ret (pe_and (pe_callB call_isinstD rfl T.isinstance boot_isinstance (pa_cons (pv 0) (pa_cons (pe_bltn (v := .ty "int") rfl T.int boot_int rfl) pa_nil))) (pe_one (pe_not (pe_callB call_isinstD rfl T.isinstance boot_isinstance (pa_cons (pv 0) (pa_cons (pe_bltn (v := .ty "bool") rfl T.bool boot_bool rfl) pa_nil)))))))), ?_⟩
  refine ⟨_, rfl, x, t, _, _, rfl, d, kit_int t, _, rfl, ?_⟩
  cases hi : isIntT t with
  | false =>
    unfold isW at q
    rw [hi, Bool.false_and] at q
    exact iteF q
  | true =>
    unfold isW at q
    rw [hi, Bool.true_and] at q
    exact iteT ⟨_, rfl, x, t, _, _, rfl, d, kit_bool t, _, rfl, q⟩
noncomputable def spCd : Sp := fun vs H Q _ => ∃ a b : Int, vs = [.int a, .int b] ∧ 0 ≤ a ∧ 0 ≤ b ∧ Q (.int (Int.gcd a b)) H
noncomputable def mu2 (σ : St) : Nat := match σ with
  | _ :: some (.int y) :: _ => y.toNat
  | _ => 0
theorem sc_cd : FnScope ["one", "other", "rest"] ["one", "other"] (defScope s_cd) := ⟨rfl, rfl, rfl, by decide +kernel, rfl, by decide +kernel, by decide +kernel⟩
theorem ok_cd {f : Addr} {fd : FuncData} (F : Fun K "common_divisor" "common_divisor" s_cd f fd) (T : Txt mg) : FnOk P w K mg base CX0 1 f fd ["one", "other"] spCd := by
  refine F.ok sc_cd (fun vs H Q E h => ?_) (fun cdv A outer s H vs Q E hr h => ?_)
  · obtain ⟨a, b, rfl, _⟩ := h
    rfl
  obtain ⟨a, b, rfl, ha, hb, q⟩ := h
  refine ⟨_, (pss_cons (ps_while PassesOwn.never (pt_cmpR op_ne (pv 1) pe_int (nomark _)) (pss_cons (ps_set (i := 2) sc_cd.nd rfl (Or.inl rfl) (pe_op op_mod (pv 0) (pv 1)))
      (pss_cons (ps_set (i := 0) sc_cd.nd rfl (Or.inl rfl) (pv 1))
      (pss_one (ps_set (i := 1) sc_cd.nd rfl (Or.inl rfl) (pv 2))))))
    (pss_one (ps_ret (pv 0)))), ?_⟩
  refine while_by (fun σ H' => H' = H ∧ ∃ x y v, σ = [some (.int x), some (.int y), v] ∧ 0 ≤ x ∧ 0 ≤ y ∧ Int.gcd x y = Int.gcd a b) (fun σ _ => mu2 σ) ⟨rfl, a, b, none, rfl, ha, hb, rfl⟩ ?_ ?_
  · rintro σ H' ⟨rfl, x, y, v, rfl, hx, hy, g⟩
    refine ⟨_, rfl, rfl, _, rfl, ?_⟩
    refine ite2 (fun c => ?_) (fun c => ?_)
    · have c' : y ≠ 0 := by rintro rfl; exact absurd c (by decide)
      have hm := Int.emod_nonneg x c'
      have hl := Int.emod_lt_of_pos x (show 0 < y by omega)
      refine ⟨_, rfl, _, rfl, _, _, rfl, rfl, (by show 0 < y; omega), _, rfl, _, rfl, ?_⟩
      refine ⟨⟨rfl, y, x % y, some (.int (x % y)), rfl, hy, hm, by rw [gstep hx hy c']; exact g⟩, ?_⟩
      show (x % y).toNat < y.toNat
      omega
    · have c' : y = 0 := by
        by_cases z : y = 0
        · exact z
        · exact absurd (show (!decide (V.int y = V.int 0)) = true by rw [decide_eq_false (fun w => z (by injection w))]; rfl) c
      subst c'
      refine ⟨_, rfl, ?_⟩
      rw [← g, gend hx] at q
      exact q
  · intro σ H Q Q' hq h
    obtain ⟨v, e, h1, k, e2, h2⟩ := h
    exact ⟨v, e, h1, k, e2, hq _ _ h2⟩
theorem sc_dv : FnScope ["_law_one", "_law_other", "_law_left"] ["_law_one", "_law_other"] (defScope s_dv) := ⟨rfl, rfl, rfl, by decide +kernel, rfl, by decide +kernel, by decide +kernel⟩
theorem ok_dv {f : Addr} {fd : FuncData} (F : Fun K "_law_rest" "_law_rest" s_dv f fd) (T : Txt mg) : FnOk P w K mg base CX0 1 f fd ["_law_one", "_law_other"] spCd := by
  refine F.ok sc_dv (fun vs H Q E h => ?_) (fun cdv A outer s H vs Q E hr h => ?_)
  · obtain ⟨a, b, rfl, _⟩ := h
    rfl
  obtain ⟨a, b, rfl, ha, hb, q⟩ := h
  refine ⟨_, (pss_cons (ps_while PassesOwn.never (pt_cmpR op_ne (pv 1) pe_int (nomark _)) (pss_cons (ps_set (i := 2) sc_dv.nd rfl (Or.inl rfl) (pe_op op_mod (pv 0) (pv 1)))
      (pss_cons (ps_set (i := 0) sc_dv.nd rfl (Or.inl rfl) (pv 1))
      (pss_one (ps_set (i := 1) sc_dv.nd rfl (Or.inl rfl) (pv 2))))))
    (pss_one (ps_ret (pv 0)))), ?_⟩
  refine while_by (fun σ H' => H' = H ∧ ∃ x y v, σ = [some (.int x), some (.int y), v] ∧ 0 ≤ x ∧ 0 ≤ y ∧ Int.gcd x y = Int.gcd a b) (fun σ _ => mu2 σ) ⟨rfl, a, b, none, rfl, ha, hb, rfl⟩ ?_ ?_
  · rintro σ H' ⟨rfl, x, y, v, rfl, hx, hy, g⟩
    refine ⟨_, rfl, rfl, _, rfl, ?_⟩
    refine ite2 (fun c => ?_) (fun c => ?_)
    · have c' : y ≠ 0 := by rintro rfl; exact absurd c (by decide)
      have hm := Int.emod_nonneg x c'
      have hl := Int.emod_lt_of_pos x (show 0 < y by omega)
      refine ⟨_, rfl, _, rfl, _, _, rfl, rfl, (by show 0 < y; omega), _, rfl, _, rfl, ?_⟩
      refine ⟨⟨rfl, y, x % y, some (.int (x % y)), rfl, hy, hm, by rw [gstep hx hy c']; exact g⟩, ?_⟩
      show (x % y).toNat < y.toNat
      omega
    · have c' : y = 0 := by
        by_cases z : y = 0
        · exact z
        · exact absurd (show (!decide (V.int y = V.int 0)) = true by rw [decide_eq_false (fun w => z (by injection w))]; rfl) c
      subst c'
      refine ⟨_, rfl, ?_⟩
      rw [← g, gend hx] at q
      exact q
  · intro σ H Q Q' hq h
    obtain ⟨v, e, h1, k, e2, h2⟩ := h
    exact ⟨v, e, h1, k, e2, hq _ _ h2⟩
noncomputable def frOk : Th → Th → Option (Int × Int)
  | .int a, .int b => if b = 0 then none else some (a, b)
  | _, _ => none
theorem frOk_shape {tx ty : Th} {a b : Int} (h : frOk tx ty = some (a, b)) : tx = .int a ∧ ty = .int b ∧ b ≠ 0 := by
  unfold frOk at h
  split at h
  · split at h
    · cases h
    · rename_i hz; cases h; exact ⟨rfl, rfl, hz⟩
  · cases h
theorem frOk_no1 {tx ty : Th} (h : isW tx = false) : frOk tx ty = none := by
  cases tx <;> first | rfl | cases h
theorem frOk_no2 {tx ty : Th} (h : isW ty = false) : frOk tx ty = none := by
  cases tx <;> cases ty <;> first | rfl | cases h
theorem frOk_yes {a b : Int} (h : b ≠ 0) : frOk (.int a) (.int b) = some (a, b) := if_neg h
noncomputable def spFrac (C : CA) : Sp := fun vs H Q E => ∃ x y tx ty, vs = [x, y] ∧ Den H tx x ∧ Den H ty y ∧
  (∀ a b, frOk tx ty = some (a, b) → Smk b ∧ ∀ p, H p = none → Q (.ref p) (upd H p (.tup [.int (frT a b), .int (frB a b)]))) ∧ (frOk tx ty = none → E (.ref C.NoNumber) none H)
theorem smk_frD {a b : Int} (h : b ≠ 0) (sb : Smk b) : Smk (frD a b) := by
  have h1 : (frD a b).natAbs = Int.gcd a b := by unfold frD; split <;> omega
  have h2 : Int.gcd a b ≤ b.natAbs := Nat.le_of_dvd (by omega) (Nat.gcd_dvd_right ..)
  exact Nat.lt_of_le_of_lt (by rw [h1]; exact h2) sb
theorem gcd_abs (a b : Int) : (Int.gcd (if a < 0 then -a else a) (if b < 0 then -b else b) : Int) = Int.gcd a b := by rw [gabs]
theorem sc_frac : FnScope ["top", "bottom", "divisor"] ["top", "bottom"] (defScope s_frac) := ⟨rfl, rfl, rfl, by decide +kernel, rfl, by decide +kernel, by decide +kernel⟩
theorem ok_frac {C : CA} {f : Addr} {fd : FuncData} (F : Fun K "fraction" "fraction" s_frac f fd) (T : Txt mg) (cf : CF K mg C) {fwhole : Addr} {dwhole : FuncData} (Gwhole : FnOk P w K mg base CX0 2 fwhole dwhole ["thing"] spWhole) (bwhole : Binds K dwhole ["thing"] []) (kwhole : PySem.W.keepIn K (.ref fwhole) = true) (mwhole : mg "is_whole" = some (.ref fwhole)) {fcd : Addr} {dcd : FuncData} (Gcd : FnOk P w K mg base CX0 2 fcd dcd ["one", "other"] spCd) (bcd : Binds K dcd ["one", "other"] []) (kcd : PySem.W.keepIn K (.ref fcd) = true) (mcd : mg "common_divisor" = some (.ref fcd)) : FnOk P w K mg base (CXX P w) 3 f fd ["top", "bottom"] (spFrac C) := by
  refine F.okX sc_frac (fun vs H Q E h => ?_) (fun cdv A outer s H vs Q E hr h => ?_)
  · obtain ⟨x, y, tx, ty, rfl, _⟩ := h
    rfl
  obtain ⟨x, y, tx, ty, rfl, d1, d2, q1, q2⟩ := h
  refine ⟨_, (pss_cons (ps_if (PW.pt (pw_or (pt_not (pt_val (pe_call Gwhole hr rfl mwhole kwhole bwhole .nil pass0 (pa_cons (pv 0) pa_nil)))) (pw_or1 (pt_not (pt_val (pe_call Gwhole hr rfl mwhole kwhole bwhole .nil pass0 (pa_cons (pv 1) pa_nil))))))) (pss_one (ps_raise reachOf rfl cf.xNoNumber rfl (pa_cons pe_str pa_nil))) pss_nil)
    (pss_cons (ps_if (pt_cmpR op_eq (pv 1) pe_int (nomark _)) (pss_one (ps_raise reachOf rfl cf.xNoNumber rfl (pa_cons pe_str pa_nil))) pss_nil)
    (pss_cons (ps_set (i := 2) sc_frac.nd rfl (Or.inl rfl) (pe_call Gcd hr rfl mcd kcd bcd .nil pass0 (pa_cons (pe_callB call_abs rfl T.abs boot_abs (pa_cons (pv 0) pa_nil)) (pa_cons (pe_callB call_abs rfl T.abs boot_abs (pa_cons (pv 1) pa_nil)) pa_nil))))
    (pss_cons (ps_if (pt_cmpR op_lt (pv 1) pe_int (nomark _)) (pss_one (ps_set (i := 2) sc_frac.nd rfl (Or.inl rfl) (pe_un un_neg (pv 2)))) pss_nil)
    (pss_one (ps_ret (pe_tup (pa_cons (pe_op op_fdivK (pv 0) (pv 2)) (pa_cons (pe_op op_fdivK (pv 1) (pv 2)) pa_nil))))))))), ?_⟩
  refine ⟨_, rfl, x, tx, rfl, d1, _, rfl, ?_⟩
  cases hx : isW tx with
  | false => exact iteT (iteT ⟨(by show 1 ≤ sizeLine; decide), q2 (frOk_no1 hx)⟩)
  | true =>
    refine iteF ?_
    refine ⟨_, rfl, y, ty, rfl, d2, _, rfl, ?_⟩
    cases hy : isW ty with
    | false => exact iteT ⟨(by show 1 ≤ sizeLine; decide), q2 (frOk_no2 hy)⟩
    | true =>
      refine iteF ?_
      obtain ⟨a, rfl⟩ := isW_shape hx
      obtain ⟨b, rfl⟩ := isW_shape hy
      have d1' : x = V.int a := d1
      have d2' : y = V.int b := d2
      subst d1' d2'
      refine ⟨_, rfl, rfl, _, rfl, ?_⟩
      by_cases hb : b = 0
      · subst hb
        exact iteT ⟨(by show 1 ≤ sizeLine; decide), q2 rfl⟩
      refine ite2 (fun c => absurd (by have := of_decide_eq_true c; injection this) hb) (fun _ => ?_)
      obtain ⟨sb, q⟩ := q1 a b (frOk_yes hb)
      have sd := smk_frD (a := a) hb sb
      have nd := frD_ne (t := a) hb
      have ha : 0 ≤ (if a < 0 then -a else a) := by split <;> omega
      have hb' : 0 ≤ (if b < 0 then -b else b) := by split <;> omega
      refine ⟨_, rfl, _, rfl, _, rfl, _, rfl, _, _, rfl, ha, hb', ?_⟩
      rw [gcd_abs]
      refine ⟨_, rfl, _, _, rfl, rfl, _, rfl, ?_⟩
      refine ite2 (fun c => ?_) (fun c => ?_)
      · have c' : b < 0 := of_decide_eq_true c
        have e : frD a b = -(Int.gcd a b : Int) := if_pos c'
        rw [e] at sd nd
        refine ⟨_, rfl, _, rfl, ?_⟩
        refine ⟨_, rfl, _, rfl, _, _, rfl, rfl, ⟨nd, sd⟩, _, rfl, _, rfl, _, _, rfl, rfl, ⟨nd, sd⟩, (by show 2 ≤ sizeLine; decide), fun p hp => ?_⟩
        have z := q p hp
        unfold frT frB at z
        rw [e] at z
        exact z
      · have c' : ¬ b < 0 := ofD c
        have e : frD a b = (Int.gcd a b : Int) := if_neg c'
        rw [e] at sd nd
        refine ⟨_, rfl, _, rfl, _, _, rfl, rfl, ⟨nd, sd⟩, _, rfl, _, rfl, _, _, rfl, rfl, ⟨nd, sd⟩, (by show 2 ≤ sizeLine; decide), fun p hp => ?_⟩
        have z := q p hp
        unfold frT frB at z
        rw [e] at z
        exact z
noncomputable def NewFr (H : Hp) (r : Rat) (Q : VK) : Prop := ∀ a H', Same H H' → H' a = some (.tup [.int r.num, .int (r.den : Int)]) → Q (.ref a) H'
structure FrA (H : Hp) (f : Addr) (r : Rat) : Prop where
  ob : H f = some (.tup [.int r.num, .int (r.den : Int)])
  st : Sz 4400 r.num
  sb : Sz 4400 (r.den : Int)
theorem FrA.keep {H H' : Hp} {f : Addr} {r : Rat} (h : FrA H f r) (s : Same H H') : FrA H' f r := ⟨s _ _ h.ob, h.st, h.sb⟩
theorem seq_by {t u : TS} {D : Ends} {σ : St} {H : Hp} (P : St → Hp → Prop) (h1 : ∀ N : St → Hp → Prop, (∀ σ H, P σ H → N σ H) → t { D with nx := N } σ H) (h2 : ∀ σ H, P σ H → u D σ H) : tSeq t u D σ H := h1 _ h2
noncomputable def spCellU (K : PySem.W.Frag) : Sp := fun vs H Q _ => ∃ (a : Addr) (ns : List Int) (k : Int), vs = [.ref a, .int k] ∧ SqL K H a (ns.map V.int) ∧ ns.length ≤ 63 ∧ 0 ≤ k ∧ k ≤ 400 ∧ ∀ r : Int, 0 ≤ r → r < 2147483629 → Q (.int r) H
theorem sc_cellU : FnScope ["_law_script", "_law_k", "_law_cell_here"] ["_law_script", "_law_k"] (defScope s_cellU) := ⟨rfl, rfl, rfl, by decide +kernel, rfl, by decide +kernel, by decide +kernel⟩
theorem ok_cellU {f : Addr} {fd : FuncData} (F : Fun K "_law_cell" "_law_cell" s_cellU f fd) (T : Txt mg) : FnOk P w K mg base CX0 1 f fd ["_law_script", "_law_k"] (spCellU K) := by
  refine F.ok sc_cellU (fun vs H Q E h => ?_) (fun cdv A outer s H vs Q E hr h => ?_)
  · obtain ⟨a, ns, k, rfl, _⟩ := h
    rfl
  obtain ⟨a, ns, k, rfl, hS, h63, h0, h4, q⟩ := h
  refine ⟨_, (pss_cons (ps_set (i := 2) sc_cellU.nd rfl (Or.inl rfl) pe_int)
    (pss_cons (ps_if (pt_cmpR op_gt (pe_callB call_len_seq rfl T.len boot_len (pa_cons (pv 0) pa_nil)) pe_int (nomark _)) (pss_one (ps_set (i := 2) sc_cellU.nd rfl (Or.inl rfl) (pe_ix ix_list (pv 0) (pe_op op_mod (pv 1) (pe_callB call_len_seq rfl T.len boot_len (pa_cons (pv 0) pa_nil))) (fun _ _ => rfl)))) pss_nil)
    (pss_cons (ps_set (i := 2) sc_cellU.nd rfl (Or.inl rfl) (pe_op op_mod (pe_op op_mul (pe_op op_add (pe_op op_add (pe_op op_mod (pv 2) pe_int) (pe_op op_mul pe_int (pv 1))) pe_int) pe_int) pe_int))
    (pss_one (ps_ret (pe_op op_mod (pe_op op_mul (pv 2) (pe_op op_add (pe_op op_add (pe_op op_mod (pv 2) pe_int) (pv 1)) pe_int)) pe_int)))))), ?_⟩
  have hl : (ns.map V.int).length = ns.length := List.length_map _
  have M1 : (0 : Int) < 2147483629 := by decide
  have M2 : (0 : Int) < 2147483647 := by decide
  dsimp only
  refine seq_by (fun σ H' => H' = H ∧ ∃ x : Int, σ = [some (.ref a), some (.int k), some (.int x)]) ?_ ?_
  · intro M hM
    exact hM _ _ ⟨rfl, _, rfl⟩
  rintro σ H' ⟨rfl, x0, rfl⟩
  refine seq_by (fun σ H'' => H'' = H' ∧ ∃ x : Int, σ = [some (.ref a), some (.int k), some (.int x)]) ?_ ?_
  · intro M hM
    refine ⟨_, rfl, a, _, rfl, .inl hS, _, _, rfl, rfl, _, rfl, ?_⟩
    refine ite2 (fun c => ?_) (fun c => ?_)
    · have c' : (0 : Int) < (((ns.map V.int).length : Nat) : Int) := of_decide_eq_true c
      rw [hl] at c'
      refine ⟨_, rfl, _, rfl, _, rfl, a, _, rfl, .inl hS, _, _, rfl, rfl, (by rw [hl]; exact c'), a, _, _, _, rfl, rfl, hS, at_getD (md0 _ (by rw [hl]; exact c')) (by rw [hl]; exact md1 _ c'), hM _ _ ⟨rfl, _, rfl⟩⟩
    · exact hM _ _ ⟨rfl, _, rfl⟩
  rintro σ H'' ⟨rfl, x, rfl⟩
  refine ⟨_, rfl, _, _, rfl, rfl, M1, _, rfl, _, _, rfl, rfl, .inl ⟨by decide, by decide⟩, _, _, rfl, rfl, _, _, rfl, rfl, _, _, rfl, rfl, .inr ⟨by decide, by decide⟩, _, _, rfl, rfl, M2, ?_⟩
  generalize (x % 2147483629 + 6151 * k + 1) * 48271 = y
  have y0 := md0 y M2
  have y1 := md1 y M2
  refine ⟨_, rfl, _, rfl, _, _, rfl, rfl, (by show (0 : Int) < 65519; decide), _, rfl, _, _, rfl, rfl, _, _, rfl, rfl, _, _, rfl, rfl, .inl ⟨by omega, by omega⟩, _, _, rfl, rfl, M1, ?_⟩
  exact q _ (md0 _ M1) (md1 _ M1)
theorem same_write {H H1 : Hp} {l : Addr} {o : HO} (s : Same H H1) (hl : H l = none) : Same H (upd H1 l o) := fun b u e => by rw [upd_ne (ne_of_none e hl)]; exact s b u e
open Ei Ec
noncomputable def spWv : Sp := fun vs H Q _ => ∃ (w f : Addr) (v : Int) (o : Obj) (ws fs : List (Int × Int)) (fw ff : Int → Int), vs = [.ref w, .ref f, .int v] ∧ Rd H w (.dK (embI ws)) ∧ H f = some (.frz o (.dK (embI fs))) ∧ DOk ws fw ∧ DOk fs ff ∧ ws.length + fs.length ≤ 900 ∧
  ∀ p H' rs o', Same H H' → H' p = some (.frz o' (.dK (embI rs))) → DOk rs (fun t => fw t + ff (t - v)) → rs.length ≤ ws.length + fs.length → Q (.ref p) H'
theorem sc_wv : FnScope ["without", "fewer", "value", "counts", "total", "count"] ["without", "fewer", "value"] (defScope s_wv) := ⟨rfl, rfl, rfl, by decide +kernel, rfl, by decide +kernel, by decide +kernel⟩
theorem ok_wv {f : Addr} {fd : FuncData} (F : Fun K "with_value" "with_value" s_wv f fd) (T : Txt mg) : FnOk P w K mg base CX0 1 f fd ["without", "fewer", "value"] spWv := by
  refine F.ok sc_wv (fun vs H Q E h => ?_) (fun cdv A outer s H vs Q E hr h => ?_)
  · obtain ⟨w, f, v, o, ws, fs, fw, ff, rfl, _⟩ := h
    rfl
  obtain ⟨w, f, v, o, ws, fs, fw, ff, rfl, hw, hf, dw, df, hl, q⟩ := h
  refine ⟨_, (pss_cons (ps_set (i := 3) sc_wv.nd rfl (Or.inl rfl) (pe_callTy call_dictD rfl T.dict boot_dict (pa_cons (pv 0) pa_nil)))
    (pss_cons (ps_for PassesOwn.never rfl (pi_items (pv 1) ⟨rfl, rfl, rfl, rfl⟩) (pg_tup rfl (pgs_cons (pg_name (i := 4) sc_wv.nd rfl (Or.inl rfl)) (pgs_cons (pg_name (i := 5) sc_wv.nd rfl (Or.inl rfl)) pgs_nil))) (pss_one (ps_dput (hu_of hr) (pv 3) (pe_op op_add (pv 4) (pv 2)) (pe_op op_add (pe_dget2 (hu_of hr) (pv 3) (pe_op op_add (pv 4) (pv 2)) pe_int ⟨rfl, rfl, rfl, rfl⟩) (pv 5)) rfl)))
    (pss_one (ps_ret (pe_frz (pv 3)))))), ?_⟩
  refine ⟨_, rfl, w, embI ws, rfl, hw, fun c hc => ?_⟩
  have s1 := same_new hc (.dK (embI ws))
  have x1 : upd H c (.dK (embI ws)) c = some (.dK (embI ws)) := upd_same
  generalize upd H c (.dK (embI ws)) = H1 at *
  refine ⟨_, rfl, f, o, _, rfl, s1 _ _ hf, ?_⟩
  refine for_items (kvs := embI fs) (fun i σ G => Same H G ∧ ∃ (cs : List (Int × Int)) (v4 v5 : Option V), σ = [some (.ref w), some (.ref f), some (.int v), some (.ref c), v4, v5] ∧ G c = some (.dK (embI cs)) ∧ DOk cs (fun t => fw t + acc (fs.take i) v t) ∧ cs.length ≤ ws.length + i)
    ⟨s1, ws, none, none, rfl, x1, dw.congr fun t => (by show fw t = fw t + 0; omega), Nat.le_refl _⟩ (fun i σ G _ h => h.1 _ _ hf) ?_ ?_
  · rintro i kv T0 σ G hkv hT ⟨sm, cs, v4, v5, rfl, hcG, dc, lc⟩
    obtain ⟨p, ep, rfl⟩ := embI_at hkv
    have hi : i < fs.length := (List.getElem?_eq_some_iff.mp ep).1
    have sT := same_new hT (.tup [V.int p.1, V.int p.2])
    have hcT := sT _ _ hcG
    have xT : upd G T0 (.tup [V.int p.1, V.int p.2]) T0 = some (.tup [V.int p.1, V.int p.2]) := upd_same
    refine ⟨T0, [V.int p.1, V.int p.2], rfl, SqT.of xT, rfl, V.int p.1, [V.int p.2], rfl, V.int p.2, [], rfl, rfl, ?_⟩
    show sDPut _ _ _ _ _ (upd G T0 (.tup [V.int p.1, V.int p.2]))
    have hp1 : 1 ≤ p.2 := df.pos p (List.mem_of_getElem? ep)
    generalize upd G T0 (.tup [V.int p.1, V.int p.2]) = G1 at *
    refine ⟨_, rfl, c, rfl, .inl ⟨_, .inl hcT⟩, _, rfl, _, rfl, _, _, rfl, rfl, _, DGet.k (k := Sum.inl (p.1 + v)) hcT, _, rfl, _, _, getI_emb cs (p.1 + v), rfl, ?_⟩
    refine ⟨_, rfl, _, rfl, _, rfl, _, _, rfl, rfl, c, _, rfl, DPut.k (k := Sum.inl (p.1 + v)) hcT (by rw [embI_len]; exact lt40 (by omega)), ?_⟩
    have tk : fs.take (i + 1) = fs.take i ++ [p] := by rw [List.take_add_one, ep]; rfl
    refine ⟨same_write (sm.trans sT) hc, putI cs (p.1 + v) (valI cs (p.1 + v) + p.2), _, _, rfl, ?_, (dc.put (p.1 + v) hp1).congr fun t => ?_, Nat.le_trans (lenI_put ..) (by omega)⟩
    · rw [upd_same, putK_embI]
    · rw [tk, acc_snoc]
      omega
  · rintro σ G ⟨sm, cs, v4, v5, rfl, hcG, dc, lc⟩
    rw [embI_len] at dc lc
    rw [List.take_length] at dc
    refine ⟨_, rfl, c, _, rfl, hcG, fun o' => ?_⟩
    refine q c _ cs o' (same_write sm hc) upd_same (dc.congr fun t => ?_) lc
    rw [acc_all df.nd, df.val]
noncomputable def DL (H : Hp) (us : List Int) (xs : List V) : Prop := ∀ j x, xs[j]? = some x → ∃ d o ds, x = .ref d ∧ H d = some (.frz o (.dK (embI ds))) ∧ DOk ds (cnR us j) ∧ ds.length ≤ ch us.length j
theorem DL.keep {H H' : Hp} {us : List Int} {xs : List V} (h : DL H us xs) (s : Same H H') : DL H' us xs := fun j x e => by
  obtain ⟨d, o, ds, e1, e2, e3⟩ := h j x e
  exact ⟨d, o, ds, e1, s _ _ e2, e3⟩
noncomputable def DM (H : Hp) (us : List Int) (k0 : Nat) (xs : List V) : Prop := ∀ j x, xs[j]? = some x → ∃ d o ds, x = .ref d ∧ H d = some (.frz o (.dK (embI ds))) ∧ DOk ds (cnR us (k0 + j)) ∧ ds.length ≤ ch us.length (k0 + j)
theorem DM.write {H H4 : Hp} {D : Addr} {us : List Int} {k0 : Nat} {ys : List V} {d : Addr} {o : Obj} {ds : List (Int × Int)} (s : Same H H4) (e : H D = some (.lst ys)) (h : DM H us k0 ys) (hd : H4 d = some (.frz o (.dK (embI ds)))) (ok : DOk ds (cnR us (k0 + ys.length))) (hl : ds.length ≤ ch us.length (k0 + ys.length)) :
    DM (upd H4 D (.lst (ys ++ [.ref d]))) us k0 (ys ++ [.ref d]) := fun j x ex => by
  have k : ∀ {c o' kvs}, H4 c = some (.frz o' (.dK kvs)) → upd H4 D (.lst (ys ++ [.ref d])) c = some (.frz o' (.dK kvs)) := fun hc => by rw [upd_ne (ne_of hc (s _ _ e) (by intro z; cases z))]; exact hc
  by_cases c : j < ys.length
  · rw [List.getElem?_append_left c] at ex
    obtain ⟨d', o', ds', e1, e2, e3⟩ := h j x ex
    exact ⟨d', o', ds', e1, k (s _ _ e2), e3⟩
  · have hj : j = ys.length := by
      have := (List.getElem?_eq_some_iff.mp ex).1
      simp at this
      omega
    subst hj
    rw [List.getElem?_append_right (Nat.le_refl _), Nat.sub_self] at ex
    have ex' : V.ref d = x := by simpa using ex
    exact ⟨d, o, ds, ex'.symm, k hd, ok, hl⟩
noncomputable def spCbs : Sp := fun vs H Q _ => ∃ (a : Addr) (us : List Int) (sz : Nat), vs = [.ref a, .int sz] ∧ H a = some (.lst (us.map V.int)) ∧ us.length ≤ 10 ∧ sz ≤ 10 ∧
  ∀ p H' ds o, Same H H' → H' p = some (.frz o (.dK (embI ds))) → DOk ds (cnR us sz) → ds.length ≤ ch us.length sz → Q (.ref p) H'
theorem ch_le {m j : Nat} (h1 : m ≤ 10) (h2 : j ≤ 10) : ch m j ≤ 252 := ch10 m (by omega) j (by omega)
theorem sc_cbs : FnScope ["values", "size", "chosen", "value"] ["values", "size"] (defScope s_cbs) := ⟨rfl, rfl, rfl, by decide +kernel, rfl, by decide +kernel, by decide +kernel⟩
theorem ok_cbs {f : Addr} {fd : FuncData} (F : Fun K "counts_by_sum" "counts_by_sum" s_cbs f fd) (T : Txt mg) {fwv : Addr} {dwv : FuncData} (Gwv : FnOk P w K mg base CX0 1 fwv dwv ["without", "fewer", "value"] spWv) (bwv : Binds K dwv ["without", "fewer", "value"] []) (kwv : PySem.W.keepIn K (.ref fwv) = true) (mwv : mg "with_value" = some (.ref fwv)) : FnOk P w K mg base CX0 2 f fd ["values", "size"] spCbs := by
  refine F.ok sc_cbs (fun vs H Q E h => ?_) (fun cdv A outer s H vs Q E hr h => ?_)
  · obtain ⟨a, us, sz, rfl, _⟩ := h
    rfl
  obtain ⟨a, us, sz, rfl, ha, hu, hz, q⟩ := h
  refine ⟨_, (pss_cons (ps_set (i := 2) sc_cbs.nd rfl (Or.inr rfl) (pe_op op_cat (pe_lst (pa_cons (pe_frz (pe_disp (pps_cons pe_int pe_int pps_nil) rfl rfl (by simp) (by decide))) pa_nil)) (pe_comp (ts := []) rfl ⟨rfl, sub0, rfl, rfl, rfl, rfl, by decide +kernel, rfl, rfl⟩ (pi_range1 rfl T.range (pa_cons (pv 1) pa_nil)) (fun C s3 H3 fp => (pe_frz pe_dnewK)))))
    (pss_cons (ps_for PassesOwn.never rfl (pi_list (pv 0)) (pg_name (i := 3) sc_cbs.nd rfl (Or.inr rfl)) (pss_one (ps_set (i := 2) sc_cbs.nd rfl (Or.inr rfl) (pe_op op_cat (pe_lst (pa_cons (pe_ix ix_list (pv 2) pe_int (fun _ _ => rfl)) pa_nil)) (pe_comp (ts := [("value", 3), ("chosen", 2)]) rfl ⟨rfl, sub2 rfl rfl, rfl, rfl, rfl, rfl, by decide +kernel, rfl, rfl⟩ (pi_range2 rfl T.range (pa_cons pe_int (pa_cons (pe_op op_add (pv 1) pe_int) pa_nil))) (fun C s3 H3 fp => (pe_call Gwv hr rfl mwv kwv bwv .nil pass0 (pa_cons (pe_ix ix_listC (pv 2) (pv 0) (fun _ _ => rfl)) (pa_cons (pe_ix ix_listC (pv 2) (pe_op op_sub (pv 0) pe_int) (fun _ _ => rfl)) (pa_cons (pv 1) pa_nil))))))))))
    (pss_one (ps_ret (pe_ix ix_list (pv 2) (pv 1) (fun _ _ => rfl)))))), ?_⟩
  have one : 1 ≤ sizeLine := by decide
  refine fun d0 hd0 => ⟨upd_same, [(Sum.inl 0, V.int 1)], rfl, by decide, d0, _, rfl, upd_same, fun o0 => ?_⟩
  have k1 : ∀ b u, H b = some u → upd (upd (upd H d0 (.dK [])) d0 (.dK (mergeK [] [(Sum.inl 0, V.int 1)]))) d0 (.frz o0 (.dK (mergeK [] [(Sum.inl 0, V.int 1)]))) b = some u := fun b u e => by
    have n : b ≠ d0 := ne_of_none e hd0
    rw [upd_ne n, upd_ne n, upd_ne n]
    exact e
  have x1 : upd (upd (upd H d0 (.dK [])) d0 (.dK (mergeK [] [(Sum.inl 0, V.int 1)]))) d0 (.frz o0 (.dK (mergeK [] [(Sum.inl 0, V.int 1)]))) d0 = some (.frz o0 (.dK (embI [(0, 1)]))) := upd_same
  generalize upd (upd (upd H d0 (.dK [])) d0 (.dK (mergeK [] [(Sum.inl 0, V.int 1)]))) d0 (.frz o0 (.dK (mergeK [] [(Sum.inl 0, V.int 1)]))) = H1 at *
  have s1 : Same H H1 := k1
  refine ⟨one, fun L1 h1 => ?_⟩
  have s2 := same_new h1 (.lst [V.ref d0])
  have x2 : upd H1 L1 (.lst [V.ref d0]) L1 = some (.lst [V.ref d0]) := upd_same
  generalize upd H1 L1 (.lst [V.ref d0]) = H2 at *
  refine ⟨_, rfl, _, rfl, by omega, by omega, fun D hD => ?_⟩
  refine comp_rangeR (fun i ys G => DM G [] 1 ys ∧ ys.length = i) hD (Nat.le_of_lt (lt40 (by omega))) ⟨fun j x e => (by simp at e), rfl⟩ ?_ ?_
  · rintro i ys G k hi sm e ⟨dm, ly⟩ hk
    refine fun p hp => ⟨p, _, rfl, upd_same, fun o' => hk _ _ (fun b u eb => ?_) ⟨?_, by simp [ly]⟩⟩
    · have n : b ≠ p := ne_of_none eb hp
      rw [upd_ne n, upd_ne n]
      exact eb
    · refine DM.write (H := G) (fun b u eb => ?_) e dm (d := p) (o := o') (ds := []) upd_same ⟨List.nodup_nil, fun t => ?_, fun p hp => by cases hp⟩ (Nat.zero_le _)
      · have n : b ≠ p := ne_of_none eb hp
        rw [upd_ne n, upd_ne n]
        exact eb
      · rw [show 1 + ys.length = ys.length + 1 by omega]
        rfl
  rintro ys H3 s3 hD3 ly ⟨dm, ly2⟩
  refine ⟨L1, D, _, _, rfl, rfl, s3 _ _ x2, hD3, Nat.le_of_lt (lt40 (by simp; omega)), fun C hC => ?_⟩
  have s4 := same_new hC (.lst ([V.ref d0] ++ ys))
  have x4 : upd H3 C (.lst ([V.ref d0] ++ ys)) C = some (.lst ([V.ref d0] ++ ys)) := upd_same
  have hd04 := (s2.trans (s3.trans s4)) _ _ x1
  have dl0 : DL (upd H3 C (.lst ([V.ref d0] ++ ys))) [] ([V.ref d0] ++ ys) := fun j x e => by
    cases j with
    | zero =>
      have e' : V.ref d0 = x := by simpa using e
      refine ⟨d0, o0, [(0, 1)], e'.symm, hd04, ⟨by simp [NdI], fun t => ?_, fun p hp => by rw [List.mem_singleton.mp hp]; exact Int.le_refl _⟩, Nat.le_refl _⟩
      show valI [(0, 1)] t = if t = 0 then 1 else 0
      unfold valI
      rw [lookI_cons]
      by_cases c : (0 : Int) = t
      · rw [if_pos c, if_pos c.symm]; rfl
      · rw [if_neg c, if_neg (fun z => c z.symm)]; rfl
    | succ j =>
      obtain ⟨d, o, ds, e1, e2, e3⟩ := dm j x (by simpa using e)
      rw [Nat.add_comm] at e3
      exact ⟨d, o, ds, e1, s4 _ _ e2, e3⟩
  have lx : ([V.ref d0] ++ ys).length = sz + 1 := by simp; omega
  generalize [V.ref d0] ++ ys = xs at *
  generalize upd H3 C (.lst xs) = H4 at *
  have s04 := s1.trans (s2.trans (s3.trans s4))
  refine ⟨_, rfl, a, rfl, ⟨_, SqL.of (s04 _ _ ha)⟩, ?_⟩
  refine for_list (xs := us.map V.int) (fun i σ G => Same H G ∧ ∃ (C : Addr) (xs : List V) (v3 : Option V), σ = [some (.ref a), some (.int sz), some (.ref C), v3] ∧ G C = some (.lst xs) ∧ xs.length = sz + 1 ∧ DL G (us.take i) xs) ⟨s04, C, xs, none, rfl, x4, lx, dl0⟩ (fun i σ G _ h => SqL.of (h.1 _ _ ha)) ?_ ?_
  · rintro i x σ G hx ⟨sG, C, xs, v3, rfl, hC, lx, dl⟩
    have hi : i < us.length := by have := (List.getElem?_eq_some_iff.mp hx).1; simpa using this
    have ev : us[i]? = some us[i] := List.getElem?_eq_getElem hi
    rw [List.getElem?_map, ev] at hx
    have hx' : V.int us[i] = x := by simpa using hx
    subst hx'
    generalize us[i] = v at *
    have tk : us.take (i + 1) = us.take i ++ [v] := by rw [List.take_add_one, ev]; rfl
    have lt : (us.take i).length = i := by simp; omega
    have e0 := List.getElem?_eq_getElem (show 0 < xs.length by omega)
    refine ⟨_, rfl, C, xs, 0, _, rfl, rfl, SqL.of hC, atI_nat (j := 0) e0, one, fun L1 h1 => ?_⟩
    have w1 := same_new h1 (.lst [xs[0]])
    have y1 : upd G L1 (.lst [xs[0]]) L1 = some (.lst [xs[0]]) := upd_same
    generalize upd G L1 (.lst [xs[0]]) = G1 at *
    have hC1 := w1 _ _ hC
    have dl1 := dl.keep w1
    refine ⟨_, rfl, _, _, rfl, rfl, _, _, rfl, ⟨by decide, by decide, by omega, by omega⟩, fun D hD => ?_⟩
    have en : ((sz : Int) + 1 - 1).toNat = sz := by omega
    rw [en]
    refine comp_rangeR (fun i' ys G' => DM G' (us.take (i + 1)) 1 ys ∧ ys.length = i') hD (Nat.le_of_lt (lt40 (by omega))) ⟨fun j x e => (by simp at e), rfl⟩ ?_ ?_
    · rintro j ys G2 k hj sm e ⟨dm, ly⟩ hk
      have ea := List.getElem?_eq_getElem (show j + 1 < xs.length by omega)
      have eb := List.getElem?_eq_getElem (show j < xs.length by omega)
      obtain ⟨da, oa, dsa, za1, za2, za3, za4⟩ := (dl1.keep sm) (j + 1) _ ea
      obtain ⟨db, ob, dsb, zb1, zb2, zb3, zb4⟩ := (dl1.keep sm) j _ eb
      rw [za1] at ea
      rw [zb1] at eb
      have i1 : (1 : Int) + (j : Int) = ((j + 1 : Nat) : Int) := by omega
      have i2 : (1 : Int) + (j : Int) - 1 = (j : Int) := by omega
      have b1 := ch_le (m := (us.take i).length) (j := j + 1) (by omega) (by omega)
      have b2 := ch_le (m := (us.take i).length) (j := j) (by omega) (by omega)
      refine ⟨_, rfl, _, rfl, C, xs, _, _, rfl, rfl, SqL.of (sm _ _ hC1), (by show atI xs ((1 : Int) + (j : Int)) = _; rw [i1]; exact atI_nat ea), _, rfl, _, rfl, _, _, rfl, rfl, C, xs, _, _, rfl, rfl, SqL.of (sm _ _ hC1), (by show atI xs ((1 : Int) + (j : Int) - 1) = _; rw [i2]; exact atI_nat eb), _, rfl, da, db, v, ob, dsa, dsb, _, _, rfl, .inr ⟨oa, za2⟩, zb2, za3, zb3, by omega, fun p H5 rs o' s5 hp dr lr => hk _ _ s5 ⟨?_, by simp [ly]⟩⟩
      refine DM.write s5 e dm hp (dr.congr fun t => ?_) ?_
      · rw [tk, show 1 + ys.length = j + 1 by omega, cnR_snoc]
      · rw [tk, show 1 + ys.length = j + 1 by omega, List.length_append]
        show rs.length ≤ ch ((us.take i).length + 1) (j + 1)
        show rs.length ≤ ch (us.take i).length (j + 1) + ch (us.take i).length j
        omega
    rintro ys H5 s5 hD5 ly ⟨dm, ly2⟩
    refine ⟨L1, D, _, _, rfl, rfl, s5 _ _ y1, hD5, Nat.le_of_lt (lt40 (by simp; omega)), fun C2 hC2 => ?_⟩
    have s6 := same_new hC2 (.lst ([xs[0]] ++ ys))
    refine ⟨sG.trans (w1.trans (s5.trans s6)), C2, _, _, rfl, upd_same, by simp; omega, fun j x e => ?_⟩
    cases j with
    | zero =>
      have e' : xs[0] = x := by simpa using e
      obtain ⟨d, o, ds, z1, z2, z3, z4⟩ := dl 0 _ e0
      refine ⟨d, o, ds, e'.symm.trans z1, (w1.trans (s5.trans s6)) _ _ z2, z3.congr fun t => ?_, ?_⟩
      · rw [tk, cnR_snoc0]
      · rw [tk, List.length_append]
        exact Nat.le_trans z4 (ch_mono ..)
    | succ j =>
      obtain ⟨d, o, ds, e1, e2, e3⟩ := dm j x (by simpa using e)
      rw [show 1 + j = j + 1 by omega] at e3
      exact ⟨d, o, ds, e1, s6 _ _ e2, e3⟩
  · rintro σ G ⟨sG, C, xs, v3, rfl, hC, lx, dl⟩
    rw [List.length_map, List.take_length] at dl
    have e0 := List.getElem?_eq_getElem (show sz < xs.length by omega)
    obtain ⟨d, o, ds, z1, z2, z3, z4⟩ := dl sz _ e0
    rw [z1] at e0
    exact ⟨_, rfl, _, rfl, C, xs, _, _, rfl, rfl, SqL.of hC, atI_nat e0, q d G ds o sG z2 z3 z4⟩
open Ei Ec
theorem none_of {H H' : Hp} {l : Addr} (s : Same H H') (h : H' l = none) : H l = none := by
  cases e : H l with
  | none => rfl
  | some u => rw [s _ _ e] at h; cases h
noncomputable def PrL (H : Hp) : List (Int × Int) → List V → Prop
  | [], xs => xs = []
  | p :: ps, xs => ∃ a ys, xs = .ref a :: ys ∧ H a = some (.tup [.int p.1, .int p.2]) ∧ PrL H ps ys
theorem PrL.keep {H H' : Hp} (s : Same H H') : ∀ {ps : List (Int × Int)} {xs : List V}, PrL H ps xs → PrL H' ps xs
  | [], _, h => h
  | _ :: _, _, ⟨a, ys, e, h1, h2⟩ => ⟨a, ys, e, s _ _ h1, h2.keep s⟩
theorem PrL.len {H : Hp} : ∀ {ps : List (Int × Int)} {xs : List V}, PrL H ps xs → xs.length = ps.length
  | [], _, h => by rw [show _ = [] from h]; rfl
  | _ :: _, _, ⟨a, ys, e, h1, h2⟩ => by rw [e, List.length_cons, List.length_cons, h2.len]
theorem PrL.get {H : Hp} : ∀ {ps : List (Int × Int)} {xs : List V} {i : Nat} {p : Int × Int}, PrL H ps xs → ps[i]? = some p → ∃ a, xs[i]? = some (.ref a) ∧ H a = some (.tup [.int p.1, .int p.2])
  | _ :: _, _, 0, p, ⟨a, ys, e, h1, h2⟩, q => by
    rw [List.getElem?_cons_zero] at q; cases q
    exact ⟨a, by rw [e]; rfl, h1⟩
  | _ :: _, _, i + 1, p, ⟨a, ys, e, h1, h2⟩, q => by
    rw [List.getElem?_cons_succ] at q
    obtain ⟨b, f, g⟩ := h2.get q
    exact ⟨b, by rw [e, List.getElem?_cons_succ]; exact f, g⟩
theorem PrL.write {H : Hp} {l : Addr} {zs ws : List V} (hl : H l = some (.lst zs)) : ∀ {ps : List (Int × Int)} {xs : List V}, PrL H ps xs → PrL (upd H l (.lst ws)) ps xs
  | [], _, h => h
  | _ :: _, _, ⟨a, ys, e, h1, h2⟩ => ⟨a, ys, e, by rw [upd_ne (ne_of h1 hl (by intro z; cases z))]; exact h1, h2.write hl⟩
theorem PrL.snoc {H : Hp} : ∀ {ps : List (Int × Int)} {xs : List V} {p : Int × Int} {a : Addr}, PrL H ps xs → H a = some (.tup [.int p.1, .int p.2]) → PrL H (ps ++ [p]) (xs ++ [.ref a])
  | [], xs, p, a, h, k => by rw [show xs = [] from h]; exact ⟨a, [], rfl, k, rfl⟩
  | _ :: _, _, p, a, ⟨b, ys, e, h1, h2⟩, k => by rw [e]; exact ⟨b, _, rfl, h1, h2.snoc k⟩
noncomputable def spSums : Sp := fun vs H Q _ => ∃ (a b : Addr) (as bs : List Int), vs = [.ref a, .ref b] ∧ H a = some (.lst (as.map V.int)) ∧ H b = some (.lst (bs.map V.int)) ∧ as.length + bs.length ≤ 10 ∧
  ∀ l H' (ms : List Int) xs, Same H H' → H l = none → H' l = some (.lst xs) → PrL H' (ms.map fun t => (t, cnR (as ++ bs) as.length t)) xs → ms.Nodup → ms.Pairwise (· ≤ ·) → (∀ t, t ∈ ms ↔ cnR (as ++ bs) as.length t ≠ 0) → ms.length ≤ 252 → Q (.ref l) H'
theorem sc_sums : FnScope ["one", "other", "counts"] ["one", "other"] (defScope s_sums) := ⟨rfl, rfl, rfl, by decide +kernel, rfl, by decide +kernel, by decide +kernel⟩
theorem ok_sums {f : Addr} {fd : FuncData} (F : Fun K "sums" "sums" s_sums f fd) (T : Txt mg) {fcbs : Addr} {dcbs : FuncData} (Gcbs : FnOk P w K mg base CX0 2 fcbs dcbs ["values", "size"] spCbs) (bcbs : Binds K dcbs ["values", "size"] []) (kcbs : PySem.W.keepIn K (.ref fcbs) = true) (mcbs : mg "counts_by_sum" = some (.ref fcbs)) : FnOk P w K mg base CX0 3 f fd ["one", "other"] spSums := by
  refine F.ok sc_sums (fun vs H Q E h => ?_) (fun cdv A outer s H vs Q E hr h => ?_)
  · obtain ⟨a, b, as, bs, rfl, _⟩ := h
    rfl
  obtain ⟨a, b, as, bs, rfl, ha, hb, hl, q⟩ := h
  refine ⟨_, (pss_cons (ps_set (i := 2) sc_sums.nd rfl (Or.inr rfl) (pe_call Gcbs hr rfl mcbs kcbs bcbs .nil pass0 (pa_cons (pe_op op_cat (pe_callTy call_list_of rfl T.list boot_list (pa_cons (pv 0) pa_nil)) (pe_callTy call_list_of rfl T.list boot_list (pa_cons (pv 1) pa_nil))) (pa_cons (pe_callB call_len_seq rfl T.len boot_len (pa_cons (pv 0) pa_nil)) pa_nil))))
    (pss_one (ps_ret (pe_comp (ts := [("counts", 2)]) rfl ⟨rfl, sub1 rfl, rfl, rfl, rfl, rfl, by decide +kernel, rfl, rfl⟩ (pi_list (pe_callB (call_sortedE rfl) rfl T.sorted boot_sorted (pa_cons (pv 2) pa_nil))) (fun C s3 H3 fp => (pe_tup (pa_cons (pv 0) (pa_cons (pe_dget (hu_of hr) (pv 1) (pv 0) (fun _ _ => rfl)) pa_nil)))))))), ?_⟩
  have two : 2 ≤ sizeLine := by decide
  refine ⟨_, rfl, a, _, rfl, .inl (SqL.of ha), fun c1 h1 => ?_⟩
  have w1 := same_new h1 (.lst (as.map V.int))
  have x1 : upd H c1 (.lst (as.map V.int)) c1 = some (.lst (as.map V.int)) := upd_same
  generalize upd H c1 (.lst (as.map V.int)) = H1 at *
  refine ⟨_, rfl, b, _, rfl, .inl (SqL.of (w1 _ _ hb)), fun c2 h2 => ?_⟩
  have w2 := same_new h2 (.lst (bs.map V.int))
  have x2 : upd H1 c2 (.lst (bs.map V.int)) c2 = some (.lst (bs.map V.int)) := upd_same
  generalize upd H1 c2 (.lst (bs.map V.int)) = H2 at *
  refine ⟨c1, c2, _, _, rfl, rfl, w2 _ _ x1, x2, Nat.le_of_lt (lt40 (by simp; omega)), fun c3 h3 => ?_⟩
  have w3 := same_new h3 (.lst (as.map V.int ++ bs.map V.int))
  have x3 : upd H2 c3 (.lst (as.map V.int ++ bs.map V.int)) c3 = some (.lst ((as ++ bs).map V.int)) := by rw [upd_same, List.map_append]
  generalize upd H2 c3 (.lst (as.map V.int ++ bs.map V.int)) = H3 at *
  have s3 := (w1.trans w2).trans w3
  have el : (((as.map V.int).length : Nat) : Int) = ((as.length : Nat) : Int) := by rw [List.length_map]
  refine ⟨_, rfl, a, _, rfl, .inl (SqL.of (s3 _ _ ha)), c3, as ++ bs, as.length, ?_, x3, by simp; omega, by omega, fun p H4 ds o s4 hp dk ld => ?_⟩
  · rw [el] <;> rfl
  have b1 := ch_le (m := (as ++ bs).length) (j := as.length) (by simp; omega) (by omega)
  have ek : ((embI ds).map fun kv => kV kv.1) = (ds.map (·.1)).map V.int := by unfold embI; rw [List.map_map, List.map_map]; rfl
  refine ⟨_, rfl, p, embI ds, ds.map (·.1), rfl, .inr ⟨o, hp⟩, ek, by rw [List.length_map]; omega, fun D0 ms hD0 pm pw => ?_⟩
  have w5 := same_new hD0 (.lst (ms.map V.int))
  have x5 : upd H4 D0 (.lst (ms.map V.int)) D0 = some (.lst (ms.map V.int)) := upd_same
  generalize upd H4 D0 (.lst (ms.map V.int)) = H5 at *
  have hp5 := w5 _ _ hp
  have lm : ms.length ≤ 252 := by rw [pm.length_eq, List.length_map]; omega
  have mm : ∀ t, t ∈ ms ↔ cnR (as ++ bs) as.length t ≠ 0 := fun t => pm.mem_iff.trans dk.mem
  refine ⟨D0, rfl, ⟨_, SqL.of x5⟩, fun D hD => ?_⟩
  refine comp_listR (xs := ms.map V.int) (fun i ys G => PrL G ((ms.take i).map fun t => (t, cnR (as ++ bs) as.length t)) ys) hD (SqL.of x5) (Nat.le_of_lt (lt40 (by rw [List.length_map]; omega))) rfl ?_ ?_
  · rintro i x ys G k hx sm e rr hk
    have hi : i < ms.length := by have := (List.getElem?_eq_some_iff.mp hx).1; simpa using this
    have et := List.getElem?_eq_getElem hi
    rw [List.getElem?_map, et] at hx
    have hx' : V.int ms[i] = x := by simpa using hx
    subst hx'
    have hm : ms[i] ∈ ds.map (·.1) := pm.mem_iff.mp (List.getElem_mem hi)
    obtain ⟨pr, hpr, epr⟩ := List.mem_map.mp hm
    have hv : pr.2 = cnR (as ++ bs) as.length ms[i] := by
      rw [← dk.val, ← epr]
      unfold valI
      rw [memI_look dk.nd hpr]
      rfl
    have g := dgetI_at (H := G) (d := p) (.inr ⟨o, sm _ _ hp5⟩) dk.nd hpr
    rw [show (pr.1 : Int) = ms[i] from epr] at g
    refine ⟨_, rfl, _, rfl, _, rfl, p, _, rfl, g, two, fun t ht => hk _ _ (same_new ht _) ?_⟩
    have st := same_new ht (.tup [V.int ms[i], V.int pr.2])
    rw [List.take_add_one, et, List.map_append]
    refine PrL.write (st _ _ e) (PrL.snoc (rr.keep st) ?_)
    rw [upd_same, hv]
  · rintro ys G s6 hD6 ly rr
    rw [List.length_map, List.take_length] at rr
    refine q D G ms ys ((s3.trans s4).trans (w5.trans s6)) (none_of ((s3.trans s4).trans w5) hD) hD6 rr ?_ pw mm lm
    exact pm.nodup_iff.mpr dk.nd
open Ei Ec
theorem sz_nat {n : Nat} (h : n ≤ 2000) : Sz 20 (n : Int) := Nat.lt_of_le_of_lt (show ((n : Int)).natAbs ≤ 2000 by omega) (by decide)
theorem rq_mul {t b : Int} (hb : 0 < b) : rq t b * (b : Rat) = (t : Rat) := by
  have hq : (b : Rat) ≠ 0 := by intro e; have : b = 0 := by exact_mod_cast e
                                omega
  unfold rq
  grind
noncomputable def spShr : Sp := fun vs H Q _ => ∃ (a b : Addr) (as bs S : List Int), vs = [.ref a, .ref b] ∧ H a = some (.lst (as.map V.int)) ∧ H b = some (.lst (bs.map V.int)) ∧ as.length + bs.length ≤ 10 ∧ (∀ t, ct S t = cnR (as ++ bs) as.length t) ∧ S ≠ [] ∧ S.length ≤ 2000 ∧
  ∀ r u d H', Same H H' → H' r = some (.tup [.ref u, .ref d]) → H' u = some (.tup [.int (rq (upN S as.sum) S.length).num, .int ((rq (upN S as.sum) S.length).den : Int)]) → H' d = some (.tup [.int (rq (dnN S as.sum) S.length).num, .int ((rq (dnN S as.sum) S.length).den : Int)]) → Q (.ref r) H'
theorem sc_shr : FnScope ["one", "other", "own", "found", "every", "up", "down"] ["one", "other"] (defScope s_shr) := ⟨rfl, rfl, rfl, by decide +kernel, rfl, by decide +kernel, by decide +kernel⟩
theorem ok_shr {C : CA} {f : Addr} {fd : FuncData} (F : Fun K "shares" "shares" s_shr f fd) (T : Txt mg) {fsums : Addr} {dsums : FuncData} (Gsums : FnOk P w K mg base CX0 3 fsums dsums ["one", "other"] spSums) (bsums : Binds K dsums ["one", "other"] []) (ksums : PySem.W.keepIn K (.ref fsums) = true) (msums : mg "sums" = some (.ref fsums)) {ffrac : Addr} {dfrac : FuncData} (Gfrac : FnOk P w K mg base (CXX P w) 3 ffrac dfrac ["top", "bottom"] (spFrac C)) (bfrac : Binds K dfrac ["top", "bottom"] []) (kfrac : PySem.W.keepIn K (.ref ffrac) = true) (mfrac : mg "fraction" = some (.ref ffrac)) : FnOk P w K mg base CX0 4 f fd ["one", "other"] spShr := by
  refine F.ok sc_shr (fun vs H Q E h => ?_) (fun cdv A outer s H vs Q E hr h => ?_)
  · obtain ⟨a, b, as, bs, S, rfl, _⟩ := h
    rfl
  obtain ⟨a, b, as, bs, S, rfl, ha, hb, hl, hS, hne, lS, q⟩ := h
  refine ⟨_, (pss_cons (ps_set (i := 2) sc_shr.nd rfl (Or.inr rfl) (pe_callB (call_sum rfl) rfl T.sum boot_sum (pa_cons (pv 0) pa_nil)))
    (pss_cons (ps_set (i := 3) sc_shr.nd rfl (Or.inl rfl) (pe_call Gsums hr rfl msums ksums bsums .nil pass0 (pa_cons (pv 0) (pa_cons (pv 1) pa_nil))))
    (pss_cons (ps_set (i := 4) sc_shr.nd rfl (Or.inl rfl) (pe_callB (call_sum rfl) rfl T.sum boot_sum (pa_cons (pe_compG (xs := ["total", "count"]) (ts := []) rfl ⟨rfl, sub0, rfl, rfl, rfl, by decide +kernel, rfl, rfl⟩ (pi_list (pv 3)) (fun C s3 H3 fp => (pg_tupC (n := 2) rfl (pgs_cons (pg_name (i := 0) (show (["total", "count"] : List Str).Nodup by decide +kernel) rfl (Or.inl rfl) (Or.inr rfl)) (pgs_cons (pg_name (i := 1) (show (["total", "count"] : List Str).Nodup by decide +kernel) rfl (Or.inl rfl) (Or.inr rfl)) pgs_nil)))) (fun C s3 H3 fp => pif_nil) (fun C s3 H3 fp => (pv 1))) pa_nil)))
    (pss_cons (ps_set (i := 5) sc_shr.nd rfl (Or.inl rfl) (pe_callB (call_sum rfl) rfl T.sum boot_sum (pa_cons (pe_compG (xs := ["total", "count"]) (ts := [("own", 2)]) rfl ⟨rfl, sub1 rfl, rfl, rfl, rfl, by decide +kernel, rfl, rfl⟩ (pi_list (pv 3)) (fun C s3 H3 fp => (pg_tupC (n := 2) rfl (pgs_cons (pg_name (i := 0) (show (["total", "count", "own"] : List Str).Nodup by decide +kernel) rfl (Or.inl rfl) (Or.inr rfl)) (pgs_cons (pg_name (i := 1) (show (["total", "count", "own"] : List Str).Nodup by decide +kernel) rfl (Or.inl rfl) (Or.inr rfl)) pgs_nil)))) (fun C s3 H3 fp => (pif_one (pt_cmpR op_ge (pv 0) (pv 2) (nomark _)))) (fun C s3 H3 fp => (pv 1))) pa_nil)))
    (pss_cons (ps_set (i := 6) sc_shr.nd rfl (Or.inl rfl) (pe_callB (call_sum rfl) rfl T.sum boot_sum (pa_cons (pe_compG (xs := ["total", "count"]) (ts := [("own", 2)]) rfl ⟨rfl, sub1 rfl, rfl, rfl, rfl, by decide +kernel, rfl, rfl⟩ (pi_list (pv 3)) (fun C s3 H3 fp => (pg_tupC (n := 2) rfl (pgs_cons (pg_name (i := 0) (show (["total", "count", "own"] : List Str).Nodup by decide +kernel) rfl (Or.inl rfl) (Or.inr rfl)) (pgs_cons (pg_name (i := 1) (show (["total", "count", "own"] : List Str).Nodup by decide +kernel) rfl (Or.inl rfl) (Or.inr rfl)) pgs_nil)))) (fun C s3 H3 fp => (pif_one (pt_cmpR op_le (pv 0) (pv 2) (nomark _)))) (fun C s3 H3 fp => (pv 1))) pa_nil)))
    (pss_one (ps_ret (pe_tup (pa_cons (pe_call Gfrac hr rfl mfrac kfrac bfrac .nil passN (pa_cons (pv 5) (pa_cons (pv 4) pa_nil))) (pa_cons (pe_call Gfrac hr rfl mfrac kfrac bfrac .nil passN (pa_cons (pv 6) (pa_cons (pv 4) pa_nil))) pa_nil)))))))))), ?_⟩
  have two : 2 ≤ sizeLine := by decide
  refine ⟨_, rfl, a, as, rfl, SqL.of ha, ?_⟩
  refine ⟨_, rfl, _, rfl, a, b, as, bs, rfl, ha, hb, hl, fun l H1 ms xs s1 _ hl1 pr nd pw mm lm => ?_⟩
  have hSm : ∀ t ∈ S, t ∈ ms := fun t ht => (mm t).mpr (by rw [← hS]; exact ct_mem ht)
  have fs : ∀ P : Int → Bool, (((ms.map fun t => (t, cnR (as ++ bs) as.length t)).filter fun p => P p.1).map fun p => p.2).sum = ((S.filter P).length : Int) := fun P => by
    rw [← sum_ct nd P hSm, List.filter_map, List.map_map]
    congr 1
    refine List.map_congr_left fun t _ => ?_
    exact (hS t).symm
  generalize hps : (ms.map fun t => (t, cnR (as ++ bs) as.length t)) = ps at *
  have lp : xs.length = ps.length := pr.len
  have lps : ps.length = ms.length := by rw [← hps, List.length_map]
  have hx : ∀ (G : Hp), Same H1 G → ∀ (i : Nat) (h : Int × Int), ps[i]? = some h → ∃ b u v, xs[i]? = some (.ref b) ∧ G b = some (.tup [u, v]) ∧ (u = V.int h.1 ∧ v = V.int h.2) := fun G sG i h e => by
    obtain ⟨c, e1, e2⟩ := (pr.keep sG).get e
    exact ⟨c, _, _, e1, e2, rfl, rfl⟩
  have szx : xs.length ≤ sizeLine := Nat.le_of_lt (lt40 (by omega))
  have fm : ∀ (P : Int × Int → Bool), (ps.filter P).map (fun p => V.int p.2) = ((ps.filter P).map fun p => p.2).map V.int := fun P => by rw [List.map_map]; rfl
  refine ⟨_, rfl, l, rfl, ⟨_, SqL.of hl1⟩, fun D1 hD1 => ?_⟩
  refine comp_lpairV (K := K) ps (fun _ => true) (fun p => V.int p.2) (fun p u v => u = V.int p.1 ∧ v = V.int p.2) hD1 (SqL.of hl1) lp szx (hx H1 (Same.refl H1)) (fun p u v G k _ _ hk => hk G (Same.refl G)) (fun p u v G k hr' _ _ hk => ⟨_, rfl, by rw [hr'.2]; exact hk G (Same.refl G)⟩) fun H2 s2 hD2 => ?_
  rw [fm] at hD2
  refine ⟨D1, _, rfl, SqL.of hD2, ?_⟩
  have ev : ((ps.filter fun _ => true).map fun p => p.2).sum = (S.length : Int) := by
    have := fs fun _ => true
    rw [List.filter_eq_self.mpr (fun _ _ => rfl)] at this ⊢
    rw [this, List.filter_eq_self.mpr (fun _ _ => rfl)]
  rw [ev]
  have s02 := s1.trans s2
  have hl2 := s2 _ _ hl1
  refine ⟨_, rfl, l, rfl, ⟨_, SqL.of hl2⟩, fun D2 hD2' => ?_⟩
  refine comp_lpairV (K := K) ps (fun p => decide (as.sum ≤ p.1)) (fun p => V.int p.2) (fun p u v => u = V.int p.1 ∧ v = V.int p.2) hD2' (SqL.of hl2) lp szx (hx H2 s2) (fun p u v G k hr' _ hk => ⟨_, rfl, _, rfl, _, _, hr'.1, rfl, _, rfl, hk G (Same.refl G)⟩) (fun p u v G k hr' _ _ hk => ⟨_, rfl, by rw [hr'.2]; exact hk G (Same.refl G)⟩) fun H3 s3 hD3 => ?_
  rw [fm] at hD3
  refine ⟨D2, _, rfl, SqL.of hD3, ?_⟩
  have eu : ((ps.filter fun p => decide (as.sum ≤ p.1)).map fun p => p.2).sum = upN S as.sum := fs fun t => decide (as.sum ≤ t)
  rw [eu]
  have hl3 := s3 _ _ hl2
  refine ⟨_, rfl, l, rfl, ⟨_, SqL.of hl3⟩, fun D3 hD3' => ?_⟩
  refine comp_lpairV (K := K) ps (fun p => decide (p.1 ≤ as.sum)) (fun p => V.int p.2) (fun p u v => u = V.int p.1 ∧ v = V.int p.2) hD3' (SqL.of hl3) lp szx (hx H3 (s2.trans s3)) (fun p u v G k hr' _ hk => ⟨_, rfl, _, rfl, _, _, hr'.1, rfl, _, rfl, hk G (Same.refl G)⟩) (fun p u v G k hr' _ _ hk => ⟨_, rfl, by rw [hr'.2]; exact hk G (Same.refl G)⟩) fun H4 s4 hD4 => ?_
  rw [fm] at hD4
  refine ⟨D3, _, rfl, SqL.of hD4, ?_⟩
  have ed : ((ps.filter fun p => decide (p.1 ≤ as.sum)).map fun p => p.2).sum = dnN S as.sum := fs fun t => decide (t ≤ as.sum)
  rw [ed]
  have pos : (0 : Int) < (S.length : Int) := by have := List.length_pos_iff.mpr hne; omega
  have s04 := (s02.trans s3).trans s4
  have smk : Smk (S.length : Int) := (sz_nat lS).smk (by decide)
  refine ⟨_, rfl, _, rfl, ?_⟩
  refine ⟨_, _, .int _, .int _, rfl, rfl, rfl, fun t0 b0 e => ?_, fun e => ?_⟩
  rotate_left
  · rw [frOk_yes (Int.ne_of_gt pos)] at e; cases e
  obtain ⟨y1, y2, _⟩ := frOk_shape e
  cases y1
  cases y2
  refine ⟨smk, fun u hu => ?_⟩
  have wu := same_new hu (.tup [V.int (frT (upN S as.sum) S.length), V.int (frB (upN S as.sum) S.length)])
  have xu : upd H4 u (.tup [V.int (frT (upN S as.sum) S.length), V.int (frB (upN S as.sum) S.length)]) u = some (.tup [.int (rq (upN S as.sum) S.length).num, .int ((rq (upN S as.sum) S.length).den : Int)]) := by
    obtain ⟨f1, f2⟩ := fr_rat (Int.ne_of_gt pos) (rq_mul (t := upN S as.sum) pos)
    rw [upd_same, f1, f2]
  generalize upd H4 u (.tup [V.int (frT (upN S as.sum) S.length), V.int (frB (upN S as.sum) S.length)]) = H5 at *
  refine ⟨_, rfl, _, rfl, ?_⟩
  refine ⟨_, _, .int _, .int _, rfl, rfl, rfl, fun t0 b0 e => ?_, fun e => ?_⟩
  rotate_left
  · rw [frOk_yes (Int.ne_of_gt pos)] at e; cases e
  obtain ⟨y1, y2, _⟩ := frOk_shape e
  cases y1
  cases y2
  refine ⟨smk, fun d hd => ?_⟩
  have wd := same_new hd (.tup [V.int (frT (dnN S as.sum) S.length), V.int (frB (dnN S as.sum) S.length)])
  have xd : upd H5 d (.tup [V.int (frT (dnN S as.sum) S.length), V.int (frB (dnN S as.sum) S.length)]) d = some (.tup [.int (rq (dnN S as.sum) S.length).num, .int ((rq (dnN S as.sum) S.length).den : Int)]) := by
    obtain ⟨f1, f2⟩ := fr_rat (Int.ne_of_gt pos) (rq_mul (t := dnN S as.sum) pos)
    rw [upd_same, f1, f2]
  generalize upd H5 d (.tup [V.int (frT (dnN S as.sum) S.length), V.int (frB (dnN S as.sum) S.length)]) = H6 at *
  refine ⟨two, fun r hr => ?_⟩
  have wr := same_new hr (.tup [V.ref u, V.ref d])
  exact q r u d _ (s04.trans ((wu.trans wd).trans wr)) upd_same ((wd.trans wr) _ _ xu) (wr _ _ xd)
open Ei Ec
theorem SmR_rq {m : Nat} {t b : Int} (hb : 0 < b) (st : Sz m t) (sb : Sz m b) : Sz m (rq t b).num ∧ Sz m ((rq t b).den : Int) := by
  obtain ⟨f1, f2⟩ := fr_rat (Int.ne_of_gt hb) (rq_mul (t := t) hb)
  have := Sz.fr (Int.ne_of_gt hb) st sb
  rw [f1, f2] at this
  exact this
theorem rq_nn {t b : Int} (hb : 0 < b) (ht : 0 ≤ t) : 0 ≤ (rq t b).num := by
  refine (r_nonneg _).mpr ?_
  have h := rq_mul (t := t) hb
  have bp : (0 : Rat) < (b : Rat) := by exact_mod_cast hb
  have tp : (0 : Rat) ≤ (t : Rat) := by exact_mod_cast ht
  by_cases c : 0 ≤ rq t b
  · exact c
  · have := Rat.mul_pos (show 0 < -(rq t b) by grind) bp
    grind
noncomputable def spLow : Sp := fun vs H Q _ => ∃ t b : Int, vs = [.int t, .int b] ∧ 0 < b ∧ Sz 110 t ∧ Sz 110 b ∧ NewFr H (rq t b) Q
theorem sc_low : FnScope ["_law_top", "_law_bottom", "_law_by"] ["_law_top", "_law_bottom"] (defScope s_low) := ⟨rfl, rfl, rfl, by decide +kernel, rfl, by decide +kernel, by decide +kernel⟩
theorem ok_low {f : Addr} {fd : FuncData} (F : Fun K "_law_low" "_law_low" s_low f fd) (T : Txt mg) {fdv : Addr} {ddv : FuncData} (Gdv : FnOk P w K mg base CX0 1 fdv ddv ["_law_one", "_law_other"] spCd) (bdv : Binds K ddv ["_law_one", "_law_other"] []) (kdv : PySem.W.keepIn K (.ref fdv) = true) (mdv : mg "_law_rest" = some (.ref fdv)) : FnOk P w K mg base CX0 2 f fd ["_law_top", "_law_bottom"] spLow := by
  refine F.ok sc_low (fun vs H Q E h => ?_) (fun cdv A outer s H vs Q E hr h => ?_)
  · obtain ⟨t, b, rfl, _⟩ := h
    rfl
  obtain ⟨t, b, rfl, hb, st, sb, q⟩ := h
  refine ⟨_, (pss_cons (ps_set (i := 2) sc_low.nd rfl (Or.inl rfl) (pe_call Gdv hr rfl mdv kdv bdv .nil pass0 (pa_cons (pe_callB call_abs rfl T.abs boot_abs (pa_cons (pv 0) pa_nil)) (pa_cons (pv 1) pa_nil))))
    (pss_one (ps_ret (pe_tup (pa_cons (pe_op op_fdivK (pv 0) (pv 2)) (pa_cons (pe_op op_fdivK (pv 1) (pv 2)) pa_nil)))))), ?_⟩
  have ha : 0 ≤ (if t < 0 then -t else t) := by split <;> omega
  have eg : Int.gcd (if t < 0 then -t else t) b = Int.gcd t b := by
    have := gabs t b
    rw [if_neg (show ¬ b < 0 by omega)] at this
    exact this
  have nd := frD_ne (t := t) (b := b) (by omega)
  have sd := smk_frD (a := t) (b := b) (by omega) (sb.smk (by decide))
  have fd := frD_pos (a := t) hb
  rw [fd] at nd sd
  refine ⟨_, rfl, _, rfl, _, rfl, _, _, rfl, ha, by omega, ?_⟩
  rw [eg]
  refine ⟨_, rfl, _, rfl, _, _, rfl, rfl, ⟨nd, sd⟩, _, rfl, _, rfl, _, _, rfl, rfl, ⟨nd, sd⟩, (by show 2 ≤ sizeLine; decide), fun p hp => ?_⟩
  refine q p _ (same_new hp _) ?_
  obtain ⟨f1, f2⟩ := fr_rat (Int.ne_of_gt hb) (rq_mul (t := t) hb)
  unfold frT at f1
  unfold frB at f2
  rw [fd] at f1 f2
  rw [upd_same]
  show some (HO.tup [V.int (t.fdiv (Int.gcd t b : Int)), V.int (b.fdiv (Int.gcd t b : Int))]) = _
  rw [f1, f2]
open Ei Ec
theorem cross {n d U N b t : Int} (e : n * N = U * d) (hd : 0 < d) (hN : 0 < N) : n * b ≤ t * d ↔ U * b ≤ t * N := by
  have h1 : n * b * N = U * b * d := by
    calc n * b * N = n * N * b := by rw [Int.mul_assoc, Int.mul_comm b N, ← Int.mul_assoc]
      _ = U * d * b := by rw [e]
      _ = U * b * d := by rw [Int.mul_assoc, Int.mul_comm d b, ← Int.mul_assoc]
  have h2 : t * d * N = t * N * d := by rw [Int.mul_assoc, Int.mul_comm d N, ← Int.mul_assoc]
  constructor
  · intro h
    have := Int.mul_le_mul_of_nonneg_right h (Int.le_of_lt hN)
    rw [h1, h2] at this
    exact Int.le_of_mul_le_mul_right this hd
  · intro h
    have := Int.mul_le_mul_of_nonneg_right h (Int.le_of_lt hd)
    rw [← h1, ← h2] at this
    exact Int.le_of_mul_le_mul_right this hN
theorem rq_cross {U N : Int} (hN : 0 < N) : (rq U N).num * N = U * ((rq U N).den : Int) := by
  have h := rq_mul (t := U) hN
  have s := rsplit (rq U N)
  have : (((rq U N).num * N : Int) : Rat) = ((U * ((rq U N).den : Int) : Int) : Rat) := by
    push_cast
    rw [← s, ← h]
    grind
  exact_mod_cast this
noncomputable def put (as : List Int) (d : Int) : List Int := as.map fun v => v + d
noncomputable def nS (as bs : List Int) : Int := ((sbs (as ++ bs) as.length).length : Int)
noncomputable def uS (as bs : List Int) : Int := upN (sbs (as ++ bs) as.length) as.sum
noncomputable def dS (as bs : List Int) : Int := dnN (sbs (as ++ bs) as.length) as.sum
noncomputable def upS (as bs : List Int) : Rat := rq (uS as bs) (nS as bs)
noncomputable def en (as bs : List Int) (t b d : Int) : Bool := !decide (t * ((upS (put as d) bs).den : Int) < (upS (put as d) bs).num * b)
theorem put_len (as : List Int) (d : Int) : (put as d).length = as.length := List.length_map ..
theorem nS_pos (as bs : List Int) : 0 < nS as bs := by
  unfold nS
  rw [sbs_len]
  have := ch_pos (as ++ bs).length as.length (by simp)
  omega
theorem nS_put (as bs : List Int) (d : Int) : nS (put as d) bs = nS as bs := by
  unfold nS
  rw [sbs_len, sbs_len, List.length_append, List.length_append, put_len]
theorem en_iff {as bs : List Int} {t b d : Int} : en as bs t b d = true ↔ uS (put as d) bs * b ≤ t * nS as bs := by
  unfold en
  have hp := nS_pos (put as d) bs
  have c := cross (b := b) (t := t) (rq_cross (U := uS (put as d) bs) hp) (rden _) hp
  rw [nS_put] at c
  show (!decide (t * ((rq (uS (put as d) bs) (nS (put as d) bs)).den : Int) < (rq (uS (put as d) bs) (nS (put as d) bs)).num * b)) = true ↔ _
  rw [nS_put]
  rw [← c]
  simp
theorem put_put (as : List Int) (d e : Int) : put (put as d) e = put as (d + e) := by
  unfold put
  rw [List.map_map]
  refine List.map_congr_left fun v _ => ?_
  simp only [Function.comp]
  omega
theorem en_up {as bs : List Int} {t b d e : Int} (hb : 0 ≤ b) (h : en as bs t b d = true) (hde : d ≤ e) : en as bs t b e = true := by
  rw [en_iff] at h ⊢
  have m := up_more (as := put as d) (bs := bs) (e := e - d) (by omega)
  have e1 : uS (put as e) bs ≤ uS (put as d) bs := by
    unfold uS
    have ep : put as e = (put as d).map fun v => v + (e - d) := by
      show _ = put (put as d) (e - d)
      rw [put_put]
      congr 1
      omega
    rw [ep, List.length_map]
    exact m
  exact Int.le_trans (Int.mul_le_mul_of_nonneg_right e1 hb) h
theorem nS_le {as bs : List Int} (h : as.length + bs.length ≤ 10) : (sbs (as ++ bs) as.length).length ≤ 252 := by
  rw [sbs_len]
  exact ch_le (by simp; omega) (by omega)
theorem szU {as bs : List Int} (h : as.length + bs.length ≤ 10) : Sz 20 (upS as bs).num ∧ Sz 20 ((upS as bs).den : Int) := by
  have l := nS_le h
  refine SmR_rq (nS_pos as bs) ?_ (sz_nat (by omega))
  have := List.length_filter_le (fun y => decide (as.sum ≤ y)) (sbs (as ++ bs) as.length)
  exact sz_nat (by omega)
noncomputable def spUnI : Sp := fun vs H Q _ => ∃ (f g : Addr) (t b n d : Int), vs = [.ref f, .ref g] ∧ H f = some (.tup [.int t, .int b]) ∧ H g = some (.tup [.int n, .int d]) ∧ Sz 110 t ∧ Sz 110 b ∧ Sz 110 n ∧ Sz 110 d ∧ Q (.bl (decide (t * d < n * b))) H
theorem sc_und : FnScope ["one", "other"] ["one", "other"] (defScope s_und) := ⟨rfl, rfl, rfl, by decide +kernel, rfl, by decide +kernel, by decide +kernel⟩
theorem ok_und {f : Addr} {fd : FuncData} (F : Fun K "under" "under" s_und f fd) (T : Txt mg) : FnOk P w K mg base CX0 1 f fd ["one", "other"] spUnI := by
  refine F.ok sc_und (fun vs H Q E h => ?_) (fun cdv A outer s H vs Q E hr h => ?_)
  · obtain ⟨f, g, t, b, n, d, rfl, _⟩ := h
    rfl
  obtain ⟨f, g, t, b, n, d, rfl, hf, hg, st, sb, sn, sd, q⟩ := h
  refine ⟨_, (pss_one (ps_ret (pe_cmpR op_lt (pe_op op_mulK (pe_ix ix_tup (pv 0) pe_int (fun _ _ => rfl)) (pe_ix ix_tup (pv 1) pe_int (fun _ _ => rfl))) (pe_op op_mulK (pe_ix ix_tup (pv 1) pe_int (fun _ _ => rfl)) (pe_ix ix_tup (pv 0) pe_int (fun _ _ => rfl))) (nomark _)))), ?_⟩
  exact ⟨_, rfl, f, _, 0, _, rfl, rfl, SqT.of hf, at0, _, rfl, g, _, 1, _, rfl, rfl, SqT.of hg, at1, _, _, rfl, rfl, ⟨st.smk (by decide), sd.smk (by decide)⟩, _, rfl, g, _, 0, _, rfl, rfl, SqT.of hg, at0, _, rfl, f, _, 1, _, rfl, rfl, SqT.of hf, at1, _, _, rfl, rfl, ⟨sn.smk (by decide), sb.smk (by decide)⟩, _, _, rfl, rfl, q⟩
noncomputable def spEn : Sp := fun vs H Q _ => ∃ (a c sh : Addr) (as bs : List Int) (t b d : Int), vs = [.ref a, .ref c, .ref sh, .int d] ∧ H a = some (.lst (as.map V.int)) ∧ H c = some (.lst (bs.map V.int)) ∧ as.length + bs.length ≤ 10 ∧ H sh = some (.tup [.int t, .int b]) ∧ Sz 110 t ∧ Sz 110 b ∧ ∀ H', Same H H' → Q (.bl (en as bs t b d)) H'
theorem put_snoc {as : List Int} {i : Nat} {v d : Int} (e : as[i]? = some v) : ((put (as.take i) d).map V.int) ++ [V.int (v + d)] = (put (as.take (i + 1)) d).map V.int := by
  rw [List.take_add_one, e]
  unfold put
  simp
theorem sc_isen : FnScope ["one", "other", "share", "d", "shifted"] ["one", "other", "share", "d"] (defScope s_isen) := ⟨rfl, rfl, rfl, by decide +kernel, rfl, by decide +kernel, by decide +kernel⟩
theorem ok_isen {f : Addr} {fd : FuncData} (F : Fun K "is_enough" "is_enough" s_isen f fd) (T : Txt mg) {fshr : Addr} {dshr : FuncData} (Gshr : FnOk P w K mg base CX0 4 fshr dshr ["one", "other"] spShr) (bshr : Binds K dshr ["one", "other"] []) (kshr : PySem.W.keepIn K (.ref fshr) = true) (mshr : mg "shares" = some (.ref fshr)) {fund : Addr} {dund : FuncData} (Gund : FnOk P w K mg base CX0 4 fund dund ["one", "other"] spUnI) (bund : Binds K dund ["one", "other"] []) (kund : PySem.W.keepIn K (.ref fund) = true) (mund : mg "under" = some (.ref fund)) : FnOk P w K mg base CX0 5 f fd ["one", "other", "share", "d"] spEn := by
  refine F.ok sc_isen (fun vs H Q E h => ?_) (fun cdv A outer s H vs Q E hr h => ?_)
  · obtain ⟨a, c, sh, as, bs, t, b, d, rfl, _⟩ := h
    rfl
  obtain ⟨a, c, sh, as, bs, t, b, d, rfl, ha, hc, hl, hsh, st, sb, q⟩ := h
  refine ⟨_, (pss_cons (ps_setC (i := 4) sc_isen.nd rfl (Or.inl rfl) (xs := ["value"]) (ts := [("d", 3)]) rfl ⟨rfl, sub1 rfl, rfl, rfl, rfl, by decide +kernel, rfl, rfl⟩ (pi_list (pv 0)) (fun C s3 H3 fp => (pg_name (i := 0) (show (["value", "d"] : List Str).Nodup by decide +kernel) rfl (Or.inl rfl) (Or.inr rfl))) (fun C s3 H3 fp => pif_nil) (fun C s3 H3 fp => (pe_op op_add (pv 0) (pv 1))))
    (pss_one (ps_ret (pe_not (pe_call Gund hr rfl mund kund bund .nil pass0 (pa_cons (pv 2) (pa_cons (pe_ix ix_tup (pe_call Gshr hr rfl mshr kshr bshr .nil pass0 (pa_cons (pv 4) (pa_cons (pv 1) pa_nil))) pe_int (fun _ _ => rfl)) pa_nil))))))), ?_⟩
  refine ⟨_, rfl, a, rfl, ⟨_, SqL.of ha⟩, fun D hD => ?_⟩
  refine comp_listRG (xs := as.map V.int) (fun i ys G => ys = (put (as.take i) d).map V.int) hD (SqL.of ha) (Nat.le_of_lt (lt40 (by rw [List.length_map]; omega))) rfl ?_ ?_
  · rintro i x ys G k hx sm e ly rfl hk
    have hi : i < as.length := by have := (List.getElem?_eq_some_iff.mp hx).1; simpa using this
    have ev := List.getElem?_eq_getElem hi
    rw [List.getElem?_map, ev] at hx
    have hx' : V.int as[i] = x := by simpa using hx
    subst hx'
    exact ⟨_, rfl, _, rfl, _, _, rfl, rfl, hk _ _ (Same.refl G) (put_snoc ev)⟩
  rintro ys H2 s2 hD2 ly rfl
  rw [List.length_map, List.take_length] at hD2
  have hl' : (put as d).length + bs.length ≤ 10 := by rw [put_len]; exact hl
  have lS := nS_le hl'
  refine ⟨_, rfl, _, rfl, _, rfl, D, c, put as d, bs, sbs (put as d ++ bs) (put as d).length, rfl, hD2, s2 _ _ hc, hl', fun t => ct_sbs .., fun z => ?_, by omega, fun r u dd H3 s3 hr hu hd => ?_⟩
  · have := nS_pos (put as d) bs
    unfold nS at this
    rw [z] at this
    exact absurd this (Int.lt_irrefl 0)
  obtain ⟨z1, z2⟩ := szU hl'
  refine ⟨r, _, 0, _, rfl, rfl, SqT.of hr, at0, sh, u, t, b, _, _, rfl, (s2.trans s3) _ _ hsh, hu, st, sb, z1.mono (by decide), z2.mono (by decide), _, rfl, q _ (s2.trans s3)⟩
noncomputable def ShO (E : Int → Bool) (v : V) : Prop := (v = .non ∧ E 1000 = false) ∨ ∃ d : Int, v = .int d ∧ 0 ≤ d ∧ d ≤ 1000 ∧ E d = true ∧ (0 < d → E (d - 1) = false)
noncomputable def spShf : Sp := fun vs H Q _ => ∃ (a c sh : Addr) (as bs : List Int) (t b : Int), vs = [.ref a, .ref c, .ref sh] ∧ H a = some (.lst (as.map V.int)) ∧ H c = some (.lst (bs.map V.int)) ∧ as.length + bs.length ≤ 10 ∧ H sh = some (.tup [.int t, .int b]) ∧ Sz 110 t ∧ Sz 110 b ∧
  ∀ v H', ShO (en as bs t b) v → Same H H' → Q v H'
theorem sho_one {E E' : Int → Bool} (mo : ∀ d e, E d = true → d ≤ e → E e = true) (eq : ∀ d, E' d = E d) {v v' : V} (h : ShO E v) (h' : ShO E' v') : v' = v := by
  rcases h with ⟨rfl, h1⟩ | ⟨d, rfl, d0, d1, d2, d3⟩
  · rcases h' with ⟨rfl, _⟩ | ⟨d', rfl, _, e1, e2, _⟩
    · rfl
    · rw [eq] at e2
      rw [mo _ _ e2 e1] at h1
      cases h1
  · rcases h' with ⟨rfl, h1⟩ | ⟨d', rfl, e0, e1, e2, e3⟩
    · rw [eq, mo _ _ d2 d1] at h1
      cases h1
    · rw [eq] at e2
      have e3' : 0 < d' → E (d' - 1) = false := fun z => by rw [← eq]; exact e3 z
      have : d' = d := by
        rcases Int.lt_trichotomy d d' with z | z | z
        · have := mo _ _ d2 (show d ≤ d' - 1 by omega)
          rw [e3' (by omega)] at this
          cases this
        · exact z.symm
        · have := mo _ _ e2 (show d' ≤ d - 1 by omega)
          rw [d3 (by omega)] at this
          cases this
      rw [this]
theorem sho_den {E : Int → Bool} {v : V} (h : ShO E v) : ∃ t, depT t ≤ 60 ∧ ∀ H, Den H t v := by
  rcases h with ⟨rfl, _⟩ | ⟨d, rfl, _⟩
  · exact ⟨.non, by simp [depT], fun H => rfl⟩
  · exact ⟨.int d, by simp [depT], fun H => rfl⟩
noncomputable def muS (σ : St) : Nat := match σ with
  | _ :: _ :: _ :: some (.int x) :: some (.int y) :: _ => (y - x).toNat
  | _ => 0
theorem sc_shf : FnScope ["one", "other", "share", "too_little", "enough", "middle"] ["one", "other", "share"] (defScope s_shf) := ⟨rfl, rfl, rfl, by decide +kernel, rfl, by decide +kernel, by decide +kernel⟩
theorem ok_shf {f : Addr} {fd : FuncData} (F : Fun K "shift" "shift" s_shf f fd) (T : Txt mg) {fisen : Addr} {disen : FuncData} (Gisen : FnOk P w K mg base CX0 5 fisen disen ["one", "other", "share", "d"] spEn) (bisen : Binds K disen ["one", "other", "share", "d"] []) (kisen : PySem.W.keepIn K (.ref fisen) = true) (misen : mg "is_enough" = some (.ref fisen)) : FnOk P w K mg base CX0 6 f fd ["one", "other", "share"] spShf := by
  refine F.ok sc_shf (fun vs H Q E h => ?_) (fun cdv A outer s H vs Q E hr h => ?_)
  · obtain ⟨a, c, sh, as, bs, t, b, rfl, _⟩ := h
    rfl
  obtain ⟨a, c, sh, as, bs, t, b, rfl, ha, hc, hl, hsh, st, sb, q⟩ := h
  have q1 : en as bs t b 1000 = false → ∀ H', Same H H' → Q .non H' := fun e H' sm => q _ H' (.inl ⟨rfl, e⟩) sm
  have q2 : ∀ d : Int, 0 ≤ d → d ≤ 1000 → en as bs t b d = true → (0 < d → en as bs t b (d - 1) = false) → ∀ H', Same H H' → Q (.int d) H' := fun d z0 z1 z2 z3 H' sm => q _ H' (.inr ⟨d, rfl, z0, z1, z2, z3⟩) sm
  refine ⟨_, (pss_cons (ps_if (pt_not (pt_val (pe_call Gisen hr rfl misen kisen bisen .nil pass0 (pa_cons (pv 0) (pa_cons (pv 1) (pa_cons (pv 2) (pa_cons pe_int pa_nil))))))) (pss_one (ps_ret pe_non)) pss_nil)
    (pss_cons (ps_set (i := 3) sc_shf.nd rfl (Or.inl rfl) (pe_un un_neg pe_int))
    (pss_cons (ps_set (i := 4) sc_shf.nd rfl (Or.inl rfl) pe_int)
    (pss_cons (ps_while PassesOwn.never (pt_cmpR op_gt (pe_op op_sub (pv 4) (pv 3)) pe_int (nomark _)) (pss_cons (ps_set (i := 5) sc_shf.nd rfl (Or.inl rfl) (pe_op op_fdiv (pe_op op_add (pv 3) (pv 4)) pe_int))
      (pss_one (ps_if (pt_val (pe_call Gisen hr rfl misen kisen bisen .nil pass0 (pa_cons (pv 0) (pa_cons (pv 1) (pa_cons (pv 2) (pa_cons (pv 5) pa_nil)))))) (pss_one (ps_set (i := 4) sc_shf.nd rfl (Or.inl rfl) (pv 5))) (pss_one (ps_set (i := 3) sc_shf.nd rfl (Or.inl rfl) (pv 5)))))))
    (pss_one (ps_ret (pv 4))))))), ?_⟩
  refine ⟨_, rfl, _, rfl, _, rfl, a, c, sh, as, bs, t, b, 1000, rfl, ha, hc, hl, hsh, st, sb, fun H1 s1 => ⟨_, rfl, ?_⟩⟩
  refine ite2 (fun e => ?_) (fun e => ?_)
  · exact q1 (by simpa using e) _ s1
  have e1000 : en as bs t b 1000 = true := by simpa using e
  refine ⟨_, rfl, ?_⟩
  refine while_by (fun σ G => Same H G ∧ ∃ (x y : Int) (v : Option V), σ = [some (.ref a), some (.ref c), some (.ref sh), some (.int x), some (.int y), v] ∧ -1 ≤ x ∧ x < y ∧ y ≤ 1000 ∧ en as bs t b y = true ∧ (0 ≤ x → en as bs t b x = false)) (fun σ _ => muS σ) ⟨s1, -1, 1000, none, rfl, by decide, by decide, by decide, e1000, fun z => absurd z (by decide)⟩ ?_ ?_
  · rintro σ G ⟨sm, x, y, v, rfl, hx, hxy, hy, ey, ex⟩
    refine ⟨_, rfl, _, rfl, _, _, rfl, rfl, _, _, rfl, rfl, _, rfl, ?_⟩
    refine ite2 (fun c1 => ?_) (fun c1 => ?_)
    · have c2 : 1 < y - x := of_decide_eq_true c1
      refine ⟨_, rfl, _, rfl, _, _, rfl, rfl, _, _, rfl, rfl, ⟨by decide, by decide⟩, ?_⟩
      have m1 : x < (x + y) / 2 ∧ (x + y) / 2 < y := by omega
      refine ⟨_, rfl, _, rfl, _, rfl, _, rfl, a, c, sh, as, bs, t, b, (x + y) / 2, rfl, sm _ _ ha, sm _ _ hc, hl, sm _ _ hsh, st, sb, fun G2 s2 => ⟨_, rfl, ?_⟩⟩
      refine ite2 (fun em => ?_) (fun em => ?_)
      · refine ⟨_, rfl, ⟨sm.trans s2, x, (x + y) / 2, _, rfl, hx, m1.1, by omega, em, ex⟩, ?_⟩
        show ((x + y) / 2 - x).toNat < (y - x).toNat
        omega
      · refine ⟨_, rfl, ⟨sm.trans s2, (x + y) / 2, y, _, rfl, by omega, m1.2, hy, ey, fun _ => by simpa using em⟩, ?_⟩
        show (y - (x + y) / 2).toNat < (y - x).toNat
        omega
    · have c2 : ¬ 1 < y - x := fun z => c1 (decide_eq_true z)
      have exy : x = y - 1 := by omega
      refine ⟨_, rfl, q2 y (by omega) hy ey (fun z => ?_) _ sm⟩
      rw [← exy]
      exact ex (by omega)
  · intro σ H Q Q' hq h
    obtain ⟨v1, e1, v2, e2, x, y, ex, ey, z, w', ez, ew, k, ek, h2⟩ := h
    exact ⟨v1, e1, v2, e2, x, y, ex, ey, z, w', ez, ew, k, ek, hq _ _ h2⟩
open Ei Ec
theorem cut_up {xs : List Int} {k : Nat} (h : k ≤ xs.length) : cutV (xs.map V.int) none (some (k : Int)) = (xs.take k).map V.int := by
  unfold cutV
  rw [HT.sIx_nat, HT.sIx_none, Nat.min_eq_left (by rw [List.length_map]; exact h), List.map_take]
  rfl
theorem cut_from {xs : List Int} {k : Nat} (h : k ≤ xs.length) : cutV (xs.map V.int) (some (k : Int)) none = (xs.drop k).map V.int := by
  unfold cutV
  rw [HT.sIx_nat, HT.sIx_none, Nat.min_eq_left (by rw [List.length_map]; exact h), List.take_of_length_le (by simp), List.map_drop]
noncomputable abbrev wideL : List Int := [3, 7, 100, 10 ^ (58 : Int).toNat]
theorem wide_in {k : Nat} (h : k < 4) : 2 ≤ wideL.getD k 0 ∧ Sz 200 (wideL.getD k 0) := by
  have hm : wideL.getD k 0 ∈ wideL := getD_mem h
  generalize wideL.getD k 0 = w at *
  simp only [List.mem_cons, List.not_mem_nil, or_false] at hm
  rcases hm with e | e | e | e
  · subst e; exact ⟨by decide, by show (3 : Nat) < 2 ^ 200; decide⟩
  · subst e; exact ⟨by decide, by show (7 : Nat) < 2 ^ 200; decide⟩
  · subst e; exact ⟨by decide, by show (100 : Nat) < 2 ^ 200; decide⟩
  · subst e; exact ⟨by decide +kernel, by show ((10 : Int) ^ 58).natAbs < 2 ^ 200; decide +kernel⟩
theorem snoc_map (zs : List Int) (z : Int) : ∃ ws : List Int, zs.map V.int ++ [V.int z] = ws.map V.int := ⟨zs ++ [z], by simp⟩
noncomputable def spGrp (K : PySem.W.Frag) : Sp := fun vs H Q _ => ∃ (a : Addr) (ns : List Int), vs = [.ref a] ∧ SqL K H a (ns.map V.int) ∧ ns.length ≤ 63 ∧
  ∀ r x y as bs H', Same H H' → H' r = some (.tup [.ref x, .ref y]) → H' x = some (.lst (List.map V.int as)) → H' y = some (.lst (List.map V.int bs)) → 1 ≤ as.length → 1 ≤ bs.length → as.length + bs.length ≤ 10 → Q (.ref r) H'
theorem sc_grp : FnScope ["_law_script", "_law_first", "_law_second", "_law_wide", "_law_values", "_law_k"] ["_law_script"] (defScope s_grp) := ⟨rfl, rfl, rfl, by decide +kernel, rfl, by decide +kernel, by decide +kernel⟩
theorem ok_grp {f : Addr} {fd : FuncData} (F : Fun K "_law_groups" "_law_groups" s_grp f fd) (T : Txt mg) {fcellU : Addr} {dcellU : FuncData} (GcellU : FnOk P w K mg base CX0 2 fcellU dcellU ["_law_script", "_law_k"] (spCellU K)) (bcellU : Binds K dcellU ["_law_script", "_law_k"] []) (kcellU : PySem.W.keepIn K (.ref fcellU) = true) (mcellU : mg "_law_cell" = some (.ref fcellU)) : FnOk P w K mg base CX0 3 f fd ["_law_script"] (spGrp K) := by
  refine F.ok sc_grp (fun vs H Q E h => ?_) (fun cdv A outer s H vs Q E hr h => ?_)
  · obtain ⟨a, ns, rfl, _⟩ := h
    rfl
  obtain ⟨a, ns, rfl, hS, h63, q⟩ := h
  refine ⟨_, (pss_cons (ps_set (i := 1) sc_grp.nd rfl (Or.inr rfl) (pe_op op_add pe_int (pe_op op_mod (pe_call GcellU hr rfl mcellU kcellU bcellU .nil pass0 (pa_cons (pv 0) (pa_cons pe_int pa_nil))) pe_int)))
    (pss_cons (ps_set (i := 2) sc_grp.nd rfl (Or.inl rfl) (pe_op op_add pe_int (pe_op op_mod (pe_call GcellU hr rfl mcellU kcellU bcellU .nil pass0 (pa_cons (pv 0) (pa_cons pe_int pa_nil))) pe_int)))
    (pss_cons (ps_if (pt_cmpR op_eq (pe_op op_mod (pe_call GcellU hr rfl mcellU kcellU bcellU .nil pass0 (pa_cons (pv 0) (pa_cons pe_int pa_nil))) pe_int) pe_int (nomark _)) (pss_cons (ps_set (i := 1) sc_grp.nd rfl (Or.inr rfl) (pe_op op_add pe_int (pe_op op_mod (pe_call GcellU hr rfl mcellU kcellU bcellU .nil pass0 (pa_cons (pv 0) (pa_cons pe_int pa_nil))) pe_int)))
      (pss_one (ps_set (i := 2) sc_grp.nd rfl (Or.inl rfl) (pe_op op_add pe_int (pe_op op_mod (pe_call GcellU hr rfl mcellU kcellU bcellU .nil pass0 (pa_cons (pv 0) (pa_cons pe_int pa_nil))) (pe_op op_sub pe_int (pv 1))))))) pss_nil)
    (pss_cons (ps_set (i := 3) sc_grp.nd rfl (Or.inr rfl) (pe_ix ix_list (pe_lst (pa_cons pe_int (pa_cons pe_int (pa_cons pe_int (pa_cons (pe_op op_pow pe_int pe_int) pa_nil))))) (pe_op op_mod (pe_call GcellU hr rfl mcellU kcellU bcellU .nil pass0 (pa_cons (pv 0) (pa_cons pe_int pa_nil))) pe_int) (fun _ _ => rfl)))
    (pss_cons (ps_set (i := 4) sc_grp.nd rfl (Or.inl rfl) (pe_lst pa_nil))
    (pss_cons (ps_for PassesOwn.never rfl (pi_range1 rfl T.range (pa_cons (pe_op op_add (pv 1) (pv 2)) pa_nil)) (pg_name (i := 5) sc_grp.nd rfl (Or.inl rfl)) (pss_one (ps_expr (pe_bm PySem.F.plainAttrs_list PySem.F.slot_list_append PySem.F.type_list_append mt_append (pv 4) (pa_cons (pe_op op_sub (pe_op op_mod (pe_op op_mul (pe_call GcellU hr rfl mcellU kcellU bcellU .nil pass0 (pa_cons (pv 0) (pa_cons (pe_op op_add pe_int (pv 5)) pa_nil))) (pe_op op_pow pe_int pe_int)) (pe_op op_add (pe_op op_mul pe_int (pv 3)) pe_int)) (pv 3)) pa_nil)))))
    (pss_cons (ps_if (pt_cmpR op_eq (pe_op op_mod (pe_call GcellU hr rfl mcellU kcellU bcellU .nil pass0 (pa_cons (pv 0) (pa_cons pe_int pa_nil))) pe_int) pe_int (nomark _)) (pss_one (ps_setC (i := 4) sc_grp.nd rfl (Or.inl rfl) (xs := ["_law_k", "_law_value"]) (ts := [("_law_wide", 3), ("_law_first", 1)]) rfl ⟨rfl, sub2 rfl rfl, rfl, rfl, rfl, by decide +kernel, rfl, rfl⟩ (pi_enumL rfl T.enumerate (pa_cons (pv 4) pa_nil)) (fun C s3 H3 fp => (pg_tupC (n := 2) rfl (pgs_cons (pg_name (i := 0) (show (["_law_k", "_law_value", "_law_wide", "_law_first"] : List Str).Nodup by decide +kernel) rfl (Or.inl rfl) (Or.inr rfl)) (pgs_cons (pg_name (i := 1) (show (["_law_k", "_law_value", "_law_wide", "_law_first"] : List Str).Nodup by decide +kernel) rfl (Or.inl rfl) (Or.inr rfl)) pgs_nil)))) (fun C s3 H3 fp => pif_nil) (fun C s3 H3 fp => (pe_op op_add (pv 1) (pe_op op_mulK (pv 2) (pe_callTy call_int1 rfl T.int boot_int (pa_cons (pe_cmpR op_lt (pv 0) (pv 3) (nomark _)) pa_nil))))))) pss_nil)
    (pss_one (ps_ret (pe_tup (pa_cons (pe_slice sl_list (pv 4) po_none (po_some (pv 1))) (pa_cons (pe_slice sl_list (pv 4) (po_some (pv 1)) po_none) pa_nil)))))))))))), ?_⟩
  have two : 2 ≤ sizeLine := by decide
  refine ⟨_, rfl, a, ns, 0, rfl, hS, h63, by omega, by omega, fun r0 r00 r01 => ⟨_, _, rfl, rfl, (by show (0 : Int) < 5; decide), _, _, rfl, rfl, ?_⟩⟩
  have f0 := md0 r0 (show (0 : Int) < 5 by decide)
  have f1 := md1 r0 (show (0 : Int) < 5 by decide)
  obtain ⟨f9, ef9⟩ : ∃ fi : Nat, 1 + r0 % 5 = (fi : Int) := ⟨(1 + r0 % 5).toNat, by omega⟩
  dsimp only
  rw [ef9]
  refine ⟨_, rfl, a, ns, 1, rfl, hS, h63, by omega, by omega, fun r1 r10 r11 => ⟨_, _, rfl, rfl, (by show (0 : Int) < 5; decide), _, _, rfl, rfl, ?_⟩⟩
  have g0 := md0 r1 (show (0 : Int) < 5 by decide)
  have g1 := md1 r1 (show (0 : Int) < 5 by decide)
  obtain ⟨s9, es9⟩ : ∃ fi : Nat, 1 + r1 % 5 = (fi : Int) := ⟨(1 + r1 % 5).toNat, by omega⟩
  dsimp only
  rw [es9]
  refine seq_by (fun σ H' => H' = H ∧ ∃ fi se : Nat, σ = [some (.ref a), some (.int fi), some (.int se), none, none, none] ∧ 1 ≤ fi ∧ 1 ≤ se ∧ fi + se ≤ 10) ?_ ?_
  · intro M hM
    refine ⟨_, rfl, a, ns, 2, rfl, hS, h63, by omega, by omega, fun r2 r20 r21 => ⟨_, _, rfl, rfl, (by show (0 : Int) < 6; decide), rfl, _, rfl, ?_⟩⟩
    refine ite2 (fun c => ?_) (fun c => ?_)
    · refine ⟨_, rfl, a, ns, 0, rfl, hS, h63, by omega, by omega, fun u0 u00 u01 => ⟨_, _, rfl, rfl, (by show (0 : Int) < 9; decide), _, _, rfl, rfl, ?_⟩⟩
      have a0 := md0 u0 (show (0 : Int) < 9 by decide)
      have a1 := md1 u0 (show (0 : Int) < 9 by decide)
      obtain ⟨fi, efi⟩ : ∃ fi : Nat, 1 + u0 % 9 = (fi : Int) := ⟨(1 + u0 % 9).toNat, by omega⟩
      dsimp only
      rw [efi]
      have mp : (0 : Int) < 10 - (fi : Int) := by omega
      refine ⟨_, rfl, a, ns, 1, rfl, hS, h63, by omega, by omega, fun u1 u10 u11 => ⟨_, rfl, _, _, rfl, rfl, _, _, rfl, rfl, mp, _, _, rfl, rfl, ?_⟩⟩
      have b0 := md0 u1 mp
      have b1 := md1 u1 mp
      obtain ⟨se, ese⟩ : ∃ fi' : Nat, 1 + u1 % (10 - (fi : Int)) = (fi' : Int) := ⟨(1 + u1 % (10 - (fi : Int))).toNat, by omega⟩
      dsimp only
      rw [ese]
      exact hM _ _ ⟨rfl, fi, se, rfl, by omega, by omega, by omega⟩
    · exact hM _ _ ⟨rfl, f9, s9, rfl, by omega, by omega, by omega⟩
  rintro σ H' ⟨rfl, fi, se, rfl, hfi, hse, hfs⟩
  refine ⟨_, _, rfl, rfl, ⟨by decide, by decide, by decide⟩, (by show 4 ≤ sizeLine; decide), fun p0 hp0 => ?_⟩
  have w0 := same_new hp0 (.lst (wideL.map V.int))
  refine ⟨_, rfl, a, ns, 3, rfl, w0.seq hS, h63, by omega, by omega, fun r3 r30 r31 => ?_⟩
  have k0 := md0 r3 (show (0 : Int) < 4 by decide)
  have k1 := md1 r3 (show (0 : Int) < 4 by decide)
  refine ⟨_, _, rfl, rfl, (by show (0 : Int) < 4; decide), p0, _, _, _, rfl, rfl, SqL.of upd_same, at_getD (ns := wideL) k0 k1, ?_⟩
  obtain ⟨hw, szw⟩ := wide_in (k := (r3 % 4).toNat) (by omega)
  dsimp only
  generalize wideL.getD (r3 % 4).toNat 0 = wd at *
  have hw1 : (0 : Int) < 2 * wd + 1 := by omega
  refine ⟨Nat.zero_le _, fun L hL => ?_⟩
  have hLn : H' L = none := by
    cases e : H' L with
    | none => rfl
    | some u => exact absurd ((w0 _ _ e).symm.trans hL) (by intro z; cases z)
  refine ⟨_, rfl, _, rfl, _, _, rfl, rfl, _, rfl, by omega, by omega, ?_⟩
  have en : (((fi : Int) + (se : Int))).toNat = fi + se := by omega
  rw [en]
  refine for_range (lo := 0) (fun i σ G => Same H' G ∧ ∃ (xs : List Int) (v5 : Option V), σ = [some (.ref a), some (.int fi), some (.int se), some (.int wd), some (.ref L), v5] ∧ G L = some (.lst (xs.map V.int)) ∧ xs.length = i) ⟨w0.trans (same_new hL _), [], none, rfl, upd_same, rfl⟩ ?_ ?_
  · rintro i σ G hi ⟨sm, xs, v5, rfl, hL1, lx⟩
    refine ⟨_, rfl, .inl ⟨rfl, _, SqL.of hL1⟩, _, rfl, _, rfl, _, _, rfl, rfl, a, ns, _, rfl, sm.seq hS, h63, by omega, by omega, fun r4 r40 r41 => ?_⟩
    refine ⟨_, _, rfl, rfl, ⟨by decide, by decide, by decide⟩, _, _, rfl, rfl, .inl ⟨by omega, by omega⟩, _, rfl, _, _, rfl, rfl, .inl ⟨by decide, by decide⟩, _, _, rfl, rfl, _, _, rfl, rfl, hw1, _, rfl, _, _, rfl, rfl, L, _, _, rfl, rfl, hL1, lt40 (by rw [List.length_map]; omega), ?_⟩
    refine ⟨same_write sm hLn, xs ++ [r4 * 48271 ^ (13 : Int).toNat % (2 * wd + 1) - wd], _, rfl, ?_, by simp [lx]⟩
    rw [upd_same, List.map_append] <;> rfl
  rintro σ G ⟨sm, xs, v5, rfl, hL1, lx⟩
  dsimp only
  refine seq_by (fun σ G => Same H' G ∧ ∃ (L : Addr) (xs : List Int), σ = [some (.ref a), some (.int fi), some (.int se), some (.int wd), some (.ref L), v5] ∧ G L = some (.lst (xs.map V.int)) ∧ xs.length = fi + se) ?_ ?_
  · intro M hM
    refine ⟨_, rfl, a, ns, 4, rfl, sm.seq hS, h63, by omega, by omega, fun r5 r50 r51 => ⟨_, _, rfl, rfl, (by show (0 : Int) < 5; decide), rfl, _, rfl, ?_⟩⟩
    refine ite2 (fun c => ?_) (fun c => ?_)
    · refine ⟨_, rfl, L, false, rfl, ⟨_, SqL.of hL1⟩, fun D hD => ?_⟩
      refine comp_enumLR (fun i ys G => ∃ zs : List Int, ys = zs.map V.int) hD (show SqB false K G L _ from SqL.of hL1) (Nat.le_of_lt (lt40 (by rw [List.length_map]; omega))) ⟨[], rfl⟩ ?_ ?_
      · rintro i x ys G2 k hx s2 e ly ⟨zs, rfl⟩ hk T hT
        have hi : i < xs.length := by have := (List.getElem?_eq_some_iff.mp hx).1; simpa using this
        rw [List.getElem?_map, List.getElem?_eq_getElem hi] at hx
        have hx' : V.int xs[i] = x := by simpa using hx
        subst hx'
        have szb : ∀ b : Bool, Sz 200 (if b then (1 : Int) else 0) := fun b => by cases b <;> (unfold Sz; decide)
        refine ⟨_, rfl, _, rfl, _, rfl, _, rfl, _, _, rfl, rfl, .inr ⟨_, rfl, _, _, rfl, rfl, ⟨szw.smk (by decide), (szb _).smk (by decide)⟩, _, _, rfl, rfl, hk _ _ (same_new hT _) ?_⟩⟩
        exact snoc_map zs _
      · rintro ys G2 s2 hD2 ly ⟨zs, rfl⟩
        exact hM _ _ ⟨sm.trans s2, D, zs, rfl, hD2, by simp at ly; omega⟩
    · exact hM _ _ ⟨sm, L, xs, rfl, hL1, lx⟩
  rintro σ G ⟨sm, L, xs, rfl, hL1, lx⟩
  refine ⟨_, rfl, _, rfl, _, rfl, L, _, rfl, SqL.of hL1, fun c1 h1 => ?_⟩
  rw [cut_up (by omega)]
  have w1 := same_new h1 (.lst ((xs.take fi).map V.int))
  have x1 : upd G c1 (.lst ((xs.take fi).map V.int)) c1 = some (.lst ((xs.take fi).map V.int)) := upd_same
  generalize upd G c1 (.lst ((xs.take fi).map V.int)) = G1 at *
  refine ⟨_, rfl, _, rfl, _, rfl, L, _, rfl, SqL.of (w1 _ _ hL1), fun c2 h2 => ?_⟩
  rw [cut_from (by omega)]
  have w2 := same_new h2 (.lst ((xs.drop fi).map V.int))
  have x2 : upd G1 c2 (.lst ((xs.drop fi).map V.int)) c2 = some (.lst ((xs.drop fi).map V.int)) := upd_same
  generalize upd G1 c2 (.lst ((xs.drop fi).map V.int)) = G2 at *
  refine ⟨two, fun r hr => ?_⟩
  have w3 := same_new hr (.tup [V.ref c1, V.ref c2])
  exact q r c1 c2 _ _ _ (sm.trans ((w1.trans w2).trans w3)) upd_same ((w2.trans w3) _ _ x1) (w3 _ _ x2) (by simp; omega) (by simp; omega) (by simp; omega)
open Ei Ec
noncomputable def ShA (H : Hp) (v : V) : Prop := ∃ p t b, v = .ref p ∧ H p = some (.tup [.int t, .int b]) ∧ 0 ≤ t ∧ 0 ≤ b ∧ Sz 110 t ∧ Sz 110 b
theorem ShA.keep {H H' : Hp} {v : V} (h : ShA H v) (s : Same H H') : ShA H' v := by
  obtain ⟨p, t, b, e, h1, h2⟩ := h
  exact ⟨p, t, b, e, s _ _ h1, h2⟩
noncomputable def AllS (H : Hp) (xs : List V) : Prop := ∀ v ∈ xs, ShA H v
theorem AllS.keep {H H' : Hp} {xs : List V} (h : AllS H xs) (s : Same H H') : AllS H' xs := fun v hv => (h v hv).keep s
theorem AllS.write {H : Hp} {l : Addr} {zs ws : List V} (hl : H l = some (.lst zs)) {xs : List V} (h : AllS H xs) : AllS (upd H l (.lst ws)) xs := fun v hv => by
  obtain ⟨p, t, b, e, h1, h2⟩ := h v hv
  exact ⟨p, t, b, e, by rw [upd_ne (ne_of h1 hl (by intro z; cases z))]; exact h1, h2⟩
theorem alls_nil {H : Hp} : AllS H [] := fun v hv => by cases hv
theorem alls_cons {H : Hp} {x : V} {xs : List V} (h : ShA H x) (k : AllS H xs) : AllS H (x :: xs) := fun v hv => by
  rcases List.mem_cons.mp hv with z | z
  · rw [z]; exact h
  · exact k v z
theorem alls_snoc {H : Hp} {x : V} {xs : List V} (k : AllS H xs) (h : ShA H x) : AllS H (xs ++ [x]) := fun v hv => by
  rcases List.mem_append.mp hv with z | z
  · exact k v z
  · rw [List.mem_singleton.mp z]; exact h
theorem ten30 : (10 : Int) ^ (30 : Int).toNat = 1000000000000000000000000000000 := by decide +kernel
theorem sz110 {i : Int} (h : i.natAbs ≤ 1000000000000000000000000000001) : Sz 110 i := Nat.lt_of_le_of_lt h (by decide +kernel)
theorem sh_lit {H : Hp} {p : Addr} {t b : Int} (h : H p = some (.tup [.int t, .int b])) (h1 : 0 ≤ t) (h2 : 0 ≤ b) (h3 : t.natAbs ≤ 1000000000000000000000000000001) (h4 : b.natAbs ≤ 1000000000000000000000000000001) : ShA H (.ref p) := ⟨p, t, b, rfl, h, h1, h2, sz110 h3, sz110 h4⟩
theorem sh_rq {H : Hp} {p : Addr} {t b : Int} (hb : 0 < b) (ht : 0 ≤ t) (s1 : Sz 110 t) (s2 : Sz 110 b) (h : H p = some (.tup [.int (rq t b).num, .int ((rq t b).den : Int)])) : ShA H (.ref p) := ⟨p, _, _, rfl, h, rq_nn hb ht, Int.le_of_lt (rden _), (SmR_rq hb s1 s2).1, (SmR_rq hb s1 s2).2⟩
noncomputable def spLsh (K : PySem.W.Frag) : Sp := fun vs H Q _ => ∃ (a : Addr) (ns : List Int) (k : Int), vs = [.ref a, .int k] ∧ SqL K H a (ns.map V.int) ∧ ns.length ≤ 63 ∧ 0 ≤ k ∧ k ≤ 300 ∧ ∀ v H', Same H H' → ShA H' v → Q v H'
theorem sc_lsh : FnScope ["_law_script", "_law_k", "_law_some", "_law_bottom"] ["_law_script", "_law_k"] (defScope s_lsh) := ⟨rfl, rfl, rfl, by decide +kernel, rfl, by decide +kernel, by decide +kernel⟩
theorem ok_lsh {f : Addr} {fd : FuncData} (F : Fun K "_law_share" "_law_share" s_lsh f fd) (T : Txt mg) {fcellU : Addr} {dcellU : FuncData} (GcellU : FnOk P w K mg base CX0 2 fcellU dcellU ["_law_script", "_law_k"] (spCellU K)) (bcellU : Binds K dcellU ["_law_script", "_law_k"] []) (kcellU : PySem.W.keepIn K (.ref fcellU) = true) (mcellU : mg "_law_cell" = some (.ref fcellU)) {flow : Addr} {dlow : FuncData} (Glow : FnOk P w K mg base CX0 2 flow dlow ["_law_top", "_law_bottom"] spLow) (blow : Binds K dlow ["_law_top", "_law_bottom"] []) (klow : PySem.W.keepIn K (.ref flow) = true) (mlow : mg "_law_low" = some (.ref flow)) : FnOk P w K mg base CX0 3 f fd ["_law_script", "_law_k"] (spLsh K) := by
  refine F.ok sc_lsh (fun vs H Q E h => ?_) (fun cdv A outer s H vs Q E hr h => ?_)
  · obtain ⟨a, ns, k, rfl, _⟩ := h
    rfl
  obtain ⟨a, ns, k, rfl, hS, h63, k0, k3, q⟩ := h
  refine ⟨_, (pss_cons (ps_set (i := 2) sc_lsh.nd rfl (Or.inl rfl) (pe_lst (pa_cons (pe_tup (pa_cons pe_int (pa_cons pe_int pa_nil))) (pa_cons (pe_tup (pa_cons pe_int (pa_cons pe_int pa_nil))) (pa_cons (pe_tup (pa_cons pe_int (pa_cons pe_int pa_nil))) (pa_cons (pe_tup (pa_cons pe_int (pa_cons pe_int pa_nil))) (pa_cons (pe_tup (pa_cons pe_int (pa_cons pe_int pa_nil))) (pa_cons (pe_tup (pa_cons pe_int (pa_cons (pe_op op_pow pe_int pe_int) pa_nil))) pa_nil))))))))
    (pss_cons (ps_set (i := 3) sc_lsh.nd rfl (Or.inl rfl) (pe_op op_add pe_int (pe_op op_mod (pe_op op_mul (pe_call GcellU hr rfl mcellU kcellU bcellU .nil pass0 (pa_cons (pv 0) (pa_cons (pe_op op_add (pv 1) pe_int) pa_nil))) (pe_op op_pow pe_int pe_int)) (pe_op op_pow pe_int pe_int))))
    (pss_cons (ps_expr (pe_bm PySem.F.plainAttrs_list PySem.F.slot_list_append PySem.F.type_list_append mt_append (pv 2) (pa_cons (pe_call Glow hr rfl mlow klow blow .nil pass0 (pa_cons (pe_op op_add pe_int (pe_op op_mod (pe_op op_mul (pe_call GcellU hr rfl mcellU kcellU bcellU .nil pass0 (pa_cons (pv 0) (pa_cons (pe_op op_add (pv 1) pe_int) pa_nil))) (pe_op op_pow pe_int pe_int)) (pv 3))) (pa_cons (pv 3) pa_nil))) pa_nil)))
    (pss_cons (ps_expr (pe_bm PySem.F.plainAttrs_list PySem.F.slot_list_append PySem.F.type_list_append mt_append (pv 2) (pa_cons (pe_call Glow hr rfl mlow klow blow .nil pass0 (pa_cons (pe_op op_add pe_int (pe_op op_mod (pe_call GcellU hr rfl mcellU kcellU bcellU .nil pass0 (pa_cons (pv 0) (pa_cons (pe_op op_add (pv 1) pe_int) pa_nil))) pe_int)) (pa_cons pe_int pa_nil))) pa_nil)))
    (pss_one (ps_ret (pe_ix ix_list (pv 2) (pe_op op_mod (pe_call GcellU hr rfl mcellU kcellU bcellU .nil pass0 (pa_cons (pv 0) (pa_cons (pv 1) pa_nil))) pe_int) (fun _ _ => rfl)))))))), ?_⟩
  have two : 2 ≤ sizeLine := by decide
  refine ⟨two, fun a1 h1 => ⟨two, fun a2 h2 => ⟨two, fun a3 h3 => ⟨two, fun a4 h4 => ⟨two, fun a5 h5 => ?_⟩⟩⟩⟩⟩
  have w1 := same_new h1 (.tup [V.int 1, V.int 2])
  have x1 : upd H a1 (.tup [V.int 1, V.int 2]) a1 = some (.tup [V.int 1, V.int 2]) := upd_same
  have w2 := same_new h2 (.tup [V.int 9, V.int 10])
  have x2 : upd (upd H a1 (.tup [V.int 1, V.int 2])) a2 (.tup [V.int 9, V.int 10]) a2 = some (.tup [V.int 9, V.int 10]) := upd_same
  have w3 := same_new h3 (.tup [V.int 19, V.int 20])
  have x3 : upd (upd (upd H a1 (.tup [V.int 1, V.int 2])) a2 (.tup [V.int 9, V.int 10])) a3 (.tup [V.int 19, V.int 20]) a3 = some (.tup [V.int 19, V.int 20]) := upd_same
  have w4 := same_new h4 (.tup [V.int 2, V.int 3])
  have x4 : upd (upd (upd (upd H a1 (.tup [V.int 1, V.int 2])) a2 (.tup [V.int 9, V.int 10])) a3 (.tup [V.int 19, V.int 20])) a4 (.tup [V.int 2, V.int 3]) a4 = some (.tup [V.int 2, V.int 3]) := upd_same
  have w5 := same_new h5 (.tup [V.int 1, V.int 1])
  have x5 : upd (upd (upd (upd (upd H a1 (.tup [V.int 1, V.int 2])) a2 (.tup [V.int 9, V.int 10])) a3 (.tup [V.int 19, V.int 20])) a4 (.tup [V.int 2, V.int 3])) a5 (.tup [V.int 1, V.int 1]) a5 = some (.tup [V.int 1, V.int 1]) := upd_same
  generalize upd (upd (upd (upd (upd H a1 (.tup [V.int 1, V.int 2])) a2 (.tup [V.int 9, V.int 10])) a3 (.tup [V.int 19, V.int 20])) a4 (.tup [V.int 2, V.int 3])) a5 (.tup [V.int 1, V.int 1]) = H5 at *
  generalize upd (upd (upd (upd H a1 (.tup [V.int 1, V.int 2])) a2 (.tup [V.int 9, V.int 10])) a3 (.tup [V.int 19, V.int 20])) a4 (.tup [V.int 2, V.int 3]) = H4 at *
  generalize upd (upd (upd H a1 (.tup [V.int 1, V.int 2])) a2 (.tup [V.int 9, V.int 10])) a3 (.tup [V.int 19, V.int 20]) = H3 at *
  generalize upd (upd H a1 (.tup [V.int 1, V.int 2])) a2 (.tup [V.int 9, V.int 10]) = H2 at *
  generalize upd H a1 (.tup [V.int 1, V.int 2]) = H1 at *
  refine ⟨_, _, rfl, rfl, ⟨by decide, by decide, by decide⟩, two, fun a6 h6 => ?_⟩
  dsimp only
  rw [ten30]
  have w6 := same_new h6 (.tup [V.int 1, V.int 1000000000000000000000000000000])
  have x6 : upd H5 a6 (.tup [V.int 1, V.int 1000000000000000000000000000000]) a6 = some (.tup [V.int 1, V.int 1000000000000000000000000000000]) := upd_same
  generalize upd H5 a6 (.tup [V.int 1, V.int 1000000000000000000000000000000]) = H6 at *
  refine ⟨(by show 6 ≤ sizeLine; decide), fun L hL => ?_⟩
  have al6 : AllS H6 [V.ref a1, V.ref a2, V.ref a3, V.ref a4, V.ref a5, V.ref a6] :=
    alls_cons (sh_lit ((w2.trans (w3.trans (w4.trans (w5.trans w6)))) _ _ x1) (by decide) (by decide) (by decide) (by decide)) (alls_cons (sh_lit ((w3.trans (w4.trans (w5.trans w6))) _ _ x2) (by decide) (by decide) (by decide) (by decide)) (alls_cons (sh_lit ((w4.trans (w5.trans w6)) _ _ x3) (by decide) (by decide) (by decide) (by decide))
      (alls_cons (sh_lit ((w5.trans w6) _ _ x4) (by decide) (by decide) (by decide) (by decide)) (alls_cons (sh_lit (w6 _ _ x5) (by decide) (by decide) (by decide) (by decide)) (alls_cons (sh_lit x6 (by decide) (by decide) (by decide) (by decide)) alls_nil)))))
  have s6 := ((w1.trans w2).trans (w3.trans w4)).trans (w5.trans w6)
  generalize hxs : [V.ref a1, V.ref a2, V.ref a3, V.ref a4, V.ref a5, V.ref a6] = xs at *
  have lx : xs.length = 6 := by rw [← hxs]; rfl
  have wL := same_new hL (.lst xs)
  have xL : upd H6 L (.lst xs) L = some (.lst xs) := upd_same
  have al7 := al6.keep wL
  have hLn : H L = none := by
    cases e : H L with
    | none => rfl
    | some u => rw [s6 _ _ e] at hL; cases hL
  generalize upd H6 L (.lst xs) = H7 at *
  have s7 := s6.trans wL
  refine ⟨_, rfl, _, rfl, _, _, rfl, rfl, a, ns, k + 1, rfl, s7.seq hS, h63, by omega, by omega, fun r1 r10 r11 => ?_⟩
  refine ⟨_, _, rfl, rfl, ⟨by decide, by decide, by decide⟩, _, _, rfl, rfl, .inl ⟨by omega, by omega⟩, _, _, rfl, rfl, ⟨by decide, by decide, by decide⟩, _, _, rfl, rfl, (by show (0 : Int) < 10 ^ (30 : Int).toNat; rw [ten30]; decide), _, _, rfl, rfl, ?_⟩
  dsimp only
  rw [ten30]
  have b0 := md0 (r1 * 40014 ^ (5 : Int).toNat) (show (0 : Int) < 1000000000000000000000000000000 by decide)
  have b1 := md1 (r1 * 40014 ^ (5 : Int).toNat) (show (0 : Int) < 1000000000000000000000000000000 by decide)
  generalize r1 * 40014 ^ (5 : Int).toNat % 1000000000000000000000000000000 = z at *
  have hb : (0 : Int) < 1 + z := by omega
  refine ⟨_, rfl, .inl ⟨rfl, _, SqL.of xL⟩, _, rfl, _, rfl, _, _, rfl, rfl, a, ns, k + 2, rfl, s7.seq hS, h63, by omega, by omega, fun r2 r20 r21 => ?_⟩
  refine ⟨_, _, rfl, rfl, ⟨by decide, by decide, by decide⟩, _, _, rfl, rfl, .inl ⟨by omega, by omega⟩, _, rfl, _, _, rfl, rfl, hb, _, _, rfl, rfl, _, rfl, ?_⟩
  have c0 := md0 (r2 * 48271 ^ (7 : Int).toNat) hb
  have c1 := md1 (r2 * 48271 ^ (7 : Int).toNat) hb
  dsimp only
  generalize r2 * 48271 ^ (7 : Int).toNat % (1 + z) = y at *
  refine ⟨1 + y, 1 + z, rfl, hb, sz110 (by omega), sz110 (by omega), fun p1 H8 s8 hp1 => ?_⟩
  have sh1 := sh_rq hb (show 0 ≤ 1 + y by omega) (sz110 (by omega)) (sz110 (by omega)) hp1
  have xL8 := s8 _ _ xL
  refine ⟨L, xs, .ref p1, rfl, rfl, xL8, lt40 (by omega), ?_⟩
  have al9 : AllS (upd H8 L (.lst (xs ++ [V.ref p1]))) (xs ++ [V.ref p1]) := (alls_snoc (al7.keep s8) sh1).write xL8
  have s9 : Same H (upd H8 L (.lst (xs ++ [V.ref p1]))) := same_write (s7.trans s8) hLn
  have x9 : upd H8 L (.lst (xs ++ [V.ref p1])) L = some (.lst (xs ++ [V.ref p1])) := upd_same
  generalize upd H8 L (.lst (xs ++ [V.ref p1])) = H9 at *
  refine ⟨_, rfl, .inl ⟨rfl, _, SqL.of x9⟩, _, rfl, _, rfl, _, _, rfl, rfl, a, ns, k + 2, rfl, s9.seq hS, h63, by omega, by omega, fun r3 r30 r31 => ?_⟩
  have d0 := md0 r3 (show (0 : Int) < 100 by decide)
  have d1 := md1 r3 (show (0 : Int) < 100 by decide)
  refine ⟨_, _, rfl, rfl, (by show (0 : Int) < 100; decide), _, _, rfl, rfl, 1 + r3 % 100, 100, rfl, by decide, sz110 (by omega), sz110 (by decide), fun p2 H10 s10 hp2 => ?_⟩
  have sh2 := sh_rq (show (0 : Int) < 100 by decide) (show 0 ≤ 1 + r3 % 100 by omega) (sz110 (by omega)) (sz110 (by decide)) hp2
  have x10 := s10 _ _ x9
  refine ⟨L, _, .ref p2, rfl, rfl, x10, lt40 (by simp; omega), ?_⟩
  have al11 : AllS (upd H10 L (.lst (xs ++ [V.ref p1] ++ [V.ref p2]))) (xs ++ [V.ref p1] ++ [V.ref p2]) := (alls_snoc (al9.keep s10) sh2).write x10
  have s11 : Same H (upd H10 L (.lst (xs ++ [V.ref p1] ++ [V.ref p2]))) := same_write (s9.trans s10) hLn
  have x11 : upd H10 L (.lst (xs ++ [V.ref p1] ++ [V.ref p2])) L = some (.lst (xs ++ [V.ref p1] ++ [V.ref p2])) := upd_same
  generalize upd H10 L (.lst (xs ++ [V.ref p1] ++ [V.ref p2])) = H11 at *
  have l8 : (xs ++ [V.ref p1] ++ [V.ref p2]).length = 8 := by simp [lx]
  generalize xs ++ [V.ref p1] ++ [V.ref p2] = ys at *
  refine ⟨_, rfl, _, rfl, _, rfl, a, ns, k, rfl, s11.seq hS, h63, by omega, by omega, fun r4 r40 r41 => ?_⟩
  have e0 := md0 r4 (show (0 : Int) < 8 by decide)
  have e1 := md1 r4 (show (0 : Int) < 8 by decide)
  obtain ⟨i, ei⟩ : ∃ i : Nat, r4 % 8 = (i : Int) := ⟨(r4 % 8).toNat, by omega⟩
  have hi : i < ys.length := by omega
  refine ⟨_, _, rfl, rfl, (by show (0 : Int) < 8; decide), L, ys, _, _, rfl, rfl, SqL.of x11, (by show atI ys (r4 % 8) = _; rw [ei]; exact atI_nat (List.getElem?_eq_getElem hi)), q _ _ s11 (al11 _ (List.getElem_mem hi))⟩
open Ei Ec
noncomputable def ppT (p : Int × Int) : Th := .tup [.int p.1, .int p.2]
theorem dens_prl {H : Hp} : ∀ {ps : List (Int × Int)} {xs : List V}, PrL H ps xs → Dens H (ps.map ppT) xs
  | [], _, h => h
  | _ :: _, _, ⟨a, ys, e, h1, h2⟩ => ⟨_, ys, e, den_p h1, dens_prl h2⟩
theorem den_lst {H : Hp} {l : Addr} {ps : List (Int × Int)} {xs : List V} (hl : H l = some (.lst xs)) (pr : PrL H ps xs) : Den H (.lst (ps.map ppT)) (.ref l) := ⟨l, _, rfl, hl, dens_prl pr⟩
theorem dep_pp : ∀ ps : List (Int × Int), depTs (ps.map ppT) ≤ 1
  | [] => by simp [depTs]
  | p :: ps => by
    have := dep_pp ps
    simp only [List.map_cons, depTs, depT, ppT]
    omega
theorem dep_lpp (ps : List (Int × Int)) : depT (.lst (ps.map ppT)) ≤ 60 := by
  have := dep_pp ps
  simp only [depT]
  omega
open Ei Ec
noncomputable def spMix (K : PySem.W.Frag) : Sp := fun vs H Q _ => ∃ (a l : Addr) (ns us : List Int) (st : Int), vs = [.ref a, .ref l, .int st] ∧ SqL K H a (ns.map V.int) ∧ ns.length ≤ 63 ∧ H l = some (.lst (us.map V.int)) ∧ us.length ≤ 10 ∧ 0 ≤ st ∧ st ≤ 300 ∧
  ∀ r H' (ws : List Int), Same H H' → H' r = some (.lst (ws.map V.int)) → ws.Perm us → Q (.ref r) H'
theorem sc_mix : FnScope ["_law_script", "_law_values", "_law_start", "_law_found", "_law_k"] ["_law_script", "_law_values", "_law_start"] (defScope s_mix) := ⟨rfl, rfl, rfl, by decide +kernel, rfl, by decide +kernel, by decide +kernel⟩
theorem ok_mix {f : Addr} {fd : FuncData} (F : Fun K "_law_mixed" "_law_mixed" s_mix f fd) (T : Txt mg) {fcellU : Addr} {dcellU : FuncData} (GcellU : FnOk P w K mg base CX0 2 fcellU dcellU ["_law_script", "_law_k"] (spCellU K)) (bcellU : Binds K dcellU ["_law_script", "_law_k"] []) (kcellU : PySem.W.keepIn K (.ref fcellU) = true) (mcellU : mg "_law_cell" = some (.ref fcellU)) : FnOk P w K mg base CX0 3 f fd ["_law_script", "_law_values", "_law_start"] (spMix K) := by
  refine F.ok sc_mix (fun vs H Q E h => ?_) (fun cdv A outer s H vs Q E hr h => ?_)
  · obtain ⟨a, l, ns, us, st, rfl, _⟩ := h
    rfl
  obtain ⟨a, l, ns, us, st, rfl, hS, h63, hl, lu, s0, s1, q⟩ := h
  refine ⟨_, (pss_cons (ps_set (i := 3) sc_mix.nd rfl (Or.inl rfl) (pe_lst pa_nil))
    (pss_cons (ps_for PassesOwn.never rfl (pi_range1 rfl T.range (pa_cons (pe_callB call_len_seq rfl T.len boot_len (pa_cons (pv 1) pa_nil)) pa_nil)) (pg_name (i := 4) sc_mix.nd rfl (Or.inl rfl)) (pss_one (ps_expr (pe_bm PySem.F.plainAttrs_list PySem.F.slot_list_insert PySem.F.type_list_insert mt_insert (pv 3) (pa_cons (pe_op op_mod (pe_call GcellU hr rfl mcellU kcellU bcellU .nil pass0 (pa_cons (pv 0) (pa_cons (pe_op op_add (pv 2) (pv 4)) pa_nil))) (pe_op op_add (pv 4) pe_int)) (pa_cons (pe_ix ix_list (pv 1) (pv 4) (fun _ _ => rfl)) pa_nil))))))
    (pss_one (ps_ret (pv 3))))), ?_⟩
  refine ⟨Nat.zero_le _, fun L hL => ?_⟩
  have w1 := same_new hL (.lst [])
  refine ⟨_, rfl, l, _, rfl, .inl (SqL.of (w1 _ _ hl)), _, rfl, by omega, by rw [List.length_map]; omega, ?_⟩
  have en' : ((((us.map V.int).length : Nat) : Int)).toNat = us.length := by rw [List.length_map]; omega
  rw [en']
  refine for_range (lo := 0) (fun i σ G => Same H G ∧ ∃ (ws : List Int) (v4 : Option V), σ = [some (.ref a), some (.ref l), some (.int st), some (.ref L), v4] ∧ G L = some (.lst (ws.map V.int)) ∧ ws.Perm (us.take i)) ⟨w1, [], none, rfl, upd_same, by simp⟩ ?_ ?_
  · rintro i σ G hi ⟨sm, ws, v4, rfl, hLG, pm⟩
    rw [Int.zero_add]
    have ev := List.getElem?_eq_getElem hi
    have lw : ws.length = i := by rw [pm.length_eq]; simp; omega
    have mp : (0 : Int) < (i : Int) + 1 := by omega
    refine ⟨_, rfl, .inl ⟨rfl, _, SqL.of hLG⟩, _, rfl, _, rfl, _, rfl, _, _, rfl, rfl, a, ns, st + i, rfl, sm.seq hS, h63, by omega, by omega, fun r r0 r1 => ?_⟩
    have z0 := md0 r mp
    have z1 := md1 r mp
    refine ⟨_, rfl, _, _, rfl, rfl, _, _, rfl, rfl, mp, _, rfl, _, rfl, l, _, _, V.int us[i], rfl, rfl, SqL.of (sm _ _ hl), atI_nat (by rw [List.getElem?_map, ev]; rfl), L, _, _, _, rfl, rfl, hLG, z0, by rw [List.length_map]; omega, lt40 (by rw [List.length_map]; omega), ?_⟩
    refine ⟨same_write sm hL, ws.take (r % ((i : Int) + 1)).toNat ++ us[i] :: ws.drop (r % ((i : Int) + 1)).toNat, _, rfl, ?_, ?_⟩
    · rw [upd_same, List.map_append, List.map_cons, List.map_take, List.map_drop]
    · rw [List.take_add_one, ev]
      refine List.perm_middle.trans ?_
      rw [List.take_append_drop]
      exact (pm.cons _).trans (List.perm_append_comm (l₁ := [us[i]]))
  · rintro σ G ⟨sm, ws, v4, rfl, hLG, pm⟩
    rw [List.take_length] at pm
    exact ⟨_, rfl, q L G ws sm hLG pm⟩
theorem put_app (as bs : List Int) (c : Int) : put as c ++ put bs c = (as ++ bs).map fun v => v + c := by unfold put; rw [List.map_append]
theorem S_put (as bs : List Int) (c : Int) : sbs (put as c ++ put bs c) (put as c).length = (sbs (as ++ bs) as.length).map fun s => s + c * (as.length : Int) := by rw [put_app, put_len, sbs_add]
theorem le_add' (c : Int) : ∀ a b : Int, a + c ≤ b + c ↔ a ≤ b := fun a b => by omega
theorem u_put (as bs : List Int) (c : Int) : uS (put as c) (put bs c) = uS as bs := by
  unfold uS
  rw [S_put]
  have : (put as c).sum = as.sum + c * (as.length : Int) := sum_put as c
  rw [this]
  exact up_mapI (f := fun s => s + c * (as.length : Int)) (le_add' _) _ _
theorem d_put (as bs : List Int) (c : Int) : dS (put as c) (put bs c) = dS as bs := by
  unfold dS
  rw [S_put]
  have : (put as c).sum = as.sum + c * (as.length : Int) := sum_put as c
  rw [this]
  exact dn_mapI (f := fun s => s + c * (as.length : Int)) (le_add' _) _ _
theorem n_len {as bs as' bs' : List Int} (h1 : as'.length = as.length) (h2 : bs'.length = bs.length) : nS as' bs' = nS as bs := by
  unfold nS
  rw [sbs_len, sbs_len, List.length_append, List.length_append, h1, h2]
noncomputable def mulL (as : List Int) (c : Int) : List Int := as.map fun v => v * c
noncomputable def negL (as : List Int) : List Int := as.map fun v => 0 - v
theorem S_mul (as bs : List Int) (c : Int) : sbs (mulL as c ++ mulL bs c) (mulL as c).length = (sbs (as ++ bs) as.length).map fun s => s * c := by
  unfold mulL
  rw [← List.map_append, List.length_map, sbs_mul]
theorem S_neg (as bs : List Int) : sbs (negL as ++ negL bs) (negL as).length = (sbs (as ++ bs) as.length).map fun s => 0 - s := by
  unfold negL
  rw [← List.map_append, List.length_map, sbs_neg]
theorem le_mul' {c : Int} (h : 0 < c) : ∀ a b : Int, a * c ≤ b * c ↔ a ≤ b := fun a b => ⟨fun z => Int.le_of_mul_le_mul_right z h, fun z => Int.mul_le_mul_of_nonneg_right z (Int.le_of_lt h)⟩
theorem u_mul (as bs : List Int) {c : Int} (h : 0 < c) : uS (mulL as c) (mulL bs c) = uS as bs := by
  unfold uS
  rw [S_mul]
  have : (mulL as c).sum = as.sum * c := sum_mul as c
  rw [this]
  exact up_mapI (f := fun s => s * c) (le_mul' h) _ _
theorem d_mul (as bs : List Int) {c : Int} (h : 0 < c) : dS (mulL as c) (mulL bs c) = dS as bs := by
  unfold dS
  rw [S_mul]
  have : (mulL as c).sum = as.sum * c := sum_mul as c
  rw [this]
  exact dn_mapI (f := fun s => s * c) (le_mul' h) _ _
theorem le_neg' : ∀ a b : Int, 0 - a ≤ 0 - b ↔ b ≤ a := fun a b => by omega
theorem u_neg (as bs : List Int) : uS (negL as) (negL bs) = dS as bs := by
  unfold uS dS
  rw [S_neg]
  have : (negL as).sum = 0 - as.sum := sum_neg as
  rw [this]
  exact up_mapD (f := fun s => 0 - s) le_neg' _ _
theorem d_neg (as bs : List Int) : dS (negL as) (negL bs) = uS as bs := by
  unfold uS dS
  rw [S_neg]
  have : (negL as).sum = 0 - as.sum := sum_neg as
  rw [this]
  exact dn_mapD (f := fun s => 0 - s) le_neg' _ _
theorem S_perm {as bs as' bs' : List Int} (h1 : as'.Perm as) (h2 : bs'.Perm bs) : (sbs (as' ++ bs') as'.length).Perm (sbs (as ++ bs) as.length) := by
  rw [h1.length_eq]
  exact sbs_perm (h1.append h2) _
theorem sum_perm {a b : List Int} (h : a.Perm b) : a.sum = b.sum := by
  induction h with
  | nil => rfl
  | cons x _ ih => rw [List.sum_cons, List.sum_cons, ih]
  | swap x y l => rw [List.sum_cons, List.sum_cons, List.sum_cons, List.sum_cons]; omega
  | trans _ _ h1 h2 => rw [h1, h2]
theorem put_perm {as as' : List Int} (h : as'.Perm as) (d : Int) : (put as' d).Perm (put as d) := h.map _
theorem u_perm {as bs as' bs' : List Int} (h1 : as'.Perm as) (h2 : bs'.Perm bs) : uS as' bs' = uS as bs := by
  unfold uS
  rw [up_perm (S_perm h1 h2), sum_perm h1]
theorem d_perm {as bs as' bs' : List Int} (h1 : as'.Perm as) (h2 : bs'.Perm bs) : dS as' bs' = dS as bs := by
  unfold dS
  rw [dn_perm (S_perm h1 h2), sum_perm h1]
theorem bool_iff {a b : Bool} (h : a = true ↔ b = true) : a = b := by cases a <;> cases b <;> simp_all
theorem en_put (as bs : List Int) (c t b d : Int) : en (put as c) (put bs c) t b d = en as bs t b d := bool_iff (by
  rw [en_iff, en_iff, put_put, show c + d = d + c by omega, ← put_put, u_put, n_len (put_len as c) (put_len bs c)])
theorem en_perm {as bs as' bs' : List Int} (h1 : as'.Perm as) (h2 : bs'.Perm bs) (t b d : Int) : en as' bs' t b d = en as bs t b d := bool_iff (by
  rw [en_iff, en_iff, u_perm (put_perm h1 d) h2, n_len h1.length_eq h2.length_eq])
open Ei Ec
noncomputable def frT2 (u d : Rat) : Th := .tup [.tup [.int u.num, .int (u.den : Int)], .tup [.int d.num, .int (d.den : Int)]]
theorem den_fr2 {H : Hp} {r u d : Addr} {x y : Rat} (hr : H r = some (.tup [.ref u, .ref d])) (hu : H u = some (.tup [.int x.num, .int (x.den : Int)])) (hd : H d = some (.tup [.int y.num, .int (y.den : Int)])) : Den H (frT2 x y) (.ref r) := den2 hr (den_p hu) (den_p hd)
theorem dep_fr2 (x y : Rat) : depT (frT2 x y) ≤ 60 := by
  simp only [frT2, depT, depTs]
  omega
theorem map_snoc {f : Int → Int} {as : List Int} {i : Nat} {v : Int} (e : as[i]? = some v) : (((as.take i).map f).map V.int) ++ [V.int (f v)] = ((as.take (i + 1)).map f).map V.int := by
  rw [List.take_add_one, e]
  simp
theorem some_T (as bs : List Int) : sbs (as ++ bs) as.length ≠ [] := fun z => by
  have := nS_pos as bs
  unfold nS at this
  rw [z] at this
  exact absurd this (Int.lt_irrefl 0)
theorem den_lst' {H : Hp} {l : Addr} {ps qs : List (Int × Int)} {xs : List V} (e : ps = qs) (hl : H l = some (.lst xs)) (pr : PrL H ps xs) : Den H (.lst (qs.map ppT)) (.ref l) := e ▸ den_lst hl pr
theorem add_inj (c : Int) : ∀ a b : Int, (fun s => s + c) a = (fun s => s + c) b → a = b := fun a b h => by have h' : a + c = b + c := h; omega
theorem add_mo (c : Int) : ∀ a b : Int, a ≤ b → (fun s => s + c) a ≤ (fun s => s + c) b := fun a b h => by show a + c ≤ b + c; omega
theorem mul_inj {c : Int} (hc : 0 < c) : ∀ a b : Int, (fun s => s * c) a = (fun s => s * c) b → a = b := fun a b h => by
  have h' : a * c = b * c := h
  exact Int.eq_of_mul_eq_mul_right (Int.ne_of_gt hc) h'
theorem mul_mo {c : Int} (hc : 0 < c) : ∀ a b : Int, a ≤ b → (fun s => s * c) a ≤ (fun s => s * c) b := fun a b h => (le_mul' hc a b).mpr h
theorem neg_inj : ∀ a b : Int, (fun s : Int => 0 - s) a = (fun s : Int => 0 - s) b → a = b := fun a b h => by have h' : 0 - a = 0 - b := h; omega
theorem neg_mo : ∀ a b : Int, a ≤ b → (fun s : Int => 0 - s) b ≤ (fun s : Int => 0 - s) a := fun a b h => by show 0 - b ≤ 0 - a; omega
noncomputable def spLaw (K : PySem.W.Frag) : Sp := fun vs H Q _ => ∃ (a : Addr) (ns : List Int), vs = [.ref a] ∧ SqL K H a (ns.map V.int) ∧ ns.length ≤ 63 ∧ (∀ i ∈ ns, Bg i) ∧ ∀ H', Q (.bl true) H'
theorem sc_law : FnScope ["_law_script", "_law_one", "_law_other", "_law_share_here", "_law_told", "_law_pair", "_law_first_put", "_law_put", "_law_many", "_law_raised", "_law_grown", "_law_mixed_here", "_law_turned"] ["_law_script"] (defScope s_law) := ⟨rfl, rfl, rfl, by decide +kernel, rfl, by decide +kernel, by decide +kernel⟩
theorem ok_law {f : Addr} {fd : FuncData} (F : Fun K "law" "law" s_law f fd) (T : Txt mg) {fgrp : Addr} {dgrp : FuncData} (Ggrp : FnOk P w K mg base CX0 6 fgrp dgrp ["_law_script"] (spGrp K)) (bgrp : Binds K dgrp ["_law_script"] []) (kgrp : PySem.W.keepIn K (.ref fgrp) = true) (mgrp : mg "_law_groups" = some (.ref fgrp)) {flsh : Addr} {dlsh : FuncData} (Glsh : FnOk P w K mg base CX0 6 flsh dlsh ["_law_script", "_law_k"] (spLsh K)) (blsh : Binds K dlsh ["_law_script", "_law_k"] []) (klsh : PySem.W.keepIn K (.ref flsh) = true) (mlsh : mg "_law_share" = some (.ref flsh)) {fcellU : Addr} {dcellU : FuncData} (GcellU : FnOk P w K mg base CX0 6 fcellU dcellU ["_law_script", "_law_k"] (spCellU K)) (bcellU : Binds K dcellU ["_law_script", "_law_k"] []) (kcellU : PySem.W.keepIn K (.ref fcellU) = true) (mcellU : mg "_law_cell" = some (.ref fcellU)) {fsums : Addr} {dsums : FuncData} (Gsums : FnOk P w K mg base CX0 6 fsums dsums ["one", "other"] spSums) (bsums : Binds K dsums ["one", "other"] []) (ksums : PySem.W.keepIn K (.ref fsums) = true) (msums : mg "sums" = some (.ref fsums)) {fshr : Addr} {dshr : FuncData} (Gshr : FnOk P w K mg base CX0 6 fshr dshr ["one", "other"] spShr) (bshr : Binds K dshr ["one", "other"] []) (kshr : PySem.W.keepIn K (.ref fshr) = true) (mshr : mg "shares" = some (.ref fshr)) {fshf : Addr} {dshf : FuncData} (Gshf : FnOk P w K mg base CX0 6 fshf dshf ["one", "other", "share"] spShf) (bshf : Binds K dshf ["one", "other", "share"] []) (kshf : PySem.W.keepIn K (.ref fshf) = true) (mshf : mg "shift" = some (.ref fshf)) {fmix : Addr} {dmix : FuncData} (Gmix : FnOk P w K mg base CX0 6 fmix dmix ["_law_script", "_law_values", "_law_start"] (spMix K)) (bmix : Binds K dmix ["_law_script", "_law_values", "_law_start"] []) (kmix : PySem.W.keepIn K (.ref fmix) = true) (mmix : mg "_law_mixed" = some (.ref fmix)) : FnOk P w K mg base CX0 7 f fd ["_law_script"] (spLaw K) := by
  refine F.ok sc_law (fun vs H Q E h => ?_) (fun cdv A outer s H vs Q E hr h => ?_)
  · obtain ⟨a, ns, rfl, _⟩ := h
    rfl
  obtain ⟨a, ns, rfl, hS, h63, hbg, q⟩ := h
  refine ⟨_, (pss_cons (ps_asg (pe_call Ggrp hr rfl mgrp kgrp bgrp .nil pass0 (pa_cons (pv 0) pa_nil)) (pg_tup rfl (pgs_cons (pg_name (i := 1) sc_law.nd rfl (Or.inr rfl)) (pgs_cons (pg_name (i := 2) sc_law.nd rfl (Or.inl rfl)) pgs_nil))))
    (pss_cons (ps_set (i := 3) sc_law.nd rfl (Or.inl rfl) (pe_call Glsh hr rfl mlsh klsh blsh .nil pass0 (pa_cons (pv 0) (pa_cons pe_int pa_nil))))
    (pss_cons (ps_set (i := 4) sc_law.nd rfl (Or.inl rfl) (pe_call Gsums hr rfl msums ksums bsums .nil pass0 (pa_cons (pe_callTy call_list_of rfl T.list boot_list (pa_cons (pv 1) pa_nil)) (pa_cons (pe_callTy call_list_of rfl T.list boot_list (pa_cons (pv 2) pa_nil)) pa_nil))))
    (pss_cons (ps_set (i := 5) sc_law.nd rfl (Or.inl rfl) (pe_call Gshr hr rfl mshr kshr bshr .nil pass0 (pa_cons (pe_callTy call_list_of rfl T.list boot_list (pa_cons (pv 1) pa_nil)) (pa_cons (pe_callTy call_list_of rfl T.list boot_list (pa_cons (pv 2) pa_nil)) pa_nil))))
    (pss_cons (ps_set (i := 6) sc_law.nd rfl (Or.inl rfl) (pe_call Gshf hr rfl mshf kshf bshf .nil pass0 (pa_cons (pe_callTy call_list_of rfl T.list boot_list (pa_cons (pv 1) pa_nil)) (pa_cons (pe_callTy call_list_of rfl T.list boot_list (pa_cons (pv 2) pa_nil)) (pa_cons (pv 3) pa_nil)))))
    (pss_cons (ps_set (i := 7) sc_law.nd rfl (Or.inr rfl) (pe_op op_sub (pe_op op_mod (pe_call GcellU hr rfl mcellU kcellU bcellU .nil pass0 (pa_cons (pv 0) (pa_cons pe_int pa_nil))) pe_int) pe_int))
    (pss_cons (ps_set (i := 8) sc_law.nd rfl (Or.inr rfl) (pe_op op_add pe_int (pe_op op_mod (pe_call GcellU hr rfl mcellU kcellU bcellU .nil pass0 (pa_cons (pv 0) (pa_cons pe_int pa_nil))) pe_int)))
    (pss_cons (ps_set (i := 9) sc_law.nd rfl (Or.inl rfl) (pe_tup (pa_cons (pe_comp (ts := [("_law_put", 7)]) rfl ⟨rfl, sub1 rfl, rfl, rfl, rfl, rfl, by decide +kernel, rfl, rfl⟩ (pi_list (pv 1)) (fun C s3 H3 fp => (pe_op op_add (pv 0) (pv 1)))) (pa_cons (pe_comp (ts := [("_law_put", 7)]) rfl ⟨rfl, sub1 rfl, rfl, rfl, rfl, rfl, by decide +kernel, rfl, rfl⟩ (pi_list (pv 2)) (fun C s3 H3 fp => (pe_op op_add (pv 0) (pv 1)))) pa_nil))))
    (pss_cons (ps_if (pt_cmpR (op_neD hr.units) (pe_call Gsums hr rfl msums ksums bsums .nil pass0 (pa_cons (pe_ix ix_tup (pv 9) pe_int (fun _ _ => rfl)) (pa_cons (pe_ix ix_tup (pv 9) pe_int (fun _ _ => rfl)) pa_nil))) (pe_compG (xs := ["_law_whole", "_law_count"]) (ts := [("_law_put", 7), ("_law_one", 1)]) rfl ⟨rfl, sub2 rfl rfl, rfl, rfl, rfl, by decide +kernel, rfl, rfl⟩ (pi_list (pv 4)) (fun C s3 H3 fp => (pg_tupC (n := 2) rfl (pgs_cons (pg_name (i := 0) (show (["_law_whole", "_law_count", "_law_put", "_law_one"] : List Str).Nodup by decide +kernel) rfl (Or.inl rfl) (Or.inr rfl)) (pgs_cons (pg_name (i := 1) (show (["_law_whole", "_law_count", "_law_put", "_law_one"] : List Str).Nodup by decide +kernel) rfl (Or.inl rfl) (Or.inr rfl)) pgs_nil)))) (fun C s3 H3 fp => pif_nil) (fun C s3 H3 fp => (pe_tup (pa_cons (pe_op op_add (pv 0) (pe_op op_mul (pv 2) (pe_callB call_len_seqC rfl T.len boot_len (pa_cons (pv 3) pa_nil)))) (pa_cons (pv 1) pa_nil))))) (nomark _)) (pss_one (ps_ret pe_bl)) pss_nil)
    (pss_cons (ps_if (PW.pt (pw_or (pt_cmpR (op_neD hr.units) (pe_call Gshr hr rfl mshr kshr bshr .nil pass0 (pa_cons (pe_ix ix_tup (pv 9) pe_int (fun _ _ => rfl)) (pa_cons (pe_ix ix_tup (pv 9) pe_int (fun _ _ => rfl)) pa_nil))) (pv 5) (nomark _)) (pw_or1 (pt_cmpR (op_neD hr.units) (pe_call Gshf hr rfl mshf kshf bshf .nil pass0 (pa_cons (pe_ix ix_tup (pv 9) pe_int (fun _ _ => rfl)) (pa_cons (pe_ix ix_tup (pv 9) pe_int (fun _ _ => rfl)) (pa_cons (pv 3) pa_nil)))) (pv 6) (nomark _))))) (pss_one (ps_ret pe_bl)) pss_nil)
    (pss_cons (ps_set (i := 10) sc_law.nd rfl (Or.inl rfl) (pe_tup (pa_cons (pe_comp (ts := [("_law_many", 8)]) rfl ⟨rfl, sub1 rfl, rfl, rfl, rfl, rfl, by decide +kernel, rfl, rfl⟩ (pi_list (pv 1)) (fun C s3 H3 fp => (pe_op op_mul (pv 0) (pv 1)))) (pa_cons (pe_comp (ts := [("_law_many", 8)]) rfl ⟨rfl, sub1 rfl, rfl, rfl, rfl, rfl, by decide +kernel, rfl, rfl⟩ (pi_list (pv 2)) (fun C s3 H3 fp => (pe_op op_mul (pv 0) (pv 1)))) pa_nil))))
    (pss_cons (ps_if (pt_cmpR (op_neD hr.units) (pe_call Gsums hr rfl msums ksums bsums .nil pass0 (pa_cons (pe_ix ix_tup (pv 10) pe_int (fun _ _ => rfl)) (pa_cons (pe_ix ix_tup (pv 10) pe_int (fun _ _ => rfl)) pa_nil))) (pe_compG (xs := ["_law_whole", "_law_count"]) (ts := [("_law_many", 8)]) rfl ⟨rfl, sub1 rfl, rfl, rfl, rfl, by decide +kernel, rfl, rfl⟩ (pi_list (pv 4)) (fun C s3 H3 fp => (pg_tupC (n := 2) rfl (pgs_cons (pg_name (i := 0) (show (["_law_whole", "_law_count", "_law_many"] : List Str).Nodup by decide +kernel) rfl (Or.inl rfl) (Or.inr rfl)) (pgs_cons (pg_name (i := 1) (show (["_law_whole", "_law_count", "_law_many"] : List Str).Nodup by decide +kernel) rfl (Or.inl rfl) (Or.inr rfl)) pgs_nil)))) (fun C s3 H3 fp => pif_nil) (fun C s3 H3 fp => (pe_tup (pa_cons (pe_op op_mul (pv 0) (pv 2)) (pa_cons (pv 1) pa_nil))))) (nomark _)) (pss_one (ps_ret pe_bl)) pss_nil)
    (pss_cons (ps_if (pt_cmpR (op_neD hr.units) (pe_call Gshr hr rfl mshr kshr bshr .nil pass0 (pa_cons (pe_ix ix_tup (pv 10) pe_int (fun _ _ => rfl)) (pa_cons (pe_ix ix_tup (pv 10) pe_int (fun _ _ => rfl)) pa_nil))) (pv 5) (nomark _)) (pss_one (ps_ret pe_bl)) pss_nil)
    (pss_cons (ps_set (i := 11) sc_law.nd rfl (Or.inl rfl) (pe_tup (pa_cons (pe_call Gmix hr rfl mmix kmix bmix .nil pass0 (pa_cons (pv 0) (pa_cons (pv 1) (pa_cons pe_int pa_nil)))) (pa_cons (pe_call Gmix hr rfl mmix kmix bmix .nil pass0 (pa_cons (pv 0) (pa_cons (pv 2) (pa_cons pe_int pa_nil)))) pa_nil))))
    (pss_cons (ps_if (PW.pt (pw_or (pt_cmpR (op_neD hr.units) (pe_call Gsums hr rfl msums ksums bsums .nil pass0 (pa_cons (pe_ix ix_tup (pv 11) pe_int (fun _ _ => rfl)) (pa_cons (pe_ix ix_tup (pv 11) pe_int (fun _ _ => rfl)) pa_nil))) (pv 4) (nomark _)) (pw_or1 (pt_cmpR (op_neD hr.units) (pe_call Gshf hr rfl mshf kshf bshf .nil pass0 (pa_cons (pe_ix ix_tup (pv 11) pe_int (fun _ _ => rfl)) (pa_cons (pe_ix ix_tup (pv 11) pe_int (fun _ _ => rfl)) (pa_cons (pv 3) pa_nil)))) (pv 6) (nomark _))))) (pss_one (ps_ret pe_bl)) pss_nil)
    (pss_cons (ps_set (i := 12) sc_law.nd rfl (Or.inl rfl) (pe_tup (pa_cons (pe_comp (ts := []) rfl ⟨rfl, sub0, rfl, rfl, rfl, rfl, by decide +kernel, rfl, rfl⟩ (pi_list (pv 1)) (fun C s3 H3 fp => (pe_op op_sub pe_int (pv 0)))) (pa_cons (pe_comp (ts := []) rfl ⟨rfl, sub0, rfl, rfl, rfl, rfl, by decide +kernel, rfl, rfl⟩ (pi_list (pv 2)) (fun C s3 H3 fp => (pe_op op_sub pe_int (pv 0)))) pa_nil))))
    (pss_cons (ps_if (pt_cmpR (op_neD hr.units) (pe_call Gsums hr rfl msums ksums bsums .nil pass0 (pa_cons (pe_ix ix_tup (pv 12) pe_int (fun _ _ => rfl)) (pa_cons (pe_ix ix_tup (pv 12) pe_int (fun _ _ => rfl)) pa_nil))) (pe_compG (xs := ["_law_whole", "_law_count"]) (ts := []) rfl ⟨rfl, sub0, rfl, rfl, rfl, by decide +kernel, rfl, rfl⟩ (pi_rev rfl T.reversed (pa_cons (pv 4) pa_nil)) (fun C s3 H3 fp => (pg_tupC (n := 2) rfl (pgs_cons (pg_name (i := 0) (show (["_law_whole", "_law_count"] : List Str).Nodup by decide +kernel) rfl (Or.inl rfl) (Or.inr rfl)) (pgs_cons (pg_name (i := 1) (show (["_law_whole", "_law_count"] : List Str).Nodup by decide +kernel) rfl (Or.inl rfl) (Or.inr rfl)) pgs_nil)))) (fun C s3 H3 fp => pif_nil) (fun C s3 H3 fp => (pe_tup (pa_cons (pe_op op_sub pe_int (pv 0)) (pa_cons (pv 1) pa_nil))))) (nomark _)) (pss_one (ps_ret pe_bl)) pss_nil)
    (pss_one (ps_ret (pe_and (pe_cmpR (op_eqD hr.units) (pe_call Gshr hr rfl mshr kshr bshr .nil pass0 (pa_cons (pe_ix ix_tup (pv 11) pe_int (fun _ _ => rfl)) (pa_cons (pe_ix ix_tup (pv 11) pe_int (fun _ _ => rfl)) pa_nil))) (pv 5) (nomark _)) (pe_one (pe_cmpR (op_eqD hr.units) (pe_call Gshr hr rfl mshr kshr bshr .nil pass0 (pa_cons (pe_ix ix_tup (pv 12) pe_int (fun _ _ => rfl)) (pa_cons (pe_ix ix_tup (pv 12) pe_int (fun _ _ => rfl)) pa_nil))) (pe_tup (pa_cons (pe_ix ix_tup (pv 5) pe_int (fun _ _ => rfl)) (pa_cons (pe_ix ix_tup (pv 5) pe_int (fun _ _ => rfl)) pa_nil))) (nomark _))))))))))))))))))))))), ?_⟩
  have two : 2 ≤ sizeLine := by decide
  refine ⟨_, rfl, a, ns, rfl, hS, h63, fun r0 x y as bs H1 s1 hr0 hx hy l1 l2 l3 => ?_⟩
  refine ⟨r0, _, rfl, SqT.of hr0, rfl, .ref x, [.ref y], rfl, .ref y, [], rfl, rfl, ?_⟩
  refine ⟨_, rfl, a, ns, 60, rfl, s1.seq hS, h63, by decide, by decide, fun shv H2 s2 shA => ?_⟩
  obtain ⟨sh, t, b, rfl, hsh, t0, b0, st, sb⟩ := shA
  have lS := nS_le l3
  have mo : ∀ d e, en as bs t b d = true → d ≤ e → en as bs t b e = true := fun d e h hde => en_up b0 h hde
  have S0 := s1.trans s2
  have hS2 := S0.seq hS
  have hx2 := s2 _ _ hx
  have hy2 := s2 _ _ hy
  clear hS hx hy hr0
  refine ⟨_, rfl, x, _, rfl, .inl (SqL.of hx2), fun c1 h1 => ?_⟩
  have w1 := same_new h1 (.lst (as.map V.int))
  have x1 : upd H2 c1 (.lst (as.map V.int)) c1 = some (.lst (as.map V.int)) := upd_same
  generalize upd H2 c1 (.lst (as.map V.int)) = H3 at *
  refine ⟨_, rfl, y, _, rfl, .inl (SqL.of (w1 _ _ hy2)), fun c2 h2 => ?_⟩
  have w2 := same_new h2 (.lst (bs.map V.int))
  have x2 : upd H3 c2 (.lst (bs.map V.int)) c2 = some (.lst (bs.map V.int)) := upd_same
  generalize upd H3 c2 (.lst (bs.map V.int)) = H4 at *
  refine ⟨c1, c2, as, bs, rfl, w2 _ _ x1, x2, l3, fun tl H5 ms xs s5 _ htl pr nd pw mm lm => ?_⟩
  have s25 := (w1.trans w2).trans s5
  have lps : (ms.map fun t => (t, cnR (as ++ bs) as.length t)).length = ms.length := List.length_map ..
  have lx := pr.len
  refine ⟨_, rfl, x, _, rfl, .inl (SqL.of (s25 _ _ hx2)), fun c3 h3 => ?_⟩
  have w3 := same_new h3 (.lst (as.map V.int))
  have x3 : upd H5 c3 (.lst (as.map V.int)) c3 = some (.lst (as.map V.int)) := upd_same
  generalize upd H5 c3 (.lst (as.map V.int)) = H6 at *
  refine ⟨_, rfl, y, _, rfl, .inl (SqL.of ((s25.trans w3) _ _ hy2)), fun c4 h4 => ?_⟩
  have w4 := same_new h4 (.lst (bs.map V.int))
  have x4 : upd H6 c4 (.lst (bs.map V.int)) c4 = some (.lst (bs.map V.int)) := upd_same
  generalize upd H6 c4 (.lst (bs.map V.int)) = H7 at *
  refine ⟨c3, c4, as, bs, sbs (as ++ bs) as.length, rfl, w4 _ _ x3, x4, l3, fun t => ct_sbs .., some_T as bs, by omega, fun r u d H8 s8 hr8 hu8 hd8 => ?_⟩
  have s28 := s25.trans ((w3.trans w4).trans s8)
  refine ⟨_, rfl, x, _, rfl, .inl (SqL.of (s28 _ _ hx2)), fun c5 h5 => ?_⟩
  have w5 := same_new h5 (.lst (as.map V.int))
  have x5 : upd H8 c5 (.lst (as.map V.int)) c5 = some (.lst (as.map V.int)) := upd_same
  generalize upd H8 c5 (.lst (as.map V.int)) = H9 at *
  refine ⟨_, rfl, y, _, rfl, .inl (SqL.of ((s28.trans w5) _ _ hy2)), fun c6 h6 => ?_⟩
  have w6 := same_new h6 (.lst (bs.map V.int))
  have x6 : upd H9 c6 (.lst (bs.map V.int)) c6 = some (.lst (bs.map V.int)) := upd_same
  generalize upd H9 c6 (.lst (bs.map V.int)) = H10 at *
  refine ⟨_, rfl, c5, c6, sh, as, bs, t, b, rfl, w6 _ _ x5, x6, l3, (s28.trans (w5.trans w6)) _ _ hsh, st, sb, fun v0 H11 sho s11 => ?_⟩
  have s8b := (w5.trans w6).trans s11
  have S11 := s28.trans s8b
  have hx11 := S11 _ _ hx2
  have hy11 := S11 _ _ hy2
  have hsh11 := S11 _ _ hsh
  have hS11 := S11.seq hS2
  have htl11 := ((w3.trans w4).trans (s8.trans s8b)) _ _ htl
  have pr11 := pr.keep ((w3.trans w4).trans (s8.trans s8b))
  have hr11 := s8b _ _ hr8
  have hu11 := s8b _ _ hu8
  have hd11 := s8b _ _ hd8
  obtain ⟨tv, dv, denv⟩ := sho_den sho
  have fin2 : ∀ G, Same H11 G → Den G (frT2 (rq (uS as bs) (nS as bs)) (rq (dS as bs) (nS as bs))) (.ref r) := fun G sG => den_fr2 (sG _ _ hr11) (sG _ _ hu11) (sG _ _ hd11)
  clear hx2 hy2 hsh hS2 htl pr hr8 hu8 hd8 x1 x2 x3 x4 x5 x6 h1 h2 h3 h4 h5 h6
  refine ⟨_, rfl, a, ns, 80, rfl, hS11, h63, by decide, by decide, fun r1 r10 r11 => ⟨_, _, rfl, rfl, (by show (0 : Int) < 2001; decide), _, _, rfl, rfl, ?_⟩⟩
  have e0 := md0 r1 (show (0 : Int) < 2001 by decide)
  have e1 := md1 r1 (show (0 : Int) < 2001 by decide)
  dsimp only
  obtain ⟨c, ec, c0, c9⟩ : ∃ c : Int, r1 % 2001 - 1000 = c ∧ -1000 ≤ c ∧ c ≤ 1000 := ⟨_, rfl, by omega, by omega⟩
  rw [ec]
  refine ⟨_, rfl, a, ns, 81, rfl, hS11, h63, by decide, by decide, fun r2 r20 r21 => ⟨_, _, rfl, rfl, (by show (0 : Int) < 9; decide), _, _, rfl, rfl, ?_⟩⟩
  have f0 := md0 r2 (show (0 : Int) < 9 by decide)
  have f1 := md1 r2 (show (0 : Int) < 9 by decide)
  dsimp only
  obtain ⟨m, em, m0, m9⟩ : ∃ m : Int, 1 + r2 % 9 = m ∧ 0 < m ∧ m ≤ 9 := ⟨_, rfl, by omega, by omega⟩
  rw [em]
  have lz : ∀ zs : List Int, zs.length ≤ 10 → (zs.map V.int).length ≤ sizeLine := fun zs h => Nat.le_of_lt (lt40 (by rw [List.length_map]; omega))
  refine ⟨_, rfl, x, rfl, ⟨_, SqL.of hx11⟩, fun D1 hD1 => ?_⟩
  refine comp_listR (xs := as.map V.int) (fun i ys G => ys = ((as.take i).map fun v => v + c).map V.int) hD1 (SqL.of hx11) (lz as (by omega)) rfl ?_ ?_
  · rintro i z ys G k hz sm e rfl hk
    have hi : i < as.length := by have := (List.getElem?_eq_some_iff.mp hz).1; simpa using this
    have ev := List.getElem?_eq_getElem hi
    rw [List.getElem?_map, ev] at hz
    have hz' : V.int as[i] = z := by simpa using hz
    subst hz'
    exact ⟨_, rfl, _, rfl, _, _, rfl, rfl, hk _ _ (Same.refl G) (map_snoc (f := fun v => v + c) ev)⟩
  rintro ys1 G1 t1 hG1 _ rfl
  rw [List.length_map, List.take_length] at hG1
  refine ⟨_, rfl, y, rfl, ⟨_, SqL.of (t1 _ _ hy11)⟩, fun D2 hD2 => ?_⟩
  refine comp_listR (xs := bs.map V.int) (fun i ys G => ys = ((bs.take i).map fun v => v + c).map V.int) hD2 (SqL.of (t1 _ _ hy11)) (lz bs (by omega)) rfl ?_ ?_
  · rintro i z ys G k hz sm e rfl hk
    have hi : i < bs.length := by have := (List.getElem?_eq_some_iff.mp hz).1; simpa using this
    have ev := List.getElem?_eq_getElem hi
    rw [List.getElem?_map, ev] at hz
    have hz' : V.int bs[i] = z := by simpa using hz
    subst hz'
    exact ⟨_, rfl, _, rfl, _, _, rfl, rfl, hk _ _ (Same.refl G) (map_snoc (f := fun v => v + c) ev)⟩
  rintro ys2 G2 t2 hG2 _ rfl
  rw [List.length_map, List.take_length] at hG2
  refine ⟨two, fun rz hrz => ?_⟩
  have t3 := same_new hrz (.tup [V.ref D1, V.ref D2])
  have xrz : upd G2 rz (.tup [V.ref D1, V.ref D2]) rz = some (.tup [V.ref D1, V.ref D2]) := upd_same
  generalize upd G2 rz (.tup [V.ref D1, V.ref D2]) = G3 at *
  have hD1 : G3 D1 = some (.lst ((put as c).map V.int)) := (t2.trans t3) _ _ hG1
  have hD2 : G3 D2 = some (.lst ((put bs c).map V.int)) := t3 _ _ hG2
  have T3 := t1.trans (t2.trans t3)
  have lr : (put as c).length + (put bs c).length ≤ 10 := by rw [put_len, put_len]; exact l3
  clear hG1 hG2
  refine ⟨_, rfl, rz, _, 0, _, rfl, rfl, SqT.of xrz, at0, _, rfl, rz, _, 1, _, rfl, rfl, SqT.of xrz, at1, D1, D2, put as c, put bs c, rfl, hD1, hD2, lr, fun l2 G4 ms2 xs2 t4 _ hl2 pr2 nd2 pw2 mm2 lm2 => ?_⟩
  have T4 := T3.trans t4
  refine ⟨_, rfl, tl, rfl, ⟨_, SqL.of (T4 _ _ htl11)⟩, fun E1 hE1 => ?_⟩
  refine comp_lpairS (K := K) (ms.map fun t => (t, cnR (as ++ bs) as.length t)) (fun qs ys G => PrL G (qs.map fun p => (p.1 + c * (as.length : Int), p.2)) ys) (fun p u v => u = V.int p.1 ∧ v = V.int p.2) hE1 (SqL.of (T4 _ _ htl11)) lx (Nat.le_of_lt (lt40 (by omega))) rfl (fun i h e => ?_) ?_ ?_
  · obtain ⟨c', e1, e2⟩ := (pr11.keep T4).get e
    exact ⟨c', _, _, e1, e2, rfl, rfl⟩
  · rintro i p u' v' ys G k ⟨rfl, rfl⟩ sm hE pr' hk
    refine ⟨_, rfl, _, rfl, _, rfl, x, _, rfl, .inl (SqL.of ((T4.trans sm) _ _ hx11)), _, _, rfl, rfl, .inl ⟨by omega, by omega⟩, _, _, rfl, rfl, _, rfl, two, fun z hz => hk _ _ (same_new hz _) ?_⟩
    have sz := same_new hz (.tup [V.int (p.1 + c * (((as.map V.int).length : Nat) : Int)), V.int p.2])
    rw [List.map_append]
    refine PrL.write (sz _ _ hE) (PrL.snoc (pr'.keep sz) ?_)
    rw [upd_same, List.length_map] <;> rfl
  rintro ys3 G5 t5 hE5 pr3
  rw [List.map_map] at pr3
  have T5 := T4.trans t5
  have q1 := told_up (f := fun s => s + c * (as.length : Int)) (add_inj _) (add_mo _) (.of_eq (S_put as bs c)) nd pw mm nd2 pw2 mm2
  refine ⟨_, den_lst' q1 (t5 _ _ hl2) (pr2.keep t5), den_lst hE5 pr3, dep_lpp _, _, rfl, iteF ?_⟩
  have lr5 := nS_le lr
  refine ⟨_, rfl, rz, _, 0, _, rfl, rfl, SqT.of ((t4.trans t5) _ _ xrz), at0, _, rfl, rz, _, 1, _, rfl, rfl, SqT.of ((t4.trans t5) _ _ xrz), at1, D1, D2, put as c, put bs c, sbs (put as c ++ put bs c) (put as c).length, rfl, (t4.trans t5) _ _ hD1, (t4.trans t5) _ _ hD2, lr, fun t => ct_sbs .., some_T _ _, by omega, fun ra ua da G6 t6 hra hua hda => ?_⟩
  have T6 := T5.trans t6
  have U6 := (t4.trans t5).trans t6
  have n1 := n_len (put_len as c) (put_len bs c)
  have hua' : G6 ua = some (.tup [.int (rq (uS as bs) (nS as bs)).num, .int ((rq (uS as bs) (nS as bs)).den : Int)]) := by rw [← u_put as bs c, ← n1]; exact hua
  have hda' : G6 da = some (.tup [.int (rq (dS as bs) (nS as bs)).num, .int ((rq (dS as bs) (nS as bs)).den : Int)]) := by rw [← d_put as bs c, ← n1]; exact hda
  refine ⟨_, rfl, _, den_fr2 hra hua' hda', fin2 _ T6, dep_fr2 _ _, _, rfl, iteF ?_⟩
  refine ⟨_, rfl, rz, _, 0, _, rfl, rfl, SqT.of (U6 _ _ xrz), at0, _, rfl, rz, _, 1, _, rfl, rfl, SqT.of (U6 _ _ xrz), at1, _, rfl, D1, D2, sh, put as c, put bs c, t, b, rfl, U6 _ _ hD1, U6 _ _ hD2, lr, T6 _ _ hsh11, st, sb, fun v1 G7 sho1 t7 => ?_⟩
  have T7 := T6.trans t7
  have ev1 := sho_one mo (fun d => en_put as bs c t b d) sho sho1
  subst ev1
  refine ⟨_, rfl, tv, denv _, denv _, dv, _, rfl, iteF ?_⟩
  clear hra hua hda hua' hda' sho1 hE5 pr3 hl2 pr2 nd2 pw2 mm2 q1 U6 hD1 hD2 xrz
  have hx7 := T7 _ _ hx11
  have hy7 := T7 _ _ hy11
  refine ⟨_, rfl, x, rfl, ⟨_, SqL.of hx7⟩, fun D3 hD3 => ?_⟩
  refine comp_listR (xs := as.map V.int) (fun i ys G => ys = ((as.take i).map fun v => v * m).map V.int) hD3 (SqL.of hx7) (lz as (by omega)) rfl ?_ ?_
  · rintro i z ys G k hz sm e rfl hk
    have hi : i < as.length := by have := (List.getElem?_eq_some_iff.mp hz).1; simpa using this
    have ev := List.getElem?_eq_getElem hi
    rw [List.getElem?_map, ev] at hz
    have hz' : V.int as[i] = z := by simpa using hz
    subst hz'
    exact ⟨_, rfl, _, rfl, _, _, rfl, rfl, .inr ⟨by omega, by omega⟩, hk _ _ (Same.refl G) (map_snoc (f := fun v => v * m) ev)⟩
  rintro ys4 G8 t8 hG8 _ rfl
  rw [List.length_map, List.take_length] at hG8
  refine ⟨_, rfl, y, rfl, ⟨_, SqL.of (t8 _ _ hy7)⟩, fun D4 hD4 => ?_⟩
  refine comp_listR (xs := bs.map V.int) (fun i ys G => ys = ((bs.take i).map fun v => v * m).map V.int) hD4 (SqL.of (t8 _ _ hy7)) (lz bs (by omega)) rfl ?_ ?_
  · rintro i z ys G k hz sm e rfl hk
    have hi : i < bs.length := by have := (List.getElem?_eq_some_iff.mp hz).1; simpa using this
    have ev := List.getElem?_eq_getElem hi
    rw [List.getElem?_map, ev] at hz
    have hz' : V.int bs[i] = z := by simpa using hz
    subst hz'
    exact ⟨_, rfl, _, rfl, _, _, rfl, rfl, .inr ⟨by omega, by omega⟩, hk _ _ (Same.refl G) (map_snoc (f := fun v => v * m) ev)⟩
  rintro ys5 G9 t9 hG9 _ rfl
  rw [List.length_map, List.take_length] at hG9
  refine ⟨two, fun gz hgz => ?_⟩
  have t10 := same_new hgz (.tup [V.ref D3, V.ref D4])
  have xgz : upd G9 gz (.tup [V.ref D3, V.ref D4]) gz = some (.tup [V.ref D3, V.ref D4]) := upd_same
  generalize upd G9 gz (.tup [V.ref D3, V.ref D4]) = G10 at *
  have hD3 : G10 D3 = some (.lst ((mulL as m).map V.int)) := (t9.trans t10) _ _ hG8
  have hD4 : G10 D4 = some (.lst ((mulL bs m).map V.int)) := t10 _ _ hG9
  have T10 := T7.trans (t8.trans (t9.trans t10))
  have la : (mulL as m).length = as.length := List.length_map ..
  have lb : (mulL bs m).length = bs.length := List.length_map ..
  have lg : (mulL as m).length + (mulL bs m).length ≤ 10 := by rw [la, lb]; exact l3
  have lg5 := nS_le lg
  clear hG8 hG9
  refine ⟨_, rfl, gz, _, 0, _, rfl, rfl, SqT.of xgz, at0, _, rfl, gz, _, 1, _, rfl, rfl, SqT.of xgz, at1, D3, D4, mulL as m, mulL bs m, rfl, hD3, hD4, lg, fun l3' G11 ms2 xs2 t11 _ hl2 pr2 nd2 pw2 mm2 lm2 => ?_⟩
  have T11 := T10.trans t11
  refine ⟨_, rfl, tl, rfl, ⟨_, SqL.of (T11 _ _ htl11)⟩, fun E2 hE2 => ?_⟩
  refine comp_lpairS (K := K) (ms.map fun t => (t, cnR (as ++ bs) as.length t)) (fun qs ys G => PrL G (qs.map fun p => (p.1 * m, p.2)) ys) (fun p u v => u = V.int p.1 ∧ v = V.int p.2) hE2 (SqL.of (T11 _ _ htl11)) lx (Nat.le_of_lt (lt40 (by omega))) rfl (fun i h e => ?_) ?_ ?_
  · obtain ⟨c', e1, e2⟩ := (pr11.keep T11).get e
    exact ⟨c', _, _, e1, e2, rfl, rfl⟩
  · rintro i p u' v' ys G k ⟨rfl, rfl⟩ sm hE pr' hk
    refine ⟨_, rfl, _, rfl, _, _, rfl, rfl, .inr ⟨by omega, by omega⟩, _, rfl, two, fun z hz => hk _ _ (same_new hz _) ?_⟩
    have sz := same_new hz (.tup [V.int (p.1 * m), V.int p.2])
    rw [List.map_append]
    exact PrL.write (sz _ _ hE) (PrL.snoc (pr'.keep sz) upd_same)
  rintro ys6 G12 t12 hE5 pr3
  rw [List.map_map] at pr3
  have T12 := T11.trans t12
  have q1 := told_up (f := fun s => s * m) (mul_inj m0) (mul_mo m0) (.of_eq (S_mul as bs m)) nd pw mm nd2 pw2 mm2
  refine ⟨_, den_lst' q1 (t12 _ _ hl2) (pr2.keep t12), den_lst hE5 pr3, dep_lpp _, _, rfl, iteF ?_⟩
  have U12 := t11.trans t12
  refine ⟨_, rfl, gz, _, 0, _, rfl, rfl, SqT.of (U12 _ _ xgz), at0, _, rfl, gz, _, 1, _, rfl, rfl, SqT.of (U12 _ _ xgz), at1, D3, D4, mulL as m, mulL bs m, sbs (mulL as m ++ mulL bs m) (mulL as m).length, rfl, U12 _ _ hD3, U12 _ _ hD4, lg, fun t => ct_sbs .., some_T _ _, by omega, fun ra ua da G13 t13 hra hua hda => ?_⟩
  have T13 := T12.trans t13
  have n2 := n_len la lb
  have hua' : G13 ua = some (.tup [.int (rq (uS as bs) (nS as bs)).num, .int ((rq (uS as bs) (nS as bs)).den : Int)]) := by rw [← u_mul as bs m0, ← n2]; exact hua
  have hda' : G13 da = some (.tup [.int (rq (dS as bs) (nS as bs)).num, .int ((rq (dS as bs) (nS as bs)).den : Int)]) := by rw [← d_mul as bs m0, ← n2]; exact hda
  refine ⟨_, rfl, _, den_fr2 hra hua' hda', fin2 _ T13, dep_fr2 _ _, _, rfl, iteF ?_⟩
  clear hra hua hda hua' hda' hE5 pr3 hl2 pr2 nd2 pw2 mm2 q1 U12 hD3 hD4 xgz
  refine ⟨_, rfl, _, rfl, a, x, ns, as, 82, rfl, T13.seq hS11, h63, T13 _ _ hx11, by omega, by decide, by decide, fun D5 G14 as' t14 hD5 pa' => ?_⟩
  have T14 := T13.trans t14
  refine ⟨_, rfl, _, rfl, a, y, ns, bs, 92, rfl, T14.seq hS11, h63, T14 _ _ hy11, by omega, by decide, by decide, fun D6 G15 bs' t15 hD6 pb' => ?_⟩
  refine ⟨two, fun mz hmz => ?_⟩
  have t16 := same_new hmz (.tup [V.ref D5, V.ref D6])
  have xmz : upd G15 mz (.tup [V.ref D5, V.ref D6]) mz = some (.tup [V.ref D5, V.ref D6]) := upd_same
  generalize upd G15 mz (.tup [V.ref D5, V.ref D6]) = G16 at *
  have hD5' := (t15.trans t16) _ _ hD5
  have hD6' := t16 _ _ hD6
  have T16 := T14.trans (t15.trans t16)
  have lm' : as'.length + bs'.length ≤ 10 := by rw [pa'.length_eq, pb'.length_eq]; exact l3
  have lm5 := nS_le lm'
  refine ⟨_, rfl, mz, _, 0, _, rfl, rfl, SqT.of xmz, at0, _, rfl, mz, _, 1, _, rfl, rfl, SqT.of xmz, at1, D5, D6, as', bs', rfl, hD5', hD6', lm', fun l4 G17 ms2 xs2 t17 _ hl2 pr2 nd2 pw2 mm2 lm2 => ?_⟩
  have T17 := T16.trans t17
  have q1 := told_up (f := fun s => s) (fun a b h => h) (fun a b h => h) (by rw [List.map_id']; exact S_perm pa' pb') nd pw mm nd2 pw2 mm2
  refine ⟨_, rfl, _, den_lst' q1 hl2 pr2, den_lst (T17 _ _ htl11) (pr11.keep T17), dep_lpp _, _, rfl, iteF ?_⟩
  refine ⟨_, rfl, mz, _, 0, _, rfl, rfl, SqT.of (t17 _ _ xmz), at0, _, rfl, mz, _, 1, _, rfl, rfl, SqT.of (t17 _ _ xmz), at1, _, rfl, D5, D6, sh, as', bs', t, b, rfl, t17 _ _ hD5', t17 _ _ hD6', lm', T17 _ _ hsh11, st, sb, fun v1 G18 sho1 t18 => ?_⟩
  have T18 := T17.trans t18
  have ev1 := sho_one mo (fun d => en_perm pa' pb' t b d) sho sho1
  subst ev1
  refine ⟨_, rfl, tv, denv _, denv _, dv, _, rfl, iteF ?_⟩
  have xm18 := (t17.trans t18) _ _ xmz
  have hD518 := (t17.trans t18) _ _ hD5'
  have hD618 := (t17.trans t18) _ _ hD6'
  have hx18 := T18 _ _ hx11
  have hy18 := T18 _ _ hy11
  clear sho1 hl2 pr2 nd2 pw2 mm2 q1 hD5 hD6 hD5' hD6' xmz
  refine ⟨_, rfl, x, rfl, ⟨_, SqL.of hx18⟩, fun D7 hD7 => ?_⟩
  refine comp_listR (xs := as.map V.int) (fun i ys G => ys = ((as.take i).map fun v => 0 - v).map V.int) hD7 (SqL.of hx18) (lz as (by omega)) rfl ?_ ?_
  · rintro i z ys G k hz sm e rfl hk
    have hi : i < as.length := by have := (List.getElem?_eq_some_iff.mp hz).1; simpa using this
    have ev := List.getElem?_eq_getElem hi
    rw [List.getElem?_map, ev] at hz
    have hz' : V.int as[i] = z := by simpa using hz
    subst hz'
    exact ⟨_, rfl, _, _, rfl, rfl, hk _ _ (Same.refl G) (map_snoc (f := fun v => 0 - v) ev)⟩
  rintro ys7 G19 t19 hG8 _ rfl
  rw [List.length_map, List.take_length] at hG8
  refine ⟨_, rfl, y, rfl, ⟨_, SqL.of (t19 _ _ hy18)⟩, fun D8 hD8 => ?_⟩
  refine comp_listR (xs := bs.map V.int) (fun i ys G => ys = ((bs.take i).map fun v => 0 - v).map V.int) hD8 (SqL.of (t19 _ _ hy18)) (lz bs (by omega)) rfl ?_ ?_
  · rintro i z ys G k hz sm e rfl hk
    have hi : i < bs.length := by have := (List.getElem?_eq_some_iff.mp hz).1; simpa using this
    have ev := List.getElem?_eq_getElem hi
    rw [List.getElem?_map, ev] at hz
    have hz' : V.int bs[i] = z := by simpa using hz
    subst hz'
    exact ⟨_, rfl, _, _, rfl, rfl, hk _ _ (Same.refl G) (map_snoc (f := fun v => 0 - v) ev)⟩
  rintro ys8 G20 t20 hG9 _ rfl
  rw [List.length_map, List.take_length] at hG9
  refine ⟨two, fun nz hnz => ?_⟩
  have t21 := same_new hnz (.tup [V.ref D7, V.ref D8])
  have xnz : upd G20 nz (.tup [V.ref D7, V.ref D8]) nz = some (.tup [V.ref D7, V.ref D8]) := upd_same
  generalize upd G20 nz (.tup [V.ref D7, V.ref D8]) = G21 at *
  have hD7 : G21 D7 = some (.lst ((negL as).map V.int)) := (t20.trans t21) _ _ hG8
  have hD8 : G21 D8 = some (.lst ((negL bs).map V.int)) := t21 _ _ hG9
  have V21 := t19.trans (t20.trans t21)
  have T21 := T18.trans V21
  have la' : (negL as).length = as.length := List.length_map ..
  have lb' : (negL bs).length = bs.length := List.length_map ..
  have ln : (negL as).length + (negL bs).length ≤ 10 := by rw [la', lb']; exact l3
  have ln5 := nS_le ln
  clear hG8 hG9
  refine ⟨_, rfl, nz, _, 0, _, rfl, rfl, SqT.of xnz, at0, _, rfl, nz, _, 1, _, rfl, rfl, SqT.of xnz, at1, D7, D8, negL as, negL bs, rfl, hD7, hD8, ln, fun l5 G22 ms2 xs2 t22 _ hl2 pr2 nd2 pw2 mm2 lm2 => ?_⟩
  have T22 := T21.trans t22
  refine ⟨_, rfl, tl, xs, rfl, SqL.of (T22 _ _ htl11), fun E3 hE3 => ?_⟩
  refine comp_rpairR (K := K) (ms.map fun t => (t, cnR (as ++ bs) as.length t)) (fun qs ys G => PrL G (qs.map fun p => (0 - p.1, p.2)) ys) (fun p u v => u = V.int p.1 ∧ v = V.int p.2) hE3 (SqL.of (T22 _ _ htl11)) lx (Nat.le_of_lt (lt40 (by omega))) rfl (fun i h e => ?_) ?_ ?_
  · obtain ⟨c', e1, e2⟩ := (pr11.keep T22).get e
    exact ⟨c', _, _, e1, e2, rfl, rfl⟩
  · rintro i p u' v' ys G k ⟨rfl, rfl⟩ sm hE pr' hk
    refine ⟨_, rfl, _, _, rfl, rfl, _, rfl, two, fun z hz => hk _ _ (same_new hz _) ?_⟩
    have sz := same_new hz (.tup [V.int (0 - p.1), V.int p.2])
    rw [List.map_append]
    exact PrL.write (sz _ _ hE) (PrL.snoc (pr'.keep sz) upd_same)
  rintro ys9 G23 t23 hE5 pr3
  have q1 := told_down (f := fun s => 0 - s) neg_inj neg_mo (.of_eq (S_neg as bs)) nd pw mm nd2 pw2 mm2
  have q2 : (ms.map fun t => (t, cnR (as ++ bs) as.length t)).reverse.map (fun p => (0 - p.1, p.2)) = (ms.map fun t => (0 - t, cnR (as ++ bs) as.length t)).reverse := by rw [List.map_reverse, List.map_map]; rfl
  have T23 := T22.trans t23
  have V23 := V21.trans (t22.trans t23)
  refine ⟨_, den_lst' q1 (t23 _ _ hl2) (pr2.keep t23), den_lst' q2 hE5 pr3, dep_lpp _, _, rfl, iteF ?_⟩
  refine ⟨_, rfl, mz, _, 0, _, rfl, rfl, SqT.of (V23 _ _ xm18), at0, _, rfl, mz, _, 1, _, rfl, rfl, SqT.of (V23 _ _ xm18), at1, D5, D6, as', bs', sbs (as' ++ bs') as'.length, rfl, V23 _ _ hD518, V23 _ _ hD618, lm', fun t => ct_sbs .., some_T _ _, by omega, fun ra ua da G24 t24 hra hua hda => ?_⟩
  have T24 := T23.trans t24
  have n3 := n_len pa'.length_eq pb'.length_eq
  have hua' : G24 ua = some (.tup [.int (rq (uS as bs) (nS as bs)).num, .int ((rq (uS as bs) (nS as bs)).den : Int)]) := by rw [← u_perm pa' pb', ← n3]; exact hua
  have hda' : G24 da = some (.tup [.int (rq (dS as bs) (nS as bs)).num, .int ((rq (dS as bs) (nS as bs)).den : Int)]) := by rw [← d_perm pa' pb', ← n3]; exact hda
  refine ⟨_, rfl, _, den_fr2 hra hua' hda', fin2 _ T24, dep_fr2 _ _, _, rfl, iteT ?_⟩
  have W24 := (t22.trans t23).trans t24
  refine ⟨_, rfl, nz, _, 0, _, rfl, rfl, SqT.of (W24 _ _ xnz), at0, _, rfl, nz, _, 1, _, rfl, rfl, SqT.of (W24 _ _ xnz), at1, D7, D8, negL as, negL bs, sbs (negL as ++ negL bs) (negL as).length, rfl, W24 _ _ hD7, W24 _ _ hD8, ln, fun t => ct_sbs .., some_T _ _, by omega, fun rb ub db G25 t25 hrb hub hdb => ?_⟩
  have T25 := T24.trans t25
  have n4 := n_len la' lb'
  have hub' : G25 ub = some (.tup [.int (rq (dS as bs) (nS as bs)).num, .int ((rq (dS as bs) (nS as bs)).den : Int)]) := by rw [← u_neg as bs, ← n4]; exact hub
  have hdb' : G25 db = some (.tup [.int (rq (uS as bs) (nS as bs)).num, .int ((rq (uS as bs) (nS as bs)).den : Int)]) := by rw [← d_neg as bs, ← n4]; exact hdb
  refine ⟨_, rfl, r, _, 1, _, rfl, rfl, SqT.of (T25 _ _ hr11), at1, _, rfl, r, _, 0, _, rfl, rfl, SqT.of (T25 _ _ hr11), at0, two, fun pz hpz => ?_⟩
  have t26 := same_new hpz (.tup [V.ref d, V.ref u])
  exact ⟨_, den_fr2 (t26 _ _ hrb) (t26 _ _ hub') (t26 _ _ hdb'), den_fr2 upd_same ((T25.trans t26) _ _ hd11) ((T25.trans t26) _ _ hu11), dep_fr2 _ _, q _⟩
end
theorem all_mk {l : PySem.W.OpenLaw} {w : World} {K : PySem.W.Frag} {h : Heap} {mg : Str → Option Value} {fa f_whole f_cd f_frac f_und f_sums f_cbs f_wv f_shr f_shf f_isen f_cellU f_dv f_low f_grp f_lsh f_mix f_law : Addr} (X : K.In h) (G : h.Ns mainGlobals mg) (hfa : mg "law" = some (.ref fa))
    {od_whole an_whole : Option Addr} {sl_whole : Array (Option Value)} {oc_whole kV_whole dc_whole pm_whole cd_whole ct_whole : Value}
    (a_whole : PySem.W.nsIn K mainGlobals "is_whole" = some (some (.ref f_whole))) (l_whole : K.lookup f_whole = some ⟨oc_whole, od_whole, .func (PySem.W.fnOf "is_whole" "is_whole" (defArgs s_whole) (defBody s_whole) (defScope s_whole) .none kV_whole dc_whole pm_whole an_whole cd_whole ct_whole), sl_whole⟩) (c_whole : PySem.W.codeIn K cd_whole "is_whole" = true) (k_whole : PySem.W.keepIn K (.ref f_whole) = true)
    {od_cd an_cd : Option Addr} {sl_cd : Array (Option Value)} {oc_cd kV_cd dc_cd pm_cd cd_cd ct_cd : Value}
    (a_cd : PySem.W.nsIn K mainGlobals "common_divisor" = some (some (.ref f_cd))) (l_cd : K.lookup f_cd = some ⟨oc_cd, od_cd, .func (PySem.W.fnOf "common_divisor" "common_divisor" (defArgs s_cd) (defBody s_cd) (defScope s_cd) .none kV_cd dc_cd pm_cd an_cd cd_cd ct_cd), sl_cd⟩) (c_cd : PySem.W.codeIn K cd_cd "common_divisor" = true) (k_cd : PySem.W.keepIn K (.ref f_cd) = true)
    {od_frac an_frac : Option Addr} {sl_frac : Array (Option Value)} {oc_frac kV_frac dc_frac pm_frac cd_frac ct_frac : Value}
    (a_frac : PySem.W.nsIn K mainGlobals "fraction" = some (some (.ref f_frac))) (l_frac : K.lookup f_frac = some ⟨oc_frac, od_frac, .func (PySem.W.fnOf "fraction" "fraction" (defArgs s_frac) (defBody s_frac) (defScope s_frac) .none kV_frac dc_frac pm_frac an_frac cd_frac ct_frac), sl_frac⟩) (c_frac : PySem.W.codeIn K cd_frac "fraction" = true) (k_frac : PySem.W.keepIn K (.ref f_frac) = true)
    {od_und an_und : Option Addr} {sl_und : Array (Option Value)} {oc_und kV_und dc_und pm_und cd_und ct_und : Value}
    (a_und : PySem.W.nsIn K mainGlobals "under" = some (some (.ref f_und))) (l_und : K.lookup f_und = some ⟨oc_und, od_und, .func (PySem.W.fnOf "under" "under" (defArgs s_und) (defBody s_und) (defScope s_und) .none kV_und dc_und pm_und an_und cd_und ct_und), sl_und⟩) (c_und : PySem.W.codeIn K cd_und "under" = true) (k_und : PySem.W.keepIn K (.ref f_und) = true)
    {od_sums an_sums : Option Addr} {sl_sums : Array (Option Value)} {oc_sums kV_sums dc_sums pm_sums cd_sums ct_sums : Value}
    (a_sums : PySem.W.nsIn K mainGlobals "sums" = some (some (.ref f_sums))) (l_sums : K.lookup f_sums = some ⟨oc_sums, od_sums, .func (PySem.W.fnOf "sums" "sums" (defArgs s_sums) (defBody s_sums) (defScope s_sums) .none kV_sums dc_sums pm_sums an_sums cd_sums ct_sums), sl_sums⟩) (c_sums : PySem.W.codeIn K cd_sums "sums" = true) (k_sums : PySem.W.keepIn K (.ref f_sums) = true)
    {od_cbs an_cbs : Option Addr} {sl_cbs : Array (Option Value)} {oc_cbs kV_cbs dc_cbs pm_cbs cd_cbs ct_cbs : Value}
    (a_cbs : PySem.W.nsIn K mainGlobals "counts_by_sum" = some (some (.ref f_cbs))) (l_cbs : K.lookup f_cbs = some ⟨oc_cbs, od_cbs, .func (PySem.W.fnOf "counts_by_sum" "counts_by_sum" (defArgs s_cbs) (defBody s_cbs) (defScope s_cbs) .none kV_cbs dc_cbs pm_cbs an_cbs cd_cbs ct_cbs), sl_cbs⟩) (c_cbs : PySem.W.codeIn K cd_cbs "counts_by_sum" = true) (k_cbs : PySem.W.keepIn K (.ref f_cbs) = true)
    {od_wv an_wv : Option Addr} {sl_wv : Array (Option Value)} {oc_wv kV_wv dc_wv pm_wv cd_wv ct_wv : Value}
    (a_wv : PySem.W.nsIn K mainGlobals "with_value" = some (some (.ref f_wv))) (l_wv : K.lookup f_wv = some ⟨oc_wv, od_wv, .func (PySem.W.fnOf "with_value" "with_value" (defArgs s_wv) (defBody s_wv) (defScope s_wv) .none kV_wv dc_wv pm_wv an_wv cd_wv ct_wv), sl_wv⟩) (c_wv : PySem.W.codeIn K cd_wv "with_value" = true) (k_wv : PySem.W.keepIn K (.ref f_wv) = true)
    {od_shr an_shr : Option Addr} {sl_shr : Array (Option Value)} {oc_shr kV_shr dc_shr pm_shr cd_shr ct_shr : Value}
    (a_shr : PySem.W.nsIn K mainGlobals "shares" = some (some (.ref f_shr))) (l_shr : K.lookup f_shr = some ⟨oc_shr, od_shr, .func (PySem.W.fnOf "shares" "shares" (defArgs s_shr) (defBody s_shr) (defScope s_shr) .none kV_shr dc_shr pm_shr an_shr cd_shr ct_shr), sl_shr⟩) (c_shr : PySem.W.codeIn K cd_shr "shares" = true) (k_shr : PySem.W.keepIn K (.ref f_shr) = true)
    {od_shf an_shf : Option Addr} {sl_shf : Array (Option Value)} {oc_shf kV_shf dc_shf pm_shf cd_shf ct_shf : Value}
    (a_shf : PySem.W.nsIn K mainGlobals "shift" = some (some (.ref f_shf))) (l_shf : K.lookup f_shf = some ⟨oc_shf, od_shf, .func (PySem.W.fnOf "shift" "shift" (defArgs s_shf) (defBody s_shf) (defScope s_shf) .none kV_shf dc_shf pm_shf an_shf cd_shf ct_shf), sl_shf⟩) (c_shf : PySem.W.codeIn K cd_shf "shift" = true) (k_shf : PySem.W.keepIn K (.ref f_shf) = true)
    {od_isen an_isen : Option Addr} {sl_isen : Array (Option Value)} {oc_isen kV_isen dc_isen pm_isen cd_isen ct_isen : Value}
    (a_isen : PySem.W.nsIn K mainGlobals "is_enough" = some (some (.ref f_isen))) (l_isen : K.lookup f_isen = some ⟨oc_isen, od_isen, .func (PySem.W.fnOf "is_enough" "is_enough" (defArgs s_isen) (defBody s_isen) (defScope s_isen) .none kV_isen dc_isen pm_isen an_isen cd_isen ct_isen), sl_isen⟩) (c_isen : PySem.W.codeIn K cd_isen "is_enough" = true) (k_isen : PySem.W.keepIn K (.ref f_isen) = true)
    {od_cellU an_cellU : Option Addr} {sl_cellU : Array (Option Value)} {oc_cellU kV_cellU dc_cellU pm_cellU cd_cellU ct_cellU : Value}
    (a_cellU : PySem.W.nsIn K mainGlobals "_law_cell" = some (some (.ref f_cellU))) (l_cellU : K.lookup f_cellU = some ⟨oc_cellU, od_cellU, .func (PySem.W.fnOf "_law_cell" "_law_cell" (defArgs s_cellU) (defBody s_cellU) (defScope s_cellU) .none kV_cellU dc_cellU pm_cellU an_cellU cd_cellU ct_cellU), sl_cellU⟩) (c_cellU : PySem.W.codeIn K cd_cellU "_law_cell" = true) (k_cellU : PySem.W.keepIn K (.ref f_cellU) = true)
    {od_dv an_dv : Option Addr} {sl_dv : Array (Option Value)} {oc_dv kV_dv dc_dv pm_dv cd_dv ct_dv : Value}
    (a_dv : PySem.W.nsIn K mainGlobals "_law_rest" = some (some (.ref f_dv))) (l_dv : K.lookup f_dv = some ⟨oc_dv, od_dv, .func (PySem.W.fnOf "_law_rest" "_law_rest" (defArgs s_dv) (defBody s_dv) (defScope s_dv) .none kV_dv dc_dv pm_dv an_dv cd_dv ct_dv), sl_dv⟩) (c_dv : PySem.W.codeIn K cd_dv "_law_rest" = true) (k_dv : PySem.W.keepIn K (.ref f_dv) = true)
    {od_low an_low : Option Addr} {sl_low : Array (Option Value)} {oc_low kV_low dc_low pm_low cd_low ct_low : Value}
    (a_low : PySem.W.nsIn K mainGlobals "_law_low" = some (some (.ref f_low))) (l_low : K.lookup f_low = some ⟨oc_low, od_low, .func (PySem.W.fnOf "_law_low" "_law_low" (defArgs s_low) (defBody s_low) (defScope s_low) .none kV_low dc_low pm_low an_low cd_low ct_low), sl_low⟩) (c_low : PySem.W.codeIn K cd_low "_law_low" = true) (k_low : PySem.W.keepIn K (.ref f_low) = true)
    {od_grp an_grp : Option Addr} {sl_grp : Array (Option Value)} {oc_grp kV_grp dc_grp pm_grp cd_grp ct_grp : Value}
    (a_grp : PySem.W.nsIn K mainGlobals "_law_groups" = some (some (.ref f_grp))) (l_grp : K.lookup f_grp = some ⟨oc_grp, od_grp, .func (PySem.W.fnOf "_law_groups" "_law_groups" (defArgs s_grp) (defBody s_grp) (defScope s_grp) .none kV_grp dc_grp pm_grp an_grp cd_grp ct_grp), sl_grp⟩) (c_grp : PySem.W.codeIn K cd_grp "_law_groups" = true) (k_grp : PySem.W.keepIn K (.ref f_grp) = true)
    {od_lsh an_lsh : Option Addr} {sl_lsh : Array (Option Value)} {oc_lsh kV_lsh dc_lsh pm_lsh cd_lsh ct_lsh : Value}
    (a_lsh : PySem.W.nsIn K mainGlobals "_law_share" = some (some (.ref f_lsh))) (l_lsh : K.lookup f_lsh = some ⟨oc_lsh, od_lsh, .func (PySem.W.fnOf "_law_share" "_law_share" (defArgs s_lsh) (defBody s_lsh) (defScope s_lsh) .none kV_lsh dc_lsh pm_lsh an_lsh cd_lsh ct_lsh), sl_lsh⟩) (c_lsh : PySem.W.codeIn K cd_lsh "_law_share" = true) (k_lsh : PySem.W.keepIn K (.ref f_lsh) = true)
    {od_mix an_mix : Option Addr} {sl_mix : Array (Option Value)} {oc_mix kV_mix dc_mix pm_mix cd_mix ct_mix : Value}
    (a_mix : PySem.W.nsIn K mainGlobals "_law_mixed" = some (some (.ref f_mix))) (l_mix : K.lookup f_mix = some ⟨oc_mix, od_mix, .func (PySem.W.fnOf "_law_mixed" "_law_mixed" (defArgs s_mix) (defBody s_mix) (defScope s_mix) .none kV_mix dc_mix pm_mix an_mix cd_mix ct_mix), sl_mix⟩) (c_mix : PySem.W.codeIn K cd_mix "_law_mixed" = true) (k_mix : PySem.W.keepIn K (.ref f_mix) = true)
    {od_law an_law : Option Addr} {sl_law : Array (Option Value)} {oc_law kV_law dc_law pm_law cd_law ct_law : Value}
    (a_law : PySem.W.nsIn K mainGlobals "law" = some (some (.ref f_law))) (l_law : K.lookup f_law = some ⟨oc_law, od_law, .func (PySem.W.fnOf "law" "law" (defArgs s_law) (defBody s_law) (defScope s_law) .none kV_law dc_law pm_law an_law cd_law ct_law), sl_law⟩) (c_law : PySem.W.codeIn K cd_law "law" = true) (k_law : PySem.W.keepIn K (.ref f_law) = true)
    (z_range : PySem.W.nsIn K mainGlobals "range" = some none) (z_len : PySem.W.nsIn K mainGlobals "len" = some none) (z_isinstance : PySem.W.nsIn K mainGlobals "isinstance" = some none) (z_int : PySem.W.nsIn K mainGlobals "int" = some none) (z_bool : PySem.W.nsIn K mainGlobals "bool" = some none) (z_tuple : PySem.W.nsIn K mainGlobals "tuple" = some none) (z_list : PySem.W.nsIn K mainGlobals "list" = some none) (z_dict : PySem.W.nsIn K mainGlobals "dict" = some none) (z_sorted : PySem.W.nsIn K mainGlobals "sorted" = some none) (z_enumerate : PySem.W.nsIn K mainGlobals "enumerate" = some none) (z_sum : PySem.W.nsIn K mainGlobals "sum" = some none) (z_abs : PySem.W.nsIn K mainGlobals "abs" = some none) (z_reversed : PySem.W.nsIn K mainGlobals "reversed" = some none)
    {d_StretchError d_NoNumber : Addr}
    (n_StretchError : PySem.W.nsIn K mainGlobals "StretchError" = some (some (.ref d_StretchError)))
    (n_NoNumber : PySem.W.nsIn K mainGlobals "NoNumber" = some (some (.ref d_NoNumber)))
    (x_NoNumber : PySem.W.excIn K d_NoNumber vbm "ValueError.__new__" = true)
    (ic_NoNumber : PySem.W.isClsIn K d_NoNumber = true)
    (ga_NoNumber : PySem.W.findIn K (.ref d_NoNumber) "__getattribute__" = some (some (.builtin "BaseException.__getattribute__")))
    (gt_NoNumber : PySem.W.findIn K (.ref d_NoNumber) "__getattr__" = some none)
    (cl_NoNumber : PySem.W.findIn K (.ref d_NoNumber) "__class__" = some (some (.builtin "object.__class__")))
    (sg_NoNumber : PySem.W.specialIn K (.builtin "object.__class__") "__get__" = some (some (.builtin "getset_descriptor.__get__")))
    (tk_NoNumber : PySem.W.takesIn K (.builtin "object.__class__") = some true)
    (ob_NoNumber : PySem.W.mroIn K d_NoNumber (.type "object") = some true)
    (be_NoNumber : PySem.W.mroIn K d_NoNumber (.type "BaseException") = some true) :
    ∃ fd : FuncData, (∀ (s : Shared) (v : Value), BindsTo s fd ⟨[v], []⟩ [("_law_script", v)]) ∧ ∀ base : Heap, K.In base → base.Ns mainGlobals mg → FnOk l.prog w K mg base CX0 7 fa fd ["_law_script"] (spLaw K) := by
  have e := hfa.symm.trans (PySem.W.mg_of X G a_law)
  cases e
  have T : Txt mg := ⟨PySem.W.mg_none_of X G z_range, PySem.W.mg_none_of X G z_len, PySem.W.mg_none_of X G z_isinstance, PySem.W.mg_none_of X G z_int, PySem.W.mg_none_of X G z_bool, PySem.W.mg_none_of X G z_tuple, PySem.W.mg_none_of X G z_list, PySem.W.mg_none_of X G z_dict, PySem.W.mg_none_of X G z_sorted, PySem.W.mg_none_of X G z_enumerate, PySem.W.mg_none_of X G z_sum, PySem.W.mg_none_of X G z_abs, PySem.W.mg_none_of X G z_reversed⟩
  have cf : CF K mg ⟨d_StretchError, d_NoNumber⟩ := ⟨PySem.W.mg_of X G n_StretchError, PySem.W.mg_of X G n_NoNumber, ⟨PySem.W.mg_of X G n_NoNumber, x_NoNumber⟩, ⟨ga_NoNumber, gt_NoNumber, cl_NoNumber, sg_NoNumber, tk_NoNumber, ob_NoNumber, be_NoNumber, ic_NoNumber⟩⟩
  have F_whole := fun_mk (st := s_whole) l_whole c_whole k_whole
  have b_whole := F_whole.binds (ps := ["thing"]) fun _ _ _ _ _ _ us hl => match us, hl with | [_], _ => rfl
  have m_whole := PySem.W.mg_of X G a_whole
  have F_cd := fun_mk (st := s_cd) l_cd c_cd k_cd
  have b_cd := F_cd.binds (ps := ["one", "other"]) fun _ _ _ _ _ _ us hl => match us, hl with | [_, _], _ => rfl
  have m_cd := PySem.W.mg_of X G a_cd
  have F_frac := fun_mk (st := s_frac) l_frac c_frac k_frac
  have b_frac := F_frac.binds (ps := ["top", "bottom"]) fun _ _ _ _ _ _ us hl => match us, hl with | [_, _], _ => rfl
  have m_frac := PySem.W.mg_of X G a_frac
  have F_und := fun_mk (st := s_und) l_und c_und k_und
  have b_und := F_und.binds (ps := ["one", "other"]) fun _ _ _ _ _ _ us hl => match us, hl with | [_, _], _ => rfl
  have m_und := PySem.W.mg_of X G a_und
  have F_sums := fun_mk (st := s_sums) l_sums c_sums k_sums
  have b_sums := F_sums.binds (ps := ["one", "other"]) fun _ _ _ _ _ _ us hl => match us, hl with | [_, _], _ => rfl
  have m_sums := PySem.W.mg_of X G a_sums
  have F_cbs := fun_mk (st := s_cbs) l_cbs c_cbs k_cbs
  have b_cbs := F_cbs.binds (ps := ["values", "size"]) fun _ _ _ _ _ _ us hl => match us, hl with | [_, _], _ => rfl
  have m_cbs := PySem.W.mg_of X G a_cbs
  have F_wv := fun_mk (st := s_wv) l_wv c_wv k_wv
  have b_wv := F_wv.binds (ps := ["without", "fewer", "value"]) fun _ _ _ _ _ _ us hl => match us, hl with | [_, _, _], _ => rfl
  have m_wv := PySem.W.mg_of X G a_wv
  have F_shr := fun_mk (st := s_shr) l_shr c_shr k_shr
  have b_shr := F_shr.binds (ps := ["one", "other"]) fun _ _ _ _ _ _ us hl => match us, hl with | [_, _], _ => rfl
  have m_shr := PySem.W.mg_of X G a_shr
  have F_shf := fun_mk (st := s_shf) l_shf c_shf k_shf
  have b_shf := F_shf.binds (ps := ["one", "other", "share"]) fun _ _ _ _ _ _ us hl => match us, hl with | [_, _, _], _ => rfl
  have m_shf := PySem.W.mg_of X G a_shf
  have F_isen := fun_mk (st := s_isen) l_isen c_isen k_isen
  have b_isen := F_isen.binds (ps := ["one", "other", "share", "d"]) fun _ _ _ _ _ _ us hl => match us, hl with | [_, _, _, _], _ => rfl
  have m_isen := PySem.W.mg_of X G a_isen
  have F_cellU := fun_mk (st := s_cellU) l_cellU c_cellU k_cellU
  have b_cellU := F_cellU.binds (ps := ["_law_script", "_law_k"]) fun _ _ _ _ _ _ us hl => match us, hl with | [_, _], _ => rfl
  have m_cellU := PySem.W.mg_of X G a_cellU
  have F_dv := fun_mk (st := s_dv) l_dv c_dv k_dv
  have b_dv := F_dv.binds (ps := ["_law_one", "_law_other"]) fun _ _ _ _ _ _ us hl => match us, hl with | [_, _], _ => rfl
  have m_dv := PySem.W.mg_of X G a_dv
  have F_low := fun_mk (st := s_low) l_low c_low k_low
  have b_low := F_low.binds (ps := ["_law_top", "_law_bottom"]) fun _ _ _ _ _ _ us hl => match us, hl with | [_, _], _ => rfl
  have m_low := PySem.W.mg_of X G a_low
  have F_grp := fun_mk (st := s_grp) l_grp c_grp k_grp
  have b_grp := F_grp.binds (ps := ["_law_script"]) fun _ _ _ _ _ _ us hl => match us, hl with | [_], _ => rfl
  have m_grp := PySem.W.mg_of X G a_grp
  have F_lsh := fun_mk (st := s_lsh) l_lsh c_lsh k_lsh
  have b_lsh := F_lsh.binds (ps := ["_law_script", "_law_k"]) fun _ _ _ _ _ _ us hl => match us, hl with | [_, _], _ => rfl
  have m_lsh := PySem.W.mg_of X G a_lsh
  have F_mix := fun_mk (st := s_mix) l_mix c_mix k_mix
  have b_mix := F_mix.binds (ps := ["_law_script", "_law_values", "_law_start"]) fun _ _ _ _ _ _ us hl => match us, hl with | [_, _, _], _ => rfl
  have m_mix := PySem.W.mg_of X G a_mix
  have F_law := fun_mk (st := s_law) l_law c_law k_law
  have b_law := F_law.binds (ps := ["_law_script"]) fun _ _ _ _ _ _ us hl => match us, hl with | [_], _ => rfl
  have m_law := PySem.W.mg_of X G a_law
  refine ⟨PySem.W.fnOf "law" "law" (defArgs s_law) (defBody s_law) (defScope s_law) .none kV_law dc_law pm_law an_law cd_law ct_law, fun s v => .of_eq rfl, fun base _ _ => ?_⟩
  have G_cellU := ok_cellU (P := l.prog) (w := w) (base := base) F_cellU T
  have G_grp := ok_grp (P := l.prog) (w := w) (base := base) F_grp T (G_cellU.mono (by decide)) b_cellU k_cellU m_cellU
  have G_dv := ok_dv (P := l.prog) (w := w) (base := base) F_dv T
  have G_low := ok_low (P := l.prog) (w := w) (base := base) F_low T (G_dv.mono (by decide)) b_dv k_dv m_dv
  have G_lsh := ok_lsh (P := l.prog) (w := w) (base := base) F_lsh T (G_cellU.mono (by decide)) b_cellU k_cellU m_cellU (G_low.mono (by decide)) b_low k_low m_low
  have G_wv := ok_wv (P := l.prog) (w := w) (base := base) F_wv T
  have G_cbs := ok_cbs (P := l.prog) (w := w) (base := base) F_cbs T (G_wv.mono (by decide)) b_wv k_wv m_wv
  have G_sums := ok_sums (P := l.prog) (w := w) (base := base) F_sums T (G_cbs.mono (by decide)) b_cbs k_cbs m_cbs
  have G_whole := ok_whole (P := l.prog) (w := w) (base := base) F_whole T
  have G_cd := ok_cd (P := l.prog) (w := w) (base := base) F_cd T
  have G_frac := ok_frac (P := l.prog) (w := w) (base := base) F_frac T cf (G_whole.mono (by decide)) b_whole k_whole m_whole (G_cd.mono (by decide)) b_cd k_cd m_cd
  have G_shr := ok_shr (P := l.prog) (w := w) (base := base) F_shr T (G_sums.mono (by decide)) b_sums k_sums m_sums (G_frac.mono (by decide)) b_frac k_frac m_frac
  have G_und := ok_und (P := l.prog) (w := w) (base := base) F_und T
  have G_isen := ok_isen (P := l.prog) (w := w) (base := base) F_isen T (G_shr.mono (by decide)) b_shr k_shr m_shr (G_und.mono (by decide)) b_und k_und m_und
  have G_shf := ok_shf (P := l.prog) (w := w) (base := base) F_shf T (G_isen.mono (by decide)) b_isen k_isen m_isen
  have G_mix := ok_mix (P := l.prog) (w := w) (base := base) F_mix T (G_cellU.mono (by decide)) b_cellU k_cellU m_cellU
  exact ok_law F_law T (G_grp.mono (by decide)) b_grp k_grp m_grp (G_lsh.mono (by decide)) b_lsh k_lsh m_lsh (G_cellU.mono (by decide)) b_cellU k_cellU m_cellU (G_sums.mono (by decide)) b_sums k_sums m_sums (G_shr.mono (by decide)) b_shr k_shr m_shr (G_shf.mono (by decide)) b_shf k_shf m_shf (G_mix.mono (by decide)) b_mix k_mix m_mix
theorem walk {l : PySem.W.OpenLaw} {q : Program} {loose : List Str} {XP : (Str → Option Value) → Heap → Prop} {YP : World → Heap → Prop} {d : DefRec} {K : Params → PySem.W.Frag} (hn : l.most = some 63) (hdf : d.params.defaults = [])
    (hY : ∀ (w : World) (h : Heap), YP w h → (K w.params).In h)
    (F : ∀ (w : World) (mg : Str → Option Value) (fa : Addr) (h : Heap), (K w.params).In h → h.Ns mainGlobals mg → mg d.name = some (.ref fa) →
      ∃ fd : FuncData, (∀ (s : Shared) (u : Value), BindsTo s fd ⟨[u], []⟩ [("_law_script", u)]) ∧ ∀ base : Heap, (K w.params).In base → base.Ns mainGlobals mg → FnOk l.prog w (K w.params) mg base CX0 7 fa fd ["_law_script"] (spLaw (K w.params))) :
    PySem.W.WalkO q loose XP YP l.row.toRowW d [] (fun f vs => PySem.call f vs) :=
  L2.walk_ofB (n := 63) (k := 7) (x := "_law_script") (CX := fun _ => CX0) (sp := fun w => spLaw (K w.params)) hn (by decide) hdf ⟨rfl, by decide, by decide⟩ hY F (fun _ _ a ns hl hb _ hS => ⟨a, ns, rfl, hS, hl, hb, fun _ => rfl⟩) fun _ _ _ _ _ z => z
end K40
open PySem PySem.W PyProof.Rows
set_option maxRecDepth 100000 in
set_option maxHeartbeats 0 in
theorem PySem.Challenge.cw_surestretch_k40_whole_values_changed_holds : PySem.Challenge.rw_surestretch_k40_whole_values_changed.Holds := by
  w_on; o_law; k_head; (case hw => w_witness2)
  k_fill
  refine K40.walk (l := PySem.Challenge.rw_surestretch_k40_whole_values_changed) rfl rfl (fun w h Y => PySem.W.kIn_of Y) ?F
  case F =>
    intro w mg fa h KX G hmg
    refine' K40.all_mk KX G hmg ?a_whole ?l_whole ?c_whole ?k_whole ?a_cd ?l_cd ?c_cd ?k_cd ?a_frac ?l_frac ?c_frac ?k_frac ?a_und ?l_und ?c_und ?k_und ?a_sums ?l_sums ?c_sums ?k_sums ?a_cbs ?l_cbs ?c_cbs ?k_cbs ?a_wv ?l_wv ?c_wv ?k_wv ?a_shr ?l_shr ?c_shr ?k_shr ?a_shf ?l_shf ?c_shf ?k_shf ?a_isen ?l_isen ?c_isen ?k_isen ?a_cellU ?l_cellU ?c_cellU ?k_cellU ?a_dv ?l_dv ?c_dv ?k_dv ?a_low ?l_low ?c_low ?k_low ?a_grp ?l_grp ?c_grp ?k_grp ?a_lsh ?l_lsh ?c_lsh ?k_lsh ?a_mix ?l_mix ?c_mix ?k_mix ?a_law ?l_law ?c_law ?k_law ?z_range ?z_len ?z_isinstance ?z_int ?z_bool ?z_tuple ?z_list ?z_dict ?z_sorted ?z_enumerate ?z_sum ?z_abs ?z_reversed ?n_StretchError ?n_NoNumber ?x_NoNumber ?ic_NoNumber ?ga_NoNumber ?gt_NoNumber ?cl_NoNumber ?sg_NoNumber ?tk_NoNumber ?ob_NoNumber ?be_NoNumber
    (case a_whole => k_is); (case l_whole => k_is); (case c_whole => k_is); (case k_whole => k_is); (case a_cd => k_is); (case l_cd => k_is); (case c_cd => k_is); (case k_cd => k_is)
    (case a_frac => k_is); (case l_frac => k_is); (case c_frac => k_is); (case k_frac => k_is); (case a_und => k_is); (case l_und => k_is); (case c_und => k_is); (case k_und => k_is)
    (case a_sums => k_is); (case l_sums => k_is); (case c_sums => k_is); (case k_sums => k_is); (case a_cbs => k_is); (case l_cbs => k_is); (case c_cbs => k_is); (case k_cbs => k_is)
    (case a_wv => k_is); (case l_wv => k_is); (case c_wv => k_is); (case k_wv => k_is); (case a_shr => k_is); (case l_shr => k_is); (case c_shr => k_is); (case k_shr => k_is)
    (case a_shf => k_is); (case l_shf => k_is); (case c_shf => k_is); (case k_shf => k_is); (case a_isen => k_is); (case l_isen => k_is); (case c_isen => k_is); (case k_isen => k_is)
    (case a_cellU => k_is); (case l_cellU => k_is); (case c_cellU => k_is); (case k_cellU => k_is); (case a_dv => k_is); (case l_dv => k_is); (case c_dv => k_is); (case k_dv => k_is)
    (case a_low => k_is); (case l_low => k_is); (case c_low => k_is); (case k_low => k_is); (case a_grp => k_is); (case l_grp => k_is); (case c_grp => k_is); (case k_grp => k_is)
    (case a_lsh => k_is); (case l_lsh => k_is); (case c_lsh => k_is); (case k_lsh => k_is); (case a_mix => k_is); (case l_mix => k_is); (case c_mix => k_is); (case k_mix => k_is)
    (case a_law => k_is); (case l_law => k_is); (case c_law => k_is); (case k_law => k_is); (case z_range => k_is); (case z_len => k_is); (case z_isinstance => k_is); (case z_int => k_is)
    (case z_bool => k_is); (case z_tuple => k_is); (case z_list => k_is); (case z_dict => k_is); (case z_sorted => k_is); (case z_enumerate => k_is); (case z_sum => k_is); (case z_abs => k_is)
    (case z_reversed => k_is); (case n_StretchError => k_is); (case n_NoNumber => k_is); (case x_NoNumber => k_exc); (case ic_NoNumber => k_is); (case ga_NoNumber => k_is); (case gt_NoNumber => k_is); (case cl_NoNumber => k_is)
    (case sg_NoNumber => k_is); (case tk_NoNumber => k_is); (case ob_NoNumber => k_is); (case be_NoNumber => k_is)