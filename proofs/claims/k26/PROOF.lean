import PyProof.Rows.All
import PyProof.DictWalks
import PyProof.DictIter
import PyProof.Rows.CallKwBuiltin
import KE.KRevIter
import PyProof.EnumMake
import Wide.All
import OpenK.AllK
import Wide.FinOn
import Lean
import PyProof.EqAt
import PyProof.EqKinds
import PyProof.TupleCall
import PySem.Challenge.RW_surestretch_k26_ends_moved
set_option Elab.async false
set_option linter.all false
set_option maxRecDepth 100000
namespace L2
open PySem PySem.Spec PyProof.Rows
noncomputable abbrev Key := Sum Int Str
noncomputable def keyIs : Key → Value → Bool
  | .inl k, v => Value.isInt k v
  | .inr x, v => Value.isStrOf x v
noncomputable def keyH (w : World) : Key → Int
  | .inl k => hashInt k
  | .inr x => hashStr w x
theorem keyIs_shape : ∀ {k : Key} {v : Value}, keyIs k v = true → (∃ i t, k = Sum.inl i ∧ v = Value.int i t) ∨ (∃ x t, k = Sum.inr x ∧ v = Value.str x t)
  | .inl i, v, h => by
    obtain ⟨t, e⟩ := Value.isInt_shape (k := i) (v := v) h
    exact .inl ⟨i, t, rfl, e⟩
  | .inr x, v, h => by
    obtain ⟨t, e⟩ := Value.isStrOf_shape (x := x) (v := v) h
    exact .inr ⟨x, t, rfl, e⟩
theorem key_ll (a b : Int) : decide ((Sum.inl a : Key) = Sum.inl b) = (a == b) := by
  by_cases e : a = b
  · subst e; simp
  · have h : ¬ (Sum.inl a : Key) = Sum.inl b := fun q => e (Sum.inl.inj q)
    rw [decide_eq_false h]
    exact (beq_eq_false_iff_ne.mpr e).symm
theorem key_rr (a b : Str) : decide ((Sum.inr a : Key) = Sum.inr b) = decide (a = b) := by
  by_cases e : a = b
  · subst e; simp
  · have h : ¬ (Sum.inr a : Key) = Sum.inr b := fun q => e (Sum.inr.inj q)
    rw [decide_eq_false h, decide_eq_false e]
theorem key_lr (a : Int) (b : Str) : decide ((Sum.inl a : Key) = Sum.inr b) = false := decide_eq_false (fun q => nomatch q)
theorem key_rl (a : Str) (b : Int) : decide ((Sum.inr a : Key) = Sum.inl b) = false := decide_eq_false (fun q => nomatch q)
noncomputable def mixKind (prog : Program) (w : World) : PySem.KeyKind prog w Key where
  is := keyIs
  hash := keyH w
  inj := fun v a b ha hb => by
    rcases keyIs_shape ha with ⟨i, t, rfl, rfl⟩ | ⟨x, t, rfl, rfl⟩
    · rcases keyIs_shape hb with ⟨j, u, rfl, e⟩ | ⟨y, u, rfl, e⟩
      · injection e with e1 _; rw [e1]
      · exact nomatch e
    · rcases keyIs_shape hb with ⟨j, u, rfl, e⟩ | ⟨y, u, rfl, e⟩
      · exact nomatch e
      · injection e with e1 _; rw [e1]
  byValue := fun k v h => by
    rcases keyIs_shape h with ⟨i, t, rfl, rfl⟩ | ⟨x, t, rfl, rfl⟩ <;> rfl
  pyHash := fun hv h => by
    rcases keyIs_shape hv with ⟨i, t, rfl, rfl⟩ | ⟨x, t, rfl, rfl⟩
    · exact wpAny_pyHash_int h
    · exact wpAny_pyHash_str h
  eqBool := fun hu hv h => by
    rcases keyIs_shape hu with ⟨i, t, rfl, rfl⟩ | ⟨x, t, rfl, rfl⟩
    · rcases keyIs_shape hv with ⟨j, u, rfl, rfl⟩ | ⟨y, u, rfl, rfl⟩
      · rw [key_ll] at h; exact wpAny_eqBool_int h
      · rw [key_lr] at h; exact SeqAt.EqAt.int_str i t y u _ _ _ _ h
    · rcases keyIs_shape hv with ⟨j, u, rfl, rfl⟩ | ⟨y, u, rfl, rfl⟩
      · rw [key_rl] at h; exact SeqAt.EqAt.str_int x t j u _ _ _ _ h
      · rw [key_rr] at h; exact wpAny_eqBool_str h
  «strs» := fun k x t v h => by
    rcases keyIs_shape h with ⟨i, u, rfl, e⟩ | ⟨y, u, rfl, e⟩
    · exact nomatch e
    · injection e with e1 _
      subst e1
      cases v <;> rfl
end L2
namespace L2
open PySem PySem.Spec PyProof.Rows
inductive V where
  | non | bl (b : Bool) | int (i : Int) | str (x : Str) | byt (b : Array UInt8) | flt (b : UInt64) | ref (a : Addr) | ty (n : String)
  deriving DecidableEq
noncomputable def RelV : V → Value → Prop
  | .non, u => u = Value.none
  | .bl b, u => u = Value.bool b
  | .int i, u => ∃ t, u = Value.int i t
  | .str x, u => ∃ t, u = Value.str x t
  | .byt b, u => ∃ t, u = Value.bytes b t
  | .flt b, u => ∃ t, u = Value.float b t
  | .ref a, u => u = Value.ref a
  | .ty n, u => u = Value.type n
noncomputable abbrev Vals : List V → List Value → Prop := Paired RelV
theorem Vals.length {xs : List V} {us : List Value} (r : Vals xs us) : xs.length = us.length := Paired.length r
theorem Vals.get : ∀ {xs : List V} {us : List Value} {i : Nat} {x : V}, Vals xs us → xs[i]? = some x → ∃ u, us[i]? = some u ∧ RelV x u
  | _, _, _, _, .nil, e => by simp at e
  | _, _, 0, _, .cons r _, e => by simp at e; subst e; exact ⟨_, rfl, r⟩
  | _, _, i + 1, x, .cons _ t, e => by
    obtain ⟨u, h1, h2⟩ := Vals.get (i := i) (x := x) t (by simpa using e)
    exact ⟨u, by simpa using h1, h2⟩
theorem Vals.set {x : V} {u : Value} (r : RelV x u) : ∀ {xs : List V} {us : List Value} (i : Nat), Vals xs us → Vals (xs.set i x) (us.set i u)
  | _, _, _, .nil => .nil
  | _, _, 0, .cons _ t => .cons r t
  | _, _, i + 1, .cons q t => .cons q (Vals.set r i t)
theorem Vals.append : ∀ {xs ys : List V} {us ws : List Value}, Vals xs us → Vals ys ws → Vals (xs ++ ys) (us ++ ws)
  | _, _, _, _, .nil, s => s
  | _, _, _, _, .cons r t, s => .cons r (Vals.append t s)
theorem Vals.take : ∀ {xs : List V} {us : List Value} (n : Nat), Vals xs us → Vals (xs.take n) (us.take n)
  | _, _, 0, _ => .nil
  | _, _, _ + 1, .nil => .nil
  | _, _, n + 1, .cons r t => .cons r (Vals.take n t)
theorem Vals.drop : ∀ {xs : List V} {us : List Value} (n : Nat), Vals xs us → Vals (xs.drop n) (us.drop n)
  | _, _, 0, r => r
  | _, _, _ + 1, .nil => .nil
  | _, _, n + 1, .cons _ t => Vals.drop n t
noncomputable def RelO : Option V → Option Value → Prop
  | some v, some u => RelV v u
  | none, none => True
  | _, _ => False
noncomputable def KV {κ : Type} : List (κ × V) → List (κ × Value) → Prop := Paired fun (p : κ × V) (q : κ × Value) => p.1 = q.1 ∧ RelV p.2 q.2
noncomputable def kV : Key → V
  | .inl i => .int i
  | .inr x => .str x
inductive HO where
  | lst (xs : List V)
  | tup (xs : List V)
  | dK (kvs : List (Key × V)) | dT (kvs : List (List Key × V))
  | set (S : Int → Bool) (n : Nat)
  | ins (C dx : Addr) (fs : List (Str × V))
  | own (x : Addr)
  | xd (fs : List (Str × V))
  | met (f x : Addr)
  | rng (lo hi : Int)
  | frz (o : Obj) (u : HO)
  | tbl (ps : Array Value)
  | ext (φ : Heap → Prop)
noncomputable abbrev Hp := Addr → Option HO
noncomputable def upd (H : Hp) (a : Addr) (o : HO) : Hp := fun b => if b = a then some o else H b
theorem upd_same {H : Hp} {a : Addr} {o : HO} : upd H a o a = some o := by unfold upd; rw [if_pos rfl]
theorem upd_ne {H : Hp} {a b : Addr} {o : HO} (h : b ≠ a) : upd H a o b = H b := by unfold upd; rw [if_neg h]
theorem ne_of {H : Hp} {a b : Addr} {o u : HO} (h : H a = some o) (h' : H b = some u) (d : o ≠ u) : a ≠ b := by
  intro e; subst e; rw [h] at h'; exact d (Option.some.inj h')
theorem ne_of_none {H : Hp} {a b : Addr} {o : HO} (h : H a = some o) (h' : H b = none) : a ≠ b := by
  intro e; subst e; rw [h] at h'; cases h'
section
variable (P : Program) (w : World)
noncomputable def ObjOk (H : Hp) (h : Heap) (a : Addr) : HO → Prop
  | .lst xs => xs.length ≤ sizeLine ∧ ∃ (its : List Value) (n : Nat), Vals xs its ∧ h.get? a = some { cls := .type "list", data := .seq its.toArray n }
  | .tup xs => xs.length ≤ sizeLine ∧ ∃ its : List Value, Vals xs its ∧ IsTup h a its.toArray
  | .dK kvs => kvs.length ≤ sizeLine ∧ (a == sysModules) = false ∧ ∃ vs, KV kvs vs ∧ h.DictOf (mixKind P w) a vs
  | .dT kvs => kvs.length ≤ sizeLine ∧ (a == sysModules) = false ∧ ∃ xs : List (List Key × Addr × Value),
      Paired (fun (p : List Key × V) (q : List Key × Addr × Value) => p.1 = q.1 ∧ H q.2.1 = some (.tup (p.1.map kV)) ∧ RelV p.2 q.2.2) kvs xs ∧
      ∃ o es ep, h.get? a = some o ∧ o.ExactDict ∧ o.data = .dict es ep ∧ es.toList = xs.map (entryOfKey (tupleKind (mixKind P w))) ∧ (xs.map (·.1)).Nodup
  | .set S n => h.SetOf (intKind P w) a S n
  | .ins C dx fs => H dx = some (.own a) ∧ fs.length ≤ 1000 ∧ dx ≠ a ∧ h.get? a = some (PySem.W.instObj C dx) ∧
      ∃ mA, h.Ns1 dx mA ∧ (∀ f, RelO (fs.lookup f) (mA f)) ∧ PySem.Within mA (fs.map (·.1))
  | .own _ => ∃ o, h.get? a = some o
  | .xd fs => ∃ mA, h.Ns1 a mA ∧ ∀ f, RelO (fs.lookup f) (mA f)
  | .rng lo hi => ∃ t u v, h.get? a = some { cls := .type "range", data := .fields #[.int lo t, .int hi u, .int 1 v] }
  | .frz o u => h.get? a = some o ∧ ObjOk H h a u
  | .tbl ps => h.get? a = some { cls := .none, data := .fields ps }
  | .met f x => h.get? a = some (PySem.W.methodObj (.ref f) (.ref x))
  | .ext φ => φ h ∧ (∃ o, h.get? a = some o) ∧ ∀ h1 h2 : Heap, φ h1 → (∀ o, h1.get? a = some o → h2.get? a = some o) → φ h2
noncomputable def HOk (H : Hp) (h : Heap) : Prop := ∀ a o, H a = some o → ObjOk P w H h a o
end
section
variable {P : Program} {w : World} {H H' : Hp} {h h' : Heap} {a : Addr} {o : HO}
theorem ObjOk.lt (x : ObjOk P w H h a o) : a < h.objs.size := by
  cases o with
  | lst xs => obtain ⟨_, _, _, _, e⟩ := x; exact Heap.lt_size e
  | tup xs => obtain ⟨_, _, _, p⟩ := x; exact p.lt
  | dK kvs => obtain ⟨_, _, _, _, o, _, _, e, _⟩ := x; exact Heap.lt_size e
  | dT kvs => obtain ⟨_, _, _, _, o, _, _, e, _⟩ := x; exact Heap.lt_size e
  | set S n => obtain ⟨o, _, _, _, e, _⟩ := x; exact Heap.lt_size e
  | ins C dx fs => obtain ⟨_, _, _, e, _⟩ := x; exact Heap.lt_size e
  | own y => obtain ⟨_, e⟩ := x; exact Heap.lt_size e
  | xd fs => obtain ⟨_, ⟨_, _, _, e, _⟩, _⟩ := x; exact Heap.lt_size e
  | rng lo hi => obtain ⟨_, _, _, e⟩ := x; exact Heap.lt_size e
  | frz ob u => obtain ⟨e, _⟩ := x; exact Heap.lt_size e
  | tbl ps => exact Heap.lt_size (show h.get? a = some _ from x)
  | met f y => exact Heap.lt_size (show h.get? a = some _ from x)
  | ext φ => obtain ⟨_, ⟨_, e⟩, _⟩ := x; exact Heap.lt_size e
theorem Paired.mapP {α β : Type} {F G : α → β → Prop} : ∀ {l₁ : List α} {l₂ : List β}, Paired F l₁ l₂ → (∀ a b, F a b → G a b) → Paired G l₁ l₂
  | _, _, .nil, _ => .nil
  | _, _, .cons r t, f => .cons (f _ _ r) (Paired.mapP t f)
theorem ObjOk.stay (x : ObjOk P w H h a o) (k : ∀ b u, (b = a ∨ H b = some (.own a)) → h.get? b = some u → h'.get? b = some u)
    (ho : ∀ b, H b = some (.own a) → H' b = some (.own a)) (ht : ∀ b xs, H b = some (.tup xs) → H' b = some (.tup xs)) : ObjOk P w H' h' a o := by
  induction o with
  | lst xs => obtain ⟨z, its, n, r, e⟩ := x; exact ⟨z, its, n, r, k _ _ (.inl rfl) e⟩
  | tup xs => obtain ⟨z, its, r, ob, e, c⟩ := x; exact ⟨z, its, r, ob, k _ _ (.inl rfl) e, c⟩
  | dK kvs => obtain ⟨z, y, vs, r, ob, es, ep, e, c⟩ := x; exact ⟨z, y, vs, r, ob, es, ep, k _ _ (.inl rfl) e, c⟩
  | dT kvs =>
    obtain ⟨z, y, xs, r, ob, es, ep, e, c⟩ := x
    exact ⟨z, y, xs, Paired.mapP r fun p q z => ⟨z.1, ht _ _ z.2.1, z.2.2⟩, ob, es, ep, k _ _ (.inl rfl) e, c⟩
  | set S n => obtain ⟨ob, es, ep, t, e, c⟩ := x; exact ⟨ob, es, ep, t, k _ _ (.inl rfl) e, c⟩
  | ins C dx fs =>
    obtain ⟨d, z, ne, e, mA, ⟨od, es, ep, e2, c⟩, r⟩ := x
    exact ⟨ho _ d, z, ne, k _ _ (.inl rfl) e, mA, ⟨od, es, ep, k _ _ (.inr d) e2, c⟩, r⟩
  | own y => obtain ⟨ob, e⟩ := x; exact ⟨ob, k _ _ (.inl rfl) e⟩
  | xd fs => obtain ⟨mA, ⟨od, es, ep, e, c⟩, r⟩ := x; exact ⟨mA, ⟨od, es, ep, k _ _ (.inl rfl) e, c⟩, r⟩
  | rng lo hi => obtain ⟨t, u, v, e⟩ := x; exact ⟨t, u, v, k _ _ (.inl rfl) e⟩
  | frz ob u ih => obtain ⟨e, q⟩ := x; exact ⟨k _ _ (.inl rfl) e, ih q⟩
  | tbl ps =>
    have e : h.get? a = some { cls := .none, data := .fields ps } := x
    show h'.get? a = some { cls := .none, data := .fields ps }
    exact k a _ (.inl rfl) e
  | met f y =>
    have e : h.get? a = some (PySem.W.methodObj (.ref f) (.ref y)) := x
    show h'.get? a = some (PySem.W.methodObj (.ref f) (.ref y))
    exact k a _ (.inl rfl) e
  | ext φ => obtain ⟨p, ⟨o, e⟩, st⟩ := x; exact ⟨st _ _ p fun o q => k _ _ (.inl rfl) q, ⟨o, k _ _ (.inl rfl) e⟩, st⟩
theorem HOk.lt (x : HOk P w H h) (e : H a = some o) : a < h.objs.size := (x a o e).lt
theorem HOk.fresh (x : HOk P w H h) (e : h.objs.size ≤ a) : H a = none := by
  cases q : H a with
  | none => rfl
  | some u => exact absurd (Nat.lt_of_lt_of_le (x.lt q) e) (Nat.lt_irrefl _)
theorem HOk.kept (x : HOk P w H h) (k : ∀ b u, h.get? b = some u → h'.get? b = some u) : HOk P w H h' := fun a o e =>
  (x a o e).stay (fun b u _ q => k b u q) (fun _ q => q) fun _ _ q => q
theorem HOk.laid (x : HOk P w H h) (k : ∀ b u, h.get? b = some u → h'.get? b = some u) (hp : h.objs.size ≤ a) (new : ObjOk P w (upd H a o) h' a o) : HOk P w (upd H a o) h' := fun b u e => by
  have hn := x.fresh hp
  by_cases hb : b = a
  · subst hb; rw [upd_same] at e; cases e; exact new
  · rw [upd_ne hb] at e
    exact (x b u e).stay (fun c v _ q => k c v q) (fun c q => by rw [upd_ne (ne_of_none q hn)]; exact q) fun c xs q => by rw [upd_ne (ne_of_none q hn)]; exact q
end
noncomputable def Rd (H : Hp) (a : Addr) (u : HO) : Prop := H a = some u ∨ ∃ o, H a = some (.frz o u)
theorem Rd.of {H : Hp} {a : Addr} {u : HO} (h : H a = some u) : Rd H a u := .inl h
theorem Rd.ok {P : Program} {w : World} {H : Hp} {h : Heap} {a : Addr} {u : HO} (r : Rd H a u) (x : HOk P w H h) : ObjOk P w H h a u := by
  rcases r with r | ⟨o, r⟩
  · exact x a u r
  · obtain ⟨_, q⟩ := x a _ r
    exact q
noncomputable def Mut : Option HO → Prop
  | some (.lst _) => True
  | some (.dK _) => True
  | some (.dT _) => True
  | some (.set _ _) => True
  | some (.ins _ _ _) => True
  | some (.ext _) => True
  | _ => False
section
variable {P : Program} {w : World} {H : Hp} {h h' : Heap} {x e : Addr} {o' : HO}
theorem HOk.write (ok : HOk P w H h) (mu : Mut (H x)) (he : e = x ∨ H e = some (.own x)) (k : ∀ b u, b ≠ e → h.get? b = some u → h'.get? b = some u) (heo : ∃ u, h'.get? e = some u)
    (new : ObjOk P w (upd H x o') h' x o') : HOk P w (upd H x o') h' := fun b u q => by
  have nown : ∀ c y, H c = some (.own y) → c ≠ x := fun c y r z => by subst z; rw [r] at mu; exact mu
  have ntup : ∀ c xs, H c = some (.tup xs) → c ≠ x := fun c xs r z => by subst z; rw [r] at mu; exact mu
  by_cases hb : b = x
  · subst hb; rw [upd_same] at q; cases q; exact new
  · rw [upd_ne hb] at q
    by_cases hbe : b = e
    · have q' : H b = some (.own x) := by
        rcases he with z | z
        · exact absurd (hbe.trans z) hb
        · rw [hbe]; exact z
      rw [q] at q'; cases q'
      obtain ⟨v, hv⟩ := heo
      exact ⟨v, by rw [hbe]; exact hv⟩
    · refine (ok b u q).stay (fun c v hc r => k c v ?_ r) (fun c r => by rw [upd_ne (nown c b r)]; exact r) fun c xs r => by rw [upd_ne (ntup c xs r)]; exact r
      rcases hc with rfl | hc
      · exact hbe
      · rintro rfl
        rcases he with z | z
        · exact nown c b hc z
        · rw [hc] at z; cases z; exact hb rfl
end
structure Un (fs ex : List Addr) (H H' : Hp) (h h' : Heap) : Prop where
  keep : ∀ b o, h.get? b = some o → H b = none → b ∉ fs → b ∉ ex → h'.get? b = some o
  slot : ∀ b o, h.get? b = some o → H b = none → b ∈ fs → b ∉ ex → ∃ sl, h'.get? b = some { o with slots := sl }
  free : ∀ b o, h.get? b = some o → H b = none → b ∉ ex → H' b = none
  there : ∀ b o, h.get? b = some o → b ∉ ex → ∃ o', h'.get? b = some o'
  tups : ∀ b xs, H b = some (.tup xs) → H' b = some (.tup xs)
  frzs : ∀ b o u, H b = some (.frz o u) → H' b = some (.frz o u)
  tbls : ∀ b ps, H b = some (.tbl ps) → ∃ more, H' b = some (.tbl (ps ++ more))
section
variable {fs fs' ex ex' : List Addr} {H H1 H2 : Hp} {h h1 h2 h' : Heap} {a x e : Addr} {o : HO}
theorem Un.any (u : Un fs ex H H1 h h1) {b : Addr} {ob : Obj} (q : h.get? b = some ob) (n : H b = none) (hx : b ∉ ex) : ∃ sl, h1.get? b = some { ob with slots := sl } := by
  by_cases hb : b ∈ fs
  · exact u.slot b ob q n hb hx
  · exact ⟨ob.slots, u.keep b ob q n hb hx⟩
theorem Un.trans (a : Un fs ex H H1 h h1) (b : Un fs ex H1 H2 h1 h2) : Un fs ex H H2 h h2 where
  keep := fun c ob q n hc hx => b.keep c ob (a.keep c ob q n hc hx) (a.free c ob q n hx) hc hx
  slot := fun c ob q n hc hx => by
    obtain ⟨sl, e1⟩ := a.slot c ob q n hc hx
    obtain ⟨sl', e2⟩ := b.slot c _ e1 (a.free c ob q n hx) hc hx
    exact ⟨sl', e2⟩
  free := fun c ob q n hx => by
    obtain ⟨o', e1⟩ := a.there c ob q hx
    exact b.free c o' e1 (a.free c ob q n hx) hx
  there := fun c ob q hx => by
    obtain ⟨o', e1⟩ := a.there c ob q hx
    exact b.there c o' e1 hx
  tups := fun c xs q => b.tups c xs (a.tups c xs q)
  frzs := fun c ob xs q => b.frzs c ob xs (a.frzs c ob xs q)
  tbls := fun c ps q => by
    obtain ⟨m1, e1⟩ := a.tbls c ps q
    obtain ⟨m2, e2⟩ := b.tbls c _ e1
    exact ⟨m1 ++ m2, by rw [e2, Array.append_assoc]⟩
theorem Un.kept (k : ∀ b u, h.get? b = some u → h'.get? b = some u) : Un fs ex H H h h' :=
  ⟨fun b ob q _ _ _ => k b ob q, fun b ob q _ _ _ => ⟨ob.slots, k b ob q⟩, fun _ _ _ n _ => n, fun b ob q _ => ⟨ob, k b ob q⟩, fun _ _ q => q, fun _ _ _ q => q, fun _ ps q => ⟨#[], by rw [q]; simp⟩⟩
theorem Un.refl : Un fs ex H H h h := Un.kept fun _ _ q => q
theorem Un.laid (k : ∀ b u, h.get? b = some u → h'.get? b = some u) (hp : h.objs.size ≤ a) (hn : H a = none) : Un fs ex H (upd H a o) h h' where
  keep := fun b u q _ _ _ => k b u q
  slot := fun b u q _ _ _ => ⟨u.slots, k b u q⟩
  free := fun b u q n _ => by rw [upd_ne (Nat.ne_of_lt (Nat.lt_of_lt_of_le (Heap.lt_size q) hp))]; exact n
  there := fun b u q _ => ⟨u, k b u q⟩
  tups := fun b xs q => by rw [upd_ne (ne_of_none q hn)]; exact q
  frzs := fun b u xs q => by rw [upd_ne (ne_of_none q hn)]; exact q
  tbls := fun b ps q => ⟨#[], by rw [upd_ne (ne_of_none q hn), q]; simp⟩
theorem Un.write (mu : Mut (H x)) (he : e = x ∨ H e = some (.own x)) (k : ∀ b u, b ≠ e → h.get? b = some u → h'.get? b = some u) (heo : ∃ u, h'.get? e = some u) : Un fs ex H (upd H x o) h h' := by
  have hx : ∀ b, H b = none → b ≠ x := fun b n z => by subst z; rw [n] at mu; exact mu
  have hb : ∀ b, H b = none → b ≠ e := fun b n z => by
    subst z
    rcases he with r | r
    · exact hx b n r
    · rw [n] at r; cases r
  have hm : ∀ b u, H b = some u → ¬ Mut (some u) → b ≠ x := fun b u q nm z => by subst z; rw [q] at mu; exact nm mu
  refine ⟨fun b u q n _ _ => k b u (hb b n) q, fun b u q n _ _ => ⟨u.slots, k b u (hb b n) q⟩, fun b u q n _ => by rw [upd_ne (hx b n)]; exact n, fun b u q _ => ?_,
    fun b xs q => by rw [upd_ne (hm b _ q fun z => z)]; exact q, fun b u xs q => by rw [upd_ne (hm b _ q fun z => z)]; exact q, fun b ps q => ⟨#[], by rw [upd_ne (hm b _ q fun z => z), q]; simp⟩⟩
  by_cases hbe : b = e
  · subst hbe; exact heo
  · exact ⟨u, k b u hbe q⟩
theorem Un.mono (u : Un fs ex H H1 h h1) (hs : ∀ b ∈ fs, b ∈ fs') (hx : ∀ b ∈ ex, b ∈ ex') : Un fs' ex' H H1 h h1 :=
  ⟨fun b ob q n hb he => u.keep b ob q n (fun z => hb (hs b z)) fun z => he (hx b z), fun _ _ q n _ he => u.any q n fun z => he (hx _ z), fun b ob q n he => u.free b ob q n fun z => he (hx b z), fun b ob q he => u.there b ob q fun z => he (hx b z), u.tups, u.frzs, u.tbls⟩
end
noncomputable def trk (h : Heap) (H : Hp) : List Addr := (List.range h.objs.size).filter fun a => (H a).isSome
noncomputable def hidT (h : Heap) (H : Hp) : Heap := PySem.W.hideAll h (trk h H)
theorem hidT_size (h : Heap) (H : Hp) : (hidT h H).objs.size = h.objs.size := PySem.W.hideAll_size _ _
theorem hidT_get {h : Heap} {H : Hp} {b : Addr} {o : Obj} (e : h.get? b = some o) (n : H b = none) : (hidT h H).get? b = some o :=
  PySem.W.hideAll_get _ e fun hm => by
    have q : (H b).isSome = true := (List.mem_filter.mp hm).2
    rw [n] at q; simp at q
theorem of_hidT {h : Heap} {H : Hp} {b : Addr} {o : Obj} (e : (hidT h H).get? b = some o) : h.get? b = some o ∧ H b = none := by
  have e' : h.get? b = some o := PySem.W.of_hideAll (trk h H) e
  refine ⟨e', ?_⟩
  cases q : H b with
  | none => rfl
  | some x =>
    have hm : b ∈ trk h H := List.mem_filter.mpr ⟨List.mem_range.mpr (Heap.lt_size e'), by simp [q]⟩
    have z : (hidT h H).get? b = none := PySem.W.hideAll_none (trk h H) hm
    rw [z] at e; cases e
noncomputable def allNews (g h : Heap) (L : Addr) : List (Addr × Obj) := (List.range h.objs.size).filterMap fun a => if a = L ∨ (g.get? a).isSome = true then none else (h.get? a).map fun o => (a, o)
noncomputable def rest (g h : Heap) (L d : Addr) : List (Addr × Obj) := (allNews g h L).filter fun p => decide (p.1 ≠ d)
end L2
namespace L2
open PySem PySem.Spec PyProof.Rows
structure Mod (K : PySem.W.Frag) (mg : Str → Option Value) (base : Heap) : Prop where
  kin : K.In base
  glob : base.Ns mainGlobals mg
  blt : ∃ mb, base.Ns builtinsNs mb ∧ ∀ x : Str, x ≠ "__name__" → mb x = bootBuiltins x
  nolimit : base.NoLimit
structure Cx where
  prog : Program
  w : World
  K : PySem.W.Frag
  mg : Str → Option Value
  base : Heap
  A : Around
  N : List Str
  s₀ : Shared
  H₀ : Hp
  env : Env
  outer : List Env
  stack : List Env
  ex : List Addr
  fn : Str → Bool
  calm : Bool
  pn : List (Addr × Obj)
  xe : Value → Shared → Prop
noncomputable def frs (l : List Env) : List Addr := l.filterMap (·.frame)
noncomputable abbrev Cx.fs (X : Cx) : List Addr := frs X.outer
noncomputable def Vis (sc : Scope) (x : Str) : Prop := sc.names.lookup x = some .local ∨ sc.names.lookup x = some .cell ∨ sc.names.lookup x = some .free
noncomputable def Loc (sc : Scope) (x : Str) : Prop := sc.names.lookup x = some .local ∨ sc.names.lookup x = some .cell
noncomputable def Look (env : Env) (h : Heap) (m : Str → Option Value) (x : Str) (u : Value) : Prop :=
  (env.kindOf x = some .local ∧ m x = some u) ∨ ((env.kindOf x = some .cell ∨ env.kindOf x = some .free) ∧ ∃ c, env.cells.lookup x = some c ∧ h.IsCell c (some u))
structure Cx.Ok (X : Cx) : Prop where
  mod : Mod X.K X.mg X.base
  kind : X.env.scope.kind = .function
  glob : X.env.globals = mainGlobals
  blt : X.env.builtins = builtinsNs
  above : X.s₀.heap.objs.size ≤ X.env.locals
  inj : ∀ x y c, X.env.cells.lookup x = some c → X.env.cells.lookup y = some c → x = y
  has : ∀ x, (X.env.kindOf x = some .cell ∨ X.env.kindOf x = some .free) → ∃ c, X.env.cells.lookup x = some c
  cab : ∀ x c, X.fn x = true → X.env.cells.lookup x = some c → X.s₀.heap.objs.size ≤ c
  hd : X.calm = true → X.A.handled = none
  frames : X.A.frames = some X.stack
  stk : X.stack = X.outer ∨ (X.stack = X.env :: X.outer ∧ X.env.frame = some X.env.locals)
  exf : ∀ b ∈ X.ex, b ≠ X.env.locals ∧ ∀ x c, X.env.cells.lookup x = some c → c ≠ b
  bs : ∀ b o, X.base.get? b = some o → X.s₀.heap.get? b = some o ∧ X.H₀ b = none
  bsz : X.base.objs.size ≤ X.s₀.heap.objs.size
  noex : ∀ b o, X.base.get? b = some o → b ∉ X.ex
  exfs : ∀ b ∈ X.ex, b ∉ X.fs
  funs : X.s₀.heap.FunFrames X.base X.outer
  frf : ∀ b ∈ X.fs, X.H₀ b = none
structure Inv (X : Cx) (pins : List (Addr × Obj)) (σ : List (Option V)) (H : Hp) (s : Shared) : Prop where
  ok : X.Ok
  os : s.os = X.s₀.os
  bare : AllBare s.gens
  base : Un X.fs X.ex X.H₀ H X.s₀.heap s.heap
  loc : ∃ m, s.heap.Ns X.env.locals m ∧ ∀ (i : Nat) (x : Str) (v : V), X.N[i]? = some x → σ[i]? = some (some v) → Vis X.env.scope x → ∃ u, RelV v u ∧ Look X.env s.heap m x u
  cell : ∀ x c, X.env.cells.lookup x = some c → ∃ v, s.heap.IsCell c v
  free : H X.env.locals = none
  freeC : ∀ x c, X.env.cells.lookup x = some c → H c = none
  pin : ∀ p ∈ X.pn ++ pins, s.heap.get? p.1 = some p.2 ∧ H p.1 = none ∧ p.1 ≠ X.env.locals ∧ p.1 ∉ X.fs ∧ ∀ v, p.2.data ≠ .cell v
  hok : HOk X.prog X.w H s.heap
  len : σ.length = X.N.length
section
variable {X : Cx} {pins : List (Addr × Obj)} {σ : List (Option V)} {H H' : Hp} {s : Shared} {h' : Heap}
theorem Cx.Ok.nofr (ok : X.Ok) {b : Addr} {o : Obj} (e : X.base.get? b = some o) : b ∉ X.fs := fun hb => by
  have := (ok.funs.mem hb).1
  rw [e] at this; cases this
theorem Inv.bs (I : Inv X pins σ H s) : ∀ b o, X.base.get? b = some o → s.heap.get? b = some o ∧ H b = none := fun b o e =>
  ⟨I.base.keep b o (I.ok.bs b o e).1 (I.ok.bs b o e).2 (I.ok.nofr e) (I.ok.noex b o e), I.base.free b o (I.ok.bs b o e).1 (I.ok.bs b o e).2 (I.ok.noex b o e)⟩
theorem Inv.bk (I : Inv X pins σ H s) : ∀ b o, X.base.get? b = some o → s.heap.get? b = some o := fun b o e => (I.bs b o e).1
theorem Inv.mod (I : Inv X pins σ H s) : Mod X.K X.mg X.base := I.ok.mod
theorem Inv.kIn (I : Inv X pins σ H s) : X.K.In s.heap := I.ok.mod.kin.keeps I.bk
theorem Inv.nolimit (I : Inv X pins σ H s) : s.heap.NoLimit := I.ok.mod.nolimit.keeps I.bk
theorem Inv.fr (I : Inv X pins σ H s) : ∃ m, Fr X.base X.env.locals s.heap m :=
  let ⟨m, hn, _⟩ := I.loc
  ⟨m, hn, I.bk, Nat.le_trans I.ok.bsz I.ok.above⟩
theorem Inv.lt (I : Inv X pins σ H s) : X.env.locals < s.heap.objs.size := let ⟨_, hn, _⟩ := I.loc; hn.lt
theorem Inv.sz (I : Inv X pins σ H s) : X.s₀.heap.objs.size ≤ s.heap.objs.size := Nat.le_trans I.ok.above (Nat.le_of_lt I.lt)
theorem Inv.nofs (I : Inv X pins σ H s) {a : Addr} (h : s.heap.objs.size ≤ a) : a ∉ X.fs := fun hb => by
  obtain ⟨_, o, ho, _⟩ := I.ok.funs.mem hb
  exact absurd (Nat.lt_of_lt_of_le (Heap.lt_size ho) (Nat.le_trans I.sz h)) (Nat.lt_irrefl _)
theorem Inv.cne (I : Inv X pins σ H s) : ∀ x c, X.env.cells.lookup x = some c → c ≠ X.env.locals := fun x c e z => by
  obtain ⟨v, o, ho, hd⟩ := I.cell x c e
  obtain ⟨m, ⟨o', es, ep, ho', hd', _⟩, _⟩ := I.loc
  rw [z, ho'] at ho; cases ho; rw [hd'] at hd; cases hd
theorem Inv.funs (I : Inv X pins σ H s) : s.heap.FunFrames X.base X.outer := by
  have all : ∀ (l : List Env), (∀ b ∈ frs l, b ∈ X.fs) → X.s₀.heap.FunFrames X.base l → s.heap.FunFrames X.base l := by
    intro l
    induction l with
    | nil => intro _ _; trivial
    | cons env r ih =>
      intro hs hl
      obtain ⟨hk, ⟨L, o, hf, hn, ho, hd⟩, hr⟩ := hl
      have hL : L ∈ X.fs := hs L (by unfold frs; rw [List.filterMap_cons, hf]; exact List.mem_cons_self)
      obtain ⟨sl, e⟩ := I.base.slot L o ho (I.ok.frf L hL) hL fun z => I.ok.exfs L z hL
      exact ⟨hk, ⟨L, _, hf, hn, e, hd⟩, ih (fun b hb => hs b (by unfold frs; rw [List.filterMap_cons, hf]; exact List.mem_cons_of_mem _ hb)) hr⟩
  exact all X.outer (fun _ hb => hb) I.ok.funs
theorem Inv.stack (I : Inv X pins σ H s) : s.heap.FunFrames X.base X.stack := by
  rcases I.ok.stk with e | ⟨e, hf⟩
  · rw [e]; exact I.funs
  · rw [e]
    obtain ⟨m, hn, _⟩ := I.loc
    refine .cons (by rw [I.ok.kind]; decide) hf hn ?_ I.funs
    exact Heap.get?_none_of_le (Nat.le_trans I.ok.bsz I.ok.above)
theorem Inv.stkSub (I : Inv X pins σ H s) : ∀ b ∈ frs X.stack, b ∈ X.env.locals :: X.fs := fun b hb => by
  rcases I.ok.stk with e | ⟨e, hf⟩
  · rw [e] at hb; exact List.mem_cons_of_mem _ hb
  · rw [e] at hb
    unfold frs at hb
    rw [List.filterMap_cons, hf] at hb
    exact hb
theorem Inv.stkFree (I : Inv X pins σ H s) : ∀ b ∈ frs X.stack, H b = none := fun b hb => by
  rcases List.mem_cons.mp (I.stkSub b hb) with e | hb
  · rw [e]; exact I.free
  · obtain ⟨_, o, ho, _⟩ := I.ok.funs.mem hb
    exact I.base.free b o ho (I.ok.frf b hb) fun z => I.ok.exfs b z hb
theorem Inv.step {g' : Array GenState} {t' : Nat} {d' : Drawn} {ch : List Addr} (I : Inv X pins σ H s)
    (hch : ∀ b ∈ ch, (b ∈ X.ex ∨ X.s₀.heap.objs.size ≤ b) ∧ b ≠ X.env.locals ∧ (∀ x c, X.env.cells.lookup x = some c → c ≠ b) ∧ ∀ p ∈ X.pn ++ pins, p.1 ≠ b)
    (keep : ∀ b o, b ≠ X.env.locals → b ∉ X.fs → b ∉ ch → s.heap.get? b = some o → H b = none → h'.get? b = some o)
    (slot : ∀ b o, b ≠ X.env.locals → b ∈ X.fs → b ∉ ch → s.heap.get? b = some o → H b = none → ∃ sl, h'.get? b = some { o with slots := sl }) (free : ∀ b o, b ∉ ch → s.heap.get? b = some o → H b = none → H' b = none)
    (there : ∀ b o, b ∉ ch → s.heap.get? b = some o → ∃ o', h'.get? b = some o')
    (tups : ∀ b xs, H b = some (.tup xs) → H' b = some (.tup xs)) (frzs : ∀ b o u, H b = some (.frz o u) → H' b = some (.frz o u)) (tbls : ∀ b ps, H b = some (.tbl ps) → ∃ more, H' b = some (.tbl (ps ++ more)))
    (ns : ∀ m, s.heap.Ns X.env.locals m → h'.Ns X.env.locals m) (hok : HOk X.prog X.w H' h') (hg : AllBare g') :
    Inv X pins σ H' { s with heap := h', gens := g', drawn := d', toks := t' } := by
  have neL : ∀ b o, X.s₀.heap.get? b = some o → b ≠ X.env.locals := fun b o e => Nat.ne_of_lt (Nat.lt_of_lt_of_le (Heap.lt_size e) I.ok.above)
  have neC : ∀ b o, X.s₀.heap.get? b = some o → b ∉ X.ex → b ∉ ch := fun b o e hx hb => by
    rcases (hch b hb).1 with z | z
    · exact hx z
    · exact absurd (Nat.lt_of_lt_of_le (Heap.lt_size e) z) (Nat.lt_irrefl _)
  have cellK : ∀ x c, X.env.cells.lookup x = some c → ∀ v, s.heap.IsCell c v → h'.IsCell c v := fun x c e v ⟨o, ho, hd⟩ => by
    have nch : c ∉ ch := fun z => (hch c z).2.2.1 x c e rfl
    by_cases hc : c ∈ X.fs
    · obtain ⟨sl, q⟩ := slot c o (I.cne x c e) hc nch ho (I.freeC x c e)
      exact ⟨_, q, hd⟩
    · exact ⟨o, keep c o (I.cne x c e) hc nch ho (I.freeC x c e), hd⟩
  refine ⟨I.ok, I.os, hg, ⟨fun b o e n hb hx => ?_, fun b o e n hb hx => ?_, fun b o e n hx => ?_, fun b o e hx => ?_, fun b xs e => tups b xs (I.base.tups b xs e), fun b o xs e => frzs b o xs (I.base.frzs b o xs e), fun b ps e => ?_⟩, ?_, fun x c e => ?_, ?_, fun x c e => ?_, fun p hp => ?_, hok, I.len⟩
  · exact keep b o (neL b o e) hb (neC b o e hx) (I.base.keep b o e n hb hx) (I.base.free b o e n hx)
  · obtain ⟨sl, e1⟩ := I.base.slot b o e n hb hx
    obtain ⟨sl', e2⟩ := slot b _ (neL b o e) hb (neC b o e hx) e1 (I.base.free b o e n hx)
    exact ⟨sl', e2⟩
  · obtain ⟨o', e1⟩ := I.base.there b o e hx
    exact free b o' (neC b o e hx) e1 (I.base.free b o e n hx)
  · obtain ⟨o', e1⟩ := I.base.there b o e hx
    exact there b o' (neC b o e hx) e1
  · obtain ⟨m1, e1⟩ := I.base.tbls b ps e
    obtain ⟨m2, e2⟩ := tbls b _ e1
    exact ⟨m1 ++ m2, by rw [e2, Array.append_assoc]⟩
  · obtain ⟨m, hn, hl⟩ := I.loc
    refine ⟨m, ns m hn, fun i x v e1 e2 e3 => ?_⟩
    obtain ⟨u, r, l⟩ := hl i x v e1 e2 e3
    refine ⟨u, r, ?_⟩
    rcases l with l | ⟨k, c, e, z⟩
    · exact .inl l
    · exact .inr ⟨k, c, e, cellK x c e _ z⟩
  · obtain ⟨v, z⟩ := I.cell x c e
    exact ⟨v, cellK x c e v z⟩
  · obtain ⟨m, ⟨o, _, _, ho, _⟩, _⟩ := I.loc
    exact free _ o (fun z => (hch _ z).2.1 rfl) ho I.free
  · obtain ⟨v, o, ho, hd⟩ := I.cell x c e
    exact free c o (fun z => (hch c z).2.2.1 x c e rfl) ho (I.freeC x c e)
  · obtain ⟨e, n, ne, nf, d⟩ := I.pin p hp
    have nch : p.1 ∉ ch := fun z => (hch p.1 z).2.2.2 p hp rfl
    exact ⟨keep p.1 p.2 ne nf nch e n, free p.1 p.2 nch e n, ne, nf, d⟩
theorem Inv.un {t' : Nat} (I : Inv X pins σ H s) (u : Un X.fs [] H H' s.heap h') (hok : HOk X.prog X.w H' h') : Inv X pins σ H' { s with heap := h', toks := t' } := by
  obtain ⟨m, ⟨o, es, ep, ho, r⟩, _⟩ := id I.loc
  obtain ⟨sl, hL⟩ := u.any ho I.free (by simp)
  exact I.step (g' := s.gens) (d' := s.drawn) (ch := []) (fun _ z => nomatch z) (fun b o _ hb _ e n => u.keep b o e n hb (by simp)) (fun b o _ hb _ e n => u.slot b o e n hb (by simp)) (fun b o _ e n => u.free b o e n (by simp)) (fun b o _ e => u.there b o e (by simp)) u.tups u.frzs u.tbls (fun m' hm => by
    obtain ⟨o', es', ep', ho', r'⟩ := hm
    rw [ho] at ho'; cases ho'
    exact ⟨_, es', ep', hL, r'⟩) hok I.bare
theorem Inv.call {g' : Array GenState} {t' : Nat} {d' : Drawn} {ch : List Addr} (I : Inv X pins σ H s) (u : Un (frs X.stack) ch H H' s.heap h') (hok : HOk X.prog X.w H' h') (hg : AllBare g')
    (hch : ∀ b ∈ ch, (b ∈ X.ex ∨ X.s₀.heap.objs.size ≤ b) ∧ b ≠ X.env.locals ∧ (∀ x c, X.env.cells.lookup x = some c → c ≠ b) ∧ ∀ p ∈ X.pn ++ pins, p.1 ≠ b) :
    Inv X pins σ H' { s with heap := h', gens := g', drawn := d', toks := t' } := by
  obtain ⟨m, ⟨o, es, ep, ho, r⟩, _⟩ := id I.loc
  obtain ⟨sl, hL⟩ := u.any ho I.free fun z => (hch _ z).2.1 rfl
  exact I.step (ch := ch) hch (fun b o hL hb hc e n => u.keep b o e n (fun z => (List.mem_cons.mp (I.stkSub b z)).elim hL hb) hc) (fun b o _ _ hc e n => u.any e n hc) (fun b o hc e n => u.free b o e n hc) (fun b o hc e => u.there b o e hc) u.tups u.frzs u.tbls (fun m' hm => by
    obtain ⟨o', es', ep', ho', r'⟩ := hm
    rw [ho] at ho'; cases ho'
    exact ⟨_, es', ep', hL, r'⟩) hok hg
theorem Inv.turned {t' : Nat} {it : Addr} (I : Inv X pins σ H s) (k : ∀ b o, b ≠ it → s.heap.get? b = some o → h'.get? b = some o) (hn : H it = none) (hL : it ≠ X.env.locals)
    (h1 : it ∈ X.ex ∨ X.s₀.heap.objs.size ≤ it) (h2 : ∀ x c, X.env.cells.lookup x = some c → c ≠ it) (h3 : ∀ p ∈ X.pn ++ pins, p.1 ≠ it) : Inv X pins σ H { s with heap := h', toks := t' } := by
  have nit : ∀ b u, H b = some u → b ≠ it := fun b u e z => by rw [z, hn] at e; cases e
  refine I.step (g' := s.gens) (d' := s.drawn) (ch := [it]) (fun b hb => ?_) (fun b o _ _ hc e _ => k b o (fun z => hc (by simp [z])) e) (fun b o _ _ hc e _ => ⟨o.slots, k b o (fun z => hc (by simp [z])) e⟩) (fun _ _ _ _ n => n)
    (fun b o hc e => ⟨o, k b o (fun z => hc (by simp [z])) e⟩) (fun _ _ e => e) (fun _ _ _ e => e) (fun b ps e => ⟨#[], by rw [e]; simp⟩) (fun m hm => ?_) (fun b u e => ?_) I.bare
  · have e : b = it := by simpa using hb
    subst e
    exact ⟨h1, hL, h2, h3⟩
  · obtain ⟨o, es, ep, ho, r⟩ := hm
    exact ⟨o, es, ep, k _ o (Ne.symm hL) ho, r⟩
  · refine (I.hok b u e).stay (fun c v hc q => k c v ?_ q) (fun _ q => q) fun _ _ q => q
    rcases hc with z | z
    · rw [z]; exact nit b u e
    · exact nit c _ z
theorem Inv.tok (I : Inv X pins σ H s) (t : Nat) : Inv X pins σ H { s with toks := t } := I.un (h' := s.heap) (t' := t) Un.refl I.hok
theorem Inv.kept {t' : Nat} (I : Inv X pins σ H s) (k : ∀ b u, s.heap.get? b = some u → h'.get? b = some u) : Inv X pins σ H { s with heap := h', toks := t' } := I.un (Un.kept k) (I.hok.kept k)
theorem Inv.laid {a : Addr} {o : HO} {t' : Nat} (I : Inv X pins σ H s) (k : ∀ b u, s.heap.get? b = some u → h'.get? b = some u) (hp : s.heap.objs.size ≤ a) (new : ObjOk X.prog X.w (upd H a o) h' a o) :
    Inv X pins σ (upd H a o) { s with heap := h', toks := t' } := I.un (Un.laid k hp (I.hok.fresh hp)) (I.hok.laid k hp new)
theorem Inv.write {x e : Addr} {o : HO} {t' : Nat} (I : Inv X pins σ H s) (mu : Mut (H x)) (he : e = x ∨ H e = some (.own x)) (k : ∀ b u, b ≠ e → s.heap.get? b = some u → h'.get? b = some u) (heo : ∃ u, h'.get? e = some u)
    (new : ObjOk X.prog X.w (upd H x o) h' x o) : Inv X pins σ (upd H x o) { s with heap := h', toks := t' } := I.un (Un.write mu he k heo) (I.hok.write mu he k heo new)
theorem Inv.pins_of {pins' : List (Addr × Obj)} (I : Inv X pins σ H s) (h : ∀ p ∈ pins', s.heap.get? p.1 = some p.2 ∧ H p.1 = none ∧ p.1 ≠ X.env.locals ∧ p.1 ∉ X.fs ∧ ∀ v, p.2.data ≠ .cell v) : Inv X pins' σ H s :=
  ⟨I.ok, I.os, I.bare, I.base, I.loc, I.cell, I.free, I.freeC, fun p hp => (List.mem_append.mp hp).elim (fun z => I.pin p (List.mem_append_left _ z)) (h p), I.hok, I.len⟩
theorem nodup_ix {N : List Str} (hN : N.Nodup) {i j : Nat} {x : Str} (a : N[i]? = some x) (b : N[j]? = some x) : i = j := by
  obtain ⟨h1, e1⟩ := List.getElem?_eq_some_iff.mp a
  obtain ⟨h2, e2⟩ := List.getElem?_eq_some_iff.mp b
  exact (List.getElem_inj hN).mp (e1.trans e2.symm)
theorem store_ok2 {M : Model} {A : Around} {E : Value → Shared → Prop} {i : Nat} {x : Str} {v : V} {u : Value} {Q : Unit → Shared → Prop} (I : Inv X pins σ H s) (hN : X.N.Nodup) (hi : X.N[i]? = some x) (hx : Loc X.env.scope x) (r : RelV v u)
    (h : ∀ s', Inv X pins (σ.set i (some v)) H s' → (∃ a, Heap.SameBut a s.heap s'.heap ∧ (a = X.env.locals ∨ X.env.cells.lookup x = some a)) → Q () s') (hf : X.fn x = true ∨ X.env.scope.names.lookup x = some .local := by first | exact .inl rfl | exact .inr rfl | assumption) : wpAny M A (storeName X.env x u) Q E s := by
  obtain ⟨m, hn, hl⟩ := id I.loc
  have hcls : (X.env.scope.kind == .class || (X.env.scope.kind == .module && X.env.locals != X.env.globals)) = false := by rw [I.ok.kind]; rfl
  have hiσ : i < σ.length := by rw [I.len]; exact (List.getElem?_eq_some_iff.mp hi).1
  have cne := I.cne
  have tracked : ∀ {a : Addr} {h' : Heap}, (∃ o, s.heap.get? a = some o ∧ H a = none) → Heap.SameBut a s.heap h' → HOk X.prog X.w H h' := fun {a h'} ha hs b ob e => by
    obtain ⟨_, _, hfree⟩ := ha
    refine (I.hok b ob e).stay (fun c w' hc q => (hs.2 c ?_).trans q) (fun _ q => q) fun _ _ q => q
    rintro rfl
    rcases hc with rfl | hc
    · rw [hfree] at e; cases e
    · rw [hfree] at hc; cases hc
  rcases hx with hk | hk
  · refine wpAny_storeName_local hk hn (fun h' hn' hs => ?_) hcls
    obtain ⟨oL, _, _, hoL, _⟩ := id hn
    refine h _ ⟨I.ok, I.os, I.bare, ⟨fun b o e n hb hx => ?_, fun b o e n hb hx => ?_, I.base.free, fun b o e hx => ?_, I.base.tups, I.base.frzs, I.base.tbls⟩, ⟨_, hn', fun j y v' e1 e2 e3 => ?_⟩, fun y c e => ?_, I.free, I.freeC, fun p hp => ?_, tracked ⟨oL, hoL, I.free⟩ hs, by simpa using I.len⟩ ⟨_, hs, .inl rfl⟩
    · exact (hs.2 b (Nat.ne_of_lt (Nat.lt_of_lt_of_le (Heap.lt_size e) I.ok.above))).trans (I.base.keep b o e n hb hx)
    · obtain ⟨sl, e1⟩ := I.base.slot b o e n hb hx
      exact ⟨sl, (hs.2 b (Nat.ne_of_lt (Nat.lt_of_lt_of_le (Heap.lt_size e) I.ok.above))).trans e1⟩
    · obtain ⟨o', e1⟩ := I.base.there b o e hx
      exact ⟨o', (hs.2 b (Nat.ne_of_lt (Nat.lt_of_lt_of_le (Heap.lt_size e) I.ok.above))).trans e1⟩
    · by_cases hj : j = i
      · subst hj
        rw [hi] at e1; cases e1
        rw [List.getElem?_set_self hiσ] at e2
        cases e2
        exact ⟨u, r, .inl ⟨hk, by simp⟩⟩
      · rw [List.getElem?_set_ne (Ne.symm hj)] at e2
        obtain ⟨u', r', q⟩ := hl j y v' e1 e2 e3
        refine ⟨u', r', ?_⟩
        rcases q with ⟨k, e⟩ | ⟨k, c, e, z⟩
        · refine .inl ⟨k, ?_⟩
          have : y ≠ x := fun e => hj (nodup_ix hN e1 (e ▸ hi))
          simp [this, e]
        · exact .inr ⟨k, c, e, z.sameBut hs (cne y c e)⟩
    · obtain ⟨w', z⟩ := I.cell y c e
      exact ⟨w', z.sameBut hs (cne y c e)⟩
    · obtain ⟨e, n, ne, nf, d⟩ := I.pin p hp
      exact ⟨(hs.2 p.1 ne).trans e, n, ne, nf, d⟩
  · have hfn : X.fn x = true := by
      rcases hf with z | z
      · exact z
      · rw [z] at hk; cases hk
    obtain ⟨c, hc⟩ := I.ok.has x (.inl hk)
    obtain ⟨w', z⟩ := I.cell x c hc
    refine wpAny_storeName_cell I.ok.kind hk hc z (fun h' hc' hs => ?_)
    obtain ⟨oc, hoc, hocd⟩ := id z
    refine h { s with heap := h' } ⟨I.ok, I.os, I.bare, ⟨fun b o e n hb hx => ?_, fun b o e n hb hx => ?_, I.base.free, fun b o e hx => ?_, I.base.tups, I.base.frzs, I.base.tbls⟩, ⟨m, hn.sameBut hs (Ne.symm (cne x c hc)), fun j y v' e1 e2 e3 => ?_⟩, fun y c' e => ?_, I.free, I.freeC, fun p hp => ?_, tracked ⟨oc, hoc, I.freeC x c hc⟩ hs, by simpa using I.len⟩ ⟨c, hs, .inr hc⟩
    · exact (hs.2 b (Nat.ne_of_lt (Nat.lt_of_lt_of_le (Heap.lt_size e) (I.ok.cab x c hfn hc)))).trans (I.base.keep b o e n hb hx)
    · obtain ⟨sl, e1⟩ := I.base.slot b o e n hb hx
      exact ⟨sl, (hs.2 b (Nat.ne_of_lt (Nat.lt_of_lt_of_le (Heap.lt_size e) (I.ok.cab x c hfn hc)))).trans e1⟩
    · obtain ⟨o', e1⟩ := I.base.there b o e hx
      exact ⟨o', (hs.2 b (Nat.ne_of_lt (Nat.lt_of_lt_of_le (Heap.lt_size e) (I.ok.cab x c hfn hc)))).trans e1⟩
    · by_cases hj : j = i
      · subst hj
        rw [hi] at e1; cases e1
        rw [List.getElem?_set_self hiσ] at e2
        cases e2
        exact ⟨u, r, .inr ⟨.inl hk, c, hc, hc'⟩⟩
      · rw [List.getElem?_set_ne (Ne.symm hj)] at e2
        obtain ⟨u', r', q⟩ := hl j y v' e1 e2 e3
        refine ⟨u', r', ?_⟩
        rcases q with q | ⟨k, c', e, z'⟩
        · exact .inl q
        · refine .inr ⟨k, c', e, z'.sameBut hs ?_⟩
          rintro rfl
          exact hj (nodup_ix hN e1 (I.ok.inj _ _ _ e hc ▸ hi))
    · by_cases hcc : c' = c
      · subst hcc; exact ⟨_, hc'⟩
      · obtain ⟨w2, z2⟩ := I.cell y c' e
        exact ⟨w2, z2.sameBut hs hcc⟩
    · obtain ⟨e, n, ne, nf, d⟩ := I.pin p hp
      refine ⟨(hs.2 p.1 ?_).trans e, n, ne, nf, d⟩
      intro q
      rw [q, hoc] at e
      have q' : oc = p.2 := Option.some.inj e
      exact d w' (by rw [← q']; exact hocd)
theorem store_ok {M : Model} {A : Around} {E : Value → Shared → Prop} {i : Nat} {x : Str} {v : V} {u : Value} {Q : Unit → Shared → Prop} (I : Inv X pins σ H s) (hN : X.N.Nodup) (hi : X.N[i]? = some x) (hx : Loc X.env.scope x) (r : RelV v u)
    (h : ∀ s', Inv X pins (σ.set i (some v)) H s' → Q () s') (hf : X.fn x = true ∨ X.env.scope.names.lookup x = some .local := by first | exact .inl rfl | exact .inr rfl | assumption) : wpAny M A (storeName X.env x u) Q E s :=
  store_ok2 I hN hi hx r (fun s' I' _ => h s' I') hf
theorem Inv.call' {s' : Shared} {ch : List Addr} (I : Inv X pins σ H s) (ho : s'.os = s.os) (u : Un (frs X.stack) ch H H' s.heap s'.heap) (hok : HOk X.prog X.w H' s'.heap) (hg : AllBare s'.gens)
    (hch : ∀ b ∈ ch, (b ∈ X.ex ∨ X.s₀.heap.objs.size ≤ b) ∧ b ≠ X.env.locals ∧ (∀ x c, X.env.cells.lookup x = some c → c ≠ b) ∧ ∀ p ∈ X.pn ++ pins, p.1 ≠ b) : Inv X pins σ H' s' := by
  obtain ⟨h', g', d', t', o'⟩ := s'
  have e : o' = s.os := ho
  subst e
  exact I.call (g' := g') (t' := t') (d' := d') u hok hg hch
end
noncomputable abbrev XK := Value → Option Addr → Hp → Prop
noncomputable abbrev St := List (Option V)
noncomputable abbrev VK := V → Hp → Prop
noncomputable abbrev TE := St → Hp → VK → Prop
noncomputable abbrev TT := St → Hp → (Bool → Hp → Prop) → Prop
noncomputable abbrev TA := St → Hp → (List V → Hp → Prop) → Prop
structure Ends where
  nx : St → Hp → Prop
  rt : VK
  bk : St → Hp → Prop := fun _ _ => False
  ct : St → Hp → Prop := fun _ _ => False
noncomputable abbrev TS := Ends → St → Hp → Prop
noncomputable def EP (X : Cx) (pins : List (Addr × Obj)) (σ : St) (Q : VK) (u : Value) (s' : Shared) : Prop := ∃ v H', Inv X pins σ H' s' ∧ RelV v u ∧ Q v H'
noncomputable def TP (X : Cx) (pins : List (Addr × Obj)) (σ : St) (Q : Bool → Hp → Prop) (b : Bool) (s' : Shared) : Prop := ∃ H', Inv X pins σ H' s' ∧ Q b H'
noncomputable def AP (X : Cx) (pins : List (Addr × Obj)) (σ : St) (Q : List V → Hp → Prop) (us : List Value) (s' : Shared) : Prop := ∃ vs H', Inv X pins σ H' s' ∧ Vals vs us ∧ Q vs H'
noncomputable def SP (X : Cx) (pins : List (Addr × Obj)) (D : Ends) (f : Flow) (s' : Shared) : Prop :=
  match f with
  | .next => ∃ σ' H', Inv X pins σ' H' s' ∧ D.nx σ' H'
  | .brk => ∃ σ' H', Inv X pins σ' H' s' ∧ D.bk σ' H'
  | .cont => ∃ σ' H', Inv X pins σ' H' s' ∧ D.ct σ' H'
  | .ret u => ∃ v σ' H', Inv X pins σ' H' s' ∧ RelV v u ∧ D.rt v H'
noncomputable def PE (X : Cx) (e : Expr) (t : TE) : Prop :=
  ∀ (pins : List (Addr × Obj)) (s : Shared) (σ : St) (H : Hp) (Q : VK), Inv X pins σ H s → t σ H Q → wpAny (model X.prog X.w) X.A (eval e X.env) (EP X pins σ Q) X.xe s
noncomputable def PT (X : Cx) (e : Expr) (t : TT) : Prop :=
  ∀ (pins : List (Addr × Obj)) (s : Shared) (σ : St) (H : Hp) (Q : Bool → Hp → Prop), Inv X pins σ H s → t σ H Q → wpAny (model X.prog X.w) X.A (isTrue e X.env (eval e X.env)) (TP X pins σ Q) X.xe s
noncomputable def PW (X : Cx) (e : Expr) (t : TT) : Prop :=
  ∀ (whole : Sem Value) (pins : List (Addr × Obj)) (s : Shared) (σ : St) (H : Hp) (Q : Bool → Hp → Prop), Inv X pins σ H s → t σ H Q → wpAny (model X.prog X.w) X.A (isTrue e X.env whole) (TP X pins σ Q) X.xe s
theorem PW.pt {X : Cx} {e : Expr} {t : TT} (h : PW X e t) : PT X e t := h _
noncomputable def PA (X : Cx) (es : List Expr) (t : TA) : Prop :=
  ∀ (pos : Pos) (pins : List (Addr × Obj)) (s : Shared) (σ : St) (H : Hp) (Q : List V → Hp → Prop), Inv X pins σ H s → t σ H Q → wpAny (model X.prog X.w) X.A (spliced (backTo pos (starEach es X.env))) (AP X pins σ Q) X.xe s
noncomputable def PS (X : Cx) (st : Stmt) (t : TS) : Prop :=
  ∀ (pins : List (Addr × Obj)) (s : Shared) (σ : St) (H : Hp) (D : Ends), Inv X pins σ H s → t D σ H → wpAny (model X.prog X.w) X.A (exec st X.env) (SP X pins D) X.xe s
noncomputable def PSs (X : Cx) (st : List Stmt) (t : TS) : Prop :=
  ∀ (pins : List (Addr × Obj)) (s : Shared) (σ : St) (H : Hp) (D : Ends), Inv X pins σ H s → t D σ H → wpAny (model X.prog X.w) X.A (execs st X.env) (SP X pins D) X.xe s
theorem thn {α : Type} {t : Sem α} {Q Q' : α → Shared → Prop} {M : Model} {A : Around} {E : Value → Shared → Prop} {s : Shared} (h : wpAny M A t Q E s) (hQ : ∀ a s, Q a s → Q' a s) : wpAny M A t Q' E s := wpAny_mono h hQ fun _ _ x => x
end L2
namespace L2
open PySem PySem.Spec PyProof.Rows
section
variable {X : Cx}
noncomputable def tVar (i : Nat) : TE := fun σ H Q => ∃ v, σ[i]? = some (some v) ∧ Q v H
noncomputable def tC (v : V) : TE := fun _ H Q => Q v H
theorem pe_var {i : Nat} {x : Str} {pos : Pos} (hN : X.N[i]? = some x) (hv : Vis X.env.scope x) (hd : (x == ("__debug__" : Str)) = false := by decide) (hcd : (x == ("__classdict__" : Str)) = false := by decide) : PE X (.Name x pos) (tVar i) := by
  intro pins s σ H Q I h
  obtain ⟨v, e, h⟩ := h
  obtain ⟨m, hn, hl⟩ := I.loc
  obtain ⟨u, r, l⟩ := hl i x v hN e hv
  have fin : EP X pins σ Q u s := ⟨v, H, I, r, h⟩
  rcases l with ⟨hk, hm⟩ | ⟨hk, c, hc, hcell⟩
  · exact wpAny_Name (wpAny_loadName_local I.ok.kind hk hn hm fin) hd
  · rcases hk with hk | hk
    · exact wpAny_Name (wpAny_loadName_cell I.ok.kind hk hc hcell fin) hd
    · exact wpAny_Name (wpAny_loadName_free I.ok.kind hk hc hcell fin hcd) hd
theorem pe_int {i j pos} : PE X (.Constant (.int i) j pos) (tC (.int i)) := fun _ _ _ H _ I h => wpAny_Constant_int ⟨.int i, H, I.tok _, ⟨_, rfl⟩, h⟩
theorem pe_bl {b j pos} : PE X (.Constant (.bool b) j pos) (tC (.bl b)) := fun _ _ _ H _ I h => Constant_bool ⟨.bl b, H, I, rfl, h⟩
theorem pe_non {j pos} : PE X (.Constant .none j pos) (tC .non) := fun _ _ _ H _ I h => Constant_none ⟨.non, H, I, rfl, h⟩
theorem pe_str {x j pos} : PE X (.Constant (.str x) j pos) (tC (.str x)) := fun _ _ _ H _ I h => Calls.Constant_str ⟨.str x, H, I.tok _, ⟨_, rfl⟩, h⟩
noncomputable def Gl (X : Cx) (x : Str) : Prop := X.env.kindOf x = some .globalImplicit
theorem ld_glob {E : Value → Shared → Prop} {pins : List (Addr × Obj)} {s : Shared} {σ : St} {H : Hp} {x : Str} {u : Value} {pos : Pos} {Q : Value → Shared → Prop} (I : Inv X pins σ H s) (hg : Gl X x) (hm : X.mg x = some u) (h : Q u s)
    (hd : (x == ("__debug__" : Str)) = false := by decide) : wpAny (model X.prog X.w) X.A (eval (.Name x pos) X.env) Q E s :=
  Calls.Name_function_global I.ok.kind hg (Calls.loadGlobal_global (by rw [I.ok.glob]; exact I.mod.glob.keeps I.bk) hm h) hd
theorem ld_blt {E : Value → Shared → Prop} {pins : List (Addr × Obj)} {s : Shared} {σ : St} {H : Hp} {x : Str} {u : Value} {pos : Pos} {Q : Value → Shared → Prop} (I : Inv X pins σ H s) (hg : Gl X x) (hm : X.mg x = none) (hv : bootBuiltins x = some u) (h : Q u s)
    (hn : x ≠ "__name__" := by decide) (hd : (x == ("__debug__" : Str)) = false := by decide) : wpAny (model X.prog X.w) X.A (eval (.Name x pos) X.env) Q E s := by
  obtain ⟨mb, h1, h2⟩ := I.mod.blt
  exact Calls.Name_function_global I.ok.kind hg (Calls.loadGlobal_builtin (by rw [I.ok.glob]; exact I.mod.glob.keeps I.bk) hm (by rw [I.ok.blt]; exact h1.keeps I.bk) ((h2 x hn).trans hv) h) hd
theorem pe_bltn {x : Str} {v : V} {u : Value} {pos : Pos} (hg : Gl X x) (hm : X.mg x = none) (hv : bootBuiltins x = some u) (r : RelV v u) (hn : x ≠ "__name__" := by decide) (hd : (x == ("__debug__" : Str)) = false := by decide) : PE X (.Name x pos) (tC v) :=
  fun _ _ _ H _ I h => ld_blt I hg hm hv ⟨v, H, I, r, h⟩ hn hd
variable {a b : Expr} {ta tb : TE} {pos : Pos}
noncomputable def tB (t : TE) : TT := fun σ H Q => t σ H fun x H1 => ∃ c, x = .bl c ∧ Q c H1
theorem pt_val {e : Expr} {t : TE} (h : PE X e t) (he : ∀ whole, isTrue e X.env whole = (do let v ← whole; standAt e.pos; holding [v] (truthy v)) := by intro _; rfl) : PT X e (tB t) := by
  intro pins s σ H Q I hw
  refine isTrue_plain (thn (h pins s σ H _ I hw) fun v s1 ⟨x, H1, I1, r1, q1⟩ => ?_) (he _)
  obtain ⟨d, rfl, q⟩ := q1
  cases r1
  exact wpAny_truthy_bool ⟨H1, I1, q⟩
variable {tA tB' : TT} {rest : List Expr}
noncomputable def tAnd (t u : TT) : TT := fun σ H Q => t σ H fun c H1 => if c = true then u σ H1 Q else Q false H1
noncomputable def tOr (t u : TT) : TT := fun σ H Q => t σ H fun c H1 => if c = true then Q true H1 else u σ H1 Q
noncomputable def tNot (t : TT) : TT := fun σ H Q => t σ H fun c H1 => Q (!c) H1
theorem pw_and1 (ha : PT X a tA) : PW X (.BoolOp .And [a] pos) tA := by
  intro wh pins s σ H Q I h
  refine isTrue_and (thn (ha pins s σ H Q I h) fun c s1 e => ?_)
  cases c with
  | true => exact isTrue_and_nil e
  | false => exact e
theorem pw_or1 (ha : PT X a tA) : PW X (.BoolOp .Or [a] pos) tA := by
  intro wh pins s σ H Q I h
  refine isTrue_or (thn (ha pins s σ H Q I h) fun c s1 e => ?_)
  cases c with
  | false => exact isTrue_or_nil e
  | true => exact e
theorem pw_and (ha : PT X a tA) (hb : PW X (.BoolOp .And (b :: rest) pos) tB') : PW X (.BoolOp .And (a :: b :: rest) pos) (tAnd tA tB') := by
  intro wh pins s σ H Q I h
  refine isTrue_and (thn (ha pins s σ H _ I h) fun c s1 ⟨H1, I1, q1⟩ => ?_)
  cases c with
  | true => exact hb wh pins s1 σ H1 Q I1 q1
  | false => exact ⟨H1, I1, q1⟩
theorem pw_or (ha : PT X a tA) (hb : PW X (.BoolOp .Or (b :: rest) pos) tB') : PW X (.BoolOp .Or (a :: b :: rest) pos) (tOr tA tB') := by
  intro wh pins s σ H Q I h
  refine isTrue_or (thn (ha pins s σ H _ I h) fun c s1 ⟨H1, I1, q1⟩ => ?_)
  cases c with
  | true => exact ⟨H1, I1, q1⟩
  | false => exact hb wh pins s1 σ H1 Q I1 q1
theorem pt_not (ha : PT X a tA) : PT X (.UnaryOp .Not a pos) (tNot tA) := by
  intro pins s σ H Q I h
  exact isTrue_not (ha pins s σ H (fun c H1 => Q (!c) H1) I h)
noncomputable def tAndV (ta tb : TE) : TE := fun σ H Q => ta σ H fun x H1 => ∃ c, x = .bl c ∧ if c = true then tb σ H1 Q else Q (.bl false) H1
noncomputable def tNotV (ta : TE) : TE := fun σ H Q => ta σ H fun x H1 => ∃ c, x = .bl c ∧ Q (.bl (!c)) H1
theorem pe_one {op} {t : TE} (h : PE X a t) : PE X (.BoolOp op [a] pos) t := fun pins s σ H Q I hw => BoolOp_one (h pins s σ H Q I hw)
theorem pe_and (ha : PE X a ta) (hb : PE X (.BoolOp .And (b :: rest) pos) tb) : PE X (.BoolOp .And (a :: b :: rest) pos) (tAndV ta tb) := by
  intro pins s σ H Q I h
  refine BoolOp_and (thn (ha pins s σ H _ I h) fun v s1 ⟨x, H1, I1, r1, q1⟩ => ?_)
  obtain ⟨c, rfl, q1⟩ := q1
  cases r1
  refine wpAny_truthy_bool ?_
  cases c with
  | true => exact hb pins s1 σ H1 Q I1 q1
  | false => exact ⟨.bl false, H1, I1, rfl, q1⟩
theorem pe_not (ha : PE X a ta) : PE X (.UnaryOp .Not a pos) (tNotV ta) := by
  intro pins s σ H Q I h
  refine UnaryOp_ (thn (ha pins s σ H _ I h) fun v s1 ⟨x, H1, I1, r1, q1⟩ => ?_)
  obtain ⟨c, rfl, q1⟩ := q1
  cases r1
  exact not_of (wpAny_truthy_bool ⟨.bl (!c), H1, I1, rfl, q1⟩)
noncomputable def tIf (t : TT) (ta tb : TE) : TE := fun σ H Q => t σ H fun c H1 => if c = true then ta σ H1 Q else tb σ H1 Q
theorem pe_ifExp {c : Expr} (hc : PT X c tA) (ha : PE X a ta) (hb : PE X b tb) : PE X (.IfExp c a b pos) (tIf tA ta tb) := by
  intro pins s σ H Q I h
  refine wpAny_IfExp (thn (hc pins s σ H _ I h) fun d s1 ⟨H1, I1, q1⟩ => ?_)
  cases d with
  | true => exact ha pins s1 σ H1 Q I1 q1
  | false => exact hb pins s1 σ H1 Q I1 q1
end
end L2
namespace L2
open PySem PySem.Spec PyProof.Rows
noncomputable def SqL (K : PySem.W.Frag) (H : Hp) (a : Addr) (xs : List V) : Prop :=
  Rd H a (.lst xs) ∨
    ∃ (o : Obj) (its : Array Value) (n : Nat), K.lookup a = some o ∧ o.cls = .type "list" ∧ o.dict = none ∧ o.data = .seq its n ∧ its.size ≤ sizeLine ∧ Vals xs its.toList
noncomputable def SqT (K : PySem.W.Frag) (H : Hp) (a : Addr) (xs : List V) : Prop :=
  Rd H a (.tup xs) ∨
    ∃ (o : Obj) (its : Array Value) (n : Nat), K.lookup a = some o ∧ o.cls = .type "tuple" ∧ o.data = .seq its n ∧ its.size ≤ sizeLine ∧ Vals xs its.toList
noncomputable def absV : Value → Option V
  | .none => some .non
  | .bool b => some (.bl b)
  | .int i _ => some (.int i)
  | .str x _ => some (.str x)
  | .bytes b _ => some (.byt b)
  | .float b _ => some (.flt b)
  | .ref a => some (.ref a)
  | .type n => some (.ty n)
  | _ => none
theorem RelV.abs {x : V} {u : Value} (r : RelV x u) : absV u = some x := by
  cases x with
  | non => cases r; rfl
  | bl _ => cases r; rfl
  | int _ => obtain ⟨t, rfl⟩ := r; rfl
  | str _ => obtain ⟨t, rfl⟩ := r; rfl
  | byt _ => obtain ⟨t, rfl⟩ := r; rfl
  | flt _ => obtain ⟨t, rfl⟩ := r; rfl
  | ref _ => cases r; rfl
  | ty _ => cases r; rfl
theorem RelV.inj {x y : V} {u : Value} (r : RelV x u) (q : RelV y u) : x = y := Option.some.inj (r.abs.symm.trans q.abs)
theorem Vals.inj : ∀ {xs ys : List V} {us : List Value}, Vals xs us → Vals ys us → xs = ys
  | _, _, _, .nil, .nil => rfl
  | _, _, _, .cons r t, .cons r' t' => by rw [r.inj r', Vals.inj t t']
section
variable {X : Cx} {pins : List (Addr × Obj)} {σ : St} {H : Hp} {s : Shared} {a : Addr} {xs ys : List V}
theorem SqL.of {K : PySem.W.Frag} (h : H a = some (.lst xs)) : SqL K H a xs := .inl (.inl h)
theorem SqT.of {K : PySem.W.Frag} (h : H a = some (.tup xs)) : SqT K H a xs := .inl (.inl h)
theorem Inv.list (I : Inv X pins σ H s) (h : SqL X.K H a xs) : ∃ its : List Value, Vals xs its ∧ PlainL s.heap a its.toArray ∧ xs.length ≤ sizeLine := by
  rcases h with h | ⟨o, its, n, hk, hc, hd, hs, hz, r⟩
  · obtain ⟨z, its, n, r, e⟩ := h.ok I.hok
    exact ⟨its, r, ⟨_, n, e, rfl, rfl, rfl⟩, z⟩
  · refine ⟨its.toList, r, ⟨o, n, I.kIn a o hk, hc, hd, by simpa using hs⟩, ?_⟩
    have e := r.length
    simp only [Array.length_toList] at e
    omega
theorem Inv.tuple (I : Inv X pins σ H s) (h : SqT X.K H a xs) : ∃ its : List Value, Vals xs its ∧ IsTup s.heap a its.toArray ∧ xs.length ≤ sizeLine := by
  rcases h with h | ⟨o, its, n, hk, hc, hs, hz, r⟩
  · obtain ⟨z, its, r, p⟩ := h.ok I.hok
    exact ⟨its, r, p, z⟩
  · refine ⟨its.toList, r, ⟨o, I.kIn a o hk, hc, n, by simpa using hs⟩, ?_⟩
    have e := r.length
    simp only [Array.length_toList] at e
    omega
theorem Inv.list_inj (I : Inv X pins σ H s) (h : SqL X.K H a xs) (h' : SqL X.K H a ys) : xs = ys := by
  obtain ⟨its, r, ⟨o, n, e, _, _, d⟩, _⟩ := I.list h
  obtain ⟨its', r', ⟨o', n', e', _, _, d'⟩, _⟩ := I.list h'
  rw [e] at e'; cases e'
  rw [d] at d'
  injection d' with d1 _
  have : its = its' := by simpa using congrArg Array.toList d1
  subst this
  exact r.inj r'
theorem Inv.tuple_inj (I : Inv X pins σ H s) (h : SqT X.K H a xs) (h' : SqT X.K H a ys) : xs = ys := by
  obtain ⟨its, r, ⟨o, e, _, n, d⟩, _⟩ := I.tuple h
  obtain ⟨its', r', ⟨o', e', _, n', d'⟩, _⟩ := I.tuple h'
  rw [e] at e'; cases e'
  rw [d] at d'
  injection d' with d1 _
  have : its = its' := by simpa using congrArg Array.toList d1
  subst this
  exact r.inj r'
end
noncomputable abbrev Cx.wish (X : Cx) (E : Value → Shared → Prop) : Cx := { X with xe := E }
noncomputable abbrev Cx.nox (X : Cx) : Cx := X.wish fun _ _ => False
theorem Cx.Ok.wish {X : Cx} (ok : X.Ok) (E : Value → Shared → Prop) : (X.wish E).Ok :=
  ⟨ok.mod, ok.kind, ok.glob, ok.blt, ok.above, ok.inj, ok.has, ok.cab, ok.hd, ok.frames, ok.stk, ok.exf, ok.bs, ok.bsz, ok.noex, ok.exfs, ok.funs, ok.frf⟩
theorem Cx.Ok.unwish {X : Cx} {E : Value → Shared → Prop} (ok : (X.wish E).Ok) : X.Ok :=
  ⟨ok.mod, ok.kind, ok.glob, ok.blt, ok.above, ok.inj, ok.has, ok.cab, ok.hd, ok.frames, ok.stk, ok.exf, ok.bs, ok.bsz, ok.noex, ok.exfs, ok.funs, ok.frf⟩
section
variable {X : Cx} {pins : List (Addr × Obj)} {σ : St} {H : Hp} {s : Shared} {E : Value → Shared → Prop}
theorem Inv.wish (I : Inv X pins σ H s) (E : Value → Shared → Prop) : Inv (X.wish E) pins σ H s := ⟨I.ok.wish E, I.os, I.bare, I.base, I.loc, I.cell, I.free, I.freeC, I.pin, I.hok, I.len⟩
theorem Inv.unwish (I : Inv (X.wish E) pins σ H s) : Inv X pins σ H s := ⟨I.ok.unwish, I.os, I.bare, I.base, I.loc, I.cell, I.free, I.freeC, I.pin, I.hok, I.len⟩
theorem SP.unwish {D : Ends} {f : Flow} {s' : Shared} (h : SP (X.wish E) pins D f s') : SP X pins D f s' := by
  cases f with
  | next => obtain ⟨σ', H', I, q⟩ := h; exact ⟨σ', H', I.unwish, q⟩
  | brk => obtain ⟨σ', H', I, q⟩ := h; exact ⟨σ', H', I.unwish, q⟩
  | cont => obtain ⟨σ', H', I, q⟩ := h; exact ⟨σ', H', I.unwish, q⟩
  | ret u => obtain ⟨v, σ', H', I, r, q⟩ := h; exact ⟨v, σ', H', I.unwish, r, q⟩
theorem PE.nox {e : Expr} {t : TE} (h : PE X.nox e t) : PE X e t := fun pins s σ H Q I hw =>
  wpAny_mono (h pins s σ H Q (I.wish _) hw) (fun _ _ ⟨v, H', I', r, q⟩ => ⟨v, H', I'.unwish, r, q⟩) fun _ _ z => False.elim z
theorem PT.nox {e : Expr} {t : TT} (h : PT X.nox e t) : PT X e t := fun pins s σ H Q I hw =>
  wpAny_mono (h pins s σ H Q (I.wish _) hw) (fun _ _ ⟨H', I', q⟩ => ⟨H', I'.unwish, q⟩) fun _ _ z => False.elim z
theorem PSs.nox {st : List Stmt} {t : TS} (h : PSs X.nox st t) : PSs X st t := fun pins s σ H D I hw =>
  wpAny_mono (h pins s σ H D (I.wish _) hw) (fun _ _ q => q.unwish) fun _ _ z => False.elim z
end
section
variable {X : Cx} {st : Stmt} {rest : List Stmt} {t u : TS} {e : Expr} {te : TE} {pos : Pos}
noncomputable def tNext : TS := fun D σ H => D.nx σ H
noncomputable def tSeq (t u : TS) : TS := fun D σ H => t { D with nx := u D } σ H
theorem pss_nil : PSs X [] tNext := fun _ _ σ H _ I h => wpAny_execs_nil ⟨σ, H, I, h⟩
theorem pss_cons (h1 : PS X st t) (h2 : PSs X rest u) : PSs X (st :: rest) (tSeq t u) := by
  intro pins s σ H D I h
  refine wpAny_execs_cons (thn (h1 pins s σ H { D with nx := u D } I h) fun f s1 q => ?_)
  cases f with
  | next =>
    obtain ⟨σ', H', I', q⟩ := q
    exact h2 pins s1 σ' H' D I' q
  | ret v => exact q
  | brk => exact q
  | cont => exact q
theorem pss_one (h1 : PS X st t) : PSs X [st] t := by
  intro pins s σ H D I h
  refine wpAny_execs_cons (thn (h1 pins s σ H D I h) fun f s1 q => ?_)
  cases f with
  | next => exact wpAny_execs_nil q
  | ret v => exact q
  | brk => exact q
  | cont => exact q
theorem Inv.quiet {pins : List (Addr × Obj)} {σ : St} {H : Hp} {s : Shared} (I : Inv X pins σ H s) : interactive X.env = false := by simp [interactive, I.ok.kind]
noncomputable def tDrop (te : TE) : TS := fun D σ H => te σ H fun _ H1 => D.nx σ H1
theorem ps_expr (he : PE X e te) (hs : swapsWith e none pos.line X.env = pure false := by rfl) : PS X (.Expr e pos) (tDrop te) := by
  intro pins s σ H D I h
  exact wpAny_Expr_any (thn (he pins s σ H _ I h) fun v s1 ⟨x, H1, I1, r1, q1⟩ => ⟨σ, H1, I1, q1⟩) I.quiet hs
noncomputable def tRet (te : TE) : TS := fun D σ H => te σ H D.rt
theorem ps_ret (he : PE X e te) : PS X (.Return (some e) pos) (tRet te) := by
  intro pins s σ H D I h
  exact wpAny_Return_some (thn (he pins s σ H _ I h) fun v s1 ⟨x, H1, I1, r1, q1⟩ => ⟨x, σ, H1, I1, r1, q1⟩)
noncomputable def tIfS (c : TT) (t u : TS) : TS := fun D σ H => c σ H fun b H1 => if b = true then t D σ H1 else u D σ H1
theorem ps_if {c : Expr} {a b : List Stmt} {tc : TT} (hc : PT X c tc) (ha : PSs X a t) (hb : PSs X b u) : PS X (.If c a b pos) (tIfS tc t u) := by
  intro pins s σ H D I h
  refine wpAny_If (thn (hc pins s σ H _ I h) fun d s1 ⟨H1, I1, q1⟩ => ?_)
  cases d with
  | true => exact ha pins s1 σ H1 D I1 q1
  | false => exact hb pins s1 σ H1 D I1 q1
end
noncomputable abbrev TG := V → St → Hp → (St → Hp → Prop) → Prop
noncomputable abbrev TGs := List V → St → Hp → (St → Hp → Prop) → Prop
noncomputable def PG (X : Cx) (target : Expr) (t : TG) : Prop :=
  ∀ (pins : List (Addr × Obj)) (s : Shared) (σ : St) (H : Hp) (v : V) (u : Value) (Q : St → Hp → Prop), Inv X pins σ H s → RelV v u → t v σ H Q →
    wpAny (model X.prog X.w) X.A (assign target X.env u) (fun _ s' => ∃ σ' H', Inv X pins σ' H' s' ∧ Q σ' H') X.xe s
noncomputable def PGs (X : Cx) (ts : List Expr) (t : TGs) : Prop :=
  ∀ (pins : List (Addr × Obj)) (s : Shared) (σ : St) (H : Hp) (vs : List V) (us : List Value) (Q : St → Hp → Prop), Inv X pins σ H s → Vals vs us → t vs σ H Q →
    wpAny (model X.prog X.w) X.A (assignInOrder ((assignEach ts X.env).map (·.2)) us) (fun _ s' => ∃ σ' H', Inv X pins σ' H' s' ∧ Q σ' H') X.xe s
section
variable {X : Cx} {pos : Pos}
noncomputable def gName (i : Nat) : TG := fun v σ H Q => Q (σ.set i (some v)) H
theorem pg_name {i : Nat} {x : Str} (hN : X.N.Nodup) (hi : X.N[i]? = some x) (hx : Loc X.env.scope x) (hf : X.fn x = true ∨ X.env.scope.names.lookup x = some .local := by first | exact .inl rfl | exact .inr rfl | assumption) : PG X (.Name x pos) (gName i) := by
  intro pins s σ H v u Q I r h
  exact wpAny_assign_Name (store_ok I hN hi hx r (fun s' I' => ⟨_, H, I', h⟩) hf)
noncomputable def gNil : TGs := fun vs σ H Q => vs = [] ∧ Q σ H
noncomputable def gCons (t : TG) (u : TGs) : TGs := fun vs σ H Q => ∃ v r, vs = v :: r ∧ t v σ H fun σ' H' => u r σ' H' Q
theorem pgs_nil : PGs X [] gNil := by
  intro pins s σ H vs us Q I r h
  obtain ⟨e, h⟩ := h
  subst e
  cases r
  exact assignInOrder_nil ⟨σ, H, I, h⟩
theorem pgs_cons {e : Expr} {es : List Expr} {t : TG} {u : TGs} (h1 : PG X e t) (h2 : PGs X es u)
    (hs : (assignEach (e :: es) X.env).map (·.2) = assign e X.env :: (assignEach es X.env).map (·.2) := by rfl) : PGs X (e :: es) (gCons t u) := by
  intro pins s σ H vs us Q I r h
  obtain ⟨v, vr, e1, h⟩ := h
  subst e1
  cases r with
  | cons r rr =>
    rw [hs]
    refine assignInOrder_cons (thn (h1 pins s σ H _ _ _ I r h) fun _ s1 ⟨σ1, H1, I1, q1⟩ => ?_)
    exact h2 pins s1 σ1 H1 _ _ Q I1 rr q1
noncomputable def gTup (K : PySem.W.Frag) (n : Nat) (t : TGs) : TG := fun v σ H Q => ∃ a xs, v = .ref a ∧ SqT K H a xs ∧ xs.length = n ∧ t xs σ H Q
theorem pg_tup {es : List Expr} {k : Nat} {t : TGs} {n : Nat} (hc : X.calm = true) (h : PGs X es t)
    (hn : (assignEach es X.env).length = n := by rfl) (hst : (assignEach es X.env).findIdx? (·.1) = none := by rfl) : PG X (.Tuple es k pos) (gTup X.K n t) := by
  intro pins s σ H v u Q I r hw
  obtain ⟨a, xs, e1, hq, hl, hw⟩ := hw
  subst e1
  cases r
  obtain ⟨its, rv, ht, hz⟩ := I.tuple hq
  refine assign_Tuple_tuple (I.ok.hd hc) ht (by simp [hn, ← hl, rv.length]) hst fun h' hx => ?_
  have I1 : Inv X pins σ H { s with heap := h' } := I.kept (t' := s.toks) fun b o e => hx b o (Nat.ne_of_lt (Heap.lt_size e)) e
  exact h pins _ σ H xs _ Q I1 (by simpa using rv) hw
noncomputable def tAsg (te : TE) (g : TG) : TS := fun D σ H => te σ H fun x H1 => g x σ H1 D.nx
theorem ps_asg {tg e : Expr} {te : TE} {g : TG} (he : PE X e te) (hg : PG X tg g) (hs : swapsWithSole [tg] e pos.line X.env = pure false := by rfl) (hw : swappedStores [tg] e X.env = pure none := by rfl)
    (h1 : (assignEach [tg] X.env).map (·.2) = [assign tg X.env] := by rfl) : PS X (.Assign [tg] e pos) (tAsg te g) := by
  intro pins s σ H D I h
  refine wpAny_Assign_stores (thn (he pins s σ H _ I h) fun v s1 ⟨x, H1, I1, r1, q1⟩ => ?_) hs hw
  rw [h1]
  exact thn (hg pins s1 σ H1 x v _ I1 r1 q1) fun _ s2 q => q
theorem ps_set {i : Nat} {x : Str} {e : Expr} {te : TE} {pos' : Pos} (hN : X.N.Nodup) (hi : X.N[i]? = some x) (hx : Loc X.env.scope x) (he : PE X e te) (hs : swapsWith e (some (.Name x pos')) pos.line X.env = pure false := by rfl) (hf : X.fn x = true ∨ X.env.scope.names.lookup x = some .local := by first | exact .inl rfl | exact .inr rfl | assumption) :
    PS X (.Assign [.Name x pos'] e pos) (tAsg te (gName i)) := by
  intro pins s σ H D I h
  refine wpAny_Assign_Name (thn (he pins s σ H _ I h) fun v s1 ⟨y, H1, I1, r1, q1⟩ => ?_) hs
  exact store_ok I1 hN hi hx r1 (fun s2 I2 => ⟨_, H1, I2, q1⟩) hf
end
section
variable {X : Cx} {pos : Pos}
noncomputable def tWhile (c : TT) (tb : TS) : TS := fun D σ H => ∃ W : Nat → St → Hp → Prop, (∃ m, W m σ H) ∧ ∀ m σ H, W m σ H →
  c σ H fun b H1 => if b = true then ∃ N : St → Hp → Prop, (∀ σ' H', N σ' H' → ∃ m', m' < m ∧ W m' σ' H') ∧ tb { D with nx := N, ct := N, bk := D.nx } σ H1 else D.nx σ H1
theorem ps_while {c : Expr} {body : List Stmt} {tc : TT} {tb : TS} (hp : PassesOwn (model X.prog X.w) X.A X.env X.xe) (hc : PT X c tc) (hb : PSs X body tb) : PS X (.While c body [] pos) (tWhile tc tb) := by
  intro pins s σ H D I h
  obtain ⟨W, ⟨m0, w0⟩, turn⟩ := h
  refine wpAny_While (codeAny_whileLoop (fun n s' => ∃ σ' H', Inv X pins σ' H' s' ∧ W n σ' H') ?_ m0 ⟨σ, H, I, w0⟩)
  rintro n s1 ⟨σ1, H1, I1, w1⟩
  refine wpAny_passesOwn hp (thn (hc pins s1 σ1 H1 _ I1 (turn n σ1 H1 w1)) fun b s2 ⟨H2, I2, q2⟩ => ?_)
  cases b with
  | true =>
    obtain ⟨N, hN, q2⟩ := q2
    rw [if_pos rfl]
    refine wpAny_passesOwn hp (thn (hb pins s2 σ1 H2 _ I2 q2) fun f s3 q3 => ?_)
    cases f with
    | next =>
      obtain ⟨σ3, H3, I3, n3⟩ := q3
      obtain ⟨m', hm, w3⟩ := hN σ3 H3 n3
      exact ⟨m', hm, σ3, H3, I3, w3⟩
    | cont =>
      obtain ⟨σ3, H3, I3, n3⟩ := q3
      obtain ⟨m', hm, w3⟩ := hN σ3 H3 n3
      exact ⟨m', hm, σ3, H3, I3, w3⟩
    | brk => exact q3
    | ret v => exact q3
  | false =>
    rw [if_neg Bool.false_ne_true]
    exact wpAny_execs_nil ⟨σ1, H2, I2, q2⟩
end
structure It where
  go : Nat → Hp → Prop
  yld : Nat → Hp → V → Hp → Prop
  stop : Nat → Hp → Prop
noncomputable def FpOk (X : Cx) (pins : List (Addr × Obj)) (H : Hp) (b : Addr) : Prop :=
  H b = none ∧ b ≠ X.env.locals ∧ b ∉ X.fs ∧ (b ∈ X.ex ∨ X.s₀.heap.objs.size ≤ b) ∧ (∀ x c, X.env.cells.lookup x = some c → c ≠ b) ∧ ∀ p ∈ X.pn ++ pins, p.1 ≠ b
theorem Inv.fpOk {X : Cx} {pins : List (Addr × Obj)} {σ : St} {H H' : Hp} {s : Shared} {b : Addr} (I : Inv X pins σ H s) (hb : s.heap.objs.size ≤ b) (hn : H' b = none) : FpOk X pins H' b := by
  refine ⟨hn, Nat.ne_of_gt (Nat.lt_of_lt_of_le I.lt hb), I.nofs hb, .inr (Nat.le_trans I.sz hb), fun x c e z => ?_, fun p hp z => ?_⟩
  · obtain ⟨v, q⟩ := I.cell x c e
    exact absurd (Nat.lt_of_lt_of_le q.lt (by rw [z]; exact hb)) (Nat.lt_irrefl _)
  · exact absurd (Nat.lt_of_lt_of_le (Heap.lt_size (I.pin p hp).1) (by rw [z]; exact hb)) (Nat.lt_irrefl _)
structure Turn (P : Program) (w : World) (K : PySem.W.Frag) (tg : Expr) (J : It) (fp : List Addr) (it : Addr) (tn : Nat → Heap → Prop) : Prop where
  mem : it ∈ fp
  obj : ∀ i h, tn i h → ∀ b ∈ fp, ∃ o, h.get? b = some o ∧ ∀ v, o.data ≠ .cell v
  keep : ∀ i h h', tn i h → (∀ b ∈ fp, ∀ o, h.get? b = some o → h'.get? b = some o) → tn i h'
  item : ∀ (X : Cx), X.prog = P → X.w = w → X.K = K → X.calm = true → ∀ (i : Nat) (pins : List (Addr × Obj)) (s : Shared) (σ : St) (H : Hp) (E : Value → Shared → Prop), Inv X pins σ H s → (∀ b ∈ fp, FpOk X pins H b) → tn i s.heap → J.go i H →
    wpAny (model P w) X.A (pyNext (.ref it)) (fun r s1 => ∃ u, r = some u ∧
      wpAny (model P w) X.A (letOwnedTupleGo tg (.ref it) u) (fun _ s2 => ∃ x H', Inv X pins σ H' s2 ∧ RelV x u ∧ J.yld i H x H' ∧ tn (i + 1) s2.heap ∧ ∀ b ∈ fp, H' b = none) E s1) E s
  done : ∀ (X : Cx), X.prog = P → X.w = w → X.K = K → X.calm = true → ∀ (i : Nat) (pins : List (Addr × Obj)) (s : Shared) (σ : St) (H : Hp) (E : Value → Shared → Prop), Inv X pins σ H s → (∀ b ∈ fp, FpOk X pins H b) → tn i s.heap → J.stop i H →
    wpAny (model P w) X.A (pyNext (.ref it)) (fun r s1 => r = none ∧ Inv X pins σ H s1) E s
  self : ∀ (A : Around) (i : Nat) (s : Shared) (Q : Value → Shared → Prop) (E : Value → Shared → Prop), tn i s.heap → Q (.ref it) s → wpAny (model P w) A (pyIter (.ref it)) Q E s
noncomputable abbrev TI := St → Hp → (It → Hp → Prop) → Prop
noncomputable def PIE (X : Cx) (pins : List (Addr × Obj)) (σ : St) (tg : Expr) (R : It → Hp → Prop) (itv : Value) (s2 : Shared) : Prop :=
  ∃ (it : Addr) (fp : List Addr) (tn : Nat → Heap → Prop) (J : It) (H' : Hp), itv = .ref it ∧ Inv X pins σ H' s2 ∧ Turn X.prog X.w X.K tg J fp it tn ∧ tn 0 s2.heap ∧ (∀ b ∈ fp, FpOk X pins H' b) ∧ R J H'
noncomputable def PI (X : Cx) (tg iter : Expr) (wi : TI) : Prop :=
  ∀ (pins : List (Addr × Obj)) (s : Shared) (σ : St) (H : Hp) (R : It → Hp → Prop), Inv X pins σ H s → wi σ H R →
    wpAny (model X.prog X.w) X.A (eval iter X.env) (fun v s1 => wpAny (model X.prog X.w) X.A (pyIter v) (PIE X pins σ tg R) X.xe s1) X.xe s
theorem go_of {M : Model} {A : Around} {E : Value → Shared → Prop} {s : Shared} {tg : Expr} {it : Addr} {u : Value} {o : Obj} {n : String} {vs : Array Value} {Q : Unit → Shared → Prop} (ho : s.heap.get? it = some o) (hc : o.cls = .type n) (hd : o.data = .fields vs)
    (hn : ["enumerate", "zip", "dict_itemiterator", "dict_reverseitemiterator", "odict_iterator", "itertools.zip_longest", "itertools.pairwise"].contains n = false) (hQ : Q () s) : wpAny M A (letOwnedTupleGo tg (.ref it) u) Q E s := by
  unfold letOwnedTupleGo
  cases tg <;> first
    | exact wpAny_pure hQ
    | (cases u <;> first
        | exact wpAny_pure hQ
        | (refine wpAny_bind (wpAny_load ho ?_)
           rw [hc, hd]
           show wpAny M A (if (["enumerate", "zip", "dict_itemiterator", "dict_reverseitemiterator", "odict_iterator", "itertools.zip_longest", "itertools.pairwise"].contains n && vs[0]? == some (rawInt _)) = true then _ else _) Q E s
           rw [if_neg (by intro h; rw [hn, Bool.false_and] at h; cases h)]
           exact wpAny_pure hQ))
noncomputable def Itl (K : PySem.W.Frag) (a : Addr) : It :=
  ⟨fun i H => ∃ xs x, SqL K H a xs ∧ xs[i]? = some x, fun i H x H' => H' = H ∧ ∀ xs, SqL K H a xs → xs[i]? = some x, fun i H => ∃ xs, SqL K H a xs ∧ xs.length ≤ i⟩
noncomputable def Itt (K : PySem.W.Frag) (a : Addr) : It :=
  ⟨fun i H => ∃ xs x, SqT K H a xs ∧ xs[i]? = some x, fun i H x H' => H' = H ∧ ∀ xs, SqT K H a xs → xs[i]? = some x, fun i H => ∃ xs, SqT K H a xs ∧ xs.length ≤ i⟩
noncomputable def Itr (lo : Int) (n : Nat) : It := ⟨fun i _ => i < n, fun i H x H' => H' = H ∧ x = .int (lo + i), fun i _ => n ≤ i⟩
theorem turn_list {P : Program} {w : World} {K : PySem.W.Frag} {tg : Expr} (a it : Addr) : Turn P w K tg (Itl K a) [it] it (fun i h => h.IsListIter it a i) where
  mem := by simp
  obj := fun i h st b hb => by
    have e : b = it := by simpa using hb
    subst e
    obtain ⟨o, e, c, d⟩ := st
    exact ⟨o, e, fun v z => by rw [d] at z; cases z⟩
  keep := fun i h h' st k => st.at fun o e => k it (by simp) o e
  item := by
    intro X hP hw hK hc i pins s σ H E I hf st hg
    subst hP hw hK
    obtain ⟨xs, x, hq, hx⟩ := hg
    obtain ⟨its, rv, p, hz⟩ := I.list hq
    obtain ⟨u, hu, ru⟩ := rv.get hx
    obtain ⟨f0, f1, f2, f3, f4, f5⟩ := hf it (by simp)
    refine wpAny_pyNext_list_item st p.isList (x := u) (by simpa using hu) fun h' st' sb => ?_
    have I1 : Inv X pins σ H { s with heap := h' } := I.turned (t' := s.toks) (fun b o hb e => (sb.2 b hb).trans e) f0 f1 f3 f4 f5
    obtain ⟨o, e, c, d⟩ := id st'
    exact ⟨u, rfl, go_of (s := { s with heap := h' }) e c d (by decide) ⟨x, H, I1, ru, ⟨rfl, fun ys hy => by rw [I.list_inj hy hq]; exact hx⟩, st', fun b hb => (hf b hb).1⟩⟩
  done := by
    intro X hP hw hK hc i pins s σ H E I hf st hg
    subst hP hw hK
    obtain ⟨xs, hq, hx⟩ := hg
    obtain ⟨its, rv, p, hz⟩ := I.list hq
    obtain ⟨f0, f1, f2, f3, f4, f5⟩ := hf it (by simp)
    have hl := rv.length
    exact wpAny_pyNext_list_end (I.ok.hd hc) st p.isList (by simp; omega) fun h' eb => ⟨rfl, I.turned (t' := s.toks) (fun b o hb e => eb b o hb e) f0 f1 f3 f4 f5⟩
  self := fun _ _ _ _ _ st h => wpAny_pyIter_listiter st h
theorem turn_tuple {P : Program} {w : World} {K : PySem.W.Frag} {tg : Expr} (a it : Addr) : Turn P w K tg (Itt K a) [it] it (fun i h => h.IsTupleIter it a i) where
  mem := by simp
  obj := fun i h st b hb => by
    have e : b = it := by simpa using hb
    subst e
    obtain ⟨o, e, c, d⟩ := st
    exact ⟨o, e, fun v z => by rw [d] at z; cases z⟩
  keep := fun i h h' st k => st.at fun o e => k it (by simp) o e
  item := by
    intro X hP hw hK hc i pins s σ H E I hf st hg
    subst hP hw hK
    obtain ⟨xs, x, hq, hx⟩ := hg
    obtain ⟨its, rv, p, hz⟩ := I.tuple hq
    obtain ⟨u, hu, ru⟩ := rv.get hx
    obtain ⟨f0, f1, f2, f3, f4, f5⟩ := hf it (by simp)
    refine wpAny_pyNext_tuple_item st (show s.heap.IsTuple a its.toArray from p) (x := u) (by simpa using hu) fun h' st' sb => ?_
    have I1 : Inv X pins σ H { s with heap := h' } := I.turned (t' := s.toks) (fun b o hb e => (sb.2 b hb).trans e) f0 f1 f3 f4 f5
    obtain ⟨o, e, c, d⟩ := id st'
    exact ⟨u, rfl, go_of (s := { s with heap := h' }) e c d (by decide) ⟨x, H, I1, ru, ⟨rfl, fun ys hy => by rw [I.tuple_inj hy hq]; exact hx⟩, st', fun b hb => (hf b hb).1⟩⟩
  done := by
    intro X hP hw hK hc i pins s σ H E I hf st hg
    subst hP hw hK
    obtain ⟨xs, hq, hx⟩ := hg
    obtain ⟨its, rv, p, hz⟩ := I.tuple hq
    obtain ⟨f0, f1, f2, f3, f4, f5⟩ := hf it (by simp)
    have hl := rv.length
    exact wpAny_pyNext_tuple_end (I.ok.hd hc) st (show s.heap.IsTuple a its.toArray from p) (by simp; omega) fun h' eb => ⟨rfl, I.turned (t' := s.toks) (fun b o hb e => eb b o hb e) f0 f1 f3 f4 f5⟩
  self := fun _ _ _ _ _ st h => wpAny_pyIter_tupleiter st h
theorem turn_range {P : Program} {w : World} {K : PySem.W.Frag} {tg : Expr} (it : Addr) (lo : Int) (n : Nat) : Turn P w K tg (Itr lo n) [it] it (fun i h => IsRangeIter h it (lo + (i : Nat) * 1) ((n : Int) - (i : Nat)) 1) where
  mem := by simp
  obj := fun i h st b hb => by
    have e : b = it := by simpa using hb
    subst e
    exact ⟨_, st, fun v z => by
      have z' : Data.fields _ = Data.cell v := z
      cases z'⟩
  keep := fun i h h' st k => k it (by simp) _ st
  item := by
    intro X hP hw hK hc i pins s σ H E I hf st hg
    subst hP hw hK
    obtain ⟨f0, f1, f2, f3, f4, f5⟩ := hf it (by simp)
    have W := Walks.range (prog := X.prog) (w := X.w) (I.ok.hd hc) it lo 1 n
    refine W.item i s _ _ hg st fun v h' tk hv st' kk => ?_
    obtain ⟨t, rfl⟩ := hv
    have I1 : Inv X pins σ H { s with heap := h', toks := tk } := I.turned (fun b o hb e => kk b o (by simpa using hb) e) f0 f1 f3 f4 f5
    refine ⟨_, rfl, go_of (s := { s with heap := h', toks := tk }) (n := "range_iterator") st' rfl rfl (by decide) ⟨.int (lo + i), H, I1, ⟨t, ?_⟩, ⟨rfl, rfl⟩, st', fun b hb => (hf b hb).1⟩⟩
    rw [Int.mul_one]
  done := by
    intro X hP hw hK hc i pins s σ H E I hf st hg
    subst hP hw hK
    obtain ⟨f0, f1, f2, f3, f4, f5⟩ := hf it (by simp)
    exact wpAny_pyNext_range_end (I.ok.hd hc) st (by have : n ≤ i := hg; omega) fun h' eb => ⟨rfl, I.turned (t' := s.toks) (fun b o hb e => eb b o hb e) f0 f1 f3 f4 f5⟩
  self := fun _ _ _ _ _ st h => wpAny_pyIter_rangeiter st h
end L2
namespace L2
open PySem PySem.Spec PyProof.Rows
section
variable {X : Cx} {tg : Expr}
noncomputable def iList (K : PySem.W.Frag) (tl : TE) : TI := fun σ H R => tl σ H fun x H1 => ∃ a, x = .ref a ∧ (∃ xs, SqL K H1 a xs) ∧ R (Itl K a) H1
theorem pi_list {l : Expr} {tl : TE} (hl : PE X l tl) : PI X tg l (iList X.K tl) := by
  intro pins s σ H R I h
  refine thn (hl pins s σ H _ I h) fun v s1 ⟨x, H1, I1, r1, q1⟩ => ?_
  obtain ⟨a, e, ⟨xs, hq⟩, q⟩ := q1
  subst e
  cases r1
  obtain ⟨its, rv, p, hz⟩ := I1.list hq
  refine wpAny_pyIter_list p.isList ?_
  refine ⟨s1.heap.objs.size, [s1.heap.objs.size], _, _, H1, rfl, I1.kept (t' := s1.toks) fun b o e => Heap.get?_push_of_some _ e, turn_list a _, ⟨_, Heap.get?_push_size _ rfl, rfl, rfl⟩, fun b hb => ?_, q⟩
  have e : b = s1.heap.objs.size := by simpa using hb
  subst e
  exact I1.fpOk (Nat.le_refl _) (I1.hok.fresh (Nat.le_refl _))
theorem range_it {pins : List (Addr × Obj)} {σ : St} {H : Hp} {s : Shared} {R : It → Hp → Prop} {E : Value → Shared → Prop} {lo hi : Int} {t u v : Tok} {tk : Nat} (I : Inv X pins σ H s) (h1 : -(2 ^ 62) ≤ lo) (h2 : lo < 2 ^ 62) (h3 : -(2 ^ 62) ≤ hi) (h4 : hi < 2 ^ 62)
    (q : R (Itr lo (hi - lo).toNat) H) : wpAny (model X.prog X.w) X.A (pyIter (.ref s.heap.objs.size)) (PIE X pins σ tg R) E { s with heap := s.heap.push { cls := .type "range", data := .fields #[.int lo t, .int hi u, .int 1 v] }, toks := tk } := by
  refine wpAny_pyIter_range (IsRange.new ..) (small_one h1 h2 h3 h4) ?_
  have I1 : Inv X pins σ H { s with heap := s.heap.push { cls := .type "range", data := .fields #[.int lo t, .int hi u, .int 1 v] }, toks := tk } := I.kept fun b o e => Heap.get?_push_of_some _ e
  refine ⟨(s.heap.push { cls := .type "range", data := .fields #[.int lo t, .int hi u, .int 1 v] }).objs.size, [(s.heap.push { cls := .type "range", data := .fields #[.int lo t, .int hi u, .int 1 v] }).objs.size], _, _, H, rfl,
    I1.kept (t' := tk) fun b o e => Heap.get?_push_of_some _ e, turn_range _ lo (hi - lo).toNat, ?_, fun b hb => ?_, q⟩
  · have e1 : lo + ((0 : Nat) : Int) * 1 = lo := by simp
    have e2 : (((hi - lo).toNat : Nat) : Int) - ((0 : Nat) : Int) = Builtin.Range.rangeSize lo hi 1 := by rw [rangeSize_one]; split <;> omega
    show IsRangeIter _ _ (lo + ((0 : Nat) : Int) * 1) ((((hi - lo).toNat : Nat) : Int) - ((0 : Nat) : Int)) 1
    rw [e1, e2]
    exact Heap.get?_push_size _ rfl
  · have e : b = (s.heap.push { cls := .type "range", data := .fields #[.int lo t, .int hi u, .int 1 v] }).objs.size := by simpa using hb
    subst e
    exact I1.fpOk (Nat.le_refl _) (I1.hok.fresh (Nat.le_refl _))
noncomputable def iRng1 (ta : TA) : TI := fun σ H R => ta σ H fun vs H1 => ∃ j : Int, vs = [.int j] ∧ -(2 ^ 62) ≤ j ∧ j < 2 ^ 62 ∧ R (Itr 0 j.toNat) H1
theorem pi_range1 {a : Expr} {ta : TA} {p pos : Pos} (hg : Gl X "range") (hm : X.mg "range" = none) (ha : PA X [a] ta) (hs : starEach [a] X.env = [(false, eval a X.env)] := by rfl) : PI X tg (.Call (.Name "range" p) [a] [] pos) (iRng1 ta) := by
  intro pins s σ H R I h
  refine Call_ (ld_blt I hg hm boot_range (PyProof.Rows.callWith_type1 (thn (ha pos pins s σ H _ I h) fun us s1 ⟨vs, H1, I1, r1, q1⟩ => ?_) hs rfl))
  obtain ⟨j, e, q1, q2, q⟩ := q1
  subst e
  cases r1 with
  | cons r rr =>
    cases rr
    obtain ⟨t, rfl⟩ := r
    exact call_range_1 (range_it I1 (by omega) (by omega) q1 q2 (by simpa using q))
noncomputable def tFor (wi : TI) (g : TG) (tb : TS) : TS := fun D σ H => wi σ H fun J H1 => ∃ W : Nat → Nat → St → Hp → Prop, (∃ m, W 0 m σ H1) ∧ ∀ i m σ H, W i m σ H →
  (J.stop i H ∧ D.nx σ H) ∨ (J.go i H ∧ ∃ N : St → Hp → Prop, (∀ σ' H', N σ' H' → ∃ m', m' < m ∧ W (i + 1) m' σ' H') ∧ ∀ x H', J.yld i H x H' → g x σ H' fun σ2 H2 => tb { D with nx := N, ct := N, bk := D.nx } σ2 H2)
noncomputable def pinsAt (fp : List Addr) (h : Heap) : List (Addr × Obj) := fp.filterMap fun b => (h.get? b).map fun o => (b, o)
theorem mem_pinsAt {fp : List Addr} {h : Heap} {b : Addr} {o : Obj} (hb : b ∈ fp) (e : h.get? b = some o) : (b, o) ∈ pinsAt fp h := List.mem_filterMap.mpr ⟨b, hb, by rw [e]; rfl⟩
theorem of_pinsAt {fp : List Addr} {h : Heap} {p : Addr × Obj} (hp : p ∈ pinsAt fp h) : p.1 ∈ fp ∧ h.get? p.1 = some p.2 := by
  obtain ⟨b, hb, e⟩ := List.mem_filterMap.mp hp
  cases q : h.get? b with
  | none => rw [q] at e; cases e
  | some o =>
    rw [q] at e
    have e' : (b, o) = p := Option.some.inj e
    subst e'
    exact ⟨hb, q⟩
theorem Inv.pinned {pins : List (Addr × Obj)} {σ : St} {H : Hp} {s : Shared} {fp : List Addr} (I : Inv X pins σ H s) (hf : ∀ b ∈ fp, FpOk X pins H b) (ho : ∀ b ∈ fp, ∃ o, s.heap.get? b = some o ∧ ∀ v, o.data ≠ .cell v) : Inv X (pins ++ pinsAt fp s.heap) σ H s :=
  I.pins_of fun p hp => (List.mem_append.mp hp).elim (fun z => I.pin p (List.mem_append_right _ z)) fun z => by
    obtain ⟨hb, e⟩ := of_pinsAt z
    obtain ⟨f0, f1, f2, _⟩ := hf p.1 hb
    obtain ⟨o, e', d⟩ := ho p.1 hb
    rw [e] at e'; cases e'
    exact ⟨e, f0, f1, f2, d⟩
theorem Inv.unpinned {pins pl : List (Addr × Obj)} {σ : St} {H : Hp} {s : Shared} (I : Inv X (pins ++ pl) σ H s) : Inv X pins σ H s := I.pins_of fun p hp => I.pin p (List.mem_append_right _ (List.mem_append_left _ hp))
theorem ps_for {iter : Expr} {body : List Stmt} {wi : TI} {g : TG} {tb : TS} {pos : Pos} (hp : PassesOwn (model X.prog X.w) X.A X.env X.xe) (hc : X.calm = true) (hi : PI X tg iter wi) (hg : PG X tg g) (hb : PSs X body tb)
    (hs : ∀ x, foldedSetIterable iter X.env x = pure x := by intro _; rfl) : PS X (.For tg iter body [] pos) (tFor wi g tb) := by
  intro pins s σ H D I h
  refine wpAny_For (thn (hi pins s σ H _ I h) fun v s1 h1 => thn h1 fun itv s2 h2 => ?_) hs
  obtain ⟨it, fp, tn, J, H2, e, I2, T, st2, f2, W, ⟨m0, w0⟩, turn⟩ := h2
  subst e
  have stat : ∀ {H' : Hp}, (∀ b ∈ fp, H' b = none) → ∀ b ∈ fp, FpOk X pins H' b := fun hn b hb => ⟨hn b hb, (f2 b hb).2⟩
  refine codeAny_forLoop_any (fun n s' => ∃ i σ' H', Inv X pins σ' H' s' ∧ tn i s'.heap ∧ (∀ b ∈ fp, H' b = none) ∧ W i n σ' H') ?_ m0 ⟨0, σ, H2, I2, st2, fun b hb => (f2 b hb).1, w0⟩
  rintro n s3 ⟨i, σ3, H3, I3, st3, fr3, w3⟩
  rcases turn i n σ3 H3 w3 with ⟨stop, qn⟩ | ⟨go, N, hN, step⟩
  · refine wpAny_passesOwn hp (thn (T.done X rfl rfl rfl hc i pins s3 σ3 H3 X.xe I3 (stat fr3) st3 stop) fun r s4 ⟨hr, I4⟩ => ?_)
    subst hr
    exact wpAny_execs_nil ⟨σ3, H3, I4, qn⟩
  · refine wpAny_passesOwn hp (thn (T.item X rfl rfl rfl hc i pins s3 σ3 H3 X.xe I3 (stat fr3) st3 go) fun r s4 ⟨u, hr, h4⟩ => ?_)
    subst hr
    refine wpAny_passesOwn hp (thn h4 fun _ s5 ⟨x, H5, I5, r5, y5, st5, fr5⟩ => ?_)
    have I5' := I5.pinned (stat fr5) (T.obj _ _ st5)
    refine wpAny_passesOwn hp (thn (hg _ s5 σ3 H5 x u _ I5' r5 (step x H5 y5)) fun _ s6 ⟨σ6, H6, I6, q6⟩ => ?_)
    refine wpAny_passesOwn hp (thn (hb _ s6 σ6 H6 _ I6 q6) fun f s7 q7 => ?_)
    have again : ∀ {σ7 : St} {H7 : Hp}, Inv X (pins ++ pinsAt fp s5.heap) σ7 H7 s7 → N σ7 H7 → ∃ m, m < n ∧ ∃ i σ' H', Inv X pins σ' H' s7 ∧ tn i s7.heap ∧ (∀ b ∈ fp, H' b = none) ∧ W i m σ' H' := fun {σ7 H7} I7 n7 => by
      obtain ⟨m', hm, w7⟩ := hN σ7 H7 n7
      refine ⟨m', hm, i + 1, σ7, H7, I7.unpinned, T.keep _ _ _ st5 fun b hb o e => (I7.pin (b, o) (List.mem_append_right _ (List.mem_append_right _ (mem_pinsAt hb e)))).1, fun b hb => ?_, w7⟩
      obtain ⟨o, e, d⟩ := T.obj _ _ st5 b hb
      exact (I7.pin (b, o) (List.mem_append_right _ (List.mem_append_right _ (mem_pinsAt hb e)))).2.1
    cases f with
    | next => obtain ⟨σ7, H7, I7, n7⟩ := q7; exact again I7 n7
    | cont => obtain ⟨σ7, H7, I7, n7⟩ := q7; exact again I7 n7
    | brk => obtain ⟨σ7, H7, I7, q7⟩ := q7; exact ⟨σ7, H7, I7.unpinned, q7⟩
    | ret v => obtain ⟨x7, σ7, H7, I7, r7, q7⟩ := q7; exact ⟨x7, σ7, H7, I7.unpinned, r7, q7⟩
end
theorem for_list {K : PySem.W.Frag} {a : Addr} {xs : List V} {g : TG} {tb : TS} {D : Ends} {σ : St} {H : Hp} (Pv : Nat → St → Hp → Prop) (h0 : Pv 0 σ H) (hl : ∀ i σ H, i ≤ xs.length → Pv i σ H → SqL K H a xs)
    (hs : ∀ i x σ H, xs[i]? = some x → Pv i σ H → g x σ H fun σ2 H2 => tb { D with nx := Pv (i + 1), ct := Pv (i + 1), bk := D.nx } σ2 H2) (hd : ∀ σ H, Pv xs.length σ H → D.nx σ H) :
    ∃ W : Nat → Nat → St → Hp → Prop, (∃ m, W 0 m σ H) ∧ ∀ i m σ H, W i m σ H →
      ((Itl K a).stop i H ∧ D.nx σ H) ∨ ((Itl K a).go i H ∧ ∃ N : St → Hp → Prop, (∀ σ' H', N σ' H' → ∃ m', m' < m ∧ W (i + 1) m' σ' H') ∧ ∀ x H', (Itl K a).yld i H x H' → g x σ H' fun σ2 H2 => tb { D with nx := N, ct := N, bk := D.nx } σ2 H2) := by
  refine ⟨fun i m σ H => m = xs.length - i ∧ i ≤ xs.length ∧ Pv i σ H, ⟨xs.length, by simp, Nat.zero_le _, h0⟩, ?_⟩
  rintro i m σ H ⟨rfl, hi, p⟩
  have q := hl i σ H hi p
  by_cases hlt : i < xs.length
  · refine .inr ⟨⟨xs, xs[i], q, by simp [hlt]⟩, Pv (i + 1), fun σ' H' p' => ⟨xs.length - (i + 1), by omega, rfl, hlt, p'⟩, fun x H' y => ?_⟩
    obtain ⟨e, y⟩ := y
    subst e
    exact hs i x σ _ (y xs q) p
  · have e : i = xs.length := by omega
    subst e
    exact .inl ⟨⟨xs, q, Nat.le_refl _⟩, hd σ H p⟩
theorem for_range {lo : Int} {n : Nat} {g : TG} {tb : TS} {D : Ends} {σ : St} {H : Hp} (Pv : Nat → St → Hp → Prop) (h0 : Pv 0 σ H)
    (hs : ∀ i σ H, i < n → Pv i σ H → g (.int (lo + i)) σ H fun σ2 H2 => tb { D with nx := Pv (i + 1), ct := Pv (i + 1), bk := D.nx } σ2 H2) (hd : ∀ σ H, Pv n σ H → D.nx σ H) :
    ∃ W : Nat → Nat → St → Hp → Prop, (∃ m, W 0 m σ H) ∧ ∀ i m σ H, W i m σ H →
      ((Itr lo n).stop i H ∧ D.nx σ H) ∨ ((Itr lo n).go i H ∧ ∃ N : St → Hp → Prop, (∀ σ' H', N σ' H' → ∃ m', m' < m ∧ W (i + 1) m' σ' H') ∧ ∀ x H', (Itr lo n).yld i H x H' → g x σ H' fun σ2 H2 => tb { D with nx := N, ct := N, bk := D.nx } σ2 H2) := by
  refine ⟨fun i m σ H => m = n - i ∧ i ≤ n ∧ Pv i σ H, ⟨n, by simp, Nat.zero_le _, h0⟩, ?_⟩
  rintro i m σ H ⟨rfl, hi, p⟩
  by_cases hlt : i < n
  · refine .inr ⟨hlt, Pv (i + 1), fun σ' H' p' => ⟨n - (i + 1), by omega, rfl, hlt, p'⟩, fun x H' y => ?_⟩
    obtain ⟨e, y⟩ := y
    subst e y
    exact hs i σ _ hlt p
  · have e : i = n := by omega
    subst e
    exact .inl ⟨Nat.le_refl _, hd σ H p⟩
theorem while_by {c : TT} {tb : TS} {D : Ends} {σ : St} {H : Hp} (Pv : St → Hp → Prop) (μ : St → Hp → Nat) (h0 : Pv σ H)
    (hs : ∀ σ H, Pv σ H → c σ H fun b H1 => if b = true then tb { D with nx := fun σ' H' => Pv σ' H' ∧ μ σ' H' < μ σ H, ct := fun σ' H' => Pv σ' H' ∧ μ σ' H' < μ σ H, bk := D.nx } σ H1 else D.nx σ H1)
    (mono : ∀ σ H Q Q', (∀ b H1, Q b H1 → Q' b H1) → c σ H Q → c σ H Q') : tWhile c tb D σ H := by
  refine ⟨fun m σ H => m = μ σ H ∧ Pv σ H, ⟨_, rfl, h0⟩, ?_⟩
  rintro m σ H ⟨rfl, p⟩
  refine mono σ H _ _ (fun b H1 q => ?_) (hs σ H p)
  cases b with
  | true => exact ⟨_, fun σ' H' ⟨p', l⟩ => ⟨_, l, rfl, p'⟩, q⟩
  | false => exact q
end L2
namespace L2
open PySem PySem.Spec PyProof.Rows
noncomputable abbrev R2 := V → V → Hp → VK → Prop
noncomputable def OpR (X : Cx) (f : Value → Value → Sem Value) (r : R2) : Prop :=
  ∀ (pins : List (Addr × Obj)) (s : Shared) (σ : St) (H : Hp) (x y : V) (v u : Value) (Q : VK), Inv X pins σ H s → RelV x v → RelV y u → r x y H Q →
    wpAny (model X.prog X.w) X.A (f v u) (EP X pins σ Q) X.xe s
noncomputable def UnR (X : Cx) (f : Value → Sem Value) (r : V → Hp → VK → Prop) : Prop :=
  ∀ (pins : List (Addr × Obj)) (s : Shared) (σ : St) (H : Hp) (x : V) (v : Value) (Q : VK), Inv X pins σ H s → RelV x v → r x H Q →
    wpAny (model X.prog X.w) X.A (f v) (EP X pins σ Q) X.xe s
noncomputable def CallR (X : Cx) (f : Value) (r : List V → Hp → VK → Prop) : Prop :=
  ∀ (pins : List (Addr × Obj)) (s : Shared) (σ : St) (H : Hp) (xs : List V) (us : List Value) (Q : VK), Inv X pins σ H s → Vals xs us → r xs H Q →
    wpAny (model X.prog X.w) X.A (call f us) (EP X pins σ Q) X.xe s
noncomputable def tOp (r : R2) (ta tb : TE) : TE := fun σ H Q => ta σ H fun x H1 => tb σ H1 fun y H2 => r x y H2 Q
noncomputable def tUn (r : V → Hp → VK → Prop) (ta : TE) : TE := fun σ H Q => ta σ H fun x H1 => r x H1 Q
noncomputable def rI (C : Int → Int → Prop) (g : Int → Int → V) : R2 := fun x y H Q => ∃ i j, x = .int i ∧ y = .int j ∧ C i j ∧ Q (g i j) H
noncomputable def rI0 (g : Int → Int → V) : R2 := fun x y H Q => ∃ i j, x = .int i ∧ y = .int j ∧ Q (g i j) H
noncomputable def rU (g : Int → V) : V → Hp → VK → Prop := fun x H Q => ∃ i, x = .int i ∧ Q (g i) H
section
variable {X : Cx} {a b c : Expr} {ta tb tc : TE} {pos : Pos}
theorem binT (ha : PE X a ta) (hb : PE X b tb) {pins : List (Addr × Obj)} {s : Shared} {σ : St} {H : Hp} {R : V → V → Hp → Prop} (I : Inv X pins σ H s)
    (h : ta σ H fun x H1 => tb σ H1 fun y H2 => R x y H2) {Q : Value → Shared → Prop} {f : Value → Value → Sem Value}
    (hf : ∀ v u s2 x y H2, Inv X pins σ H2 s2 → RelV x v → RelV y u → R x y H2 → wpAny (model X.prog X.w) X.A (f v u) Q X.xe s2) :
    wpAny (model X.prog X.w) X.A (eval a X.env) (fun v s₁ => wpAny (model X.prog X.w) X.A (eval b X.env) (fun u s₂ => wpAny (model X.prog X.w) X.A (f v u) Q X.xe s₂) X.xe s₁) X.xe s := by
  refine thn (ha pins s σ H _ I h) fun v s1 ⟨x, H1, I1, r1, q1⟩ => ?_
  refine thn (hb pins s1 σ H1 _ I1 q1) fun u s2 ⟨y, H2, I2, r2, q2⟩ => ?_
  exact hf v u s2 x y H2 I2 r1 r2 q2
theorem pe_op {op : Operator} {r : R2} (ho : OpR X (binaryOp op) r) (ha : PE X a ta) (hb : PE X b tb) : PE X (.BinOp a op b pos) (tOp r ta tb) := by
  intro pins s σ H Q I h
  exact wpAny_BinOp (binT ha hb I h fun v u s2 x y H2 I2 rx ry q => ho pins s2 σ H2 x y v u Q I2 rx ry q)
theorem pe_un {op : UnaryOp} {r : V → Hp → VK → Prop} (ho : UnR X (unaryOp op) r) (ha : PE X a ta) : PE X (.UnaryOp op a pos) (tUn r ta) := by
  intro pins s σ H Q I h
  exact UnaryOp_ (thn (ha pins s σ H _ I h) fun v s1 ⟨x, H1, I1, r1, q1⟩ => ho pins s1 σ H1 x v Q I1 r1 q1)
theorem opI {f : Value → Value → Sem Value} {C : Int → Int → Prop} {g : Int → Int → Int}
    (rule : ∀ (i j : Int) (t u : Tok) (s : Shared) (Q : Value → Shared → Prop) (E : Value → Shared → Prop), C i j → Q (.int (g i j) s.toks) { s with toks := s.toks + 1 } → wpAny (model X.prog X.w) X.A (f (.int i t) (.int j u)) Q E s) :
    OpR X f (rI C fun i j => .int (g i j)) := by
  intro pins s σ H x y v u Q I rx ry h
  obtain ⟨i, j, rfl, rfl, hc, q⟩ := h
  obtain ⟨t, rfl⟩ := rx
  obtain ⟨t', rfl⟩ := ry
  exact rule i j t t' s _ _ hc ⟨.int (g i j), H, I.tok _, ⟨_, rfl⟩, q⟩
theorem opI0 {f : Value → Value → Sem Value} {g : Int → Int → Int}
    (rule : ∀ (i j : Int) (t u : Tok) (s : Shared) (Q : Value → Shared → Prop) (E : Value → Shared → Prop), Q (.int (g i j) s.toks) { s with toks := s.toks + 1 } → wpAny (model X.prog X.w) X.A (f (.int i t) (.int j u)) Q E s) :
    OpR X f (rI0 fun i j => .int (g i j)) := by
  intro pins s σ H x y v u Q I rx ry h
  obtain ⟨i, j, rfl, rfl, q⟩ := h
  obtain ⟨t, rfl⟩ := rx
  obtain ⟨t', rfl⟩ := ry
  exact rule i j t t' s _ _ ⟨.int (g i j), H, I.tok _, ⟨_, rfl⟩, q⟩
theorem opB0 {f : Value → Value → Sem Value} {g : Int → Int → Bool}
    (rule : ∀ (i j : Int) (t u : Tok) (s : Shared) (Q : Value → Shared → Prop) (E : Value → Shared → Prop), Q (.bool (g i j)) s → wpAny (model X.prog X.w) X.A (f (.int i t) (.int j u)) Q E s) :
    OpR X f (rI0 fun i j => .bl (g i j)) := by
  intro pins s σ H x y v u Q I rx ry h
  obtain ⟨i, j, rfl, rfl, q⟩ := h
  obtain ⟨t, rfl⟩ := rx
  obtain ⟨t', rfl⟩ := ry
  exact rule i j t t' s _ _ ⟨.bl (g i j), H, I, rfl, q⟩
noncomputable def CDiv (i j : Int) : Prop := 0 < j ∧ j < 1073741824
noncomputable def CMul (i j : Int) : Prop := (-(2 ^ 64) < i ∧ i < 2 ^ 64) ∨ (-(2 ^ 64) < j ∧ j < 2 ^ 64)
theorem CMul.ok {i j : Int} (h : CMul i j) : IntMulOk i j := by
  rcases h with ⟨h1, h2⟩ | ⟨h1, h2⟩
  · exact .of_left (intBits_le_64 h1 h2)
  · exact .of_right (intBits_le_64 h1 h2)
theorem op_add : OpR X (binaryOp .Add) (rI0 fun i j => .int (i + j)) := opI0 fun _ _ _ _ _ _ _ q => add_int q
theorem op_sub : OpR X (binaryOp .Sub) (rI0 fun i j => .int (i - j)) := opI0 fun _ _ _ _ _ _ _ q => sub_int q
theorem op_mul : OpR X (binaryOp .Mult) (rI CMul fun i j => .int (i * j)) := opI fun _ _ _ _ _ _ _ hc q => mul_int q hc.ok
theorem op_fdiv : OpR X (binaryOp .FloorDiv) (rI CDiv fun i j => .int (i / j)) := opI fun i j _ _ _ _ _ hc q => by
  have h1 : (0 : Int) < j := hc.1
  have h2 : j < 1073741824 := hc.2
  exact floordiv_int (by omega) (by rw [Int.fdiv_eq_ediv_of_nonneg i (by omega)]; exact q) (.inl (PyProof.noPylong_small (by omega)))
theorem op_mod : OpR X (binaryOp .Mod) (rI (fun _ j => 0 < j) fun i j => .int (i % j)) := opI fun i j _ _ _ _ _ hc q => by
  have h1 : (0 : Int) < j := hc
  exact mod_int' (by omega) (by rw [Int.fmod_eq_emod_of_nonneg i (by omega)]; exact q)
theorem unI {f : Value → Sem Value} {g : Int → Int}
    (rule : ∀ (i : Int) (t : Tok) (s : Shared) (Q : Value → Shared → Prop) (E : Value → Shared → Prop), Q (.int (g i) s.toks) { s with toks := s.toks + 1 } → wpAny (model X.prog X.w) X.A (f (.int i t)) Q E s) :
    UnR X f (rU fun i => .int (g i)) := by
  intro pins s σ H x v Q I rx h
  obtain ⟨i, rfl, q⟩ := h
  obtain ⟨t, rfl⟩ := rx
  exact rule i t s _ _ ⟨.int (g i), H, I.tok _, ⟨_, rfl⟩, q⟩
theorem un_neg : UnR X (unaryOp .USub) (rU fun i => .int (-i)) := unI fun _ _ _ _ _ q => neg_int q
end
noncomputable def scal : V → V → Bool
  | .non, .non => true | .non, .int _ => true | .int _, .non => true | .non, .bl _ => true | .bl _, .non => true | .non, .str _ => true | .str _, .non => true
  | .int _, .int _ => true | .bl _, .bl _ => true | .str _, .str _ => true | .byt _, .byt _ => true
  | .int _, .str _ => true | .str _, .int _ => true | .bl _, .str _ => true | .str _, .bl _ => true
  | _, _ => false
noncomputable def rEq : R2 := fun x y H Q => scal x y = true ∧ Q (.bl (decide (x = y))) H
noncomputable def rNe : R2 := fun x y H Q => scal x y = true ∧ Q (.bl (!decide (x = y))) H
theorem dec_int {i j : Int} : decide (V.int i = V.int j) = (i == j) := by
  rw [Bool.eq_iff_iff]
  simp
theorem dec_bl {i j : Bool} : decide (V.bl i = V.bl j) = (i == j) := by
  rw [Bool.eq_iff_iff]
  simp
theorem dec_str {i j : Str} : decide (V.str i = V.str j) = (i == j) := by
  rw [Bool.eq_iff_iff]
  simp
theorem dec_byt {i j : Array UInt8} : decide (V.byt i = V.byt j) = (i.toList == j.toList) := by
  rw [Bool.eq_iff_iff]
  cases i
  cases j
  simp
section
variable {X : Cx} {a b c : Expr} {ta tb tc : TE} {pos : Pos}
theorem fin_bl {pins : List (Addr × Obj)} {σ : St} {H : Hp} {s : Shared} {Q : VK} {k k' : Bool} (I : Inv X pins σ H s) (q : Q (.bl k) H) (e : k = k') : EP X pins σ Q (.bool k') s := by
  subst e
  exact ⟨.bl k, H, I, rfl, q⟩
theorem op_eq : OpR X (compareOp .Eq) rEq := by
  intro pins s σ H x y v u Q I rx ry h
  obtain ⟨hs, q⟩ := h
  cases x with
  | non =>
    cases rx
    cases y with
    | non => cases ry; exact PySem.EqNone.eq_none_none (fin_bl I q (by simp))
    | bl j => cases ry; exact PySem.EqNone.eq_none_bool (fin_bl I q (by simp))
    | int j => obtain ⟨t', rfl⟩ := ry; exact PySem.EqNone.eq_none_int (fin_bl I q (by simp))
    | str j => obtain ⟨t', rfl⟩ := ry; exact PySem.EqNone.eq_none_str (fin_bl I q (by simp))
    | _ => exact absurd (show false = true from hs) Bool.false_ne_true
  | bl i =>
    cases rx
    cases y with
    | non => cases ry; exact PySem.EqNone.eq_bool_none (fin_bl I q (by simp))
    | bl j => cases ry; exact eq_bool (fin_bl I q dec_bl)
    | str j => obtain ⟨t', rfl⟩ := ry; exact PySem.EqMixed.eq_bool_str (fin_bl I q (by simp))
    | _ => exact absurd (show false = true from hs) Bool.false_ne_true
  | int i =>
    obtain ⟨t, rfl⟩ := rx
    cases y with
    | non => cases ry; exact PySem.EqNone.eq_int_none (fin_bl I q (by simp))
    | int j => obtain ⟨t', rfl⟩ := ry; exact eq_int (fin_bl I q dec_int)
    | str j => obtain ⟨t', rfl⟩ := ry; exact PySem.EqMixed.eq_int_str (fin_bl I q (by simp))
    | _ => exact absurd (show false = true from hs) Bool.false_ne_true
  | str i =>
    obtain ⟨t, rfl⟩ := rx
    cases y with
    | non => cases ry; exact PySem.EqNone.eq_str_none (fin_bl I q (by simp))
    | bl j => cases ry; exact PySem.EqMixed.eq_str_bool (fin_bl I q (by simp))
    | int j => obtain ⟨t', rfl⟩ := ry; exact PySem.EqMixed.eq_str_int (fin_bl I q (by simp))
    | str j => obtain ⟨t', rfl⟩ := ry; exact eq_str (fin_bl I q dec_str)
    | _ => exact absurd (show false = true from hs) Bool.false_ne_true
  | byt i =>
    obtain ⟨t, rfl⟩ := rx
    cases y with
    | byt j => obtain ⟨t', rfl⟩ := ry; exact PySem.W.eq_bytes (fin_bl I q dec_byt)
    | _ => exact absurd (show false = true from hs) Bool.false_ne_true
  | _ => cases y <;> exact absurd (show false = true from hs) Bool.false_ne_true
theorem op_ne : OpR X (compareOp .NotEq) rNe := by
  intro pins s σ H x y v u Q I rx ry h
  obtain ⟨hs, q⟩ := h
  cases x with
  | non =>
    cases rx
    cases y with
    | non => cases ry; exact PySem.EqNone.ne_none_none (fin_bl I q (by simp))
    | bl j => cases ry; exact PySem.EqNone.ne_none_bool (fin_bl I q (by simp))
    | int j => obtain ⟨t', rfl⟩ := ry; exact PySem.EqNone.ne_none_int (fin_bl I q (by simp))
    | str j => obtain ⟨t', rfl⟩ := ry; exact PySem.EqNone.ne_none_str (fin_bl I q (by simp))
    | _ => exact absurd (show false = true from hs) Bool.false_ne_true
  | bl i =>
    cases rx
    cases y with
    | non => cases ry; exact PySem.EqNone.ne_bool_none (fin_bl I q (by simp))
    | bl j => cases ry; exact ne_bool (fin_bl I q (congrArg not dec_bl))
    | str j => obtain ⟨t', rfl⟩ := ry; exact PySem.EqMixed.ne_bool_str (fin_bl I q (by simp))
    | _ => exact absurd (show false = true from hs) Bool.false_ne_true
  | int i =>
    obtain ⟨t, rfl⟩ := rx
    cases y with
    | non => cases ry; exact PySem.EqNone.ne_int_none (fin_bl I q (by simp))
    | int j => obtain ⟨t', rfl⟩ := ry; exact ne_int (fin_bl I q (congrArg not dec_int))
    | str j => obtain ⟨t', rfl⟩ := ry; exact PySem.EqMixed.ne_int_str (fin_bl I q (by simp))
    | _ => exact absurd (show false = true from hs) Bool.false_ne_true
  | str i =>
    obtain ⟨t, rfl⟩ := rx
    cases y with
    | non => cases ry; exact PySem.EqNone.ne_str_none (fin_bl I q (by simp))
    | bl j => cases ry; exact PySem.EqMixed.ne_str_bool (fin_bl I q (by simp))
    | int j => obtain ⟨t', rfl⟩ := ry; exact PySem.EqMixed.ne_str_int (fin_bl I q (by simp))
    | str j => obtain ⟨t', rfl⟩ := ry; exact ne_str (fin_bl I q (congrArg not dec_str))
    | _ => exact absurd (show false = true from hs) Bool.false_ne_true
  | byt i =>
    obtain ⟨t, rfl⟩ := rx
    cases y with
    | byt j => obtain ⟨t', rfl⟩ := ry; exact PySem.W.ne_bytes (fin_bl I q (congrArg not dec_byt))
    | _ => exact absurd (show false = true from hs) Bool.false_ne_true
  | _ => cases y <;> exact absurd (show false = true from hs) Bool.false_ne_true
theorem op_lt : OpR X (compareOp .Lt) (rI0 fun i j => .bl (decide (i < j))) := opB0 fun _ _ _ _ _ _ _ q => lt_int q
theorem op_le : OpR X (compareOp .LtE) (rI0 fun i j => .bl (decide (i ≤ j))) := opB0 fun _ _ _ _ _ _ _ q => le_int q
theorem op_gt : OpR X (compareOp .Gt) (rI0 fun i j => .bl (decide (j < i))) := opB0 fun _ _ _ _ _ _ _ q => gt_int q
theorem op_ge : OpR X (compareOp .GtE) (rI0 fun i j => .bl (decide (j ≤ i))) := opB0 fun _ _ _ _ _ _ _ q => ge_int q
theorem op_notN : OpR X (compareOp .IsNot) (fun x y H Q => y = .non ∧ Q (.bl (!decide (x = .non))) H) := by
  intro pins s σ H x y v u Q I rx ry h
  obtain ⟨rfl, q⟩ := h
  cases ry
  refine isnot_none_gen (fin_bl I q ?_)
  cases x <;> first
    | (cases rx; rfl)
    | (obtain ⟨t, rfl⟩ := rx; rfl)
theorem OpR.or {f : Value → Value → Sem Value} {r r' : R2} (h : OpR X f r) (h' : OpR X f r') : OpR X f (fun x y H Q => r x y H Q ∨ r' x y H Q) := by
  intro pins s σ H x y v u Q I rx ry q
  rcases q with q | q
  · exact h pins s σ H x y v u Q I rx ry q
  · exact h' pins s σ H x y v u Q I rx ry q
theorem nomark (b : Expr) {op : CmpOp} (h : op ≠ .In := by decide) (h2 : op ≠ .NotIn := by decide) : behindInMarks op b = false := by
  have e1 : (op == CmpOp.In) = false := by cases op <;> first | rfl | exact absurd rfl h
  have e2 : (op == CmpOp.NotIn) = false := by cases op <;> first | rfl | exact absurd rfl h2
  cases b <;> simp [behindInMarks, e1, e2]
theorem pe_cmpR {op : CmpOp} {r : R2} (ho : OpR X (compareOp op) r) (ha : PE X a ta) (hb : PE X b tb) (hm : behindInMarks op b = false) : PE X (.Compare a [op] [b] pos) (tOp r ta tb) := by
  intro pins s σ H Q I h
  exact wpAny_Compare1 (binT ha hb I h fun v u s2 x y H2 I2 rx ry q => ho pins s2 σ H2 x y v u Q I2 rx ry q) hm
noncomputable def tTest (t : TE) : TT := fun σ H Q => t σ H fun x H' => ∃ k, x = .bl k ∧ Q k H'
theorem pt_cmpR {op : CmpOp} {r : R2} (ho : OpR X (compareOp op) r) (ha : PE X a ta) (hb : PE X b tb) (hm : behindInMarks op b = false) : PT X (.Compare a [op] [b] pos) (tTest (tOp r ta tb)) := by
  intro pins s σ H Q I h
  refine wpAny_isTrue_Compare1 (thn (ha pins s σ H _ I h) fun v s1 ⟨x, H1, I1, r1, q1⟩ => thn (hb pins s1 σ H1 _ I1 q1) fun u s2 ⟨y, H2, I2, r2, q2⟩ =>
    thn (ho pins s2 σ H2 x y v u _ I2 r1 r2 q2) fun c s3 ⟨z, H3, I3, r3, k, e, q3⟩ => ?_) hm
  subst e
  cases r3
  exact wpAny_truthy_bool ⟨H3, I3, q3⟩
noncomputable def tChain (r r' : R2) (ta tb tc : TE) : TE := fun σ H Q => ta σ H fun x H1 => tb σ H1 fun y H2 => r x y H2 fun z H3 => ∃ k, z = .bl k ∧
  (if k = true then tc σ H3 fun w' H4 => r' y w' H4 Q else Q (.bl false) H3)
theorem pe_chain {op op' : CmpOp} {r r' : R2} (ho : OpR X (compareOp op) r) (ho' : OpR X (compareOp op') r') (ha : PE X a ta) (hb : PE X b tb) (hc : PE X c tc)
    (hm : lastMarks [op, op'] [b, c] = false := by with_unfolding_all rfl) : PE X (.Compare a [op, op'] [b, c] pos) (tChain r r' ta tb tc) := by
  intro pins s σ H Q I h
  refine Compare_chain (thn (ha pins s σ H _ I h) fun v s1 ⟨x, H1, I1, r1, q1⟩ => chain_link (thn (hb pins s1 σ H1 _ I1 q1) fun u s2 ⟨y, H2, I2, r2, q2⟩ =>
    thn (ho pins s2 σ H2 x y v u _ I2 r1 r2 q2) fun d s3 ⟨z, H3, I3, r3, k, e, q3⟩ => ?_)) hm
  subst e
  cases r3
  refine wpAny_truthy_bool ?_
  cases k with
  | false => exact ite_ff ⟨.bl false, H3, I3, rfl, q3⟩
  | true => exact ite_tt (chain_last (thn (hc pins s3 σ H3 _ I3 q3) fun w' s4 ⟨z', H4, I4, r4, q4⟩ => ho' pins s4 σ H4 y z' u w' Q I4 r2 r4 q4))
theorem line63 : (sizeLine : Nat) < 2 ^ 63 := by rw [sizeLine_eq]; decide
theorem vals1 {x : V} {us : List Value} (r : Vals [x] us) : ∃ u, us = [u] ∧ RelV x u := by
  cases r with
  | cons r1 r2 => cases r2; exact ⟨_, rfl, r1⟩
theorem vals2 {x y : V} {us : List Value} (r : Vals [x, y] us) : ∃ u w', us = [u, w'] ∧ RelV x u ∧ RelV y w' := by
  cases r with
  | cons r1 r2 =>
    cases r2 with
    | cons r3 r4 => cases r4; exact ⟨_, _, rfl, r1, r3⟩
theorem call_abs : CallR X (.builtin "abs") (fun xs H Q => ∃ i, xs = [.int i] ∧ Q (.int (if i < 0 then -i else i)) H) := by
  intro pins s σ H xs us Q I r h
  obtain ⟨i, rfl, q⟩ := h
  obtain ⟨u, rfl, t, rfl⟩ := vals1 r
  exact call_abs_int fun u tk => ⟨.int (if i < 0 then -i else i), H, I.tok _, ⟨_, rfl⟩, q⟩
theorem call_max2 (hc : X.calm = true) : CallR X (.builtin "max") (fun xs H Q => ∃ i j, xs = [.int i, .int j] ∧ Q (.int (if j > i then j else i)) H) := by
  intro pins s σ H xs us Q I r h
  obtain ⟨i, j, rfl, q⟩ := h
  obtain ⟨u, w', rfl, ⟨t, rfl⟩, ⟨t', rfl⟩⟩ := vals2 r
  refine max_two_ints (I.ok.hd hc) fun h' tk k => ⟨_, H, I.kept k, ?_, q⟩
  by_cases hj : j > i
  · rw [if_pos hj, if_pos hj]; exact ⟨_, rfl⟩
  · rw [if_neg hj, if_neg hj]; exact ⟨_, rfl⟩
end
end L2
namespace L2
open PySem PySem.Spec PyProof.Rows
structure ObjM (h : Heap) (x dx C : Addr) (mA : Str → Option Value) : Prop where
  obj : h.get? x = some (PySem.W.instObj C dx)
  ns : h.Ns1 dx mA
  ne : dx ≠ x
theorem lookIn_ns {h : Heap} {dx : Addr} {mA : Str → Option Value} (n : h.Ns1 dx mA) : ∃ od, h.get? dx = some od ∧ ∀ name, PySem.W.lookIn name od = some (mA name) := by
  obtain ⟨o, es, ep, ho, hd, hk, _, hm⟩ := n
  refine ⟨o, ho, fun name => ?_⟩
  have e := hm name
  unfold nsFind findBy at e
  rw [← Array.find?_toList] at e
  unfold PySem.W.lookIn
  rw [hd]
  dsimp only
  split
  · rename_i y q
    rw [q] at e
    exact congrArg some e
  · rename_i q
    rw [q] at e
    have a : es.toList.any (·.refKey) = false := by
      rw [List.any_eq_false]
      intro y hy
      obtain ⟨z, t, hkey⟩ := hk y (Array.mem_toList_iff.mp hy)
      simp [DictEntry.refKey, hkey]
    have a' : ¬ es.toList.any (·.refKey) = true := by rw [a]; exact Bool.false_ne_true
    rw [if_neg a']
    exact congrArg some e
theorem ObjM.look {h : Heap} {x dx C : Addr} {mA : Str → Option Value} (I : ObjM h x dx C mA) : ∃ od, PySem.W.InstAt h x (PySem.W.instObj C dx) C (some od) ∧ ∀ name, PySem.W.lookIn name od = some (mA name) :=
  let ⟨od, ho, hl⟩ := lookIn_ns I.ns
  ⟨od, ⟨I.obj, rfl, rfl, ho⟩, hl⟩
section
variable {prog : Program} {w : World} {A : Around} {E : Value → Shared → Prop} {s : Shared} {K : PySem.W.Frag} {x dx C f : Addr} {mA : Str → Option Value} {name : Str} {v : Value}
end
section
variable {P : Program} {w : World} {H H' : Hp} {h h' : Heap} {a C dx : Addr} {fs fs' : List (Str × V)}
theorem ins_get (hok : HOk P w H h) (e : H a = some (.ins C dx fs)) : ∃ mA, ObjM h a dx C mA ∧ (∀ f, RelO (fs.lookup f) (mA f)) ∧ PySem.Within mA (fs.map (·.1)) ∧ fs.length ≤ 1000 ∧ H dx = some (.own a) := by
  obtain ⟨d, z, ne, ob, mA, n, r, q⟩ := (show ObjOk P w H h a (.ins C dx fs) from hok a _ e)
  exact ⟨mA, ⟨ob, n, ne⟩, r, q, z, d⟩
end
structure Cls (K : PySem.W.Frag) (C : Addr) : Prop where
  pg : PySem.W.plainGet K C Str.empty = true
  hd : PySem.W.hasDictIn K C = true
  po : PySem.W.plainOver K C = true
  sa : PySem.W.findIn K (.ref C) "__setattr__" = some (some (.builtin "object.__setattr__"))
theorem Cls.get {K : PySem.W.Frag} {C : Addr} (c : Cls K C) (f : Str) : PySem.W.plainGet K C f = true := c.pg
structure Con (K : PySem.W.Frag) (C : Addr) (f : Str) (v : V) (u : Value) : Prop where
  at_ : PySem.W.findIn K (.ref C) f = some (some u)
  rel : RelV v u
  get : PySem.W.specialIn K u "__get__" = some none
  cp : PySem.W.copiedNames.contains f = false
structure Meth (K : PySem.W.Frag) (C : Addr) (m : Str) (f : Addr) : Prop where
  at_ : PySem.W.findIn K (.ref C) m = some (some (.ref f))
  fn : PySem.W.isFn K (.ref f) = true
  kp : PySem.W.keepIn K (.ref f) = true
section
variable {X : Cx} {pins : List (Addr × Obj)} {σ : St} {H : Hp} {s : Shared} {a C dx : Addr} {fs : List (Str × V)} {f : Str} {v : V} {A : Around} {E : Value → Shared → Prop}
end
section
variable {X : Cx} {o e value : Expr} {f : Str} {pos pos' tpos : Pos} {ta tv : TE}
end
section
variable {X : Cx} {pins : List (Addr × Obj)} {σ : St} {H : Hp} {s : Shared} {A : Around} {E : Value → Shared → Prop} {Q : Value → Shared → Prop} {c : Value} {b : Bool}
inductive TyOf (K : PySem.W.Frag) (H : Hp) : V → Value → Prop where
  | non : TyOf K H .non (.type "NoneType")
  | bl (x : Bool) : TyOf K H (.bl x) (.type "bool")
  | int (i : Int) : TyOf K H (.int i) (.type "int")
  | str (x : Str) : TyOf K H (.str x) (.type "str")
  | flt (x : UInt64) : TyOf K H (.flt x) (.type "float")
  | lst {a : Addr} {xs : List V} (e : H a = some (.lst xs)) : TyOf K H (.ref a) (.type "list")
  | frz {a : Addr} {o : Obj} {xs : List V} (e : H a = some (.frz o (.lst xs))) : TyOf K H (.ref a) (.type "list")
  | tup {a : Addr} {xs : List V} (e : H a = some (.tup xs)) : TyOf K H (.ref a) (.type "tuple")
  | dK {a : Addr} {kvs : List (Key × V)} (e : H a = some (.dK kvs)) : TyOf K H (.ref a) (.type "dict")
  | dT {a : Addr} {kvs : List (List Key × V)} (e : H a = some (.dT kvs)) : TyOf K H (.ref a) (.type "dict")
  | ins {a C dx : Addr} {fs : List (Str × V)} (e : H a = some (.ins C dx fs)) (cl : Cls K C) (ha : PySem.W.findIn K (.ref C) "__class__" = some (some (.builtin "object.__class__")))
      (hn : PySem.W.specialIn K (.builtin "object.__class__") "__get__" = some (some (.builtin "getset_descriptor.__get__"))) (htk : PySem.W.takesIn K (.builtin "object.__class__") = some true)
      (hm : PySem.W.mroIn K C (.type "object") = some true) : TyOf K H (.ref a) (.ref C)
theorem isinst_ok {x : V} {u t : Value} (I : Inv X pins σ H s) (rx : RelV x u) (ty : TyOf X.K H x t) (e : PySem.W.kitOne X.K t c = some b) (h : ∀ tk, Q (.bool b) { s with toks := tk }) :
    wpAny (model X.prog X.w) A (call (.builtin "isinstance") [u, c]) Q E s := by
  cases ty with
  | non => cases (show u = Value.none from rx); exact PySem.W.kia_one PySem.W.kitx_none I.kIn True.intro e (fun z => nomatch z) h
  | bl y => cases (show u = Value.bool y from rx); exact PySem.W.kia_one PySem.W.kitx_bool I.kIn True.intro e (fun z => nomatch z) h
  | int i => obtain ⟨t, q⟩ := (show ∃ t, u = Value.int i t from rx); cases q; exact PySem.W.kia_one PySem.W.kitx_int I.kIn True.intro e (fun z => nomatch z) h
  | str y => obtain ⟨t, q⟩ := (show ∃ t, u = Value.str y t from rx); cases q; exact PySem.W.kia_one PySem.W.kitx_str I.kIn True.intro e (fun z => nomatch z) h
  | flt y => obtain ⟨t, q⟩ := (show ∃ t, u = Value.float y t from rx); cases q; exact PySem.W.kia_one PySem.W.kitx_float I.kIn True.intro e (fun z => nomatch z) h
  | @lst a xs ea =>
    cases (show u = Value.ref a from rx)
    obtain ⟨_, _, n, _, h1⟩ := (show ObjOk X.prog X.w H s.heap a (.lst xs) from I.hok a _ ea)
    exact PySem.W.kia_one PySem.W.kitx_list I.kIn ⟨_, h1, rfl⟩ e (fun z => nomatch z) h
  | @frz a ob xs ea =>
    cases (show u = Value.ref a from rx)
    obtain ⟨_, _, _, n, _, h1⟩ := (show ObjOk X.prog X.w H s.heap a (.frz ob (.lst xs)) from I.hok a _ ea)
    exact PySem.W.kia_one PySem.W.kitx_list I.kIn ⟨_, h1, rfl⟩ e (fun z => nomatch z) h
  | @tup a xs ea =>
    cases (show u = Value.ref a from rx)
    obtain ⟨_, _, _, p⟩ := (show ObjOk X.prog X.w H s.heap a (.tup xs) from I.hok a _ ea)
    obtain ⟨o, h1, h2, _⟩ := p
    exact PySem.W.kia_one PySem.W.kitx_tuple I.kIn ⟨o, h1, h2⟩ e (fun z => nomatch z) h
  | @dK a kvs ea =>
    cases (show u = Value.ref a from rx)
    obtain ⟨_, _, vs, _, p⟩ := (show ObjOk X.prog X.w H s.heap a (.dK kvs) from I.hok a _ ea)
    obtain ⟨o, es, ep, h1, h2, _⟩ := p
    exact PySem.W.kia_one PySem.W.kitx_dict I.kIn ⟨o, h1, h2.1⟩ e (fun z => nomatch z) h
  | @dT a kvs ea =>
    cases (show u = Value.ref a from rx)
    obtain ⟨_, _, xs, _, o, es, ep, h1, h2, _⟩ := (show ObjOk X.prog X.w H s.heap a (.dT kvs) from I.hok a _ ea)
    exact PySem.W.kia_one PySem.W.kitx_dict I.kIn ⟨o, h1, h2.1⟩ e (fun z => nomatch z) h
  | @ins a C dx fs ea cl ha hn htk hm =>
    cases (show u = Value.ref a from rx)
    obtain ⟨mA, O, _⟩ := ins_get I.hok ea
    obtain ⟨od, J, _⟩ := O.look
    exact PySem.W.kia_one (PySem.W.kitx_own (cl.get _) cl.hd ha hn htk hm) I.kIn J e (fun z => nomatch z) h
end
end L2
namespace L2
open PySem PySem.Spec PyProof.Rows
structure Room (k : Nat) (A : Around) : Prop where
  hd : A.handled = none
  dp : A.depth + 3 * k + 5 < recursionLimit
  un : A.units + 16 * k + 200 < cLine
theorem Room.mono {j k : Nat} {A : Around} (r : Room k A) (h : j ≤ k) : Room j A := ⟨r.hd, by have := r.dp; omega, by have := r.un; omega⟩
theorem Room.deeper {k : Nat} {A : Around} (r : Room (k + 1) A) (env : Env) : Room k (A.deeper env) :=
  ⟨r.hd, by have := r.dp; show A.depth + 1 + 3 * k + 5 < _; omega, by have := r.un; show A.units + 3 + 16 * k + 200 < _; omega⟩
theorem Room.in1 {k : Nat} {A : Around} (r : Room (k + 1) A) : Room k A.in1 :=
  ⟨r.hd, by have := r.dp; show A.depth + 3 * k + 5 < _; omega, by have := r.un; show A.units + 1 + 16 * k + 200 < _; omega⟩
theorem Room.depth {k : Nat} {A : Around} (r : Room k A) : A.depth < recursionLimit := by have := r.dp; omega
theorem Room.units {k : Nat} {A : Around} (r : Room k A) : A.units + 64 < cLine := by have := r.un; omega
noncomputable def tNil : TA := fun _ H Q => Q [] H
noncomputable def tCons (ta : TE) (tr : TA) : TA := fun σ H Q => ta σ H fun x H1 => tr σ H1 fun xs H2 => Q (x :: xs) H2
section
variable {X : Cx} {e : Expr} {es : List Expr} {te : TE} {t : TA} {pos : Pos}
theorem pa_nil : PA X [] tNil := fun _ _ _ _ H Q I h => Calls.spliced_nil ⟨[], H, I, .nil, h⟩
theorem pa_cons (ha : PE X e te) (hr : PA X es t) (hs : starEach (e :: es) X.env = (false, eval e X.env) :: starEach es X.env := by rfl) : PA X (e :: es) (tCons te t) := by
  intro pos pins s σ H Q I h
  rw [hs]
  show wpAny _ _ (spliced ((false, eval e X.env) :: backTo pos (starEach es X.env))) _ _ s
  refine Calls.spliced_cons (thn (ha pins s σ H _ I h) fun u s1 ⟨x, H1, I1, r1, q1⟩ => ?_)
  exact thn (hr pos pins s1 σ H1 _ I1 q1) fun us s2 ⟨xs, H2, I2, r2, q2⟩ => ⟨x :: xs, H2, I2, .cons r1 r2, q2⟩
noncomputable def tTup (t : TA) : TE := fun σ H Q => t σ H fun xs H1 => xs.length ≤ sizeLine ∧ ∀ p, H1 p = none → Q (.ref p) (upd H1 p (.tup xs))
noncomputable def tLst (t : TA) : TE := fun σ H Q => t σ H fun xs H1 => xs.length ≤ sizeLine ∧ ∀ p, H1 p = none → Q (.ref p) (upd H1 p (.lst xs))
theorem pe_tup {x1} (h : PA X es t) : PE X (.Tuple es x1 pos) (tTup t) := by
  intro pins s σ H Q I hq
  refine wpAny_Tuple_spliced (thn (h pos pins s σ H _ I hq) fun us s1 ⟨xs, H1, I1, r, z, q⟩ => ⟨by rw [← r.length]; exact z, ?_⟩)
  have hf : H1 s1.heap.objs.size = none := I1.hok.fresh (Nat.le_refl _)
  refine ⟨.ref s1.heap.objs.size, upd H1 s1.heap.objs.size (.tup xs), I1.laid (t' := s1.toks) (fun b u e => Heap.get?_push_of_some _ e) (Nat.le_refl _) ?_, rfl, q _ hf⟩
  exact ⟨z, us, r, ⟨_, Heap.get?_push_size _ rfl, rfl, _, rfl⟩⟩
theorem pe_lst (h : PA X es t) : PE X (.List es pos) (tLst t) := by
  intro pins s σ H Q I hq
  refine wpAny_List_spliced (thn (h pos pins s σ H _ I hq) fun us s1 ⟨xs, H1, I1, r, z, q⟩ => ⟨by rw [← r.length]; exact z, ?_⟩)
  have hf : H1 s1.heap.objs.size = none := I1.hok.fresh (Nat.le_refl _)
  refine ⟨.ref s1.heap.objs.size, upd H1 s1.heap.objs.size (.lst xs), I1.laid (t' := s1.toks) (fun b u e => Heap.get?_push_of_some _ e) (Nat.le_refl _) ?_, rfl, q _ hf⟩
  exact ⟨z, us, 0, r, Heap.get?_push_size _ rfl⟩
end
noncomputable abbrev Sp := List V → Hp → VK → XK → Prop
noncomputable abbrev CXT := List Env → Hp → Shared → XK → Value → Shared → Prop
structure Env0 (P : Program) (w : World) (K : PySem.W.Frag) (mg : Str → Option Value) (base : Heap) (A : Around) (outer : List Env) (s : Shared) (H : Hp) : Prop where
  frames : A.frames = some outer
  mod : Mod K mg base
  bs : ∀ b o, base.get? b = some o → s.heap.get? b = some o ∧ H b = none
  bsz : base.objs.size ≤ s.heap.objs.size
  funs : s.heap.FunFrames base outer
  frf : ∀ b ∈ frs outer, H b = none
  hok : HOk P w H s.heap
  bare : AllBare s.gens
noncomputable def CE (outer : List Env) (P : Program) (w : World) (H : Hp) (s : Shared) (Q : VK) (u : Value) (s' : Shared) : Prop :=
  ∃ v H', s'.os = s.os ∧ AllBare s'.gens ∧ Un (frs outer) [] H H' s.heap s'.heap ∧ HOk P w H' s'.heap ∧ RelV v u ∧ Q v H'
noncomputable def CR (CX : CXT) (outer : List Env) (P : Program) (w : World) (H : Hp) (s : Shared) (Q : VK) (E : XK) (r : Result) (s' : Shared) : Prop :=
  match r with
  | .ok (.ret u) => CE outer P w H s Q u s'
  | .ok _ => False
  | .error e => CX outer H s E e s'
structure FnOk (P : Program) (w : World) (K : PySem.W.Frag) (mg : Str → Option Value) (base : Heap) (CX : CXT) (k : Nat) (f : Addr) (fd : FuncData) (ps : List Str) (sp : Sp) : Prop where
  len : ∀ vs H Q E, sp vs H Q E → vs.length = ps.length
  run : ∀ (A : Around) (outer : List Env) (s : Shared) (H : Hp) (args : Args) (us : List Value) (vs : List V) (Q : VK) (E : XK), Room k A → Env0 P w K mg base A outer s H → BindsTo s fd args (ps.zip us) → Vals vs us → sp vs H Q E →
    codeAny (model P w) A (.call (.ref f) args) (CR CX outer P w H s Q E) s
theorem FnOk.mono {P : Program} {w : World} {K : PySem.W.Frag} {mg : Str → Option Value} {base : Heap} {CX : CXT} {j k : Nat} {f : Addr} {fd : FuncData} {ps : List Str} {sp : Sp} (F : FnOk P w K mg base CX j f fd ps sp) (h : j ≤ k) :
    FnOk P w K mg base CX k f fd ps sp := ⟨F.len, fun A outer s H args us vs Q E hr => F.run A outer s H args us vs Q E (hr.mono h)⟩
theorem FnOk.imp {P : Program} {w : World} {K : PySem.W.Frag} {mg : Str → Option Value} {base : Heap} {CX : CXT} {k : Nat} {f : Addr} {fd : FuncData} {ps : List Str} {sp sp' : Sp} (F : FnOk P w K mg base CX k f fd ps sp)
    (h : ∀ vs H Q E, sp' vs H Q E → sp vs H Q E) : FnOk P w K mg base CX k f fd ps sp' :=
  ⟨fun vs H Q E q => F.len vs H Q E (h _ _ _ _ q), fun A outer s H args us vs Q E hr he hb hv hs => F.run A outer s H args us vs Q E hr he hb hv (h _ _ _ _ hs)⟩
theorem Env0.in1 {P : Program} {w : World} {K : PySem.W.Frag} {mg : Str → Option Value} {base : Heap} {A : Around} {outer : List Env} {s : Shared} {H : Hp} (e : Env0 P w K mg base A outer s H) :
    Env0 P w K mg base A.in1 outer s H := ⟨e.frames, e.mod, e.bs, e.bsz, e.funs, e.frf, e.hok, e.bare⟩
section
variable {X : Cx} {pins : List (Addr × Obj)} {σ : St} {H : Hp} {s s' : Shared}
theorem Inv.env0 (I : Inv X pins σ H s) : Env0 X.prog X.w X.K X.mg X.base X.A X.stack s H :=
  ⟨I.ok.frames, I.ok.mod, I.bs, Nat.le_trans I.ok.bsz I.sz, I.stack, I.stkFree, I.hok, I.bare⟩
theorem Inv.after {Q : VK} {u : Value} (I : Inv X pins σ H s) (h : CE X.stack X.prog X.w H s Q u s') : EP X pins σ Q u s' := by
  obtain ⟨v, H', os, bare, un, hok, r, q⟩ := h
  obtain ⟨hh, g, d, t, os'⟩ := s'
  obtain rfl : os' = s.os := os
  exact ⟨v, H', I.call (h' := hh) (g' := g) (d' := d) (t' := t) (ch := []) un hok bare (fun b z => absurd z (by simp)), r, q⟩
end
noncomputable def tCall (sp : Sp) (dvs : List V) (E : XK) (t : TA) : TE := fun σ H Q => t σ H fun vs H1 => sp (vs ++ dvs) H1 Q E
noncomputable def Binds (K : PySem.W.Frag) (fd : FuncData) (ps : List Str) (ds : List Value) : Prop :=
  ∀ (s : Shared) (us : List Value), K.In s.heap → (us ++ ds).length = ps.length → BindsTo s fd ⟨us, []⟩ (ps.zip (us ++ ds))
theorem Binds.all {K : PySem.W.Frag} {fd : FuncData} {ps : List Str} (h : ∀ us : List Value, us.length = ps.length → bindArgs fd ⟨us, []⟩ = pure (ps.zip us)) : Binds K fd ps [] := fun s us _ hl => by
  rw [List.append_nil] at hl ⊢
  exact .of_eq (h us hl)
noncomputable def Passes (CX : CXT) (X : Cx) (E : XK) : Prop := ∀ (pins : List (Addr × Obj)) (σ : St) (H : Hp) (s : Shared) (e : Value) (s' : Shared), Inv X pins σ H s → CX X.stack H s E e s' → X.xe e s'
section
variable {X : Cx} {CX : CXT} {k : Nat} {f C : Addr} {fd : FuncData} {ps : List Str} {sp : Sp} {dvs : List V} {ds : List Value} {E : XK} {x m : Str} {p pos apos : Pos} {e o : Expr} {es : List Expr} {ta : TE} {t : TA}
theorem run_fn {pins : List (Addr × Obj)} {σ : St} {H : Hp} {s : Shared} {Q : VK} {us : List Value} {vs : List V} (F : FnOk X.prog X.w X.K X.mg X.base CX k f fd ps sp) (hr : Room k X.A) (hb : Binds X.K fd ps ds) (hd : Vals dvs ds) (hx : Passes CX X E)
    (I : Inv X pins σ H s) (r : Vals vs us) (h : sp (vs ++ dvs) H Q E) : wpAny (model X.prog X.w) X.A (call (.ref f) us) (EP X pins σ Q) X.xe s := by
  have r2 : Vals (vs ++ dvs) (us ++ ds) := r.append hd
  have hl : (us ++ ds).length = ps.length := by rw [← r2.length]; exact F.len _ _ _ _ h
  refine wpAny_call (codeAny_mono (F.run X.A X.stack s H ⟨us, []⟩ (us ++ ds) (vs ++ dvs) Q E hr I.env0 (hb s us I.kIn hl) r2 h) fun r s' hq => ?_)
  cases r with
  | error e => exact hx pins σ H s e s' I hq
  | ok fl =>
    cases fl with
    | ret u => exact I.after hq
    | next => exact False.elim hq
    | brk => exact False.elim hq
    | cont => exact False.elim hq
theorem pe_call (F : FnOk X.prog X.w X.K X.mg X.base CX k f fd ps sp) (hr : Room k X.A) (hg : Gl X x) (hm : X.mg x = some (.ref f)) (hk : PySem.W.keepIn X.K (.ref f) = true) (hb : Binds X.K fd ps ds) (hd : Vals dvs ds) (hx : Passes CX X E)
    (ha : PA X (e :: es) t) (hdb : (x == ("__debug__" : Str)) = false := by decide) (he : starEach (e :: es) X.env = (false, eval e X.env) :: starEach es X.env := by rfl) (hpl : (backTo pos (starEach es X.env)).any (·.1) = false := by rfl) :
    PE X (.Call (.Name x p) (e :: es) [] pos) (tCall sp dvs E t) := by
  intro pins s σ H Q I h
  refine wpAny_Call_Name_kw (ld_glob I hg hm ?_ hdb)
  refine PySem.W.callWith_K (h₀ := X.base) I.ok.mod.kin hk (thn (ha pos pins s σ H _ I h) fun us s1 ⟨vs, H1, I1, r, q⟩ => ⟨I1.kIn, ?_⟩) he hpl
  exact run_fn F hr hb hd hx I1 r q
structure Mk (K : PySem.W.Frag) (C f : Addr) : Prop where
  makes : PySem.W.makesIn K C = true
  init : PySem.W.findIn K (.ref C) "__init__" = some (some (.ref f))
  fn : PySem.W.isFn K (.ref f) = true
  kp : PySem.W.keepIn K (.ref C) = true
end
section
variable {X : Cx} {CX : CXT} {k : Nat} {f C : Addr} {fd : FuncData} {ps ks : List Str} {sp : Sp} {E : XK} {x m : Str} {p pos apos kpos : Pos} {e o : Expr} {es : List Expr} {kws : List Keyword} {te ta : TE} {t tk : TA} {nm : Option Str}
structure KBinds (K : PySem.W.Frag) (fd : FuncData) (ps ks : List Str) (g : List Value → List Value → List Value) (gV : List V → List V → List V) : Prop where
  to : ∀ (s : Shared) (us ws : List Value), K.In s.heap → (g us ws).length = ps.length → BindsTo s fd ⟨us, ks.zip ws⟩ (ps.zip (g us ws))
  rel : ∀ {vs : List V} {us : List Value} {zs : List V} {ws : List Value}, Vals vs us → Vals zs ws → Vals (gV vs zs) (g us ws)
variable {g : List Value → List Value → List Value} {gV : List V → List V → List V}
end
structure FnScope (N P : List Str) (sc : Scope) : Prop where
  kind : sc.kind = .function
  co : sc.isCoroutine = false
  gen : sc.isGenerator = false
  nd : N.Nodup
  pre : N.take P.length = P
  par : ∀ x ∈ P, sc.names.lookup x = some .local ∨ sc.names.lookup x = some .cell
  nofree : ∀ y ∈ sc.names, y.2 ≠ .free
theorem bindL_out {kindOf : Str → Option NameKind} {x : Str} : ∀ {binds : List (Str × Value)} {m : Str → Option Value}, (∀ v, (x, v) ∉ binds) → bindL kindOf binds m x = m x
  | [], _, _ => rfl
  | (n, v) :: r, m, h => by
    unfold bindL
    rw [bindL_out fun w hw => h w (List.mem_cons_of_mem _ hw)]
    split
    · have : x ≠ n := by rintro rfl; exact h v List.mem_cons_self
      simp [this]
    · rfl
theorem bindC_out {kindOf : Str → Option NameKind} {x : Str} : ∀ {binds : List (Str × Value)} {m : Str → Option Value}, (∀ v, (x, v) ∉ binds) → bindC kindOf binds m x = m x
  | [], _, _ => rfl
  | (n, v) :: r, m, h => by
    unfold bindC
    rw [bindC_out fun w hw => h w (List.mem_cons_of_mem _ hw)]
    split
    · rfl
    · have : x ≠ n := by rintro rfl; exact h v List.mem_cons_self
      simp [this]
theorem bindL_get {kindOf : Str → Option NameKind} {x : Str} {v : Value} : ∀ {P : List Str} {vs : List Value} {i : Nat} {m : Str → Option Value}, P.Nodup → P[i]? = some x → vs[i]? = some v → kindOf x = some .local →
    bindL kindOf (P.zip vs) m x = some v
  | [], _, _, _, _, h, _, _ => by simp at h
  | _ :: _, [], _, _, _, _, h, _ => by simp at h
  | p :: P, w :: vs, 0, m, nd, h1, h2, hk => by
    simp at h1 h2; subst h1; subst h2
    show bindL kindOf ((p, w) :: P.zip vs) m p = _
    unfold bindL
    rw [bindL_out fun v hv => (List.nodup_cons.mp nd).1 (List.of_mem_zip hv).1, if_pos hk]
    simp
  | p :: P, w :: vs, i + 1, m, nd, h1, h2, hk => by
    show bindL kindOf ((p, w) :: P.zip vs) m x = _
    unfold bindL
    exact bindL_get (i := i) (List.nodup_cons.mp nd).2 (by simpa using h1) (by simpa using h2) hk
theorem bindC_get {kindOf : Str → Option NameKind} {x : Str} {v : Value} : ∀ {P : List Str} {vs : List Value} {i : Nat} {m : Str → Option Value}, P.Nodup → P[i]? = some x → vs[i]? = some v → kindOf x ≠ some .local →
    bindC kindOf (P.zip vs) m x = some v
  | [], _, _, _, _, h, _, _ => by simp at h
  | _ :: _, [], _, _, _, _, h, _ => by simp at h
  | p :: P, w :: vs, 0, m, nd, h1, h2, hk => by
    simp at h1 h2; subst h1; subst h2
    show bindC kindOf ((p, w) :: P.zip vs) m p = _
    unfold bindC
    rw [bindC_out fun v hv => (List.nodup_cons.mp nd).1 (List.of_mem_zip hv).1, if_neg hk]
    simp
  | p :: P, w :: vs, i + 1, m, nd, h1, h2, hk => by
    show bindC kindOf ((p, w) :: P.zip vs) m x = _
    unfold bindC
    exact bindC_get (i := i) (List.nodup_cons.mp nd).2 (by simpa using h1) (by simpa using h2) hk
noncomputable def start (N : List Str) (vs : List V) : St := vs.map some ++ List.replicate (N.length - vs.length) none
noncomputable def cxOf (CX : CXT) (P : Program) (w : World) (K : PySem.W.Frag) (mg : Str → Option Value) (base : Heap) (N : List Str) (qual : Str) (scope : Scope) (f : Addr) (cd : Value) (A : Around) (outer : List Env) (s : Shared) (H : Hp) (E : XK) : Cx where
  prog := P
  w := w
  K := K
  mg := mg
  base := base
  A := A.deeper (envOfC qual scope s.heap.objs.size f cd)
  N := N
  s₀ := s
  H₀ := H
  env := envOfC qual scope s.heap.objs.size f cd
  outer := outer
  stack := envOfC qual scope s.heap.objs.size f cd :: outer
  ex := []
  calm := true
  fn := fun _ => true
  pn := []
  xe := fun e s' => wpAny (model P w) (A.deeper (envOfC qual scope s.heap.objs.size f cd)) (leaving (envOfC qual scope s.heap.objs.size f cd) e) (fun _ s'' => CX outer H s E e s'') (fun e' s'' => CX outer H s E e' s'') s'
theorem cell_has {sc : Scope} {n : Nat} {x : Str} (h : sc.names.lookup x = some .cell) : ∃ c, (cellsFrom n sc.names []).lookup x = some c := by
  have q := PySem.W.cellsFrom_some sc.names n [] (.inl h)
  exact Option.isSome_iff_exists.mp q
theorem inv_start {CX : CXT} {P : Program} {w : World} {K : PySem.W.Frag} {mg : Str → Option Value} {base : Heap} {N ps : List Str} {qual : Str} {scope : Scope} {f : Addr} {cd : Value} {A : Around} {outer : List Env} {s s1 : Shared} {H : Hp} {E : XK} {us : List Value} {vs : List V}
    (S : FnScope N ps scope) (hd : A.handled = none) (e0 : Env0 P w K mg base A outer s H) (hl : vs.length = ps.length) (r : Vals vs us)
    (x : InCallC s s.heap.objs.size (bindL (envOfC qual scope s.heap.objs.size f cd).kindOf (ps.zip us) fun _ => none) (cellsFrom (s.heap.objs.size + 1) scope.names []) (bindC (envOfC qual scope s.heap.objs.size f cd).kindOf (ps.zip us) fun _ => none) s1) :
    Inv (cxOf CX P w K mg base N qual scope f cd A outer s H E) [] (start N vs) H s1 := by
  have hpl : ps.length ≤ N.length := by have := congrArg List.length S.pre; rw [List.length_take] at this; omega
  obtain ⟨h1, tk, rfl, hk⟩ := x.done
  have noA : ∀ b : Addr, b ∉ (cxOf CX P w K mg base N qual scope f cd A outer s H E).ex := fun b z => absurd (show b ∈ ([] : List Addr) from z) (by simp)
  refine ⟨⟨e0.mod, S.kind, rfl, rfl, Nat.le_refl _, fun y z c h1 h2 => ?_, fun y hy => ?_, fun y c _ h => ?_, fun _ => hd, Around.frames_deeper e0.frames, .inr ⟨rfl, rfl⟩, fun b z => absurd z (noA b), e0.bs, e0.bsz, fun b _ _ => noA b, fun b z => absurd z (noA b), e0.funs, e0.frf⟩,
    rfl, e0.bare, Un.kept hk, ⟨_, x.toInCall.ns, fun i y v h1 h2 h3 => ?_⟩, fun y c h => ⟨_, x.cell y c h⟩, e0.hok.fresh (Nat.le_refl _), fun y c h => ?_, fun p hp => absurd (show p ∈ ([] : List (Addr × Obj)) from hp) (by simp), e0.hok.kept hk, ?_⟩
  · exact name_of_addr x.apart (PySem.mem_of_lookup h1) (PySem.mem_of_lookup h2)
  · have hy : scope.names.lookup y = some .cell ∨ scope.names.lookup y = some .free := hy
    rcases hy with hy | hy
    · exact cell_has hy
    · exact absurd rfl (S.nofree _ (PySem.mem_of_lookup hy))
  · exact Nat.le_of_lt (x.above y c (PySem.mem_of_lookup h))
  · have hi : i < vs.length := by
      unfold start at h2
      by_cases hi : i < vs.length
      · exact hi
      · rw [List.getElem?_append_right (by simpa using hi)] at h2
        rw [List.getElem?_replicate] at h2
        split at h2 <;> cases h2
    have ha : vs[i]? = some v := by
      unfold start at h2
      rw [List.getElem?_append_left (by simpa using hi), List.getElem?_map] at h2
      cases e : vs[i]? with
      | none => rw [e] at h2; cases h2
      | some a => rw [e] at h2; cases h2; rfl
    obtain ⟨u, hu, rv⟩ := r.get ha
    have hp : ps[i]? = some y := by
      rw [← S.pre, List.getElem?_take_of_lt (by omega)]; exact h1
    have ndP : ps.Nodup := by rw [← S.pre]; exact S.nd.sublist (List.take_sublist _ _)
    refine ⟨u, rv, ?_⟩
    rcases S.par y (List.mem_of_getElem? hp) with k | k
    · exact .inl ⟨k, bindL_get ndP hp hu k⟩
    · obtain ⟨c, e⟩ := cell_has (n := s.heap.objs.size + 1) k
      refine .inr ⟨.inl k, c, e, ?_⟩
      have q := x.cell y c e
      rw [bindC_get ndP hp hu (by show scope.names.lookup y ≠ _; rw [k]; decide)] at q
      exact q
  · exact e0.hok.fresh (Nat.le_of_lt (x.above y c (PySem.mem_of_lookup h)))
  · unfold start
    show _ = N.length
    rw [List.length_append, List.length_map, List.length_replicate]
    omega
theorem fn_of {CX : CXT} {P : Program} {w : World} {K : PySem.W.Frag} {mg : Str → Option Value} {base : Heap} {k : Nat} {f : Addr} {name qual : Str} {params : Arguments} {body : List Stmt} {scope : Scope} {dV kV doc pm cdv ct oc : Value} {an od : Option Addr}
    {osl : Array (Option Value)} {N ps : List Str} {sp : Sp} (lk : K.lookup f = some ⟨oc, od, .func (PySem.W.fnOf name qual params body scope dV kV doc pm an cdv ct), osl⟩) (hcd : PySem.W.codeIn K cdv qual = true) (S : FnScope N ps scope)
    (len : ∀ vs H Q E, sp vs H Q E → vs.length = ps.length)
    (hbody : ∀ (A : Around) (outer : List Env) (s : Shared) (H : Hp) (vs : List V) (Q : VK) (E : XK), Room k (A.deeper (envOfC qual scope s.heap.objs.size f cdv)) → sp vs H Q E →
      ∃ t, PSs (cxOf CX P w K mg base N qual scope f cdv A outer s H E) body t ∧ t { nx := fun _ H' => Q .non H', rt := Q } (start N vs) H) :
    FnOk P w K mg base CX (k + 1) f (PySem.W.fnOf name qual params body scope dV kV doc pm an cdv ct) ps sp := by
  refine ⟨len, fun A outer s H args us vs Q E hr e0 hb r hsp => ?_⟩
  have hl := len _ _ _ _ hsp
  have KX : K.In s.heap := e0.mod.kin.keeps fun b o e => (e0.bs b o e).1
  have lim : s.heap.NoLimit := e0.mod.nolimit.keeps fun b o e => (e0.bs b o e).1
  have hkind : ∀ y ∈ ps.zip us, scope.names.lookup y.1 = some .local ∨ (scope.names.lookup y.1 = some .cell ∧ ((cellsFrom (s.heap.objs.size + 1) scope.names []).lookup y.1).isSome = true) := fun ⟨n, v⟩ hy => by
    rcases S.par n (List.of_mem_zip hy).1 with q | q
    · exact .inl q
    · exact .inr ⟨q, PySem.W.cellsFrom_some _ _ _ (.inl q)⟩
  refine codeAny_call_function hr.depth (KX _ _ lk) rfl S.co S.gen rfl (PySem.W.codeRec_of KX hcd) (hb _ _ _ _ ?_)
  refine wpAny_newFunctionEnv_cells S.kind hkind fun env he s1 x => ?_
  subst he
  refine ⟨lim.keeps x.toInCall.keep, codeAny_func ?_⟩
  obtain ⟨t, ht, hq⟩ := hbody A outer s H vs Q E (hr.deeper _) hsp
  have I : Inv (cxOf CX P w K mg base N qual scope f cdv A outer s H E) [] (start N vs) H s1 := inv_start S hr.hd e0 hl r x
  refine wpAny_mono (ht [] s1 (start N vs) H _ I hq) (fun fl s' hs => ?_) fun e s' hs => hs
  have fin : ∀ {σ' : St} {H' : Hp} {v : V} {u : Value}, Inv (cxOf CX P w K mg base N qual scope f cdv A outer s H E) [] σ' H' s' → RelV v u → Q v H' → CE outer P w H s Q u s' :=
    fun {σ' H' v u} J rv q => ⟨v, H', J.os, J.bare, J.base, J.hok, rv, q⟩
  cases fl with
  | ret u =>
    obtain ⟨v, σ', H', J, rv, q⟩ := hs
    exact fin J rv q
  | next =>
    obtain ⟨σ', H', J, q⟩ := hs
    exact fin (v := V.non) (u := Value.none) J rfl q
  | brk =>
    obtain ⟨_, _, _, q⟩ := hs
    exact False.elim q
  | cont =>
    obtain ⟨_, _, _, q⟩ := hs
    exact False.elim q
end L2
namespace L2
open PySem PySem.Spec PyProof.Rows
section
variable {X : Cx} {x : Str} {p pos : Pos} {e : Expr} {es : List Expr} {t : TA} {id T : String} {r : List V → Hp → VK → Prop}
noncomputable def tCB (r : List V → Hp → VK → Prop) (t : TA) : TE := fun σ H Q => t σ H fun vs H1 => r vs H1 Q
theorem pe_callB (hc : CallR X (.builtin id) r) (hg : Gl X x) (hm : X.mg x = none) (hv : bootBuiltins x = some (.builtin id)) (ha : PA X (e :: es) t) (hn : x ≠ "__name__" := by decide) (hdb : (x == ("__debug__" : Str)) = false := by decide)
    (he : starEach (e :: es) X.env = (false, eval e X.env) :: starEach es X.env := by rfl) (hpl : (backTo pos (starEach es X.env)).any (·.1) = false := by rfl) : PE X (.Call (.Name x p) (e :: es) [] pos) (tCB r t) := by
  intro pins s σ H Q I h
  refine wpAny_Call_Name_kw (ld_blt I hg hm hv ?_ hn hdb)
  exact PyProof.Rows.callWith_builtin1 (thn (ha pos pins s σ H _ I h) fun us s1 ⟨vs, H1, I1, r1, q1⟩ => hc pins s1 σ H1 vs us Q I1 r1 q1) he hpl
theorem pe_callTy (hc : CallR X (.type T) r) (hg : Gl X x) (hm : X.mg x = none) (hv : bootBuiltins x = some (.type T)) (ha : PA X (e :: es) t) (hn : x ≠ "__name__" := by decide) (hdb : (x == ("__debug__" : Str)) = false := by decide)
    (he : starEach (e :: es) X.env = (false, eval e X.env) :: starEach es X.env := by rfl) (hpl : (backTo pos (starEach es X.env)).any (·.1) = false := by rfl) : PE X (.Call (.Name x p) (e :: es) [] pos) (tCB r t) := by
  intro pins s σ H Q I h
  refine wpAny_Call_Name_kw (ld_blt I hg hm hv ?_ hn hdb)
  exact PyProof.Rows.callWith_type1 (thn (ha pos pins s σ H _ I h) fun us s1 ⟨vs, H1, I1, r1, q1⟩ => hc pins s1 σ H1 vs us Q I1 r1 q1) he hpl
end
end L2
namespace HT
open PySem PyProof.Rows
section
open PySem.SeqAt
open PySem.AutoSeq1 (wpAny_loadPart')
open PySem.MeetsSeq PySem.MeetsSeq2 PySem.MeetsSeq3
end
section
variable {prog : Program} {w : World} {A : Around} {E : Value → Shared → Prop} {s : Shared}
theorem cat_tup {t b : Addr} {vs ws : List Value} {Q : Value → Shared → Prop} (ht : IsTup s.heap t vs.toArray) (hb : IsTup s.heap b ws.toArray) (hv : vs ≠ [])
    (h1 : ws = [] → Q (.ref t) s) (h2 : ws ≠ [] → Q (.ref s.heap.objs.size) { s with heap := s.heap.push { cls := .type "tuple", data := .seq (vs ++ ws).toArray } })
    (hsz : vs.length + ws.length ≤ sizeLine) : wpAny (model prog w) A (binaryOp .Add (.ref t) (.ref b)) Q E s := by
  obtain ⟨⟨cls, dd, data, sl⟩, ho, hc, n, hd⟩ := id ht
  obtain ⟨⟨cls2, dd2, data2, sl2⟩, ho2, hc2, n2, hd2⟩ := id hb
  simp only at hc hd hc2 hd2
  subst hc hd hc2 hd2
  have e : vs.toArray ++ ws.toArray = (vs ++ ws).toArray := by simp
  by_cases hw : ws = []
  · exact concat_meets ⟨_, ho, rfl⟩ ⟨_, ho2, rfl⟩ noFill_tuple_add seq_tuple_add PySem.F.slot_tuple_add PySem.F.entry_tuple_add (PySem.F.args_tuple_add_2 _ _)
      (tuple_addW1 t b vs.toArray ws.toArray n n2 dd dd2 sl sl2 (by simpa using hv) (by simp [hw])) ⟨ho, ho2, h1 hw⟩
  · refine concat_meets ⟨_, ho, rfl⟩ ⟨_, ho2, rfl⟩ noFill_tuple_add seq_tuple_add PySem.F.slot_tuple_add PySem.F.entry_tuple_add (PySem.F.args_tuple_add_2 _ _)
      (tuple_addW2 t b vs.toArray ws.toArray n n2 dd dd2 sl sl2 (by simpa using hv) (by simpa using hw) (by rw [List.size_toArray, List.size_toArray]; exact hsz)) ⟨ho, ho2, ?_⟩
    rw [e]
    exact h2 hw
noncomputable def sIx (n d : Nat) : Option Int → Nat
  | none => d
  | some v => if v < 0 then (v + (n : Int)).toNat else min v.toNat n
theorem sIx_none (n d : Nat) : sIx n d none = d := rfl
theorem sIx_nat (n d k : Nat) : sIx n d (some (k : Int)) = min k n := by
  show (if (k : Int) < 0 then ((k : Int) + (n : Int)).toNat else min (k : Int).toNat n) = min k n
  rw [if_neg (by omega), Int.toNat_natCast]
theorem sIx_le (n d : Nat) (hd : d ≤ n) (o : Option Int) : sIx n d o ≤ n := by
  cases o with
  | none => exact hd
  | some v =>
    show (if v < 0 then (v + (n : Int)).toNat else min v.toNat n) ≤ n
    by_cases hv : v < 0
    · rw [if_pos hv]; omega
    · rw [if_neg hv]; exact Nat.min_le_right _ _
theorem clip_eq (v : Int) (n d : Nat) : (if v < 0 then max (v + (n : Int)) 0 else min v (n : Int)) = ((sIx n d (some v) : Nat) : Int) := by
  show (if v < 0 then max (v + (n : Int)) 0 else min v (n : Int)) = (((if v < 0 then (v + (n : Int)).toNat else min v.toNat n) : Nat) : Int)
  by_cases hv : v < 0
  · simp only [if_pos hv]; omega
  · simp only [if_neg hv]; omega
theorem adjust_gen (lo hi : Option Int) (n : Nat) : Builtin.Slice.sliceAdjust lo hi 1 (n : Int) = (((sIx n 0 lo : Nat) : Int), ((sIx n n hi : Nat) : Int)) := by
  have h1 : ¬ ((1 : Int) < 0) := by omega
  unfold Builtin.Slice.sliceAdjust
  simp only [h1, if_false]
  refine Prod.ext ?_ ?_
  · cases lo with
    | none => rfl
    | some v => exact clip_eq v n 0
  · cases hi with
    | none => rfl
    | some v => exact clip_eq v n n
theorem places_gen (i j : Nat) : Builtin.Slice.slicePlaces (i : Int) (j : Int) 1 = j - i := by
  unfold Builtin.Slice.slicePlaces
  have h1 : (1 : Int) > 0 := by omega
  simp only [h1, if_true, Int.ediv_one]
  split <;> omega
theorem slicePart_ {v : Value} {o : Option Int} {Q : Option Int → Shared → Prop} (p : IsPart v o) (h : Q o s) : wpAny (model prog w) A (Builtin.Slice.slicePartIndex v) Q E s := by
  cases p with
  | none => exact slicePart_none h
  | int i t => exact slicePart_int h
theorem sliceApplied_gen {sl : Addr} {vl vu : Value} {lo hi : Option Int} {n : Nat} {Q : Int × Int × Nat → Shared → Prop} (hs : s.heap.IsSliceOf sl vl vu .none) (pl : IsPart vl lo) (pu : IsPart vu hi)
    (h : Q (((sIx n 0 lo : Nat) : Int), 1, sIx n n hi - sIx n 0 lo) s) : wpAny (model prog w) A (Builtin.Slice.sliceApplied (.ref sl) (pure (n : Int))) Q E s := by
  obtain ⟨os, hos, hcs, hds⟩ := id hs
  unfold Builtin.Slice.sliceApplied Builtin.Slice.sliceFields
  refine wpAny_bind (wpAny_bind (wpAny_field hos hds (x := vl) rfl (wpAny_bind (wpAny_field hos hds (x := vu) rfl (wpAny_bind (wpAny_field hos hds (x := .none) rfl (wpAny_pure ?_)))))))
  refine wpAny_bind (slicePart_none ?_)
  show wpAny _ _ (if ((1 : Int) == 0) = true then _ else _) _ _ s
  rw [if_neg (by decide)]
  refine wpAny_bind (slicePart_ pl (wpAny_bind (slicePart_ pu (wpAny_bind (wpAny_pure ?_)))))
  show wpAny _ _ (match Builtin.Slice.sliceAdjust lo hi 1 (n : Int) with | (lo, hi) => pure (lo, (1 : Int), Builtin.Slice.slicePlaces lo hi 1)) _ _ s
  rw [adjust_gen lo hi n]
  show wpAny _ _ (pure (((sIx n 0 lo : Nat) : Int), (1 : Int), Builtin.Slice.slicePlaces ((sIx n 0 lo : Nat) : Int) ((sIx n n hi : Nat) : Int) 1)) _ _ s
  rw [places_gen]
  exact wpAny_pure h
theorem pick_gen (xs : Array Value) (i k : Nat) : ((List.range k).filterMap fun (m : Nat) => xs[((i : Int) + (m : Int) * 1).toNat]?).toArray = ((xs.toList.drop i).take k).toArray := by
  have e : (fun (m : Nat) => xs[((i : Int) + (m : Int) * 1).toNat]?) = fun m => xs[i + m]? := by
    funext m
    have : ((i : Int) + (m : Int) * 1).toNat = i + m := by omega
    rw [this]
  rw [e]
  have := pick_run xs i k
  rw [List.filterMap_map] at this
  have e2 : ((fun x => xs[x]?) ∘ fun x => i + x) = fun m => xs[i + m]? := rfl
  rw [e2] at this
  rw [this]
theorem getItem_tuple_cut {t sl : Addr} {items : Array Value} {vl vu : Value} {lo hi : Option Int} {Q : Value → Shared → Prop} (ht : IsTup s.heap t items) (hs : s.heap.IsSliceOf sl vl vu .none) (pl : IsPart vl lo) (pu : IsPart vu hi)
    (hw : ¬ (sIx items.size 0 lo = 0 ∧ sIx items.size items.size hi = items.size))
    (h : Q (.ref s.heap.objs.size) { s with heap := s.heap.push { cls := .type "tuple", data := .seq ((items.toList.drop (sIx items.size 0 lo)).take (sIx items.size items.size hi - sIx items.size 0 lo)).toArray } })
    (hsz : items.size ≤ sizeLine) : wpAny (model prog w) A (getItem (.ref t) (.ref sl)) Q E s := by
  have htake : sizeOk (.seq ((items.toList.drop (sIx items.size 0 lo)).take (sIx items.size items.size hi - sIx items.size 0 lo)).toArray) := by
    show ((items.toList.drop (sIx items.size 0 lo)).take (sIx items.size items.size hi - sIx items.size 0 lo)).toArray.size ≤ sizeLine
    rw [List.size_toArray, List.length_take, List.length_drop, Array.length_toList]
    omega
  have hj : sIx items.size items.size hi ≤ items.size := sIx_le _ _ (Nat.le_refl _) hi
  obtain ⟨os, hos, hcs, hds⟩ := id hs
  have hTs : s.TypeIs (.ref sl) "slice" := ⟨os, hos, hcs⟩
  unfold getItem
  try with_reducible refine wpAny_holding ?_
  first | refine wpAny_bind (wpAny_pure ?_) | skip
  refine wpAny_bind (wpAny_sequenceKey ht.typeIs (by decide) ?_)
  refine wpAny_bind (wpAny_callSpecial?_slot (name := Str.ofString "__getitem__") ht.typeIs PyProof.Rows.slot_tuple_getitem
    (wpAny_call_entry PyProof.Rows.slot_tuple_getitem ht.typeIs entry_tuple_getitem ?_ (args_tuple_getitem _ _)))
  show wpAny _ _ (Builtin.Tuple.tupleItemsOf (.ref t) >>= _) _ _ s
  refine wpAny_bind (tupleItemsOf_ ht ?_)
  refine wpAny_bind (wpAny_typeOf hTs ?_)
  rw [if_pos (by decide)]
  refine wpAny_bind (sliceApplied_gen hs pl pu ?_)
  have hno : ¬ ((((sIx items.size 0 lo : Nat) : Int) == 0 && (1 : Int) == 1 && (sIx items.size items.size hi - sIx items.size 0 lo) == items.size) = true) := by
    intro q
    rw [Bool.and_eq_true, Bool.and_eq_true] at q
    have q1 : ((sIx items.size 0 lo : Nat) : Int) = 0 := eq_of_beq q.1.1
    have q2 : sIx items.size items.size hi - sIx items.size 0 lo = items.size := eq_of_beq q.2
    exact hw ⟨by omega, by omega⟩
  show wpAny _ _ (if (((sIx items.size 0 lo : Nat) : Int) == 0 && (1 : Int) == 1 && (sIx items.size items.size hi - sIx items.size 0 lo) == items.size) = true then _ else _) _ _ s
  rw [if_neg hno, pick_gen]
  first
    | exact wpAny_bind (m := Builtin.Tuple.tupleExact _) (wpAny_newObj_type (wpAny_pure ⟨_, rfl, wpAny_pure h⟩) htake)
    | exact wpAny_bind (m := Builtin.Tuple.tupleExact _) (wpAny_newObj_type (wpAny_bind (wpAny_pure (wpAny_pure ⟨_, rfl, wpAny_pure h⟩))) htake)
    | exact wpAny_bind (wpAny_bind (m := Builtin.Tuple.tupleExact _) (wpAny_newObj_type (wpAny_pure (wpAny_pure ⟨_, rfl, wpAny_pure h⟩)) htake))
    | exact wpAny_bind (wpAny_bind (m := Builtin.Tuple.tupleExact _) (wpAny_newObj_type (wpAny_pure ⟨_, rfl, wpAny_pure h⟩) htake))
end
end HT
namespace L2
open PySem PySem.Spec PyProof.Rows
noncomputable abbrev TO := St → Hp → (Option Int → Hp → Prop) → Prop
noncomputable def PO (X : Cx) (e : Option Expr) (t : TO) : Prop :=
  ∀ (pins : List (Addr × Obj)) (s : Shared) (σ : St) (H : Hp) (Q : Option Int → Hp → Prop), Inv X pins σ H s → t σ H Q →
    wpAny (model X.prog X.w) X.A (evalPart e X.env) (fun u s' => ∃ o H', Inv X pins σ H' s' ∧ IsPart u o ∧ Q o H') X.xe s
noncomputable def tNoPart : TO := fun _ H Q => Q none H
noncomputable def tPart (t : TE) : TO := fun σ H Q => t σ H fun x H1 => ∃ i, x = .int i ∧ Q (some i) H1
section
variable {X : Cx} {e : Expr} {te : TE} {lo hi : Option Expr} {tl th : TO} {pos p2 : Pos}
theorem po_none : PO X none tNoPart := by
  intro pins s σ H Q I h
  rw [evalPart_none]
  exact wpAny_pure ⟨none, H, I, .none, h⟩
theorem po_some (h : PE X e te) : PO X (some e) (tPart te) := by
  intro pins s σ H Q I hw
  rw [evalPart_some]
  refine thn (h pins s σ H _ I hw) fun u s1 ⟨x, H1, I1, r1, q1⟩ => ?_
  obtain ⟨i, rfl, q⟩ := q1
  obtain ⟨t, rfl⟩ := r1
  exact ⟨some i, H1, I1, .int i t, q⟩
noncomputable def SlR (X : Cx) (r : V → Option Int → Option Int → Hp → VK → Prop) : Prop :=
  ∀ (pins : List (Addr × Obj)) (s : Shared) (σ : St) (H : Hp) (x : V) (v vl vu : Value) (lo hi : Option Int) (sl : Addr) (Q : VK), Inv X pins σ H s → RelV x v → s.heap.IsSliceOf sl vl vu .none → IsPart vl lo → IsPart vu hi → r x lo hi H Q →
    ∃ T id, typeLookup (.type T) "__getitem__" = pure (some (.builtin id)) ∧ s.TypeIs v T ∧ wpAny (model X.prog X.w) X.A (getItem v (.ref sl)) (EP X pins σ Q) X.xe s
theorem SlR.or {r r' : V → Option Int → Option Int → Hp → VK → Prop} (h : SlR X r) (h' : SlR X r') : SlR X (fun x lo hi H Q => r x lo hi H Q ∨ r' x lo hi H Q) := by
  intro pins s σ H x v vl vu lo hi sl Q I rx hs pl pu q
  rcases q with q | q
  · exact h pins s σ H x v vl vu lo hi sl Q I rx hs pl pu q
  · exact h' pins s σ H x v vl vu lo hi sl Q I rx hs pl pu q
noncomputable def tSl (r : V → Option Int → Option Int → Hp → VK → Prop) (te : TE) (tl th : TO) : TE := fun σ H Q => te σ H fun x H1 => tl σ H1 fun l H2 => th σ H2 fun u H3 => r x l u H3 Q
theorem pe_slice {r : V → Option Int → Option Int → Hp → VK → Prop} (hr : SlR X r) (he : PE X e te) (hl : PO X lo tl) (hu : PO X hi th) : PE X (.Subscript e (.Slice lo hi none p2) pos) (tSl r te tl th) := by
  intro pins s σ H Q I h
  refine Subscript_ (thn (he pins s σ H _ I h) fun v s1 ⟨x, H1, I1, r1, q1⟩ => ?_)
  refine wpAny_Slice (thn (hl pins s1 σ H1 _ I1 q1) fun vl s2 ⟨l, H2, I2, pl, q2⟩ => thn (hu pins s2 σ H2 _ I2 q2) fun vu s3 ⟨u, H3, I3, pu, q3⟩ => ?_)
  rw [evalPart_none]
  refine wpAny_pure ?_
  have I4 : Inv X pins σ H3 { s3 with heap := s3.heap.push { cls := .type "slice", data := .fields #[vl, vu, .none] } } := I3.kept (t' := s3.toks) fun b ob q => Heap.get?_push_of_some _ q
  obtain ⟨T, id, hT, ht, hg⟩ := hr pins { s3 with heap := s3.heap.push { cls := .type "slice", data := .fields #[vl, vu, .none] } } σ H3 x v vl vu l u s3.heap.objs.size Q I4 r1 (Heap.IsSliceOf.new ..) pl pu q3
  show wpAny (model X.prog X.w) X.A (subscriptTail e (.Slice lo hi none p2) v (.ref s3.heap.objs.size)) (EP X pins σ Q) X.xe { s3 with heap := s3.heap.push { cls := .type "slice", data := .fields #[vl, vu, .none] } }
  exact tail_any (ops := [.ref s3.heap.objs.size, v]) ht hT hg (by with_unfolding_all rfl)
noncomputable def cutV (xs : List V) (lo hi : Option Int) : List V := (xs.drop (HT.sIx xs.length 0 lo)).take (HT.sIx xs.length xs.length hi - HT.sIx xs.length 0 lo)
theorem cutV_length (xs : List V) (lo hi : Option Int) : (cutV xs lo hi).length ≤ xs.length := by
  unfold cutV
  rw [List.length_take, List.length_drop]
  omega
noncomputable def rSlT (K : PySem.W.Frag) : V → Option Int → Option Int → Hp → VK → Prop := fun x lo hi H Q => ∃ a xs, x = .ref a ∧ SqT K H a xs ∧
  ¬ (HT.sIx xs.length 0 lo = 0 ∧ HT.sIx xs.length xs.length hi = xs.length) ∧ ∀ p, H p = none → Q (.ref p) (upd H p (.tup (cutV xs lo hi)))
theorem sl_tup : SlR X (rSlT X.K) := by
  intro pins s σ H x v vl vu lo hi sl Q I rx hs pl pu h
  obtain ⟨a, xs, rfl, hx, hw, q⟩ := h
  cases rx
  obtain ⟨its, r, ht, hz⟩ := I.tuple hx
  have hlen : its.toArray.size = xs.length := by rw [List.size_toArray]; exact r.length.symm
  refine ⟨"tuple", _, PyProof.Rows.slot_tuple_getitem.lookup, ht.typeIs, ?_⟩
  refine HT.getItem_tuple_cut ht hs pl pu (by rw [hlen]; exact hw) ?_ (by rw [hlen]; exact hz)
  rw [hlen]
  refine ⟨.ref s.heap.objs.size, _, I.laid (t' := s.toks) (o := .tup (cutV xs lo hi)) (fun b ob q => Heap.get?_push_of_some _ q) (Nat.le_refl _) ?_, rfl, q _ (I.hok.fresh (Nat.le_refl _))⟩
  exact ⟨Nat.le_trans (cutV_length xs lo hi) hz, _, (r.drop (HT.sIx xs.length 0 lo)).take (HT.sIx xs.length xs.length hi - HT.sIx xs.length 0 lo), IsTup.new _ _⟩
noncomputable def rCatT (K : PySem.W.Frag) : R2 := fun x y H Q => ∃ a b xs ys, x = .ref a ∧ y = .ref b ∧ SqT K H a xs ∧ SqT K H b ys ∧ xs ≠ [] ∧ xs.length + ys.length ≤ sizeLine ∧
  (ys = [] → Q (.ref a) H) ∧ (ys ≠ [] → ∀ p, H p = none → Q (.ref p) (upd H p (.tup (xs ++ ys))))
theorem Vals.nil_iff {xs : List V} {us : List Value} (r : Vals xs us) : us = [] ↔ xs = [] := by
  cases r with
  | nil => simp
  | cons _ _ => simp
theorem op_catT : OpR X (binaryOp .Add) (rCatT X.K) := by
  intro pins s σ H x y v u Q I rx ry h
  obtain ⟨a, b, xs, ys, rfl, rfl, ha, hb, hx, hz, q1, q2⟩ := h
  cases rx
  cases ry
  obtain ⟨its, r1, p1, _⟩ := I.tuple ha
  obtain ⟨its2, r2, p2, _⟩ := I.tuple hb
  refine HT.cat_tup p1 p2 (fun z => hx (r1.nil_iff.mp z)) (fun z => ⟨.ref a, H, I, rfl, q1 (r2.nil_iff.mp z)⟩) (fun z => ?_) (by rw [← r1.length, ← r2.length]; exact hz)
  refine ⟨.ref s.heap.objs.size, _, I.laid (t' := s.toks) (o := .tup (xs ++ ys)) (fun b ob q => Heap.get?_push_of_some _ q) (Nat.le_refl _) ?_, rfl, q2 (fun w => z (r2.nil_iff.mpr w)) _ (I.hok.fresh (Nat.le_refl _))⟩
  exact ⟨by rw [List.length_append]; exact hz, _, r1.append r2, IsTup.new _ _⟩
end
end L2
namespace L2
open PySem PySem.Spec PyProof.Rows
noncomputable def ixN (n : Nat) (i : Int) : Option Nat := if 0 ≤ i then (if i < n then some i.toNat else none) else if -(n : Int) ≤ i then some (i + n).toNat else none
noncomputable def atI {α : Type} (xs : List α) (i : Int) : Option α := (ixN xs.length i).bind fun j => xs[j]?
theorem ixN_seq {n : Nat} {i : Int} {j : Nat} (h : ixN n i = some j) : seqIndex? i n = some j ∧ j < n ∧ -(n : Int) ≤ i ∧ i < n := by
  unfold ixN at h
  by_cases h0 : 0 ≤ i
  · rw [if_pos h0] at h
    by_cases h1 : i < n
    · rw [if_pos h1] at h
      have e : i.toNat = j := Option.some.inj h
      exact ⟨by rw [seqIndex_of h0 h1, e], by omega, by omega, h1⟩
    · rw [if_neg h1] at h; cases h
  · rw [if_neg h0] at h
    by_cases h1 : -(n : Int) ≤ i
    · rw [if_pos h1] at h
      have e : (i + n).toNat = j := Option.some.inj h
      exact ⟨by rw [seqIndex_neg (by omega) h1, e], by omega, h1, by omega⟩
    · rw [if_neg h1] at h; cases h
theorem atI_get {α : Type} {xs : List α} {i : Int} {v : α} (h : atI xs i = some v) : ∃ j, seqIndex? i xs.length = some j ∧ xs[j]? = some v ∧ j < xs.length ∧ -(xs.length : Int) ≤ i ∧ i < xs.length := by
  unfold atI at h
  cases e : ixN xs.length i with
  | none => rw [e] at h; cases h
  | some j =>
    rw [e] at h
    obtain ⟨h1, h2, h3, h4⟩ := ixN_seq e
    exact ⟨j, h1, h, h2, h3, h4⟩
theorem atI_nat {α : Type} {xs : List α} {j : Nat} {v : α} (h : xs[j]? = some v) : atI xs (j : Int) = some v := by
  have hj : j < xs.length := (List.getElem?_eq_some_iff.mp h).1
  have e : ixN xs.length (j : Int) = some j := by
    unfold ixN
    rw [if_pos (by omega), if_pos (by omega)]; simp
  unfold atI; rw [e]; exact h
noncomputable def PlainIx (b : Expr) : Prop := ∀ o i, subscripted b false o i = operate [o, i] (getItem o i)
noncomputable def IxR (X : Cx) (r : R2) : Prop :=
  ∀ (value slice : Expr) (pins : List (Addr × Obj)) (s : Shared) (σ : St) (H : Hp) (x y : V) (v u : Value) (Q : VK), Inv X pins σ H s → RelV x v → RelV y u → r x y H Q →
    subscripted slice false v u = operate [v, u] (getItem v u) → wpAny (model X.prog X.w) X.A (subscriptTail value slice v u) (EP X pins σ Q) X.xe s
noncomputable def MtR (X : Cx) (id : String) (r : V → List V → Hp → VK → Prop) : Prop :=
  ∀ (pins : List (Addr × Obj)) (s : Shared) (σ : St) (H : Hp) (x : V) (xs : List V) (v : Value) (us : List Value) (Q : VK), Inv X pins σ H s → RelV x v → Vals xs us → r x xs H Q →
    wpAny (model X.prog X.w) X.A (call (.builtin id) (v :: us)) (EP X pins σ Q) X.xe s
section
variable {X : Cx} {a b : Expr} {ta tb : TE} {pos : Pos}
theorem IxR.or {r r' : R2} (h : IxR X r) (h' : IxR X r') : IxR X (fun x y H Q => r x y H Q ∨ r' x y H Q) := by
  intro value slice pins s σ H x y v u Q I rx ry q hs
  rcases q with q | q
  · exact h value slice pins s σ H x y v u Q I rx ry q hs
  · exact h' value slice pins s σ H x y v u Q I rx ry q hs
theorem MtR.or {id : String} {r r' : V → List V → Hp → VK → Prop} (h : MtR X id r) (h' : MtR X id r') : MtR X id (fun x xs H Q => r x xs H Q ∨ r' x xs H Q) := by
  intro pins s σ H x xs v us Q I rx rs q
  rcases q with q | q
  · exact h pins s σ H x xs v us Q I rx rs q
  · exact h' pins s σ H x xs v us Q I rx rs q
theorem pe_ix {r : R2} (hr : IxR X r) (ha : PE X a ta) (hb : PE X b tb) (hs : PlainIx b) : PE X (.Subscript a b pos) (tOp r ta tb) := by
  intro pins s σ H Q I h
  exact Subscript_ (binT ha hb I h fun v u s2 x y H2 I2 rx ry q => hr a b pins s2 σ H2 x y v u Q I2 rx ry q (hs _ _))
noncomputable def rIxL (K : PySem.W.Frag) : R2 := fun x y H Q => ∃ p xs i v, x = .ref p ∧ y = .int i ∧ SqL K H p xs ∧ atI xs i = some v ∧ Q v H
noncomputable def rIxT (K : PySem.W.Frag) : R2 := fun x y H Q => ∃ p xs i v, x = .ref p ∧ y = .int i ∧ SqT K H p xs ∧ atI xs i = some v ∧ Q v H
noncomputable def rIxS : R2 := fun x y H Q => ∃ z i c, x = .str z ∧ y = .int i ∧ z.length ≤ sizeLine ∧ atI z.cps.toList i = some c ∧ Q (.str ⟨#[c]⟩) H
theorem ix_list : IxR X (rIxL X.K) := by
  intro value slice pins s σ H x y v u Q I rx ry h hs
  obtain ⟨p, xs, i, z, rfl, rfl, hq, he, q⟩ := h
  cases rx
  obtain ⟨t, rfl⟩ := ry
  obtain ⟨its, r, pl, hz⟩ := I.list hq
  obtain ⟨j, h1, h2, h3, h4, h5⟩ := atI_get he
  obtain ⟨w, ew, rw'⟩ := r.get h2
  have hl := r.length
  have hn := line63
  have fin : EP X pins σ Q w s := ⟨z, H, I, rw', q⟩
  by_cases h0 : 0 ≤ i
  · have hj : i.toNat = j := by
      rw [seqIndex_of h0 h5] at h1
      exact Option.some.inj h1
    exact item_listR pl.isList h0 (by omega) (by rw [hj]; simpa using ew) fin hs
  · have hj : (i + (its.toArray.size : Int)).toNat = j := by
      rw [seqIndex_neg (by omega) h4] at h1
      rw [List.size_toArray, ← hl]
      exact Option.some.inj h1
    exact subscriptTail_builtinR (x := w) pl.isList.typeIs slot_list_getitem.lookup
      (wpAny_getItem_list_neg (Q := fun r s' => r = w ∧ EP X pins σ Q r s') pl.isList (by omega) (by rw [List.size_toArray] <;> omega) (by omega) (by rw [hj]; simpa using ew) ⟨rfl, fin⟩) hs
theorem ix_tup : IxR X (rIxT X.K) := by
  intro value slice pins s σ H x y v u Q I rx ry h hs
  obtain ⟨p, xs, i, z, rfl, rfl, hq, he, q⟩ := h
  cases rx
  obtain ⟨t, rfl⟩ := ry
  obtain ⟨its, r, pl, hz⟩ := I.tuple hq
  obtain ⟨j, h1, h2, h3, h4, h5⟩ := atI_get he
  obtain ⟨w, ew, rw'⟩ := r.get h2
  have hl := r.length
  have hn := line63
  have fin : EP X pins σ Q w s := ⟨z, H, I, rw', q⟩
  exact subscriptTail_builtinR (x := w) pl.typeIs slot_tuple_getitem.lookup
    (getItem_tuple (j := j) (Q := fun r s' => r = w ∧ EP X pins σ Q r s') pl (by omega) (by omega) (by rw [List.size_toArray, ← hl]; exact h1) (by simpa using ew) ⟨rfl, fin⟩) hs
theorem ix_str : IxR X rIxS := by
  intro value slice pins s σ H x y v u Q I rx ry h hs
  obtain ⟨z, i, c, rfl, rfl, hz, he, q⟩ := h
  obtain ⟨t, rfl⟩ := rx
  obtain ⟨t', rfl⟩ := ry
  obtain ⟨j, h1, h2, h3, h4, h5⟩ := atI_get he
  have hl : z.cps.toList.length = z.length := by simp [Str.length]
  rw [hl] at h1 h4 h5
  have hn := line63
  exact tail_any (typeIs_str s z t) slot_str_getitem.lookup (getItem_str (c := c) (by
    have e1 : decide (i < -(2 ^ 63 : Int)) = false := decide_eq_false (by omega)
    have e2 : decide (i ≥ 2 ^ 63) = false := decide_eq_false (by omega)
    rw [e1, e2, Bool.or_false]) (by rw [h1]; simpa using h2) ⟨.str ⟨#[c]⟩, H, I.tok _, ⟨_, rfl⟩, q⟩) hs
noncomputable def rIx (K : PySem.W.Frag) : R2 := fun x y H Q => rIxL K x y H Q ∨ rIxT K x y H Q ∨ rIxS x y H Q
theorem ix_seq : IxR X (rIx X.K) := ix_list.or (ix_tup.or ix_str)
theorem Inv.lst {pins : List (Addr × Obj)} {σ : St} {H : Hp} {s : Shared} {p : Addr} {xs : List V} (I : Inv X pins σ H s) (h : H p = some (.lst xs)) :
    ∃ (its : List Value) (n : Nat), Vals xs its ∧ s.heap.get? p = some { cls := .type "list", data := .seq its.toArray n } ∧ xs.length ≤ sizeLine := by
  obtain ⟨z, its, n, r, e⟩ := I.hok p _ h
  exact ⟨its, n, r, e, z⟩
theorem slice_bounds (lo hi : Option Int) (n : Nat) : (sliceBounds lo hi none n).1 = ((HT.sIx n 0 lo : Nat) : Int) ∧ (sliceBounds lo hi none n).2.1 = ((HT.sIx n n hi : Nat) : Int) ∧ (sliceBounds lo hi none n).2.2 = 1 := by
  refine ⟨?_, ?_, rfl⟩
  · cases lo with
    | none => simp [sliceBounds, HT.sIx]
    | some i =>
      simp only [sliceBounds, HT.sIx, Option.getD_none, show (1 : Int) > 0 by decide, if_true]
      by_cases h : i < 0
      · simp only [h, if_true] <;> omega
      · simp only [h, if_false] <;> omega
  · cases hi with
    | none => simp [sliceBounds, HT.sIx]
    | some i =>
      simp only [sliceBounds, HT.sIx, Option.getD_none, show (1 : Int) > 0 by decide, if_true]
      by_cases h : i < 0
      · simp only [h, if_true] <;> omega
      · simp only [h, if_false] <;> omega
theorem slicePick_cut (its : List Value) (lo hi : Option Int) : slicePick its.toArray lo hi none = ((its.drop (HT.sIx its.length 0 lo)).take (HT.sIx its.length its.length hi - HT.sIx its.length 0 lo)).toArray := by
  obtain ⟨h1, h2, h3⟩ := slice_bounds lo hi its.toArray.size
  unfold slicePick
  rw [h1, h2, h3]
  simp only [sliceRange_one, pick_run, List.size_toArray] <;> rfl
noncomputable def rSlL (K : PySem.W.Frag) : V → Option Int → Option Int → Hp → VK → Prop := fun x lo hi H Q => ∃ a xs, x = .ref a ∧ SqL K H a xs ∧ ∀ p, H p = none → Q (.ref p) (upd H p (.lst (cutV xs lo hi)))
theorem sl_list : SlR X (rSlL X.K) := by
  intro pins s σ H x v vl vu lo hi sl Q I rx hs pl pu h
  obtain ⟨a, xs, rfl, hx, q⟩ := h
  cases rx
  obtain ⟨its, r, ht, hz⟩ := I.list hx
  have hlen := r.length
  refine ⟨"list", _, slot_list_getitem.lookup, ht.isList.typeIs, ?_⟩
  refine wpAny_getItem_list_slice ht.isList hs pl pu .none (by simp) ?_ (by rw [List.size_toArray] <;> omega)
  rw [slicePick_cut, ← hlen]
  refine ⟨.ref s.heap.objs.size, _, I.laid (t' := s.toks) (o := .lst (cutV xs lo hi)) (fun b ob q => Heap.get?_push_of_some _ q) (Nat.le_refl _) ?_, rfl, q _ (I.hok.fresh (Nat.le_refl _))⟩
  exact ⟨Nat.le_trans (cutV_length xs lo hi) hz, _, 0, (r.drop (HT.sIx xs.length 0 lo)).take (HT.sIx xs.length xs.length hi - HT.sIx xs.length 0 lo), Heap.get?_push_size _ rfl⟩
theorem call_len_seq : CallR X (.builtin "len") (fun xs H Q => ∃ p ys, xs = [.ref p] ∧ (SqL X.K H p ys ∨ SqT X.K H p ys) ∧ Q (.int ys.length) H) := by
  intro pins s σ H xs us Q I r h
  obtain ⟨p, ys, rfl, hq, q⟩ := h
  obtain ⟨u, rfl, rx⟩ := vals1 r
  cases rx
  have hn := line63
  rcases hq with hq | hq
  · obtain ⟨its, r', pl, hz⟩ := I.list hq
    have hlen := r'.length
    exact Calls.call_len_list pl.isList (by simp only [List.size_toArray] <;> omega) ⟨.int ys.length, H, I.tok _, ⟨s.toks + 1, by rw [List.size_toArray, hlen]⟩, q⟩
  · obtain ⟨its, r', pl, hz⟩ := I.tuple hq
    have hlen := r'.length
    exact len_tuple pl (by simp only [List.size_toArray] <;> omega) ⟨.int ys.length, H, I.tok _, ⟨s.toks + 1, by rw [List.size_toArray, hlen]⟩, q⟩
theorem CallR.or {f : Value} {r r' : List V → Hp → VK → Prop} (h : CallR X f r) (h' : CallR X f r') : CallR X f (fun xs H Q => r xs H Q ∨ r' xs H Q) := by
  intro pins s σ H xs us Q I rs q
  rcases q with q | q
  · exact h pins s σ H xs us Q I rs q
  · exact h' pins s σ H xs us Q I rs q
theorem call_tuple_of : CallR X (.type "tuple") (fun xs H Q => ∃ p ys, xs = [.ref p] ∧ ((SqL X.K H p ys ∧ ∀ l, H l = none → Q (.ref l) (upd H l (.tup ys))) ∨ (SqT X.K H p ys ∧ Q (.ref p) H))) := by
  intro pins s σ H xs us Q I r h
  obtain ⟨p, ys, rfl, h⟩ := h
  obtain ⟨u, rfl, rx⟩ := vals1 r
  cases rx
  rcases h with ⟨hq, q⟩ | ⟨hq, q⟩
  · obtain ⟨its, r', pl, hz⟩ := I.list hq
    have hlen := r'.length
    refine call_tuple_list pl.isList (fun h' kp => ?_) (by simp only [List.size_toArray] <;> omega)
    have I1 : Inv X pins σ H { s with heap := h' } := I.kept (t' := s.toks) kp
    have I2 : Inv X pins σ (upd H h'.objs.size (.tup ys)) { s with heap := h'.push { cls := .type "tuple", data := .seq its.toArray } } :=
      I1.laid (t' := s.toks) (fun b o e => Heap.get?_push_of_some _ e) (Nat.le_refl _) (show ObjOk X.prog X.w _ _ _ (.tup ys) from ⟨hz, its, r', IsTup.new _ _⟩)
    exact ⟨.ref h'.objs.size, _, I2, rfl, q _ (I1.hok.fresh (Nat.le_refl _))⟩
  · obtain ⟨its, r', pl, hz⟩ := I.tuple hq
    exact call_tuple_same pl ⟨.ref p, H, I, rfl, q⟩
noncomputable def tyV (K : PySem.W.Frag) (T : String) (x : V) (H : Hp) : Prop := match x with
  | .str _ => T = "str"
  | .int _ => T = "int"
  | .ref p => (T = "list" ∧ ∃ xs, SqL K H p xs) ∨ (T = "tuple" ∧ ∃ o, K.lookup p = some o ∧ o.cls = .type "tuple" ∧ o.dict = none) ∨
      (T = "dict" ∧ ((∃ kvs, H p = some (.dK kvs)) ∨ ∃ kvs, H p = some (.dT kvs))) ∨ (T = "set" ∧ ∃ S n, H p = some (.set S n))
  | _ => False
theorem tyV_is {pins : List (Addr × Obj)} {σ : St} {H : Hp} {s : Shared} {T : String} {x : V} {v : Value} (I : Inv X pins σ H s) (r : RelV x v) (ty : tyV X.K T x H) :
    s.TypeIs v T ∧ ∀ a, v = .ref a → ∃ ob, s.heap.get? a = some ob ∧ ob.dict = none := by
  cases x with
  | str z =>
    obtain ⟨t, rfl⟩ := r
    cases (show T = "str" from ty)
    exact ⟨typeIs_str s z t, fun _ e => nomatch e⟩
  | int i =>
    obtain ⟨t, rfl⟩ := r
    cases (show T = "int" from ty)
    exact ⟨typeIs_int s i t, fun _ e => nomatch e⟩
  | ref p =>
    cases r
    rcases ty with ⟨rfl, xs, hq⟩ | ⟨rfl, o, hk, hc, hd⟩ | ⟨rfl, hk⟩ | ⟨rfl, S, n, hk⟩
    · obtain ⟨its, _, pl, _⟩ := I.list hq
      refine ⟨pl.isList.typeIs, fun a e => ?_⟩
      cases e
      obtain ⟨o, n, e, c, hd, _⟩ := pl
      exact ⟨o, e, hd⟩
    · refine ⟨⟨o, I.kIn p o hk, hc⟩, fun a e => ?_⟩
      cases e
      exact ⟨o, I.kIn _ o hk, hd⟩
    · have z : ∃ o, s.heap.get? p = some o ∧ o.ExactDict := by
        rcases hk with ⟨kvs, hk⟩ | ⟨kvs, hk⟩
        · obtain ⟨_, _, _, _, o, _, _, e, ex, _⟩ := I.hok p _ hk
          exact ⟨o, e, ex⟩
        · obtain ⟨_, _, _, _, o, _, _, e, ex, _⟩ := I.hok p _ hk
          exact ⟨o, e, ex⟩
      obtain ⟨o, e, ex⟩ := z
      refine ⟨⟨o, e, ex.1⟩, fun a e2 => ?_⟩
      cases e2
      exact ⟨o, e, ex.2.1⟩
    · obtain ⟨o, _, _, _, e, ex, _⟩ := I.hok p _ hk
      refine ⟨⟨o, e, ex.1⟩, fun a e2 => ?_⟩
      cases e2
      exact ⟨o, e, ex.2.1⟩
  | _ => exact False.elim ty
noncomputable def tBM (K : PySem.W.Frag) (T : String) (r : V → List V → Hp → VK → Prop) (to : TE) (t : TA) : TE := fun σ H Q => to σ H fun x H1 => tyV K T x H1 ∧ t σ H1 fun xs H2 => r x xs H2 Q
variable {o e : Expr} {es : List Expr} {to : TE} {t : TA} {name : Str} {apos cpos : Pos} {T id : String} {r : V → List V → Hp → VK → Prop}
theorem pe_bm (pa : PlainAttrs T) (slot : Slot T name id) (hty : typeOf (.builtin id) = pure (.type "method_descriptor")) (hm : MtR X id r) (ho : PE X o to) (ha : PA X (e :: es) t)
    (hbase : attributeBase o name X.env (eval o X.env) = eval o X.env := by rfl)
    (hfew : ((backTo cpos (starEach (e :: es) X.env)).all (fun x => !x.1) && (backToKw cpos (keywordEach [] X.env)).all (fun x => x.1.isSome)
      && decide ((e :: es).length + ([] : List Keyword).length + (if ([] : List Keyword).isEmpty then 0 else 1) < 30)) = true := by rfl)
    (hline : (apos.endLine == cpos.line) = true := by rfl) (hs : starEach (e :: es) X.env = (false, eval e X.env) :: starEach es X.env := by rfl) (hplain : (backTo cpos (starEach es X.env)).any (·.1) = false := by rfl) :
    PE X (.Call (.Attribute o name apos) (e :: es) [] cpos) (tBM X.K T r to t) := by
  intro pins s σ H Q I h
  refine wpAny_Call_method_late hbase hfew hline rfl (thn (ho pins s σ H _ I h) fun v s1 ⟨x, H1, I1, r1, ty, q1⟩ => ?_)
  obtain ⟨h1, h2⟩ := tyV_is I1 r1 ty
  refine ⟨T, id, pa, slot, hty, h1, h2, ?_⟩
  have hA := ha cpos pins s1 σ H1 _ I1 q1
  rw [hs] at hA ⊢
  refine Calls.callWith_builtin (by show (false || (backTo cpos (starEach es X.env)).any (·.1)) = false; rw [hplain] <;> rfl) (Calls.evalArgs_plain ?_)
  exact thn hA fun us s2 ⟨vs, H2, I2, r2, q2⟩ => hm pins s2 σ H2 x vs v us Q I2 r1 r2 q2
end
end L2
namespace L2
open PySem PySem.Spec PyProof.Rows
noncomputable def MtM (X : Cx) (id : String) (r : V → List V → Hp → VK → Prop) : Prop :=
  ∀ (pins : List (Addr × Obj)) (s : Shared) (σ : St) (H : Hp) (x : V) (xs : List V) (v : Value) (us : List Value) (Q : VK), Inv X pins σ H s → RelV x v → Vals xs us → r x xs H Q →
    wpAny (model X.prog X.w) X.A (call (.builtin id) (v :: us)) (EP X pins σ Q) X.xe s
theorem Vals.one : ∀ {x : V} {us : List Value}, Vals [x] us → ∃ u, us = [u] ∧ RelV x u
  | _, _, .cons r .nil => ⟨_, rfl, r⟩
theorem Vals.two : ∀ {x y : V} {us : List Value}, Vals [x, y] us → ∃ u v, us = [u, v] ∧ RelV x u ∧ RelV y v
  | _, _, _, .cons r (.cons q .nil) => ⟨_, _, rfl, r, q⟩
theorem Vals.reverse {xs : List V} {us : List Value} (h : Vals xs us) : Vals xs.reverse us.reverse := by
  induction h with
  | nil => exact .nil
  | cons r t ih => rw [List.reverse_cons, List.reverse_cons]; exact Vals.append ih (.cons r .nil)
section
variable {X : Cx} {pins : List (Addr × Obj)} {σ : St} {H : Hp} {s : Shared} {l b : Addr} {xs ys zs : List V}
theorem Inv.lset {its its' : List Value} {n : Nat} {f : Array Value → Array Value} {t' : Nat} (I : Inv X pins σ H s) (hH : H l = some (.lst xs))
    (e : s.heap.get? l = some { cls := .type "list", data := .seq its.toArray n }) (hf : f its.toArray = its'.toArray) (hv : Vals ys its') (hz : ys.length ≤ sizeLine) :
    Inv X pins σ (upd H l (.lst ys)) { s with heap := s.heap.update l (Obj.mapSeq f), toks := t' } := by
  have q := PySem.IsL.update e f
  rw [hf] at q
  refine I.write (x := l) (e := l) (by rw [hH]; exact trivial) (.inl rfl) (fun b' u hb hu => (Heap.get?_update_other s.heap (Obj.mapSeq f) (Ne.symm hb)).trans hu) ⟨_, q⟩ ?_
  exact ⟨hz, its', _, hv, q⟩
theorem Inv.lnew {its : List Value} {t' : Nat} (I : Inv X pins σ H s) (hv : Vals ys its) (hz : ys.length ≤ sizeLine) :
    Inv X pins σ (upd H s.heap.objs.size (.lst ys)) { s with heap := s.heap.push { cls := .type "list", data := .seq its.toArray }, toks := t' } :=
  I.laid (fun _ _ q => Heap.get?_push_of_some _ q) (Nat.le_refl _) ⟨hz, its, 0, hv, Heap.get?_push_size _ rfl⟩
theorem Inv.fresh (I : Inv X pins σ H s) : H s.heap.objs.size = none := I.hok.fresh (Nat.le_refl _)
theorem Inv.lstM (I : Inv X pins σ H s) (hH : H l = some (.lst xs)) : xs.length ≤ sizeLine ∧ ∃ (its : List Value) (n : Nat), Vals xs its ∧ xs.length = its.length ∧ s.heap.get? l = some { cls := .type "list", data := .seq its.toArray n } := by
  obtain ⟨z, its, n, r, e⟩ := I.hok l _ hH
  exact ⟨z, its, n, r, r.length, e⟩
end
section
variable {X : Cx}
noncomputable def rAppend : V → List V → Hp → VK → Prop := fun x vs H Q => ∃ l xs y, x = .ref l ∧ vs = [y] ∧ H l = some (.lst xs) ∧ xs.length < sizeLine ∧ Q .non (upd H l (.lst (xs ++ [y])))
theorem mt_append : MtM X "list.append" rAppend := by
  intro pins s σ H x vs v us Q I rx rv h
  obtain ⟨l, xs, y, rfl, rfl, hH, hz, q⟩ := h
  cases rx
  obtain ⟨u, rfl, ru⟩ := rv.one
  obtain ⟨z, its, n, r, hl, e⟩ := I.lstM hH
  refine call_meets F.slot_list_append ⟨_, e, rfl⟩ F.entry_list_append (F.args_list_append_2 _ _) (PySem.list_append l its.toArray n u (by rw [List.size_toArray]; omega)) ⟨e, ?_⟩
  refine ⟨.non, _, I.lset (its' := its ++ [u]) hH e (by simp) (r.append (.cons ru .nil)) ?_, rfl, q⟩
  rw [List.length_append, List.length_singleton]
  omega
noncomputable def rCat : R2 := fun x y H Q => ∃ l b xs zs, x = .ref l ∧ y = .ref b ∧ H l = some (.lst xs) ∧ H b = some (.lst zs) ∧ xs.length + zs.length ≤ sizeLine ∧ ∀ p, H p = none → Q (.ref p) (upd H p (.lst (xs ++ zs)))
theorem op_cat : OpR X (binaryOp .Add) rCat := by
  intro pins s σ H x y v u Q I rx ry h
  obtain ⟨l, b, xs, zs, rfl, rfl, hH, hB, hz, q⟩ := h
  cases rx
  cases ry
  obtain ⟨z, its, n, r, hl, e⟩ := I.lstM hH
  obtain ⟨z2, its2, n2, r2, hl2, e2⟩ := I.lstM hB
  refine PySem.P.add_list e e2 ?_ (by rw [List.size_toArray, List.size_toArray]; omega)
  have ea : its.toArray ++ its2.toArray = (its ++ its2).toArray := by simp
  rw [ea]
  exact ⟨.ref _, _, I.lnew (t' := s.toks) (r.append r2) (by rw [List.length_append]; omega), rfl, q _ I.fresh⟩
end
section
variable {prog : Program} {w : World} {A : Around} {E : Value → Shared → Prop} {s : Shared}
end
section
variable {X : Cx}
end
end L2
namespace Att
open PySem PySem.W PySem.Calls PyProof.Rows
theorem ints_of_wellAll {P : Params} {h : Heap} : ∀ (ns : List Int) (vs : List Value), WellAll P h vs (ns.map WData.int) → IntsAre vs ns := by
  intro ns
  induction ns with
  | nil =>
    intro vs w
    rw [List.map_nil] at w
    cases w
    exact .nil
  | cons n ns ih =>
    intro vs w
    rw [List.map_cons] at w
    cases w with
    | cons a b =>
      cases a
      exact .cons _ _ (ih _ b)
theorem script_of {l : OpenLaw} {n : Nat} (hn : l.most = some n) {P : Params} {h : Heap} {args : List WData} {vals : List Value}
    (hpre : l.row.toRowW.claim.pre args = true) (hwl : WellAll P h vals args) :
    ∃ a vs ns, vals = [Value.ref a] ∧ args = [WData.list (ns.map WData.int)] ∧ h.get? a = some { cls := .type "list", data := .seq vs.toArray } ∧ IntsAre vs ns ∧ ns.length ≤ n := by
  have hsh : WShape.hasAll [] args [.list .int] = true := (pre_splitW hpre).1
  have hc : l.pre.holds [] { args := args } = true := (pre_splitW hpre).2
  obtain ⟨d, r, rfl, h1, h2⟩ := hasAllW_cons hsh
  obtain rfl := hasAllW_nil h2
  obtain ⟨xs, rfl, h3⟩ := hasW_list h1
  obtain ⟨ns, rfl⟩ := items_int h3
  have hlen : ns.length ≤ n := by
    unfold OpenLaw.pre at hc
    have h4 : (WTm.not (.lt (.lit (.int (n : Int))) (.len (.arg 0)))).holds [] { args := [.list (ns.map .int)] } = true := by
      have h4 := (holds_andW hc).1
      rw [hn] at h4
      exact h4
    have h5 := condW_of h4 (w_not (w_lt w_lit (w_len_list (w_arg rfl))))
    rw [List.length_map] at h5
    refine Nat.le_of_not_lt fun q => ?_
    have q' : (n : Int) < ((ns.length : Nat) : Int) := by omega
    first
      | (rw [decide_eq_true q'] at h5; exact absurd h5 (by decide))
      | (simp at h5; omega)
  cases hwl with
  | cons w1 w2 =>
    cases w2
    cases w1 with
    | list ho hall => exact ⟨_, _, ns, rfl, rfl, ho, ints_of_wellAll ns _ hall, hlen⟩
theorem post_true (l : OpenLaw) (args : List WData) : l.row.toRowW.claim.post args (.bool true) args = true :=
  postW_of (r := l.row.toRowW) (X := (true == true))
    (show WShape.has [] (.bool true) .bool = true by first | rfl | decide | simp [WShape.has, WShape.arms, WShape.armsAll])
    (show (WTm.eq .res (.lit (.bool true))).value [] { args := args, res := some (.bool true), after := args } = some (.bool (true == true)) from w_eq_bool (w_res rfl) w_lit) rfl
section
variable {prog : Program} {w : World} {A : Around} {E : Value → Shared → Prop} {s : Shared} {K : Frag}
end
end Att
namespace L2
open PySem PySem.Spec PyProof.Rows
theorem vals_ints : ∀ {vs : List Value} {ns : List Int}, IntsAre vs ns → Vals (ns.map V.int) vs
  | _, _, .nil => .nil
  | _, _, .cons n t h => .cons ⟨t, rfl⟩ (vals_ints h)
noncomputable def Only (H : Hp) : Prop := ∀ b, H b = none ∨ ∃ o xs, H b = some (.frz o (.lst xs))
theorem law_call {P : Program} {w : World} {K : PySem.W.Frag} {mg mb : Str → Option Value} {CX : CXT} {k : Nat} {fa a : Addr} {fd : FuncData} {x : Str} {sp : Sp} {s₁ : Shared} {vs : List Value} {ns : List Int}
    (KX : K.In s₁.heap) (hns : s₁.heap.Ns mainGlobals mg) (hb : s₁.heap.Ns builtinsNs mb) (hbb : ∀ x : Str, x ≠ "__name__" → mb x = bootBuiltins x) (hlim : s₁.heap.NoLimit) (hg : s₁.gens = #[])
    (ha : s₁.heap.get? a = some { cls := .type "list", data := .seq vs.toArray }) (hi : IntsAre vs ns) (hl : ns.length ≤ sizeLine) (hr : Room k callerA)
    (F : ∀ base : Heap, K.In base → base.Ns mainGlobals mg → FnOk P w K mg base CX k fa fd [x] sp) (hbind : ∀ (s : Shared) (u : Value), BindsTo s fd ⟨[u], []⟩ [(x, u)])
    (hsp : ∀ H : Hp, Only H → SqL K H a (ns.map V.int) → sp [.ref a] H (fun v _ => v = .bl true) fun _ _ _ => False)
    (hCX : ∀ H e s', CX [] H s₁ (fun _ _ _ => False) e s' → False) :
    codeAny (model P w) callerA (.call (.ref fa) ⟨[.ref a], []⟩) (fun r s' => r = .ok (.ret (.bool true)) ∧ OldK s₁.heap s'.heap ∧ s'.os = s₁.os ∧ AllBare s'.gens) s₁ := by
  have rv := vals_ints hi
  have lenV := hi.length
  have core : ∀ H : Hp, Only H → SqL K H a (ns.map V.int) → HOk P w H s₁.heap → (∀ b, H b ≠ none → b = a) → (H a ≠ none → K.lookup a = none) →
      codeAny (model P w) callerA (.call (.ref fa) ⟨[.ref a], []⟩) (fun r s' => r = .ok (.ret (.bool true)) ∧ OldK s₁.heap s'.heap ∧ s'.os = s₁.os ∧ AllBare s'.gens) s₁ := by
    intro H hO hS hok hA hK
    have base_of : ∀ {b : Addr} {o : Obj}, s₁.heap.get? b = some o → H b = none → (hidT s₁.heap H).get? b = some o := fun e n => hidT_get e n
    have noA : ∀ {b : Addr} {o : Obj} {es : Array DictEntry} {ep : Nat}, s₁.heap.get? b = some o → o.data = .dict es ep → H b = none := fun {b o es ep} e d => by
      cases q : H b with
      | none => rfl
      | some u =>
        have e' : b = a := hA b (by rw [q]; simp)
        subst e'
        rw [ha] at e; cases e
        have d' : Data.seq vs.toArray _ = Data.dict es ep := d
        cases d'
    have nsK : ∀ {b : Addr} {m : Str → Option Value}, s₁.heap.Ns b m → (hidT s₁.heap H).Ns b m := fun {b m} ⟨o, es, ep, e, d, r⟩ => ⟨o, es, ep, base_of e (noA e d), d, r⟩
    have hKb : K.In (hidT s₁.heap H) := fun b o e => base_of (KX b o e) (by
      cases q : H b with
      | none => rfl
      | some u =>
        have e' : b = a := hA b (by rw [q]; simp)
        subst e'
        rw [hK (by rw [q]; simp)] at e; cases e)
    have hM : Mod K mg (hidT s₁.heap H) := ⟨hKb, nsK hns, ⟨mb, nsK hb, hbb⟩, let ⟨mc, h1, h2⟩ := hlim; ⟨mc, nsK h1, h2⟩⟩
    have e0 : Env0 P w K mg (hidT s₁.heap H) callerA [] s₁ H := ⟨rfl, hM, fun b o e => of_hidT e, Nat.le_of_eq (hidT_size _ _), trivial, fun b hb => absurd (show b ∈ ([] : List Addr) from hb) (by simp), hok, .of_eq hg⟩
    refine codeAny_mono ((F _ hKb (nsK hns)).run callerA [] s₁ H ⟨[.ref a], []⟩ [.ref a] [.ref a] _ _ hr e0 (hbind s₁ (.ref a)) (.cons rfl .nil) (hsp H hO hS)) fun r s' h => ?_
    cases r with
    | error e => exact (hCX H e s' h).elim
    | ok fl =>
      cases fl with
      | next => exact False.elim h
      | brk => exact False.elim h
      | cont => exact False.elim h
      | ret u =>
        obtain ⟨v, H', os, bare, un, hok', r', q⟩ := h
        have q' : v = .bl true := q
        subst q'
        obtain rfl : u = Value.bool true := r'
        refine ⟨rfl, OldK.of_keep fun b o e => ?_, os, bare⟩
        cases q : H b with
        | none => exact un.keep b o e q (by intro z; exact absurd (show b ∈ ([] : List Addr) from z) (by simp)) (by simp)
        | some u =>
          rcases hO b with z | ⟨ob, xs, z⟩
          · rw [q] at z; cases z
          · have z2 := un.frzs b ob _ z
            obtain ⟨e1, _⟩ := hok b _ z
            obtain ⟨e2, _⟩ := hok' b _ z2
            rw [e] at e1; cases e1
            exact e2
  cases hk : K.lookup a with
  | some o =>
    have e := KX a o hk
    rw [ha] at e
    cases e
    refine core (fun _ => none) (fun _ => .inl rfl) (.inr ⟨_, vs.toArray, _, hk, rfl, rfl, rfl, by rw [List.size_toArray, lenV]; exact hl, by simpa using rv⟩) (fun b u z => by have z' : (none : Option HO) = some u := z; cases z') (fun b z => absurd rfl z) fun z => absurd rfl z
  | none =>
    refine core (fun b => if b = a then some (.frz { cls := .type "list", data := .seq vs.toArray } (.lst (ns.map V.int))) else none) (fun b => ?_) (.inl (.inr ⟨{ cls := .type "list", data := .seq vs.toArray }, if_pos rfl⟩)) (fun b u z => ?_) (fun b z => ?_) fun _ => hk
    · by_cases hb : b = a
      · exact .inr ⟨_, _, if_pos hb⟩
      · exact .inl (if_neg hb)
    · by_cases hb : b = a
      · have z' := (if_pos hb).symm.trans z
        cases z'
        subst hb
        exact ⟨ha, by rw [List.length_map]; exact hl, vs, _, rv, ha⟩
      · have z' := (if_neg hb).symm.trans z
        cases z'
    · by_cases hb : b = a
      · exact hb
      · exact absurd (if_neg hb) z
end L2
namespace L2
open PySem PySem.Spec PyProof.Rows
end L2
namespace L2
open PySem PySem.Spec PyProof.Rows
noncomputable def defArgs (s : Stmt) : Arguments := match s with
  | .FunctionDef _ a _ _ _ _ _ _ _ _ => a
  | _ => { posonlyargs := [], args := [], vararg := none, kwonlyargs := [], kw_defaults := [], kwarg := none, defaults := [] }
noncomputable def defBody (s : Stmt) : List Stmt := match s with
  | .FunctionDef _ _ b _ _ _ _ _ _ _ => b
  | _ => []
noncomputable def defScope (s : Stmt) : Scope := match s with
  | .FunctionDef _ _ _ _ _ _ sc _ _ _ => sc
  | _ => { kind := .function, names := [], isGenerator := false, isCoroutine := false }
noncomputable abbrev CX0 : CXT := fun _ _ _ _ _ _ => False
noncomputable abbrev E0 : XK := fun _ _ _ => False
theorem pass0 {X : Cx} : Passes CX0 X E0 := fun _ _ _ _ _ _ _ h => h.elim
structure Fun (K : PySem.W.Frag) (x qual : Str) (st : Stmt) (f : Addr) (fd : FuncData) : Prop where
  ex : ∃ (oc : Value) (od : Option Addr) (kV doc pm : Value) (an : Option Addr) (cdv ct : Value) (osl : Array (Option Value)),
    fd = PySem.W.fnOf x qual (defArgs st) (defBody st) (defScope st) .none kV doc pm an cdv ct ∧ K.lookup f = some ⟨oc, od, .func fd, osl⟩ ∧ PySem.W.codeIn K cdv qual = true
  kp : PySem.W.keepIn K (.ref f) = true
section
variable {P : Program} {w : World} {K : PySem.W.Frag} {mg : Str → Option Value} {base : Heap}
theorem Fun.ok {x qual : Str} {st : Stmt} {f : Addr} {fd : FuncData} {N ps : List Str} {k : Nat} {sp : Sp} (F : Fun K x qual st f fd) (S : FnScope N ps (defScope st)) (len : ∀ vs H Q E, sp vs H Q E → vs.length = ps.length)
    (hbody : ∀ (cdv : Value) (A : Around) (outer : List Env) (s : Shared) (H : Hp) (vs : List V) (Q : VK) (E : XK), Room k (A.deeper (envOfC qual (defScope st) s.heap.objs.size f cdv)) → sp vs H Q E →
      ∃ t, PSs (cxOf CX0 P w K mg base N qual (defScope st) f cdv A outer s H E).nox (defBody st) t ∧ t { nx := fun _ H' => Q .non H', rt := Q } (start N vs) H) : FnOk P w K mg base CX0 (k + 1) f fd ps sp := by
  obtain ⟨oc, od, kV, doc, pm, an, cdv, ct, osl, rfl, lk, hcd⟩ := F.ex
  refine fn_of lk hcd S len fun A outer s H vs Q E hr hsp => ?_
  obtain ⟨t, h, q⟩ := hbody cdv A outer s H vs Q E hr hsp
  exact ⟨t, h.nox, q⟩
theorem Fun.binds {x qual : Str} {st : Stmt} {f : Addr} {fd : FuncData} {ps : List Str} (F : Fun K x qual st f fd)
    (h : ∀ (kV doc pm : Value) (an : Option Addr) (cdv ct : Value) (us : List Value), us.length = ps.length → bindArgs (PySem.W.fnOf x qual (defArgs st) (defBody st) (defScope st) .none kV doc pm an cdv ct) ⟨us, []⟩ = pure (ps.zip us)) : Binds K fd ps [] := by
  obtain ⟨oc, od, kV, doc, pm, an, cdv, ct, osl, rfl, lk, hcd⟩ := F.ex
  exact .all (h kV doc pm an cdv ct)
theorem fun_mk {x qual : Str} {st : Stmt} {f : Addr} {oc : Value} {od an : Option Addr} {osl : Array (Option Value)} {kV doc pm cdv ct : Value} (l : K.lookup f = some ⟨oc, od, .func (PySem.W.fnOf x qual (defArgs st) (defBody st) (defScope st) .none kV doc pm an cdv ct), osl⟩)
    (c : PySem.W.codeIn K cdv qual = true) (k : PySem.W.keepIn K (.ref f) = true) : Fun K x qual st f (PySem.W.fnOf x qual (defArgs st) (defBody st) (defScope st) .none kV doc pm an cdv ct) := ⟨⟨oc, od, kV, doc, pm, an, cdv, ct, osl, rfl, l, c⟩, k⟩
end
section
variable {X : Cx}
theorem pv (i : Nat) {x : Str} {pos : Pos} (hN : X.N[i]? = some x := by rfl) (hv : Vis X.env.scope x := by first | exact Or.inl rfl | exact Or.inr (Or.inl rfl) | exact Or.inr (Or.inr rfl)) (hd : (x == ("__debug__" : Str)) = false := by decide)
    (hcd : (x == ("__classdict__" : Str)) = false := by decide) : PE X (.Name x pos) (tVar i) := pe_var hN hv hd hcd
end
theorem iteF {A B : Prop} (h : B) : if false = true then A else B := by
  rw [if_neg Bool.false_ne_true]
  exact h
theorem iteT {A B : Prop} (h : A) : if true = true then A else B := by
  rw [if_pos rfl]
  exact h
theorem ite2 {c A B : Prop} [Decidable c] (h1 : c → A) (h2 : ¬ c → B) : if c then A else B := by
  by_cases h : c
  · rw [if_pos h]
    exact h1 h
  · rw [if_neg h]
    exact h2 h
noncomputable def Same (H H' : Hp) : Prop := ∀ b o, H b = some o → H' b = some o
theorem Same.refl (H : Hp) : Same H H := fun _ _ h => h
theorem Same.trans {H H1 H2 : Hp} (a : Same H H1) (b : Same H1 H2) : Same H H2 := fun c o h => b c o (a c o h)
theorem Same.free {H H' : Hp} (e : Same H H') {l : Addr} (h : H' l = Option.none) : H l = Option.none := by
  cases q : H l with
  | none => rfl
  | some o =>
    rw [e l o q] at h
    cases h
theorem Same.seq {K : PySem.W.Frag} {H H' : Hp} {a : Addr} {xs : List V} (e : Same H H') (h : SqL K H a xs) : SqL K H' a xs := by
  rcases h with (h | ⟨o, h⟩) | h
  · exact .inl (.inl (e _ _ h))
  · exact .inl (.inr ⟨o, e _ _ h⟩)
  · exact .inr h
end L2
set_option maxHeartbeats 4000000
namespace L2
open PySem PySem.Spec PyProof.Rows
section
variable {X : Cx}
noncomputable def Sml (i : Int) : Prop := i.natAbs < 2 ^ 4000
theorem Sml.bits {i : Int} (h : Sml i) : Builtin.Int.intBits i ≤ 4000 := intBits_le_iff.mpr h
theorem call_isinst : CallR X (.builtin "isinstance") (fun xs H Q => ∃ x t T b, xs = [x, .ty T] ∧ TyOf X.K H x t ∧ PySem.W.kitOne X.K t (.type T) = some b ∧ Q (.bl b) H) := by
  intro pins s σ H xs us Q I r h
  obtain ⟨x, t, T, b, rfl, ty, e, q⟩ := h
  obtain ⟨u, w', rfl, r1, r2⟩ := vals2 r
  cases r2
  exact isinst_ok I r1 ty e fun tk => ⟨.bl b, H, I.tok _, rfl, q⟩
end
theorem boot_max : bootBuiltins "max" = some (.builtin "max") := PyProof.Rows.boot_max
theorem boot_abs : bootBuiltins "abs" = some (.builtin "abs") := PyProof.Rows.boot_abs
theorem boot_isinstance : bootBuiltins "isinstance" = some (.builtin "isinstance") := PyProof.Rows.boot_isinstance
theorem boot_int : bootBuiltins "int" = some (.type "int") := PyProof.Rows.boot_int
theorem boot_bool : bootBuiltins "bool" = some (.type "bool") := PyProof.Rows.boot_bool
theorem boot_tuple : bootBuiltins "tuple" = some (.type "tuple") := PyProof.Rows.boot_tuple
theorem boot_list : bootBuiltins "list" = some (.type "list") := PyProof.Rows.boot_list
theorem getD_in {α : Type} {ns : List α} {i : Nat} {d : α} (h : i < ns.length) : ns.getD i d = ns[i] := by simp [List.getD, h]
theorem getD_out {α : Type} {ns : List α} {i : Nat} {d : α} (h : ns.length ≤ i) : ns.getD i d = d := by simp [List.getD, h]
theorem same_new {H : Hp} {p : Addr} (h : H p = none) (o : HO) : Same H (upd H p o) := fun b u q => by rw [upd_ne (ne_of_none q h)]; exact q
theorem ofD {p : Prop} [Decidable p] (h : ¬ decide p = true) : ¬ p := of_decide_eq_false (Bool.eq_false_iff.mpr h)
theorem at_getD {ns : List Int} {i : Int} (h0 : 0 ≤ i) (h1 : i < (ns.length : Int)) : atI (ns.map V.int) i = some (.int (ns.getD i.toNat 0)) := by
  have hk : i.toNat < ns.length := by omega
  have ek : i = ((i.toNat : Nat) : Int) := by omega
  have z : atI (ns.map V.int) ((i.toNat : Nat) : Int) = some (.int ns[i.toNat]) := atI_nat (by rw [List.getElem?_map, List.getElem?_eq_getElem hk] <;> rfl)
  rw [← ek] at z
  rw [z, getD_in hk]
theorem md0 (c : Int) {m : Int} (h : 0 < m) : 0 ≤ c % m := Int.emod_nonneg _ (by omega)
theorem md1 (c : Int) {m : Int} (h : 0 < m) : c % m < m := Int.emod_lt_of_pos _ h
end L2
set_option maxHeartbeats 4000000
namespace L2
open PySem PySem.Spec PyProof.Rows
noncomputable def cxComp (X : Cx) (N' : List Str) (scope : Scope) (cl : List (Str × Addr)) (C : Addr) (s3 : Shared) (H3 : Hp) (fp : List Addr) : Cx where
  prog := X.prog
  w := X.w
  K := X.K
  mg := X.mg
  base := X.base
  A := X.A
  N := N'
  s₀ := s3
  H₀ := H3
  env := compEnvC scope cl C X.env
  outer := X.stack
  stack := X.stack
  ex := fp
  fn := fun _ => false
  calm := X.calm
  pn := []
  xe := fun _ _ => False
noncomputable def taken (σ : St) (fr : List Nat) : St := fr.map fun j => (σ[j]?).getD none
structure CompOk (X : Cx) (x : Str) (ts : List (Str × Nat)) (scope : Scope) (cl : List (Str × Addr)) : Prop where
  clos : closureFor scope X.env = pure cl
  sub : ∀ y c, cl.lookup y = some c → X.env.cells.lookup y = some c
  nocell : (scope.names.all fun p => p.2 != .cell) = true
  kind : scope.kind = .function
  locs : (scope.names.all fun p => p.2 != .local || scope.names.lookup p.1 == some .local) = true
  var : scope.names.lookup x = some .local
  nd : (x :: ts.map (·.1)).Nodup
  around : (ts.all fun p => decide (X.N[p.2]? = some p.1) && (X.env.kindOf p.1 == some .cell || X.env.kindOf p.1 == some .free) && (cl.lookup p.1).isSome &&
    ((relabel scope X.env).names.lookup p.1 == some .cell || (relabel scope X.env).names.lookup p.1 == some .free)) = true
  has : ((relabel scope X.env).names.all fun p => !(p.2 == .cell || p.2 == .free) || (cl.lookup p.1).isSome) = true
noncomputable abbrev nmsOf (x : Str) (ts : List (Str × Nat)) : List Str := x :: ts.map (·.1)
noncomputable abbrev sltOf (ts : List (Str × Nat)) : List Nat := ts.map (·.2)
theorem CompOk.nocell' {X : Cx} {x : Str} {ts : List (Str × Nat)} {scope : Scope} {cl : List (Str × Addr)} (O : CompOk X x ts scope cl) : ∀ y ∈ scope.names, y.2 ≠ .cell := fun y hy e => by
  have := List.all_eq_true.mp O.nocell y hy
  rw [e] at this
  cases this
theorem CompOk.locs' {X : Cx} {x : Str} {ts : List (Str × Nat)} {scope : Scope} {cl : List (Str × Addr)} (O : CompOk X x ts scope cl) : ∀ y ∈ scope.names, y.2 = .local → scope.names.lookup y.1 = some .local := fun y hy e => by
  have h := List.all_eq_true.mp O.locs y hy
  rw [e] at h
  rcases Bool.or_eq_true_iff.mp h with z | z
  · cases z
  · exact beq_iff_eq.mp z
theorem CompOk.from' {X : Cx} {x : Str} {ts : List (Str × Nat)} {scope : Scope} {cl : List (Str × Addr)} (O : CompOk X x ts scope cl) : ∀ (i : Nat) (y : Str), (nmsOf x ts)[i + 1]? = some y → ∃ j, (sltOf ts)[i]? = some j ∧ X.N[j]? = some y ∧ (X.env.kindOf y = some .cell ∨ X.env.kindOf y = some .free) ∧ (cl.lookup y).isSome = true ∧
    ((relabel scope X.env).names.lookup y = some .cell ∨ (relabel scope X.env).names.lookup y = some .free) := fun i y e => by
  have e1 : (ts.map (·.1))[i]? = some y := by simpa using e
  rw [List.getElem?_map] at e1
  cases q : ts[i]? with
  | none => rw [q] at e1; cases e1
  | some p =>
    rw [q] at e1
    have e2 : p.1 = y := Option.some.inj e1
    subst e2
    have h := List.all_eq_true.mp O.around p (List.mem_of_getElem? q)
    simp only [Bool.and_eq_true, Bool.or_eq_true, beq_iff_eq, decide_eq_true_eq] at h
    obtain ⟨⟨⟨h1, h2⟩, h3⟩, h4⟩ := h
    refine ⟨p.2, ?_, h1, h2, h3, h4⟩
    show (ts.map (·.2))[i]? = some p.2
    rw [List.getElem?_map, q] <;> rfl
theorem CompOk.has' {X : Cx} {x : Str} {ts : List (Str × Nat)} {scope : Scope} {cl : List (Str × Addr)} (O : CompOk X x ts scope cl) : ∀ y, ((relabel scope X.env).names.lookup y = some .cell ∨ (relabel scope X.env).names.lookup y = some .free) → (cl.lookup y).isSome = true := fun y h => by
  have go : ∀ k : NameKind, (k = .cell ∨ k = .free) → (relabel scope X.env).names.lookup y = some k → (cl.lookup y).isSome = true := fun k hk e => by
    have z := List.all_eq_true.mp O.has (y, k) (PySem.mem_of_lookup e)
    rcases Bool.or_eq_true_iff.mp z with z | z
    · rcases hk with e | e <;> (rw [e] at z; cases z)
    · exact z
  rcases h with h | h
  · exact go _ (.inl rfl) h
  · exact go _ (.inr rfl) h
section
variable {X : Cx} {elt iter : Expr} {x : Str} {px pos : Pos} {scope : Scope} {cl : List (Str × Addr)} {ts : List (Str × Nat)} {wi : TI} {te : TE}
end
end L2
set_option maxHeartbeats 4000000
namespace L2
open PySem PySem.Spec PyProof.Rows
inductive Th where
  | non | bl (b : Bool) | int (i : Int) | str (x : Str) | lst (xs : List Th) | tup (xs : List Th) | emp | dic
mutual
noncomputable def Den (H : Hp) : Th → V → Prop
  | .non, v => v = .non
  | .bl b, v => v = .bl b
  | .int i, v => v = .int i
  | .str x, v => v = .str x
  | .lst ts, v => ∃ a xs, v = .ref a ∧ H a = some (.lst xs) ∧ Dens H ts xs
  | .tup ts, v => ∃ a xs, v = .ref a ∧ H a = some (.tup xs) ∧ Dens H ts xs
  | .emp, v => ∃ a, v = .ref a ∧ H a = some (.dK [])
  | .dic, v => ∃ a kvs, v = .ref a ∧ H a = some (.dK kvs)
noncomputable def Dens (H : Hp) : List Th → List V → Prop
  | [], xs => xs = []
  | t :: ts, xs => ∃ y ys, xs = y :: ys ∧ Den H t y ∧ Dens H ts ys
end
mutual
theorem Den.keep {H H' : Hp} (s : Same H H') : ∀ {t : Th} {v : V}, Den H t v → Den H' t v
  | .non, _, h => h
  | .bl _, _, h => h
  | .int _, _, h => h
  | .str _, _, h => h
  | .lst _, _, ⟨a, xs, e, h, d⟩ => ⟨a, xs, e, s _ _ h, Dens.keep s d⟩
  | .tup _, _, ⟨a, xs, e, h, d⟩ => ⟨a, xs, e, s _ _ h, Dens.keep s d⟩
  | .emp, _, ⟨a, e, h⟩ => ⟨a, e, s _ _ h⟩
  | .dic, _, ⟨a, k, e, h⟩ => ⟨a, k, e, s _ _ h⟩
theorem Dens.keep {H H' : Hp} (s : Same H H') : ∀ {ts : List Th} {xs : List V}, Dens H ts xs → Dens H' ts xs
  | [], _, h => h
  | _ :: _, _, ⟨y, ys, e, d, ds⟩ => ⟨y, ys, e, Den.keep s d, Dens.keep s ds⟩
end
theorem Dens.len {H : Hp} : ∀ {ts : List Th} {xs : List V}, Dens H ts xs → xs.length = ts.length
  | [], _, h => by rw [show _ = [] from h]; rfl
  | _ :: _, _, ⟨y, ys, e, d, ds⟩ => by rw [e, List.length_cons, List.length_cons, Dens.len ds]
theorem Dens.get {H : Hp} : ∀ {ts : List Th} {xs : List V} {i : Nat} {t : Th}, Dens H ts xs → ts[i]? = some t → ∃ v, xs[i]? = some v ∧ Den H t v
  | _ :: _, _, 0, t, ⟨y, ys, e, d, ds⟩, h => by
    rw [List.getElem?_cons_zero] at h
    cases h
    exact ⟨y, by rw [e]; rfl, d⟩
  | _ :: _, _, i + 1, t, ⟨y, ys, e, d, ds⟩, h => by
    rw [List.getElem?_cons_succ] at h
    obtain ⟨v, h1, h2⟩ := Dens.get ds h
    exact ⟨v, by rw [e, List.getElem?_cons_succ]; exact h1, h2⟩
noncomputable def tyTh : Th → Value
  | .non => .type "NoneType"
  | .bl _ => .type "bool"
  | .int _ => .type "int"
  | .str _ => .type "str"
  | .lst _ => .type "list"
  | .tup _ => .type "tuple"
  | .emp => .type "dict"
  | .dic => .type "dict"
theorem Den.ty {K : PySem.W.Frag} {H : Hp} : ∀ {t : Th} {v : V}, Den H t v → TyOf K H v (tyTh t)
  | .non, _, h => by cases (show _ = V.non from h); exact .non
  | .bl b, _, h => by cases (show _ = V.bl b from h); exact .bl b
  | .int i, _, h => by cases (show _ = V.int i from h); exact .int i
  | .str x, _, h => by cases (show _ = V.str x from h); exact .str x
  | .lst _, _, ⟨a, xs, e, h, _⟩ => by subst e; exact .lst h
  | .tup _, _, ⟨a, xs, e, h, _⟩ => by subst e; exact .tup h
  | .emp, _, ⟨a, e, h⟩ => by subst e; exact .dK h
  | .dic, _, ⟨a, k, e, h⟩ => by subst e; exact .dK h
noncomputable def isIntT : Th → Bool
  | .int _ => true
  | .bl _ => true
  | _ => false
noncomputable def isBoolT : Th → Bool
  | .bl _ => true
  | _ => false
noncomputable def isTupT : Th → Bool
  | .tup _ => true
  | _ => false
noncomputable def isLstT : Th → Bool
  | .lst _ => true
  | _ => false
theorem kit_int {K : PySem.W.Frag} (t : Th) : PySem.W.kitOne K (tyTh t) (.type "int") = some (isIntT t) := by cases t <;> rfl
theorem kit_bool {K : PySem.W.Frag} (t : Th) : PySem.W.kitOne K (tyTh t) (.type "bool") = some (isBoolT t) := by cases t <;> rfl
theorem kit_tuple {K : PySem.W.Frag} (t : Th) : PySem.W.kitOne K (tyTh t) (.type "tuple") = some (isTupT t) := by cases t <;> rfl
section
variable {X : Cx}
theorem kitx_ty {pins : List (Addr × Obj)} {σ : St} {H : Hp} {s : Shared} {t : Th} {x : V} {u : Value} (I : Inv X pins σ H s) (rx : RelV x u) (d : Den H t x) : ∃ HP : Heap → Prop, PySem.W.KitX X.K u (tyTh t) HP ∧ HP s.heap ∧ u ≠ .builtin "__main__.__loader__#opaque" := by
  cases t with
  | non => cases (show x = V.non from d); cases (show u = Value.none from rx); exact ⟨_, PySem.W.kitx_none, True.intro, fun z => nomatch z⟩
  | bl b => cases (show x = V.bl b from d); cases (show u = Value.bool b from rx); exact ⟨_, PySem.W.kitx_bool, True.intro, fun z => nomatch z⟩
  | int i => cases (show x = V.int i from d); obtain ⟨k, q⟩ := (show ∃ k, u = Value.int i k from rx); cases q; exact ⟨_, PySem.W.kitx_int, True.intro, fun z => nomatch z⟩
  | str y => cases (show x = V.str y from d); obtain ⟨k, q⟩ := (show ∃ k, u = Value.str y k from rx); cases q; exact ⟨_, PySem.W.kitx_str, True.intro, fun z => nomatch z⟩
  | lst ts =>
    obtain ⟨a, xs, e, h, _⟩ := d
    subst e
    cases (show u = Value.ref a from rx)
    obtain ⟨_, _, n, _, h1⟩ := (show ObjOk X.prog X.w H s.heap a (.lst xs) from I.hok a _ h)
    exact ⟨_, PySem.W.kitx_list, ⟨_, h1, rfl⟩, fun z => nomatch z⟩
  | tup ts =>
    obtain ⟨a, xs, e, h, _⟩ := d
    subst e
    cases (show u = Value.ref a from rx)
    obtain ⟨_, _, _, p⟩ := (show ObjOk X.prog X.w H s.heap a (.tup xs) from I.hok a _ h)
    obtain ⟨o, h1, h2, _⟩ := p
    exact ⟨_, PySem.W.kitx_tuple, ⟨o, h1, h2⟩, fun z => nomatch z⟩
  | emp =>
    obtain ⟨a, e, h⟩ := d
    subst e
    cases (show u = Value.ref a from rx)
    obtain ⟨_, _, vs, _, p⟩ := (show ObjOk X.prog X.w H s.heap a (.dK []) from I.hok a _ h)
    obtain ⟨o, es, ep, h1, h2, _⟩ := p
    exact ⟨_, PySem.W.kitx_dict, ⟨o, h1, h2.1⟩, fun z => nomatch z⟩
  | dic =>
    obtain ⟨a, kvs, e, h⟩ := d
    subst e
    cases (show u = Value.ref a from rx)
    obtain ⟨_, _, vs, _, p⟩ := (show ObjOk X.prog X.w H s.heap a (.dK kvs) from I.hok a _ h)
    obtain ⟨o, es, ep, h1, h2, _⟩ := p
    exact ⟨_, PySem.W.kitx_dict, ⟨o, h1, h2.1⟩, fun z => nomatch z⟩
theorem vals_tys : ∀ {Ts : List String} {us : List Value}, Vals (Ts.map V.ty) us → us = Ts.map Value.type
  | [], _, .nil => rfl
  | T :: Ts, _, .cons r t => by rw [vals_tys t, show _ = Value.type T from r]; rfl
theorem call_isinstT : CallR X (.builtin "isinstance") (fun xs H Q => ∃ (x : V) (p : Addr) (t : Th) (Ts : List String) (b : Bool), xs = [x, .ref p] ∧ H p = some (.tup (Ts.map V.ty)) ∧ Den H t x ∧ PySem.W.kitAny X.K (tyTh t) (Ts.map Value.type) = some b ∧ Q (.bl b) H) := by
  intro pins s σ H xs us Q I r h
  obtain ⟨x, p, t, Ts, b, rfl, hp, d, e, q⟩ := h
  obtain ⟨u, w', rfl, r1, r2⟩ := vals2 r
  cases r2
  obtain ⟨HP, Z, hz, hx⟩ := kitx_ty I r1 d
  obtain ⟨_, its, rv, tp⟩ := (show ObjOk X.prog X.w H s.heap p (.tup (Ts.map V.ty)) from I.hok p _ hp)
  have ei := vals_tys rv
  subst ei
  obtain ⟨⟨cls, dd, data, sl⟩, h1, h2, n, h3⟩ := tp
  simp only at h2 h3
  subst h2 h3
  exact PySem.W.kia_tup Z I.kIn hz h1 e hx fun tk => ⟨.bl b, H, I.tok _, rfl, q⟩
theorem call_isinstD : CallR X (.builtin "isinstance") (fun xs H Q => ∃ x t T b, xs = [x, .ty T] ∧ Den H t x ∧ PySem.W.kitOne X.K (tyTh t) (.type T) = some b ∧ Q (.bl b) H) := by
  intro pins s σ H xs us Q I r h
  obtain ⟨x, t, T, b, e, d, k, q⟩ := h
  exact call_isinst pins s σ H xs us Q I r ⟨x, tyTh t, T, b, e, d.ty, k, q⟩
theorem range_all_true (n : Nat) : ((List.range n).all fun _ => true) = true := List.all_eq_true.mpr fun _ _ => rfl
theorem dict_nil_any {P P' : Program} {w w' : World} {h : Heap} {a : Addr} (d : h.DictOf (mixKind P w) a []) : h.DictOf (mixKind P' w') a [] := by
  obtain ⟨o, es, ep, h1, h2, h3, h4, h5, h6⟩ := d
  have e : es = #[] := by
    have hl : es.toList.length = 0 := by
      have := h5.length
      simpa using this
    cases es with | mk l => cases l with
      | nil => rfl
      | cons x r => simp at hl
  subst e
  exact ⟨o, #[], ep, h1, h2, h3, (by intro z hz; simp at hz), .nil, List.nodup_nil⟩
mutual
noncomputable def depT : Th → Nat
  | .lst ts => depTs ts + 1
  | .tup ts => depTs ts + 1
  | .emp => 1
  | .dic => cLine + 1
  | .non | .bl _ | .int _ | .str _ => 0
noncomputable def depTs : List Th → Nat
  | [] => 0
  | t :: ts => max (depT t) (depTs ts)
end
theorem depTs_mem : ∀ {ts : List Th} {i : Nat} {t : Th}, ts[i]? = some t → depT t ≤ depTs ts
  | _ :: _, 0, _, h => by
    rw [List.getElem?_cons_zero] at h
    cases h
    exact Nat.le_max_left _ _
  | _ :: _, _ + 1, _, h => by
    rw [List.getElem?_cons_succ] at h
    exact Nat.le_trans (depTs_mem h) (Nat.le_max_right _ _)
theorem dens_at {H : Hp} {ts : List Th} {xs ys : List V} {us ws : List Value} (d1 : Dens H ts xs) (d2 : Dens H ts ys) (r1 : Vals xs us) (r2 : Vals ys ws) (j : Nat) (h1 : j < us.toArray.size) (h2 : j < ws.toArray.size) :
    ∃ t v1 v2, ts[j]? = some t ∧ Den H t v1 ∧ Den H t v2 ∧ RelV v1 us.toArray[j] ∧ RelV v2 ws.toArray[j] := by
  have hl : j < ts.length := by
    rw [← d1.len, r1.length]
    simpa using h1
  obtain ⟨v1, e1, q1⟩ := d1.get (List.getElem?_eq_getElem hl)
  obtain ⟨v2, e2, q2⟩ := d2.get (List.getElem?_eq_getElem hl)
  obtain ⟨u1, f1, g1⟩ := r1.get e1
  obtain ⟨u2, f2, g2⟩ := r2.get e2
  have k1 : us.toArray[j] = u1 := by
    have : us[j]? = some us.toArray[j] := by simp
    rw [this] at f1; exact Option.some.inj f1
  have k2 : ws.toArray[j] = u2 := by
    have : ws[j]? = some ws.toArray[j] := by simp
    rw [this] at f2; exact Option.some.inj f2
  exact ⟨ts[j], v1, v2, List.getElem?_eq_getElem hl, q1, q2, by rw [k1]; exact g1, by rw [k2]; exact g2⟩
theorem eqDen {P : Program} {w : World} {H : Hp} {s : Shared} (hok : HOk P w H s.heap) : ∀ (n : Nat) (A : Around) (t : Th) (v1 v2 : V) (u1 u2 : Value), depT t ≤ n → A.units + n < cLine → Den H t v1 → Den H t v2 → RelV v1 u1 → RelV v2 u2 → SeqAt.EqAt A s u1 u2 true
  | n, A, .non, v1, v2, u1, u2, _, _, d1, d2, r1, r2 => by
    cases (show v1 = V.non from d1); cases (show v2 = V.non from d2)
    cases (show u1 = Value.none from r1); cases (show u2 = Value.none from r2)
    exact SeqAt.EqAt.same _
  | n, A, .bl b, v1, v2, u1, u2, _, _, d1, d2, r1, r2 => by
    cases (show v1 = V.bl b from d1); cases (show v2 = V.bl b from d2)
    cases (show u1 = Value.bool b from r1); cases (show u2 = Value.bool b from r2)
    exact SeqAt.EqAt.same _
  | n, A, .int i, v1, v2, u1, u2, _, _, d1, d2, r1, r2 => by
    cases (show v1 = V.int i from d1); cases (show v2 = V.int i from d2)
    obtain ⟨k1, rfl⟩ := (show ∃ k, u1 = Value.int i k from r1)
    obtain ⟨k2, rfl⟩ := (show ∃ k, u2 = Value.int i k from r2)
    have h := SeqAt.EqAt.int_int (A := A) (s := s) i k1 i k2
    rw [beq_self_eq_true] at h
    exact h
  | n, A, .str x, v1, v2, u1, u2, _, _, d1, d2, r1, r2 => by
    cases (show v1 = V.str x from d1); cases (show v2 = V.str x from d2)
    obtain ⟨k1, rfl⟩ := (show ∃ k, u1 = Value.str x k from r1)
    obtain ⟨k2, rfl⟩ := (show ∃ k, u2 = Value.str x k from r2)
    have h := SeqAt.EqAt.str_str (A := A) (s := s) x k1 x k2
    rw [beq_self_eq_true] at h
    exact h
  | 0, A, .lst ts, v1, v2, u1, u2, hd, _, d1, d2, r1, r2 => absurd hd (by simp [depT])
  | 0, A, .tup ts, v1, v2, u1, u2, hd, _, d1, d2, r1, r2 => absurd hd (by simp [depT])
  | 0, A, .emp, v1, v2, u1, u2, hd, _, d1, d2, r1, r2 => absurd hd (by simp [depT])
  | 0, A, .dic, v1, v2, u1, u2, hd, _, d1, d2, r1, r2 => absurd hd (by simp [depT])
  | n + 1, A, .dic, v1, v2, u1, u2, hd, hu, d1, d2, r1, r2 => absurd (show cLine + 1 ≤ n + 1 from hd) (by omega)
  | n + 1, A, .lst ts, v1, v2, u1, u2, hd, hu, d1, d2, r1, r2 => by
    obtain ⟨a1, xs, rfl, h1, e1⟩ := d1
    obtain ⟨a2, ys, rfl, h2, e2⟩ := d2
    cases (show u1 = Value.ref a1 from r1); cases (show u2 = Value.ref a2 from r2)
    by_cases hne : a1 = a2
    · subst hne; exact SeqAt.EqAt.same _
    obtain ⟨_, us, n1, q1, g1⟩ := (show ObjOk P w H s.heap a1 (.lst xs) from hok a1 _ h1)
    obtain ⟨_, ws, n2, q2, g2⟩ := (show ObjOk P w H s.heap a2 (.lst ys) from hok a2 _ h2)
    have hsz : us.toArray.size = ws.toArray.size := by
      rw [List.size_toArray, List.size_toArray, ← q1.length, ← q2.length, e1.len, e2.len]
    have hd' : depTs ts + 1 ≤ n + 1 := hd
    have h := SeqAt.RcAt.lists (A := A) (s := s) (e := fun _ => true) (⟨_, g1, rfl, _, rfl⟩ : s.heap.IsList a1 us.toArray) (⟨_, g2, rfl, _, rfl⟩ : s.heap.IsList a2 ws.toArray) hsz (by omega) fun j j1 j2 => by
      obtain ⟨t, w1, w2, ht, p1, p2, s1, s2⟩ := dens_at e1 e2 q1 q2 j j1 j2
      exact eqDen hok n A.in1 t w1 w2 _ _ (by have := depTs_mem ht; omega) (by show A.units + 1 + n < cLine; omega) p1 p2 s1 s2
    rw [range_all_true] at h
    exact SeqAt.EqAt.of_refs hne h
  | n + 1, A, .tup ts, v1, v2, u1, u2, hd, hu, d1, d2, r1, r2 => by
    obtain ⟨a1, xs, rfl, h1, e1⟩ := d1
    obtain ⟨a2, ys, rfl, h2, e2⟩ := d2
    cases (show u1 = Value.ref a1 from r1); cases (show u2 = Value.ref a2 from r2)
    by_cases hne : a1 = a2
    · subst hne; exact SeqAt.EqAt.same _
    obtain ⟨_, us, q1, g1⟩ := (show ObjOk P w H s.heap a1 (.tup xs) from hok a1 _ h1)
    obtain ⟨_, ws, q2, g2⟩ := (show ObjOk P w H s.heap a2 (.tup ys) from hok a2 _ h2)
    have hsz : us.toArray.size = ws.toArray.size := by
      rw [List.size_toArray, List.size_toArray, ← q1.length, ← q2.length, e1.len, e2.len]
    have hd' : depTs ts + 1 ≤ n + 1 := hd
    have h := SeqAt.RcAt.tuples (A := A) (s := s) (e := fun _ => true) (show s.heap.IsTuple a1 us.toArray from g1) (show s.heap.IsTuple a2 ws.toArray from g2) (by omega) fun j j1 j2 => by
      obtain ⟨t, w1, w2, ht, p1, p2, s1, s2⟩ := dens_at e1 e2 q1 q2 j j1 j2
      exact eqDen hok n A.in1 t w1 w2 _ _ (by have := depTs_mem ht; omega) (by show A.units + 1 + n < cLine; omega) p1 p2 s1 s2
    rw [range_all_true, hsz, beq_self_eq_true, Bool.and_self] at h
    exact SeqAt.EqAt.of_refs hne h
  | n + 1, A, .emp, v1, v2, u1, u2, hd, hu, d1, d2, r1, r2 => by
    obtain ⟨a1, rfl, h1⟩ := d1
    obtain ⟨a2, rfl, h2⟩ := d2
    cases (show u1 = Value.ref a1 from r1); cases (show u2 = Value.ref a2 from r2)
    by_cases hne : a1 = a2
    · subst hne; exact SeqAt.EqAt.same _
    obtain ⟨_, m1, vs1, q1, g1⟩ := (show ObjOk P w H s.heap a1 (.dK []) from hok a1 _ h1)
    obtain ⟨_, m2, vs2, q2, g2⟩ := (show ObjOk P w H s.heap a2 (.dK []) from hok a2 _ h2)
    cases q1
    cases q2
    refine SeqAt.EqAt.of_refs hne fun prog w' E Q hq => ?_
    exact PySem.W.keq_eq (K := Key) (knd := mixKind prog w') (r := true) m1 m2 (dict_nil_any g1) (dict_nil_any g2) (by omega) (fun _ => .nil) hq
theorem op_neD (hu : X.A.units + 64 < cLine) : OpR X (compareOp .NotEq) (fun x y H Q => ∃ t, Den H t x ∧ Den H t y ∧ depT t ≤ 60 ∧ Q (.bl false) H) := by
  intro pins s σ H x y v u Q I rx ry h
  obtain ⟨t, d1, d2, hd, q⟩ := h
  have scal_case : scal x y = true → x = y → wpAny (model X.prog X.w) X.A (compareOp .NotEq v u) (EP X pins σ Q) X.xe s := fun h1 h2 =>
    op_ne pins s σ H x y v u Q I rx ry ⟨h1, by rw [decide_eq_true h2]; exact q⟩
  cases t with
  | non => cases (show x = V.non from d1); cases (show y = V.non from d2); exact scal_case rfl rfl
  | bl b => cases (show x = V.bl b from d1); cases (show y = V.bl b from d2); exact scal_case rfl rfl
  | int i => cases (show x = V.int i from d1); cases (show y = V.int i from d2); exact scal_case rfl rfl
  | str z => cases (show x = V.str z from d1); cases (show y = V.str z from d2); exact scal_case rfl rfl
  | lst ts =>
    obtain ⟨a1, xs, rfl, h1, e1⟩ := d1
    obtain ⟨a2, ys, rfl, h2, e2⟩ := d2
    cases (show v = Value.ref a1 from rx); cases (show u = Value.ref a2 from ry)
    obtain ⟨_, us, n1, q1, g1⟩ := (show ObjOk X.prog X.w H s.heap a1 (.lst xs) from I.hok a1 _ h1)
    obtain ⟨_, ws, n2, q2, g2⟩ := (show ObjOk X.prog X.w H s.heap a2 (.lst ys) from I.hok a2 _ h2)
    have hsz : us.toArray.size = ws.toArray.size := by
      rw [List.size_toArray, List.size_toArray, ← q1.length, ← q2.length, e1.len, e2.len]
    have hd' : depTs ts + 1 ≤ 60 := hd
    have h := SeqAt.RcNeAt.lists (A := X.A) (s := s) (e := fun _ => true) (⟨_, g1, rfl, _, rfl⟩ : s.heap.IsList a1 us.toArray) (⟨_, g2, rfl, _, rfl⟩ : s.heap.IsList a2 ws.toArray) hsz (by omega) fun j j1 j2 => by
      obtain ⟨t, w1, w2, ht, p1, p2, s1, s2⟩ := dens_at e1 e2 q1 q2 j j1 j2
      exact eqDen I.hok 60 X.A.in1 t w1 w2 _ _ (by have := depTs_mem ht; omega) (by show X.A.units + 1 + 60 < cLine; omega) p1 p2 s1 s2
    rw [range_all_true] at h
    exact h X.prog X.w _ _ ⟨.bl false, H, I, rfl, q⟩
  | tup ts =>
    obtain ⟨a1, xs, rfl, h1, e1⟩ := d1
    obtain ⟨a2, ys, rfl, h2, e2⟩ := d2
    cases (show v = Value.ref a1 from rx); cases (show u = Value.ref a2 from ry)
    obtain ⟨_, us, q1, g1⟩ := (show ObjOk X.prog X.w H s.heap a1 (.tup xs) from I.hok a1 _ h1)
    obtain ⟨_, ws, q2, g2⟩ := (show ObjOk X.prog X.w H s.heap a2 (.tup ys) from I.hok a2 _ h2)
    have hsz : us.toArray.size = ws.toArray.size := by
      rw [List.size_toArray, List.size_toArray, ← q1.length, ← q2.length, e1.len, e2.len]
    have hd' : depTs ts + 1 ≤ 60 := hd
    have h := SeqAt.RcNeAt.tuples (A := X.A) (s := s) (e := fun _ => true) (show s.heap.IsTuple a1 us.toArray from g1) (show s.heap.IsTuple a2 ws.toArray from g2) (by omega) fun j j1 j2 => by
      obtain ⟨t, w1, w2, ht, p1, p2, s1, s2⟩ := dens_at e1 e2 q1 q2 j j1 j2
      exact eqDen I.hok 60 X.A.in1 t w1 w2 _ _ (by have := depTs_mem ht; omega) (by show X.A.units + 1 + 60 < cLine; omega) p1 p2 s1 s2
    rw [range_all_true, hsz, beq_self_eq_true, Bool.and_self] at h
    exact h X.prog X.w _ _ ⟨.bl false, H, I, rfl, q⟩
  | emp =>
    obtain ⟨a1, rfl, h1⟩ := d1
    obtain ⟨a2, rfl, h2⟩ := d2
    cases (show v = Value.ref a1 from rx); cases (show u = Value.ref a2 from ry)
    obtain ⟨_, m1, vs1, q1, g1⟩ := (show ObjOk X.prog X.w H s.heap a1 (.dK []) from I.hok a1 _ h1)
    obtain ⟨_, m2, vs2, q2, g2⟩ := (show ObjOk X.prog X.w H s.heap a2 (.dK []) from I.hok a2 _ h2)
    cases q1
    cases q2
    exact PySem.W.keq_ne (K := Key) (knd := mixKind X.prog X.w) (r := true) m1 m2 g1 g2 (by omega) (fun _ => .nil) ⟨.bl false, H, I, rfl, q⟩
  | dic => exact absurd (show cLine + 1 ≤ 60 from hd) (by omega)
noncomputable def iSeq (K : PySem.W.Frag) (tl : TE) : TI := fun σ H R => tl σ H fun x H1 => ∃ a xs, x = .ref a ∧ ((SqL K H1 a xs ∧ R (Itl K a) H1) ∨ (SqT K H1 a xs ∧ R (Itt K a) H1))
theorem pi_seq {tg l : Expr} {tl : TE} (hl : PE X l tl) : PI X tg l (iSeq X.K tl) := by
  intro pins s σ H R I h
  refine thn (hl pins s σ H _ I h) fun v s1 ⟨x, H1, I1, r1, q1⟩ => ?_
  obtain ⟨a, xs, e, q⟩ := q1
  subst e
  cases r1
  rcases q with ⟨hq, q⟩ | ⟨hq, q⟩
  · obtain ⟨its, rv, p, hz⟩ := I1.list hq
    refine wpAny_pyIter_list p.isList ?_
    refine ⟨s1.heap.objs.size, [s1.heap.objs.size], _, _, H1, rfl, I1.kept (t' := s1.toks) fun b o e => Heap.get?_push_of_some _ e, turn_list a _, ⟨_, Heap.get?_push_size _ rfl, rfl, rfl⟩, fun b hb => ?_, q⟩
    have e : b = s1.heap.objs.size := by simpa using hb
    subst e
    exact I1.fpOk (Nat.le_refl _) (I1.hok.fresh (Nat.le_refl _))
  · obtain ⟨its, rv, p, hz⟩ := I1.tuple hq
    refine wpAny_pyIter_tuple (show s1.heap.IsTuple a its.toArray from p) ?_
    refine ⟨s1.heap.objs.size, [s1.heap.objs.size], _, _, H1, rfl, I1.kept (t' := s1.toks) fun b o e => Heap.get?_push_of_some _ e, turn_tuple a _, ⟨_, Heap.get?_push_size _ rfl, rfl, rfl⟩, fun b hb => ?_, q⟩
    have e : b = s1.heap.objs.size := by simpa using hb
    subst e
    exact I1.fpOk (Nat.le_refl _) (I1.hok.fresh (Nat.le_refl _))
end
end L2
set_option maxHeartbeats 4000000
namespace L2
open PySem PySem.Spec PyProof.Rows
theorem ObjOk.there {P : Program} {w : World} {H : Hp} {h : Heap} {a : Addr} {o : HO} (k : ObjOk P w H h a o) : ∃ ob, h.get? a = some ob := by
  cases o with
  | lst _ => obtain ⟨_, _, _, _, e⟩ := k; exact ⟨_, e⟩
  | tup _ => obtain ⟨_, _, _, o, e, _⟩ := k; exact ⟨o, e⟩
  | dK _ => obtain ⟨_, _, _, _, o, _, _, e, _⟩ := k; exact ⟨o, e⟩
  | dT _ => obtain ⟨_, _, _, _, o, _, _, e, _⟩ := k; exact ⟨o, e⟩
  | set _ _ => obtain ⟨o, _, _, _, e, _⟩ := k; exact ⟨o, e⟩
  | ins _ _ _ => obtain ⟨_, _, _, e, _⟩ := k; exact ⟨_, e⟩
  | own _ => obtain ⟨o, e⟩ := k; exact ⟨o, e⟩
  | xd _ => obtain ⟨_, ⟨o, _, _, e, _⟩, _⟩ := k; exact ⟨o, e⟩
  | rng _ _ => obtain ⟨_, _, _, e⟩ := k; exact ⟨_, e⟩
  | frz _ _ => obtain ⟨e, _⟩ := k; exact ⟨_, e⟩
  | tbl _ => exact ⟨_, k⟩
  | met _ _ => exact ⟨_, k⟩
  | ext _ => obtain ⟨_, ⟨o, e⟩, _⟩ := k; exact ⟨o, e⟩
noncomputable def Fly (l : List Env) (h0 : Heap) (H' : Hp) (e : Addr) (cls : Value) (h : Heap) : Prop :=
  ∃ (B : Heap) (t : Addr), Heap.FlyingW B l e cls (.ref t) h ∧ h0.get? e = none ∧ H' e = none ∧
    ∀ b o, h.get? b = some o → ((∃ o', h0.get? b = some o') ∨ ∃ u, H' b = some u) → b ∉ frs l → B.get? b = some o
noncomputable def CXX (P : Program) (w : World) : CXT := fun outer H s E e s' =>
  ∃ a cls H', e = .ref a ∧ s'.os = s.os ∧ AllBare s'.gens ∧ Un (frs outer) [] H H' s.heap s'.heap ∧ HOk P w H' s'.heap ∧ Fly outer s.heap H' a cls s'.heap ∧ E cls none H'
theorem cxx_never {P : Program} {w : World} {H : Hp} {s : Shared} {e : Value} {s' : Shared} {l : List Env} (h : CXX P w l H s (fun _ _ _ => False) e s') : False := by
  obtain ⟨_, _, _, _, _, _, _, _, _, q⟩ := h
  exact q
theorem fly_keeps {P : Program} {w : World} {fs : List Addr} {l : List Env} {base B h0 h h5 : Heap} {H H' : Hp} (un : Un fs [] H H' h0 h) (hok : HOk P w H' h)
    (kB : ∀ b o, h.get? b = some o → ((∃ o', h0.get? b = some o') ∨ ∃ u, H' b = some u) → b ∉ frs l → B.get? b = some o)
    (ff : h.FunFrames base l) (hfs : ∀ b ∈ fs, b ∈ frs l) (hl : ∀ b ∈ frs l, b ∉ fs → h0.get? b = none) (hu : ∀ b ∈ frs l, H' b = none)
    (st : B.StaysIn h5) (up : h.UpToSlots h5) : Un fs [] H H' h0 h5 ∧ HOk P w H' h5 := by
  have kk : ∀ b o, h.get? b = some o → (∃ o', h0.get? b = some o') → b ∉ fs → h5.get? b = some o := fun b o e1 ⟨o', e0⟩ hb => by
    refine st b o (kB b o e1 (.inl ⟨o', e0⟩) fun z => ?_)
    rw [hl b z hb] at e0; cases e0
  have ks : ∀ b o, h.get? b = some o → b ∈ fs → ∃ sl, h5.get? b = some { o with slots := sl } := fun b o e1 hb => by
    obtain ⟨_, o2, e2, nf⟩ := ff.mem (hfs b hb)
    rw [e1] at e2; cases e2
    exact up b o e1 nf
  refine ⟨⟨fun b o e n hb hx => kk b o (un.keep b o e n hb hx) ⟨o, e⟩ hb, fun b o e n hb hx => ?_, un.free, fun b o e hx => ?_, un.tups, un.frzs, un.tbls⟩, fun a o e => ?_⟩
  · obtain ⟨s1, e1⟩ := un.slot b o e n hb hx
    obtain ⟨s2, e2⟩ := ks b _ e1 hb
    exact ⟨s2, e2⟩
  · obtain ⟨o', e1⟩ := un.there b o e hx
    by_cases hb : b ∈ fs
    · obtain ⟨s2, e2⟩ := ks b _ e1 hb
      exact ⟨_, e2⟩
    · exact ⟨o', kk b o' e1 ⟨o, e⟩ hb⟩
  · have tr : ∀ b u v, H' b = some u → h.get? b = some v → h5.get? b = some v := fun b u v q e1 => st b v (kB b v e1 (.inr ⟨u, q⟩) fun z => by rw [hu b z] at q; cases q)
    refine (hok a o e).stay (fun b v hb q => ?_) (fun _ q => q) fun _ _ q => q
    rcases hb with z | z
    · subst z; exact tr b o v e q
    · exact tr b _ v z q
structure DefCx (X : Cx) : Prop where
  st : X.stack = X.env :: X.outer
  fr : X.env.frame = some X.env.locals
  ex : X.ex = []
section
variable {X : Cx} {pins : List (Addr × Obj)} {σ : St} {H : Hp} {s : Shared} {E : XK} {M : Model}
theorem Inv.gone (I : Inv X pins σ H s) (dx : DefCx X) {e : Addr} (n : s.heap.get? e = none) : X.s₀.heap.get? e = none ∧ H e = none := by
  constructor
  · cases q : X.s₀.heap.get? e with
    | none => rfl
    | some o =>
      obtain ⟨o', z⟩ := I.base.there e o q (by rw [dx.ex]; simp)
      rw [n] at z; cases z
  · cases q : H e with
    | none => rfl
    | some u =>
      obtain ⟨o', z⟩ := (I.hok e u q).there
      rw [n] at z; cases z
theorem Inv.notMine (I : Inv X pins σ H s) {b : Addr} {o : Obj} (e : X.s₀.heap.get? b = some o) : b ≠ X.env.locals := Nat.ne_of_lt (Nat.lt_of_lt_of_le (Heap.lt_size e) I.ok.above)
theorem fly_out (dx : DefCx X) (I : Inv X pins σ H s) {B h' : Heap} {e t : Addr} {cls : Value}
    (kB : ∀ b o, s.heap.get? b = some o → ((∃ o', X.s₀.heap.get? b = some o') ∨ ∃ u, H b = some u) → b ∉ frs X.stack → B.get? b = some o)
    (fw : Heap.FlyingW B X.outer e cls (.ref t) h') (up : s.heap.UpToSlots h') (ne : X.s₀.heap.get? e = none) (hn : H e = none) (q : E cls none H) :
    CXX X.prog X.w X.outer X.H₀ X.s₀ E (.ref e) { s with heap := h' } := by
  have un0 : Un X.fs [] X.H₀ H X.s₀.heap s.heap := by have := I.base; rw [dx.ex] at this; exact this
  have sub : ∀ b ∈ X.fs, b ∈ frs X.stack := fun b hb => by
    rw [dx.st]; unfold frs; rw [List.filterMap_cons, dx.fr]; exact List.mem_cons_of_mem _ hb
  have hl : ∀ b ∈ frs X.stack, b ∉ X.fs → X.s₀.heap.get? b = none := fun b hb hn => by
    rcases List.mem_cons.mp (I.stkSub b hb) with z | z
    · cases q : X.s₀.heap.get? b with
      | none => rfl
      | some o => exact absurd z (I.notMine q)
    · exact absurd z hn
  obtain ⟨un, hok⟩ := fly_keeps (h5 := h') un0 I.hok kB I.stack sub hl I.stkFree fw.1 up
  refine ⟨e, cls, H, rfl, I.os, I.bare, un, hok, ⟨B, t, fw, ne, hn, fun b o e1 hz hb => ?_⟩, q⟩
  have there : ∃ o2, s.heap.get? b = some o2 := by
    rcases hz with ⟨o', z⟩ | ⟨u, z⟩
    · exact un0.there b o' z (by simp)
    · exact (I.hok b u z).there
  have nst : b ∉ frs X.stack := fun z => by
    rcases List.mem_cons.mp (I.stkSub b z) with y | y
    · rcases hz with ⟨o', q⟩ | ⟨u, q⟩
      · exact I.notMine q y
      · rw [I.stkFree b z] at q; cases q
    · exact hb y
  obtain ⟨o2, e2⟩ := there
  have e3 := kB b o2 e2 hz nst
  have e4 := fw.1 b o2 e3
  have e1' : h'.get? b = some o := e1
  rw [e1'] at e4
  cases e4
  exact e3
theorem leave_made (dx : DefCx X) (I : Inv X pins σ H s) {h1 : Heap} {e : Addr} {cls : Value} {args : List Value} (mk : Heap.MadeExcOf s.heap h1 e cls args) (q : E cls none H) {E' : Value → Shared → Prop} :
    wpAny M X.A (leaving X.env (.ref e)) (fun _ s2 => CXX X.prog X.w X.outer X.H₀ X.s₀ E (.ref e) s2) E' { s with heap := h1 } := by
  have hin : ∀ env ∈ X.stack, ∀ b, env.frame = some b → b ∈ frs X.stack := fun env he b hb => List.mem_filterMap.mpr ⟨env, he, hb⟩
  have ff := PySem.W.funFrames_hide I.stack hin
  rw [dx.st] at ff
  obtain ⟨n1, n2⟩ := I.gone dx mk.new
  refine wpAny_leaves_madeW (base := PySem.W.hideAll s.heap (frs (X.env :: X.outer))) (h := s.heap) (by rw [I.ok.frames, dx.st]) dx.fr (fun b o z => PySem.W.of_hideAll _ z) ff mk fun h' t x1 _ _ x4 => ?_
  exact fly_out dx I (fun b o e1 _ hb => PySem.W.hideAll_get _ e1 (by rw [← dx.st]; exact hb)) x1 ((Heap.UpToSlots.of_keeps mk.keeps).trans x4) n1 n2 q
end
end L2
set_option maxHeartbeats 4000000
namespace L2
open PySem PySem.Spec PyProof.Rows
abbrev vbm : List Value := [.type "ValueError", .type "Exception", .type "BaseException", .type "object"]
theorem cls_of {K : PySem.W.Frag} {h : Heap} {C : Addr} {nid : String} {bmB : List Value} (kin : K.In h) (z : PySem.W.excIn K C bmB nid = true) :
    ∃ (tl : List Value) (N : Addr) (nm qn : Str) (bs : List Value) (hd : Bool) (sn : List Str) (su : List Value) (ab : Bool) (co : Option Bool) (dd : Option Addr) (k0 k1 k2 k3 k5 : Option Value) (mN : Str → Option Value),
      h.get? C = some (excClassObj nm qn C N bs tl hd sn su ab co dd k0 k1 k2 k3 k5 nid) ∧ h.Ns N mN ∧ mN "__init__" = none ∧ OwnTail h bmB tl := by
  unfold PySem.W.excIn at z
  split at z
  · rename_i d0 c0 slt lk
    split at z
    · rename_i C2 tl a0 a1 a2 a3 nn a5 em es
      simp only [Bool.and_eq_true, beq_iff_eq, Bool.not_eq_true'] at z
      obtain ⟨⟨⟨⟨⟨y1, y2⟩, y3⟩, y4⟩, y5⟩, y6⟩ := z
      subst y1 y2
      obtain ⟨nm, bs, mr, ns, qn, hd, sn, su, ab, co, de⟩ := c0
      dsimp only at em y3 y5 y6
      subst em y3
      have sz : slt = #[a0, a1, a2, a3, some (.builtin nn), a5] := by
        cases slt with | mk l => exact congrArg Array.mk es
      subst sz
      exact ⟨tl, ns, nm, qn, bs, hd, sn, su, ab, co, d0, a0, a1, a2, a3, a5, _, kin _ _ lk, .of_isNs (PySem.W.isNs_of_in kin y5), PySem.W.nsMap_none_of_in kin y5 y6, PySem.W.tail_of_in kin y4⟩
    · cases z
  · cases z
structure XCls (K : PySem.W.Frag) (mg : Str → Option Value) (x : Str) (C : Addr) : Prop where
  at_ : mg x = some (.ref C)
  ok : PySem.W.excIn K C vbm "ValueError.__new__" = true
section
variable {X : Cx} {E : XK} {x : Str} {C : Addr} {np cpos pos : Pos} {e : Expr} {es : List Expr} {t : TA}
noncomputable def Reach (X : Cx) (E : XK) : Prop := ∀ (pins : List (Addr × Obj)) (σ : St) (H : Hp) (s : Shared) (h1 : Heap) (e : Addr) (cls : Value) (args : List Value), Inv X pins σ H s → Heap.MadeExcOf s.heap h1 e cls args → E cls none H → X.xe (.ref e) { s with heap := h1 }
noncomputable def tRaise (C : Addr) (E : XK) (t : TA) : TS := fun _ σ H => t σ H fun vs H1 => vs.length ≤ sizeLine ∧ E (.ref C) none H1
theorem ps_raise (hr : Reach X E) (hc : X.calm = true) (xc : XCls X.K X.mg x C) (hg : Gl X x) (ha : PA X (e :: es) t)
    (hdb : (x == ("__debug__" : Str)) = false := by decide) (he : starEach (e :: es) X.env = (false, eval e X.env) :: starEach es X.env := by rfl) (hpl : (backTo cpos (starEach es X.env)).any (·.1) = false := by rfl) :
    PS X (.Raise (some (.Call (.Name x np) (e :: es) [] cpos)) none pos) (tRaise C E t) := by
  intro pins s σ H D I h
  obtain ⟨tl, N, nm, qn, bs, hd, sn, su, ab, co, dd, k0, k1, k2, k3, k5, mN, hC, hN, hni, T⟩ := cls_of I.mod.kin xc.ok
  refine wpAny_Raise_call_subT (C := C) (nm := nm) (q := qn) (N := N) (bs := bs) (bm := tl) (hdct := hd) (sn := sn) (sub := su) (ab := ab) (col := co) (dd := dd) (k0 := k0) (k1 := k1) (k2 := k2) (k3 := k3) (k5 := k5)
    PySem.F.excBase_ValueError (mN := mN) (T.hasType PySem.F.excBase_ValueError.hasBase) (I.ok.hd hc) (by rw [he]; show (false || _) = false; exact hpl) hni (ld_glob I hg xc.at_ ⟨rfl, ?_⟩ hdb)
  have h2 := ha cpos pins s σ H _ I h
  rw [he] at h2 ⊢
  exact Calls.evalArgs_plain (wpAny_mono h2 (fun us s2 ⟨vs, H1, I1, rv, hl, q⟩ => ⟨rfl, by rw [← rv.length]; exact hl, I1.bk _ _ hC, hN.keeps I1.bk, T.keeps I1.bk, fun h' e mk => hr pins σ H1 s2 h' e _ us I1 mk q⟩) fun _ _ y => y)
end
section
variable {P : Program} {w : World} {K : PySem.W.Frag} {mg : Str → Option Value} {base : Heap} {N : List Str} {qual : Str} {scope : Scope} {f : Addr} {cd : Value} {A : Around} {outer : List Env} {s : Shared} {H : Hp} {E : XK}
theorem dxOf {CX : CXT} : DefCx (cxOf CX P w K mg base N qual scope f cd A outer s H E) := ⟨rfl, rfl, rfl⟩
theorem reachOf : Reach (cxOf (CXX P w) P w K mg base N qual scope f cd A outer s H E) E := fun _ _ _ _ _ _ _ _ I mk q => leave_made dxOf I mk q
theorem Fun.okX {x : Str} {st : Stmt} {fd : FuncData} {ps : List Str} {k : Nat} {sp : Sp} (F : Fun K x qual st f fd) (S : FnScope N ps (defScope st)) (len : ∀ vs H Q E, sp vs H Q E → vs.length = ps.length)
    (hbody : ∀ (cdv : Value) (A : Around) (outer : List Env) (s : Shared) (H : Hp) (vs : List V) (Q : VK) (E : XK), Room k (A.deeper (envOfC qual (defScope st) s.heap.objs.size f cdv)) → sp vs H Q E →
      ∃ t, PSs (cxOf (CXX P w) P w K mg base N qual (defScope st) f cdv A outer s H E) (defBody st) t ∧ t { nx := fun _ H' => Q .non H', rt := Q } (start N vs) H) : FnOk P w K mg base (CXX P w) (k + 1) f fd ps sp := by
  obtain ⟨oc, od, kV, doc, pm, an, cdv, ct, osl, rfl, lk, hcd⟩ := F.ex
  exact fn_of lk hcd S len fun A outer s H vs Q E hr hsp => hbody cdv A outer s H vs Q E hr hsp
end
theorem FnOk.calm {P : Program} {w : World} {K : PySem.W.Frag} {mg : Str → Option Value} {base : Heap} {CX : CXT} {k : Nat} {f : Addr} {fd : FuncData} {ps : List Str} {sp : Sp} (F : FnOk P w K mg base CX0 k f fd ps sp) : FnOk P w K mg base CX k f fd ps sp :=
  ⟨F.len, fun A outer s H args us vs Q E hr he hb hv hs => codeAny_mono (F.run A outer s H args us vs Q E hr he hb hv hs) fun r s' h => by
    cases r with
    | ok fl => cases fl <;> exact h
    | error e => exact False.elim h⟩
section
variable {X : Cx}
theorem PS.nox {st : Stmt} {t : TS} (h : PS X.nox st t) : PS X st t := fun pins s σ H D I hw =>
  wpAny_mono (h pins s σ H D (I.wish _) hw) (fun _ _ q => q.unwish) fun _ _ z => z.elim
end
end L2
set_option maxHeartbeats 4000000
namespace L2
open PySem PySem.Spec PyProof.Rows
noncomputable abbrev Cx.held (X : Cx) (e : Addr) (oe : Obj) : Cx := { X with A := X.A.mark (some (.ref e)), calm := false, pn := (e, oe) :: X.pn, xe := fun _ _ => False }
noncomputable abbrev Cx.tried (X : Cx) (xe : Value → Shared → Prop) (pins : List (Addr × Obj)) : Cx := { X with xe := xe, pn := X.pn ++ pins }
section
variable {X : Cx} {pins pins' : List (Addr × Obj)} {σ : St} {H : Hp} {s : Shared} {xe : Value → Shared → Prop} {e : Addr} {oe : Obj}
theorem Cx.Ok.tried (ok : X.Ok) : (X.tried xe pins).Ok := ⟨ok.mod, ok.kind, ok.glob, ok.blt, ok.above, ok.inj, ok.has, ok.cab, ok.hd, ok.frames, ok.stk, ok.exf, ok.bs, ok.bsz, ok.noex, ok.exfs, ok.funs, ok.frf⟩
theorem Cx.Ok.untried (ok : (X.tried xe pins).Ok) : X.Ok := ⟨ok.mod, ok.kind, ok.glob, ok.blt, ok.above, ok.inj, ok.has, ok.cab, ok.hd, ok.frames, ok.stk, ok.exf, ok.bs, ok.bsz, ok.noex, ok.exfs, ok.funs, ok.frf⟩
theorem Inv.tried (I : Inv X pins σ H s) : Inv (X.tried xe pins) [] σ H s := ⟨I.ok.tried, I.os, I.bare, I.base, I.loc, I.cell, I.free, I.freeC, fun p hp => I.pin p (by simpa using hp), I.hok, I.len⟩
theorem Inv.untried (I : Inv (X.tried xe pins) pins' σ H s) : Inv X pins σ H s := ⟨I.ok.untried, I.os, I.bare, I.base, I.loc, I.cell, I.free, I.freeC, fun p hp => I.pin p (List.mem_append_left _ hp), I.hok, I.len⟩
theorem Inv.held (I : Inv X pins σ H s) (he : s.heap.get? e = some oe) (hn : H e = none) (hL : e ≠ X.env.locals) (hf : e ∉ X.fs) (hc : ∀ v, oe.data ≠ .cell v) : Inv (X.held e oe) pins σ H s := by
  have ok := I.ok
  refine ⟨⟨ok.mod, ok.kind, ok.glob, ok.blt, ok.above, ok.inj, ok.has, ok.cab, (fun z => by cases z), ok.frames, ok.stk, ok.exf, ok.bs, ok.bsz, ok.noex, ok.exfs, ok.funs, ok.frf⟩, I.os, I.bare, I.base, I.loc, I.cell, I.free, I.freeC, fun p hp => ?_, I.hok, I.len⟩
  rcases List.mem_cons.mp hp with z | z
  · subst z; exact ⟨he, hn, hL, hf, hc⟩
  · exact I.pin p z
theorem Inv.unheld (I : Inv (X.held e oe) pins σ H s) (hd : X.calm = true → X.A.handled = none) : Inv X pins σ H s := by
  have ok := I.ok
  exact ⟨⟨ok.mod, ok.kind, ok.glob, ok.blt, ok.above, ok.inj, ok.has, ok.cab, hd, ok.frames, ok.stk, ok.exf, ok.bs, ok.bsz, ok.noex, ok.exfs, ok.funs, ok.frf⟩, I.os, I.bare, I.base, I.loc, I.cell, I.free, I.freeC, fun p hp => I.pin p (List.mem_cons_of_mem _ hp), I.hok, I.len⟩
end
noncomputable def PassesS (CX : CXT) (X : Cx) (E : St → XK) : Prop := ∀ (pins : List (Addr × Obj)) (σ : St) (H : Hp) (s : Shared) (e : Value) (s' : Shared), Inv X pins σ H s → CX X.stack H s (E σ) e s' → X.xe e s'
noncomputable def tCallS (sp : Sp) (dvs : List V) (E : St → XK) (t : TA) : TE := fun σ H Q => t σ H fun vs H1 => sp (vs ++ dvs) H1 Q (E σ)
section
variable {X : Cx} {CX : CXT} {k : Nat} {f : Addr} {fd : FuncData} {ps : List Str} {sp : Sp} {dvs : List V} {ds : List Value} {E : St → XK} {x : Str} {p pos : Pos} {e : Expr} {es : List Expr} {t : TA}
theorem pe_callS (F : FnOk X.prog X.w X.K X.mg X.base CX k f fd ps sp) (hr : Room k X.A) (hg : Gl X x) (hm : X.mg x = some (.ref f)) (hk : PySem.W.keepIn X.K (.ref f) = true) (hb : Binds X.K fd ps ds) (hd : Vals dvs ds) (hx : PassesS CX X E)
    (ha : PA X (e :: es) t) (hdb : (x == ("__debug__" : Str)) = false := by decide) (he : starEach (e :: es) X.env = (false, eval e X.env) :: starEach es X.env := by rfl) (hpl : (backTo pos (starEach es X.env)).any (·.1) = false := by rfl) :
    PE X (.Call (.Name x p) (e :: es) [] pos) (tCallS sp dvs E t) := by
  intro pins s σ H Q I h
  refine wpAny_Call_Name_kw (ld_glob I hg hm ?_ hdb)
  refine PySem.W.callWith_K (h₀ := X.base) I.ok.mod.kin hk (thn (ha pos pins s σ H _ I h) fun us s1 ⟨vs, H1, I1, r, q⟩ => ⟨I1.kIn, ?_⟩) he hpl
  have r2 : Vals (vs ++ dvs) (us ++ ds) := r.append hd
  have hl : (us ++ ds).length = ps.length := by rw [← r2.length]; exact F.len _ _ _ _ q
  refine wpAny_call (codeAny_mono (F.run X.A X.stack s1 H1 ⟨us, []⟩ (us ++ ds) (vs ++ dvs) Q (E σ) hr I1.env0 (hb s1 us I1.kIn hl) r2 q) fun r s' hq => ?_)
  cases r with
  | error e => exact hx pins σ H1 s1 e s' I1 hq
  | ok fl =>
    cases fl with
    | ret u => exact I1.after hq
    | next => exact False.elim hq
    | brk => exact False.elim hq
    | cont => exact False.elim hq
end
structure Catch (K : PySem.W.Frag) (CS : Addr) : Prop where
  ty : PySem.W.typeIn K (.ref CS) = some (.type "type")
  isc : PySem.W.isClsIn K CS = true
  base : PySem.W.subIn K (.ref CS) (.type "BaseException") = some true
open PySem.W in
theorem looks_isType {K : Frag} {M : Model} {h : Heap} {C : Addr} (kin : K.In h) (z : isClsIn K C = true) : Looks M h (isType (.ref C)) true := by
  unfold isClsIn clsIn at z
  split at z
  · rename_i lk
    intro A Q E s k q
    unfold isType loadHead
    exact wpAny_bind (wpAny_loadPart (k C _ (kin C _ lk)) (wpAny_pure q))
  · cases z
open PySem.W in
theorem exc_matches {prog : Program} {w : World} {A : Around} {E : Value → Shared → Prop} {s : Shared} {K : Frag} {e CS : Addr} {oe : Obj} {Q : Bool → Shared → Prop} (kin : K.In s.heap) (he : s.heap.get? e = some oe) (ca : Catch K CS)
    (hC : subIn K oe.cls (.ref CS) = some true) (hq : Q true s) : wpAny (model prog w) A (excMatches (.ref e) (.ref CS)) Q E s := by
  obtain ⟨hh, g, d, tk, os⟩ := s
  have L1 : Looks (model prog w) hh (typeOf (.ref CS)) (.type "type") := looks_typeIn kin ca.ty
  have L2 : Looks (model prog w) hh (isType (.ref CS)) true := looks_isType kin ca.isc
  have L3 : Looks (model prog w) hh (isSubtype oe.cls (.ref CS)) true := looks_subIn kin hC
  have L4 : Looks (model prog w) hh (isInstance (.ref CS) (.type "tuple")) false := L1.andThen (Looks.of_pure tc_notTuple)
  have L5 : Looks (model prog w) hh (isExcClass (.ref CS)) true := L2.andThen (looks_subIn kin ca.base)
  have L6 : Looks (model prog w) hh (typeOf (.ref e)) oe.cls := (Looks.ld he).andThen .now
  unfold excMatches
  refine wpAny_bind (L4.at ?_)
  simp only [Bool.false_eq_true, if_false]
  refine wpAny_bind (wpAny_pure ?_)
  simp only [List.forIn_cons, List.forIn_nil]
  refine wpAny_bind (wpAny_bind (wpAny_bind (L5.at ?_)))
  simp only [Bool.not_true, Bool.false_eq_true, if_false]
  refine wpAny_pure (wpAny_pure (wpAny_bind (L6.at ?_)))
  refine wpAny_bind (wpAny_bind (wpAny_bind (L3.at ?_)))
  simp only [if_true]
  exact wpAny_pure (wpAny_pure (wpAny_pure hq))
end L2
set_option maxHeartbeats 4000000
namespace L2
open PySem PySem.Spec PyProof.Rows
noncomputable def Bg (i : Int) : Prop := Builtin.Int.intBits i ≤ 1048576
open PySem.W in
theorem bg_of_lay {ns : List Int} (h : WData.layableAll [WData.list (ns.map WData.int)] = true) : ∀ i ∈ ns, Bg i := fun i hi => by
  have h1 := layableW_arg h _ (List.mem_singleton.mpr rfl)
  have h2 := layableW_item h1 (.int i) (List.mem_map.mpr ⟨i, hi, rfl⟩)
  have h3 := (layableW_iff.mp h2).2.2
  exact h3
open PySem.W in
theorem attachB {l : OpenLaw} {n : Nat} {q : Program} {loose : List Str} {XP : (Str → Option Value) → Heap → Prop} {YP : World → Heap → Prop} {d : DefRec}
    (hn : l.most = some n) (hdf : d.params.defaults = [])
    (run : ∀ (w : World) (s0 s1 : Shared) (mg mb : Str → Option Value) (fa : Addr) (o : Obj) (pm cd doc : Value) (a : Addr) (vs : List Value) (ns : List Int),
      Ground q loose [] XP w s0 mg mb s1.heap → YP w s1.heap →
      s1.heap.get? fa = some o → o.data = .func (Calls.docDef d.name d.params d.body d.scope pm cd doc) → s1.heap.CodeRec cd d.name → mg d.name = some (.ref fa) →
      s1.heap.get? a = some { cls := .type "list", data := .seq vs.toArray } → IntsAre vs ns → ns.length ≤ n → (∀ i ∈ ns, Bg i) → s1.gens = #[] →
      codeAny (model l.prog w) callerA (.call (.ref fa) ⟨[.ref a], []⟩) (fun r s' => r = .ok (.ret (.bool true)) ∧ OldK s1.heap s'.heap ∧ s'.os = s1.os ∧ AllBare s'.gens) s1) :
    WalkO q loose XP YP l.row.toRowW d [] (fun f vs => PySem.call f vs) := by
  intro w s0 s1 mg mb G Y fa o pm cd doc dV kV ho hd hcd hD hmg hg args vals as hpre hlay hrd hwl hlo
  obtain rfl : dV = .none := Dflts.none hD hdf
  obtain rfl : kV = .none := Dflts.noKw hD
  obtain ⟨a, vs, ns, rfl, rfl, hobj, hints, hlen⟩ := Att.script_of hn hpre hwl
  have hbg := bg_of_lay hlay
  refine enter_call (codeAny_mono (run w s0 s1 mg mb fa o pm cd doc a vs ns G Y ho (fd_plain hd) hcd hmg hobj hints hlen hbg hg) fun r s' hq => ?_)
  obtain ⟨e1, h2, h3, h4⟩ := hq
  subst e1
  exact ⟨.inl ⟨.bool true, .bool true, [], rfl, fun _ => rfl, .bool true, Att.post_true l _, fun _ => ⟨List.Pairwise.nil, fun _ hm => (nomatch hm)⟩⟩, h2, h3, h4⟩
theorem walk_ofB {l : PySem.W.OpenLaw} {n k : Nat} {q : Program} {loose : List Str} {XP : (Str → Option Value) → Heap → Prop} {YP : World → Heap → Prop} {d : DefRec} {K : Params → PySem.W.Frag} {CX : World → CXT} {sp : World → Sp} {x : Str}
    (hn : l.most = some n) (hn2 : n ≤ sizeLine) (hdf : d.params.defaults = []) (hr : Room k callerA)
    (hY : ∀ (w : World) (h : Heap), YP w h → (K w.params).In h)
    (F : ∀ (w : World) (mg : Str → Option Value) (fa : Addr) (h : Heap), (K w.params).In h → h.Ns mainGlobals mg → mg d.name = some (.ref fa) →
      ∃ fd : FuncData, (∀ (s : Shared) (u : Value), BindsTo s fd ⟨[u], []⟩ [(x, u)]) ∧
        ∀ base : Heap, (K w.params).In base → base.Ns mainGlobals mg → FnOk l.prog w (K w.params) mg base (CX w) k fa fd [x] (sp w))
    (hsp : ∀ (w : World) (H : Hp) (a : Addr) (ns : List Int), ns.length ≤ n → (∀ i ∈ ns, Bg i) → Only H → SqL (K w.params) H a (ns.map V.int) → sp w [.ref a] H (fun v _ => v = .bl true) fun _ _ _ => False)
    (hCX : ∀ (w : World) (H : Hp) (s : Shared) (e : Value) (s' : Shared), CX w [] H s (fun _ _ _ => False) e s' → False) :
    PySem.W.WalkO q loose XP YP l.row.toRowW d [] (fun f vs => PySem.call f vs) := by
  refine attachB hn hdf fun w s0 s1 mg mb fa o pm cd doc a vs ns G Y ho hd hcd hmg hobj hints hlen hbg hg => ?_
  have KX := hY w _ Y
  obtain ⟨fd, hb, hF⟩ := F w mg fa _ KX G.T.g hmg
  exact law_call KX G.T.g G.T.b G.T.builtins G.T.nolimit hg hobj hints (Nat.le_trans hlen hn2) hr hF hb (fun H hO hS => hsp w H a ns hlen hbg hO hS) fun H e s' => hCX w H s1 e s'
theorem Dens.at {H : Hp} {ts : List Th} {xs : List V} {i : Int} (d : Th) (h : Dens H ts xs) (h0 : 0 ≤ i) (h1 : i < (ts.length : Int)) : ∃ v, atI xs i = some v ∧ Den H (ts.getD i.toNat d) v := by
  have hk : i.toNat < ts.length := by omega
  have ek : i = ((i.toNat : Nat) : Int) := by omega
  obtain ⟨v, e, q⟩ := h.get (List.getElem?_eq_getElem hk)
  have z := atI_nat e
  rw [← ek] at z
  refine ⟨v, z, ?_⟩
  rw [getD_in hk]; exact q
end L2
set_option maxHeartbeats 4000000
namespace L2
open PySem PySem.Spec PyProof.Rows
section
variable {prog : Program} {w : World} {A : Around} {E : Value → Shared → Prop}
end
end L2
set_option maxHeartbeats 4000000
namespace L2
open PySem PySem.Spec PySem.W PyProof.Rows Builtin Builtin.ObjectAttr Builtin.Getset_descriptor
structure XInst (K : Frag) (C : Addr) : Prop where
  ga : findIn K (.ref C) "__getattribute__" = some (some (.builtin "BaseException.__getattribute__"))
  gt : findIn K (.ref C) "__getattr__" = some none
  cl : findIn K (.ref C) "__class__" = some (some (.builtin "object.__class__"))
  sg : specialIn K (.builtin "object.__class__") "__get__" = some (some (.builtin "getset_descriptor.__get__"))
  tk : takesIn K (.builtin "object.__class__") = some true
  ob : mroIn K C (.type "object") = some true
  be : mroIn K C (.type "BaseException") = some true
  ok : isClsIn K C = true
section
variable {prog : Program} {w : World} {A : Around} {E : Value → Shared → Prop} {K : Frag} {a C : Addr} {oe : Obj} {h : Heap} {g : Array GenState} {d : Drawn} {t : Nat} {os : OsState}
end
section
variable {X : Cx} {e : Addr} {oe : Obj}
theorem op_eqD (hu : X.A.units + 64 < cLine) : OpR X (compareOp .Eq) (fun x y H Q => ∃ t, Den H t x ∧ Den H t y ∧ depT t ≤ 60 ∧ Q (.bl true) H) := by
  intro pins s σ H x y v u Q I rx ry h
  obtain ⟨t, d1, d2, hd, q⟩ := h
  have scal_case : scal x y = true → x = y → wpAny (model X.prog X.w) X.A (compareOp .Eq v u) (EP X pins σ Q) X.xe s := fun h1 h2 =>
    op_eq pins s σ H x y v u Q I rx ry ⟨h1, by rw [decide_eq_true h2]; exact q⟩
  cases t with
  | non => cases (show x = V.non from d1); cases (show y = V.non from d2); exact scal_case rfl rfl
  | bl b => cases (show x = V.bl b from d1); cases (show y = V.bl b from d2); exact scal_case rfl rfl
  | int i => cases (show x = V.int i from d1); cases (show y = V.int i from d2); exact scal_case rfl rfl
  | str z => cases (show x = V.str z from d1); cases (show y = V.str z from d2); exact scal_case rfl rfl
  | lst ts =>
    obtain ⟨a1, xs, rfl, h1, e1⟩ := d1
    obtain ⟨a2, ys, rfl, h2, e2⟩ := d2
    cases (show v = Value.ref a1 from rx); cases (show u = Value.ref a2 from ry)
    obtain ⟨_, us, n1, q1, g1⟩ := (show ObjOk X.prog X.w H s.heap a1 (.lst xs) from I.hok a1 _ h1)
    obtain ⟨_, ws, n2, q2, g2⟩ := (show ObjOk X.prog X.w H s.heap a2 (.lst ys) from I.hok a2 _ h2)
    have hsz : us.toArray.size = ws.toArray.size := by
      rw [List.size_toArray, List.size_toArray, ← q1.length, ← q2.length, e1.len, e2.len]
    have hd' : depTs ts + 1 ≤ 60 := hd
    have h := SeqAt.RcAt.lists (A := X.A) (s := s) (e := fun _ => true) (⟨_, g1, rfl, _, rfl⟩ : s.heap.IsList a1 us.toArray) (⟨_, g2, rfl, _, rfl⟩ : s.heap.IsList a2 ws.toArray) hsz (by omega) fun j j1 j2 => by
      obtain ⟨t, w1, w2, ht, p1, p2, s1, s2⟩ := dens_at e1 e2 q1 q2 j j1 j2
      exact eqDen I.hok 60 X.A.in1 t w1 w2 _ _ (by have := depTs_mem ht; omega) (by show X.A.units + 1 + 60 < cLine; omega) p1 p2 s1 s2
    rw [range_all_true] at h
    exact h X.prog X.w _ _ ⟨.bl true, H, I, rfl, q⟩
  | tup ts =>
    obtain ⟨a1, xs, rfl, h1, e1⟩ := d1
    obtain ⟨a2, ys, rfl, h2, e2⟩ := d2
    cases (show v = Value.ref a1 from rx); cases (show u = Value.ref a2 from ry)
    obtain ⟨_, us, q1, g1⟩ := (show ObjOk X.prog X.w H s.heap a1 (.tup xs) from I.hok a1 _ h1)
    obtain ⟨_, ws, q2, g2⟩ := (show ObjOk X.prog X.w H s.heap a2 (.tup ys) from I.hok a2 _ h2)
    have hsz : us.toArray.size = ws.toArray.size := by
      rw [List.size_toArray, List.size_toArray, ← q1.length, ← q2.length, e1.len, e2.len]
    have hd' : depTs ts + 1 ≤ 60 := hd
    have h := SeqAt.RcAt.tuples (A := X.A) (s := s) (e := fun _ => true) (show s.heap.IsTuple a1 us.toArray from g1) (show s.heap.IsTuple a2 ws.toArray from g2) (by omega) fun j j1 j2 => by
      obtain ⟨t, w1, w2, ht, p1, p2, s1, s2⟩ := dens_at e1 e2 q1 q2 j j1 j2
      exact eqDen I.hok 60 X.A.in1 t w1 w2 _ _ (by have := depTs_mem ht; omega) (by show X.A.units + 1 + 60 < cLine; omega) p1 p2 s1 s2
    rw [range_all_true, hsz, beq_self_eq_true, Bool.and_self] at h
    exact h X.prog X.w _ _ ⟨.bl true, H, I, rfl, q⟩
  | emp =>
    obtain ⟨a1, rfl, h1⟩ := d1
    obtain ⟨a2, rfl, h2⟩ := d2
    cases (show v = Value.ref a1 from rx); cases (show u = Value.ref a2 from ry)
    obtain ⟨_, m1, vs1, q1, g1⟩ := (show ObjOk X.prog X.w H s.heap a1 (.dK []) from I.hok a1 _ h1)
    obtain ⟨_, m2, vs2, q2, g2⟩ := (show ObjOk X.prog X.w H s.heap a2 (.dK []) from I.hok a2 _ h2)
    cases q1
    cases q2
    exact PySem.W.keq_eq (K := Key) (knd := mixKind X.prog X.w) (r := true) m1 m2 g1 g2 (by omega) (fun _ => .nil) ⟨.bl true, H, I, rfl, q⟩
  | dic => exact absurd (show cLine + 1 ≤ 60 from hd) (by omega)
end
end L2
set_option maxHeartbeats 4000000
namespace L2
open PySem PySem.Spec PyProof.Rows
section
variable {X : Cx} {pins : List (Addr × Obj)} {σ : St} {H : Hp} {s : Shared} {h' : Heap}
theorem Inv.turnedL {t' : Nat} {fp : List Addr} (I : Inv X pins σ H s) (k : ∀ b o, b ∉ fp → s.heap.get? b = some o → h'.get? b = some o) (hf : ∀ b ∈ fp, FpOk X pins H b) :
    Inv X pins σ H { s with heap := h', toks := t' } := by
  have nin : ∀ b u, H b = some u → b ∉ fp := fun b u e z => by rw [(hf b z).1] at e; cases e
  refine I.step (g' := s.gens) (d' := s.drawn) (ch := fp) (fun b hb => ⟨(hf b hb).2.2.2.1, (hf b hb).2.1, (hf b hb).2.2.2.2.1, (hf b hb).2.2.2.2.2⟩) (fun b o _ _ hc e _ => k b o hc e) (fun b o _ _ hc e _ => ⟨o.slots, k b o hc e⟩) (fun _ _ _ _ n => n)
    (fun b o hc e => ⟨o, k b o hc e⟩) (fun _ _ e => e) (fun _ _ _ e => e) (fun b ps e => ⟨#[], by rw [e]; simp⟩) (fun m hm => ?_) (fun b u e => ?_) I.bare
  · obtain ⟨o, es, ep, ho, r⟩ := hm
    exact ⟨o, es, ep, k _ o (fun z => (hf _ z).2.1 rfl) ho, r⟩
  · refine (I.hok b u e).stay (fun c v hc q => k c v ?_ q) (fun _ q => q) fun _ _ q => q
    rcases hc with z | z
    · rw [z]; exact nin b u e
    · exact nin c _ z
theorem Inv.turnLay {t' : Nat} {fp : List Addr} {a : Addr} {o : HO} (I : Inv X pins σ H s) (k : ∀ b u, b ∉ fp → s.heap.get? b = some u → h'.get? b = some u) (hf : ∀ b ∈ fp, FpOk X pins H b)
    (ha : s.heap.objs.size ≤ a) (new : ObjOk X.prog X.w (upd H a o) h' a o) : Inv X pins σ (upd H a o) { s with heap := h', toks := t' } := by
  have nin : ∀ b u, H b = some u → b ∉ fp := fun b u e z => by rw [(hf b z).1] at e; cases e
  have hn : H a = none := I.hok.fresh ha
  have ne : ∀ b u, H b = some u → b ≠ a := fun b u e z => by rw [z, hn] at e; cases e
  refine I.step (g' := s.gens) (d' := s.drawn) (ch := fp) (fun b hb => ⟨(hf b hb).2.2.2.1, (hf b hb).2.1, (hf b hb).2.2.2.2.1, (hf b hb).2.2.2.2.2⟩) (fun b o _ _ hc e _ => k b o hc e) (fun b o _ _ hc e _ => ⟨o.slots, k b o hc e⟩)
    (fun b u _ e n => by rw [upd_ne (Nat.ne_of_lt (Nat.lt_of_lt_of_le (Heap.lt_size e) ha))]; exact n)
    (fun b o hc e => ⟨o, k b o hc e⟩) (fun b xs e => by rw [upd_ne (ne b _ e)]; exact e) (fun b o u e => by rw [upd_ne (ne b _ e)]; exact e) (fun b ps e => ⟨#[], by rw [upd_ne (ne b _ e), e]; simp⟩) (fun m hm => ?_) (fun b u e => ?_) I.bare
  · obtain ⟨o, es, ep, ho, r⟩ := hm
    exact ⟨o, es, ep, k _ o (fun z => (hf _ z).2.1 rfl) ho, r⟩
  · by_cases hb : b = a
    · subst hb
      rw [upd_same] at e
      cases e
      exact new
    · rw [upd_ne hb] at e
      refine (I.hok b u e).stay (fun c v hc q => k c v ?_ q) (fun c q => by rw [upd_ne (ne c _ q)]; exact q) fun c xs q => by rw [upd_ne (ne c _ q)]; exact q
      rcases hc with z | z
      · rw [z]; exact nin b u e
      · exact nin c _ z
end
theorem zapart {n l1 l2 : Nat} (h1 : l1 < n) (h2 : l2 < n) : ZipApart (n + 4) (n + 2) (n + 3) n (n + 1) l1 l2 := by
  constructor <;> (show (_ : Nat) ≠ (_ : Nat); omega)
end L2
set_option maxHeartbeats 4000000
namespace L2
open PySem PySem.Spec PyProof.Rows
noncomputable abbrev testsOf (ifs : List Expr) (env : Env) : Sem Bool := forIn ifs true fun c ok => if ok = true then do
      let ok ← PySem.isTrue c env (eval c env)
      pure (ForInStep.yield ok)
    else pure (ForInStep.yield ok)
theorem compTurn_ifs (elt target iter : Expr) (ifs : List Expr) (scope : Scope) (pos : Pos) (it acc : Value) (env : Env) :
  compTurn (elt.ListComp [⟨target, iter, ifs, 0⟩] scope pos) 0 it acc env = (do
    standAt iter.pos
    let r ← pyNext it
    match r with
      | none => pure (Fin.done Flow.next)
      | some v => do
        letOwnedTupleGo target it v
        assign target env v
        let ok ← testsOf ifs env
        if ok = true then do
          let x ← eval elt env
          let _ ← call (Value.builtin "list.append") [acc, x]
          again (Code.compLoop (elt.ListComp [⟨target, iter, ifs, 0⟩] scope pos) 0 it acc env)
        else again (Code.compLoop (elt.ListComp [⟨target, iter, ifs, 0⟩] scope pos) 0 it acc env)) := by
  unfold compTurn
  simp
  rfl
noncomputable def PIf (X : Cx) (ifs : List Expr) (t : TT) : Prop :=
  ∀ (pins : List (Addr × Obj)) (s : Shared) (σ : St) (H : Hp) (Q : Bool → Hp → Prop), Inv X pins σ H s → t σ H Q → wpAny (model X.prog X.w) X.A (testsOf ifs X.env) (TP X pins σ Q) X.xe s
noncomputable def tYes : TT := fun _ H Q => Q true H
theorem pif_nil {X : Cx} : PIf X [] tYes := fun pins s σ H Q I h => by
  show wpAny _ _ (pure true) _ _ s
  exact wpAny_pure ⟨H, I, h⟩
structure CompOkL (X : Cx) (xs : List Str) (ts : List (Str × Nat)) (scope : Scope) (cl : List (Str × Addr)) : Prop where
  clos : closureFor scope X.env = pure cl
  sub : ∀ y c, cl.lookup y = some c → X.env.cells.lookup y = some c
  nocell : (scope.names.all fun p => p.2 != .cell) = true
  kind : scope.kind = .function
  locs : (scope.names.all fun p => p.2 != .local || scope.names.lookup p.1 == some .local) = true
  nd : (xs ++ ts.map (·.1)).Nodup
  around : (ts.all fun p => decide (X.N[p.2]? = some p.1) && (X.env.kindOf p.1 == some .cell || X.env.kindOf p.1 == some .free) && (cl.lookup p.1).isSome &&
    ((relabel scope X.env).names.lookup p.1 == some .cell || (relabel scope X.env).names.lookup p.1 == some .free)) = true
  has : ((relabel scope X.env).names.all fun p => !(p.2 == .cell || p.2 == .free) || (cl.lookup p.1).isSome) = true
noncomputable abbrev nmsL (xs : List Str) (ts : List (Str × Nat)) : List Str := xs ++ ts.map (·.1)
noncomputable def CompG (J : It) (g : TG) (tt : TT) (te : TE) (k : Nat) (st : St) (D : Addr) (H1 : Hp) (Q : VK) : Prop :=
  ∃ W : Nat → Nat → List V → Hp → Prop, (∃ m, W 0 m [] (upd H1 D (.lst []))) ∧ ∀ i m ys H2, W i m ys H2 →
    (J.stop i H2 ∧ Q (.ref D) H2) ∨ (J.go i H2 ∧ ∀ x H3 σ0, J.yld i H2 x H3 → σ0.length = k → g x (σ0 ++ st) H3 fun σ2 H4 => (∃ σ1, σ1.length = k ∧ σ2 = σ1 ++ st) ∧ tt σ2 H4 fun b H5 =>
      if b = true then te σ2 H5 fun y H6 => H6 D = some (.lst ys) ∧ ys.length < sizeLine ∧ ∃ m', m' < m ∧ W (i + 1) m' (ys ++ [y]) (upd H6 D (.lst (ys ++ [y])))
      else ∃ m', m' < m ∧ W (i + 1) m' ys H5)
noncomputable def tCompG (wi : TI) (g : TG) (tt : TT) (k : Nat) (fr : List Nat) (te : TE) : TE := fun σ H Q => wi σ H fun J H1 => ∀ D, H1 D = none → CompG J g tt te k (taken σ fr) D H1 Q
section
variable {X : Cx} {elt iter tg : Expr} {ifs : List Expr} {xs : List Str} {pos : Pos} {scope : Scope} {cl : List (Str × Addr)} {ts : List (Str × Nat)} {wi : TI} {te : TE} {g : TG} {tt : TT}
theorem CompOkL.nocell' (O : CompOkL X xs ts scope cl) : ∀ y ∈ scope.names, y.2 ≠ .cell := fun y hy e => by
  have := List.all_eq_true.mp O.nocell y hy
  rw [e] at this
  cases this
theorem CompOkL.locs' (O : CompOkL X xs ts scope cl) : ∀ y ∈ scope.names, y.2 = .local → scope.names.lookup y.1 = some .local := fun y hy e => by
  have h := List.all_eq_true.mp O.locs y hy
  rw [e] at h
  rcases Bool.or_eq_true_iff.mp h with z | z
  · cases z
  · exact beq_iff_eq.mp z
theorem CompOkL.from' (O : CompOkL X xs ts scope cl) : ∀ (i : Nat) (y : Str), (ts.map (·.1))[i]? = some y → ∃ j, (sltOf ts)[i]? = some j ∧ X.N[j]? = some y ∧ (X.env.kindOf y = some .cell ∨ X.env.kindOf y = some .free) ∧ (cl.lookup y).isSome = true ∧
    ((relabel scope X.env).names.lookup y = some .cell ∨ (relabel scope X.env).names.lookup y = some .free) := fun i y e1 => by
  rw [List.getElem?_map] at e1
  cases q : ts[i]? with
  | none => rw [q] at e1; cases e1
  | some p =>
    rw [q] at e1
    have e2 : p.1 = y := Option.some.inj e1
    subst e2
    have h := List.all_eq_true.mp O.around p (List.mem_of_getElem? q)
    simp only [Bool.and_eq_true, Bool.or_eq_true, beq_iff_eq, decide_eq_true_eq] at h
    obtain ⟨⟨⟨h1, h2⟩, h3⟩, h4⟩ := h
    refine ⟨p.2, ?_, h1, h2, h3, h4⟩
    show (ts.map (·.2))[i]? = some p.2
    rw [List.getElem?_map, q] <;> rfl
theorem CompOkL.has' (O : CompOkL X xs ts scope cl) : ∀ y, ((relabel scope X.env).names.lookup y = some .cell ∨ (relabel scope X.env).names.lookup y = some .free) → (cl.lookup y).isSome = true := fun y h => by
  have go : ∀ k : NameKind, (k = .cell ∨ k = .free) → (relabel scope X.env).names.lookup y = some k → (cl.lookup y).isSome = true := fun k hk e => by
    have z := List.all_eq_true.mp O.has (y, k) (PySem.mem_of_lookup e)
    rcases Bool.or_eq_true_iff.mp z with z | z
    · rcases hk with e | e <;> (rw [e] at z; cases z)
    · exact z
  rcases h with h | h
  · exact go _ (.inl rfl) h
  · exact go _ (.inr rfl) h
theorem compL_ok {pins : List (Addr × Obj)} {σ : St} {H3 : Hp} {s3 : Shared} {fp : List Addr} (O : CompOkL X xs ts scope cl) (I3 : Inv X pins σ H3 s3) (hfp : ∀ b ∈ fp, FpOk X pins H3 b ∧ b < s3.heap.objs.size) :
    (cxComp X (nmsL xs ts) scope cl s3.heap.objs.size s3 H3 fp).Ok where
  mod := I3.ok.mod
  kind := O.kind
  glob := I3.ok.glob
  blt := I3.ok.blt
  above := Nat.le_refl _
  inj := fun y z c h1 h2 => I3.ok.inj y z c (O.sub y c h1) (O.sub z c h2)
  has := fun y h => Option.isSome_iff_exists.mp (O.has' y h)
  cab := fun y c h => by cases h
  hd := I3.ok.hd
  frames := I3.ok.frames
  stk := .inl rfl
  exf := fun b hb => ⟨Nat.ne_of_lt (hfp b hb).2, fun y c e => (hfp b hb).1.2.2.2.2.1 y c (O.sub y c e)⟩
  bs := fun b o e => I3.bs b o e
  bsz := Nat.le_trans I3.ok.bsz I3.sz
  noex := fun b o e hb => by
    rcases (hfp b hb).1.2.2.2.1 with z | z
    · exact I3.ok.noex b o e z
    · exact absurd (Nat.lt_of_lt_of_le (Heap.lt_size (I3.ok.bs b o e).1) z) (Nat.lt_irrefl _)
  exfs := fun b hb hz => by
    rcases List.mem_cons.mp (I3.stkSub b hz) with e | e
    · exact (hfp b hb).1.2.1 e
    · exact (hfp b hb).1.2.2.1 e
  funs := I3.stack
  frf := I3.stkFree
theorem compL_start {pins : List (Addr × Obj)} {σ : St} {H3 : Hp} {s3 : Shared} {fp : List Addr} {h1 : Heap} {tk : Nat} (O : CompOkL X xs ts scope cl) (I3 : Inv X pins σ H3 s3) (hfp : ∀ b ∈ fp, FpOk X pins H3 b ∧ b < s3.heap.objs.size)
    (hns : h1.Ns s3.heap.objs.size fun _ => none) (old : ∀ b o, s3.heap.get? b = some o → h1.get? b = some o) :
    Inv (cxComp X (nmsL xs ts) scope cl s3.heap.objs.size s3 H3 fp) [] (List.replicate xs.length none ++ taken σ (sltOf ts)) H3 { s3 with heap := h1, toks := tk } := by
  refine ⟨compL_ok O I3 hfp, rfl, I3.bare, Un.kept old, ⟨_, hns, fun i y v e1 e2 e3 => ?_⟩, fun y c e => ?_, I3.hok.fresh (Nat.le_refl _), fun y c e => I3.freeC y c (O.sub y c e), fun p hp => absurd (show p ∈ ([] : List (Addr × Obj)) from hp) (by simp), I3.hok.kept old, ?_⟩
  · by_cases hi : i < xs.length
    · rw [List.getElem?_append_left (by simpa using hi), List.getElem?_replicate, if_pos hi] at e2
      cases e2
    · have hi' : xs.length ≤ i := Nat.le_of_not_lt hi
      have e1' : (ts.map (·.1))[i - xs.length]? = some y := by
        have : (xs ++ ts.map (·.1))[i]? = some y := e1
        rw [List.getElem?_append_right hi'] at this; exact this
      rw [List.getElem?_append_right (by simpa using hi')] at e2
      rw [List.length_replicate] at e2
      obtain ⟨j, hj, hN, hk, hcl, hk2⟩ := O.from' _ y e1'
      have e2' : σ[j]? = some (some v) := by
        have q := e2
        unfold taken at q
        rw [List.getElem?_map, hj] at q
        have q' : (σ[j]?).getD none = some v := Option.some.inj q
        cases z : σ[j]? with
        | none => rw [z] at q'; cases q'
        | some w => rw [z] at q'; rw [show w = some v from q']
      obtain ⟨m, hn, hl⟩ := I3.loc
      have vis : Vis X.env.scope y := hk.elim (fun z => .inr (.inl z)) fun z => .inr (.inr z)
      obtain ⟨u, r, l⟩ := hl j y v hN e2' vis
      obtain ⟨c, hc⟩ := Option.isSome_iff_exists.mp hcl
      refine ⟨u, r, .inr ⟨hk2, c, hc, ?_⟩⟩
      rcases l with ⟨k, _⟩ | ⟨_, c', hc', z⟩
      · rcases hk with hk | hk
        · rw [k] at hk; cases hk
        · rw [k] at hk; cases hk
      · rw [O.sub y c hc] at hc'
        cases hc'
        obtain ⟨o, ho, hd⟩ := z
        exact ⟨o, old c o ho, hd⟩
  · obtain ⟨v, o, ho, hd⟩ := I3.cell y c (O.sub y c e)
    exact ⟨v, o, old c o ho, hd⟩
  · show (List.replicate xs.length none ++ taken σ (sltOf ts)).length = (nmsL xs ts).length
    simp [taken]
end
theorem sub0 {cs : List (Str × Addr)} : ∀ (y : Str) (c : Addr), List.lookup y ([] : List (Str × Addr)) = some c → cs.lookup y = some c := fun _ _ h => by cases h
end L2
set_option maxHeartbeats 4000000
namespace L2
open PySem PySem.Spec PyProof.Rows
section
variable {X : Cx}
end
end L2
set_option maxHeartbeats 4000000
namespace L2
open PySem PySem.Spec PyProof.Rows
section
variable {X : Cx}
noncomputable def Smk (i : Int) : Prop := i.natAbs < 2 ^ 8900
theorem Smk.bits {i : Int} (h : Smk i) : Builtin.Int.intBits i ≤ 8900 := intBits_le_iff.mpr h
theorem mulOk_smk {i j : Int} (hi : Smk i) (hj : Smk j) : IntMulOk i j := by
  have h1 := hi.bits
  have h2 := hj.bits
  unfold IntMulOk Builtin.Int.intTooBig
  intro h
  have h4 := of_decide_eq_true (Bool.and_eq_true_iff.mp h).2
  rw [bitsLine_eq] at h4
  omega
theorem noPy_smk {i j : Int} (hj : Smk j) : Builtin.divisionGoesByPylong i j = false := by
  refine PyProof.noPylong_of_log2 ?_
  by_cases h0 : j.natAbs = 0
  · rw [h0]; decide +kernel
  · have h : j.natAbs.log2 < 8900 := (Nat.log2_lt h0).mpr hj
    omega
theorem op_mulK : OpR X (binaryOp .Mult) (rI (fun i j => Smk i ∧ Smk j) fun i j => .int (i * j)) := opI fun _ _ _ _ _ _ _ hc q => mul_int q (mulOk_smk hc.1 hc.2)
theorem op_fdivK : OpR X (binaryOp .FloorDiv) (rI (fun _ j => j ≠ 0 ∧ Smk j) fun i j => .int (i.fdiv j)) := opI fun _ _ _ _ _ _ _ hc q => floordiv_int hc.1 q (.inl (noPy_smk hc.2))
end
section
variable {X : Cx} {N' : List Str} {scope : Scope} {cl : List (Str × Addr)} {C : Addr} {s3 : Shared} {H3 : Hp} {fp : List Addr}
end
theorem Rd.same {H H' : Hp} {a : Addr} {u : HO} (e : Same H H') (h : Rd H a u) : Rd H' a u := by
  rcases h with h | ⟨o, h⟩
  · exact .inl (e a _ h)
  · exact .inr ⟨o, e a _ h⟩
theorem Same.tup {K : PySem.W.Frag} {H H' : Hp} {a : Addr} {xs : List V} (e : Same H H') (h : SqT K H a xs) : SqT K H' a xs := by
  rcases h with h | h
  · exact .inl (h.same e)
  · exact .inr h
theorem same_upd {H1 H2 : Hp} {D : Addr} {o : HO} (h : Same H1 H2) (hD : H1 D = none) : Same H1 (upd H2 D o) := fun b u e => by
  rw [upd_ne (ne_of_none e hD)]; exact h b u e
end L2
set_option maxHeartbeats 4000000
namespace L2
open PySem PySem.Spec PyProof.Rows
mutual
noncomputable def cmpTh : Th → Th → Bool
  | .int _, .int _ => true
  | .str _, .str _ => true
  | .non, .non => true
  | .tup ts, .tup us => cmpThs ts us
  | .lst ts, .lst us => cmpThs ts us && ts.length == us.length
  | _, _ => false
noncomputable def cmpThs : List Th → List Th → Bool
  | t :: ts, u :: us => cmpTh t u && cmpThs ts us
  | _, _ => true
end
theorem cmp_int {i : Int} {u : Th} (c : cmpTh (.int i) u = true) : ∃ j, u = .int j := by cases u <;> first | exact ⟨_, rfl⟩ | cases c
theorem cmp_str {i : Str} {u : Th} (c : cmpTh (.str i) u = true) : ∃ j, u = .str j := by cases u <;> first | exact ⟨_, rfl⟩ | cases c
theorem cmp_non {u : Th} (c : cmpTh .non u = true) : u = .non := by cases u <;> first | rfl | cases c
theorem cmp_tup {i : List Th} {u : Th} (c : cmpTh (.tup i) u = true) : ∃ j, u = .tup j := by cases u <;> first | exact ⟨_, rfl⟩ | cases c
theorem cmp_lst {i : List Th} {u : Th} (c : cmpTh (.lst i) u = true) : ∃ j, u = .lst j := by cases u <;> first | exact ⟨_, rfl⟩ | cases c
theorem cmp_bl {b : Bool} {u : Th} (c : cmpTh (.bl b) u = true) : False := by cases u <;> cases c
theorem cmp_emp {u : Th} (c : cmpTh .emp u = true) : False := by cases u <;> cases c
theorem cmp_dic {u : Th} (c : cmpTh .dic u = true) : False := by cases u <;> cases c
mutual
theorem Den.inj {H : Hp} : ∀ {t u : Th} {v : V}, cmpTh t u = true → Den H t v → Den H u v → t = u
  | .bl _, u, v, c, d1, d2 => (cmp_bl c).elim
  | .emp, u, v, c, d1, d2 => (cmp_emp c).elim
  | .dic, u, v, c, d1, d2 => (cmp_dic c).elim
  | .int i, u, v, c, d1, d2 => by
    obtain ⟨j, rfl⟩ := cmp_int c
    cases (show v = V.int i from d1); cases (show V.int i = V.int j from d2); rfl
  | .str i, u, v, c, d1, d2 => by
    obtain ⟨j, rfl⟩ := cmp_str c
    cases (show v = V.str i from d1); cases (show V.str i = V.str j from d2); rfl
  | .non, u, v, c, d1, d2 => (cmp_non c).symm
  | .tup ts, u, v, c, d1, d2 => by
    obtain ⟨us, rfl⟩ := cmp_tup c
    obtain ⟨a1, xs, rfl, h1, e1⟩ := d1
    obtain ⟨a2, ys, e0, h2, e2⟩ := d2
    cases e0
    rw [h1] at h2
    cases h2
    rw [cmpTh] at c
    rw [Dens.inj c e1 e2]
  | .lst ts, u, v, c, d1, d2 => by
    obtain ⟨us, rfl⟩ := cmp_lst c
    obtain ⟨a1, xs, rfl, h1, e1⟩ := d1
    obtain ⟨a2, ys, e0, h2, e2⟩ := d2
    cases e0
    rw [h1] at h2
    cases h2
    rw [cmpTh, Bool.and_eq_true] at c
    rw [Dens.inj c.1 e1 e2]
theorem Dens.inj {H : Hp} : ∀ {ts us : List Th} {xs : List V}, cmpThs ts us = true → Dens H ts xs → Dens H us xs → ts = us
  | [], [], _, _, _, _ => rfl
  | [], u :: us, xs, _, d1, d2 => by
    have e1 := d1.len
    have e2 := d2.len
    simp at e1 e2
    rw [e1] at e2
    simp at e2
  | t :: ts, [], xs, _, d1, d2 => by
    have e1 := d1.len
    have e2 := d2.len
    simp at e1 e2
    rw [e2] at e1
    simp at e1
  | t :: ts, u :: us, xs, c, d1, d2 => by
    obtain ⟨x, r, rfl, p1, q1⟩ := d1
    obtain ⟨x', r', e, p2, q2⟩ := d2
    cases e
    rw [cmpThs, Bool.and_eq_true] at c
    rw [Den.inj c.1 p1 p2, Dens.inj c.2 q1 q2]
end
section
variable {X : Cx}
end
end L2
set_option maxHeartbeats 4000000
namespace L2
open PySem PySem.Spec PyProof.Rows
end L2
set_option maxHeartbeats 4000000
namespace L2
open PySem PySem.Spec PyProof.Rows
section
variable {prog : Program} {w : World} {A : Around} {E : Value → Shared → Prop} {s : Shared}
theorem tnext_item {j tu : Addr} {i : Nat} {its : Array Value} {v : Value} {Q : Value → Shared → Prop} (hj : s.heap.IsTupleIter j tu i) (ht : s.heap.IsTuple tu its) (hv : its[i]? = some v)
    (k : ∀ g, g.IsTupleIter j tu (i + 1) → Heap.SameBut j s.heap g → Q v { s with heap := g }) : wpAny (model prog w) A (Builtin.SmallTypes.nextOf (.ref j)) Q E s := by
  obtain ⟨oj, ej, cj, dj⟩ := id hj
  obtain ⟨ot, et, _, nt, dt⟩ := ht
  unfold Builtin.SmallTypes.nextOf
  refine (wpAny_bind (wpAny_callSpecial?_slot (name := Str.ofString "__next__") hj.typeIs F.slot_tuple_iterator_next (wpAny_call_entry F.slot_tuple_iterator_next hj.typeIs F.entry_tuple_iterator_next ?_ (F.args_tuple_iterator_next_1 _))))
  show wpAny _ _ (field (.ref j) 0 >>= _) _ _ s
  refine (wpAny_bind (wpAny_field ej dj (x := .ref tu) rfl ?_))
  show wpAny _ _ (if (Value.ref tu == Value.none) = true then _ else _) _ _ s
  rw [if_neg (show ¬ ((Value.ref tu == Value.none) = true) from Bool.false_ne_true)]
  show wpAny _ _ (field (.ref j) 1 >>= _) _ _ s
  refine (wpAny_bind (wpAny_field ej dj (x := .int i 0) rfl ?_))
  show wpAny _ _ (seqItems? (.ref tu) >>= _) _ _ s
  refine (wpAny_bind (wpAny_seqItems et dt ?_))
  simp only [Int.toNat_natCast, hv]
  refine (wpAny_bind (wpAny_setField ej dj (by simp) (wpAny_pure ⟨v, rfl, wpAny_pure (k _ ?_ (Heap.SameBut.update ..))⟩)))
  refine ⟨_, Heap.get?_update_self _ ej (Obj.isFreed_of_fields (Obj.data_mapFields dj _)), (Obj.cls_mapFields ..).trans cj, ?_⟩
  rw [Obj.data_mapFields dj]
  simp [rawInt]
theorem tnext_end {j tu : Addr} {i : Nat} {its : Array Value} {Q : Value → Shared → Prop} (hh : A.handled = none) (hj : s.heap.IsTupleIter j tu i) (ht : s.heap.IsTuple tu its) (hv : its[i]? = none)
    (k : ∀ g e, Heap.ExtBut j s.heap g → (∃ o, g.get? e = some o ∧ o.cls = .type "StopIteration") → E (.ref e) { s with heap := g }) : wpAny (model prog w) A (Builtin.SmallTypes.nextOf (.ref j)) Q E s := by
  obtain ⟨oj, ej, cj, dj⟩ := id hj
  obtain ⟨ot, et, _, nt, dt⟩ := ht
  unfold Builtin.SmallTypes.nextOf
  refine (wpAny_bind (wpAny_callSpecial?_slot (name := Str.ofString "__next__") hj.typeIs F.slot_tuple_iterator_next (wpAny_call_entry F.slot_tuple_iterator_next hj.typeIs F.entry_tuple_iterator_next ?_ (F.args_tuple_iterator_next_1 _))))
  show wpAny _ _ (field (.ref j) 0 >>= _) _ _ s
  refine (wpAny_bind (wpAny_field ej dj (x := .ref tu) rfl ?_))
  show wpAny _ _ (if (Value.ref tu == Value.none) = true then _ else _) _ _ s
  rw [if_neg (show ¬ ((Value.ref tu == Value.none) = true) from Bool.false_ne_true)]
  show wpAny _ _ (field (.ref j) 1 >>= _) _ _ s
  refine (wpAny_bind (wpAny_field ej dj (x := .int i 0) rfl ?_))
  show wpAny _ _ (seqItems? (.ref tu) >>= _) _ _ s
  refine (wpAny_bind (wpAny_seqItems et dt ?_))
  simp only [Int.toNat_natCast, hv]
  refine (wpAny_bind (wpAny_rule (wpAny_bind (wpAny_setField ej dj (by simp) ?_))))
  show wpAny _ _ (newExc (.type "StopIteration") [] >>= _) (_) _ _
  refine (wpAny_bind ?_)
  simp only [newExc, newTuple]
  refine (wpAny_bind (wpAny_newObj_type ?_ (by size_fits)))
  refine (wpAny_bind (m := firstArgMember _ _) (wpAny_of_eq (a := Value.none) (by first | rfl | (simp only [firstArgMember]; rfl)) ?_))
  refine (wpAny_newObj_type ?_ (by size_fits))
  simp only [raiseNew]
  refine (wpAny_bind (wpAny_handled ?_))
  rw [show A.in1.handled = none from hh]
  refine (wpAny_bind (wpAny_pure (wpAny_throw ?_)))
  exact k _ _ (((Heap.SameBut.update ..).extBut.push _).push _) ⟨_, Heap.get?_push_size _ rfl, rfl⟩
theorem zt_next {z TI TO j1 j2 t1 t2 : Addr} {k1 k2 : Nat} {xs ys : Array Value} {u v c d : Value} {Q : Value → Shared → Prop} (ap : ZipApart z TI TO j1 j2 t1 t2) (hz : IsZip s.heap z TI TO .none) (hI : IsPair s.heap TI (.ref j1) (.ref j2)) (hO : IsPair s.heap TO c d)
    (i1 : s.heap.IsTupleIter j1 t1 k1) (i2 : s.heap.IsTupleIter j2 t2 k2) (q1 : s.heap.IsTuple t1 xs) (q2 : s.heap.IsTuple t2 ys) (hu : xs[k1]? = some u) (hv : ys[k2]? = some v)
    (k : ∀ g, IsZip g z TI TO (rawInt s.heap.objs.size) → IsPair g TO u v → g.IsTupleIter j1 t1 (k1 + 1) → g.IsTupleIter j2 t2 (k2 + 1) → IsPair g s.heap.objs.size u v → g.objs.size = s.heap.objs.size + 1 →
      (∀ b o, b ≠ z → b ≠ TO → b ≠ j1 → b ≠ j2 → s.heap.get? b = some o → g.get? b = some o) → Q (.ref s.heap.objs.size) { s with heap := g }) :
    wpAny (model prog w) A (Builtin.«zip.__next__» ⟨[.ref z], []⟩) (fun f s' => ∃ r, f = .done (.ret r) ∧ Q r s') E s := by
  show wpAny _ _ (field (.ref z) 2 >>= _) (_) _ _
  refine (wpAny_bind (wpAny_field hz rfl (x := .bool false) rfl ?_))
  show wpAny _ _ (field (.ref z) 3 >>= _) (_) _ _
  refine (wpAny_bind (wpAny_field hz rfl (x := .ref TI) rfl ?_))
  refine (wpAny_bind (wpAny_seqItems hI rfl ?_))
  show wpAny _ _ (Builtin.SmallTypes.ownedTupleIsFree (.ref z) >>= _) (_) _ _
  refine (wpAny_bind ?_)
  unfold Builtin.SmallTypes.ownedTupleIsFree
  refine (wpAny_bind (wpAny_field hz rfl (x := .none) rfl (wpAny_pure ?_)))
  simp only [if_true]
  refine (wpAny_bind (wpAny_rule ?_))
  refine (wpAny_bind (wpAny_field hz rfl (x := .ref TO) rfl ?_))
  refine (wpAny_bind (wpAny_setField_rec hz (by simp) fun g1 z1 s1 => ?_))
  replace z1 : IsZip g1 z TI TO .ellipsis := z1
  refine (wpAny_bind ?_)
  simp only [List.zipIdx_cons, List.zipIdx_nil, List.forIn_cons, List.forIn_nil, id]
  refine (wpAny_bind (wpAny_bind (wpAny_onRaise ?_)))
  show wpAny _ _ (Builtin.SmallTypes.nextOf (.ref j1) >>= _) (_) _ _
  refine (wpAny_bind (tnext_item (i1.extBut s1.extBut ap.i1z) (q1.extBut s1.extBut ap.l1z) hu fun g2 n1 s2 => wpAny_pure ?_))
  have O2 : IsPair g2 TO c d := s2.extBut _ _ ap.TOi1 (s1.extBut _ _ ap.TOz hO)
  refine (wpAny_bind (wpAny_seqItems O2 rfl ?_))
  refine (wpAny_bind (wpAny_updateSeq_pair O2 fun g3 O3 s3 => ?_))
  replace O3 : IsPair g3 TO u d := O3
  refine (wpAny_bind (wpAny_letGo (wpAny_pure ?_)))
  refine (wpAny_bind (wpAny_bind (wpAny_onRaise ?_)))
  show wpAny _ _ (Builtin.SmallTypes.nextOf (.ref j2) >>= _) (_) _ _
  refine (wpAny_bind (tnext_item (((i2.extBut s1.extBut ap.i2z).extBut s2.extBut ap.i12.symm).extBut s3.extBut ap.TOi2.symm) (((q2.extBut s1.extBut ap.l2z).extBut s2.extBut ap.l2i1).extBut s3.extBut ap.l2TO) hv fun g4 n2 s4 => wpAny_pure ?_))
  have O4 : IsPair g4 TO u d := s4.extBut _ _ ap.TOi2 O3
  refine (wpAny_bind (wpAny_seqItems O4 rfl ?_))
  refine (wpAny_bind (wpAny_updateSeq_pair O4 fun g5 O5 s5 => ?_))
  replace O5 : IsPair g5 TO u v := O5
  refine (wpAny_bind (wpAny_letGo (wpAny_pure (wpAny_pure ?_))))
  refine (wpAny_bind (wpAny_seqItems O5 rfl ?_))
  refine (wpAny_bind (wpAny_newTuple ?_))
  have sz : g5.objs.size = s.heap.objs.size := by rw [s5.1, s4.1, s3.1, s2.1, s1.1]
  have Z5 : IsZip g5 z TI TO .ellipsis := s5.extBut _ _ ap.TOz.symm (s4.extBut _ _ ap.i2z.symm (s3.extBut _ _ ap.TOz.symm (s2.extBut _ _ ap.i1z.symm z1)))
  have K5 : ∀ b o, b ≠ z → b ≠ TO → b ≠ j1 → b ≠ j2 → s.heap.get? b = some o → g5.get? b = some o := fun b o b1 b2 b3 b4 e => s5.extBut _ _ b2 (s4.extBut _ _ b4 (s3.extBut _ _ b2 (s2.extBut _ _ b3 (s1.extBut _ _ b1 e))))
  have I1 : g5.IsTupleIter j1 t1 (k1 + 1) := ((n1.extBut s3.extBut ap.TOi1.symm).extBut s4.extBut ap.i12).extBut s5.extBut ap.TOi1.symm
  have I2 : g5.IsTupleIter j2 t2 (k2 + 1) := n2.extBut s5.extBut ap.TOi2.symm
  have zlt : z < g5.objs.size := Heap.lt_size Z5
  show wpAny _ _ (Builtin.SmallTypes.ownedTupleHandOut (.ref z) (.ref g5.objs.size) >>= _) (_) _ _
  refine (wpAny_bind ?_)
  unfold Builtin.SmallTypes.ownedTupleHandOut
  have Z6 : IsZip (g5.push { cls := .type "tuple", data := .seq #[u, v] }) z TI TO .ellipsis := Heap.get?_push_of_some _ Z5
  refine (wpAny_bind (wpAny_setField_rec Z6 (by simp) fun g7 Z7 s7 => ?_))
  replace Z7 : IsZip g7 z TI TO (rawInt g5.objs.size) := Z7
  refine wpAny_setField_rec Z7 (by simp) fun g8 Z8 s8 => ?_
  replace Z8 : IsZip g8 z TI TO (rawInt g5.objs.size) := Z8
  have up : ∀ b o, b ≠ z → g5.get? b = some o → g8.get? b = some o := fun b o nb e => s8.extBut _ _ nb (s7.extBut _ _ nb (Heap.get?_push_of_some _ e))
  have T8 : IsPair g8 g5.objs.size u v := s8.extBut _ _ (Nat.ne_of_gt zlt) (s7.extBut _ _ (Nat.ne_of_gt zlt) (Heap.get?_push_size _ rfl))
  have N8 : g8.objs.size = g5.objs.size + 1 := by rw [s8.1, s7.1, Heap.size_push]
  rw [sz] at Z8 T8 N8
  refine wpAny_pure ⟨_, rfl, ?_⟩
  show Q (.ref g5.objs.size) _
  rw [sz]
  exact k g8 Z8 (up _ _ ap.TOz O5) (I1.at fun o e => up _ o ap.i1z e) (I2.at fun o e => up _ o ap.i2z e) T8 N8 fun b o b1 b2 b3 b4 e => up b o b1 (K5 b o b1 b2 b3 b4 e)
theorem zt_end {z TI TO j1 j2 t1 t2 : Addr} {k1 k2 : Nat} {xs ys : Array Value} {c d : Value} {Q : Fin → Shared → Prop} (hh : A.handled = none) (ap : ZipApart z TI TO j1 j2 t1 t2) (hz : IsZip s.heap z TI TO .none) (hI : IsPair s.heap TI (.ref j1) (.ref j2)) (hO : IsPair s.heap TO c d)
    (i1 : s.heap.IsTupleIter j1 t1 k1) (i2 : s.heap.IsTupleIter j2 t2 k2) (q1 : s.heap.IsTuple t1 xs) (q2 : s.heap.IsTuple t2 ys) (he : xs[k1]? = none ∨ ys[k2]? = none)
    (k : ∀ g e, (∀ b o, b ≠ z → b ≠ TO → b ≠ j1 → b ≠ j2 → s.heap.get? b = some o → g.get? b = some o) → (∃ o, g.get? e = some o ∧ o.cls = .type "StopIteration") → E (.ref e) { s with heap := g }) :
    wpAny (model prog w) A (Builtin.«zip.__next__» ⟨[.ref z], []⟩) Q E s := by
  show wpAny _ _ (field (.ref z) 2 >>= _) (_) _ _
  refine (wpAny_bind (wpAny_field hz rfl (x := .bool false) rfl ?_))
  show wpAny _ _ (field (.ref z) 3 >>= _) (_) _ _
  refine (wpAny_bind (wpAny_field hz rfl (x := .ref TI) rfl ?_))
  refine (wpAny_bind (wpAny_seqItems hI rfl ?_))
  show wpAny _ _ (Builtin.SmallTypes.ownedTupleIsFree (.ref z) >>= _) (_) _ _
  refine (wpAny_bind ?_)
  unfold Builtin.SmallTypes.ownedTupleIsFree
  refine (wpAny_bind (wpAny_field hz rfl (x := .none) rfl (wpAny_pure ?_)))
  simp only [if_true]
  refine (wpAny_bind (wpAny_rule ?_))
  refine (wpAny_bind (wpAny_field hz rfl (x := .ref TO) rfl ?_))
  refine (wpAny_bind (wpAny_setField_rec hz (by simp) fun g1 z1 s1 => ?_))
  replace z1 : IsZip g1 z TI TO .ellipsis := z1
  refine (wpAny_bind ?_)
  simp only [List.zipIdx_cons, List.zipIdx_nil, List.forIn_cons, List.forIn_nil, id]
  refine (wpAny_bind (wpAny_bind (wpAny_onRaise ?_)))
  show wpAny _ _ (Builtin.SmallTypes.nextOf (.ref j1) >>= _) (_) _ _
  cases hu : xs[k1]? with
  | none =>
    refine (wpAny_bind (tnext_end hh (i1.extBut s1.extBut ap.i1z) (q1.extBut s1.extBut ap.l1z) hu fun g2 e s2 he => ?_))
    obtain ⟨oe, ho, hc⟩ := he
    have Z2 : IsZip g2 z TI TO .ellipsis := s2 _ _ ap.i1z.symm z1
    have nz : e ≠ z := fun x => by
      subst x
      rw [Z2] at ho
      cases ho
      simp at hc
    refine wpAny_setField_rec Z2 (by simp) fun g3 _ s3 => k g3 e (fun b o b1 _ b3 _ x => s3.extBut _ _ b1 (s2 _ _ b3 (s1.extBut _ _ b1 x))) ⟨oe, s3.extBut _ _ nz ho, hc⟩
  | some u =>
    have hv : ys[k2]? = none := by
      rcases he with q | q
      · rw [hu] at q; cases q
      · exact q
    refine (wpAny_bind (tnext_item (i1.extBut s1.extBut ap.i1z) (q1.extBut s1.extBut ap.l1z) hu fun g2 n1 s2 => wpAny_pure ?_))
    have O2 : IsPair g2 TO c d := s2.extBut _ _ ap.TOi1 (s1.extBut _ _ ap.TOz hO)
    refine (wpAny_bind (wpAny_seqItems O2 rfl ?_))
    refine (wpAny_bind (wpAny_updateSeq_pair O2 fun g3 O3 s3 => ?_))
    refine (wpAny_bind (wpAny_letGo (wpAny_pure ?_)))
    refine (wpAny_bind (wpAny_bind (wpAny_onRaise ?_)))
    show wpAny _ _ (Builtin.SmallTypes.nextOf (.ref j2) >>= _) (_) _ _
    refine (wpAny_bind (tnext_end hh (((i2.extBut s1.extBut ap.i2z).extBut s2.extBut ap.i12.symm).extBut s3.extBut ap.TOi2.symm) (((q2.extBut s1.extBut ap.l2z).extBut s2.extBut ap.l2i1).extBut s3.extBut ap.l2TO) hv fun g4 e s4 he => ?_))
    obtain ⟨oe, ho, hc⟩ := he
    have Z4 : IsZip g4 z TI TO .ellipsis := s4 _ _ ap.i2z.symm (s3.extBut _ _ ap.TOz.symm (s2.extBut _ _ ap.i1z.symm z1))
    have nz : e ≠ z := fun x => by
      subst x
      rw [Z4] at ho
      cases ho
      simp at hc
    refine wpAny_setField_rec Z4 (by simp) fun g5 _ s5 => k g5 e (fun b o b1 b2 b3 b4 x => s5.extBut _ _ b1 (s4 _ _ b4 (s3.extBut _ _ b2 (s2.extBut _ _ b3 (s1.extBut _ _ b1 x))))) ⟨oe, s5.extBut _ _ nz ho, hc⟩
theorem zt_pyNext {z TI TO j1 j2 t1 t2 : Addr} {k1 k2 : Nat} {xs ys : Array Value} {u v c d : Value} {Q : Option Value → Shared → Prop} (ap : ZipApart z TI TO j1 j2 t1 t2) (hz : IsZip s.heap z TI TO .none) (hI : IsPair s.heap TI (.ref j1) (.ref j2)) (hO : IsPair s.heap TO c d)
    (i1 : s.heap.IsTupleIter j1 t1 k1) (i2 : s.heap.IsTupleIter j2 t2 k2) (q1 : s.heap.IsTuple t1 xs) (q2 : s.heap.IsTuple t2 ys) (hu : xs[k1]? = some u) (hv : ys[k2]? = some v)
    (k : ∀ g, IsZip g z TI TO (rawInt s.heap.objs.size) → IsPair g TO u v → g.IsTupleIter j1 t1 (k1 + 1) → g.IsTupleIter j2 t2 (k2 + 1) → IsPair g s.heap.objs.size u v → g.objs.size = s.heap.objs.size + 1 →
      (∀ b o, b ≠ z → b ≠ TO → b ≠ j1 → b ≠ j2 → s.heap.get? b = some o → g.get? b = some o) → Q (some (.ref s.heap.objs.size)) { s with heap := g }) : wpAny (model prog w) A (pyNext (.ref z)) Q E s := by
  have ty : s.TypeIs (.ref z) "zip" := ⟨_, hz, rfl⟩
  unfold pyNext
  exact wpAny_bind (wpAny_attempt (wpAny_callSpecial?_slot (name := Str.ofString "__next__") ty F.slot_zip_next (wpAny_call_entry F.slot_zip_next ty F.entry_zip_next (zt_next ap hz hI hO i1 i2 q1 q2 hu hv fun g a1 a2 a3 a4 a5 a6 a7 => wpAny_pure (k g a1 a2 a3 a4 a5 a6 a7)) (F.args_zip_next_1 _))))
theorem zt_pyEnd {z TI TO j1 j2 t1 t2 : Addr} {k1 k2 : Nat} {xs ys : Array Value} {c d : Value} {Q : Option Value → Shared → Prop} (hh : A.handled = none) (ap : ZipApart z TI TO j1 j2 t1 t2) (hz : IsZip s.heap z TI TO .none) (hI : IsPair s.heap TI (.ref j1) (.ref j2)) (hO : IsPair s.heap TO c d)
    (i1 : s.heap.IsTupleIter j1 t1 k1) (i2 : s.heap.IsTupleIter j2 t2 k2) (q1 : s.heap.IsTuple t1 xs) (q2 : s.heap.IsTuple t2 ys) (he : xs[k1]? = none ∨ ys[k2]? = none)
    (k : ∀ g, (∀ b o, b ≠ z → b ≠ TO → b ≠ j1 → b ≠ j2 → s.heap.get? b = some o → g.get? b = some o) → Q none { s with heap := g }) : wpAny (model prog w) A (pyNext (.ref z)) Q E s := by
  have ty : s.TypeIs (.ref z) "zip" := ⟨_, hz, rfl⟩
  unfold pyNext
  refine (wpAny_bind (wpAny_attempt (wpAny_callSpecial?_slot (name := Str.ofString "__next__") ty F.slot_zip_next (wpAny_call_entry F.slot_zip_next ty F.entry_zip_next (zt_end hh ap hz hI hO i1 i2 q1 q2 he fun g e hk hs => ?_) (F.args_zip_next_1 _)))))
  obtain ⟨o, ho, hc⟩ := hs
  refine (wpAny_bind (wpAny_isInstance (T := "StopIteration") (b := true) ⟨o, ho, hc⟩ isSubtype_stop ?_))
  exact wpAny_pure (k _ hk)
noncomputable abbrev zt1 (h : Heap) (a : Addr) : Heap := h.push { cls := .type "tuple_iterator", data := .fields #[.ref a, .int 0 0] }
noncomputable abbrev zt2 (h : Heap) (a b : Addr) : Heap := (zt1 h a).push { cls := .type "tuple_iterator", data := .fields #[.ref b, .int 0 0] }
noncomputable abbrev zt3 (h : Heap) (a b : Addr) : Heap := (zt2 h a b).push { cls := .type "tuple", data := .seq #[.ref h.objs.size, .ref (zt1 h a).objs.size] }
noncomputable abbrev zt4 (h : Heap) (a b : Addr) : Heap := (zt3 h a b).push { cls := .type "tuple", data := .seq #[.none, .none] }
noncomputable abbrev zt5 (h : Heap) (a b : Addr) : Heap := (zt4 h a b).push { cls := .type "zip", data := .fields #[.none, .bool false, .bool false, .ref (zt2 h a b).objs.size, .ref (zt3 h a b).objs.size] }
theorem zt_new (a b : Addr) (xs ys : Array Value) :
    Meets (Builtin.«zip.__new__» ⟨[.type "zip", .ref a, .ref b], []⟩) (fun _ R s => s.heap.IsTuple a xs ∧ s.heap.IsTuple b ys ∧ R (.ok (.ret (.ref (zt4 s.heap a b).objs.size))) { s with heap := zt5 s.heap a b }) :=
  .of_wp fun prog w A R s h => by
    obtain ⟨hp, g, dr, tk, os⟩ := s
    obtain ⟨h1, h2, h⟩ := h
    have sub := sub_zip
    have L1 : Heap.IsTuple (Shared.heap ⟨hp, g, dr, tk, os⟩) a xs := h1
    have L2 : Heap.IsTuple (Shared.heap ⟨hp.push { cls := .type "tuple_iterator", data := .fields #[.ref a, .int 0 0] }, g, dr, tk, os⟩) b ys := Heap.IsTuple.push h2 _
    wp_walk using wpAny_pyIter_tuple L1, wpAny_pyIter_tuple L2
    exact ⟨_, rfl, h⟩
theorem zt_call {a b : Addr} {xs ys : Array Value} {Q : Value → Shared → Prop} (h1 : s.heap.IsTuple a xs) (h2 : s.heap.IsTuple b ys)
    (k : ∀ g, IsZip g (s.heap.objs.size + 4) (s.heap.objs.size + 2) (s.heap.objs.size + 3) .none → IsPair g (s.heap.objs.size + 2) (.ref s.heap.objs.size) (.ref (s.heap.objs.size + 1)) → IsPair g (s.heap.objs.size + 3) .none .none →
      g.IsTupleIter s.heap.objs.size a 0 → g.IsTupleIter (s.heap.objs.size + 1) b 0 → (∀ c o, s.heap.get? c = some o → g.get? c = some o) → Q (.ref (s.heap.objs.size + 4)) { s with heap := g }) :
    wpAny (model prog w) A (call (.type "zip") [.ref a, .ref b]) Q E s := by
  refine callType_new F.called_zip (by decide) (F.typeCall_zip_2 _ _) (F.newCall_zip_2 _ _) (fun o => F.args_object_init_3 o _ _) F.entry_zip_new (zt_new a b xs ys) ⟨h1, h2, ?_⟩
  have z1 : (zt1 s.heap a).objs.size = s.heap.objs.size + 1 := Heap.size_push ..
  have z2 : (zt2 s.heap a b).objs.size = s.heap.objs.size + 2 := by rw [Heap.size_push, z1]
  have z3 : (zt3 s.heap a b).objs.size = s.heap.objs.size + 3 := by rw [Heap.size_push, z2]
  have z4 : (zt4 s.heap a b).objs.size = s.heap.objs.size + 4 := by rw [Heap.size_push, z3]
  have g5 : (zt5 s.heap a b).get? (zt4 s.heap a b).objs.size = some _ := Heap.get?_push_size _ rfl
  have g4 : (zt5 s.heap a b).get? (zt3 s.heap a b).objs.size = some _ := Heap.get?_push_of_some _ (Heap.get?_push_size _ rfl)
  have g3 : (zt5 s.heap a b).get? (zt2 s.heap a b).objs.size = some _ := Heap.get?_push_of_some _ (Heap.get?_push_of_some _ (Heap.get?_push_size _ rfl))
  have g2 : (zt5 s.heap a b).get? (zt1 s.heap a).objs.size = some _ := Heap.get?_push_of_some _ (Heap.get?_push_of_some _ (Heap.get?_push_of_some _ (Heap.get?_push_size _ rfl)))
  have g1 : (zt5 s.heap a b).get? s.heap.objs.size = some _ := Heap.get?_push_of_some _ (Heap.get?_push_of_some _ (Heap.get?_push_of_some _ (Heap.get?_push_of_some _ (Heap.get?_push_size _ rfl))))
  show _ ∧ _
  rw [z2, z3, z4] at g5
  rw [z1, z2] at g3
  rw [z3] at g4
  rw [z1] at g2
  rw [z4]
  exact ⟨⟨_, g5, rfl⟩, k _ g5 g3 g4 ⟨_, g1, rfl, rfl⟩ ⟨_, g2, rfl, rfl⟩ fun c o x => Heap.get?_push_of_some _ (Heap.get?_push_of_some _ (Heap.get?_push_of_some _ (Heap.get?_push_of_some _ (Heap.get?_push_of_some _ x))))⟩
end
noncomputable def Itzt (K : PySem.W.Frag) (t1 t2 : Addr) : It :=
  ⟨fun i H => ∃ xs ys x y, SqT K H t1 xs ∧ SqT K H t2 ys ∧ xs[i]? = some x ∧ ys[i]? = some y,
   fun i H v H' => ∃ T x y, H T = none ∧ H' = upd H T (.tup [x, y]) ∧ v = .ref T ∧ (∀ xs, SqT K H t1 xs → xs[i]? = some x) ∧ ∀ ys, SqT K H t2 ys → ys[i]? = some y,
   fun i H => ∃ xs ys, SqT K H t1 xs ∧ SqT K H t2 ys ∧ (xs.length ≤ i ∨ ys.length ≤ i)⟩
noncomputable def ZStT (z TI TO j1 j2 t1 t2 : Addr) (i : Nat) (h : Heap) : Prop :=
  IsZip h z TI TO Value.none ∧ IsPair h TI (.ref j1) (.ref j2) ∧ (∃ a b, IsPair h TO a b) ∧ h.IsTupleIter j1 t1 i ∧ h.IsTupleIter j2 t2 i
theorem isTuple_at {h : Heap} {l : Addr} {items : Array Value} (x : h.IsTuple l items) : ∃ o, h.get? l = some o ∧ o.cls = .type "tuple" := by
  obtain ⟨o, e, c, _⟩ := x
  exact ⟨o, e, c⟩
theorem turn_zipT {P : Program} {w : World} {K : PySem.W.Frag} {es : List Expr} {k0 : Nat} {p0 : Pos} {z TI TO i1 i2 l1 l2 : Addr} (ap : ZipApart z TI TO i1 i2 l1 l2) :
    Turn P w K (.Tuple es k0 p0) (Itzt K l1 l2) [z, TI, TO, i1, i2] z (ZStT z TI TO i1 i2 l1 l2) where
  mem := by simp
  obj := fun i h ⟨a, b, ⟨c1, c2, c⟩, d, e⟩ x hx => by
    simp only [List.mem_cons, List.not_mem_nil, or_false] at hx
    rcases hx with rfl | rfl | rfl | rfl | rfl
    · exact ⟨_, a, fun v q => by cases q⟩
    · exact ⟨_, b, fun v q => by cases q⟩
    · exact ⟨_, c, fun v q => by cases q⟩
    · obtain ⟨o, e1, _, e2⟩ := d
      exact ⟨o, e1, fun v q => by rw [e2] at q; cases q⟩
    · obtain ⟨o, e1, _, e2⟩ := e
      exact ⟨o, e1, fun v q => by rw [e2] at q; cases q⟩
  keep := fun i h h' ⟨a, b, ⟨c1, c2, c⟩, d, e⟩ kk =>
    ⟨kk _ (by simp) _ a, kk _ (by simp) _ b, ⟨c1, c2, kk _ (by simp) _ c⟩, d.at fun o q => kk _ (by simp) o q, e.at fun o q => kk _ (by simp) o q⟩
  item := by
    intro X hP hw hK hc i pins s σ H E I hf st hg
    subst hP hw hK
    obtain ⟨a, b, ⟨c1, c2, c⟩, d, e⟩ := st
    obtain ⟨xs, ys, x, y, q1, q2, x1, y1⟩ := hg
    obtain ⟨its1, rv1, pl1, hz1⟩ := I.tuple q1
    obtain ⟨its2, rv2, pl2, hz2⟩ := I.tuple q2
    obtain ⟨u1, hu1, ru1⟩ := rv1.get x1
    obtain ⟨u2, hu2, ru2⟩ := rv2.get y1
    refine zt_pyNext ap a b c d e (show s.heap.IsTuple l1 its1.toArray from pl1) (show s.heap.IsTuple l2 its2.toArray from pl2) (u := u1) (v := u2) (by simpa using hu1) (by simpa using hu2) fun h' za zb zc zd ze zs zk => ?_
    refine ⟨_, rfl, wpAny_letOwnedTupleGo_zip (s := { s with heap := h' }) za fun h2 za2 sb => ?_⟩
    have kk : ∀ b o, b ∉ [z, TI, TO, i1, i2] → s.heap.get? b = some o → h2.get? b = some o := fun b o hb q => by
      simp only [List.mem_cons, List.not_mem_nil, or_false, not_or] at hb
      exact (sb.2 b hb.1).trans (zk b o hb.1 hb.2.2.1 hb.2.2.2.1 hb.2.2.2.2 q)
    have szn : s.heap.objs.size ≠ z := fun q => by
      obtain ⟨f0, _⟩ := hf z (by simp)
      exact absurd (Heap.lt_size a) (by rw [← q]; exact Nat.lt_irrefl _)
    have hT : h2.get? s.heap.objs.size = some { cls := .type "tuple", data := .seq #[u1, u2] } := (sb.2 _ szn).trans ze
    have fr : H s.heap.objs.size = none := I.hok.fresh (Nat.le_refl _)
    have I2 : Inv X pins σ (upd H s.heap.objs.size (.tup [x, y])) { s with heap := h2 } := I.turnLay (t' := s.toks) (fp := [z, TI, TO, i1, i2]) kk hf (Nat.le_refl _)
      ⟨by show 2 ≤ sizeLine; decide, [u1, u2], .cons ru1 (.cons ru2 .nil), ⟨_, hT, rfl, _, rfl⟩⟩
    have kTI : h2.get? TI = some _ := (sb.2 TI ap.TIz).trans (zk TI _ ap.TIz ap.TITO ap.TIi1 ap.TIi2 b)
    refine ⟨.ref s.heap.objs.size, _, I2, rfl, ⟨_, x, y, fr, rfl, rfl, fun zs hz => by rw [I.tuple_inj hz q1]; exact x1, fun zs hz => by rw [I.tuple_inj hz q2]; exact y1⟩,
      ⟨za2, kTI, ⟨_, _, (sb.2 TO ap.TOz).trans zb⟩, zc.at fun o q => (sb.2 _ ap.i1z).trans q, zd.at fun o q => (sb.2 _ ap.i2z).trans q⟩, fun b hb => ?_⟩
    have h0 := (hf b hb).1
    have hlt : b ≠ s.heap.objs.size := fun q => by
      subst q
      simp only [List.mem_cons, List.not_mem_nil, or_false] at hb
      rcases hb with q | q | q | q | q
      · exact szn q
      · exact absurd (Heap.lt_size b) (by rw [← q]; exact Nat.lt_irrefl _)
      · exact absurd (Heap.lt_size c) (by rw [← q]; exact Nat.lt_irrefl _)
      · obtain ⟨o, e1, _⟩ := d
        exact absurd (Heap.lt_size e1) (by rw [← q]; exact Nat.lt_irrefl _)
      · obtain ⟨o, e1, _⟩ := e
        exact absurd (Heap.lt_size e1) (by rw [← q]; exact Nat.lt_irrefl _)
    rw [upd_ne hlt]
    exact h0
  done := by
    intro X hP hw hK hc i pins s σ H E I hf st hg
    subst hP hw hK
    obtain ⟨a, b, ⟨c1, c2, c⟩, d, e⟩ := st
    obtain ⟨xs, ys, q1, q2, hl⟩ := hg
    obtain ⟨its1, rv1, pl1, hz1⟩ := I.tuple q1
    obtain ⟨its2, rv2, pl2, hz2⟩ := I.tuple q2
    have g1 := rv1.length
    have g2 := rv2.length
    refine zt_pyEnd (I.ok.hd hc) ap a b c d e (show s.heap.IsTuple l1 its1.toArray from pl1) (show s.heap.IsTuple l2 its2.toArray from pl2) ?_ fun h' zk => ⟨rfl, I.turnedL (t' := s.toks) (fp := [z, TI, TO, i1, i2]) (fun b o hb q => ?_) hf⟩
    · rcases hl with q | q
      · left; simp; omega
      · right; simp; omega
    · simp only [List.mem_cons, List.not_mem_nil, or_false, not_or] at hb
      exact zk b o hb.1 hb.2.2.1 hb.2.2.2.1 hb.2.2.2.2 q
  self := fun _ _ _ _ _ st h => wpAny_pyIter_zip st.1 h
noncomputable def iZipT (K : PySem.W.Frag) (ta : TA) : TI := fun σ H R => ta σ H fun vs H1 => ∃ a b, vs = [.ref a, .ref b] ∧ (∃ xs, SqT K H1 a xs) ∧ (∃ ys, SqT K H1 b ys) ∧ R (Itzt K a b) H1
theorem pi_zipT {X : Cx} {es : List Expr} {k0 : Nat} {p0 : Pos} {a b : Expr} {ta : TA} {p pos : Pos} (hg : Gl X "zip") (hm : X.mg "zip" = none) (ha : PA X [a, b] ta) (hs : starEach [a, b] X.env = [(false, eval a X.env), (false, eval b X.env)] := by rfl) (hs2 : starEach [b] X.env = [(false, eval b X.env)] := by rfl) :
    PI X (.Tuple es k0 p0) (.Call (.Name "zip" p) [a, b] [] pos) (iZipT X.K ta) := by
  intro pins s σ H R I h
  refine Call_ (ld_blt I hg hm boot_zip (PyProof.Rows.callWith_type1 (thn (ha pos pins s σ H _ I h) fun us s1 ⟨vs, H1, I1, r1, q1⟩ => ?_) (by rw [hs, hs2]) (by rw [hs2]; rfl)))
  obtain ⟨l1, l2, e, ⟨xs, q1⟩, ⟨ys, q2⟩, q⟩ := q1
  subst e
  cases r1 with
  | cons r rr =>
    cases rr with
    | cons r' rr =>
      cases rr
      cases r
      cases r'
      obtain ⟨its1, rv1, pl1, hz1⟩ := I1.tuple q1
      obtain ⟨its2, rv2, pl2, hz2⟩ := I1.tuple q2
      have T1 : s1.heap.IsTuple l1 its1.toArray := pl1
      have T2 : s1.heap.IsTuple l2 its2.toArray := pl2
      have lt1 : l1 < s1.heap.objs.size := by obtain ⟨o, e, _⟩ := isTuple_at T1; exact Heap.lt_size e
      have lt2 : l2 < s1.heap.objs.size := by obtain ⟨o, e, _⟩ := isTuple_at T2; exact Heap.lt_size e
      refine zt_call T1 T2 fun h' za zb zc zd ze zk => ?_
      refine wpAny_pyIter_zip (s := { s1 with heap := h' }) za ?_
      have I2 : Inv X pins σ H1 { s1 with heap := h' } := I1.kept (t' := s1.toks) fun b o e => zk b o e
      refine ⟨_, [_, _, _, _, _], _, _, H1, rfl, I2, turn_zipT (z := s1.heap.objs.size + 4) (TI := s1.heap.objs.size + 2) (TO := s1.heap.objs.size + 3) (i1 := s1.heap.objs.size) (i2 := s1.heap.objs.size + 1) (l1 := l1) (l2 := l2) ?_, ⟨za, zb, ⟨_, _, zc⟩, zd, ze⟩, fun b hb => ?_, q⟩
      · exact zapart lt1 lt2
      · simp only [List.mem_cons, List.not_mem_nil, or_false] at hb
        have ge : s1.heap.objs.size ≤ b := by rcases hb with z | z | z | z | z <;> (subst z; first | exact Nat.le_add_right _ _ | exact Nat.le_refl _)
        exact I1.fpOk ge (I1.hok.fresh ge)
theorem for_zipT {K : PySem.W.Frag} {l1 l2 : Addr} {xs ys : List V} {g : TG} {tb : TS} {D : Ends} {σ : St} {H : Hp} {n : Nat} (Pv : Nat → St → Hp → Prop) (h0 : Pv 0 σ H) (n1 : n ≤ xs.length) (n2 : n ≤ ys.length) (ne : xs.length = n ∨ ys.length = n)
    (hl : ∀ i σ H, i ≤ n → Pv i σ H → SqT K H l1 xs ∧ SqT K H l2 ys)
    (hs : ∀ i x y T σ H, i < n → xs[i]? = some x → ys[i]? = some y → H T = none → Pv i σ H → g (.ref T) σ (upd H T (.tup [x, y])) fun σ2 H2 => tb { D with nx := Pv (i + 1), ct := Pv (i + 1), bk := D.nx } σ2 H2) (hd : ∀ σ H, Pv n σ H → D.nx σ H) :
    ∃ W : Nat → Nat → St → Hp → Prop, (∃ m, W 0 m σ H) ∧ ∀ i m σ H, W i m σ H →
      ((Itzt K l1 l2).stop i H ∧ D.nx σ H) ∨ ((Itzt K l1 l2).go i H ∧ ∃ N : St → Hp → Prop, (∀ σ' H', N σ' H' → ∃ m', m' < m ∧ W (i + 1) m' σ' H') ∧ ∀ x H', (Itzt K l1 l2).yld i H x H' → g x σ H' fun σ2 H2 => tb { D with nx := N, ct := N, bk := D.nx } σ2 H2) := by
  refine ⟨fun i m σ H => m = n - i ∧ i ≤ n ∧ Pv i σ H, ⟨n, by simp, Nat.zero_le _, h0⟩, ?_⟩
  rintro i m σ H ⟨rfl, hi, p⟩
  obtain ⟨q1, q2⟩ := hl i σ H hi p
  by_cases hlt : i < n
  · have ex : xs[i]? = some (xs[i]'(by omega)) := List.getElem?_eq_getElem (by omega)
    have ey : ys[i]? = some (ys[i]'(by omega)) := List.getElem?_eq_getElem (by omega)
    refine .inr ⟨⟨xs, ys, _, _, q1, q2, ex, ey⟩, Pv (i + 1), fun σ' H' z => ⟨n - (i + 1), by omega, rfl, hlt, z⟩, ?_⟩
    rintro v H' ⟨T, x, y, fr, rfl, rfl, hx, hy⟩
    exact hs i x y T σ H hlt (hx xs q1) (hy ys q2) fr p
  · have ei : i = n := by omega
    subst ei
    refine .inl ⟨⟨xs, ys, q1, q2, ?_⟩, hd σ H p⟩
    rcases ne with z | z
    · exact .inl (by omega)
    · exact .inr (by omega)
end L2
set_option maxHeartbeats 4000000
namespace L2
open PySem PySem.Spec PyProof.Rows
section
variable {X : Cx}
end
section
variable {X : Cx}
end
end L2
set_option maxHeartbeats 4000000
namespace L2
open PySem PySem.Spec PyProof.Rows
section
variable {X : Cx} {e st : Expr} {te ts : TE} {pos p2 : Pos}
end
end L2
set_option maxHeartbeats 4000000
namespace L2
open PySem PySem.Spec PyProof.Rows
section
variable {X : Cx}
theorem op_catE : OpR X (binaryOp .Add) (fun x y H Q => ∃ a b ys, x = .ref a ∧ y = .ref b ∧ SqT X.K H a [] ∧ SqT X.K H b ys ∧ Q (.ref b) H) := by
  intro pins s σ H x y v u Q I rx ry h
  obtain ⟨a, b, ys, rfl, rfl, ha, hb, q⟩ := h
  cases rx
  cases ry
  obtain ⟨its, r1, p1, _⟩ := I.tuple ha
  obtain ⟨its2, r2, p2, _⟩ := I.tuple hb
  cases r1
  obtain ⟨⟨cls, dd, data, sl⟩, ho, hc, n, hd⟩ := id (show s.heap.IsTuple a ([] : List Value).toArray from p1)
  obtain ⟨⟨cls2, dd2, data2, sl2⟩, ho2, hc2, n2, hd2⟩ := id (show s.heap.IsTuple b its2.toArray from p2)
  simp only at hc hd hc2 hd2
  subst hc hd hc2 hd2
  exact concat_meets ⟨_, ho, rfl⟩ ⟨_, ho2, rfl⟩ noFill_tuple_add seq_tuple_add PySem.F.slot_tuple_add PySem.F.entry_tuple_add (PySem.F.args_tuple_add_2 _ _) (tuple_addW0 a b ([] : List Value).toArray its2.toArray n n2 dd dd2 sl sl2 rfl) ⟨ho, ho2, ⟨.ref b, H, I, rfl, q⟩⟩
theorem op_catU : OpR X (binaryOp .Add) (fun x y H Q => (∃ a b ys, x = .ref a ∧ y = .ref b ∧ SqT X.K H a [] ∧ SqT X.K H b ys ∧ Q (.ref b) H) ∨ rCatT X.K x y H Q) := by
  intro pins s σ H x y v u Q I rx ry h
  rcases h with h | h
  · exact op_catE pins s σ H x y v u Q I rx ry h
  · exact op_catT pins s σ H x y v u Q I rx ry h
end
end L2
namespace Gc
theorem gstep {a b : Int} (ha : 0 ≤ a) (hb : 0 ≤ b) (h : b ≠ 0) : Int.gcd b (a % b) = Int.gcd a b := by
  rw [Int.gcd_comm a b]
  unfold Int.gcd
  have e : (a % b).natAbs = a.natAbs % b.natAbs := by
    rw [Int.natAbs_emod_of_nonneg ha]
  rw [e, Nat.gcd_comm b.natAbs (a.natAbs % b.natAbs), ← Nat.gcd_rec]
theorem gend {a : Int} (ha : 0 ≤ a) : (Int.gcd a 0 : Int) = a := by
  rw [Int.gcd_zero_right]; omega
theorem gabs (a b : Int) : Int.gcd (if a < 0 then -a else a) (if b < 0 then -b else b) = Int.gcd a b := by
  unfold Int.gcd
  have h1 : (if a < 0 then -a else a).natAbs = a.natAbs := by split <;> omega
  have h2 : (if b < 0 then -b else b).natAbs = b.natAbs := by split <;> omega
  rw [h1, h2]
end Gc
namespace Gc
theorem fdiv_mul {g t : Int} (h : g ≠ 0) : (g * t).fdiv g = t := by
  rw [Int.mul_comm]; exact Int.mul_fdiv_cancel _ h
noncomputable def frD (t b : Int) : Int := if b < 0 then -(Int.gcd t b : Int) else (Int.gcd t b : Int)
noncomputable def frT (t b : Int) : Int := t.fdiv (frD t b)
noncomputable def frB (t b : Int) : Int := b.fdiv (frD t b)
theorem gne {t b : Int} (h : b ≠ 0) : Int.gcd t b ≠ 0 := fun e => h (Int.gcd_eq_zero_iff.mp e).2
theorem frD_ne {t b : Int} (h : b ≠ 0) : frD t b ≠ 0 := by
  have := gne (t := t) h
  unfold frD; split <;> omega
theorem fr_split {t b : Int} (h : b ≠ 0) : t = frD t b * frT t b ∧ b = frD t b * frB t b := by
  have hd : (Int.gcd t b : Int) ∣ t := Int.gcd_dvd_left ..
  have hb : (Int.gcd t b : Int) ∣ b := Int.gcd_dvd_right ..
  have hd' : frD t b ∣ t := by unfold frD; split; · exact Int.neg_dvd.mpr hd
                               · exact hd
  have hb' : frD t b ∣ b := by unfold frD; split; · exact Int.neg_dvd.mpr hb
                               · exact hb
  obtain ⟨x, hx⟩ := hd'
  obtain ⟨y, hy⟩ := hb'
  have ne := frD_ne (t := t) h
  generalize hD : frD t b = d at *
  have e1 : frT t b = x := by unfold frT; rw [hD]; conv => lhs; rw [hx]
                              exact fdiv_mul ne
  have e2 : frB t b = y := by unfold frB; rw [hD]; conv => lhs; rw [hy]
                              exact fdiv_mul ne
  rw [e1, e2]; exact ⟨hx, hy⟩
theorem frB_pos {t b : Int} (h : b ≠ 0) : 0 < frB t b := by
  obtain ⟨_, e⟩ := fr_split (t := t) h
  have g := gne (t := t) h
  rcases Int.lt_trichotomy (frB t b) 0 with c | c | c
  · exfalso
    by_cases hb : b < 0
    · have hd : frD t b < 0 := by unfold frD; rw [if_pos hb]; omega
      have := Int.mul_pos_of_neg_of_neg hd c
      omega
    · have hd : 0 < frD t b := by unfold frD; rw [if_neg hb]; omega
      have := Int.mul_neg_of_pos_of_neg hd c
      omega
  · rw [c, Int.mul_zero] at e; exact absurd e h
  · exact c
theorem fr_gcd {t b : Int} (h : b ≠ 0) : Int.gcd (frT t b) (frB t b) = 1 := by
  obtain ⟨e1, e2⟩ := fr_split (t := t) h
  have g := gne (t := t) h
  have k : Int.gcd t b = (frD t b).natAbs * Int.gcd (frT t b) (frB t b) := by
    rw [← Int.gcd_mul_left, ← e1, ← e2]
  have hn : (frD t b).natAbs = Int.gcd t b := by unfold frD; split <;> omega
  rw [hn] at k
  have : Int.gcd t b * 1 = Int.gcd t b * Int.gcd (frT t b) (frB t b) := by rw [Nat.mul_one]; exact k
  exact (Nat.eq_of_mul_eq_mul_left (Nat.pos_of_ne_zero g) this).symm
theorem fr_cross {t b : Int} (h : b ≠ 0) : frT t b * b = t * frB t b := by
  obtain ⟨e1, e2⟩ := fr_split (t := t) h
  generalize frT t b = x at *
  generalize frB t b = y at *
  generalize frD t b = d at *
  subst e1 e2
  rw [Int.mul_left_comm, Int.mul_assoc]
theorem dvd_cop {k m n : Int} (h : k ∣ m * n) (c : Int.gcd k m = 1) : k ∣ n := by
  have h' : k.natAbs ∣ m.natAbs * n.natAbs := by rw [← Int.natAbs_mul]; exact Int.natAbs_dvd_natAbs.mpr h
  exact Int.natAbs_dvd_natAbs.mp (Nat.Coprime.dvd_of_dvd_mul_left c h')
theorem fr_same {a b c d : Int} (hb : 0 < b) (hd : 0 < d) (g1 : Int.gcd a b = 1) (g2 : Int.gcd c d = 1) (e : a * d = c * b) : a = c ∧ b = d := by
  have h1 : b ∣ d := by
    have : b ∣ a * d := ⟨c, by rw [e, Int.mul_comm]⟩
    have k : Int.gcd b a = 1 := by rw [Int.gcd_comm]; exact g1
    exact dvd_cop this k
  have h2 : d ∣ b := by
    have : d ∣ c * b := ⟨a, by rw [← e, Int.mul_comm]⟩
    have k : Int.gcd d c = 1 := by rw [Int.gcd_comm]; exact g2
    exact dvd_cop this k
  have hbd : b = d := Int.dvd_antisymm (by omega) (by omega) h1 h2
  subst hbd
  exact ⟨Int.eq_of_mul_eq_mul_right (by omega) e, rfl⟩
end Gc
namespace Gc
theorem mul_ne {a b : Int} (ha : 0 < a) (hb : 0 < b) : a * b ≠ 0 := Int.ne_of_gt (Int.mul_pos ha hb)
theorem cancel {k x y : Int} (h : k ≠ 0) (e : k * x = k * y) : x = y := Int.eq_of_mul_eq_mul_left h e
theorem fr_is {t b c d : Int} (hb : b ≠ 0) (hd : 0 < d) (g : Int.gcd c d = 1) (e : t * d = c * b) : frT t b = c ∧ frB t b = d := by
  have h := fr_cross (t := t) hb
  refine fr_same (frB_pos hb) hd (fr_gcd hb) g ?_
  refine cancel hb ?_
  generalize frT t b = x at *
  generalize frB t b = y at *
  grind
noncomputable def Sz (n : Nat) (i : Int) : Prop := i.natAbs < 2 ^ n
theorem Sz.mono {m n : Nat} {i : Int} (h : Sz m i) (hn : m ≤ n) : Sz n i := Nat.lt_of_lt_of_le h (Nat.pow_le_pow_right (by decide) hn)
theorem Sz.mul {m n : Nat} {i j : Int} (h1 : Sz m i) (h2 : Sz n j) : Sz (m + n) (i * j) := by
  unfold Sz at *
  rw [Int.natAbs_mul, Nat.pow_add]
  exact Nat.mul_lt_mul'' h1 h2
theorem Sz.add {n : Nat} {i j : Int} (h1 : Sz n i) (h2 : Sz n j) : Sz (n + 1) (i + j) := by
  unfold Sz at *
  rw [Nat.pow_succ]; omega
theorem Sz.sub {n : Nat} {i j : Int} (h1 : Sz n i) (h2 : Sz n j) : Sz (n + 1) (i - j) := by
  unfold Sz at *
  rw [Nat.pow_succ]; omega
theorem Sz.fr {n m : Nat} {a b : Int} (h : b ≠ 0) (sa : Sz n a) (sb : Sz m b) : Sz n (frT a b) ∧ Sz m (frB a b) := by
  obtain ⟨e1, e2⟩ := fr_split (t := a) h
  have nd := frD_ne (t := a) h
  have h1 : (frT a b).natAbs ≤ a.natAbs := by
    have : a.natAbs = (frD a b).natAbs * (frT a b).natAbs := by rw [← Int.natAbs_mul, ← e1]
    rw [this]; exact Nat.le_mul_of_pos_left _ (by omega)
  have h2 : (frB a b).natAbs ≤ b.natAbs := by
    have : b.natAbs = (frD a b).natAbs * (frB a b).natAbs := by rw [← Int.natAbs_mul, ← e2]
    rw [this]; exact Nat.le_mul_of_pos_left _ (by omega)
  exact ⟨Nat.lt_of_le_of_lt h1 sa, Nat.lt_of_le_of_lt h2 sb⟩
structure FrOK (a b : Int) : Prop where
  pos : 0 < b
  low : Int.gcd a b = 1
  s1 : Sz 200 a
  s2 : Sz 200 b
theorem FrOK.of {a b : Int} (h : 0 < b) (sa : Sz 200 a) (sb : Sz 200 b) : FrOK (frT a b) (frB a b) :=
  have z := Sz.fr (by omega) sa sb
  ⟨frB_pos (by omega), fr_gcd (by omega), z.1, z.2⟩
theorem frD_pos {a b : Int} (h : 0 < b) : frD a b = Int.gcd a b := if_neg (by omega)
end Gc
namespace Ch
noncomputable def binom : Nat → Nat → Nat
  | _, 0 => 1
  | 0, _ + 1 => 0
  | n + 1, k + 1 => binom n k + binom n (k + 1)
theorem b0 (n : Nat) : binom n 0 = 1 := by cases n <;> rfl
theorem bs (n k : Nat) : binom (n + 1) (k + 1) = binom n k + binom n (k + 1) := rfl
theorem blt : ∀ {n k : Nat}, n < k → binom n k = 0
  | 0, k + 1, _ => rfl
  | n + 1, k + 1, h => by rw [bs, blt (by omega : n < k), blt (by omega : n < k + 1)]
end Ch
namespace Gc
open Ch
theorem rle {a b c : Rat} (h : a ≤ b) (hc : 0 ≤ c) : c * a ≤ c * b := Rat.mul_le_mul_of_nonneg_left h hc
noncomputable def sm (f : Nat → Rat) : Nat → Rat
  | 0 => 0
  | m + 1 => sm f m + f m
noncomputable def wt (p : Rat) : Nat → Nat → Rat
  | 0, 0 => 1
  | 0, _ + 1 => 0
  | n + 1, 0 => (1 - p) * wt p n 0
  | n + 1, k + 1 => (1 - p) * wt p n (k + 1) + p * wt p n k
end Gc
namespace Gc
open Ch
noncomputable def Cvx (G : Nat → Rat) : Prop := ∀ k, G (k + 1) - G k ≤ G (k + 2) - G (k + 1)
theorem Cvx.steps {G : Nat → Rat} (h : Cvx G) (a : Nat) : ∀ e, G (a + 1) - G a ≤ G (a + e + 1) - G (a + e)
  | 0 => Rat.le_refl
  | e + 1 => by
      have := h.steps a e
      have s := h (a + e)
      have e1 : a + (e + 1) = a + e + 1 := by omega
      have e2 : a + (e + 1) + 1 = a + e + 2 := by omega
      rw [e2, e1]; grind
theorem Cvx.up {G : Nat → Rat} (h : Cvx G) (a : Nat) : ∀ e : Nat, (e : Rat) * (G (a + 1) - G a) ≤ G (a + e) - G a
  | 0 => by have : a + 0 = a := rfl
            rw [this]; push_cast; grind
  | e + 1 => by
      have i := h.up a e
      have s := h.steps a e
      have e1 : a + (e + 1) = a + e + 1 := by omega
      rw [e1]; push_cast; grind
theorem Cvx.dn {G : Nat → Rat} (h : Cvx G) (a : Nat) : ∀ e : Nat, G (a + e) - G a ≤ (e : Rat) * (G (a + e + 1) - G (a + e))
  | 0 => by have : a + 0 = a := rfl
            rw [this]; push_cast; grind
  | e + 1 => by
      have i := h.dn a e
      have s := h (a + e)
      have m := rle s (show (0 : Rat) ≤ (e : Rat) by exact_mod_cast Nat.zero_le e)
      have e1 : a + (e + 1) = a + e + 1 := by omega
      have e2 : a + (e + 1) + 1 = a + e + 2 := by omega
      rw [e2, e1]; push_cast; grind
theorem castpos {e : Nat} (h : 0 < e) : (0 : Rat) < (e : Rat) := by exact_mod_cast h
theorem pos_of {e x : Rat} (he : 0 < e) (h : 0 < e * x) : 0 < x := by
  by_cases hx : 0 < x
  · exact hx
  · have := rle (show x ≤ 0 by grind) (show 0 ≤ e by grind); grind
theorem nonneg_of {e x : Rat} (he : 0 < e) (h : 0 ≤ e * x) : 0 ≤ x := by
  by_cases hx : 0 ≤ x
  · exact hx
  · have := Rat.mul_pos he (show 0 < -x by grind); grind
theorem Cvx.out {G : Nat → Rat} (h : Cvx G) {a d k : Nat} (ha : G a = 0) (hd : G d = 0) (had : a < d) (h1 : k ≤ a ∨ d ≤ k) : 0 ≤ G k := by
  obtain ⟨f, rfl⟩ := Nat.exists_eq_add_of_le (Nat.le_of_lt had)
  have fp := castpos (show 0 < f by omega)
  cases h1 with
  | inl h1 =>
    obtain ⟨e, rfl⟩ := Nat.exists_eq_add_of_le h1
    have u := h.dn k e
    have v := h.up (k + e) f
    have x : 0 ≤ -(G (k + e + 1) - G (k + e)) := nonneg_of fp (by grind)
    have y := Rat.mul_nonneg (show (0 : Rat) ≤ (e : Rat) by exact_mod_cast Nat.zero_le e) x
    grind
  | inr h1 =>
    obtain ⟨e, rfl⟩ := Nat.exists_eq_add_of_le h1
    have u := h.dn a f
    have v := h.up (a + f) e
    have x : 0 ≤ G (a + f + 1) - G (a + f) := nonneg_of fp (by grind)
    have y := Rat.mul_nonneg (show (0 : Rat) ≤ (e : Rat) by exact_mod_cast Nat.zero_le e) x
    grind
end Gc
namespace Gc
open Ch
theorem rden (r : Rat) : (0 : Int) < (r.den : Int) := by have := r.den_nz; omega
theorem rgcd (r : Rat) : Int.gcd r.num (r.den : Int) = 1 := by
  have := r.reduced
  rw [Int.gcd]; simpa [Nat.Coprime] using this
theorem rdenQ (r : Rat) : (r.den : Rat) ≠ 0 := by
  have := r.den_nz
  intro h; exact this (by exact_mod_cast h)
theorem rsplit (r : Rat) : r * (r.den : Rat) = (r.num : Rat) := by
  have h := Rat.mkRat_self r
  rw [Rat.mkRat_eq_div] at h
  have d := rdenQ r
  generalize (r.num : Rat) = x at *
  generalize (r.den : Rat) = y at *
  grind
theorem fr_rat {t b : Int} (h : b ≠ 0) {r : Rat} (e : r * (b : Rat) = (t : Rat)) : frT t b = r.num ∧ frB t b = (r.den : Int) := by
  refine fr_is h (rden r) (rgcd r) ?_
  have s := rsplit r
  have : ((t * (r.den : Int) : Int) : Rat) = ((r.num * b : Int) : Rat) := by push_cast; rw [← e, ← s]; grind
  exact_mod_cast this
theorem fr_plus (r s : Rat) : frT (r.num * s.den + s.num * r.den) (r.den * s.den) = (r + s).num
    ∧ frB (r.num * s.den + s.num * r.den) (r.den * s.den) = ((r + s).den : Int) := by
  refine fr_rat (mul_ne (rden r) (rden s)) ?_
  have a := rsplit r; have b := rsplit s
  push_cast; rw [← a, ← b]; grind
theorem fr_minus (r s : Rat) : frT (r.num * s.den - s.num * r.den) (r.den * s.den) = (r - s).num
    ∧ frB (r.num * s.den - s.num * r.den) (r.den * s.den) = ((r - s).den : Int) := by
  refine fr_rat (mul_ne (rden r) (rden s)) ?_
  have a := rsplit r; have b := rsplit s
  push_cast; rw [← a, ← b]; grind
theorem castlt {a b : Int} : ((a : Rat) < (b : Rat)) ↔ a < b := Rat.intCast_lt_intCast
theorem r_under (r s : Rat) : r.num * (s.den : Int) < s.num * (r.den : Int) ↔ r < s := by
  have a := rsplit r; have b := rsplit s
  have dr : (0 : Rat) < (r.den : Rat) := by exact_mod_cast (show 0 < r.den by have := r.den_nz; omega)
  have ds : (0 : Rat) < (s.den : Rat) := by exact_mod_cast (show 0 < s.den by have := s.den_nz; omega)
  have p := Rat.mul_pos dr ds
  rw [← castlt]; push_cast; rw [← a, ← b]
  constructor
  · intro h
    have := pos_of p (x := s - r) (by grind); grind
  · intro h
    have := Rat.mul_pos p (show 0 < s - r by grind); grind
theorem r_nonneg (r : Rat) : 0 ≤ r.num ↔ 0 ≤ r := Rat.num_nonneg
theorem r_le1 (r : Rat) : r.num ≤ (r.den : Int) ↔ r ≤ 1 := by
  have := r_under 1 r
  have e1 : (1 : Rat).num = 1 := rfl
  have e2 : ((1 : Rat).den : Int) = 1 := rfl
  rw [e1, e2] at this
  constructor
  · intro h
    by_cases c : 1 < r
    · exact absurd (this.mpr c) (by omega)
    · grind
  · intro h
    by_cases c : 1 * (r.den : Int) < r.num * 1
    · have := this.mp c; grind
    · omega
noncomputable def rq (t b : Int) : Rat := (t : Rat) / (b : Rat)
noncomputable def Ov (B : Nat) (r : Rat) : Prop := ∃ m : Int, r * (B : Rat) = (m : Rat)
theorem Ov.dvd {B : Nat} {r : Rat} (h : Ov B r) : r.den ∣ B := by
  obtain ⟨m, hm⟩ := h
  have s := rsplit r
  have : ((r.num * (B : Int) : Int) : Rat) = ((m * (r.den : Int) : Int) : Rat) := by push_cast; rw [← hm, ← s]; grind
  have e : r.num * (B : Int) = m * (r.den : Int) := by exact_mod_cast this
  have d : (r.den : Int) ∣ (B : Int) := dvd_cop (k := (r.den : Int)) (m := r.num) ⟨m, by rw [e]; exact Int.mul_comm _ _⟩ (by rw [Int.gcd_comm]; exact rgcd r)
  exact_mod_cast d
theorem Ov.self (r : Rat) : Ov r.den r := ⟨r.num, rsplit r⟩
theorem Ov.add {B : Nat} {r s : Rat} (h : Ov B r) (k : Ov B s) : Ov B (r + s) := by
  obtain ⟨a, ha⟩ := h; obtain ⟨b, hb⟩ := k
  exact ⟨a + b, by push_cast; rw [← ha, ← hb]; grind⟩
theorem Ov.sub {B : Nat} {r s : Rat} (h : Ov B r) (k : Ov B s) : Ov B (r - s) := by
  obtain ⟨a, ha⟩ := h; obtain ⟨b, hb⟩ := k
  exact ⟨a - b, by push_cast; rw [← ha, ← hb]; grind⟩
theorem Ov.mul {A B : Nat} {r s : Rat} (h : Ov A r) (k : Ov B s) : Ov (A * B) (r * s) := by
  obtain ⟨a, ha⟩ := h; obtain ⟨b, hb⟩ := k
  exact ⟨a * b, by push_cast; rw [← ha, ← hb]; grind⟩
theorem Ov.up {A B : Nat} {r : Rat} (h : Ov A r) (k : A ∣ B) : Ov B r := by
  obtain ⟨c, rfl⟩ := k
  obtain ⟨a, ha⟩ := h
  exact ⟨a * c, by push_cast; rw [← ha]; grind⟩
theorem Ov.one (B : Nat) : Ov B 1 := ⟨(B : Int), by push_cast; grind⟩
structure RSz (n : Nat) (r : Rat) : Prop where
  t : Sz n r.num
  b : Sz n (r.den : Int)
theorem RSz.of {n B : Nat} {r : Rat} (h : Ov B r) (hB : 0 < B) (hn : B < 2 ^ n) (h0 : 0 ≤ r) (h1 : r ≤ 1) : RSz n r := by
  have a := (r_nonneg r).mpr h0
  have b := (r_le1 r).mpr h1
  have c := Nat.le_of_dvd hB h.dvd
  constructor <;> (unfold Sz; omega)
end Gc
namespace Gc
open Ch
end Gc
namespace Gc
open Ch
end Gc
namespace Gc
noncomputable abbrev Up (l : List Rat) : Prop := l.Pairwise (· ≤ ·)
theorem Up.at {l : List Rat} (h : Up l) {i j : Nat} {x y : Rat} (hij : i ≤ j) (ex : l[i]? = some x) (ey : l[j]? = some y) : x ≤ y := by
  by_cases e : i = j
  · subst e; rw [ex] at ey; cases ey; exact Rat.le_refl
  · obtain ⟨hi, rfl⟩ := List.getElem?_eq_some_iff.mp ex
    obtain ⟨hj, rfl⟩ := List.getElem?_eq_some_iff.mp ey
    exact List.pairwise_iff_getElem.mp h i j hi hj (by omega)
end Gc
namespace Gc
end Gc
namespace Gc
end Gc
namespace Gc
end Gc
namespace Pe
noncomputable def wrd (p : Int × Int) (k : Int) : Option Bool := if k ≤ p.1 then some false else if p.2 ≤ k then some true else none
noncomputable def sm : Nat → (Nat → Int) → Int
  | 0, _ => 0
  | n + 1, f => sm n f + f n
noncomputable def bAt (bs : List (Int × Int)) (t : Nat) : Int × Int := bs.getD t (0, 0)
noncomputable def gw (bs : List (Int × Int)) : Nat → Nat → Int
  | 0, k => if k = 0 then 1 else 0
  | t + 1, k => if wrd (bAt bs t) k = none then gw bs t k + (if k = 0 then 0 else gw bs t (k - 1)) else 0
noncomputable def wy (bs : List (Int × Int)) (t k : Nat) : Int := gw bs t k + (if k = 0 then 0 else gw bs t (k - 1))
noncomputable def wT (a c : Int) (t k : Nat) : Int := a ^ k * c ^ (t - k)
noncomputable def eT (bs : List (Int × Int)) (a c : Int) (f : Bool → Bool) (t : Nat) : Int := sm (t + 2) fun k => if (wrd (bAt bs t) k).any f then wy bs t k * wT a c (t + 1) k else 0
noncomputable def all2 : Bool → Bool := fun _ => true
noncomputable def eN (bs : List (Int × Int)) (a c : Int) (f : Bool → Bool) (n t : Nat) : Int := eT bs a c f t * (a + c) ^ (n - (t + 1))
noncomputable def mN (bs : List (Int × Int)) (a c : Int) (n m : Nat) : Int := sm m fun t => ((t : Int) + 1) * eN bs a c all2 n t
end Pe
set_option maxHeartbeats 4000000
namespace L2
open PySem PySem.Spec PyProof.Rows PySem.W Gc
theorem comp_listRG {K : PySem.W.Frag} {a : Addr} {xs : List V} {te : TE} {st : St} {H1 : Hp} {Q : VK} {D : Addr} (R : Nat → List V → Hp → Prop) (hD : H1 D = none) (q1 : SqL K H1 a xs) (hn : xs.length ≤ sizeLine) (h0 : R 0 [] (upd H1 D (.lst [])))
    (hs : ∀ (i : Nat) (x : V) (ys : List V) (H2 : Hp) (k : VK), xs[i]? = some x → Same H1 H2 → H2 D = some (.lst ys) → ys.length = i → R i ys H2 → (∀ y H4, Same H2 H4 → R (i + 1) (ys ++ [y]) (upd H4 D (.lst (ys ++ [y]))) → k y H4) → te (some x :: st) H2 k)
    (hd : ∀ ys H2, Same H1 H2 → H2 D = some (.lst ys) → ys.length = xs.length → R xs.length ys H2 → Q (.ref D) H2) : CompG (Itl K a) (gName 0) tYes te 1 st D H1 Q := by
  refine ⟨fun i m ys H2 => m = xs.length - i ∧ i ≤ xs.length ∧ ys.length = i ∧ Same H1 H2 ∧ H2 D = some (.lst ys) ∧ R i ys H2, ⟨xs.length, by simp, Nat.zero_le _, rfl, same_upd (Same.refl H1) hD, upd_same, h0⟩, ?_⟩
  rintro i m ys H2 ⟨rfl, hi, hl, sm, e, r⟩
  by_cases hlt : i < xs.length
  · have ex : xs[i]? = some xs[i] := List.getElem?_eq_getElem hlt
    refine .inr ⟨⟨xs, _, sm.seq q1, ex⟩, ?_⟩
    rintro x H3 σ0 ⟨rfl, hx⟩ l0
    have hx' := hx xs (sm.seq q1)
    obtain ⟨a', rfl⟩ : ∃ a, σ0 = [a] := by
      match σ0, l0 with
      | [a], _ => exact ⟨a, rfl⟩
    refine ⟨⟨[some x], rfl, rfl⟩, ?_⟩
    exact hs i x ys _ _ hx' sm e hl r fun y H4 s4 r4 => ⟨s4 _ _ e, by omega, xs.length - (i + 1), by omega, rfl, hlt, by simp [hl], same_upd (sm.trans s4) hD, upd_same, r4⟩
  · have ei : i = xs.length := by omega
    subst ei
    exact .inl ⟨⟨xs, sm.seq q1, Nat.le_refl _⟩, hd ys H2 sm e hl r⟩
end L2
namespace L2
open PySem PySem.Spec PyProof.Rows PySem.W Gc
end L2
set_option maxHeartbeats 4000000
namespace L2
open PySem PySem.Spec PyProof.Rows PySem.W Gc
theorem ints_of : ∀ {ns : List Int} {us : List Value}, Vals (ns.map V.int) us → IntsAre us ns
  | [], us, r => by cases r; exact .nil
  | n :: ns, us, r => by
    cases r with
    | cons r1 r2 =>
      obtain ⟨t, rfl⟩ := r1
      exact .cons n t (ints_of r2)
theorem ints_to : ∀ {ns : List Int} {us : List Value}, IntsAre us ns → Vals (ns.map V.int) us
  | _, _, .nil => .nil
  | _, _, .cons n t r => .cons ⟨t, rfl⟩ (ints_to r)
theorem call_sortedI {X : Cx} : CallR X (.builtin "sorted") (fun xs H Q => ∃ (p : Addr) (ns : List Int), xs = [.ref p] ∧ SqL X.K H p (ns.map V.int) ∧ ns.length < 64 ∧
    ∀ (D : Addr) (ms : List Int), H D = none → ms.Perm ns → ms.Pairwise (· ≤ ·) → Q (.ref D) (upd H D (.lst (ms.map V.int)))) := by
  intro pins s σ H xs us Q I r h
  obtain ⟨p, ns, rfl, hq, h64, q⟩ := h
  obtain ⟨u, rfl, rx⟩ := vals1 r
  cases rx
  obtain ⟨its, rv, pl, hz⟩ := I.list hq
  have li : its.length = ns.length := by rw [← rv.length, List.length_map]
  refine sorted_ints pl.isList (ints_of rv) (by omega) fun out ms a1 a2 a3 => ?_
  obtain ⟨e, he⟩ := sortedAll_at s.heap its out
  have hD : H (s.heap.objs.size + 1) = none := I.hok.fresh (Nat.le_succ _)
  refine ⟨.ref (s.heap.objs.size + 1), _, I.laid (t' := s.toks) (fun _ _ => sortedAll_old) (Nat.le_succ _) (show ObjOk X.prog X.w _ _ _ (.lst (ms.map V.int)) from ⟨?_, out.toList, e, ints_to a1, ?_⟩), rfl, q _ ms hD a2 a3⟩
  · rw [List.length_map, a2.length_eq, sizeLine_eq]; omega
  · exact he
section
variable {prog : Program} {w : World} {A : Around} {E : Value → Shared → Prop} {s : Shared}
end
section
variable {X : Cx} {a b c d : Expr} {ta tb tc td : TE} {pos : Pos}
end
end L2
set_option maxHeartbeats 4000000
namespace L2
open PySem PySem.Spec PyProof.Rows PySem.W Gc
section
variable {X : Cx}
end
end L2
set_option maxHeartbeats 4000000
namespace L2
open PySem PySem.Spec PyProof.Rows PySem.W Gc
section
end
section
variable {prog : Program} {w : World} {A : Around} {E : Value → Shared → Prop} {s : Shared}
end
section
variable {prog : Program} {w : World} {A : Around} {E : Value → Shared → Prop} {s : Shared}
end
end L2
set_option maxHeartbeats 4000000
namespace L2
open PySem PySem.Spec PyProof.Rows
theorem compLoop_ifsX {prog : Program} {w : World} {A : Around} {R : Result → Shared → Prop} {s : Shared} {elt tg iter : Expr} {ifs : List Expr} {scope : Scope} {pos : Pos} {it acc : Value} {env : Env} (Iv : Nat → Shared → Prop)
    (turn : ∀ k s, Iv k s → wpAny (model prog w) A (pyNext it) (fun r s1 => match r with
      | none => R (.ok .next) s1
      | some v => wpAny (model prog w) A (letOwnedTupleGo tg it v) (fun _ s2 => wpAny (model prog w) A (assign tg env v) (fun _ s3 => wpAny (model prog w) A (testsOf ifs env) (fun b s4 => if b = true then
          wpAny (model prog w) A (eval elt env) (fun y s5 => wpAny (model prog w) A (call (.builtin "list.append") [acc, y]) (fun _ s6 => ∃ m, m < k ∧ Iv m s6) (fun _ _ => False) s5) (notedBy (model prog w) A env fun e s' => R (.error e) s') s4
          else ∃ m, m < k ∧ Iv m s4) (fun _ _ => False) s3) (fun _ _ => False) s2) (fun _ _ => False) s1) (fun _ _ => False) s)
    (k : Nat) (h : Iv k s) : codeAny (model prog w) A (.compLoop (.ListComp elt [⟨tg, iter, ifs, 0⟩] scope pos) 0 it acc env) R s := by
  refine codeAny_loop rfl Iv (fun k s hI => ?_) k h
  show wpAny _ _ ((compTurn (.ListComp elt [⟨tg, iter, ifs, 0⟩] scope pos) 0 it acc env).onRaise (fun e => do noteFrame e env; theTreesLotGoes e)) _ _ s
  refine wpAny_noted ?_
  rw [compTurn_ifs]
  refine wpAny_bind (wpAny_standAt (wpAny_bind (wpAny_mono (turn k s hI) (fun r s1 h1 => ?_) fun _ _ f => f.elim)))
  cases r with
  | none => exact wpAny_pure h1
  | some v =>
    refine wpAny_bind (wpAny_mono h1 (fun _ s2 h2 => wpAny_bind (wpAny_mono h2 (fun _ s3 h3 => wpAny_bind (wpAny_mono h3 (fun b s4 h4 => ?_) fun _ _ f => f.elim)) fun _ _ f => f.elim)) fun _ _ f => f.elim)
    cases b with
    | true =>
      rw [if_pos rfl] at h4 ⊢
      exact wpAny_bind (wpAny_mono h4 (fun y s5 h5 => wpAny_bind (wpAny_mono h5 (fun _ s6 h6 => wpAny_pure ⟨rfl, h6⟩) fun _ _ f => f.elim)) fun _ _ f => f)
    | false =>
      rw [if_neg Bool.false_ne_true] at h4 ⊢
      exact wpAny_pure ⟨rfl, h4⟩
noncomputable def postX (M : Model) (A : Around) (E : Value → Shared → Prop) (Q : Value → Shared → Prop) (acc : Value) (cenv : Env) : Result → Shared → Prop
  | .ok _, s' => ∃ m, s'.heap.Ns cenv.locals m ∧ ∀ h', Heap.SameBut cenv.locals s'.heap h' → Q acc { s' with heap := h' }
  | .error x, s' => ∃ m, s'.heap.Ns cenv.locals m ∧ ∀ h', Heap.SameBut cenv.locals s'.heap h' → wpAny M A (passOn "comprehension.variables-let-go" x cenv : Sem Value) (fun _ _ => False) E { s' with heap := h' }
theorem comp_freeX {M : Model} {A : Around} {E : Value → Shared → Prop} {s : Shared} {env : Env} {e : Expr} {scope : Scope} {pos : Pos} {newAcc first : Sem Value} {g : Comprehension} {gs : List Comprehension} {cl : List (Str × Addr)} {Q : Value → Shared → Prop}
    (hcl : clausesOf e = g :: gs) (hs : ∀ x, foldedSetIterable g.iter env x = pure x) (hclos : closureFor scope env = pure cl)
    (hkind : scope.kind = .function) (hnames : ∀ x ∈ scope.names, x.2 = .local → scope.names.lookup x.1 = some .local)
    (h : wpAny M A first (fun x s₁ => wpAny M A (pyIter x) (fun it s₂ => wpAny M A newAcc (fun acc s₃ =>
      wpAny M A (newFunctionEnv scope env.globals cl [] env.qual none .none (some env)) (fun cenv s₄ =>
        codeAny M A (.compStart e 0 it acc { cenv with scope := relabel scope env }) (postX M A E Q acc { cenv with scope := relabel scope env }) s₄) E s₃) E s₂) E s₁) E s) :
    wpAny M A (comprehension e scope env pos newAcc false first none) Q E s := by
  unfold comprehension
  rw [hclos, hcl]
  have same : ∀ {α : Type} {m : Sem α} {P P' : α → Shared → Prop} {t : Shared}, wpAny M A m P E t → (∀ a t', P a t' → P' a t') → wpAny M A m P' E t := fun h1 h2 => wpAny_mono h1 h2 fun _ _ y => y
  refine wpAny_bind (same h fun x s₁ h₁ => wpAny_bind (wpAny_standAt (wpAny_bind (wpAny_of_eq (hs x) (wpAny_bind (wpAny_holding (same h₁ fun it s₂ h₂ =>
    wpAny_standIf (wpAny_bind (same h₂ fun acc s₃ h₃ => wpAny_bind (wpAny_pure (wpAny_bind (same h₃ fun cenv s₄ h₄ => ?_))))))))))))
  dsimp only
  have hv : ∀ x ∈ (scope.names.filter fun x => (x.2 == .local || x.2 == .cell) && x.1 != (".0" : Str)).reverse, x.2 = .local →
      Env.kindOf { cenv with scope := relabel scope env } x.1 = some .local := fun x hx hl => lookup_relabel_local (hnames x (List.mem_filter.mp (List.mem_reverse.mp hx)).1 hl)
  refine wpAny_holding (wpAny_bind (wpAny_attempt (wpAny_holding (wpAny_run (codeAny_mono h₄ fun r s' hr => ?_)))))
  cases r with
  | ok f =>
    obtain ⟨m, hn, hr⟩ := hr
    exact wpAny_bind (wpAny_holding (wpAny_comp_letGo (cenv := { cenv with scope := relabel scope env }) hkind _ s' m hv hn fun h' _ _ z => wpAny_pure (hr h' z)))
  | error x =>
    obtain ⟨m, hn, hr⟩ := hr
    exact wpAny_bind (wpAny_holding (wpAny_comp_letGo (cenv := { cenv with scope := relabel scope env }) hkind _ s' m hv hn fun h' _ _ z => wpAny_mono (hr h' z) (fun _ _ f => f.elim) fun _ _ y => y))
section
variable {M : Model} {A : Around} {E : Value → Shared → Prop} {s : Shared} {B : Heap} {l : List Env} {e L : Addr} {cls a0 : Value}
theorem setFlight_held {Q : Unit → Shared → Prop} (x : Heap.HeldW B l e cls a0 L s.heap) (h : ∀ h', Heap.HeldW B l e cls a0 L h' → s.heap.UpToSlots h' → Q () { s with heap := h' }) :
    wpAny M A (setFlight (.ref e) (some L)) Q E s := by
  obtain ⟨st, en, ff, oe, vs, T, oT, ts, he, hc, hd, h1, nT, Te, hT, hdT, h3⟩ := x
  have sz := (Array.getElem?_eq_some_iff.mp h3).1
  have oth : ∀ b, b ≠ T → (s.heap.update T (Obj.mapFields (·.setIfInBounds 3 ((some L).elim Value.none fun f => rawInt f)))).get? b = s.heap.get? b := fun b hb => Heap.get?_update_other _ _ (Ne.symm hb)
  have nr : ∀ b o, s.heap.get? b = some o → (∀ vs, o.data ≠ .fields vs) → b ≠ T := fun b o hb hnf q => by
    rw [q, hT] at hb; cases hb; exact hnf ts hdT
  unfold setFlight
  refine wpAny_bind (wpAny_field he hd h1 ?_)
  rw [if_pos (show (Value.ref T != Value.none) = true from by simp)]
  refine wpAny_setField hT hdT sz (h _ ⟨fun b o z => (oth b fun q => by rw [q, nT] at z; cases z).trans (st b o z), en, ff.of_keeps fun b o hb hnf => ⟨o, (oth b (nr b o hb hnf)).trans hb, rfl⟩, ?_⟩ fun b o hb hnf => ⟨o.slots, (oth b (nr b o hb hnf)).trans hb⟩)
  exact ⟨oe, vs, T, _, _, (oth e (Ne.symm Te)).trans he, hc, hd, h1, nT, Te, Heap.get?_update_self _ hT (Obj.isFreed_of_fields (Obj.data_mapFields hdT _)), Obj.data_mapFields hdT _, by simp [sz]⟩
theorem pass_held {α : Type} {what : String} {cenv : Env} {Q : α → Shared → Prop} (hf : cenv.frame = some L) (x : Heap.HeldW B l e cls a0 L s.heap) (h : ∀ h', Heap.HeldW B l e cls a0 L h' → s.heap.UpToSlots h' → E (.ref e) { s with heap := h' }) :
    wpAny M A (passOn what (.ref e) cenv : Sem α) Q E s := by
  have y := x
  obtain ⟨st, en, ff, oe, vs, T, oT, ts, he, hc, hd, h1, nT, Te, hT, hdT, h3⟩ := y
  unfold PySem.passOn
  refine wpAny_bind (wpAny_field he hd h1 ?_)
  rw [if_neg (show ¬ ((Value.ref T == Value.none) = true) from by simp), hf]
  exact wpAny_bind (setFlight_held x fun h' y up => wpAny_throw (h h' y up))
theorem leave_held {env : Env} {outer : List Env} {Q : Unit → Shared → Prop} (hf : env.frame = some L) (x : Heap.HeldW B (env :: outer) e cls a0 L s.heap)
    (h : ∀ h', Heap.FlyingW B outer e cls a0 h' → s.heap.UpToSlots h' → Q () { s with heap := h' }) : wpAny M A (leaving env (.ref e)) Q E s := by
  unfold leaving
  refine wpAny_bind (wpAny_noteFrame_againW hf x.2.2.2 (wpAny_landsW x fun h' fl up => ?_))
  obtain ⟨k1, k2, ⟨_, _, k3⟩, k4⟩ := fl
  exact h h' ⟨k1, k2, k3, k4⟩ up
end
theorem funFrames_but {h h' B : Heap} {C : Addr} (k : Heap.SameBut C h h') : ∀ {l : List Env}, C ∉ frs l → h.FunFrames B l → h'.FunFrames B l
  | [], _, _ => trivial
  | env :: l, hC, ⟨hk, ⟨L, o, hf, hn, ho, hd⟩, hr⟩ => by
    have e1 : frs (env :: l) = L :: frs l := by unfold frs; rw [List.filterMap_cons, hf]
    rw [e1] at hC
    exact ⟨hk, ⟨L, o, hf, hn, (k.2 L fun z => hC (by simp [z])).trans ho, hd⟩, funFrames_but k (fun z => hC (by simp [z])) hr⟩
theorem held_but {h h' B : Heap} {C e L : Addr} {l : List Env} {cls a0 : Value} {m : Str → Option Value} (k : Heap.SameBut C h h') (hC : C ∉ frs l) (hn : h.Ns C m) (x : Heap.HeldW B l e cls a0 L h) :
    Heap.HeldW (PySem.W.hideAll B [C]) l e cls a0 L h' := by
  have x' := PySem.W.heldW_base (base := PySem.W.hideAll B [C]) (fun b o q => PySem.W.of_hideAll _ q) x
  obtain ⟨st, en, ff, oe, vs, T, oT, ts, he, hc, hd, h1, nT, Te, hT, hdT, h3⟩ := x'
  obtain ⟨o, es, ep, ho, od, _⟩ := hn
  have nC : ∀ b u ws, h.get? b = some u → u.data = .fields ws → b ≠ C := fun b u ws q d z => by
    rw [z, ho] at q; cases q; rw [od] at d; cases d
  refine ⟨fun b u q => (k.2 b fun z => ?_).trans (st b u q), en, funFrames_but k hC ff, oe, vs, T, oT, ts, (k.2 e (nC e oe vs he hd)).trans he, hc, hd, h1, nT, Te, (k.2 T (nC T oT ts hT hdT)).trans hT, hdT, h3⟩
  rw [z, PySem.W.hideAll_none [C] (by simp)] at q
  cases q
section
variable {X : Cx} {E : XK} {N' : List Str} {scope : Scope} {cl : List (Str × Addr)} {pins0 : List (Addr × Obj)} {σ0 : St} {H3 : Hp} {s3 : Shared} {fp : List Addr} {Q : Value → Shared → Prop} {acc : Value}
theorem comp_pass (dx : DefCx X) (hxe : ∀ e s', wpAny (model X.prog X.w) X.A (leaving X.env e) (fun _ s2 => CXX X.prog X.w X.outer X.H₀ X.s₀ E e s2) (fun e' s2 => CXX X.prog X.w X.outer X.H₀ X.s₀ E e' s2) s' → X.xe e s')
    (I3 : Inv X pins0 σ0 H3 s3) (hfp : ∀ b ∈ fp, FpOk X pins0 H3 b) {C : Addr} (hC : C = s3.heap.objs.size) :
    Passes (CXX X.prog X.w) ((cxComp X N' scope cl C s3 H3 fp).wish (notedBy (model X.prog X.w) X.A (compEnvC scope cl C X.env) fun e s' => postX (model X.prog X.w) X.A X.xe Q acc (compEnvC scope cl C X.env) (.error e) s')) E := by
  intro pins σ H s e s' I h
  obtain ⟨a, cls, H', rfl, os, bare, un, hok, ⟨B, t, fw, ne, hn, kB⟩, q⟩ := h
  have fl : X.env.frame = some X.env.locals := dx.fr
  have nofp : ∀ b o, X.s₀.heap.get? b = some o → b ∉ fp := fun b o e1 z => by
    rcases (hfp b z).2.2.2.1 with y | y
    · rw [dx.ex] at y; cases y
    · exact absurd (Nat.lt_of_lt_of_le (Heap.lt_size e1) y) (Nat.lt_irrefl _)
  have thr : ∀ b o, X.s₀.heap.get? b = some o → ∃ o', s.heap.get? b = some o' := fun b o e1 => by
    obtain ⟨o1, e2⟩ := I3.base.there b o e1 (by rw [dx.ex]; simp)
    exact I.base.there b o1 e2 (nofp b o e1)
  have I1 : Inv ((cxComp X N' scope cl C s3 H3 fp).wish (notedBy (model X.prog X.w) X.A (compEnvC scope cl C X.env) fun e s' => postX (model X.prog X.w) X.A X.xe Q acc (compEnvC scope cl C X.env) (.error e) s')) pins σ H' s' :=
    I.call' (ch := []) os un hok bare (fun b z => absurd z (by simp))
  have sf : ∀ b ∈ frs X.stack, H' b = none := I1.stkFree
  have fw' : Heap.FlyingW B (X.env :: X.outer) a cls (.ref t) s'.heap := by rw [← dx.st]; exact fw
  show wpAny (model X.prog X.w) X.A (noteFrame (.ref a) X.env) _ _ s'
  refine wpAny_looks_onW (L := X.env.locals) (by rw [I3.ok.frames, dx.st]) fl fw' fun h1 hw up => ?_
  have hw' : Heap.HeldW B X.stack a cls (.ref t) X.env.locals h1 := by rw [dx.st]; exact hw
  obtain ⟨un1, hok1⟩ := fly_keeps (h5 := h1) un hok kB fw.2.2.1 (fun b hb => hb) (fun b hb hb' => absurd hb hb') sf hw.1 up
  have I2 : Inv ((cxComp X N' scope cl C s3 H3 fp).wish (notedBy (model X.prog X.w) X.A (compEnvC scope cl C X.env) fun e s' => postX (model X.prog X.w) X.A X.xe Q acc (compEnvC scope cl C X.env) (.error e) s')) pins σ H' { s' with heap := h1 } :=
    I.call' (s' := { s' with heap := h1 }) (ch := []) os un1 hok1 bare (fun b z => absurd z (by simp))
  obtain ⟨m, ns, _⟩ := id I2.loc
  have ns' : h1.Ns C m := ns
  have u2 : Un (frs X.stack) fp H3 H' s3.heap h1 := I2.base
  have fC : H' C = none := I2.free
  have I4 : Inv X pins0 σ0 H' { s' with heap := h1 } := I3.call' (s' := { s' with heap := h1 }) (ch := fp) I2.os u2 I2.hok I2.bare (fun b hb => ⟨(hfp b hb).2.2.2.1, (hfp b hb).2.1, (hfp b hb).2.2.2.2.1, (hfp b hb).2.2.2.2.2⟩)
  have okC : FpOk X pins0 H' C := I3.fpOk (Nat.le_of_eq hC.symm) fC
  have nC : C ∉ frs X.stack := fun z => by
    rcases List.mem_cons.mp (I4.stkSub C z) with y | y
    · exact okC.2.1 y
    · exact okC.2.2.1 y
  refine ⟨m, ns', fun h2 sb => ?_⟩
  have I5 : Inv X pins0 σ0 H' { s' with heap := h2 } := Inv.turned (s := { s' with heap := h1 }) (it := C) (t' := s'.toks) I4 (fun b o hb e => (sb.2 b hb).trans e) okC.1 okC.2.1 okC.2.2.2.1 okC.2.2.2.2.1 okC.2.2.2.2.2
  refine pass_held (L := X.env.locals) fl (held_but sb nC ns' hw') fun h3 hw3 up3 => hxe _ _ ?_
  have hw3' : Heap.HeldW (PySem.W.hideAll B [C]) (X.env :: X.outer) a cls (.ref t) X.env.locals h3 := by rw [← dx.st]; exact hw3
  refine leave_held (s := { s' with heap := h3 }) fl hw3' fun h4 fw4 up4 => ?_
  have n1 : X.s₀.heap.get? a = none := by
    cases z : X.s₀.heap.get? a with
    | none => rfl
    | some o =>
      obtain ⟨o', y⟩ := thr a o z
      rw [ne] at y; cases y
  refine fly_out (s := { s' with heap := h2 }) dx I5 (fun b o e1 hz hb => ?_) fw4 (up3.trans up4) n1 hn q
  have bC : b ≠ C := fun z => by
    subst z
    rcases hz with ⟨o', y⟩ | ⟨u, y⟩
    · rcases okC.2.2.2.1 with w | w
      · rw [dx.ex] at w; cases w
      · exact absurd (Nat.lt_of_lt_of_le (Heap.lt_size y) w) (Nat.lt_irrefl _)
    · rw [fC] at y; cases y
  have e2 : h1.get? b = some o := (sb.2 b bC).symm.trans e1
  have hz' : (∃ o', s.heap.get? b = some o') ∨ ∃ u, H' b = some u := hz.imp (fun ⟨o', y⟩ => thr b o' y) id
  have th : ∃ o2, s'.heap.get? b = some o2 := by
    rcases hz' with ⟨o', y⟩ | ⟨u, y⟩
    · exact un.there b o' y (by simp)
    · exact (hok b u y).there
  obtain ⟨o2, e3⟩ := th
  have e4 := kB b o2 e3 hz' hb
  have e5 := hw.1 b o2 e4
  rw [e2] at e5
  cases e5
  exact PySem.W.hideAll_get [C] e4 (by simpa using bC)
end
section
variable {X : Cx} {E : XK} {elt iter tg : Expr} {ifs : List Expr} {xs : List Str} {pos : Pos} {scope : Scope} {cl : List (Str × Addr)} {ts : List (Str × Nat)} {wi : TI} {te : TE} {g : TG} {tt : TT}
theorem pe_compX (dx : DefCx X) (hxe : ∀ e s', wpAny (model X.prog X.w) X.A (leaving X.env e) (fun _ s2 => CXX X.prog X.w X.outer X.H₀ X.s₀ E e s2) (fun e' s2 => CXX X.prog X.w X.outer X.H₀ X.s₀ E e' s2) s' → X.xe e s')
    (hc : X.calm = true) (O : CompOkL X xs ts scope cl) (hi : PI X tg iter wi) (hg : ∀ C s3 H3 fp, PG (cxComp X (nmsL xs ts) scope cl C s3 H3 fp) tg g)
    (ht : ∀ C s3 H3 fp, PIf (cxComp X (nmsL xs ts) scope cl C s3 H3 fp) ifs tt)
    (he : ∀ C s3 H3 fp xe, Passes (CXX X.prog X.w) ((cxComp X (nmsL xs ts) scope cl C s3 H3 fp).wish xe) E → PE ((cxComp X (nmsL xs ts) scope cl C s3 H3 fp).wish xe) elt te)
    (hs : ∀ x, foldedSetIterable iter X.env x = pure x := by intro _; rfl) : PE X (.ListComp elt [⟨tg, iter, ifs, 0⟩] scope pos) (tCompG wi g tt xs.length (sltOf ts) te) := by
  intro pins s σ H Q I h
  rw [eval_ListComp]
  refine comp_freeX rfl hs O.clos O.kind O.locs' (thn (hi pins s σ H _ I h) fun v s1 h1 => thn h1 fun itv s2 h2 => ?_)
  obtain ⟨it, fp, tn, J, H2, rfl, I2, T, st2, f2, q⟩ := h2
  have hD : H2 s2.heap.objs.size = none := I2.hok.fresh (Nat.le_refl _)
  obtain ⟨W, ⟨m0, w0⟩, turn⟩ := q s2.heap.objs.size hD
  refine wpAny_newObj_type ?_
  have I3 : Inv X pins σ (upd H2 s2.heap.objs.size (.lst [])) { s2 with heap := s2.heap.push { cls := .type "list", dict := none, data := .seq ([] : List Value).toArray } } :=
    I2.laid (a := s2.heap.objs.size) (o := .lst []) (t' := s2.toks) (fun b u e => Heap.get?_push_of_some _ e) (Nat.le_refl _) ⟨Nat.zero_le _, [], 0, .nil, Heap.get?_push_size _ rfl⟩
  generalize hs3 : ({ s2 with heap := s2.heap.push { cls := .type "list", dict := none, data := .seq ([] : List Value).toArray } } : Shared) = s3 at I3
  have sz3 : s3.heap.objs.size = s2.heap.objs.size + 1 := by rw [← hs3, Heap.size_push]
  have old3 : ∀ b u, s2.heap.get? b = some u → s3.heap.get? b = some u := fun b u e => by rw [← hs3]; exact Heap.get?_push_of_some _ e
  generalize hH3 : upd H2 s2.heap.objs.size (.lst []) = H3 at I3 w0
  have fp2 : ∀ b ∈ fp, b < s2.heap.objs.size := fun b hb => by
    obtain ⟨o, e, _⟩ := T.obj _ _ st2 b hb
    exact Heap.lt_size e
  have hfp : ∀ b ∈ fp, FpOk X pins H3 b ∧ b < s3.heap.objs.size := fun b hb => by
    refine ⟨⟨?_, (f2 b hb).2⟩, by rw [sz3]; exact Nat.lt_succ_of_lt (fp2 b hb)⟩
    rw [← hH3, upd_ne (Nat.ne_of_lt (fp2 b hb))]
    exact (f2 b hb).1
  refine wpAny_newFunctionEnv O.nocell' (by intro y hy; simp at hy) (fun h₁ hns₁ hsb₁ => ?_) O.kind
  have old : ∀ b o, s3.heap.get? b = some o → h₁.get? b = some o := fun b o e => hsb₁.extBut b o (Nat.ne_of_lt (Heap.lt_size e)) (Heap.get?_push_of_some _ e)
  have start : Inv (cxComp X (nmsL xs ts) scope cl s3.heap.objs.size s3 H3 fp) [] (List.replicate xs.length none ++ taken σ (sltOf ts)) H3 { s3 with heap := h₁, toks := s3.toks + 0 } := compL_start O I3 hfp hns₁ old
  have st4 : tn 0 h₁ := T.keep _ _ _ st2 fun b hb o e => old b o (old3 b o e)
  have okX : ∀ {H' : Hp}, (∀ b ∈ fp, H' b = none) → ∀ b ∈ fp, FpOk (cxComp X (nmsL xs ts) scope cl s3.heap.objs.size s3 H3 fp) [] H' b := fun hn b hb => by
    refine ⟨hn b hb, Nat.ne_of_lt (hfp b hb).2, fun z => ?_, .inl hb, fun y c e => (f2 b hb).2.2.2.2.1 y c (O.sub y c e), fun p hp => absurd (show p ∈ ([] : List (Addr × Obj)) from hp) (by simp)⟩
    rcases List.mem_cons.mp (I3.stkSub b z) with e | e
    · exact (f2 b hb).2.1 e
    · exact (f2 b hb).2.2.1 e
  have loop : ∀ s₄ : Shared, s₄ = { s3 with heap := h₁, toks := s3.toks + 0 } →
      codeAny (model X.prog X.w) X.A (.compLoop (.ListComp elt [⟨tg, iter, ifs, 0⟩] scope pos) 0 (.ref it) (.ref s2.heap.objs.size) (compEnvC scope cl s3.heap.objs.size X.env))
        (postX (model X.prog X.w) X.A X.xe (EP X pins σ Q) (.ref s2.heap.objs.size) (compEnvC scope cl s3.heap.objs.size X.env)) s₄ := by
    rintro s₄ rfl
    refine compLoop_ifsX (fun n s' => ∃ i ys σ0 H', σ0.length = xs.length ∧ Inv (cxComp X (nmsL xs ts) scope cl s3.heap.objs.size s3 H3 fp) [] (σ0 ++ taken σ (sltOf ts)) H' s' ∧ tn i s'.heap ∧ (∀ b ∈ fp, H' b = none) ∧ W i n ys H') ?_ m0
      ⟨0, [], _, H3, by simp, start, st4, fun b hb => (hfp b hb).1.1, w0⟩
    rintro n s5 ⟨i, ys, σ0, H5, l0, I5, st5, fr5, w5⟩
    rcases turn i n ys H5 w5 with ⟨stop, qn⟩ | ⟨go, step⟩
    · refine thn (T.done (cxComp X (nmsL xs ts) scope cl s3.heap.objs.size s3 H3 fp) rfl rfl rfl hc i [] s5 (σ0 ++ taken σ (sltOf ts)) H5 _ I5 (okX fr5) st5 stop) fun r s6 ⟨hr, I6⟩ => ?_
      subst hr
      obtain ⟨m, hn, _⟩ := id I6.loc
      have u6 : Un (frs X.stack) fp H3 H5 s3.heap s6.heap := I6.base
      have fC : H5 s3.heap.objs.size = none := I6.free
      have J6 : Inv X pins σ H5 s6 := I3.call' (s' := s6) (ch := fp) I6.os u6 I6.hok I6.bare (fun b hb => ⟨(f2 b hb).2.2.2.1, (f2 b hb).2.1, (f2 b hb).2.2.2.2.1, (f2 b hb).2.2.2.2.2⟩)
      have oC : FpOk X pins H5 s3.heap.objs.size := I3.fpOk (Nat.le_refl _) fC
      exact ⟨m, hn, fun h' sb => ⟨.ref s2.heap.objs.size, H5, J6.turned (it := s3.heap.objs.size) (t' := s6.toks) (fun b o hb e => (sb.2 b hb).trans e) oC.1 oC.2.1 oC.2.2.2.1 oC.2.2.2.2.1 oC.2.2.2.2.2, rfl, qn⟩⟩
    · refine thn (T.item (cxComp X (nmsL xs ts) scope cl s3.heap.objs.size s3 H3 fp) rfl rfl rfl hc i [] s5 (σ0 ++ taken σ (sltOf ts)) H5 _ I5 (okX fr5) st5 go) fun r s6 ⟨u, hr, h6⟩ => ?_
      subst hr
      refine thn h6 fun _ s7 ⟨z, H7, I7, rz, yz, st7, fr7⟩ => ?_
      have I7' := I7.pinned (okX fr7) (T.obj _ _ st7)
      refine thn (hg s3.heap.objs.size s3 H3 fp _ s7 _ H7 z u _ I7' rz (step z H7 σ0 yz l0)) fun _ s8 ⟨σ8, H8, I8, ⟨σ1, l1, e8⟩, q8⟩ => ?_
      subst e8
      refine thn (ht s3.heap.objs.size s3 H3 fp _ s8 _ H8 _ I8 q8) fun b s9 ⟨H9, I9, q9⟩ => ?_
      cases b with
      | true =>
        rw [if_pos rfl] at q9 ⊢
        have hx := comp_pass (E := E) (N' := nmsL xs ts) (scope := scope) (cl := cl) (Q := EP X pins σ Q) (acc := .ref s2.heap.objs.size) dx hxe I3 (fun b hb => (hfp b hb).1) rfl
        refine wpAny_mono (he s3.heap.objs.size s3 H3 fp _ hx _ s9 _ H9 _ (I9.wish _) q9) (fun y s10 ⟨vy, H10, I10', ry, hD9, hl9, m', hm', w9⟩ => ?_) fun _ _ z => z
        have I10 := I10'.unwish
        refine thn (mt_append (X := cxComp X (nmsL xs ts) scope cl s3.heap.objs.size s3 H3 fp) _ s10 _ H10 (.ref s2.heap.objs.size) [vy] (.ref s2.heap.objs.size) [y] (fun _ H11 => H11 = upd H10 s2.heap.objs.size (.lst (ys ++ [vy]))) I10 rfl (.cons ry .nil) ⟨_, ys, vy, rfl, rfl, hD9, hl9, rfl⟩) fun _ s11 ⟨_, H11, I11, _, e11⟩ => ?_
        subst e11
        refine ⟨m', hm', i + 1, ys ++ [vy], σ1, _, l1, I11.unpinned, T.keep _ _ _ st7 fun b hb o e => (I11.pin (b, o) (List.mem_append_right _ (List.mem_append_right _ (mem_pinsAt hb e)))).1, fun b hb => ?_, w9⟩
        obtain ⟨o, e, d⟩ := T.obj _ _ st7 b hb
        exact (I11.pin (b, o) (List.mem_append_right _ (List.mem_append_right _ (mem_pinsAt hb e)))).2.1
      | false =>
        rw [if_neg Bool.false_ne_true] at q9 ⊢
        obtain ⟨m', hm', w9⟩ := q9
        refine ⟨m', hm', i + 1, ys, σ1, _, l1, I9.unpinned, T.keep _ _ _ st7 fun b hb o e => (I9.pin (b, o) (List.mem_append_right _ (List.mem_append_right _ (mem_pinsAt hb e)))).1, fun b hb => ?_, w9⟩
        obtain ⟨o, e, d⟩ := T.obj _ _ st7 b hb
        exact (I9.pin (b, o) (List.mem_append_right _ (List.mem_append_right _ (mem_pinsAt hb e)))).2.1
  have hst := codeAny_compStart_list (loop _ rfl) (T.self X.A 0 _ _ _ st4 (loop _ rfl))
  exact hst
end
section
open PySem.W
variable {X : Cx}
end
theorem comp_tupRG {K : PySem.W.Frag} {a : Addr} {xs : List V} {te : TE} {st : St} {H1 : Hp} {Q : VK} {D : Addr} (R : Nat → List V → Hp → Prop) (hD : H1 D = none) (q1 : SqT K H1 a xs) (hn : xs.length ≤ sizeLine) (h0 : R 0 [] (upd H1 D (.lst [])))
    (hs : ∀ (i : Nat) (x : V) (ys : List V) (H2 : Hp) (k : VK), xs[i]? = some x → Same H1 H2 → H2 D = some (.lst ys) → ys.length = i → R i ys H2 → (∀ y H4, Same H2 H4 → R (i + 1) (ys ++ [y]) (upd H4 D (.lst (ys ++ [y]))) → k y H4) → te (some x :: st) H2 k)
    (hd : ∀ ys H2, Same H1 H2 → H2 D = some (.lst ys) → ys.length = xs.length → R xs.length ys H2 → Q (.ref D) H2) : CompG (Itt K a) (gName 0) tYes te 1 st D H1 Q := by
  refine ⟨fun i m ys H2 => m = xs.length - i ∧ i ≤ xs.length ∧ ys.length = i ∧ Same H1 H2 ∧ H2 D = some (.lst ys) ∧ R i ys H2, ⟨xs.length, by simp, Nat.zero_le _, rfl, same_upd (Same.refl H1) hD, upd_same, h0⟩, ?_⟩
  rintro i m ys H2 ⟨rfl, hi, hl, sm, e, r⟩
  by_cases hlt : i < xs.length
  · have ex : xs[i]? = some xs[i] := List.getElem?_eq_getElem hlt
    refine .inr ⟨⟨xs, _, sm.tup q1, ex⟩, ?_⟩
    rintro x H3 σ0 ⟨rfl, hx⟩ l0
    have hx' := hx xs (sm.tup q1)
    obtain ⟨a', rfl⟩ : ∃ a, σ0 = [a] := by
      match σ0, l0 with
      | [a], _ => exact ⟨a, rfl⟩
    refine ⟨⟨[some x], rfl, rfl⟩, ?_⟩
    exact hs i x ys _ _ hx' sm e hl r fun y H4 s4 r4 => ⟨s4 _ _ e, by omega, xs.length - (i + 1), by omega, rfl, hlt, by simp [hl], same_upd (sm.trans s4) hD, upd_same, r4⟩
  · have ei : i = xs.length := by omega
    subst ei
    exact .inl ⟨⟨xs, sm.tup q1, Nat.le_refl _⟩, hd ys H2 sm e hl r⟩
noncomputable abbrev SeqAt2 (H : Hp) (a : Addr) (xs : List V) : Prop := H a = some (.lst xs) ∨ H a = some (.tup xs)
theorem SeqAt2.keep {H H' : Hp} {a : Addr} {xs : List V} (h : SeqAt2 H a xs) (s : Same H H') : SeqAt2 H' a xs := h.imp (s _ _) (s _ _)
theorem SeqAt2.sq {K : PySem.W.Frag} {H : Hp} {a : Addr} {xs : List V} (h : SeqAt2 H a xs) : SqL K H a xs ∨ SqT K H a xs := h.imp SqL.of SqT.of
theorem SeqAt2.ix {K : PySem.W.Frag} {H : Hp} {a : Addr} {xs : List V} {i : Int} {v : V} {Q : VK} (h : SeqAt2 H a xs) (e : atI xs i = some v) (q : Q v H) : rIx K (.ref a) (.int i) H Q := by
  rcases h with h | h
  · exact .inl ⟨a, xs, i, v, rfl, rfl, SqL.of h, e, q⟩
  · exact .inr (.inl ⟨a, xs, i, v, rfl, rfl, SqT.of h, e, q⟩)
theorem seq_comp {K : PySem.W.Frag} {a : Addr} {xs : List V} {te : TE} {st : St} {H1 : Hp} {Q : VK} (hq : SeqAt2 H1 a xs) (hn : xs.length ≤ sizeLine) (R : Addr → Nat → List V → Hp → Prop)
    (h0 : ∀ D, H1 D = none → R D 0 [] (upd H1 D (.lst [])))
    (hs : ∀ (D : Addr) (i : Nat) (x : V) (ys : List V) (H2 : Hp) (k : VK), H1 D = none → xs[i]? = some x → Same H1 H2 → H2 D = some (.lst ys) → ys.length = i → R D i ys H2 → (∀ y H4, Same H2 H4 → R D (i + 1) (ys ++ [y]) (upd H4 D (.lst (ys ++ [y]))) → k y H4) → te (some x :: st) H2 k)
    (hd : ∀ D ys H2, H1 D = none → Same H1 H2 → H2 D = some (.lst ys) → ys.length = xs.length → R D xs.length ys H2 → Q (.ref D) H2) :
    (SqL K H1 a xs ∧ ∀ D, H1 D = none → CompG (Itl K a) (gName 0) tYes te 1 st D H1 Q) ∨ (SqT K H1 a xs ∧ ∀ D, H1 D = none → CompG (Itt K a) (gName 0) tYes te 1 st D H1 Q) := by
  rcases hq with h | h
  · exact .inl ⟨SqL.of h, fun D hD => comp_listRG (R D) hD (SqL.of h) hn (h0 D hD) (fun i x ys H2 k a1 a2 a3 a4 a5 => hs D i x ys H2 k hD a1 a2 a3 a4 a5) fun ys H2 => hd D ys H2 hD⟩
  · exact .inr ⟨SqT.of h, fun D hD => comp_tupRG (R D) hD (SqT.of h) hn (h0 D hD) (fun i x ys H2 k a1 a2 a3 a4 a5 => hs D i x ys H2 k hD a1 a2 a3 a4 a5) fun ys H2 => hd D ys H2 hD⟩
end L2
set_option maxHeartbeats 4000000
namespace L2
open PySem PySem.Spec PyProof.Rows PySem.W Gc
section
variable {prog : Program} {w : World} {A : Around} {E : Value → Shared → Prop} {s : Shared}
end
section
variable {X : Cx}
end
end L2
set_option maxHeartbeats 4000000
namespace L2
open PySem PySem.Spec PyProof.Rows
noncomputable def ET0 (K : PySem.W.Frag) (CS : Addr) (ts : Addr → Obj → TS) (D : Ends) : St → XK := fun σ cls _ H =>
  PySem.W.subIn K cls (.ref CS) = some true ∧ ∀ e oe, H e = none → oe.cls = cls → ts e oe D σ H
noncomputable def tTry0 (K : PySem.W.Frag) (CS : Addr) (tb : (St → XK) → TS) (ts : Addr → Obj → TS) : TS := fun D σ H => tb (ET0 K CS ts D) D σ H
theorem ps_try0 {X : Cx} {body : List Stmt} {b0 : Stmt} {suite : List Stmt} {S : Str} {np hpos pos : Pos} {CS : Addr} {tb : (St → XK) → TS} {ts : Addr → Obj → TS} (dx : DefCx X)
    (hg : Gl X S) (hm : X.mg S = some (.ref CS)) (ca : Catch X.K CS)
    (hb : ∀ (xe : Value → Shared → Prop) (pn : List (Addr × Obj)) (E : St → XK), PassesS (CXX X.prog X.w) (X.tried xe pn) E → PSs (X.tried xe pn) body (tb E))
    (hs : ∀ (e : Addr) (oe : Obj), PSs (X.held e oe) (b0 :: suite) (ts e oe)) (hdb : (S == ("__debug__" : Str)) = false := by decide) :
    PS X (.Try body [.ExceptHandler (some (.Name S np)) none (b0 :: suite) hpos] [] [] pos) (tTry0 X.K CS tb ts) := by
  intro pins s σ H D I h
  have pass : PassesS (CXX X.prog X.w) (X.tried (fun e s1 => wpAny (model X.prog X.w) X.A (noteFrame e X.env) (fun _ s2 => wpAny (model X.prog X.w) X.A (setFlight e none) (fun _ s3 =>
      wpAny (model X.prog X.w) X.A (handleBy e X.env [.ExceptHandler (some (.Name S np)) none (b0 :: suite) hpos]) (SP X pins D) X.xe s3) X.xe s2) X.xe s1) pins) (ET0 X.K CS ts D) := by
    intro pins' σ' H1 s1 e s' I' hx
    obtain ⟨a, cls, H', rfl, os, bare, un, hok, ⟨B, t, fw, ne, hn, kB⟩, hk, q⟩ := hx
    have J : Inv X pins σ' H1 s1 := I'.untried
    have hu : ∀ b ∈ frs X.stack, H' b = none := fun b z => by
      obtain ⟨_, o, e0, _⟩ := J.stack.mem z
      exact un.free b o e0 (J.stkFree b z) (by simp)
    have keep5 : ∀ h5 : Heap, B.StaysIn h5 → s'.heap.UpToSlots h5 → Un (frs X.stack) [] H1 H' s1.heap h5 ∧ HOk X.prog X.w H' h5 := fun h5 st up =>
      fly_keeps un hok kB fw.2.2.1 (fun _ z => z) (fun b z nz => absurd z nz) hu st up
    have inv5 : ∀ h5 : Heap, B.StaysIn h5 → s'.heap.UpToSlots h5 → Inv X pins σ' H' { s' with heap := h5 } := fun h5 st up =>
      J.call' (s' := { s' with heap := h5 }) (ch := []) os (keep5 h5 st up).1 (keep5 h5 st up).2 bare (fun b z => absurd z (by simp))
    have neL : a ≠ X.env.locals := fun z => by
      obtain ⟨m, ⟨o, _, _, ho, _⟩, _⟩ := J.loc
      rw [← z, ne] at ho; cases ho
    have nfs : a ∉ X.fs := fun z => by
      obtain ⟨_, o, e0, _⟩ := J.funs.mem z
      rw [ne] at e0; cases e0
    have fw' : Heap.FlyingW B (X.env :: X.outer) a cls (.ref t) s'.heap := by rw [← dx.st]; exact fw
    show wpAny (model X.prog X.w) X.A (noteFrame (.ref a) X.env) _ X.xe s'
    refine wpAny_looks_onW (by rw [J.ok.frames, dx.st]) dx.fr fw' fun h4 held4 up4 => ?_
    refine wpAny_landsW held4 fun h5 fl5 up5 => ?_
    have up := up4.trans up5
    have J5 := inv5 h5 fl5.1 up
    obtain ⟨oe, vs, hoe, hoc, hod, _⟩ := fl5.first
    have K5 : Inv (X.held a oe) pins σ' H' { s' with heap := h5 } := J5.held hoe hn neL nfs (fun v z => by rw [hod] at z; cases z)
    refine wpAny_handleBy_cons (codeAny_handlers_test (ld_glob K5 hg hm ?_ hdb)) (by intro z; cases z)
    refine exc_matches K5.kIn hoe ca (by rw [hoc]; exact hk) ?_
    refine codeAny_handlers_suite ?_
    refine lands_againW fl5 fun h6 fl6 up6 => ?_
    have J6 := inv5 h6 fl6.1 (up.trans up6)
    obtain ⟨oe6, vs6, hoe6, hoc6, hod6, _⟩ := fl6.first
    have K6 : Inv (X.held a oe6) pins σ' H' { s' with heap := h6 } := J6.held hoe6 hn neL nfs (fun v z => by rw [hod6] at z; cases z)
    refine wpAny_mono (hs a oe6 pins _ _ H' D K6 (q a oe6 hn hoc6)) (fun f s8 h8 => ?_) (fun _ _ z => z.elim)
    cases f with
    | next =>
      obtain ⟨σ8, H8, I8, q8⟩ := h8
      exact ⟨_, _, I8.unheld I.ok.hd, q8⟩
    | brk =>
      obtain ⟨σ8, H8, I8, q8⟩ := h8
      exact ⟨_, _, I8.unheld I.ok.hd, q8⟩
    | cont =>
      obtain ⟨σ8, H8, I8, q8⟩ := h8
      exact ⟨_, _, I8.unheld I.ok.hd, q8⟩
    | ret u =>
      obtain ⟨v8, σ8, H8, I8, r8, q8⟩ := h8
      exact ⟨_, _, _, I8.unheld I.ok.hd, r8, q8⟩
  refine wpAny_Try_except (wpAny_mono (hb _ pins _ pass [] s σ H D I.tried h) (fun f s1 hf => ?_) fun e s1 he => he)
  cases f with
  | next =>
    obtain ⟨σ', H', J, q⟩ := hf
    exact wpAny_execs_nil ⟨σ', H', J.untried, q⟩
  | brk =>
    obtain ⟨σ', H', J, q⟩ := hf
    exact ⟨σ', H', J.untried, q⟩
  | cont =>
    obtain ⟨σ', H', J, q⟩ := hf
    exact ⟨σ', H', J.untried, q⟩
  | ret u =>
    obtain ⟨v, σ', H', J, r, q⟩ := hf
    exact ⟨v, σ', H', J.untried, r, q⟩
end L2
set_option maxHeartbeats 4000000
namespace L2
open PySem PySem.Spec PyProof.Rows PySem.W Gc
section
variable {prog : Program} {w : World} {A : Around} {E : Value → Shared → Prop} {s : Shared}
end
noncomputable def SIt (b : Bool) (h : Heap) (it t : Addr) (i : Nat) : Prop := match b with
  | true => h.IsTupleIter it t i
  | false => h.IsListIter it t i
noncomputable def SqH (b : Bool) (h : Heap) (t : Addr) (xs : Array Value) : Prop := match b with
  | true => h.IsTuple t xs
  | false => h.IsList t xs
noncomputable def SqB (b : Bool) (K : PySem.W.Frag) (H : Hp) (a : Addr) (xs : List V) : Prop := match b with
  | true => SqT K H a xs
  | false => SqL K H a xs
theorem SIt.at {b : Bool} {h h' : Heap} {it t : Addr} {i : Nat} (x : SIt b h it t i) (k : ∀ o, h.get? it = some o → h'.get? it = some o) : SIt b h' it t i := by
  cases b with
  | true => exact (show h.IsTupleIter it t i from x).at k
  | false =>
    obtain ⟨o, e1, e2⟩ := (show h.IsListIter it t i from x)
    exact ⟨o, k o e1, e2⟩
theorem SqB.keep {b : Bool} {K : PySem.W.Frag} {H H' : Hp} {a : Addr} {xs : List V} (h : SqB b K H a xs) (s : Same H H') : SqB b K H' a xs := by
  cases b with
  | true => exact s.tup h
  | false => exact s.seq h
section
variable {prog : Program} {w : World} {A : Around} {E : Value → Shared → Prop} {s : Shared}
noncomputable def sItO (b : Bool) (a : Addr) : Obj := match b with
  | true => { cls := .type "tuple_iterator", data := .fields #[.ref a, rawInt 0] }
  | false => { cls := .type "list_iterator", data := .fields #[.ref a, .int 0 0] }
end
end L2
set_option maxHeartbeats 4000000
namespace L2
open PySem PySem.Spec PyProof.Rows Gc
theorem SIt.extBut {b : Bool} {h h' : Heap} {it t : Addr} {i : Nat} {c : Addr} (x : SIt b h it t i) (k : Heap.ExtBut c h h') (ne : it ≠ c) : SIt b h' it t i := x.at fun o q => k it o ne q
theorem SqH.at' {b : Bool} {h h' : Heap} {t : Addr} {xs : Array Value} (x : SqH b h t xs) (k : ∀ o, h.get? t = some o → h'.get? t = some o) : SqH b h' t xs := by
  cases b with
  | true =>
    obtain ⟨o, e1, e2⟩ := (show h.IsTuple t xs from x)
    exact ⟨o, k o e1, e2⟩
  | false =>
    obtain ⟨o, e1, e2⟩ := (show h.IsList t xs from x)
    exact ⟨o, k o e1, e2⟩
theorem SqH.extBut {b : Bool} {h h' : Heap} {t : Addr} {xs : Array Value} {c : Addr} (x : SqH b h t xs) (k : Heap.ExtBut c h h') (ne : t ≠ c) : SqH b h' t xs := x.at' fun o q => k t o ne q
theorem SqH.push {b : Bool} {h : Heap} {t : Addr} {xs : Array Value} (x : SqH b h t xs) (o : Obj) : SqH b (h.push o) t xs := x.at' fun _ q => Heap.get?_push_of_some _ q
theorem SqH.lt {b : Bool} {h : Heap} {t : Addr} {xs : Array Value} (x : SqH b h t xs) : t < h.objs.size := by
  cases b with
  | true =>
    obtain ⟨o, e1, e2⟩ := (show h.IsTuple t xs from x)
    exact Heap.lt_size e1
  | false =>
    obtain ⟨o, e1, e2⟩ := (show h.IsList t xs from x)
    exact Heap.lt_size e1
theorem SIt.new {b : Bool} {h : Heap} {it a : Addr} (e : h.get? it = some (sItO b a)) : SIt b h it a 0 := by
  cases b with
  | true => exact ⟨_, e, rfl, rfl⟩
  | false => exact ⟨_, e, rfl, rfl⟩
section
variable {prog : Program} {w : World} {A : Around} {E : Value → Shared → Prop} {s : Shared}
end
end L2
set_option maxHeartbeats 4000000
namespace L2
open PySem PySem.Spec PyProof.Rows Gc
end L2
set_option maxHeartbeats 4000000
namespace L2
open PySem PySem.Spec PyProof.Rows Gc HT
section
variable {prog : Program} {w : World} {A : Around} {E : Value → Shared → Prop} {s : Shared}
end
section
variable {X : Cx}
end
end L2
set_option maxHeartbeats 4000000
namespace L2
open PySem PySem.Spec PyProof.Rows
section
variable {κ : Type} [DecidableEq κ]
noncomputable def valV (kvs : List (κ × V)) (k : κ) : Option V := (kvs.find? fun kv => decide (kv.1 = k)).map (·.2)
noncomputable def putK (kvs : List (κ × V)) (k : κ) (v : V) : List (κ × V) :=
  if (kvs.any fun kv => decide (kv.1 = k)) = true then kvs.map (fun kv => if kv.1 = k then (kv.1, v) else kv) else kvs ++ [(k, v)]
noncomputable def dropK (kvs : List (κ × V)) (k : κ) : List (κ × V) := kvs.filter fun kv => decide (kv.1 ≠ k)
theorem RelO.getD {o : Option V} {u : Option Value} {d : V} {d' : Value} (r : RelO o u) (rd : RelV d d') : RelV (o.getD d) (u.getD d') := by
  cases o with
  | none => cases u with
    | none => exact rd
    | some _ => exact (show False from r).elim
  | some _ => cases u with
    | none => exact (show False from r).elim
    | some _ => exact r
theorem KV.any {kvs : List (κ × V)} {vs : List (κ × Value)} (r : KV kvs vs) (k : κ) : (kvs.any fun kv => decide (kv.1 = k)) = vs.any fun kv => decide (kv.1 = k) := by
  unfold KV at r
  induction r with
  | nil => rfl
  | cons h t ih => rw [List.any_cons, List.any_cons, ih, h.1]
theorem KV.drop {kvs : List (κ × V)} {vs : List (κ × Value)} (r : KV kvs vs) (k : κ) : KV (dropK kvs k) (without vs k) := by
  unfold KV at r ⊢
  unfold dropK without
  induction r with
  | nil => exact .nil
  | @cons p q ps qs h t ih =>
    obtain ⟨h1, h2⟩ := h
    rw [List.filter_cons, List.filter_cons]
    by_cases e : p.1 = k
    · have a : ¬ decide (p.1 ≠ k) = true := by simp [e]
      have b : ¬ decide (q.1 ≠ k) = true := by simp [h1.symm.trans e]
      rw [if_neg a, if_neg b]; exact ih
    · have e' : ¬ q.1 = k := fun z => e (h1.trans z)
      have a : decide (p.1 ≠ k) = true := by simp [e]
      have b : decide (q.1 ≠ k) = true := by simp [e']
      rw [if_pos a, if_pos b]; exact .cons ⟨h1, h2⟩ ih
theorem KV.length {kvs : List (κ × V)} {vs : List (κ × Value)} (r : KV kvs vs) : kvs.length = vs.length := Paired.length r
end
noncomputable abbrev KT (H : Hp) : List (List Key × V) → List (List Key × Addr × Value) → Prop := Paired fun p q => p.1 = q.1 ∧ H q.2.1 = some (.tup (p.1.map kV)) ∧ RelV p.2 q.2.2
theorem KT.keeps {H H' : Hp} {kvs : List (List Key × V)} {xs : List (List Key × Addr × Value)} (r : KT H kvs xs) (ht : ∀ b ys, H b = some (.tup ys) → H' b = some (.tup ys)) : KT H' kvs xs :=
  Paired.mapP r fun _ _ z => ⟨z.1, ht _ _ z.2.1, z.2.2⟩
section
variable {P : Program} {w : World} {H : Hp} {h : Heap} {a : Addr}
end
noncomputable def DGet (H : Hp) (a : Addr) (y : V) (r : Option V) : Prop :=
  (∃ kvs k, Rd H a (.dK kvs) ∧ y = kV k ∧ r = valV kvs k) ∨ ∃ kvs k b, Rd H a (.dT kvs) ∧ y = .ref b ∧ H b = some (.tup (k.map kV)) ∧ r = valV kvs k
noncomputable def DPut (H : Hp) (a : Addr) (y v : V) (H' : Hp) : Prop :=
  (∃ kvs k, H a = some (.dK kvs) ∧ y = kV k ∧ kvs.length < sizeLine ∧ H' = upd H a (.dK (putK kvs k v))) ∨
  ∃ kvs k b, H a = some (.dT kvs) ∧ y = .ref b ∧ H b = some (.tup (k.map kV)) ∧ kvs.length < sizeLine ∧ H' = upd H a (.dT (putK kvs k v))
theorem DGet.k {H : Hp} {a : Addr} {kvs : List (Key × V)} {k : Key} (e : H a = some (.dK kvs)) : DGet H a (kV k) (valV kvs k) := .inl ⟨kvs, k, .inl e, rfl, rfl⟩
theorem DGet.t {H : Hp} {a b : Addr} {kvs : List (List Key × V)} {k : List Key} (e : H a = some (.dT kvs)) (eb : H b = some (.tup (k.map kV))) : DGet H a (.ref b) (valV kvs k) := .inr ⟨kvs, k, b, .inl e, rfl, eb, rfl⟩
theorem DPut.k {H : Hp} {a : Addr} {kvs : List (Key × V)} {k : Key} {v : V} (e : H a = some (.dK kvs)) (hl : kvs.length < sizeLine) : DPut H a (kV k) v (upd H a (.dK (putK kvs k v))) := .inl ⟨kvs, k, e, rfl, hl, rfl⟩
theorem DPut.t {H : Hp} {a b : Addr} {kvs : List (List Key × V)} {k : List Key} {v : V} (e : H a = some (.dT kvs)) (eb : H b = some (.tup (k.map kV))) (hl : kvs.length < sizeLine) :
    DPut H a (.ref b) v (upd H a (.dT (putK kvs k v))) := .inr ⟨kvs, k, b, e, rfl, eb, hl, rfl⟩
section
variable {X : Cx} {pins : List (Addr × Obj)} {σ : St} {H : Hp} {s : Shared} {a : Addr} {y v : V} {u r : Value} {o : Option V} {A : Around} {E : Value → Shared → Prop}
end
section
variable {X : Cx} {pins : List (Addr × Obj)} {σ : St} {H : Hp} {s : Shared} {a : Addr} {kvs : List (Key × V)} {k : Key} {u : Value} {A : Around} {E : Value → Shared → Prop}
end
section
variable {X : Cx} {o i e value : Expr} {pos pos' tpos : Pos} {td ty tv : TE}
end
section
variable {X : Cx} {pos : Pos}
end
structure M1 (X : Cx) (o : Expr) (m : Str) (apos : Pos) (e : Expr) (cpos : Pos) : Prop where
  base : attributeBase o m X.env (eval o X.env) = eval o X.env
  few : ((backTo cpos (starEach [e] X.env)).all (fun x => !x.1) && (backToKw cpos (keywordEach [] X.env)).all (fun x => x.1.isSome)
    && decide (([e] : List Expr).length + ([] : List Keyword).length + (if ([] : List Keyword).isEmpty then 0 else 1) < 30)) = true
  line : (apos.endLine == cpos.line) = true
  trees : backTo cpos (starEach [e] X.env) = [(false, eval e X.env)]
structure M2 (X : Cx) (o : Expr) (m : Str) (apos : Pos) (e f : Expr) (cpos : Pos) : Prop where
  base : attributeBase o m X.env (eval o X.env) = eval o X.env
  few : ((backTo cpos (starEach [e, f] X.env)).all (fun x => !x.1) && (backToKw cpos (keywordEach [] X.env)).all (fun x => x.1.isSome)
    && decide (([e, f] : List Expr).length + ([] : List Keyword).length + (if ([] : List Keyword).isEmpty then 0 else 1) < 30)) = true
  line : (apos.endLine == cpos.line) = true
  trees : backTo cpos (starEach [e, f] X.env) = [(false, eval e X.env), (false, eval f X.env)]
section
variable {X : Cx} {pins : List (Addr × Obj)} {σ : St} {H : Hp} {s : Shared} {a : Addr} {y d : V} {u r : Value} {o : Option V} {A : Around} {E : Value → Shared → Prop}
end
section
variable {X : Cx} {o e f : Expr} {apos cpos : Pos} {td ty tx : TE}
end
section
variable {X : Cx} {pins : List (Addr × Obj)} {σ : St} {H : Hp} {s : Shared} {a : Addr} {kvs : List (Key × V)} {A : Around} {E : Value → Shared → Prop}
end
section
variable {X : Cx} {pins : List (Addr × Obj)} {σ : St} {H : Hp} {s : Shared} {a : Addr} {y : V} {u : Value} {A : Around} {E : Value → Shared → Prop}
end
end L2
set_option maxHeartbeats 4000000
namespace L2
open PySem PySem.Spec PyProof.Rows Gc
end L2
set_option maxHeartbeats 4000000
namespace L2
open PySem PySem.Spec PyProof.Rows Gc
end L2
set_option maxHeartbeats 4000000
namespace L2
open PySem PySem.Spec PyProof.Rows Gc
end L2
set_option maxHeartbeats 4000000
namespace K26
open PySem L2 Gc Ch
seal wpAny
noncomputable def top (i : Nat) : Stmt := PySem.Challenge.pw_surestretch_k26_ends_moved.main.body.getD i (.Pass ⟨0, 0, 0, 0⟩)
noncomputable abbrev s_whole : Stmt := top 5
noncomputable abbrev s_share : Stmt := top 6
noncomputable abbrev s_wpair : Stmt := top 7
noncomputable abbrev s_cd : Stmt := top 8
noncomputable abbrev s_frac : Stmt := top 9
noncomputable abbrev s_plus : Stmt := top 10
noncomputable abbrev s_minus : Stmt := top 11
noncomputable abbrev s_und : Stmt := top 12
noncomputable abbrev s_ruleof : Stmt := top 14
noncomputable abbrev s_rowof : Stmt := top 15
noncomputable abbrev s_str : Stmt := top 16
noncomputable abbrev s_mov : Stmt := top 18
noncomputable abbrev s_we : Stmt := top 19
noncomputable abbrev s_cell : Stmt := top 21
noncomputable abbrev s_stream : Stmt := top 22
noncomputable abbrev s_dv : Stmt := top 23
noncomputable abbrev s_low : Stmt := top 24
noncomputable abbrev s_nm : Stmt := top 25
noncomputable abbrev s_sts : Stmt := top 26
noncomputable abbrev s_isr : Stmt := top 27
noncomputable abbrev s_law : Stmt := top 28
structure Txt (mg : Str → Option Value) : Prop where
  range : mg "range" = none
  min : mg "min" = none
  max : mg "max" = none
  len : mg "len" = none
  isinstance : mg "isinstance" = none
  int : mg "int" = none
  bool : mg "bool" = none
  tuple : mg "tuple" = none
  list : mg "list" = none
  all : mg "all" = none
  sorted : mg "sorted" = none
  zip : mg "zip" = none
  reversed : mg "reversed" = none
  abs : mg "abs" = none
  ValueError : mg "ValueError" = none
structure CA where
  StretchError : Addr
  NoNumber : Addr
  NoRule : Addr
structure CF (K : PySem.W.Frag) (mg : Str → Option Value) (C : CA) : Prop where
  mStretchError : mg "StretchError" = some (.ref C.StretchError)
  mNoNumber : mg "NoNumber" = some (.ref C.NoNumber)
  mNoRule : mg "NoRule" = some (.ref C.NoRule)
  xNoRule : XCls K mg "NoRule" C.NoRule
  xNoNumber : XCls K mg "NoNumber" C.NoNumber
  cNoRule : Catch K C.NoRule
  iNoRule : XInst K C.NoRule
  iNoNumber : XInst K C.NoNumber
  sub : PySem.W.subIn K (.ref C.NoRule) (.ref C.NoRule) = some true
noncomputable def isW (t : Th) : Bool := isIntT t && !isBoolT t
theorem isW_shape {t : Th} (h : isW t = true) : ∃ i, t = .int i := by
  cases t <;> first | exact ⟨_, rfl⟩ | (simp [isW, isIntT, isBoolT] at h)
theorem at0 {x : V} {xs : List V} : atI (x :: xs) 0 = some x := atI_nat (xs := x :: xs) (j := 0) rfl
theorem at1 {x y : V} {xs : List V} : atI (x :: y :: xs) 1 = some y := atI_nat (xs := x :: y :: xs) (j := 1) rfl
theorem den_pair {H : Hp} {a b : Int} {v : V} (d : Den H (.tup [.int a, .int b]) v) : ∃ p, v = .ref p ∧ H p = some (.tup [.int a, .int b]) := by
  obtain ⟨p, xs, rfl, h, y, ys, e1, e2, z, zs, e3, e4, e5⟩ := d
  have e2' : y = V.int a := e2
  have e4' : z = V.int b := e4
  have e5' : zs = [] := e5
  subst e5' e4' e3 e2' e1
  exact ⟨p, rfl, h⟩
theorem getD_mem {α : Type} {l : List α} {i : Nat} {d : α} (h : i < l.length) : l.getD i d ∈ l := by rw [getD_in h]; exact List.getElem_mem h
theorem den_p {H : Hp} {p : Addr} {a b : Int} (h : H p = some (.tup [.int a, .int b])) : Den H (.tup [.int a, .int b]) (.ref p) := ⟨p, _, rfl, h, _, _, rfl, rfl, _, _, rfl, rfl, rfl⟩
theorem den2 {H : Hp} {p : Addr} {x y : V} {a b : Th} (h : H p = some (.tup [x, y])) (d1 : Den H a x) (d2 : Den H b y) : Den H (.tup [a, b]) (.ref p) := ⟨p, _, rfl, h, _, _, rfl, d1, _, _, rfl, d2, rfl⟩
theorem _root_.Gc.Sz.smk {n : Nat} {i : Int} (h : Sz n i) (hn : n ≤ 8900) : Smk i := h.mono hn
theorem passN {P : Program} {w : World} {X : Cx} : Passes (CXX P w) X E0 := fun _ _ _ _ _ _ _ h => (cxx_never h).elim
theorem lt40 {n : Nat} (h : n ≤ 40) : n < sizeLine := Nat.lt_of_le_of_lt h (by decide)
section
variable {P : Program} {w : World} {K : PySem.W.Frag} {mg : Str → Option Value} {base : Heap}
noncomputable def spWhole : Sp := fun vs H Q _ => ∃ x t, vs = [x] ∧ Den H t x ∧ Q (.bl (isW t)) H
theorem sc_whole : FnScope ["thing"] ["thing"] (defScope s_whole) := ⟨rfl, rfl, rfl, by decide +kernel, rfl, by decide +kernel, by decide +kernel⟩
theorem ok_whole {f : Addr} {fd : FuncData} (F : Fun K "is_whole" "is_whole" s_whole f fd) (T : Txt mg) : FnOk P w K mg base CX0 1 f fd ["thing"] spWhole := by
  refine F.ok sc_whole (fun vs H Q E h => ?_) (fun cdv A outer s H vs Q E hr h => ?_)
  · obtain ⟨x, t, rfl, _⟩ := h
    rfl
  obtain ⟨x, t, rfl, d, q⟩ := h
  refine ⟨_, (pss_one (ps_ret (pe_and (pe_callB call_isinstD rfl T.isinstance boot_isinstance (pa_cons (pv 0) (pa_cons (pe_bltn (v := .ty "int") rfl T.int boot_int rfl) pa_nil))) (pe_one (pe_not (pe_callB call_isinstD rfl T.isinstance boot_isinstance (pa_cons (pv 0) (pa_cons (pe_bltn (v := .ty "bool") rfl T.bool boot_bool rfl) pa_nil)))))))), ?_⟩
  refine ⟨_, rfl, x, t, _, _, rfl, d, kit_int t, _, rfl, ?_⟩
  cases hi : isIntT t with
  | false =>
    unfold isW at q
    rw [hi, Bool.false_and] at q
    exact iteF q
  | true =>
    unfold isW at q
    rw [hi, Bool.true_and] at q
    exact iteT ⟨_, rfl, x, t, _, _, rfl, d, kit_bool t, _, rfl, q⟩
noncomputable def pairT : Th → Bool
  | .tup [a, b] => isW a && isW b
  | _ => false
noncomputable def shareT (t : Th) : Bool := pairT t && (match t with
  | .tup [.int a, .int b] => decide (1 ≤ b) && (decide (0 ≤ a) && (decide (a ≤ b) && decide (Int.gcd a b = 1)))
  | _ => false)
theorem pair_shape {t : Th} (h : pairT t = true) : ∃ a b, t = .tup [.int a, .int b] := by
  match t, h with
  | .tup [a, b], h =>
    have h' : (isW a && isW b) = true := h
    rw [Bool.and_eq_true] at h'
    obtain ⟨i, rfl⟩ := isW_shape h'.1
    obtain ⟨j, rfl⟩ := isW_shape h'.2
    exact ⟨i, j, rfl⟩
theorem share_not {t : Th} (h : pairT t = false) : shareT t = false := by unfold shareT; rw [h]; rfl
noncomputable def spWpair : Sp := fun vs H Q _ => ∃ x t, vs = [x] ∧ Den H t x ∧ Q (.bl (pairT t)) H
theorem pair_len {ts : List Th} (h : ts.length ≠ 2) : pairT (.tup ts) = false := by
  match ts, h with
  | [], _ => rfl
  | [_], _ => rfl
  | [_, _], h => exact absurd rfl h
  | _ :: _ :: _ :: _, _ => rfl
theorem sc_wpair : FnScope ["thing"] ["thing"] (defScope s_wpair) := ⟨rfl, rfl, rfl, by decide +kernel, rfl, by decide +kernel, by decide +kernel⟩
theorem ok_wpair {f : Addr} {fd : FuncData} (F : Fun K "is_whole_pair" "is_whole_pair" s_wpair f fd) (T : Txt mg) {fwhole : Addr} {dwhole : FuncData} (Gwhole : FnOk P w K mg base CX0 1 fwhole dwhole ["thing"] spWhole) (bwhole : Binds K dwhole ["thing"] []) (kwhole : PySem.W.keepIn K (.ref fwhole) = true) (mwhole : mg "is_whole" = some (.ref fwhole)) : FnOk P w K mg base CX0 2 f fd ["thing"] spWpair := by
  refine F.ok sc_wpair (fun vs H Q E h => ?_) (fun cdv A outer s H vs Q E hr h => ?_)
  · obtain ⟨x, t, rfl, _⟩ := h
    rfl
  obtain ⟨x, t, rfl, d, q⟩ := h
  refine ⟨_, (pss_one (ps_ret (pe_and (pe_callB call_isinstD rfl T.isinstance boot_isinstance (pa_cons (pv 0) (pa_cons (pe_bltn (v := .ty "tuple") rfl T.tuple boot_tuple rfl) pa_nil))) (pe_and (pe_cmpR op_eq (pe_callB call_len_seq rfl T.len boot_len (pa_cons (pv 0) pa_nil)) pe_int (nomark _)) (pe_and (pe_call Gwhole hr rfl mwhole kwhole bwhole .nil pass0 (pa_cons (pe_ix ix_tup (pv 0) pe_int (fun _ _ => rfl)) pa_nil)) (pe_one (pe_call Gwhole hr rfl mwhole kwhole bwhole .nil pass0 (pa_cons (pe_ix ix_tup (pv 0) pe_int (fun _ _ => rfl)) pa_nil)))))))), ?_⟩
  refine ⟨_, rfl, x, t, _, _, rfl, d, kit_tuple t, _, rfl, ?_⟩
  cases t with
  | tup ts =>
    refine iteT ?_
    obtain ⟨p, xs, rfl, hH, dd⟩ := d
    refine ⟨_, rfl, p, xs, rfl, .inr (SqT.of hH), rfl, _, rfl, ?_⟩
    refine ite2 (fun c => ?_) (fun c => ?_)
    · have c' : V.int (xs.length : Int) = V.int 2 := of_decide_eq_true c
      have c2 : xs.length = 2 := by injection c' with z; omega
      rw [dd.len] at c2
      match ts, c2, dd, q with
      | [a, b], _, dd, q =>
        obtain ⟨y, ys, rfl, d1, z, zs, rfl, d2, e5⟩ := dd
        have e5' : zs = [] := e5
        subst e5'
        refine ⟨_, rfl, p, _, 0, _, rfl, rfl, SqT.of hH, at0, y, a, rfl, d1, _, rfl, ?_⟩
        have q' : Q (.bl (isW a && isW b)) H := q
        cases ha : isW a with
        | false => rw [ha, Bool.false_and] at q'; exact iteF q'
        | true =>
          rw [ha, Bool.true_and] at q'
          exact iteT ⟨_, rfl, p, _, 1, _, rfl, rfl, SqT.of hH, at1, z, b, rfl, d2, q'⟩
    · have c2 : ts.length ≠ 2 := fun z => c (decide_eq_true (by rw [dd.len, z] <;> rfl))
      rw [pair_len c2] at q
      exact q
  | non => exact iteF q
  | bl _ => exact iteF q
  | int _ => exact iteF q
  | str _ => exact iteF q
  | lst _ => exact iteF q
  | emp => exact iteF q
  | dic => exact iteF q
noncomputable def spCd : Sp := fun vs H Q _ => ∃ a b : Int, vs = [.int a, .int b] ∧ 0 ≤ a ∧ 0 ≤ b ∧ Q (.int (Int.gcd a b)) H
noncomputable def mu2 (σ : St) : Nat := match σ with
  | _ :: some (.int y) :: _ => y.toNat
  | _ => 0
theorem sc_cd : FnScope ["one", "other", "rest"] ["one", "other"] (defScope s_cd) := ⟨rfl, rfl, rfl, by decide +kernel, rfl, by decide +kernel, by decide +kernel⟩
theorem ok_cd {f : Addr} {fd : FuncData} (F : Fun K "common_divisor" "common_divisor" s_cd f fd) (T : Txt mg) : FnOk P w K mg base CX0 1 f fd ["one", "other"] spCd := by
  refine F.ok sc_cd (fun vs H Q E h => ?_) (fun cdv A outer s H vs Q E hr h => ?_)
  · obtain ⟨a, b, rfl, _⟩ := h
    rfl
  obtain ⟨a, b, rfl, ha, hb, q⟩ := h
  refine ⟨_, (pss_cons (ps_while PassesOwn.never (pt_cmpR op_ne (pv 1) pe_int (nomark _)) (pss_cons (ps_set (i := 2) sc_cd.nd rfl (Or.inl rfl) (pe_op op_mod (pv 0) (pv 1)))
      (pss_cons (ps_set (i := 0) sc_cd.nd rfl (Or.inl rfl) (pv 1))
      (pss_one (ps_set (i := 1) sc_cd.nd rfl (Or.inl rfl) (pv 2))))))
    (pss_one (ps_ret (pv 0)))), ?_⟩
  refine while_by (fun σ H' => H' = H ∧ ∃ x y v, σ = [some (.int x), some (.int y), v] ∧ 0 ≤ x ∧ 0 ≤ y ∧ Int.gcd x y = Int.gcd a b) (fun σ _ => mu2 σ) ⟨rfl, a, b, none, rfl, ha, hb, rfl⟩ ?_ ?_
  · rintro σ H' ⟨rfl, x, y, v, rfl, hx, hy, g⟩
    refine ⟨_, rfl, rfl, _, rfl, ?_⟩
    refine ite2 (fun c => ?_) (fun c => ?_)
    · have c' : y ≠ 0 := by rintro rfl; exact absurd c (by decide)
      have hm := Int.emod_nonneg x c'
      have hl := Int.emod_lt_of_pos x (show 0 < y by omega)
      refine ⟨_, rfl, _, rfl, _, _, rfl, rfl, (by show 0 < y; omega), _, rfl, _, rfl, ?_⟩
      refine ⟨⟨rfl, y, x % y, some (.int (x % y)), rfl, hy, hm, by rw [gstep hx hy c']; exact g⟩, ?_⟩
      show (x % y).toNat < y.toNat
      omega
    · have c' : y = 0 := by
        by_cases z : y = 0
        · exact z
        · exact absurd (show (!decide (V.int y = V.int 0)) = true by rw [decide_eq_false (fun w => z (by injection w))]; rfl) c
      subst c'
      refine ⟨_, rfl, ?_⟩
      rw [← g, gend hx] at q
      exact q
  · intro σ H Q Q' hq h
    obtain ⟨v, e, h1, k, e2, h2⟩ := h
    exact ⟨v, e, h1, k, e2, hq _ _ h2⟩
noncomputable def spShare : Sp := fun vs H Q _ => ∃ x t, vs = [x] ∧ Den H t x ∧ Q (.bl (shareT t)) H
theorem share_gcd {a b : Int} : (decide (V.int (Int.gcd a b : Int) = V.int 1)) = decide (Int.gcd a b = 1) := by
  apply decide_eq_decide.mpr
  constructor
  · intro h; injection h with z; omega
  · intro h; rw [h]; rfl
theorem sc_share : FnScope ["thing", "top", "bottom"] ["thing"] (defScope s_share) := ⟨rfl, rfl, rfl, by decide +kernel, rfl, by decide +kernel, by decide +kernel⟩
theorem ok_share {f : Addr} {fd : FuncData} (F : Fun K "is_share" "is_share" s_share f fd) (T : Txt mg) {fwpair : Addr} {dwpair : FuncData} (Gwpair : FnOk P w K mg base CX0 2 fwpair dwpair ["thing"] spWpair) (bwpair : Binds K dwpair ["thing"] []) (kwpair : PySem.W.keepIn K (.ref fwpair) = true) (mwpair : mg "is_whole_pair" = some (.ref fwpair)) {fcd : Addr} {dcd : FuncData} (Gcd : FnOk P w K mg base CX0 2 fcd dcd ["one", "other"] spCd) (bcd : Binds K dcd ["one", "other"] []) (kcd : PySem.W.keepIn K (.ref fcd) = true) (mcd : mg "common_divisor" = some (.ref fcd)) : FnOk P w K mg base CX0 3 f fd ["thing"] spShare := by
  refine F.ok sc_share (fun vs H Q E h => ?_) (fun cdv A outer s H vs Q E hr h => ?_)
  · obtain ⟨x, t, rfl, _⟩ := h
    rfl
  obtain ⟨x, t, rfl, d, q⟩ := h
  refine ⟨_, (pss_cons (ps_if (pt_not (pt_val (pe_call Gwpair hr rfl mwpair kwpair bwpair .nil pass0 (pa_cons (pv 0) pa_nil)))) (pss_one (ps_ret pe_bl)) pss_nil)
    (pss_cons (ps_set (i := 1) sc_share.nd rfl (Or.inl rfl) (pe_ix ix_tup (pv 0) pe_int (fun _ _ => rfl)))
    (pss_cons (ps_set (i := 2) sc_share.nd rfl (Or.inl rfl) (pe_ix ix_tup (pv 0) pe_int (fun _ _ => rfl)))
    (pss_one (ps_ret (pe_and (pe_cmpR op_ge (pv 2) pe_int (nomark _)) (pe_and (pe_chain op_le op_le pe_int (pv 1) (pv 2)) (pe_one (pe_cmpR op_eq (pe_call Gcd hr rfl mcd kcd bcd .nil pass0 (pa_cons (pv 1) (pa_cons (pv 2) pa_nil))) pe_int (nomark _)))))))))), ?_⟩
  refine ⟨_, rfl, x, t, rfl, d, _, rfl, ?_⟩
  cases hp : pairT t with
  | false =>
    rw [share_not hp] at q
    exact iteT q
  | true =>
    obtain ⟨a, b, rfl⟩ := pair_shape hp
    obtain ⟨p, rfl, hH⟩ := den_pair d
    refine iteF ?_
    refine ⟨_, rfl, p, _, 0, _, rfl, rfl, SqT.of hH, at0, ?_⟩
    refine ⟨_, rfl, p, _, 1, _, rfl, rfl, SqT.of hH, at1, ?_⟩
    have q' : Q (.bl (decide (1 ≤ b) && (decide (0 ≤ a) && (decide (a ≤ b) && decide (Int.gcd a b = 1))))) H := q
    refine ⟨_, rfl, _, _, rfl, rfl, _, rfl, ?_⟩
    refine ite2 (fun c => ?_) (fun c => ?_)
    · rw [c, Bool.true_and] at q'
      refine ⟨_, rfl, _, _, rfl, rfl, _, rfl, ?_⟩
      refine ite2 (fun c2 => ?_) (fun c2 => ?_)
      · rw [c2, Bool.true_and] at q'
        refine ⟨_, rfl, _, _, rfl, rfl, _, rfl, ?_⟩
        refine ite2 (fun c3 => ?_) (fun c3 => ?_)
        · rw [c3, Bool.true_and] at q'
          refine ⟨_, rfl, _, rfl, a, b, rfl, of_decide_eq_true c2, ?_, rfl, ?_⟩
          · have := of_decide_eq_true c; omega
          rw [share_gcd]; exact q'
        · rw [Bool.eq_false_iff.mpr c3, Bool.false_and] at q'
          exact q'
      · rw [Bool.eq_false_iff.mpr c2, Bool.false_and] at q'
        exact ⟨_, rfl, iteF q'⟩
    · rw [Bool.eq_false_iff.mpr c, Bool.false_and] at q'
      exact q'
theorem kit_lt {K : PySem.W.Frag} (t : Th) : PySem.W.kitAny K (tyTh t) (["list", "tuple"].map Value.type) = some (isLstT t || isTupT t) := by cases t <;> rfl
noncomputable def seqOf : Th → Option (List Th)
  | .lst ts => some ts
  | .tup ts => some ts
  | _ => none
noncomputable def rowB (t : Th) (c : Int) : Bool := match seqOf t with
  | some ts => decide ((ts.length : Int) = c)
  | none => false
theorem seq_den {H : Hp} {t : Th} {ts : List Th} {v : V} (h : seqOf t = some ts) (d : Den H t v) : ∃ a xs, v = .ref a ∧ SeqAt2 H a xs ∧ Dens H ts xs := by
  cases t with
  | lst us =>
    cases h
    obtain ⟨a, xs, e, h1, h2⟩ := d
    exact ⟨a, xs, e, .inl h1, h2⟩
  | tup us =>
    cases h
    obtain ⟨a, xs, e, h1, h2⟩ := d
    exact ⟨a, xs, e, .inr h1, h2⟩
  | non => cases h
  | bl _ => cases h
  | int _ => cases h
  | str _ => cases h
  | emp => cases h
  | dic => cases h
theorem row_seq {t : Th} {c : Int} (h : rowB t c = true) : ∃ ts, seqOf t = some ts ∧ (ts.length : Int) = c := by
  unfold rowB at h
  cases e : seqOf t with
  | none => rw [e] at h; cases h
  | some ts => rw [e] at h; exact ⟨ts, rfl, of_decide_eq_true h⟩
theorem row_two {t : Th} (h : rowB t 2 = true) : ∃ x y, seqOf t = some [x, y] := by
  obtain ⟨ts, e, l⟩ := row_seq h
  match ts, l with
  | [x, y], _ => exact ⟨x, y, e⟩
theorem dec_int {a b : Int} : decide (V.int a = V.int b) = decide (a = b) := decide_eq_decide.mpr ⟨fun h => by injection h, fun h => by rw [h]⟩
noncomputable def spRowT : Sp := fun vs H Q _ => ∃ (x : V) (c : Int) (t : Th), vs = [x, .int c] ∧ Den H t x ∧ ∀ H', Same H H' → Q (.bl (rowB t c)) H'
theorem sc_rowof : FnScope ["thing", "count"] ["thing", "count"] (defScope s_rowof) := ⟨rfl, rfl, rfl, by decide +kernel, rfl, by decide +kernel, by decide +kernel⟩
theorem ok_rowof {f : Addr} {fd : FuncData} (F : Fun K "is_row_of" "is_row_of" s_rowof f fd) (T : Txt mg) : FnOk P w K mg base CX0 1 f fd ["thing", "count"] spRowT := by
  refine F.ok sc_rowof (fun vs H Q E h => ?_) (fun cdv A outer s H vs Q E hr h => ?_)
  · obtain ⟨x, c, t, rfl, _⟩ := h
    rfl
  obtain ⟨x, c, t, rfl, d, q⟩ := h
  refine ⟨_, (pss_one (ps_ret (pe_and (pe_callB call_isinstT rfl T.isinstance boot_isinstance (pa_cons (pv 0) (pa_cons (pe_tup (pa_cons (pe_bltn (v := .ty "list") rfl T.list boot_list rfl) (pa_cons (pe_bltn (v := .ty "tuple") rfl T.tuple boot_tuple rfl) pa_nil))) pa_nil))) (pe_one (pe_cmpR op_eq (pe_callB call_len_seq rfl T.len boot_len (pa_cons (pv 0) pa_nil)) (pv 1) (nomark _)))))), ?_⟩
  refine ⟨_, rfl, (by show 2 ≤ sizeLine; decide), fun p hp => ?_⟩
  have s1 := same_new hp (.tup [V.ty "list", V.ty "tuple"])
  refine ⟨x, p, t, ["list", "tuple"], _, rfl, upd_same, d.keep s1, kit_lt t, _, rfl, ?_⟩
  have q1 := q _ s1
  cases t with
  | lst ts =>
    obtain ⟨a, xs, rfl, h1, dd⟩ := d
    refine iteT ⟨_, rfl, a, xs, rfl, .inl (SqL.of (s1 _ _ h1)), _, rfl, rfl, ?_⟩
    show Q (.bl (decide (V.int (xs.length : Int) = V.int c))) _
    rw [dec_int, dd.len]
    exact q1
  | tup ts =>
    obtain ⟨a, xs, rfl, h1, dd⟩ := d
    refine iteT ⟨_, rfl, a, xs, rfl, .inr (SqT.of (s1 _ _ h1)), _, rfl, rfl, ?_⟩
    show Q (.bl (decide (V.int (xs.length : Int) = V.int c))) _
    rw [dec_int, dd.len]
    exact q1
  | non => exact iteF q1
  | bl _ => exact iteF q1
  | int _ => exact iteF q1
  | str _ => exact iteF q1
  | emp => exact iteF q1
  | dic => exact iteF q1
theorem cut_tail {ws : List V} (h : 1 ≤ ws.length) : cutV ws (some 1) none = ws.drop 1 := by
  have h1 : HT.sIx ws.length 0 (some 1) = 1 := by
    rw [show (1 : Int) = ((1 : Nat) : Int) from rfl, HT.sIx_nat]
    omega
  unfold cutV
  rw [h1, HT.sIx_none, List.take_of_length_le (by simp)]
noncomputable abbrev Fq := Int × Int
noncomputable abbrev Sq := Fq × Fq
noncomputable def ppT (p : Fq) : Th := .tup [.int p.1, .int p.2]
noncomputable def ssT (s : Sq) : Th := .tup [ppT s.1, ppT s.2]
noncomputable def shOf (t : Th) : Option Fq := if shareT t = true then (match t with
  | .tup [.int a, .int b] => some (a, b)
  | _ => none) else none
theorem sh_yes {t : Th} (h : shareT t = true) : ∃ p, t = ppT p ∧ shOf t = some p := by
  have hp : pairT t = true := by
    cases e : pairT t with
    | true => rfl
    | false => rw [share_not e] at h; cases h
  obtain ⟨a, b, rfl⟩ := pair_shape hp
  exact ⟨(a, b), rfl, by unfold shOf; rw [if_pos h]⟩
theorem sh_no {t : Th} (h : shareT t = false) : shOf t = none := by unfold shOf; rw [if_neg (by rw [h]; exact Bool.false_ne_true)]
noncomputable def st2 (t : Th) : Option Sq := match seqOf t with
  | some [x, y] => (shOf x).bind fun p => (shOf y).bind fun q => some (p, q)
  | _ => none
noncomputable def und2 (p q : Fq) : Bool := decide (p.1 * q.2 < q.1 * p.2)
noncomputable def Sm2 (p : Fq) : Prop := Smk p.1 ∧ Smk p.2
theorem den_pp {H : Hp} {p : Fq} {v : V} (d : Den H (ppT p) v) : ∃ a, v = .ref a ∧ H a = some (.tup [.int p.1, .int p.2]) := den_pair d
theorem den_ss {H : Hp} {s : Sq} {v : V} (d : Den H (ssT s) v) : ∃ c a b, v = .ref c ∧ H c = some (.tup [.ref a, .ref b]) ∧ H a = some (.tup [.int s.1.1, .int s.1.2]) ∧ H b = some (.tup [.int s.2.1, .int s.2.2]) := by
  obtain ⟨c, xs, rfl, h, y, ys, rfl, d1, z, zs, rfl, d2, e⟩ := d
  have e' : zs = [] := e
  subst e'
  obtain ⟨a, rfl, ha⟩ := den_pp d1
  obtain ⟨b, rfl, hb⟩ := den_pp d2
  exact ⟨c, a, b, rfl, h, ha, hb⟩
noncomputable def spUndI : Sp := fun vs H Q _ => ∃ (f g : Addr) (p q : Fq), vs = [.ref f, .ref g] ∧ H f = some (.tup [.int p.1, .int p.2]) ∧ H g = some (.tup [.int q.1, .int q.2]) ∧ Sm2 p ∧ Sm2 q ∧ Q (.bl (und2 p q)) H
theorem sc_und : FnScope ["one", "other"] ["one", "other"] (defScope s_und) := ⟨rfl, rfl, rfl, by decide +kernel, rfl, by decide +kernel, by decide +kernel⟩
theorem ok_und {f : Addr} {fd : FuncData} (F : Fun K "under" "under" s_und f fd) (T : Txt mg) : FnOk P w K mg base CX0 1 f fd ["one", "other"] spUndI := by
  refine F.ok sc_und (fun vs H Q E h => ?_) (fun cdv A outer s H vs Q E hr h => ?_)
  · obtain ⟨f, g, p, q, rfl, _⟩ := h
    rfl
  obtain ⟨f, g, p, q, rfl, h1, h2, t, u, k⟩ := h
  refine ⟨_, (pss_one (ps_ret (pe_cmpR op_lt (pe_op op_mulK (pe_ix ix_tup (pv 0) pe_int (fun _ _ => rfl)) (pe_ix ix_tup (pv 1) pe_int (fun _ _ => rfl))) (pe_op op_mulK (pe_ix ix_tup (pv 1) pe_int (fun _ _ => rfl)) (pe_ix ix_tup (pv 0) pe_int (fun _ _ => rfl))) (nomark _)))), ?_⟩
  exact ⟨_, rfl, f, _, 0, _, rfl, rfl, SqT.of h1, at0, _, rfl, g, _, 1, _, rfl, rfl, SqT.of h2, at1, _, _, rfl, rfl, ⟨t.1, u.2⟩, _, rfl, g, _, 0, _, rfl, rfl, SqT.of h2, at0, _, rfl, f, _, 1, _, rfl, rfl, SqT.of h1, at1, _, _, rfl, rfl, ⟨u.1, t.2⟩, _, _, rfl, rfl, k⟩
noncomputable def spStrX (C : CA) : Sp := fun vs H Q E => ∃ (x : V) (t : Th), vs = [x] ∧ Den H t x ∧ (∀ s, st2 t = some s → Sm2 s.1 ∧ Sm2 s.2) ∧ (∀ s, st2 t = some s → und2 s.2 s.1 = false → ∀ p H', Same H H' → Den H' (ssT s) (.ref p) → Q (.ref p) H') ∧
  ((∀ s, st2 t = some s → und2 s.2 s.1 = true) → ∀ H', Same H H' → E (.ref C.NoRule) none H')
theorem sc_str : FnScope ["thing", "low", "high"] ["thing"] (defScope s_str) := ⟨rfl, rfl, rfl, by decide +kernel, rfl, by decide +kernel, by decide +kernel⟩
theorem ok_str {C : CA} {f : Addr} {fd : FuncData} (F : Fun K "stretch_of" "stretch_of" s_str f fd) (T : Txt mg) (cf : CF K mg C) {frowof : Addr} {drowof : FuncData} (Growof : FnOk P w K mg base CX0 4 frowof drowof ["thing", "count"] spRowT) (browof : Binds K drowof ["thing", "count"] []) (krowof : PySem.W.keepIn K (.ref frowof) = true) (mrowof : mg "is_row_of" = some (.ref frowof)) {fshare : Addr} {dshare : FuncData} (Gshare : FnOk P w K mg base CX0 4 fshare dshare ["thing"] spShare) (bshare : Binds K dshare ["thing"] []) (kshare : PySem.W.keepIn K (.ref fshare) = true) (mshare : mg "is_share" = some (.ref fshare)) {fund : Addr} {dund : FuncData} (Gund : FnOk P w K mg base CX0 4 fund dund ["one", "other"] spUndI) (bund : Binds K dund ["one", "other"] []) (kund : PySem.W.keepIn K (.ref fund) = true) (mund : mg "under" = some (.ref fund)) : FnOk P w K mg base (CXX P w) 5 f fd ["thing"] (spStrX C) := by
  refine F.okX sc_str (fun vs H Q E h => ?_) (fun cdv A outer s H vs Q E hr h => ?_)
  · obtain ⟨x, t, rfl, _⟩ := h
    rfl
  obtain ⟨x, t, rfl, d, hsm, q1, q2⟩ := h
  refine ⟨_, (pss_cons (ps_if (pt_not (pt_val (pe_call Growof hr rfl mrowof krowof browof .nil pass0 (pa_cons (pv 0) (pa_cons pe_int pa_nil))))) (pss_one (ps_raise reachOf rfl cf.xNoRule rfl (pa_cons pe_str pa_nil))) pss_nil)
    (pss_cons (ps_set (i := 1) sc_str.nd rfl (Or.inl rfl) (pe_ix ix_seq (pv 0) pe_int (fun _ _ => rfl)))
    (pss_cons (ps_set (i := 2) sc_str.nd rfl (Or.inl rfl) (pe_ix ix_seq (pv 0) pe_int (fun _ _ => rfl)))
    (pss_cons (ps_if (PW.pt (pw_or (pt_not (pt_val (pe_call Gshare hr rfl mshare kshare bshare .nil pass0 (pa_cons (pv 1) pa_nil)))) (pw_or1 (pt_not (pt_val (pe_call Gshare hr rfl mshare kshare bshare .nil pass0 (pa_cons (pv 2) pa_nil))))))) (pss_one (ps_raise reachOf rfl cf.xNoRule rfl (pa_cons pe_str pa_nil))) pss_nil)
    (pss_cons (ps_if (pt_val (pe_call Gund hr rfl mund kund bund .nil pass0 (pa_cons (pv 2) (pa_cons (pv 1) pa_nil)))) (pss_one (ps_raise reachOf rfl cf.xNoRule rfl (pa_cons pe_str pa_nil))) pss_nil)
    (pss_one (ps_ret (pe_tup (pa_cons (pv 1) (pa_cons (pv 2) pa_nil)))))))))), ?_⟩
  have one : 1 ≤ sizeLine := by decide
  refine ⟨_, rfl, x, 2, t, rfl, d, fun H1 s1 => ⟨_, rfl, ?_⟩⟩
  cases hr2 : rowB t 2 with
  | false =>
    refine iteT ⟨one, q2 (fun s hs => ?_) _ s1⟩
    exfalso
    unfold st2 at hs
    unfold rowB at hr2
    split at hs
    · rename_i e
      rw [e] at hr2
      exact absurd hr2 (by simp)
    · cases hs
  | true =>
    obtain ⟨t0, t1, e2⟩ := row_two hr2
    obtain ⟨a, xs, rfl, sq, dd⟩ := seq_den e2 d
    obtain ⟨y, ys, rfl, d0, z, zs, rfl, d1, e5⟩ := dd
    have e5' : zs = [] := e5
    subst e5'
    refine iteF ?_
    have sq1 := sq.keep s1
    have es : st2 t = (shOf t0).bind fun p => (shOf t1).bind fun q => some (p, q) := by unfold st2; rw [e2]
    refine ⟨_, rfl, sq1.ix at0 ?_⟩
    refine ⟨_, rfl, sq1.ix at1 ?_⟩
    refine ⟨_, rfl, y, t0, rfl, d0.keep s1, _, rfl, ?_⟩
    cases h0 : shareT t0 with
    | false =>
      refine iteT (iteT ⟨one, q2 (fun s hs => ?_) _ s1⟩)
      rw [es, sh_no h0] at hs
      cases hs
    | true =>
      refine iteF ⟨_, rfl, z, t1, rfl, d1.keep s1, _, rfl, ?_⟩
      cases h1 : shareT t1 with
      | false =>
        refine iteT ⟨one, q2 (fun s hs => ?_) _ s1⟩
        obtain ⟨p, _, ep⟩ := sh_yes h0
        rw [es, ep, sh_no h1] at hs
        cases hs
      | true =>
        refine iteF ?_
        obtain ⟨p, rfl, ep⟩ := sh_yes h0
        obtain ⟨q, rfl, eq⟩ := sh_yes h1
        have e3 : st2 t = some (p, q) := by rw [es, ep, eq]; rfl
        obtain ⟨m1, m2⟩ := hsm _ e3
        obtain ⟨b, rfl, hb⟩ := den_pp (d0.keep s1)
        obtain ⟨c, rfl, hc⟩ := den_pp (d1.keep s1)
        refine ⟨_, rfl, _, rfl, c, b, q, p, rfl, hc, hb, m2, m1, _, rfl, ?_⟩
        cases hu : und2 q p with
        | true => exact iteT ⟨one, q2 (fun s hs => by rw [e3] at hs; cases hs; exact hu) _ s1⟩
        | false =>
          refine iteF ⟨_, rfl, _, rfl, (by show 2 ≤ sizeLine; decide), fun m hm => ?_⟩
          have s2 := same_new hm (.tup [V.ref b, V.ref c])
          exact q1 (p, q) e3 hu m _ (s1.trans s2) (den2 upd_same (den_p (s2 _ _ hb)) (den_p (s2 _ _ hc)))
noncomputable def RisU (ps : List Sq) : Prop := ∀ i p q, ps[i]? = some p → ps[i + 1]? = some q → und2 q.1 p.1 = false ∧ und2 q.2 p.2 = false
structure GoodU (A S : Th) (n : Int) (ps : List Sq) : Prop where
  a : A = .int n
  seq : ∃ ts, seqOf S = some ts ∧ ts.map st2 = ps.map some
  n1 : 1 ≤ n
  n12 : n ≤ 12
  len : (ps.length : Int) = n + 1
  inn : ∀ p ∈ ps, und2 p.2 p.1 = false
  ris : RisU ps
noncomputable def ruT (n : Int) (ps : List Sq) : Th := .tup [.int n, .tup (ps.map ssT)]
theorem dens_snoc {H : Hp} : ∀ {ts : List Th} {xs : List V} {t : Th} {v : V}, Dens H ts xs → Den H t v → Dens H (ts ++ [t]) (xs ++ [v])
  | [], xs, t, v, h, d => by
    rw [show xs = [] from h]
    exact ⟨v, [], rfl, d, rfl⟩
  | u :: us, xs, t, v, ⟨y, ys, e, d1, d2⟩, d => by
    rw [e]
    exact ⟨y, ys ++ [v], rfl, d1, dens_snoc d2 d⟩
theorem map_snoc {ts : List Th} {ps : List Sq} {i : Nat} {t : Th} {a : Sq} (h : (ts.take i).map st2 = ps.map some) (e : ts[i]? = some t) (ha : st2 t = some a) : (ts.take (i + 1)).map st2 = (ps ++ [a]).map some := by
  rw [List.take_add_one, e, List.map_append, List.map_append, h]
  show _ ++ [st2 t] = _
  rw [ha]
  rfl
theorem map_at {ts : List Th} {ps : List Sq} (h : ts.map st2 = ps.map some) {i : Nat} {t : Th} (e : ts[i]? = some t) : ∃ p, ps[i]? = some p ∧ st2 t = some p := by
  have h1 : (ts.map st2)[i]? = some (st2 t) := by rw [List.getElem?_map, e]; rfl
  rw [h, List.getElem?_map] at h1
  cases q : ps[i]? with
  | none => rw [q] at h1; cases h1
  | some p => rw [q] at h1; exact ⟨p, rfl, (Option.some.inj h1).symm⟩
theorem some_inj : ∀ {ps qs : List Sq}, ps.map some = qs.map some → ps = qs
  | [], [], _ => rfl
  | [], _ :: _, h => by cases h
  | _ :: _, [], h => by cases h
  | p :: ps, q :: qs, h => by
    rw [List.map_cons, List.map_cons] at h
    injection h with h1 h2
    injection h1 with h1
    rw [h1, some_inj h2]
theorem dens_write {H : Hp} {l : Addr} {zs ws : List V} (hl : H l = some (.lst zs)) : ∀ {ts : List Th} {xs : List V}, (∀ t ∈ ts, ∃ p, t = ssT p) → Dens H ts xs → Dens (upd H l (.lst ws)) ts xs
  | [], _, _, h => h
  | t :: ts, xs, ht, ⟨y, ys, e, d1, d2⟩ => by
    obtain ⟨p, rfl⟩ := ht t (by simp)
    obtain ⟨c, a, b, rfl, hc, ha, hb⟩ := den_ss d1
    have k : ∀ {x o}, H x = some (.tup o) → upd H l (.lst ws) x = some (.tup o) := fun h => by rw [upd_ne (ne_of h hl (by intro z; cases z))]; exact h
    exact ⟨.ref c, ys, e, den2 (k hc) (den_p (k ha)) (den_p (k hb)), dens_write hl (fun t' h' => ht t' (by simp [h'])) d2⟩
noncomputable def spRuX (C : CA) : Sp := fun vs H Q E => ∃ (x z : V) (A S : Th), vs = [x, z] ∧ Den H A x ∧ Den H S z ∧ (∀ ts, seqOf S = some ts → ∀ t ∈ ts, ∀ s, st2 t = some s → Sm2 s.1 ∧ Sm2 s.2) ∧ (∀ n ps, GoodU A S n ps → ∀ p H', Same H H' → Den H' (ruT n ps) (.ref p) → Q (.ref p) H') ∧
  ((∀ n ps, ¬ GoodU A S n ps) → ∀ H', Same H H' → E (.ref C.NoRule) none H')
theorem sc_ruleof : FnScope ["n", "stretches", "kept", "ahead", "behind"] ["n", "stretches"] (defScope s_ruleof) := ⟨rfl, rfl, rfl, by decide +kernel, rfl, by decide +kernel, by decide +kernel⟩
theorem ok_ruleof {C : CA} {f : Addr} {fd : FuncData} (F : Fun K "rule_of" "rule_of" s_ruleof f fd) (T : Txt mg) (cf : CF K mg C) {fwhole : Addr} {dwhole : FuncData} (Gwhole : FnOk P w K mg base CX0 5 fwhole dwhole ["thing"] spWhole) (bwhole : Binds K dwhole ["thing"] []) (kwhole : PySem.W.keepIn K (.ref fwhole) = true) (mwhole : mg "is_whole" = some (.ref fwhole)) {frowof : Addr} {drowof : FuncData} (Growof : FnOk P w K mg base CX0 5 frowof drowof ["thing", "count"] spRowT) (browof : Binds K drowof ["thing", "count"] []) (krowof : PySem.W.keepIn K (.ref frowof) = true) (mrowof : mg "is_row_of" = some (.ref frowof)) {fstr : Addr} {dstr : FuncData} (Gstr : FnOk P w K mg base (CXX P w) 5 fstr dstr ["thing"] (spStrX C)) (bstr : Binds K dstr ["thing"] []) (kstr : PySem.W.keepIn K (.ref fstr) = true) (mstr : mg "stretch_of" = some (.ref fstr)) {fund : Addr} {dund : FuncData} (Gund : FnOk P w K mg base CX0 5 fund dund ["one", "other"] spUndI) (bund : Binds K dund ["one", "other"] []) (kund : PySem.W.keepIn K (.ref fund) = true) (mund : mg "under" = some (.ref fund)) : FnOk P w K mg base (CXX P w) 6 f fd ["n", "stretches"] (spRuX C) := by
  refine F.okX sc_ruleof (fun vs H Q E h => ?_) (fun cdv A outer s H vs Q E hr h => ?_)
  · obtain ⟨x, z, A', S', rfl, _⟩ := h
    rfl
  obtain ⟨x, z, A', S', rfl, dA, dS, hsm, q1, q2⟩ := h
  refine ⟨_, (pss_cons (ps_if (PW.pt (pw_or (pt_not (pt_val (pe_call Gwhole hr rfl mwhole kwhole bwhole .nil pass0 (pa_cons (pv 0) pa_nil)))) (pw_or (pt_cmpR op_lt (pv 0) pe_int (nomark _)) (pw_or1 (pt_cmpR op_gt (pv 0) pe_int (nomark _)))))) (pss_one (ps_raise reachOf rfl cf.xNoRule rfl (pa_cons pe_str pa_nil))) pss_nil)
    (pss_cons (ps_if (pt_not (pt_val (pe_call Growof hr rfl mrowof krowof browof .nil pass0 (pa_cons (pv 1) (pa_cons (pe_op op_add (pv 0) pe_int) pa_nil))))) (pss_one (ps_raise reachOf rfl cf.xNoRule rfl (pa_cons pe_str pa_nil))) pss_nil)
    (pss_cons (ps_set (i := 2) sc_ruleof.nd rfl (Or.inl rfl) (pe_callTy call_tuple_of rfl T.tuple boot_tuple (pa_cons (pe_compX (xs := ["stretch"]) (ts := []) dxOf (fun _ _ h => h) rfl ⟨rfl, sub0, rfl, rfl, rfl, by decide +kernel, rfl, rfl⟩ (pi_seq (pv 1)) (fun C s3 H3 fp => (pg_name (i := 0) (show (["stretch"] : List Str).Nodup by decide +kernel) rfl (Or.inl rfl) (Or.inr rfl))) (fun C s3 H3 fp => pif_nil) (fun C s3 H3 fp xe hx => (pe_call Gstr hr rfl mstr kstr bstr .nil hx (pa_cons (pv 0) pa_nil)))) pa_nil)))
    (pss_cons (ps_for PassesOwn.leaving rfl (pi_zipT rfl T.zip (pa_cons (pv 2) (pa_cons (pe_slice sl_tup (pv 2) (po_some pe_int) po_none) pa_nil))) (pg_tup rfl (pgs_cons (pg_name (i := 3) sc_ruleof.nd rfl (Or.inl rfl)) (pgs_cons (pg_name (i := 4) sc_ruleof.nd rfl (Or.inl rfl)) pgs_nil))) (pss_one (ps_if (PW.pt (pw_or (pt_val (pe_call Gund hr rfl mund kund bund .nil pass0 (pa_cons (pe_ix ix_tup (pv 4) pe_int (fun _ _ => rfl)) (pa_cons (pe_ix ix_tup (pv 3) pe_int (fun _ _ => rfl)) pa_nil)))) (pw_or1 (pt_val (pe_call Gund hr rfl mund kund bund .nil pass0 (pa_cons (pe_ix ix_tup (pv 4) pe_int (fun _ _ => rfl)) (pa_cons (pe_ix ix_tup (pv 3) pe_int (fun _ _ => rfl)) pa_nil))))))) (pss_one (ps_raise reachOf rfl cf.xNoRule rfl (pa_cons pe_str pa_nil))) pss_nil)))
    (pss_one (ps_ret (pe_tup (pa_cons (pv 0) (pa_cons (pv 2) pa_nil))))))))), ?_⟩
  have one : 1 ≤ sizeLine := by decide
  refine ⟨_, rfl, x, A', rfl, dA, _, rfl, ?_⟩
  cases hA : isW A' with
  | false => exact iteT (iteT ⟨one, q2 (fun n ps g => by rw [g.a] at hA; cases hA) _ (Same.refl H)⟩)
  | true =>
  obtain ⟨n, rfl⟩ := isW_shape hA
  cases (show x = V.int n from dA)
  have gn : ∀ {n' ps}, GoodU (.int n) S' n' ps → n' = n := fun g => by
    have e := g.a
    cases e
    rfl
  refine iteF ⟨_, rfl, _, _, rfl, rfl, _, rfl, ?_⟩
  refine ite2 (fun c => iteT ⟨one, q2 (fun n' ps g => ?_) _ (Same.refl H)⟩) (fun c1 => ?_)
  · cases gn g
    have := of_decide_eq_true c
    have := g.n1
    omega
  refine ⟨_, rfl, _, _, rfl, rfl, _, rfl, ?_⟩
  refine ite2 (fun c => ⟨one, q2 (fun n' ps g => ?_) _ (Same.refl H)⟩) (fun c2 => ?_)
  · cases gn g
    have := of_decide_eq_true c
    have := g.n12
    omega
  have k1 : ¬ n < 1 := ofD c1
  have k2 : ¬ (12 : Int) < n := ofD c2
  refine ⟨_, rfl, _, rfl, _, _, rfl, rfl, z, n + 1, S', rfl, dS, fun H1 s1 => ⟨_, rfl, ?_⟩⟩
  cases hR : rowB S' (n + 1) with
  | false =>
    refine iteT ⟨one, q2 (fun n' ps g => ?_) _ s1⟩
    cases gn g
    obtain ⟨ts, e1, e2⟩ := g.seq
    have l1 : ts.length = ps.length := by simpa using congrArg List.length e2
    have l2 := g.len
    unfold rowB at hR
    rw [e1] at hR
    exact absurd hR (by simp; omega)
  | true =>
  refine iteF ?_
  obtain ⟨ts, es, lt⟩ := row_seq hR
  have hsm := hsm ts es
  obtain ⟨a, xs, rfl, sq, dd⟩ := seq_den es dS
  have lx := dd.len
  have sq1 := sq.keep s1
  have dd1 := dd.keep s1
  refine ⟨_, rfl, a, xs, rfl, ?_⟩
  refine seq_comp sq1 (Nat.le_of_lt (lt40 (by omega))) (fun D i ws H2 => ∃ ps : List Sq, (ts.take i).map st2 = ps.map some ∧ (∀ p ∈ ps, und2 p.2 p.1 = false) ∧ Dens H2 (ps.map ssT) ws) (fun D hD => ⟨[], rfl, (fun p hp => absurd hp (by simp)), rfl⟩) ?_ ?_
  · rintro D i v ws H2 k hD hv sm e hl ⟨ps, m1, m2, m3⟩ hk
    have hi := (List.getElem?_eq_some_iff.mp hv).1
    have et := List.getElem?_eq_getElem (show i < ts.length by omega)
    obtain ⟨v', f1, f2⟩ := (dd1.keep sm).get et
    rw [hv] at f1
    cases f1
    refine ⟨_, rfl, v, _, rfl, f2, hsm _ (List.getElem_mem _), fun b hb hin p H3 s3 hp => hk _ _ s3 ⟨ps ++ [b], map_snoc m1 et hb, fun p' hp' => ?_, ?_⟩, fun hbad H3 s3 => q2 (fun n' ps' g => ?_) _ ((s1.trans sm).trans s3)⟩
    · rcases List.mem_append.mp hp' with y | y
      · exact m2 p' y
      · rw [List.mem_singleton.mp y]; exact hin
    · rw [List.map_append]
      exact dens_write (s3 _ _ e) (fun p' hp' => by
        rcases List.mem_append.mp hp' with y | y
        · obtain ⟨q, _, rfl⟩ := List.mem_map.mp y; exact ⟨q, rfl⟩
        · exact ⟨b, List.mem_singleton.mp y⟩) (dens_snoc (m3.keep s3) hp)
    · obtain ⟨ts', e1, e2⟩ := g.seq
      rw [es] at e1
      cases e1
      obtain ⟨p, y1, y2⟩ := map_at e2 et
      have := hbad p y2
      rw [g.inn p (List.mem_of_getElem? y1)] at this
      cases this
  rintro D ws H2 hD s2 hD2 hlw ⟨ps, m1, m2, m3⟩
  rw [List.take_of_length_le (by omega)] at m1
  have lp : ts.length = ps.length := by simpa using congrArg List.length m1
  have psm : ∀ p ∈ ps, Sm2 p.1 ∧ Sm2 p.2 := fun p hp => by
    obtain ⟨i, hi⟩ := List.mem_iff_getElem?.mp hp
    have hi' := (List.getElem?_eq_some_iff.mp hi).1
    have et := List.getElem?_eq_getElem (show i < ts.length by omega)
    obtain ⟨p', y1, y2⟩ := map_at m1 et
    rw [hi] at y1
    cases y1
    exact hsm _ (List.getElem_mem _) p y2
  refine ⟨D, ws, rfl, .inl ⟨SqL.of hD2, fun t ht => ?_⟩⟩
  have s3 := same_new ht (.tup ws)
  have r3 := m3.keep s3
  have t3 : (upd H2 t (.tup ws)) t = some (.tup ws) := upd_same
  have s13 := (s1.trans s2).trans s3
  generalize hH3 : upd H2 t (.tup ws) = H3 at *
  have hcut : ¬ (HT.sIx ws.length 0 (some 1) = 0 ∧ HT.sIx ws.length ws.length none = ws.length) := by
    rw [show (1 : Int) = ((1 : Nat) : Int) from rfl, HT.sIx_nat]
    omega
  refine ⟨_, rfl, _, rfl, _, rfl, t, ws, rfl, SqT.of t3, hcut, fun m hm => ?_⟩
  rw [cut_tail (by omega)]
  have s4 := same_new hm (.tup (ws.drop 1))
  refine ⟨t, m, rfl, ⟨_, SqT.of (s4 _ _ t3)⟩, ⟨_, SqT.of upd_same⟩, ?_⟩
  have m4 : (upd H3 m (.tup (ws.drop 1))) m = some (.tup (ws.drop 1)) := upd_same
  have r4 := r3.keep s4
  have t4 := s4 _ _ t3
  generalize hH4 : upd H3 m (.tup (ws.drop 1)) = H4 at *
  have pin : ∀ {n' ps'}, GoodU (.int n) S' n' ps' → ps' = ps := fun g => by
    obtain ⟨ts', e1, e2⟩ := g.seq
    rw [es] at e1
    cases e1
    exact some_inj (e2.symm.trans m1)
  refine for_zipT (n := ws.length - 1) (xs := ws) (ys := ws.drop 1) (fun i σ H' => Same H4 H' ∧ (∀ j, j < i → ∀ p q, ps[j]? = some p → ps[j + 1]? = some q → und2 q.1 p.1 = false ∧ und2 q.2 p.2 = false) ∧ ∃ v1 v2, σ = [some (.int n), some (.ref a), some (.ref t), v1, v2]) ⟨Same.refl H4, fun j hj => absurd hj (by omega), none, none, rfl⟩ (by omega) (by simp) (.inr (by simp)) ?_ ?_ ?_
  · rintro i σ H' hi ⟨sm, _⟩
    exact ⟨SqT.of (sm _ _ t4), SqT.of (sm _ _ m4)⟩
  · rintro i u v U σ H' hi hu hv hU ⟨sm, hj, v1, v2, rfl⟩
    have ep := List.getElem?_eq_getElem (show i < ps.length by omega)
    have ep2 := List.getElem?_eq_getElem (show i + 1 < ps.length by omega)
    obtain ⟨w1, f1, g1⟩ := (r4.keep sm).get (i := i) (t := ssT ps[i]) (by rw [List.getElem?_map, ep]; rfl)
    obtain ⟨w2, f2, g2⟩ := (r4.keep sm).get (i := i + 1) (t := ssT ps[i + 1]) (by rw [List.getElem?_map, ep2]; rfl)
    rw [hu] at f1
    cases f1
    rw [List.getElem?_drop, Nat.add_comm, f2] at hv
    cases hv
    obtain ⟨b, bl, bh, rfl, b2, b3, b4⟩ := den_ss g1
    obtain ⟨c, cl, ch, rfl, c2', c3, c4⟩ := den_ss g2
    have sU := same_new hU (.tup [.ref b, .ref c])
    have z1 := psm _ (List.mem_of_getElem? ep)
    have z2 := psm _ (List.mem_of_getElem? ep2)
    refine ⟨U, _, rfl, SqT.of upd_same, rfl, .ref b, [.ref c], rfl, .ref c, [], rfl, rfl, ?_⟩
    have b2 := sU _ _ b2
    have b3 := sU _ _ b3
    have b4 := sU _ _ b4
    have c2' := sU _ _ c2'
    have c3 := sU _ _ c3
    have c4 := sU _ _ c4
    refine ⟨_, rfl, c, _, 0, _, rfl, rfl, SqT.of c2', at0, _, rfl, b, _, 0, _, rfl, rfl, SqT.of b2, at0, cl, bl, _, _, rfl, c3, b3, z2.1, z1.1, _, rfl, ?_⟩
    cases u1 : und2 ps[i + 1].1 ps[i].1 with
    | true =>
      refine iteT (iteT ⟨one, q2 (fun n' ps' g => ?_) _ ((((s13.trans s4).trans sm)).trans sU)⟩)
      have y := g.ris
      rw [pin g] at y
      have y' := (y i _ _ ep ep2).1
      rw [u1] at y'
      cases y'
    | false =>
    refine iteF ⟨_, rfl, c, _, 1, _, rfl, rfl, SqT.of c2', at1, _, rfl, b, _, 1, _, rfl, rfl, SqT.of b2, at1, ch, bh, _, _, rfl, c4, b4, z2.2, z1.2, _, rfl, ?_⟩
    cases u2 : und2 ps[i + 1].2 ps[i].2 with
    | true =>
      refine iteT ⟨one, q2 (fun n' ps' g => ?_) _ ((((s13.trans s4).trans sm)).trans sU)⟩
      have y := g.ris
      rw [pin g] at y
      have y' := (y i _ _ ep ep2).2
      rw [u2] at y'
      cases y'
    | false =>
    refine iteF ⟨sm.trans sU, fun j hj' p q hp hq => ?_, _, _, rfl⟩
    by_cases ej : j < i
    · exact hj j ej p q hp hq
    · have : j = i := by omega
      subst this
      rw [ep] at hp
      rw [ep2] at hq
      cases hp
      cases hq
      exact ⟨u1, u2⟩
  · rintro σ H' ⟨sm, hj, v1, v2, rfl⟩
    refine ⟨_, rfl, _, rfl, (by show 2 ≤ sizeLine; decide), fun x hx => ?_⟩
    have s5 := same_new hx (.tup [V.int n, V.ref t])
    have gd : GoodU (.int n) S' n ps := ⟨rfl, ⟨ts, es, m1⟩, by omega, by omega, by omega, m2, fun i p q hp hq => hj i (by have := (List.getElem?_eq_some_iff.mp hq).1; omega) p q hp hq⟩
    exact q1 n ps gd x _ (((s13.trans s4).trans sm).trans s5) ⟨x, _, rfl, upd_same, _, _, rfl, rfl, _, _, rfl, ⟨t, ws, rfl, s5 _ _ (sm _ _ t4), (r4.keep sm).keep s5⟩, rfl⟩
theorem sc_dv : FnScope ["_law_one", "_law_other", "_law_rest"] ["_law_one", "_law_other"] (defScope s_dv) := ⟨rfl, rfl, rfl, by decide +kernel, rfl, by decide +kernel, by decide +kernel⟩
theorem ok_dv {f : Addr} {fd : FuncData} (F : Fun K "_law_divisor" "_law_divisor" s_dv f fd) (T : Txt mg) : FnOk P w K mg base CX0 1 f fd ["_law_one", "_law_other"] spCd := by
  refine F.ok sc_dv (fun vs H Q E h => ?_) (fun cdv A outer s H vs Q E hr h => ?_)
  · obtain ⟨a, b, rfl, _⟩ := h
    rfl
  obtain ⟨a, b, rfl, ha, hb, q⟩ := h
  refine ⟨_, (pss_cons (ps_while PassesOwn.never (pt_cmpR op_ne (pv 1) pe_int (nomark _)) (pss_cons (ps_set (i := 2) sc_dv.nd rfl (Or.inl rfl) (pe_op op_mod (pv 0) (pv 1)))
      (pss_cons (ps_set (i := 0) sc_dv.nd rfl (Or.inl rfl) (pv 1))
      (pss_one (ps_set (i := 1) sc_dv.nd rfl (Or.inl rfl) (pv 2))))))
    (pss_one (ps_ret (pv 0)))), ?_⟩
  refine while_by (fun σ H' => H' = H ∧ ∃ x y v, σ = [some (.int x), some (.int y), v] ∧ 0 ≤ x ∧ 0 ≤ y ∧ Int.gcd x y = Int.gcd a b) (fun σ _ => mu2 σ) ⟨rfl, a, b, none, rfl, ha, hb, rfl⟩ ?_ ?_
  · rintro σ H' ⟨rfl, x, y, v, rfl, hx, hy, g⟩
    refine ⟨_, rfl, rfl, _, rfl, ?_⟩
    refine ite2 (fun c => ?_) (fun c => ?_)
    · have c' : y ≠ 0 := by rintro rfl; exact absurd c (by decide)
      have hm := Int.emod_nonneg x c'
      have hl := Int.emod_lt_of_pos x (show 0 < y by omega)
      refine ⟨_, rfl, _, rfl, _, _, rfl, rfl, (by show 0 < y; omega), _, rfl, _, rfl, ?_⟩
      refine ⟨⟨rfl, y, x % y, some (.int (x % y)), rfl, hy, hm, by rw [gstep hx hy c']; exact g⟩, ?_⟩
      show (x % y).toNat < y.toNat
      omega
    · have c' : y = 0 := by
        by_cases z : y = 0
        · exact z
        · exact absurd (show (!decide (V.int y = V.int 0)) = true by rw [decide_eq_false (fun w => z (by injection w))]; rfl) c
      subst c'
      refine ⟨_, rfl, ?_⟩
      rw [← g, gend hx] at q
      exact q
  · intro σ H Q Q' hq h
    obtain ⟨v, e, h1, k, e2, h2⟩ := h
    exact ⟨v, e, h1, k, e2, hq _ _ h2⟩
noncomputable def spCell (K : PySem.W.Frag) : Sp := fun vs H Q _ => ∃ (a : Addr) (ns : List Int) (k : Int), vs = [.ref a, .int k] ∧ SqL K H a (ns.map V.int) ∧ 0 ≤ k ∧ Q (.int (ns.getD k.toNat 0)) H
theorem sc_cell : FnScope ["_law_script", "_law_k"] ["_law_script", "_law_k"] (defScope s_cell) := ⟨rfl, rfl, rfl, by decide +kernel, rfl, by decide +kernel, by decide +kernel⟩
theorem ok_cell {f : Addr} {fd : FuncData} (F : Fun K "_law_cell_at" "_law_cell_at" s_cell f fd) (T : Txt mg) : FnOk P w K mg base CX0 1 f fd ["_law_script", "_law_k"] (spCell K) := by
  refine F.ok sc_cell (fun vs H Q E h => ?_) (fun cdv A outer s H vs Q E hr h => ?_)
  · obtain ⟨a, ns, k, rfl, _⟩ := h
    rfl
  obtain ⟨a, ns, k, rfl, hS, h0, q⟩ := h
  refine ⟨_, (pss_cons (ps_if (pt_cmpR op_lt (pv 1) (pe_callB call_len_seq rfl T.len boot_len (pa_cons (pv 0) pa_nil)) (nomark _)) (pss_one (ps_ret (pe_ix ix_list (pv 0) (pv 1) (fun _ _ => rfl)))) pss_nil)
    (pss_one (ps_ret pe_int))), ?_⟩
  have hl : (ns.map V.int).length = ns.length := List.length_map _
  refine ⟨_, rfl, _, rfl, a, _, rfl, .inl hS, _, _, rfl, rfl, _, rfl, ?_⟩
  refine ite2 (fun c => ?_) (fun c => ?_)
  · have c' : k < (((ns.map V.int).length : Nat) : Int) := of_decide_eq_true c
    rw [hl] at c'
    exact ⟨_, rfl, _, rfl, a, _, k, _, rfl, rfl, hS, at_getD h0 c', q⟩
  · have c' := ofD c
    rw [hl] at c'
    rw [getD_out (by omega)] at q
    exact q
noncomputable def frOk : Th → Th → Option (Int × Int)
  | .int a, .int b => if b = 0 then none else some (a, b)
  | _, _ => none
theorem frOk_shape {tx ty : Th} {a b : Int} (h : frOk tx ty = some (a, b)) : tx = .int a ∧ ty = .int b ∧ b ≠ 0 := by
  unfold frOk at h
  split at h
  · split at h
    · cases h
    · rename_i hz; cases h; exact ⟨rfl, rfl, hz⟩
  · cases h
theorem frOk_no1 {tx ty : Th} (h : isW tx = false) : frOk tx ty = none := by
  cases tx <;> first | rfl | cases h
theorem frOk_no2 {tx ty : Th} (h : isW ty = false) : frOk tx ty = none := by
  cases tx <;> cases ty <;> first | rfl | cases h
theorem frOk_yes {a b : Int} (h : b ≠ 0) : frOk (.int a) (.int b) = some (a, b) := if_neg h
noncomputable def spFrac (C : CA) : Sp := fun vs H Q E => ∃ x y tx ty, vs = [x, y] ∧ Den H tx x ∧ Den H ty y ∧
  (∀ a b, frOk tx ty = some (a, b) → Smk b ∧ ∀ p, H p = none → Q (.ref p) (upd H p (.tup [.int (frT a b), .int (frB a b)]))) ∧ (frOk tx ty = none → E (.ref C.NoNumber) none H)
theorem smk_frD {a b : Int} (h : b ≠ 0) (sb : Smk b) : Smk (frD a b) := by
  have h1 : (frD a b).natAbs = Int.gcd a b := by unfold frD; split <;> omega
  have h2 : Int.gcd a b ≤ b.natAbs := Nat.le_of_dvd (by omega) (Nat.gcd_dvd_right ..)
  exact Nat.lt_of_le_of_lt (by rw [h1]; exact h2) sb
theorem gcd_abs (a b : Int) : (Int.gcd (if a < 0 then -a else a) (if b < 0 then -b else b) : Int) = Int.gcd a b := by rw [gabs]
theorem sc_frac : FnScope ["top", "bottom", "divisor"] ["top", "bottom"] (defScope s_frac) := ⟨rfl, rfl, rfl, by decide +kernel, rfl, by decide +kernel, by decide +kernel⟩
theorem ok_frac {C : CA} {f : Addr} {fd : FuncData} (F : Fun K "fraction" "fraction" s_frac f fd) (T : Txt mg) (cf : CF K mg C) {fwhole : Addr} {dwhole : FuncData} (Gwhole : FnOk P w K mg base CX0 2 fwhole dwhole ["thing"] spWhole) (bwhole : Binds K dwhole ["thing"] []) (kwhole : PySem.W.keepIn K (.ref fwhole) = true) (mwhole : mg "is_whole" = some (.ref fwhole)) {fcd : Addr} {dcd : FuncData} (Gcd : FnOk P w K mg base CX0 2 fcd dcd ["one", "other"] spCd) (bcd : Binds K dcd ["one", "other"] []) (kcd : PySem.W.keepIn K (.ref fcd) = true) (mcd : mg "common_divisor" = some (.ref fcd)) : FnOk P w K mg base (CXX P w) 3 f fd ["top", "bottom"] (spFrac C) := by
  refine F.okX sc_frac (fun vs H Q E h => ?_) (fun cdv A outer s H vs Q E hr h => ?_)
  · obtain ⟨x, y, tx, ty, rfl, _⟩ := h
    rfl
  obtain ⟨x, y, tx, ty, rfl, d1, d2, q1, q2⟩ := h
  refine ⟨_, (pss_cons (ps_if (PW.pt (pw_or (pt_not (pt_val (pe_call Gwhole hr rfl mwhole kwhole bwhole .nil pass0 (pa_cons (pv 0) pa_nil)))) (pw_or1 (pt_not (pt_val (pe_call Gwhole hr rfl mwhole kwhole bwhole .nil pass0 (pa_cons (pv 1) pa_nil))))))) (pss_one (ps_raise reachOf rfl cf.xNoNumber rfl (pa_cons pe_str pa_nil))) pss_nil)
    (pss_cons (ps_if (pt_cmpR op_eq (pv 1) pe_int (nomark _)) (pss_one (ps_raise reachOf rfl cf.xNoNumber rfl (pa_cons pe_str pa_nil))) pss_nil)
    (pss_cons (ps_set (i := 2) sc_frac.nd rfl (Or.inl rfl) (pe_call Gcd hr rfl mcd kcd bcd .nil pass0 (pa_cons (pe_callB call_abs rfl T.abs boot_abs (pa_cons (pv 0) pa_nil)) (pa_cons (pe_callB call_abs rfl T.abs boot_abs (pa_cons (pv 1) pa_nil)) pa_nil))))
    (pss_cons (ps_if (pt_cmpR op_lt (pv 1) pe_int (nomark _)) (pss_one (ps_set (i := 2) sc_frac.nd rfl (Or.inl rfl) (pe_un un_neg (pv 2)))) pss_nil)
    (pss_one (ps_ret (pe_tup (pa_cons (pe_op op_fdivK (pv 0) (pv 2)) (pa_cons (pe_op op_fdivK (pv 1) (pv 2)) pa_nil))))))))), ?_⟩
  refine ⟨_, rfl, x, tx, rfl, d1, _, rfl, ?_⟩
  cases hx : isW tx with
  | false => exact iteT (iteT ⟨(by show 1 ≤ sizeLine; decide), q2 (frOk_no1 hx)⟩)
  | true =>
    refine iteF ?_
    refine ⟨_, rfl, y, ty, rfl, d2, _, rfl, ?_⟩
    cases hy : isW ty with
    | false => exact iteT ⟨(by show 1 ≤ sizeLine; decide), q2 (frOk_no2 hy)⟩
    | true =>
      refine iteF ?_
      obtain ⟨a, rfl⟩ := isW_shape hx
      obtain ⟨b, rfl⟩ := isW_shape hy
      have d1' : x = V.int a := d1
      have d2' : y = V.int b := d2
      subst d1' d2'
      refine ⟨_, rfl, rfl, _, rfl, ?_⟩
      by_cases hb : b = 0
      · subst hb
        exact iteT ⟨(by show 1 ≤ sizeLine; decide), q2 rfl⟩
      refine ite2 (fun c => absurd (by have := of_decide_eq_true c; injection this) hb) (fun _ => ?_)
      obtain ⟨sb, q⟩ := q1 a b (frOk_yes hb)
      have sd := smk_frD (a := a) hb sb
      have nd := frD_ne (t := a) hb
      have ha : 0 ≤ (if a < 0 then -a else a) := by split <;> omega
      have hb' : 0 ≤ (if b < 0 then -b else b) := by split <;> omega
      refine ⟨_, rfl, _, rfl, _, rfl, _, rfl, _, _, rfl, ha, hb', ?_⟩
      rw [gcd_abs]
      refine ⟨_, rfl, _, _, rfl, rfl, _, rfl, ?_⟩
      refine ite2 (fun c => ?_) (fun c => ?_)
      · have c' : b < 0 := of_decide_eq_true c
        have e : frD a b = -(Int.gcd a b : Int) := if_pos c'
        rw [e] at sd nd
        refine ⟨_, rfl, _, rfl, ?_⟩
        refine ⟨_, rfl, _, rfl, _, _, rfl, rfl, ⟨nd, sd⟩, _, rfl, _, rfl, _, _, rfl, rfl, ⟨nd, sd⟩, (by show 2 ≤ sizeLine; decide), fun p hp => ?_⟩
        have z := q p hp
        unfold frT frB at z
        rw [e] at z
        exact z
      · have c' : ¬ b < 0 := ofD c
        have e : frD a b = (Int.gcd a b : Int) := if_neg c'
        rw [e] at sd nd
        refine ⟨_, rfl, _, rfl, _, _, rfl, rfl, ⟨nd, sd⟩, _, rfl, _, rfl, _, _, rfl, rfl, ⟨nd, sd⟩, (by show 2 ≤ sizeLine; decide), fun p hp => ?_⟩
        have z := q p hp
        unfold frT frB at z
        rw [e] at z
        exact z
noncomputable def NewFr (H : Hp) (r : Rat) (Q : VK) : Prop := ∀ a H', Same H H' → H' a = some (.tup [.int r.num, .int (r.den : Int)]) → Q (.ref a) H'
noncomputable def Told (H : Hp) (t b : Int) (Q : VK) : Prop := ∀ p, H p = none → Q (.ref p) (upd H p (.tup [.int (frT t b), .int (frB t b)]))
theorem frac_ready {C : CA} {H : Hp} {Q : VK} {E : XK} {t b : Int} (hb : b ≠ 0) (sb : Smk b) (q : Told H t b Q) : spFrac C [.int t, .int b] H Q E := by
  refine ⟨_, _, .int t, .int b, rfl, rfl, rfl, fun a b' e => ?_, fun e => ?_⟩
  · obtain ⟨e1, e2, _⟩ := frOk_shape e
    cases e1; cases e2
    exact ⟨sb, q⟩
  · rw [frOk_yes hb] at e; cases e
theorem told_new {H : Hp} {t b : Int} {r : Rat} {Q : VK} (e : frT t b = r.num ∧ frB t b = (r.den : Int)) (q : NewFr H r Q) : Told H t b Q := fun x hx => by
  refine q x _ (same_new hx _) ?_
  rw [upd_same, e.1, e.2]
structure FrA (H : Hp) (f : Addr) (r : Rat) : Prop where
  ob : H f = some (.tup [.int r.num, .int (r.den : Int)])
  st : Sz 4400 r.num
  sb : Sz 4400 (r.den : Int)
theorem FrA.keep {H H' : Hp} {f : Addr} {r : Rat} (h : FrA H f r) (s : Same H H') : FrA H' f r := ⟨s _ _ h.ob, h.st, h.sb⟩
noncomputable def spBinR (g : Rat → Rat → Rat) : Sp := fun vs H Q _ => ∃ f h r s, vs = [.ref f, .ref h] ∧ FrA H f r ∧ FrA H h s ∧ NewFr H (g r s) Q
noncomputable abbrev spPlus : Sp := spBinR fun r s => r + s
noncomputable abbrev spMinus : Sp := spBinR fun r s => r - s
theorem sc_plus : FnScope ["one", "other"] ["one", "other"] (defScope s_plus) := ⟨rfl, rfl, rfl, by decide +kernel, rfl, by decide +kernel, by decide +kernel⟩
theorem ok_plus {C : CA} {f : Addr} {fd : FuncData} (F : Fun K "plus" "plus" s_plus f fd) (T : Txt mg) {ffrac : Addr} {dfrac : FuncData} (Gfrac : FnOk P w K mg base (CXX P w) 3 ffrac dfrac ["top", "bottom"] (spFrac C)) (bfrac : Binds K dfrac ["top", "bottom"] []) (kfrac : PySem.W.keepIn K (.ref ffrac) = true) (mfrac : mg "fraction" = some (.ref ffrac)) : FnOk P w K mg base CX0 4 f fd ["one", "other"] spPlus := by
  refine F.ok sc_plus (fun vs H Q E h => ?_) (fun cdv A outer s H vs Q E hr h => ?_)
  · obtain ⟨f, g, r, s, rfl, _⟩ := h
    rfl
  obtain ⟨f, g, r, s, rfl, t, u, q⟩ := h
  refine ⟨_, (pss_one (ps_ret (pe_call Gfrac hr rfl mfrac kfrac bfrac .nil passN (pa_cons (pe_op op_add (pe_op op_mulK (pe_ix ix_tup (pv 0) pe_int (fun _ _ => rfl)) (pe_ix ix_tup (pv 1) pe_int (fun _ _ => rfl))) (pe_op op_mulK (pe_ix ix_tup (pv 1) pe_int (fun _ _ => rfl)) (pe_ix ix_tup (pv 0) pe_int (fun _ _ => rfl)))) (pa_cons (pe_op op_mulK (pe_ix ix_tup (pv 0) pe_int (fun _ _ => rfl)) (pe_ix ix_tup (pv 1) pe_int (fun _ _ => rfl))) pa_nil))))), ?_⟩
  refine ⟨_, rfl, f, _, 0, _, rfl, rfl, SqT.of t.ob, at0, _, rfl, g, _, 1, _, rfl, rfl, SqT.of u.ob, at1, _, _, rfl, rfl, ⟨t.st.smk (by decide), u.sb.smk (by decide)⟩, _, rfl, g, _, 0, _, rfl, rfl, SqT.of u.ob, at0, _, rfl, f, _, 1, _, rfl, rfl, SqT.of t.ob, at1, _, _, rfl, rfl, ⟨u.st.smk (by decide), t.sb.smk (by decide)⟩, _, _, rfl, rfl, ?_⟩
  refine ⟨_, rfl, f, _, 1, _, rfl, rfl, SqT.of t.ob, at1, _, rfl, g, _, 1, _, rfl, rfl, SqT.of u.ob, at1, _, _, rfl, rfl, ⟨t.sb.smk (by decide), u.sb.smk (by decide)⟩, ?_⟩
  exact frac_ready (mul_ne (rden r) (rden s)) ((t.sb.mul u.sb).smk (by decide)) (told_new (fr_plus r s) q)
theorem sc_minus : FnScope ["one", "other"] ["one", "other"] (defScope s_minus) := ⟨rfl, rfl, rfl, by decide +kernel, rfl, by decide +kernel, by decide +kernel⟩
theorem ok_minus {C : CA} {f : Addr} {fd : FuncData} (F : Fun K "minus" "minus" s_minus f fd) (T : Txt mg) {ffrac : Addr} {dfrac : FuncData} (Gfrac : FnOk P w K mg base (CXX P w) 3 ffrac dfrac ["top", "bottom"] (spFrac C)) (bfrac : Binds K dfrac ["top", "bottom"] []) (kfrac : PySem.W.keepIn K (.ref ffrac) = true) (mfrac : mg "fraction" = some (.ref ffrac)) : FnOk P w K mg base CX0 4 f fd ["one", "other"] spMinus := by
  refine F.ok sc_minus (fun vs H Q E h => ?_) (fun cdv A outer s H vs Q E hr h => ?_)
  · obtain ⟨f, g, r, s, rfl, _⟩ := h
    rfl
  obtain ⟨f, g, r, s, rfl, t, u, q⟩ := h
  refine ⟨_, (pss_one (ps_ret (pe_call Gfrac hr rfl mfrac kfrac bfrac .nil passN (pa_cons (pe_op op_sub (pe_op op_mulK (pe_ix ix_tup (pv 0) pe_int (fun _ _ => rfl)) (pe_ix ix_tup (pv 1) pe_int (fun _ _ => rfl))) (pe_op op_mulK (pe_ix ix_tup (pv 1) pe_int (fun _ _ => rfl)) (pe_ix ix_tup (pv 0) pe_int (fun _ _ => rfl)))) (pa_cons (pe_op op_mulK (pe_ix ix_tup (pv 0) pe_int (fun _ _ => rfl)) (pe_ix ix_tup (pv 1) pe_int (fun _ _ => rfl))) pa_nil))))), ?_⟩
  refine ⟨_, rfl, f, _, 0, _, rfl, rfl, SqT.of t.ob, at0, _, rfl, g, _, 1, _, rfl, rfl, SqT.of u.ob, at1, _, _, rfl, rfl, ⟨t.st.smk (by decide), u.sb.smk (by decide)⟩, _, rfl, g, _, 0, _, rfl, rfl, SqT.of u.ob, at0, _, rfl, f, _, 1, _, rfl, rfl, SqT.of t.ob, at1, _, _, rfl, rfl, ⟨u.st.smk (by decide), t.sb.smk (by decide)⟩, _, _, rfl, rfl, ?_⟩
  refine ⟨_, rfl, f, _, 1, _, rfl, rfl, SqT.of t.ob, at1, _, rfl, g, _, 1, _, rfl, rfl, SqT.of u.ob, at1, _, _, rfl, rfl, ⟨t.sb.smk (by decide), u.sb.smk (by decide)⟩, ?_⟩
  exact frac_ready (mul_ne (rden r) (rden s)) ((t.sb.mul u.sb).smk (by decide)) (told_new (fr_minus r s) q)
noncomputable def spStream : Sp := fun vs H Q _ => ∃ (c salt : Int) (m : Nat), vs = [.int c, .int salt, .int m] ∧ 0 ≤ salt ∧ salt ≤ 100 ∧ m ≤ 10 ∧ ∀ (l : Addr) (H' : Hp) (xs : List Int), H l = none → Same H H' → H' l = some (.lst (xs.map V.int)) → xs.length = m → (∀ x ∈ xs, 0 ≤ x ∧ x < 2147483647) → Q (.ref l) H'
theorem sc_stream : FnScope ["_law_cell", "_law_salt", "_law_many", "_law_found", "_law_number", "_law_k"] ["_law_cell", "_law_salt", "_law_many"] (defScope s_stream) := ⟨rfl, rfl, rfl, by decide +kernel, rfl, by decide +kernel, by decide +kernel⟩
theorem ok_stream {f : Addr} {fd : FuncData} (F : Fun K "_law_stream" "_law_stream" s_stream f fd) (T : Txt mg) : FnOk P w K mg base CX0 1 f fd ["_law_cell", "_law_salt", "_law_many"] spStream := by
  refine F.ok sc_stream (fun vs H Q E h => ?_) (fun cdv A outer s H vs Q E hr h => ?_)
  · obtain ⟨c, salt, m, rfl, _⟩ := h
    rfl
  obtain ⟨c, salt, m, rfl, s0, s1, hm, q⟩ := h
  refine ⟨_, (pss_cons (ps_set (i := 3) sc_stream.nd rfl (Or.inl rfl) (pe_lst pa_nil))
    (pss_cons (ps_set (i := 4) sc_stream.nd rfl (Or.inl rfl) (pe_op op_mod (pe_op op_add (pe_op op_add (pe_op op_mul (pe_op op_mod (pv 0) pe_int) pe_int) (pe_op op_mul (pe_op op_mul (pv 1) (pv 1)) pe_int)) pe_int) pe_int))
    (pss_cons (ps_for PassesOwn.never rfl (pi_range1 rfl T.range (pa_cons (pv 2) pa_nil)) (pg_name (i := 5) sc_stream.nd rfl (Or.inl rfl)) (pss_cons (ps_set (i := 4) sc_stream.nd rfl (Or.inl rfl) (pe_op op_mod (pe_op op_add (pe_op op_add (pe_op op_add (pe_op op_mul (pv 4) (pv 4)) (pe_op op_mul pe_int (pv 4))) (pv 5)) (pv 1)) pe_int))
      (pss_one (ps_expr (pe_bm PySem.F.plainAttrs_list PySem.F.slot_list_append PySem.F.type_list_append mt_append (pv 3) (pa_cons (pv 4) pa_nil))))))
    (pss_one (ps_ret (pv 3)))))), ?_⟩
  have M0 : (0 : Int) < 2147483647 := by decide
  refine ⟨Nat.zero_le _, fun l hl => ?_⟩
  refine ⟨_, rfl, _, _, rfl, rfl, M0, _, _, rfl, rfl, .inr ⟨by decide, by decide⟩, _, rfl, _, rfl, _, _, rfl, rfl, .inl ⟨by omega, by omega⟩, _, _, rfl, rfl, .inr ⟨by decide, by decide⟩, _, _, rfl, rfl, _, _, rfl, rfl, _, _, rfl, rfl, M0, ?_⟩
  refine ⟨_, rfl, _, rfl, by omega, by omega, ?_⟩
  have em : ((m : Int)).toNat = m := rfl
  rw [em]
  refine for_range (lo := 0) (fun i σ H' => Same H H' ∧ ∃ (xs : List Int) (x : Int) (v : Option V), σ = [some (.int c), some (.int salt), some (.int m), some (.ref l), some (.int x), v] ∧ 0 ≤ x ∧ x < 2147483647 ∧ H' l = some (.lst (xs.map V.int)) ∧ xs.length = i ∧ ∀ x ∈ xs, 0 ≤ x ∧ x < 2147483647)
    ⟨same_new hl _, [], _, none, rfl, md0 _ M0, md1 _ M0, upd_same, rfl, fun x hx => by cases hx⟩ ?_ ?_
  · rintro i σ H1 hi ⟨sm, xs, x, v, rfl, x0, x1, e, hx, hall⟩
    refine ⟨_, rfl, _, rfl, _, _, rfl, rfl, .inl ⟨by omega, by omega⟩, _, rfl, _, _, rfl, rfl, .inl ⟨by decide, by decide⟩, _, _, rfl, rfl, _, rfl, _, _, rfl, rfl, _, rfl, _, _, rfl, rfl, _, _, rfl, rfl, M0, ?_⟩
    refine ⟨_, rfl, .inl ⟨rfl, _, SqL.of e⟩, _, rfl, l, _, _, rfl, rfl, e, ?_, ?_⟩
    · rw [List.length_map, hx]; unfold sizeLine; omega
    refine ⟨fun b o eb => by rw [upd_ne (ne_of_none eb hl)]; exact sm b o eb, xs ++ [(x * x + 48271 * x + (0 + (i : Int)) + salt) % 2147483647], _, _, rfl, md0 _ M0, md1 _ M0, ?_, by simp [hx], ?_⟩
    · rw [upd_same, List.map_append] <;> rfl
    · intro y hy
      rcases List.mem_append.mp hy with hy | hy
      · exact hall y hy
      · rw [List.mem_singleton.mp hy]
        exact ⟨md0 _ M0, md1 _ M0⟩
  · rintro σ H1 ⟨sm, xs, x, v, rfl, x0, x1, e, hx, hall⟩
    exact ⟨_, rfl, q l H1 xs hl sm e hx hall⟩
structure FqA (H : Hp) (f : Addr) (r : Rat) : Prop where
  ob : ∃ t b : Int, H f = some (.tup [.int t, .int b]) ∧ 0 < b ∧ r * (b : Rat) = (t : Rat) ∧ Smk t ∧ Smk b
theorem FqA.keep {H H' : Hp} {f : Addr} {r : Rat} (h : FqA H f r) (s : Same H H') : FqA H' f r := by
  obtain ⟨t, b, e, h1, h2, h3, h4⟩ := h.ob
  exact ⟨t, b, s _ _ e, h1, h2, h3, h4⟩
theorem fq_le {t1 b1 t2 b2 : Int} {r s : Rat} (p1 : 0 < b1) (p2 : 0 < b2) (e1 : r * (b1 : Rat) = (t1 : Rat)) (e2 : s * (b2 : Rat) = (t2 : Rat)) : t1 * b2 ≤ t2 * b1 ↔ r ≤ s := by
  have q1 : (0 : Rat) < (b1 : Rat) := by exact_mod_cast p1
  have q2 : (0 : Rat) < (b2 : Rat) := by exact_mod_cast p2
  have q3 := Rat.mul_pos q1 q2
  have c1 : ((t1 * b2 : Int) : Rat) = ((b1 : Rat) * (b2 : Rat)) * r := by rw [Rat.intCast_mul, ← e1]; grind
  have c2 : ((t2 * b1 : Int) : Rat) = ((b1 : Rat) * (b2 : Rat)) * s := by rw [Rat.intCast_mul, ← e2]; grind
  rw [← Rat.intCast_le_intCast, c1, c2]
  constructor
  · intro h
    by_cases c : r ≤ s
    · exact c
    · have := Rat.mul_pos q3 (show 0 < r - s by grind)
      grind
  · intro h
    exact rle h (by grind)
noncomputable def spNm : Sp := fun vs H Q _ => ∃ f g r s, vs = [.ref f, .ref g] ∧ FqA H f r ∧ FqA H g s ∧ Q (.bl (decide (r ≤ s))) H
theorem sc_nm : FnScope ["_law_one", "_law_other"] ["_law_one", "_law_other"] (defScope s_nm) := ⟨rfl, rfl, rfl, by decide +kernel, rfl, by decide +kernel, by decide +kernel⟩
theorem ok_nm {f : Addr} {fd : FuncData} (F : Fun K "_law_no_more" "_law_no_more" s_nm f fd) (T : Txt mg) : FnOk P w K mg base CX0 1 f fd ["_law_one", "_law_other"] spNm := by
  refine F.ok sc_nm (fun vs H Q E h => ?_) (fun cdv A outer s H vs Q E hr h => ?_)
  · obtain ⟨f, g, r, s, rfl, _⟩ := h
    rfl
  obtain ⟨f, g, r, s, rfl, ⟨t1, b1, o1, p1, e1, z1, z2⟩, ⟨t2, b2, o2, p2, e2, z3, z4⟩, q⟩ := h
  refine ⟨_, (pss_one (ps_ret (pe_cmpR op_le (pe_op op_mulK (pe_ix ix_tup (pv 0) pe_int (fun _ _ => rfl)) (pe_ix ix_tup (pv 1) pe_int (fun _ _ => rfl))) (pe_op op_mulK (pe_ix ix_tup (pv 1) pe_int (fun _ _ => rfl)) (pe_ix ix_tup (pv 0) pe_int (fun _ _ => rfl))) (nomark _)))), ?_⟩
  refine ⟨_, rfl, f, _, 0, _, rfl, rfl, SqT.of o1, at0, _, rfl, g, _, 1, _, rfl, rfl, SqT.of o2, at1, _, _, rfl, rfl, ⟨z1, z4⟩, _, rfl, g, _, 0, _, rfl, rfl, SqT.of o2, at0, _, rfl, f, _, 1, _, rfl, rfl, SqT.of o1, at1, _, _, rfl, rfl, ⟨z3, z2⟩, _, _, rfl, rfl, ?_⟩
  have e := fq_le p1 p2 e1 e2
  have e' : decide (t1 * b2 ≤ t2 * b1) = decide (r ≤ s) := by
    by_cases c : r ≤ s
    · rw [decide_eq_true c, decide_eq_true (e.mpr c)]
    · rw [decide_eq_false c, decide_eq_false fun z => c (e.mp z)]
  show Q (.bl (decide (t1 * b2 ≤ t2 * b1))) H
  rw [e']
  exact q
theorem ix_tupY {X : Cx} {xe : Value → Shared → Prop} {pn : List (Addr × Obj)} : IxR (X.tried xe pn) (rIxT X.K) := ix_tup
theorem seq_by {t u : TS} {D : Ends} {σ : St} {H : Hp} (P : St → Hp → Prop) (h1 : ∀ N : St → Hp → Prop, (∀ σ H, P σ H → N σ H) → t { D with nx := N } σ H) (h2 : ∀ σ H, P σ H → u D σ H) : tSeq t u D σ H := h1 _ h2
theorem dec_lt (r s : Rat) : decide (r.num * (s.den : Int) < s.num * (r.den : Int)) = decide (r < s) := by
  by_cases c : r < s
  · rw [decide_eq_true c, decide_eq_true ((r_under r s).mpr c)]
  · rw [decide_eq_false c, decide_eq_false (fun z => c ((r_under r s).mp z))]
noncomputable def fqR (p : Rat) : Fq := (p.num, (p.den : Int))
noncomputable def sqR (p : Rat × Rat) : Sq := (fqR p.1, fqR p.2)
theorem und_r (p q : Rat) : und2 (fqR p) (fqR q) = decide (p < q) := dec_lt p q
theorem share_r {p : Rat} (h0 : 0 ≤ p) (h1 : p ≤ 1) : shareT (ppT (fqR p)) = true := by
  have d1 : (1 : Int) ≤ (p.den : Int) := by have := p.den_pos; omega
  have n0 : 0 ≤ p.num := (r_nonneg p).mpr h0
  have n1 : p.num ≤ (p.den : Int) := (r_le1 p).mpr h1
  have g : Int.gcd p.num (p.den : Int) = 1 := p.reduced
  show (true && (decide ((1 : Int) ≤ (p.den : Int)) && (decide (0 ≤ p.num) && (decide (p.num ≤ (p.den : Int)) && decide (Int.gcd p.num (p.den : Int) = 1))))) = true
  rw [decide_eq_true d1, decide_eq_true n0, decide_eq_true n1, decide_eq_true g]
  rfl
theorem share_back {p : Rat} (h : shareT (ppT (fqR p)) = true) : 0 ≤ p ∧ p ≤ 1 := by
  have h' : (true && (decide ((1 : Int) ≤ (p.den : Int)) && (decide (0 ≤ p.num) && (decide (p.num ≤ (p.den : Int)) && decide (Int.gcd p.num (p.den : Int) = 1))))) = true := h
  simp only [Bool.and_eq_true, decide_eq_true_eq] at h'
  exact ⟨(r_nonneg p).mp h'.2.2.1, (r_le1 p).mp h'.2.2.2.1⟩
theorem shOf_pp {p : Fq} (h : shareT (ppT p) = true) : shOf (ppT p) = some p := by
  unfold shOf
  rw [if_pos h]
  rfl
noncomputable def Shs (s : Sq) : Prop := shareT (ppT s.1) = true ∧ shareT (ppT s.2) = true
theorem st2_ss {s : Sq} (h : Shs s) : st2 (ssT s) = some s := by
  show ((shOf (ppT s.1)).bind fun p => (shOf (ppT s.2)).bind fun q => some (p, q)) = some s
  rw [shOf_pp h.1, shOf_pp h.2]
  rfl
theorem st2_back {s s' : Sq} (h : st2 (ssT s) = some s') : Shs s ∧ s' = s := by
  have h' : ((shOf (ppT s.1)).bind fun p => (shOf (ppT s.2)).bind fun q => some (p, q)) = some s' := h
  cases h1 : shareT (ppT s.1) with
  | false => rw [sh_no h1] at h'; cases h'
  | true =>
    cases h2 : shareT (ppT s.2) with
    | false => rw [shOf_pp h1, sh_no h2] at h'; cases h'
    | true => rw [shOf_pp h1, shOf_pp h2] at h'; exact ⟨⟨h1, h2⟩, (Option.some.inj h').symm⟩
structure IsR (qs : List (Rat × Rat)) : Prop where
  inn : ∀ p ∈ qs, 0 ≤ p.1 ∧ p.1 ≤ p.2 ∧ p.2 ≤ 1
  ris : ∀ i p q, qs[i]? = some p → qs[i + 1]? = some q → p.1 ≤ q.1 ∧ p.2 ≤ q.2
noncomputable def thL (qs : List (Rat × Rat)) : List Th := (qs.map sqR).map ssT
theorem thL_at {qs : List (Rat × Rat)} {i : Nat} {p : Rat × Rat} (h : qs[i]? = some p) : (thL qs)[i]? = some (ssT (sqR p)) := by
  unfold thL
  rw [List.getElem?_map, List.getElem?_map, h]
  rfl
theorem thL_len (qs : List (Rat × Rat)) : (thL qs).length = qs.length := by unfold thL; simp
theorem isr_good {n : Int} {qs : List (Rat × Rat)} {S : Th} (e : seqOf S = some (thL qs)) (h1 : 1 ≤ n) (h12 : n ≤ 12) (hl : (qs.length : Int) = n + 1) (h : IsR qs) : GoodU (.int n) S n (qs.map sqR) where
  a := rfl
  seq := ⟨_, e, by
    unfold thL
    rw [List.map_map]
    refine List.map_congr_left fun s hs => ?_
    obtain ⟨p, hp, rfl⟩ := List.mem_map.mp hs
    obtain ⟨a, b, c⟩ := h.inn p hp
    exact st2_ss ⟨share_r a (by grind), share_r (by grind) c⟩⟩
  n1 := h1
  n12 := h12
  len := by rw [List.length_map]; exact hl
  inn := fun s hs => by
    obtain ⟨p, hp, rfl⟩ := List.mem_map.mp hs
    obtain ⟨a, b, c⟩ := h.inn p hp
    show und2 (fqR p.2) (fqR p.1) = false
    rw [und_r]
    exact decide_eq_false (by grind)
  ris := fun i s t hs ht => by
    rw [List.getElem?_map] at hs ht
    cases e1 : qs[i]? with
    | none => rw [e1] at hs; cases hs
    | some p =>
      cases e2 : qs[i + 1]? with
      | none => rw [e2] at ht; cases ht
      | some q =>
        rw [e1] at hs
        rw [e2] at ht
        cases hs
        cases ht
        obtain ⟨a1, a2⟩ := h.ris i p q e1 e2
        constructor
        · show und2 (fqR q.1) (fqR p.1) = false
          rw [und_r]
          exact decide_eq_false (by grind)
        · show und2 (fqR q.2) (fqR p.2) = false
          rw [und_r]
          exact decide_eq_false (by grind)
theorem good_at {A S : Th} {n : Int} {ps : List Sq} {qs : List (Rat × Rat)} (e : seqOf S = some (thL qs)) (g : GoodU A S n ps) {i : Nat} {p : Rat × Rat} (h : qs[i]? = some p) : ps[i]? = some (sqR p) ∧ Shs (sqR p) := by
  obtain ⟨ts, e1, e2⟩ := g.seq
  rw [e] at e1
  cases e1
  obtain ⟨s, y1, y2⟩ := map_at e2 (thL_at h)
  obtain ⟨z1, rfl⟩ := st2_back y2
  exact ⟨y1, z1⟩
theorem not_lt_of {p q : Rat} (h : und2 (fqR p) (fqR q) = false) : q ≤ p := by
  rw [und_r] at h
  have := of_decide_eq_false h
  grind
theorem good_isr {A S : Th} {n : Int} {ps : List Sq} {qs : List (Rat × Rat)} (e : seqOf S = some (thL qs)) (g : GoodU A S n ps) : IsR qs where
  inn := fun p hp => by
    obtain ⟨i, hi⟩ := List.mem_iff_getElem?.mp hp
    obtain ⟨y1, y2, y3⟩ := good_at e g hi
    have := not_lt_of (g.inn _ (List.mem_of_getElem? y1))
    exact ⟨(share_back y2).1, this, (share_back y3).2⟩
  ris := fun i p q hp hq => by
    obtain ⟨u1, u2⟩ := g.ris i _ _ (good_at e g hp).1 (good_at e g hq).1
    exact ⟨not_lt_of u1, not_lt_of u2⟩
theorem good_uq {A S : Th} {n n' : Int} {ps ps' : List Sq} (g : GoodU A S n ps) (g' : GoodU A S n' ps') : n' = n ∧ ps' = ps := by
  have e := g.a.symm.trans g'.a
  injection e with e
  obtain ⟨ts, e1, e2⟩ := g.seq
  obtain ⟨ts', y1, y2⟩ := g'.seq
  rw [e1] at y1
  cases y1
  exact ⟨e.symm, some_inj (y2.symm.trans e2)⟩
noncomputable def SmR (m : Nat) (r : Rat) : Prop := Sz m r.num ∧ Sz m (r.den : Int)
noncomputable def SmQ (m : Nat) (qs : List (Rat × Rat)) : Prop := ∀ p ∈ qs, SmR m p.1 ∧ SmR m p.2
theorem SmR.mono {m n : Nat} {r : Rat} (h : SmR m r) (k : m ≤ n) : SmR n r := ⟨h.1.mono k, h.2.mono k⟩
theorem SmR.fr {m : Nat} {r : Rat} (h : SmR m r) (k : m ≤ 4400) {H : Hp} {f : Addr} (e : H f = some (.tup [.int r.num, .int (r.den : Int)])) : FrA H f r := ⟨e, h.1.mono k, h.2.mono k⟩
theorem SmR.fq {m : Nat} {r : Rat} (h : SmR m r) (k : m ≤ 4400) {H : Hp} {f : Addr} (e : H f = some (.tup [.int r.num, .int (r.den : Int)])) : FqA H f r := ⟨_, _, e, rden r, by have := rsplit r; rw [Rat.intCast_natCast]; exact this, h.1.smk (by omega), h.2.smk (by omega)⟩
theorem rq_mul {t b : Int} (hb : 0 < b) : rq t b * (b : Rat) = (t : Rat) := by
  have hq : (b : Rat) ≠ 0 := by intro e; have : b = 0 := by exact_mod_cast e
                                omega
  unfold rq
  grind
theorem SmR.rq {m : Nat} {t b : Int} (hb : 0 < b) (st : Sz m t) (sb : Sz m b) : SmR m (rq t b) := by
  obtain ⟨f1, f2⟩ := fr_rat (Int.ne_of_gt hb) (rq_mul hb)
  have := Sz.fr (Int.ne_of_gt hb) st sb
  rw [f1, f2] at this
  exact this
theorem SmR.plus {r s : Rat} (h : SmR 20 r) (k : SmR 20 s) : SmR 60 (r + s) := by
  obtain ⟨f1, f2⟩ := fr_plus r s
  have := Sz.fr (n := 60) (m := 60) (mul_ne (rden r) (rden s)) (((h.1.mul k.2).add (k.1.mul h.2)).mono (by decide)) ((h.2.mul k.2).mono (by decide))
  rw [f1, f2] at this
  exact this
theorem SmR.minus {r s : Rat} (h : SmR 20 r) (k : SmR 20 s) : SmR 60 (r - s) := by
  obtain ⟨f1, f2⟩ := fr_minus r s
  have := Sz.fr (n := 60) (m := 60) (mul_ne (rden r) (rden s)) (((h.1.mul k.2).sub (k.1.mul h.2)).mono (by decide)) ((h.2.mul k.2).mono (by decide))
  rw [f1, f2] at this
  exact this
theorem smS_of {S : Th} {qs : List (Rat × Rat)} (e : seqOf S = some (thL qs)) (h : SmQ 60 qs) : ∀ ts, seqOf S = some ts → ∀ t ∈ ts, ∀ s, st2 t = some s → Sm2 s.1 ∧ Sm2 s.2 := fun ts et t ht s hs => by
  rw [e] at et
  cases et
  obtain ⟨u, hu, rfl⟩ := List.mem_map.mp ht
  obtain ⟨p, hp, rfl⟩ := List.mem_map.mp hu
  obtain ⟨_, rfl⟩ := st2_back hs
  obtain ⟨a, b⟩ := h p hp
  exact ⟨⟨a.1.smk (by decide), a.2.smk (by decide)⟩, ⟨b.1.smk (by decide), b.2.smk (by decide)⟩⟩
noncomputable def spLow : Sp := fun vs H Q _ => ∃ t b : Int, vs = [.int t, .int b] ∧ 0 < b ∧ Sz 60 t ∧ Sz 60 b ∧ NewFr H (rq t b) Q
theorem sc_low : FnScope ["_law_top", "_law_bottom", "_law_by"] ["_law_top", "_law_bottom"] (defScope s_low) := ⟨rfl, rfl, rfl, by decide +kernel, rfl, by decide +kernel, by decide +kernel⟩
theorem ok_low {f : Addr} {fd : FuncData} (F : Fun K "_law_lowest" "_law_lowest" s_low f fd) (T : Txt mg) {fdv : Addr} {ddv : FuncData} (Gdv : FnOk P w K mg base CX0 1 fdv ddv ["_law_one", "_law_other"] spCd) (bdv : Binds K ddv ["_law_one", "_law_other"] []) (kdv : PySem.W.keepIn K (.ref fdv) = true) (mdv : mg "_law_divisor" = some (.ref fdv)) : FnOk P w K mg base CX0 2 f fd ["_law_top", "_law_bottom"] spLow := by
  refine F.ok sc_low (fun vs H Q E h => ?_) (fun cdv A outer s H vs Q E hr h => ?_)
  · obtain ⟨t, b, rfl, _⟩ := h
    rfl
  obtain ⟨t, b, rfl, hb, st, sb, q⟩ := h
  refine ⟨_, (pss_cons (ps_set (i := 2) sc_low.nd rfl (Or.inl rfl) (pe_call Gdv hr rfl mdv kdv bdv .nil pass0 (pa_cons (pe_callB call_abs rfl T.abs boot_abs (pa_cons (pv 0) pa_nil)) (pa_cons (pv 1) pa_nil))))
    (pss_one (ps_ret (pe_tup (pa_cons (pe_op op_fdivK (pv 0) (pv 2)) (pa_cons (pe_op op_fdivK (pv 1) (pv 2)) pa_nil)))))), ?_⟩
  have ha : 0 ≤ (if t < 0 then -t else t) := by split <;> omega
  have eg : Int.gcd (if t < 0 then -t else t) b = Int.gcd t b := by
    have := gabs t b
    rw [if_neg (show ¬ b < 0 by omega)] at this
    exact this
  have nd := frD_ne (t := t) (b := b) (by omega)
  have sd := smk_frD (a := t) (b := b) (by omega) (sb.smk (by decide))
  have fd := frD_pos (a := t) hb
  rw [fd] at nd sd
  refine ⟨_, rfl, _, rfl, _, rfl, _, _, rfl, ha, by omega, ?_⟩
  rw [eg]
  refine ⟨_, rfl, _, rfl, _, _, rfl, rfl, ⟨nd, sd⟩, _, rfl, _, rfl, _, _, rfl, rfl, ⟨nd, sd⟩, (by show 2 ≤ sizeLine; decide), fun p hp => ?_⟩
  refine q p _ (same_new hp _) ?_
  obtain ⟨f1, f2⟩ := fr_rat (Int.ne_of_gt hb) (rq_mul (t := t) hb)
  unfold frT at f1
  unfold frB at f2
  rw [fd] at f1 f2
  rw [upd_same]
  show some (HO.tup [V.int (t.fdiv (Int.gcd t b : Int)), V.int (b.fdiv (Int.gcd t b : Int))]) = _
  rw [f1, f2]
theorem set_cut {ws : List V} {k : Nat} {x : V} (h : k < ws.length) : ws.take k ++ [x] ++ ws.drop (k + 1) = ws.set k x := by
  rw [List.set_eq_take_append_cons_drop, if_pos h]
  simp
theorem cutV_up {ws : List V} {k : Nat} (h : k ≤ ws.length) : cutV ws none (some (k : Int)) = ws.take k := by
  unfold cutV
  rw [HT.sIx_nat, HT.sIx_none, Nat.min_eq_left h]
  rfl
theorem cutV_from {ws : List V} {k : Nat} (h : k ≤ ws.length) : cutV ws (some (k : Int)) none = ws.drop k := by
  unfold cutV
  rw [HT.sIx_nat, HT.sIx_none, Nat.min_eq_left h, List.take_of_length_le (by simp)]
noncomputable def spWe : Sp := fun vs H Q _ => ∃ (t v b la ha : Addr) (ws : List V) (k : Nat) (e : Str), vs = [.ref t, .int k, .str e, .ref v] ∧ H t = some (.tup ws) ∧ ws.length ≤ 30 ∧ ws[k]? = some (.ref b) ∧ H b = some (.tup [.ref la, .ref ha]) ∧
  ∀ p c H', Same H H' → H' p = some (.tup (ws.set k (.ref c))) → H' c = some (.tup (if e = "low" then [.ref v, .ref ha] else [.ref la, .ref v])) → Q (.ref p) H'
theorem sc_we : FnScope ["stretches", "k", "end", "value", "stretch", "changed"] ["stretches", "k", "end", "value"] (defScope s_we) := ⟨rfl, rfl, rfl, by decide +kernel, rfl, by decide +kernel, by decide +kernel⟩
theorem ok_we {f : Addr} {fd : FuncData} (F : Fun K "with_end" "with_end" s_we f fd) (T : Txt mg) : FnOk P w K mg base CX0 1 f fd ["stretches", "k", "end", "value"] spWe := by
  refine F.ok sc_we (fun vs H Q E h => ?_) (fun cdv A outer s H vs Q E hr h => ?_)
  · obtain ⟨t, v, b, la, ha, ws, k, e, rfl, _⟩ := h
    rfl
  obtain ⟨t, v, b, la, ha, ws, k, e, rfl, ht, h30, hk, hb, q⟩ := h
  refine ⟨_, (pss_cons (ps_set (i := 4) sc_we.nd rfl (Or.inl rfl) (pe_ix ix_tup (pv 0) (pv 1) (fun _ _ => rfl)))
    (pss_cons (ps_set (i := 5) sc_we.nd rfl (Or.inl rfl) (pe_ifExp (pt_cmpR op_eq (pv 2) pe_str (nomark _)) (pe_tup (pa_cons (pv 3) (pa_cons (pe_ix ix_tup (pv 4) pe_int (fun _ _ => rfl)) pa_nil))) (pe_tup (pa_cons (pe_ix ix_tup (pv 4) pe_int (fun _ _ => rfl)) (pa_cons (pv 3) pa_nil)))))
    (pss_one (ps_ret (pe_op op_catU (pe_op op_catU (pe_slice sl_tup (pv 0) po_none (po_some (pv 1))) (pe_tup (pa_cons (pv 5) pa_nil))) (pe_slice sl_tup (pv 0) (po_some (pe_op op_add (pv 1) pe_int)) po_none)))))), ?_⟩
  have hkl := (List.getElem?_eq_some_iff.mp hk).1
  have one : 1 ≤ sizeLine := by decide
  have two : 2 ≤ sizeLine := by decide
  have sz : ∀ {m : Nat}, m ≤ 40 → m ≤ sizeLine := fun h => Nat.le_of_lt (lt40 h)
  have c1 : ¬ (HT.sIx ws.length 0 none = 0 ∧ HT.sIx ws.length ws.length (some (k : Int)) = ws.length) := by rw [HT.sIx_nat]; omega
  have c2 : ¬ (HT.sIx ws.length 0 (some ((k : Int) + 1)) = 0 ∧ HT.sIx ws.length ws.length none = ws.length) := by
    rw [show ((k : Int) + 1) = ((k + 1 : Nat) : Int) from rfl, HT.sIx_nat]
    omega
  have e1 := cutV_up (ws := ws) (k := k) (by omega)
  have e2 : cutV ws (some ((k : Int) + 1)) none = ws.drop (k + 1) := cutV_from (ws := ws) (k := k + 1) (by omega)
  have es := fun x => set_cut (x := x) hkl
  refine ⟨_, rfl, _, rfl, t, ws, k, _, rfl, rfl, SqT.of ht, atI_nat hk, ?_⟩
  dsimp only
  refine seq_by (fun σ G => Same H G ∧ ∃ c, σ = [some (.ref t), some (.int k), some (.str e), some (.ref v), some (.ref b), some (.ref c)] ∧ G c = some (.tup (if e = "low" then [.ref v, .ref ha] else [.ref la, .ref v]))) ?_ ?_
  · intro M hM
    refine ⟨_, rfl, rfl, _, rfl, ?_⟩
    refine ite2 (fun d => ?_) (fun d => ?_)
    · have d' : V.str e = V.str "low" := of_decide_eq_true d
      have d2 : e = "low" := by injection d'
      refine ⟨_, rfl, _, rfl, b, _, 1, _, rfl, rfl, SqT.of hb, at1, two, fun c hc => hM _ _ ⟨same_new hc _, c, rfl, ?_⟩⟩
      rw [upd_same, if_pos d2]
    · have d2 : ¬ e = "low" := fun z => d (decide_eq_true (congrArg V.str z))
      refine ⟨_, rfl, b, _, 0, _, rfl, rfl, SqT.of hb, at0, _, rfl, two, fun c hc => hM _ _ ⟨same_new hc _, c, rfl, ?_⟩⟩
      rw [upd_same, if_neg d2]
  rintro σ G ⟨sG, c, rfl, hc⟩
  have htG := sG _ _ ht
  refine ⟨_, rfl, _, rfl, _, rfl, t, ws, rfl, SqT.of htG, c1, fun p1 h1 => ?_⟩
  rw [e1]
  have w1 := same_new h1 (.tup (ws.take k))
  have x1 : upd G p1 (.tup (ws.take k)) p1 = some (.tup (ws.take k)) := upd_same
  generalize upd G p1 (.tup (ws.take k)) = G1 at *
  refine ⟨_, rfl, one, fun p2 h2 => ?_⟩
  have w2 := same_new h2 (.tup [V.ref c])
  have x2 : upd G1 p2 (.tup [V.ref c]) p2 = some (.tup [V.ref c]) := upd_same
  generalize upd G1 p2 (.tup [V.ref c]) = G2 at *
  have hne : k ≠ 0 → ws.take k ≠ [] := fun z1 z => by
    have z2 : (ws.take k).length = 0 := by rw [z]; rfl
    rw [List.length_take] at z2
    omega
  by_cases hk0 : k = 0
  · refine .inl ⟨p1, p2, _, rfl, rfl, SqT.of (by rw [w2 _ _ x1, hk0]; rfl), SqT.of x2, ?_⟩
    refine ⟨_, rfl, _, rfl, _, _, rfl, rfl, _, rfl, t, ws, rfl, SqT.of ((w1.trans w2) _ _ htG), c2, fun p4 h4 => ?_⟩
    rw [e2]
    have w4 := same_new h4 (.tup (ws.drop (k + 1)))
    have x4 : upd G2 p4 (.tup (ws.drop (k + 1))) p4 = some (.tup (ws.drop (k + 1))) := upd_same
    generalize upd G2 p4 (.tup (ws.drop (k + 1))) = G4 at *
    have x4' := w4 _ _ x2
    refine .inr ⟨p2, p4, [V.ref c], ws.drop (k + 1), rfl, rfl, SqT.of x4', SqT.of x4, by simp, sz (by simp; omega), fun z => ?_, fun z p5 h5 => ?_⟩
    · refine q p2 c _ ((sG.trans (w1.trans w2)).trans w4) ?_ (((w1.trans w2).trans w4) _ _ hc)
      rw [x4', ← es, z] <;> simp [hk0]
    · have w5 := same_new h5 (.tup ([V.ref c] ++ ws.drop (k + 1)))
      refine q p5 c _ (((sG.trans (w1.trans w2)).trans w4).trans w5) ?_ ((((w1.trans w2).trans w4).trans w5) _ _ hc)
      rw [upd_same, ← es] <;> simp [hk0]
  · refine .inr ⟨p1, p2, _, _, rfl, rfl, SqT.of (w2 _ _ x1), SqT.of x2, (hne hk0), sz (by simp; omega), fun z => absurd z (by simp), fun _ p3 h3 => ?_⟩
    have w3 := same_new h3 (.tup (ws.take k ++ [V.ref c]))
    have x3 : upd G2 p3 (.tup (ws.take k ++ [V.ref c])) p3 = some (.tup (ws.take k ++ [V.ref c])) := upd_same
    generalize upd G2 p3 (.tup (ws.take k ++ [V.ref c])) = G3 at *
    refine ⟨_, rfl, _, rfl, _, _, rfl, rfl, _, rfl, t, ws, rfl, SqT.of (((w1.trans w2).trans w3) _ _ htG), c2, fun p4 h4 => ?_⟩
    rw [e2]
    have w4 := same_new h4 (.tup (ws.drop (k + 1)))
    have x4 : upd G3 p4 (.tup (ws.drop (k + 1))) p4 = some (.tup (ws.drop (k + 1))) := upd_same
    generalize upd G3 p4 (.tup (ws.drop (k + 1))) = G4 at *
    have x4' := w4 _ _ x3
    refine .inr ⟨p3, p4, (ws.take k ++ [V.ref c]), ws.drop (k + 1), rfl, rfl, SqT.of x4', SqT.of x4, by simp, sz (by simp; omega), fun z => ?_, fun z p5 h5 => ?_⟩
    · refine q p3 c _ ((sG.trans ((w1.trans w2).trans w3)).trans w4) ?_ ((((w1.trans w2).trans w3).trans w4) _ _ hc)
      rw [x4', ← es, z] <;> simp
    · have w5 := same_new h5 (.tup ((ws.take k ++ [V.ref c]) ++ ws.drop (k + 1)))
      refine q p5 c _ (((sG.trans ((w1.trans w2).trans w3)).trans w4).trans w5) ?_ (((((w1.trans w2).trans w3).trans w4).trans w5) _ _ hc)
      rw [upd_same, ← es] <;> simp
theorem dens_set {H : Hp} : ∀ {ts : List Th} {xs : List V} {k : Nat} {t : Th} {v : V}, Dens H ts xs → Den H t v → Dens H (ts.set k t) (xs.set k v)
  | [], xs, k, t, v, h, d => by rw [show xs = [] from h]; simp [Dens]
  | u :: us, xs, 0, t, v, ⟨y, ys, e, d1, d2⟩, d => by rw [e]; exact ⟨v, ys, rfl, d, d2⟩
  | u :: us, xs, k + 1, t, v, ⟨y, ys, e, d1, d2⟩, d => by rw [e]; exact ⟨y, ys.set k v, rfl, d1, dens_set d2 d⟩
theorem thL_set {qs : List (Rat × Rat)} {k : Nat} {p : Rat × Rat} : thL (qs.set k p) = (thL qs).set k (ssT (sqR p)) := by
  unfold thL
  rw [List.map_set, List.map_set]
noncomputable def mvP (e : Str) (s : Int) (p : Rat × Rat) : Rat × Rat := if e = "low" then (p.1 + rq 1 s, p.2) else (p.1, p.2 - rq 1 s)
theorem SmQ.set {qs : List (Rat × Rat)} {k : Nat} {p : Rat × Rat} (h : SmQ 60 qs) (h1 : SmR 60 p.1) (h2 : SmR 60 p.2) : SmQ 60 (qs.set k p) := fun x hx => by
  rcases List.mem_or_eq_of_mem_set hx with z | z
  · exact h x z
  · rw [z]; exact ⟨h1, h2⟩
noncomputable def spMov : Sp := fun vs H Q _ => ∃ (r t : Addr) (ws : List V) (n s : Int) (k : Nat) (e : Str) (qs : List (Rat × Rat)) (p : Rat × Rat), vs = [.ref r, .int k, .str e, .int s] ∧ H r = some (.tup [.int n, .ref t]) ∧ H t = some (.tup ws) ∧ Dens H (thL qs) ws ∧ 1 ≤ n ∧ n ≤ 12 ∧ (qs.length : Int) = n + 1 ∧ qs[k]? = some p ∧ SmQ 20 qs ∧ 0 < s ∧ Sz 20 s ∧
  (IsR (qs.set k (mvP e s p)) → ∀ f H', Same H H' → Den H' (ruT n ((qs.set k (mvP e s p)).map sqR)) (.ref f) → Q (.ref f) H') ∧ (¬ IsR (qs.set k (mvP e s p)) → ∀ H', Same H H' → Q .non H')
theorem sc_mov : FnScope ["rule", "k", "end", "measure", "stretch", "step", "value"] ["rule", "k", "end", "measure"] (defScope s_mov) := ⟨rfl, rfl, rfl, by decide +kernel, rfl, by decide +kernel, by decide +kernel⟩
theorem ok_mov {C : CA} {f : Addr} {fd : FuncData} (F : Fun K "moved" "moved" s_mov f fd) (T : Txt mg) (cf : CF K mg C) {ffrac : Addr} {dfrac : FuncData} (Gfrac : FnOk P w K mg base (CXX P w) 6 ffrac dfrac ["top", "bottom"] (spFrac C)) (bfrac : Binds K dfrac ["top", "bottom"] []) (kfrac : PySem.W.keepIn K (.ref ffrac) = true) (mfrac : mg "fraction" = some (.ref ffrac)) {fplus : Addr} {dplus : FuncData} (Gplus : FnOk P w K mg base CX0 6 fplus dplus ["one", "other"] spPlus) (bplus : Binds K dplus ["one", "other"] []) (kplus : PySem.W.keepIn K (.ref fplus) = true) (mplus : mg "plus" = some (.ref fplus)) {fminus : Addr} {dminus : FuncData} (Gminus : FnOk P w K mg base CX0 6 fminus dminus ["one", "other"] spMinus) (bminus : Binds K dminus ["one", "other"] []) (kminus : PySem.W.keepIn K (.ref fminus) = true) (mminus : mg "minus" = some (.ref fminus)) {fruleof : Addr} {druleof : FuncData} (Gruleof : FnOk P w K mg base (CXX P w) 6 fruleof druleof ["n", "stretches"] (spRuX C)) (bruleof : Binds K druleof ["n", "stretches"] []) (kruleof : PySem.W.keepIn K (.ref fruleof) = true) (mruleof : mg "rule_of" = some (.ref fruleof)) {fwe : Addr} {dwe : FuncData} (Gwe : FnOk P w K mg base CX0 6 fwe dwe ["stretches", "k", "end", "value"] spWe) (bwe : Binds K dwe ["stretches", "k", "end", "value"] []) (kwe : PySem.W.keepIn K (.ref fwe) = true) (mwe : mg "with_end" = some (.ref fwe)) : FnOk P w K mg base CX0 7 f fd ["rule", "k", "end", "measure"] spMov := by
  refine F.ok sc_mov (fun vs H Q E h => ?_) (fun cdv A outer s H vs Q E hr h => ?_)
  · obtain ⟨r, t, ws, n, s, k, e, qs, p, rfl, _⟩ := h
    rfl
  obtain ⟨r, t, ws, n, s, k, e, qs, p, rfl, hr1, ht, dd, n1, n12, hl, hp, hsm, s0, ss, q1, q2⟩ := h
  refine ⟨_, (pss_cons (ps_set (i := 4) sc_mov.nd rfl (Or.inl rfl) (pe_ix ix_tup (pe_ix ix_tup (pv 0) pe_int (fun _ _ => rfl)) (pv 1) (fun _ _ => rfl)))
    (pss_cons (ps_set (i := 5) sc_mov.nd rfl (Or.inl rfl) (pe_call Gfrac hr rfl mfrac kfrac bfrac .nil passN (pa_cons pe_int (pa_cons (pv 3) pa_nil))))
    (pss_cons (ps_set (i := 6) sc_mov.nd rfl (Or.inl rfl) (pe_ifExp (pt_cmpR op_eq (pv 2) pe_str (nomark _)) (pe_call Gplus hr rfl mplus kplus bplus .nil pass0 (pa_cons (pe_ix ix_tup (pv 4) pe_int (fun _ _ => rfl)) (pa_cons (pv 5) pa_nil))) (pe_call Gminus hr rfl mminus kminus bminus .nil pass0 (pa_cons (pe_ix ix_tup (pv 4) pe_int (fun _ _ => rfl)) (pa_cons (pv 5) pa_nil)))))
    (pss_one (ps_try0 ⟨rfl, rfl, rfl⟩ rfl cf.mNoRule cf.cNoRule (fun xe pn E hp => (pss_one (ps_ret (pe_callS Gruleof hr rfl mruleof kruleof bruleof .nil hp (pa_cons (pe_ix ix_tupY (pv 0) pe_int (fun _ _ => rfl)) (pa_cons (pe_call Gwe hr rfl mwe kwe bwe .nil pass0 (pa_cons (pe_ix ix_tupY (pv 0) pe_int (fun _ _ => rfl)) (pa_cons (pv 1) (pa_cons (pv 2) (pa_cons (pv 6) pa_nil))))) pa_nil)))))) (fun e oe => (pss_one (ps_ret pe_non)))))))), ?_⟩
  have lw : ws.length = qs.length := by rw [dd.len, thL_len]
  obtain ⟨v, f1, f2⟩ := dd.get (thL_at hp)
  obtain ⟨b, la, ha, rfl, hb, hla, hha⟩ := den_ss f2
  have sp := hsm _ (List.mem_of_getElem? hp)
  refine ⟨_, rfl, r, _, 1, _, rfl, rfl, SqT.of hr1, at1, _, rfl, t, ws, k, _, rfl, rfl, SqT.of ht, atI_nat f1, ?_⟩
  refine ⟨_, rfl, ?_⟩
  refine ⟨_, _, .int 1, .int s, rfl, rfl, rfl, fun a1 b1 e1 => ?_, fun e1 => ?_⟩
  rotate_left
  · rw [frOk_yes (Int.ne_of_gt s0)] at e1
    cases e1
  obtain ⟨y1, y2, _⟩ := frOk_shape e1
  cases y1
  cases y2
  refine ⟨ss.smk (by decide), fun a ha1' => ?_⟩
  have s1 := same_new ha1' (.tup [V.int (frT 1 s), V.int (frB 1 s)])
  have ha1 : upd H a (.tup [V.int (frT 1 s), V.int (frB 1 s)]) a = some (.tup [.int (rq 1 s).num, .int ((rq 1 s).den : Int)]) := by
    obtain ⟨f1, f2⟩ := fr_rat (Int.ne_of_gt s0) (rq_mul (t := 1) s0)
    rw [upd_same, f1, f2]
  generalize upd H a (.tup [V.int (frT 1 s), V.int (frB 1 s)]) = H1 at *
  have sr : SmR 20 (rq 1 s) := SmR.rq s0 (show (1 : Int).natAbs < 2 ^ 20 by decide) ss
  have fs := sr.fr (by decide) ha1
  dsimp only
  refine seq_by (fun σ G => Same H G ∧ ∃ x, σ = [some (.ref r), some (.int k), some (.str e), some (.int s), some (.ref b), some (.ref a), some (.ref x)] ∧ G x = some (.tup [.int (if e = "low" then p.1 + rq 1 s else p.2 - rq 1 s).num, .int ((if e = "low" then p.1 + rq 1 s else p.2 - rq 1 s).den : Int)])) ?_ ?_
  · intro M hM
    refine ⟨_, rfl, rfl, _, rfl, ?_⟩
    refine ite2 (fun d => ?_) (fun d => ?_)
    · have d' : V.str e = V.str "low" := of_decide_eq_true d
      have d2 : e = "low" := by injection d'
      refine ⟨_, rfl, b, _, 0, _, rfl, rfl, SqT.of (s1 _ _ hb), at0, _, rfl, la, a, p.1, rq 1 s, rfl, sp.1.fr (by decide) (s1 _ _ hla), fs, fun x H2 s2 hx => hM _ _ ⟨s1.trans s2, x, rfl, ?_⟩⟩
      rw [if_pos d2]
      exact hx
    · have d2 : ¬ e = "low" := fun z => d (decide_eq_true (congrArg V.str z))
      refine ⟨_, rfl, b, _, 1, _, rfl, rfl, SqT.of (s1 _ _ hb), at1, _, rfl, ha, a, p.2, rq 1 s, rfl, sp.2.fr (by decide) (s1 _ _ hha), fs, fun x H2 s2 hx => hM _ _ ⟨s1.trans s2, x, rfl, ?_⟩⟩
      rw [if_neg d2]
      exact hx
  rintro σ G ⟨sG, x, rfl, hx⟩
  have hr1' := sG _ _ hr1
  refine ⟨_, rfl, r, _, 0, _, rfl, rfl, SqT.of hr1', at0, _, rfl, r, _, 1, _, rfl, rfl, SqT.of hr1', at1, _, rfl, _, rfl, _, rfl, t, x, b, la, ha, ws, k, e, rfl, sG _ _ ht, by omega, f1, sG _ _ hb, fun y c H2 s2 hy hc => ?_⟩
  have s02 := sG.trans s2
  have dc : Den H2 (ssT (sqR (mvP e s p))) (.ref c) := by
    unfold mvP
    by_cases d : e = "low"
    · rw [if_pos d] at hc hx ⊢
      exact den2 hc (den_p (s2 _ _ hx)) (den_p (s02 _ _ hha))
    · rw [if_neg d] at hc hx ⊢
      exact den2 hc (den_p (s02 _ _ hla)) (den_p (s2 _ _ hx))
  have sm' : SmQ 60 (qs.set k (mvP e s p)) := by
    have h60 : SmQ 60 qs := fun x hx => ⟨(hsm x hx).1.mono (by decide), (hsm x hx).2.mono (by decide)⟩
    unfold mvP
    split
    · exact h60.set (sp.1.plus sr) (sp.2.mono (by decide))
    · exact h60.set (sp.1.mono (by decide)) (sp.2.minus sr)
  have dS : Den H2 (.tup (thL (qs.set k (mvP e s p)))) (.ref y) := ⟨y, _, rfl, hy, by rw [thL_set]; exact dens_set (dd.keep s02) dc⟩
  have eS : seqOf (.tup (thL (qs.set k (mvP e s p)))) = some (thL (qs.set k (mvP e s p))) := rfl
  refine ⟨_, _, .int n, .tup (thL (qs.set k (mvP e s p))), rfl, rfl, dS, smS_of eS sm', fun n' ps' g f H3 s3 df => ?_, fun hb3 H3 s3 => ⟨cf.sub, fun x1 oe hn hoe => ?_⟩⟩
  · have ir := good_isr eS g
    obtain ⟨rfl, rfl⟩ := good_uq g (isr_good eS n1 n12 (by rw [List.length_set]; exact hl) ir)
    exact q1 ir f H3 (s02.trans s3) df
  · exact q2 (fun ir => hb3 _ _ (isr_good eS n1 n12 (by rw [List.length_set]; exact hl) ir)) _ (s02.trans s3)
theorem boot_sorted : bootBuiltins "sorted" = some (.builtin "sorted") := by decide +kernel
theorem rq_le {a b m : Int} (hm : 0 < m) (h : a ≤ b) : rq a m ≤ rq b m := (fq_le hm hm (rq_mul hm) (rq_mul hm)).mp (Int.mul_le_mul_of_nonneg_right h (by omega))
theorem rq_0 {a m : Int} (hm : 0 < m) (h : 0 ≤ a) : 0 ≤ rq a m := (fq_le (t1 := 0) (b1 := 1) (r := 0) (by decide) hm (by simp) (rq_mul hm)).mp (by omega)
theorem rq_1 {a m : Int} (hm : 0 < m) (h : a ≤ m) : rq a m ≤ 1 := (fq_le (t2 := 1) (b2 := 1) (s := 1) hm (by decide) (rq_mul hm) (by simp)).mp (by omega)
noncomputable def mx (l h : Int) : Int := if l < h then h else l
noncomputable def qsOf (m : Int) (los his : List Int) : List (Rat × Rat) := List.zipWith (fun l h => (rq l m, rq (mx l h) m)) los his
theorem qs_at {m : Int} {los his : List Int} {i : Nat} {p : Rat × Rat} (h : (qsOf m los his)[i]? = some p) : ∃ l k, los[i]? = some l ∧ his[i]? = some k ∧ p = (rq l m, rq (mx l k) m) := by
  unfold qsOf at h
  rw [List.getElem?_zipWith] at h
  cases e1 : los[i]? with
  | none => rw [e1] at h; cases h
  | some l =>
    cases e2 : his[i]? with
    | none => rw [e1, e2] at h; cases h
    | some k => rw [e1, e2] at h; exact ⟨l, k, rfl, rfl, (Option.some.inj h).symm⟩
theorem pw_at {l : List Int} (h : l.Pairwise (· ≤ ·)) {i : Nat} {a b : Int} (ha : l[i]? = some a) (hb : l[i + 1]? = some b) : a ≤ b := by
  obtain ⟨h1, rfl⟩ := List.getElem?_eq_some_iff.mp ha
  obtain ⟨h2, rfl⟩ := List.getElem?_eq_some_iff.mp hb
  exact List.pairwise_iff_getElem.mp h i (i + 1) h1 h2 (by omega)
noncomputable def InM (m : Int) (l : List Int) : Prop := ∀ x ∈ l, 0 ≤ x ∧ x ≤ m
theorem mx_in {m l k : Int} (h1 : 0 ≤ l ∧ l ≤ m) (h2 : 0 ≤ k ∧ k ≤ m) : 0 ≤ mx l k ∧ mx l k ≤ m ∧ l ≤ mx l k := by unfold mx; split <;> omega
theorem qs_isr {m : Int} {los his : List Int} (hm : 0 < m) (i1 : InM m los) (i2 : InM m his) (p1 : los.Pairwise (· ≤ ·)) (p2 : his.Pairwise (· ≤ ·)) : IsR (qsOf m los his) where
  inn := fun p hp => by
    obtain ⟨i, hi⟩ := List.mem_iff_getElem?.mp hp
    obtain ⟨l, k, e1, e2, rfl⟩ := qs_at hi
    have a1 := i1 l (List.mem_of_getElem? e1)
    have a2 := i2 k (List.mem_of_getElem? e2)
    obtain ⟨b1, b2, b3⟩ := mx_in a1 a2
    exact ⟨rq_0 hm a1.1, rq_le hm b3, rq_1 hm b2⟩
  ris := fun i p q hp hq => by
    obtain ⟨l, k, e1, e2, rfl⟩ := qs_at hp
    obtain ⟨l', k', f1, f2, rfl⟩ := qs_at hq
    have c1 := pw_at p1 e1 f1
    have c2 := pw_at p2 e2 f2
    exact ⟨rq_le hm c1, rq_le hm (by unfold mx; split <;> split <;> omega)⟩
theorem sz20 {i : Int} (h : i.natAbs ≤ 100000) : Sz 20 i := Nat.lt_of_le_of_lt h (by decide)
theorem qs_sm {m : Int} {los his : List Int} (hm : 0 < m) (h12 : m ≤ 12) (i1 : InM m los) (i2 : InM m his) : SmQ 20 (qsOf m los his) := fun p hp => by
  obtain ⟨i, hi⟩ := List.mem_iff_getElem?.mp hp
  obtain ⟨l, k, e1, e2, rfl⟩ := qs_at hi
  have a1 := i1 l (List.mem_of_getElem? e1)
  have a2 := i2 k (List.mem_of_getElem? e2)
  obtain ⟨b1, b2, b3⟩ := mx_in a1 a2
  exact ⟨SmR.rq hm (sz20 (by omega)) (sz20 (by omega)), SmR.rq hm (sz20 (by omega)) (sz20 (by omega))⟩
theorem in_snoc {m x : Int} {l : List Int} (h : InM m l) (h1 : 0 ≤ x ∧ x ≤ m) : InM m (l ++ [x]) := fun y hy => by
  rcases List.mem_append.mp hy with z | z
  · exact h y z
  · rw [List.mem_singleton.mp z]; exact h1
theorem dens_write2 {H : Hp} {l : Addr} {zs ws : List V} (hl : H l = some (.lst zs)) {qs : List (Rat × Rat)} {xs : List V} (h : Dens H (thL qs) xs) : Dens (upd H l (.lst ws)) (thL qs) xs :=
  dens_write hl (fun t ht => by obtain ⟨s, _, rfl⟩ := List.mem_map.mp ht; exact ⟨s, rfl⟩) h
noncomputable def spSts (K : PySem.W.Frag) : Sp := fun vs H Q _ => ∃ (a : Addr) (ns : List Int) (n m : Int), vs = [.ref a, .int n, .int m] ∧ SqL K H a (ns.map V.int) ∧ 1 ≤ n ∧ n ≤ 5 ∧ 1 ≤ m ∧ m ≤ 12 ∧
  ∀ F ws qs H', Same H H' → H' F = some (.lst ws) → Dens H' (thL qs) ws → (qs.length : Int) = n + 1 → IsR qs → SmQ 20 qs → Q (.ref F) H'
theorem sc_sts : FnScope ["_law_script", "_law_n", "_law_measure", "_law_lows", "_law_highs", "_law_k", "_law_xs", "_law_found"] ["_law_script", "_law_n", "_law_measure"] (defScope s_sts) := ⟨rfl, rfl, rfl, by decide +kernel, rfl, by decide +kernel, by decide +kernel⟩
theorem ok_sts {f : Addr} {fd : FuncData} (F : Fun K "_law_stretches" "_law_stretches" s_sts f fd) (T : Txt mg) {fcell : Addr} {dcell : FuncData} (Gcell : FnOk P w K mg base CX0 2 fcell dcell ["_law_script", "_law_k"] (spCell K)) (bcell : Binds K dcell ["_law_script", "_law_k"] []) (kcell : PySem.W.keepIn K (.ref fcell) = true) (mcell : mg "_law_cell_at" = some (.ref fcell)) {fstream : Addr} {dstream : FuncData} (Gstream : FnOk P w K mg base CX0 2 fstream dstream ["_law_cell", "_law_salt", "_law_many"] spStream) (bstream : Binds K dstream ["_law_cell", "_law_salt", "_law_many"] []) (kstream : PySem.W.keepIn K (.ref fstream) = true) (mstream : mg "_law_stream" = some (.ref fstream)) {flow : Addr} {dlow : FuncData} (Glow : FnOk P w K mg base CX0 2 flow dlow ["_law_top", "_law_bottom"] spLow) (blow : Binds K dlow ["_law_top", "_law_bottom"] []) (klow : PySem.W.keepIn K (.ref flow) = true) (mlow : mg "_law_lowest" = some (.ref flow)) : FnOk P w K mg base CX0 3 f fd ["_law_script", "_law_n", "_law_measure"] (spSts K) := by
  refine F.ok sc_sts (fun vs H Q E h => ?_) (fun cdv A outer s H vs Q E hr h => ?_)
  · obtain ⟨a, ns, n, m, rfl, _⟩ := h
    rfl
  obtain ⟨a, ns, n, m, rfl, hS, n1, n5, m1, m12, q⟩ := h
  refine ⟨_, (pss_cons (ps_set (i := 3) sc_sts.nd rfl (Or.inl rfl) (pe_lst pa_nil))
    (pss_cons (ps_set (i := 4) sc_sts.nd rfl (Or.inl rfl) (pe_lst pa_nil))
    (pss_cons (ps_for PassesOwn.never rfl (pi_range1 rfl T.range (pa_cons (pe_op op_add (pv 1) pe_int) pa_nil)) (pg_name (i := 5) sc_sts.nd rfl (Or.inl rfl)) (pss_cons (ps_set (i := 6) sc_sts.nd rfl (Or.inl rfl) (pe_call Gstream hr rfl mstream kstream bstream .nil pass0 (pa_cons (pe_call Gcell hr rfl mcell kcell bcell .nil pass0 (pa_cons (pv 0) (pa_cons (pe_op op_add pe_int (pv 5)) pa_nil))) (pa_cons (pe_op op_add pe_int (pv 5)) (pa_cons pe_int pa_nil)))))
      (pss_cons (ps_expr (pe_bm PySem.F.plainAttrs_list PySem.F.slot_list_append PySem.F.type_list_append mt_append (pv 3) (pa_cons (pe_op op_mod (pe_ix ix_list (pv 6) pe_int (fun _ _ => rfl)) (pe_op op_add (pv 2) pe_int)) pa_nil)))
      (pss_one (ps_expr (pe_bm PySem.F.plainAttrs_list PySem.F.slot_list_append PySem.F.type_list_append mt_append (pv 4) (pa_cons (pe_op op_mod (pe_ix ix_list (pv 6) pe_int (fun _ _ => rfl)) (pe_op op_add (pv 2) pe_int)) pa_nil)))))))
    (pss_cons (ps_set (i := 3) sc_sts.nd rfl (Or.inl rfl) (pe_callB call_sortedI rfl T.sorted boot_sorted (pa_cons (pv 3) pa_nil)))
    (pss_cons (ps_set (i := 4) sc_sts.nd rfl (Or.inl rfl) (pe_callB call_sortedI rfl T.sorted boot_sorted (pa_cons (pv 4) pa_nil)))
    (pss_cons (ps_set (i := 7) sc_sts.nd rfl (Or.inl rfl) (pe_lst pa_nil))
    (pss_cons (ps_for PassesOwn.never rfl (pi_range1 rfl T.range (pa_cons (pe_op op_add (pv 1) pe_int) pa_nil)) (pg_name (i := 5) sc_sts.nd rfl (Or.inl rfl)) (pss_one (ps_expr (pe_bm PySem.F.plainAttrs_list PySem.F.slot_list_append PySem.F.type_list_append mt_append (pv 7) (pa_cons (pe_tup (pa_cons (pe_call Glow hr rfl mlow klow blow .nil pass0 (pa_cons (pe_ix ix_list (pv 3) (pv 5) (fun _ _ => rfl)) (pa_cons (pv 2) pa_nil))) (pa_cons (pe_call Glow hr rfl mlow klow blow .nil pass0 (pa_cons (pe_callB (call_max2 rfl) rfl T.max boot_max (pa_cons (pe_ix ix_list (pv 3) (pv 5) (fun _ _ => rfl)) (pa_cons (pe_ix ix_list (pv 4) (pv 5) (fun _ _ => rfl)) pa_nil))) (pa_cons (pv 2) pa_nil))) pa_nil))) pa_nil)))))
    (pss_one (ps_ret (pv 7)))))))))), ?_⟩
  have two : 2 ≤ sizeLine := by decide
  have hm : (0 : Int) < m + 1 := by omega
  refine ⟨Nat.zero_le _, fun L hL => ?_⟩
  have w1 := same_new hL (.lst [])
  have x1 : upd H L (.lst []) L = some (.lst []) := upd_same
  generalize upd H L (.lst []) = H1 at *
  refine ⟨Nat.zero_le _, fun B hB => ?_⟩
  have nBL : B ≠ L := fun z => by rw [z, x1] at hB; cases hB
  have w2 := same_new hB (.lst [])
  have x2 : upd H1 B (.lst []) B = some (.lst []) := upd_same
  have x1' := w2 _ _ x1
  generalize upd H1 B (.lst []) = H2 at *
  have w02 := w1.trans w2
  have hBn : H B = none := by
    cases e : H B with
    | none => rfl
    | some u => rw [w1 _ _ e] at hB; cases hB
  refine ⟨_, rfl, _, _, rfl, rfl, _, rfl, by omega, by omega, ?_⟩
  refine for_range (lo := 0) (fun i σ G => Same H G ∧ ∃ (xs ys : List Int) (v5 v6 : Option V), σ = [some (.ref a), some (.int n), some (.int m), some (.ref L), some (.ref B), v5, v6, none] ∧ G L = some (.lst (xs.map V.int)) ∧ G B = some (.lst (ys.map V.int)) ∧ xs.length = i ∧ ys.length = i ∧ InM m xs ∧ InM m ys) ⟨w02, [], [], none, none, rfl, x1', x2, rfl, rfl, fun x hx => (by cases hx), fun x hx => (by cases hx)⟩ ?_ ?_
  · rintro i σ G hi ⟨sm, xs, ys, v5, v6, rfl, hL1, hB1, lx, ly, ix, iy⟩
    refine ⟨_, rfl, _, rfl, _, _, rfl, rfl, a, ns, _, rfl, sm.seq hS, by omega, _, rfl, _, _, rfl, rfl, _, _, 2, rfl, by omega, by omega, by omega, fun l G1 zs hl s1 hl1 lz az => ?_⟩
    match zs, lz, az, hl1 with
    | [z0, z1], _, az, hl1 =>
    have nlL : l ≠ L := fun z => by rw [z, hL1] at hl; cases hl
    have hL2 := s1 _ _ hL1
    have hB2 := s1 _ _ hB1
    refine ⟨_, rfl, .inl ⟨rfl, _, SqL.of hL2⟩, _, rfl, l, _, 0, _, rfl, rfl, SqL.of hl1, at0, _, rfl, _, _, rfl, rfl, _, _, rfl, rfl, hm, L, _, _, rfl, rfl, hL2, lt40 (by rw [List.length_map]; omega), ?_⟩
    have hl3 : upd G1 L (.lst (xs.map V.int ++ [V.int (z0 % (m + 1))])) l = some (.lst ([z0, z1].map V.int)) := by rw [upd_ne nlL]; exact hl1
    have hL3 : upd G1 L (.lst (xs.map V.int ++ [V.int (z0 % (m + 1))])) L = some (.lst (xs.map V.int ++ [V.int (z0 % (m + 1))])) := upd_same
    have hB3 : upd G1 L (.lst (xs.map V.int ++ [V.int (z0 % (m + 1))])) B = some (.lst (ys.map V.int)) := by rw [upd_ne nBL]; exact hB2
    have s3 : Same H (upd G1 L (.lst (xs.map V.int ++ [V.int (z0 % (m + 1))]))) := fun b o eb => by rw [upd_ne (ne_of_none eb hL)]; exact (sm.trans s1) b o eb
    dsimp only
    generalize upd G1 L (.lst (xs.map V.int ++ [V.int (z0 % (m + 1))])) = G3 at *
    refine ⟨_, rfl, .inl ⟨rfl, _, SqL.of hB3⟩, _, rfl, l, _, 1, _, rfl, rfl, SqL.of hl3, at1, _, rfl, _, _, rfl, rfl, _, _, rfl, rfl, hm, B, _, _, rfl, rfl, hB3, lt40 (by rw [List.length_map]; omega), ?_⟩
    have e0 := md0 z0 hm
    have e1 := md1 z0 hm
    have e2 := md0 z1 hm
    have e3 := md1 z1 hm
    refine ⟨fun b o eb => by rw [upd_ne (ne_of_none eb hBn)]; exact s3 b o eb, xs ++ [z0 % (m + 1)], ys ++ [z1 % (m + 1)], _, _, rfl, ?_, ?_, by simp [lx], by simp [ly], in_snoc ix (by omega), in_snoc iy (by omega)⟩
    · rw [upd_ne (Ne.symm nBL), hL3, List.map_append] <;> rfl
    · rw [upd_same, List.map_append] <;> rfl
  rintro σ G ⟨sm, xs, ys, v5, v6, rfl, hL1, hB1, lx, ly, ix, iy⟩
  refine ⟨_, rfl, L, xs, rfl, SqL.of hL1, by omega, fun D1 los hD1 pm1 pw1 => ?_⟩
  have w4 := same_new hD1 (.lst (los.map V.int))
  have x4 : upd G D1 (.lst (los.map V.int)) D1 = some (.lst (los.map V.int)) := upd_same
  generalize upd G D1 (.lst (los.map V.int)) = G4 at *
  refine ⟨_, rfl, B, ys, rfl, SqL.of (w4 _ _ hB1), by omega, fun D2 his hD2 pm2 pw2 => ?_⟩
  have w5 := same_new hD2 (.lst (his.map V.int))
  have x5 : upd G4 D2 (.lst (his.map V.int)) D2 = some (.lst (his.map V.int)) := upd_same
  generalize upd G4 D2 (.lst (his.map V.int)) = G5 at *
  have x45 := w5 _ _ x4
  have i1 : InM m los := fun x hx => ix x (pm1.mem_iff.mp hx)
  have i2 : InM m his := fun x hx => iy x (pm2.mem_iff.mp hx)
  have l1 := pm1.length_eq
  have l2 := pm2.length_eq
  refine ⟨Nat.zero_le _, fun F hF => ?_⟩
  have w6 := same_new hF (.lst [])
  have x6 : upd G5 F (.lst []) F = some (.lst []) := upd_same
  generalize upd G5 F (.lst []) = G6 at *
  have s6 := (sm.trans w4).trans (w5.trans w6)
  have lq : (qsOf m los his).length = (n + 1).toNat := by unfold qsOf; simp; omega
  refine ⟨_, rfl, _, _, rfl, rfl, _, rfl, by omega, by omega, ?_⟩
  refine for_range (lo := 0) (fun i σ G' => Same G5 G' ∧ ∃ (ws : List V) (v5 v6 : Option V), σ = [some (.ref a), some (.int n), some (.int m), some (.ref D1), some (.ref D2), v5, v6, some (.ref F)] ∧ G' F = some (.lst ws) ∧ Dens G' (thL ((qsOf m los his).take i)) ws) ⟨w6, [], _, _, rfl, x6, rfl⟩ ?_ ?_
  · rintro i σ G' hi ⟨s7, ws, v5', v6', rfl, hF7, dd⟩
    have hi' : i < (qsOf m los his).length := by omega
    have eq := List.getElem?_eq_getElem hi'
    obtain ⟨lo, hh, y1, y2, y3⟩ := qs_at eq
    have b1 := i1 lo (List.mem_of_getElem? y1)
    have b2 := i2 hh (List.mem_of_getElem? y2)
    obtain ⟨c1, c2, c3⟩ := mx_in b1 b2
    have z1 : (los.map V.int)[i]? = some (.int lo) := by rw [List.getElem?_map, y1]; rfl
    have z2 : (his.map V.int)[i]? = some (.int hh) := by rw [List.getElem?_map, y2]; rfl
    have s60 : ∀ {j : Int}, j.natAbs ≤ 100000 → Sz 60 j := fun h => (sz20 h).mono (by decide)
    rw [Int.zero_add]
    refine ⟨_, rfl, .inl ⟨rfl, _, SqL.of hF7⟩, _, rfl, _, rfl, D1, _, _, _, rfl, rfl, SqL.of (s7 _ _ x45), atI_nat z1, _, rfl, lo, m, rfl, by omega, s60 (by omega), s60 (by omega), fun p1 J1 t1 hp1 => ?_⟩
    refine ⟨_, rfl, _, rfl, D1, _, _, _, rfl, rfl, SqL.of ((s7.trans t1) _ _ x45), atI_nat z1, _, rfl, _, rfl, D2, _, _, _, rfl, rfl, SqL.of ((s7.trans t1) _ _ x5), atI_nat z2, _, _, rfl, _, rfl, mx lo hh, m, ?_, by omega, s60 (by omega), s60 (by omega), fun p2 J2 t2 hp2 => ?_⟩
    · unfold mx
      rfl
    refine ⟨two, fun c hc => ?_⟩
    have wc := same_new hc (.tup [V.ref p1, V.ref p2])
    have xc : upd J2 c (.tup [V.ref p1, V.ref p2]) c = some (.tup [V.ref p1, V.ref p2]) := upd_same
    generalize upd J2 c (.tup [V.ref p1, V.ref p2]) = J3 at *
    have t3 := (t1.trans t2).trans wc
    have hF8 := t3 _ _ hF7
    have lws : ws.length ≤ 40 := by rw [dd.len, thL_len]; simp; omega
    refine ⟨F, ws, .ref c, rfl, rfl, hF8, lt40 lws, ?_⟩
    have s8 : Same G5 (upd J3 F (.lst (ws ++ [V.ref c]))) := fun b o eb => by rw [upd_ne (ne_of_none eb hF)]; exact (s7.trans t3) b o eb
    refine ⟨s8, _, _, _, rfl, upd_same, ?_⟩
    have dc : Den J3 (ssT (sqR ((qsOf m los his)[i]'hi'))) (.ref c) := by
      rw [y3]
      exact den2 xc (den_p ((t2.trans wc) _ _ hp1)) (den_p (wc _ _ hp2))
    have et : (qsOf m los his).take (i + 1) = (qsOf m los his).take i ++ [(qsOf m los his)[i]'hi'] := by rw [List.take_add_one, eq]; rfl
    refine dens_write2 hF8 ?_
    rw [et]
    unfold thL
    rw [List.map_append, List.map_append]
    exact dens_snoc (dd.keep t3) dc
  · rintro σ G' ⟨s7, ws, v5', v6', rfl, hF7, dd⟩
    rw [List.take_of_length_le (by omega)] at dd
    refine ⟨_, rfl, q F ws (qsOf m los his) G' ((sm.trans w4).trans (w5.trans s7)) hF7 dd (by rw [lq]; omega) (qs_isr (by omega) i1 i2 pw1 pw2) (qs_sm (by omega) m12 i1 i2)⟩
noncomputable def spIsr : Sp := fun vs H Q _ => ∃ (F : Addr) (ws : List V) (qs : List (Rat × Rat)), vs = [.ref F] ∧ H F = some (.lst ws) ∧ Dens H (thL qs) ws ∧ qs.length ≤ 30 ∧ SmQ 60 qs ∧ (IsR qs → ∀ H', Same H H' → Q (.bl true) H') ∧ (¬ IsR qs → ∀ H', Same H H' → Q (.bl false) H')
theorem iteN {A B : Prop} {c : Prop} [Decidable c] (h1 : ¬ c → A) (h2 : c → B) : if (!decide c) = true then A else B := by
  by_cases h : c
  · rw [if_neg (by rw [decide_eq_true h]; decide)]; exact h2 h
  · rw [if_pos (by rw [decide_eq_false h]; rfl)]; exact h1 h
theorem sc_isr : FnScope ["_law_stretches_here", "_law_k", "_law_low", "_law_high"] ["_law_stretches_here"] (defScope s_isr) := ⟨rfl, rfl, rfl, by decide +kernel, rfl, by decide +kernel, by decide +kernel⟩
theorem ok_isr {f : Addr} {fd : FuncData} (F : Fun K "_law_is_rule" "_law_is_rule" s_isr f fd) (T : Txt mg) {fnm : Addr} {dnm : FuncData} (Gnm : FnOk P w K mg base CX0 1 fnm dnm ["_law_one", "_law_other"] spNm) (bnm : Binds K dnm ["_law_one", "_law_other"] []) (knm : PySem.W.keepIn K (.ref fnm) = true) (mnm : mg "_law_no_more" = some (.ref fnm)) : FnOk P w K mg base CX0 2 f fd ["_law_stretches_here"] spIsr := by
  refine F.ok sc_isr (fun vs H Q E h => ?_) (fun cdv A outer s H vs Q E hr h => ?_)
  · obtain ⟨F, ws, qs, rfl, _⟩ := h
    rfl
  obtain ⟨F, ws, qs, rfl, hF, dd, h30, hsm, q1, q2⟩ := h
  refine ⟨_, (pss_cons (ps_for PassesOwn.never rfl (pi_range1 rfl T.range (pa_cons (pe_callB call_len_seq rfl T.len boot_len (pa_cons (pv 0) pa_nil)) pa_nil)) (pg_name (i := 1) sc_isr.nd rfl (Or.inl rfl)) (pss_cons (ps_asg (pe_ix ix_list (pv 0) (pv 1) (fun _ _ => rfl)) (pg_tup rfl (pgs_cons (pg_name (i := 2) sc_isr.nd rfl (Or.inl rfl)) (pgs_cons (pg_name (i := 3) sc_isr.nd rfl (Or.inl rfl)) pgs_nil))))
      (pss_cons (ps_if (PW.pt (pw_or (pt_not (pt_val (pe_call Gnm hr rfl mnm knm bnm .nil pass0 (pa_cons (pe_tup (pa_cons pe_int (pa_cons pe_int pa_nil))) (pa_cons (pv 2) pa_nil))))) (pw_or (pt_not (pt_val (pe_call Gnm hr rfl mnm knm bnm .nil pass0 (pa_cons (pv 2) (pa_cons (pv 3) pa_nil))))) (pw_or1 (pt_not (pt_val (pe_call Gnm hr rfl mnm knm bnm .nil pass0 (pa_cons (pv 3) (pa_cons (pe_tup (pa_cons pe_int (pa_cons pe_int pa_nil))) pa_nil))))))))) (pss_one (ps_ret pe_bl)) pss_nil)
      (pss_cons (ps_if (PW.pt (pw_and (pt_cmpR op_gt (pv 1) pe_int (nomark _)) (pw_and1 (pt_not (pt_val (pe_call Gnm hr rfl mnm knm bnm .nil pass0 (pa_cons (pe_ix ix_tup (pe_ix ix_list (pv 0) (pe_op op_sub (pv 1) pe_int) (fun _ _ => rfl)) pe_int (fun _ _ => rfl)) (pa_cons (pv 2) pa_nil)))))))) (pss_one (ps_ret pe_bl)) pss_nil)
      (pss_one (ps_if (PW.pt (pw_and (pt_cmpR op_gt (pv 1) pe_int (nomark _)) (pw_and1 (pt_not (pt_val (pe_call Gnm hr rfl mnm knm bnm .nil pass0 (pa_cons (pe_ix ix_tup (pe_ix ix_list (pv 0) (pe_op op_sub (pv 1) pe_int) (fun _ _ => rfl)) pe_int (fun _ _ => rfl)) (pa_cons (pv 3) pa_nil)))))))) (pss_one (ps_ret pe_bl)) pss_nil))))))
    (pss_one (ps_ret pe_bl))), ?_⟩
  have two : 2 ≤ sizeLine := by decide
  have lw : ws.length = qs.length := by rw [dd.len, thL_len]
  refine ⟨_, rfl, F, ws, rfl, .inl (SqL.of hF), _, rfl, by omega, by omega, ?_⟩
  have elen : ((ws.length : Nat) : Int).toNat = qs.length := by omega
  rw [elen]
  refine for_range (lo := 0) (fun i σ G => Same H G ∧ (∀ j, j < i → ∀ p, qs[j]? = some p → (0 ≤ p.1 ∧ p.1 ≤ p.2 ∧ p.2 ≤ 1) ∧ ∀ j' p', j' + 1 = j → qs[j']? = some p' → p'.1 ≤ p.1 ∧ p'.2 ≤ p.2) ∧ ∃ v1 v2 v3, σ = [some (.ref F), v1, v2, v3]) ⟨Same.refl H, fun j hj => absurd hj (by omega), none, none, none, rfl⟩ ?_ ?_
  · rintro i σ G hi ⟨sm, hj, v1, v2, v3, rfl⟩
    have ep := List.getElem?_eq_getElem hi
    obtain ⟨v, f1, f2⟩ := (dd.keep sm).get (thL_at ep)
    obtain ⟨b, la, ha, rfl, hb, hla, hha⟩ := den_ss f2
    have sp := hsm _ (List.mem_of_getElem? ep)
    generalize hp : qs[i] = p at *
    rw [Int.zero_add]
    have hF1 := sm _ _ hF
    refine ⟨_, rfl, _, rfl, F, ws, _, _, rfl, rfl, SqL.of hF1, atI_nat f1, b, _, rfl, SqT.of hb, rfl, .ref la, [.ref ha], rfl, .ref ha, [], rfl, rfl, ?_⟩
    refine ⟨two, fun z hz => ?_⟩
    have w1 := same_new hz (.tup [V.int 0, V.int 1])
    have x1 : upd G z (.tup [V.int 0, V.int 1]) z = some (.tup [V.int 0, V.int 1]) := upd_same
    generalize upd G z (.tup [V.int 0, V.int 1]) = G1 at *
    have fz : FqA G1 z 0 := ⟨0, 1, x1, by decide, by simp, Sz.smk (n := 2) (show (0 : Int).natAbs < 2 ^ 2 by decide) (by decide), Sz.smk (n := 2) (show (1 : Int).natAbs < 2 ^ 2 by decide) (by decide)⟩
    have fl := sp.1.fq (by decide) (w1 _ _ hla)
    have fh := sp.2.fq (by decide) (w1 _ _ hha)
    have s1 := sm.trans w1
    refine ⟨_, rfl, z, la, 0, p.1, rfl, fz, fl, _, rfl, ?_⟩
    refine iteN (fun c => iteT (q2 (fun ir => c (ir.inn p (List.mem_of_getElem? ep)).1) _ s1)) (fun c1 => ?_)
    refine ⟨_, rfl, _, rfl, la, ha, p.1, p.2, rfl, fl, fh, _, rfl, ?_⟩
    refine iteN (fun c => iteT (q2 (fun ir => c (ir.inn p (List.mem_of_getElem? ep)).2.1) _ s1)) (fun c2 => ?_)
    refine ⟨_, rfl, two, fun u hu => ?_⟩
    have w2 := same_new hu (.tup [V.int 1, V.int 1])
    have x2 : upd G1 u (.tup [V.int 1, V.int 1]) u = some (.tup [V.int 1, V.int 1]) := upd_same
    generalize upd G1 u (.tup [V.int 1, V.int 1]) = G2 at *
    have fu : FqA G2 u 1 := ⟨1, 1, x2, by decide, by simp, Sz.smk (n := 2) (show (1 : Int).natAbs < 2 ^ 2 by decide) (by decide), Sz.smk (n := 2) (show (1 : Int).natAbs < 2 ^ 2 by decide) (by decide)⟩
    have s2 := s1.trans w2
    refine ⟨ha, u, p.2, 1, rfl, fh.keep w2, fu, _, rfl, ?_⟩
    refine iteN (fun c => q2 (fun ir => c (ir.inn p (List.mem_of_getElem? ep)).2.2) _ s2) (fun c3 => ?_)
    have hF2 := s2 _ _ hF
    refine ⟨_, rfl, _, _, rfl, rfl, _, rfl, ?_⟩
    by_cases hi0 : i = 0
    · subst hi0
      refine iteF (iteF ⟨_, rfl, _, _, rfl, rfl, _, rfl, iteF (iteF ⟨s2, fun j hj' p' hp' => ?_, _, _, _, rfl⟩)⟩)
      have : j = 0 := by omega
      subst this
      rw [ep] at hp'
      cases hp'
      exact ⟨⟨c1, c2, c3⟩, fun j' p' e => absurd e (by omega)⟩
    have hpos : (decide ((0 : Int) < (i : Int))) = true := decide_eq_true (by omega)
    obtain ⟨j, rfl⟩ : ∃ j, i = j + 1 := ⟨i - 1, by omega⟩
    have epj := List.getElem?_eq_getElem (show j < qs.length by omega)
    obtain ⟨vj, g1, g2⟩ := (dd.keep s2).get (thL_at epj)
    obtain ⟨bj, laj, haj, rfl, hbj, hlaj, hhaj⟩ := den_ss g2
    have spj := hsm _ (List.mem_of_getElem? epj)
    generalize hpj : qs[j] = pj at *
    have ej : (((j + 1 : Nat) : Int) - 1) = (j : Int) := by omega
    refine ite2 (fun _ => ?_) (fun c => absurd hpos c)
    refine ⟨_, rfl, _, rfl, _, _, rfl, rfl, F, ws, _, _, rfl, rfl, SqL.of hF2, (by show atI ws (((j + 1 : Nat) : Int) - 1) = _; rw [ej]; exact atI_nat g1), bj, _, 0, _, rfl, rfl, SqT.of hbj, at0, _, rfl, laj, la, pj.1, p.1, rfl, spj.1.fq (by decide) hlaj, fl.keep w2, _, rfl, ?_⟩
    refine iteN (fun c => q2 (fun ir => c (ir.ris j pj p epj ep).1) _ s2) (fun c4 => ?_)
    refine ⟨_, rfl, _, _, rfl, rfl, _, rfl, ?_⟩
    refine ite2 (fun _ => ?_) (fun c => absurd hpos c)
    refine ⟨_, rfl, _, rfl, _, _, rfl, rfl, F, ws, _, _, rfl, rfl, SqL.of hF2, (by show atI ws (((j + 1 : Nat) : Int) - 1) = _; rw [ej]; exact atI_nat g1), bj, _, 1, _, rfl, rfl, SqT.of hbj, at1, _, rfl, haj, ha, pj.2, p.2, rfl, spj.2.fq (by decide) hhaj, fh.keep w2, _, rfl, ?_⟩
    refine iteN (fun c => q2 (fun ir => c (ir.ris j pj p epj ep).2) _ s2) (fun c5 => ?_)
    refine ⟨s2, fun j2 hj2 p' hp' => ?_, _, _, _, rfl⟩
    by_cases e2 : j2 < j + 1
    · exact hj j2 e2 p' hp'
    · have : j2 = j + 1 := by omega
      subst this
      rw [ep] at hp'
      cases hp'
      refine ⟨⟨c1, c2, c3⟩, fun j' p'' e e' => ?_⟩
      have : j' = j := by omega
      subst this
      rw [epj] at e'
      cases e'
      exact ⟨c4, c5⟩
  · rintro σ G ⟨sm, hj, v1, v2, v3, rfl⟩
    refine q1 ⟨fun p hp => ?_, fun i p p' hp hp' => ?_⟩ _ sm
    · obtain ⟨i, hi⟩ := List.mem_iff_getElem?.mp hp
      exact (hj i (List.getElem?_eq_some_iff.mp hi).1 p hi).1
    · exact (hj (i + 1) (List.getElem?_eq_some_iff.mp hp').1 p' hp').2 i p rfl hp
theorem dep_sss : ∀ ps : List Sq, depTs (ps.map ssT) ≤ 4
  | [] => by simp [depTs]
  | p :: ps => by
    have := dep_sss ps
    simp only [List.map_cons, depTs, depT, ssT, ppT]
    omega
theorem dep_ru (n : Int) (ps : List Sq) : depT (ruT n ps) ≤ 60 := by
  have := dep_sss ps
  simp only [depT, depTs, ruT]
  omega
theorem rat_is {x y : Rat} {b : Int} (hb : 0 < b) (h : x * (b : Rat) = y * (b : Rat)) : x = y := by
  have hq : (b : Rat) ≠ 0 := by intro e; have : b = 0 := by exact_mod_cast e
                                omega
  grind
theorem raised_is (p : Rat) {s : Int} (hs : 0 < s) : rq (p.num * s + (p.den : Int)) ((p.den : Int) * s) = p + rq 1 s := by
  have hb : 0 < (p.den : Int) * s := Int.mul_pos (rden p) hs
  refine rat_is hb ?_
  rw [rq_mul hb]
  have h1 := rsplit p
  have h2 := rq_mul (t := 1) hs
  push_cast at h2 ⊢
  grind
theorem lowered_is (p : Rat) {s : Int} (hs : 0 < s) : rq (p.num * s - (p.den : Int)) ((p.den : Int) * s) = p - rq 1 s := by
  have hb : 0 < (p.den : Int) * s := Int.mul_pos (rden p) hs
  refine rat_is hb ?_
  rw [rq_mul hb]
  have h1 := rsplit p
  have h2 := rq_mul (t := 1) hs
  push_cast at h2 ⊢
  grind
noncomputable def secL (m c : Int) : List Int := [m, m * (1 + c / 3 % 5), 1 + c / 3 % 60]
theorem sec_in {m c : Int} (h1 : 1 ≤ m) (h2 : m ≤ 12) {k : Nat} (hk : k < 3) : 1 ≤ (secL m c).getD k 0 ∧ (secL m c).getD k 0 ≤ 60 := by
  have hm : (secL m c).getD k 0 ∈ secL m c := getD_mem hk
  have a0 := md0 (c / 3) (show (0 : Int) < 5 by decide)
  have a1 := md1 (c / 3) (show (0 : Int) < 5 by decide)
  have b0 := md0 (c / 3) (show (0 : Int) < 60 by decide)
  have b1 := md1 (c / 3) (show (0 : Int) < 60 by decide)
  generalize (secL m c).getD k 0 = x at *
  unfold secL at hm
  generalize c / 3 % 5 = u at *
  generalize c / 3 % 60 = v at *
  simp only [List.mem_cons, List.not_mem_nil, or_false] at hm
  rcases hm with e | e | e
  · omega
  · have hu : u = 0 ∨ u = 1 ∨ u = 2 ∨ u = 3 ∨ u = 4 := by omega
    rcases hu with rfl | rfl | rfl | rfl | rfl <;> omega
  · omega
noncomputable def spLaw (K : PySem.W.Frag) : Sp := fun vs H Q _ => ∃ (a : Addr) (ns : List Int), vs = [.ref a] ∧ SqL K H a (ns.map V.int) ∧ ns.length ≤ 63 ∧ (∀ i ∈ ns, Bg i) ∧ ∀ H', Q (.bl true) H'
theorem sc_law : FnScope ["_law_script", "_law_first", "_law_n", "_law_measure", "_law_cell", "_law_second", "_law_stretches_here", "_law_rule", "_law_k", "_law_low", "_law_high", "_law_raised", "_law_lowered", "_law_end", "_law_part", "_law_due", "_law_found"] ["_law_script"] (defScope s_law) := ⟨rfl, rfl, rfl, by decide +kernel, rfl, by decide +kernel, by decide +kernel⟩
theorem ok_law {C : CA} {f : Addr} {fd : FuncData} (F : Fun K "law" "law" s_law f fd) (T : Txt mg) (cf : CF K mg C) {fcell : Addr} {dcell : FuncData} (Gcell : FnOk P w K mg base CX0 7 fcell dcell ["_law_script", "_law_k"] (spCell K)) (bcell : Binds K dcell ["_law_script", "_law_k"] []) (kcell : PySem.W.keepIn K (.ref fcell) = true) (mcell : mg "_law_cell_at" = some (.ref fcell)) {fsts : Addr} {dsts : FuncData} (Gsts : FnOk P w K mg base CX0 7 fsts dsts ["_law_script", "_law_n", "_law_measure"] (spSts K)) (bsts : Binds K dsts ["_law_script", "_law_n", "_law_measure"] []) (ksts : PySem.W.keepIn K (.ref fsts) = true) (msts : mg "_law_stretches" = some (.ref fsts)) {fruleof : Addr} {druleof : FuncData} (Gruleof : FnOk P w K mg base (CXX P w) 7 fruleof druleof ["n", "stretches"] (spRuX C)) (bruleof : Binds K druleof ["n", "stretches"] []) (kruleof : PySem.W.keepIn K (.ref fruleof) = true) (mruleof : mg "rule_of" = some (.ref fruleof)) {flow : Addr} {dlow : FuncData} (Glow : FnOk P w K mg base CX0 7 flow dlow ["_law_top", "_law_bottom"] spLow) (blow : Binds K dlow ["_law_top", "_law_bottom"] []) (klow : PySem.W.keepIn K (.ref flow) = true) (mlow : mg "_law_lowest" = some (.ref flow)) {fmov : Addr} {dmov : FuncData} (Gmov : FnOk P w K mg base CX0 7 fmov dmov ["rule", "k", "end", "measure"] spMov) (bmov : Binds K dmov ["rule", "k", "end", "measure"] []) (kmov : PySem.W.keepIn K (.ref fmov) = true) (mmov : mg "moved" = some (.ref fmov)) {fisr : Addr} {disr : FuncData} (Gisr : FnOk P w K mg base CX0 7 fisr disr ["_law_stretches_here"] spIsr) (bisr : Binds K disr ["_law_stretches_here"] []) (kisr : PySem.W.keepIn K (.ref fisr) = true) (misr : mg "_law_is_rule" = some (.ref fisr)) : FnOk P w K mg base CX0 8 f fd ["_law_script"] (spLaw K) := by
  refine F.ok sc_law (fun vs H Q E h => ?_) (fun cdv A outer s H vs Q E hr h => ?_)
  · obtain ⟨a, ns, rfl, _⟩ := h
    rfl
  obtain ⟨a, ns, rfl, hS, h63, hbg, q⟩ := h
  refine ⟨_, (pss_cons (ps_set (i := 1) sc_law.nd rfl (Or.inl rfl) (pe_call Gcell hr rfl mcell kcell bcell .nil pass0 (pa_cons (pv 0) (pa_cons pe_int pa_nil))))
    (pss_cons (ps_set (i := 2) sc_law.nd rfl (Or.inl rfl) (pe_op op_add pe_int (pe_op op_mod (pv 1) pe_int)))
    (pss_cons (ps_set (i := 3) sc_law.nd rfl (Or.inl rfl) (pe_op op_add pe_int (pe_op op_mod (pe_call Gcell hr rfl mcell kcell bcell .nil pass0 (pa_cons (pv 0) (pa_cons pe_int pa_nil))) pe_int)))
    (pss_cons (ps_set (i := 4) sc_law.nd rfl (Or.inl rfl) (pe_call Gcell hr rfl mcell kcell bcell .nil pass0 (pa_cons (pv 0) (pa_cons pe_int pa_nil))))
    (pss_cons (ps_set (i := 5) sc_law.nd rfl (Or.inl rfl) (pe_ix ix_list (pe_lst (pa_cons (pv 3) (pa_cons (pe_op op_mul (pv 3) (pe_op op_add pe_int (pe_op op_mod (pe_op op_fdiv (pv 4) pe_int) pe_int))) (pa_cons (pe_op op_add pe_int (pe_op op_mod (pe_op op_fdiv (pv 4) pe_int) pe_int)) pa_nil)))) (pe_op op_mod (pv 4) pe_int) (fun _ _ => rfl)))
    (pss_cons (ps_set (i := 6) sc_law.nd rfl (Or.inl rfl) (pe_call Gsts hr rfl msts ksts bsts .nil pass0 (pa_cons (pv 0) (pa_cons (pv 2) (pa_cons (pv 3) pa_nil)))))
    (pss_cons (ps_set (i := 7) sc_law.nd rfl (Or.inl rfl) (pe_call Gruleof hr rfl mruleof kruleof bruleof .nil passN (pa_cons (pv 2) (pa_cons (pv 6) pa_nil))))
    (pss_cons (ps_for PassesOwn.never rfl (pi_range1 rfl T.range (pa_cons (pe_op op_add (pv 2) pe_int) pa_nil)) (pg_name (i := 8) sc_law.nd rfl (Or.inl rfl)) (pss_cons (ps_asg (pe_ix ix_list (pv 6) (pv 8) (fun _ _ => rfl)) (pg_tup rfl (pgs_cons (pg_name (i := 9) sc_law.nd rfl (Or.inl rfl)) (pgs_cons (pg_name (i := 10) sc_law.nd rfl (Or.inl rfl)) pgs_nil))))
      (pss_cons (ps_set (i := 11) sc_law.nd rfl (Or.inl rfl) (pe_call Glow hr rfl mlow klow blow .nil pass0 (pa_cons (pe_op op_add (pe_op op_mulK (pe_ix ix_tup (pv 9) pe_int (fun _ _ => rfl)) (pv 5)) (pe_ix ix_tup (pv 9) pe_int (fun _ _ => rfl))) (pa_cons (pe_op op_mulK (pe_ix ix_tup (pv 9) pe_int (fun _ _ => rfl)) (pv 5)) pa_nil))))
      (pss_cons (ps_set (i := 12) sc_law.nd rfl (Or.inl rfl) (pe_call Glow hr rfl mlow klow blow .nil pass0 (pa_cons (pe_op op_sub (pe_op op_mulK (pe_ix ix_tup (pv 10) pe_int (fun _ _ => rfl)) (pv 5)) (pe_ix ix_tup (pv 10) pe_int (fun _ _ => rfl))) (pa_cons (pe_op op_mulK (pe_ix ix_tup (pv 10) pe_int (fun _ _ => rfl)) (pv 5)) pa_nil))))
      (pss_one (ps_for PassesOwn.never rfl (pi_list (pe_lst (pa_cons (pe_tup (pa_cons pe_str (pa_cons (pe_tup (pa_cons (pv 11) (pa_cons (pv 10) pa_nil))) pa_nil))) (pa_cons (pe_tup (pa_cons pe_str (pa_cons (pe_tup (pa_cons (pv 9) (pa_cons (pv 12) pa_nil))) pa_nil))) pa_nil)))) (pg_tup rfl (pgs_cons (pg_name (i := 13) sc_law.nd rfl (Or.inl rfl)) (pgs_cons (pg_name (i := 14) sc_law.nd rfl (Or.inl rfl)) pgs_nil))) (pss_cons (ps_set (i := 15) sc_law.nd rfl (Or.inl rfl) (pe_op op_cat (pe_op op_cat (pe_slice sl_list (pv 6) po_none (po_some (pv 8))) (pe_lst (pa_cons (pv 14) pa_nil))) (pe_slice sl_list (pv 6) (po_some (pe_op op_add (pv 8) pe_int)) po_none)))
        (pss_cons (ps_set (i := 16) sc_law.nd rfl (Or.inl rfl) (pe_call Gmov hr rfl mmov kmov bmov .nil pass0 (pa_cons (pv 7) (pa_cons (pv 8) (pa_cons (pv 13) (pa_cons (pv 5) pa_nil))))))
        (pss_one (ps_if (pt_not (pt_val (pe_call Gisr hr rfl misr kisr bisr .nil pass0 (pa_cons (pv 15) pa_nil)))) (pss_one (ps_if (pt_cmpR op_notN (pv 16) pe_non (nomark _)) (pss_one (ps_ret pe_bl)) pss_nil)) (pss_one (ps_if (PW.pt (pw_or (pt_not (pt_val (pe_callB call_isinstD rfl T.isinstance boot_isinstance (pa_cons (pv 16) (pa_cons (pe_bltn (v := .ty "tuple") rfl T.tuple boot_tuple rfl) pa_nil))))) (pw_or1 (pt_cmpR (op_neD hr.units) (pv 16) (pe_tup (pa_cons (pv 2) (pa_cons (pe_callTy call_tuple_of rfl T.tuple boot_tuple (pa_cons (pv 15) pa_nil)) pa_nil))) (nomark _))))) (pss_one (ps_ret pe_bl)) pss_nil))))))))))))
    (pss_one (ps_ret (pe_cmpR (op_eqD hr.units) (pv 7) (pe_tup (pa_cons (pv 2) (pa_cons (pe_callTy call_tuple_of rfl T.tuple boot_tuple (pa_cons (pv 6) pa_nil)) pa_nil))) (nomark _)))))))))))), ?_⟩
  have one : 1 ≤ sizeLine := by decide
  have two : 2 ≤ sizeLine := by decide
  have sz : ∀ {m : Nat}, m ≤ 40 → m ≤ sizeLine := fun h => Nat.le_of_lt (lt40 h)
  refine ⟨_, rfl, a, ns, 0, rfl, hS, by omega, ?_⟩
  dsimp only
  generalize ns.getD (0 : Int).toNat 0 = c0 at *
  refine ⟨_, rfl, _, _, rfl, rfl, (by show (0 : Int) < 5; decide), _, _, rfl, rfl, ?_⟩
  have a0 := md0 c0 (show (0 : Int) < 5 by decide)
  have a1 := md1 c0 (show (0 : Int) < 5 by decide)
  dsimp only
  generalize hn : 1 + c0 % 5 = n at *
  refine ⟨_, rfl, a, ns, 1, rfl, hS, by omega, _, _, rfl, rfl, (by show (0 : Int) < 12; decide), _, _, rfl, rfl, ?_⟩
  have b0 := md0 (ns.getD (1 : Int).toNat 0) (show (0 : Int) < 12 by decide)
  have b1 := md1 (ns.getD (1 : Int).toNat 0) (show (0 : Int) < 12 by decide)
  dsimp only
  generalize hm : 1 + ns.getD (1 : Int).toNat 0 % 12 = m at *
  refine ⟨_, rfl, a, ns, 2, rfl, hS, by omega, ?_⟩
  dsimp only
  generalize ns.getD (2 : Int).toNat 0 = c at *
  refine ⟨_, rfl, _, rfl, _, rfl, _, _, rfl, rfl, ⟨by decide, by decide⟩, _, _, rfl, rfl, (by show (0 : Int) < 5; decide), _, _, rfl, rfl, _, _, rfl, rfl, .inl ⟨by omega, by omega⟩, _, rfl, _, _, rfl, rfl, ⟨by decide, by decide⟩, _, _, rfl, rfl, (by show (0 : Int) < 60; decide), _, _, rfl, rfl, (by show 3 ≤ sizeLine; decide), fun p0 hp0 => ?_⟩
  have d0 := md0 c (show (0 : Int) < 3 by decide)
  have d1 := md1 c (show (0 : Int) < 3 by decide)
  refine ⟨_, rfl, _, _, rfl, rfl, (by show (0 : Int) < 3; decide), p0, _, _, _, rfl, rfl, SqL.of upd_same, at_getD (ns := secL m c) d0 (by show c % 3 < 3; omega), ?_⟩
  obtain ⟨s1', s60⟩ := sec_in (m := m) (c := c) (by omega) (by omega) (k := (c % 3).toNat) (by omega)
  dsimp only
  generalize (secL m c).getD (c % 3).toNat 0 = sc at *
  have w0 := same_new hp0 (.lst ((secL m c).map V.int))
  show _
  have w0' : Same H (upd H p0 (.lst [V.int m, V.int (m * (1 + c / 3 % 5)), V.int (1 + c / 3 % 60)])) := w0
  generalize upd H p0 (.lst [V.int m, V.int (m * (1 + c / 3 % 5)), V.int (1 + c / 3 % 60)]) = H0 at *
  refine ⟨_, rfl, _, rfl, _, rfl, a, ns, n, m, rfl, w0'.seq hS, by omega, by omega, by omega, by omega, fun F ws qs H1 s1 hF dd lq ir smq => ?_⟩
  have lw : ws.length = qs.length := by rw [dd.len, thL_len]
  have sm60 : SmQ 60 qs := fun x hx => ⟨(smq x hx).1.mono (by decide), (smq x hx).2.mono (by decide)⟩
  have gd : GoodU (.int n) (.lst (thL qs)) n (qs.map sqR) := isr_good rfl (by omega) (by omega) lq ir
  refine ⟨_, rfl, _, rfl, _, _, .int n, .lst (thL qs), rfl, rfl, ⟨F, ws, rfl, hF, dd⟩, smS_of rfl sm60, fun n' ps' g' r H2 s2 dr => ?_, fun hb => absurd gd (hb _ _)⟩
  obtain ⟨rfl, rfl⟩ := good_uq gd g'
  obtain ⟨r', rs, er, hr2, y, ys, rfl, dy, z, zs, rfl, dz, e5⟩ := id dr
  cases er
  have e5' : zs = [] := e5
  subst e5'
  cases (show y = V.int n' from dy)
  obtain ⟨t, wt, rfl, ht, dt⟩ := id dz
  have dt : Dens H2 (thL qs) wt := dt
  have s02 := s1.trans s2
  refine ⟨_, rfl, _, _, rfl, rfl, _, rfl, by omega, by omega, ?_⟩
  refine for_range (lo := 0) (fun i σ G => Same H2 G ∧ ∃ v8 v9 v10 v11 v12 v13 v14 v15 v16, σ = [some (.ref a), some (.int c0), some (.int n'), some (.int m), some (.int c), some (.int sc), some (.ref F), some (.ref r), v8, v9, v10, v11, v12, v13, v14, v15, v16]) ⟨Same.refl H2, none, none, none, none, none, none, none, none, none, rfl⟩ ?_ ?_
  · rintro k σ G hk ⟨sm, v8, v9, v10, v11, v12, v13, v14, v15, v16, rfl⟩
    have hkl : k < qs.length := by omega
    have ep := List.getElem?_eq_getElem hkl
    have sG := s2.trans sm
    obtain ⟨v, f1, f2⟩ := (dd.keep sG).get (thL_at ep)
    obtain ⟨b, la, ha, rfl, hb, hla, hha⟩ := den_ss f2
    have sp := smq _ (List.mem_of_getElem? ep)
    generalize hp : qs[k] = p at *
    have hF1 := sG _ _ hF
    rw [Int.zero_add]
    have es := fun x => set_cut (ws := ws) (x := x) (show k < ws.length by omega)
    have c1 := cutV_up (ws := ws) (k := k) (by omega)
    have c2 : cutV ws (some ((k : Int) + 1)) none = ws.drop (k + 1) := cutV_from (ws := ws) (k := k + 1) (by omega)
    have hs0 : 0 < sc := by omega
    have ssc : Sz 20 sc := sz20 (by omega)
    have hsk : Smk sc := ssc.smk (by decide)
    refine ⟨_, rfl, _, rfl, F, ws, _, _, rfl, rfl, SqL.of hF1, atI_nat f1, b, _, rfl, SqT.of hb, rfl, .ref la, [.ref ha], rfl, .ref ha, [], rfl, rfl, ?_⟩
    have pos1 := Int.mul_pos (rden p.1) hs0
    have pos2 := Int.mul_pos (rden p.2) hs0
    have z11 : Sz 60 (p.1.num * sc + (p.1.den : Int)) := (((sp.1.1.mul ssc).mono (by decide : 40 ≤ 59)).add (sp.1.2.mono (by decide : 20 ≤ 59))).mono (by decide)
    have z12 : Sz 60 ((p.1.den : Int) * sc) := (sp.1.2.mul ssc).mono (by decide)
    have z21 : Sz 60 (p.2.num * sc - (p.2.den : Int)) := (((sp.2.1.mul ssc).mono (by decide : 40 ≤ 59)).sub (sp.2.2.mono (by decide : 20 ≤ 59))).mono (by decide)
    have z22 : Sz 60 ((p.2.den : Int) * sc) := (sp.2.2.mul ssc).mono (by decide)
    refine ⟨_, rfl, la, _, 0, _, rfl, rfl, SqT.of hla, at0, _, rfl, _, _, rfl, rfl, ⟨sp.1.1.smk (by decide), hsk⟩, _, rfl, la, _, 1, _, rfl, rfl, SqT.of hla, at1, _, _, rfl, rfl, _, rfl, la, _, 1, _, rfl, rfl, SqT.of hla, at1, _, rfl, _, _, rfl, rfl, ⟨sp.1.2.smk (by decide), hsk⟩, _, _, rfl, pos1, z11, z12, fun ra G1 t1 hra => ?_⟩
    have hha1 := t1 _ _ hha
    refine ⟨_, rfl, ha, _, 0, _, rfl, rfl, SqT.of hha1, at0, _, rfl, _, _, rfl, rfl, ⟨sp.2.1.smk (by decide), hsk⟩, _, rfl, ha, _, 1, _, rfl, rfl, SqT.of hha1, at1, _, _, rfl, rfl, _, rfl, ha, _, 1, _, rfl, rfl, SqT.of hha1, at1, _, rfl, _, _, rfl, rfl, ⟨sp.2.2.smk (by decide), hsk⟩, _, _, rfl, pos2, z21, z22, fun lb G2 t2 hlb => ?_⟩
    have hra : G1 ra = some (.tup [.int (rq (p.1.num * sc + (p.1.den : Int)) ((p.1.den : Int) * sc)).num, .int ((rq (p.1.num * sc + (p.1.den : Int)) ((p.1.den : Int) * sc)).den : Int)]) := hra
    have hlb : G2 lb = some (.tup [.int (rq (p.2.num * sc - (p.2.den : Int)) ((p.2.den : Int) * sc)).num, .int ((rq (p.2.num * sc - (p.2.den : Int)) ((p.2.den : Int) * sc)).den : Int)]) := hlb
    rw [raised_is _ hs0] at hra
    rw [lowered_is _ hs0] at hlb
    have t12 := t1.trans t2
    refine ⟨_, rfl, _, rfl, two, fun u1 hu1 => ?_⟩
    have wu1 := same_new hu1 (.tup [V.ref ra, V.ref ha])
    have xu1 : upd G2 u1 (.tup [V.ref ra, V.ref ha]) u1 = some (.tup [V.ref ra, V.ref ha]) := upd_same
    generalize upd G2 u1 (.tup [V.ref ra, V.ref ha]) = G3 at *
    refine ⟨two, fun q1 hq1 => ?_⟩
    have wq1 := same_new hq1 (.tup [V.str "low", V.ref u1])
    have xq1 : upd G3 q1 (.tup [V.str "low", V.ref u1]) q1 = some (.tup [V.str "low", V.ref u1]) := upd_same
    generalize upd G3 q1 (.tup [V.str "low", V.ref u1]) = G4 at *
    refine ⟨_, rfl, _, rfl, two, fun u2 hu2 => ?_⟩
    have wu2 := same_new hu2 (.tup [V.ref la, V.ref lb])
    have xu2 : upd G4 u2 (.tup [V.ref la, V.ref lb]) u2 = some (.tup [V.ref la, V.ref lb]) := upd_same
    generalize upd G4 u2 (.tup [V.ref la, V.ref lb]) = G5 at *
    refine ⟨two, fun q2 hq2 => ?_⟩
    have wq2 := same_new hq2 (.tup [V.str "high", V.ref u2])
    have xq2 : upd G5 q2 (.tup [V.str "high", V.ref u2]) q2 = some (.tup [V.str "high", V.ref u2]) := upd_same
    generalize upd G5 q2 (.tup [V.str "high", V.ref u2]) = G6 at *
    refine ⟨two, fun L hL => ?_⟩
    have wL := same_new hL (.lst [V.ref q1, V.ref q2])
    have xL : upd G6 L (.lst [V.ref q1, V.ref q2]) L = some (.lst [V.ref q1, V.ref q2]) := upd_same
    generalize upd G6 L (.lst [V.ref q1, V.ref q2]) = G7 at *
    have v67 := (wu2.trans wq2).trans wL
    have v37 := (wu1.trans wq1).trans v67
    have sG7 := (sG.trans t12).trans v37
    have s27 : Same H2 G7 := (sm.trans t12).trans v37
    have dl7 := den_p ((t12.trans v37) _ _ hla)
    have dh7 := den_p ((t12.trans v37) _ _ hha)
    have pd1 : Den G7 (ssT (sqR (mvP "low" sc p))) (.ref u1) := by
      rw [show mvP "low" sc p = (p.1 + rq 1 sc, p.2) from if_pos rfl]
      exact den2 ((wq1.trans v67) _ _ xu1) (den_p ((t2.trans v37) _ _ hra)) dh7
    have pd2 : Den G7 (ssT (sqR (mvP "high" sc p))) (.ref u2) := by
      rw [show mvP "high" sc p = (p.1, p.2 - rq 1 sc) from if_neg (by decide)]
      exact den2 ((wq2.trans wL) _ _ xu2) dl7 (den_p (v37 _ _ hlb))
    have xq1' := v67 _ _ xq1
    have xq2' := wL _ _ xq2
    have sr : SmR 20 (rq 1 sc) := SmR.rq hs0 (show (1 : Int).natAbs < 2 ^ 20 by decide) ssc
    refine ⟨L, rfl, ⟨_, SqL.of xL⟩, ?_⟩
    refine for_list (xs := [V.ref q1, V.ref q2]) (fun i σ J => Same G7 J ∧ ∃ v13 v14 v15 v16, σ = [some (.ref a), some (.int c0), some (.int n'), some (.int m), some (.int c), some (.int sc), some (.ref F), some (.ref r), some (.int (k : Int)), some (.ref la), some (.ref ha), some (.ref ra), some (.ref lb), v13, v14, v15, v16]) ⟨Same.refl G7, _, _, _, _, rfl⟩ (fun i σ J _ ⟨sJ, _⟩ => SqL.of (sJ _ _ xL)) ?_ ?_
    · rintro i x σ J hx ⟨sJ, v13', v14', v15', v16', rfl⟩
      have hi : i = 0 ∨ i = 1 := by have := (List.getElem?_eq_some_iff.mp hx).1; simp at this; omega
      rcases hi with rfl | rfl
      · cases hx
        refine ⟨q1, _, rfl, SqT.of (sJ _ _ xq1'), rfl, .str "low", [.ref u1], rfl, .ref u1, [], rfl, rfl, ?_⟩
        have sFJ := sG7.trans sJ
        have hFJ := sFJ _ _ hF
        refine ⟨_, rfl, _, rfl, _, rfl, F, ws, rfl, SqL.of hFJ, fun b1 j1 => ?_⟩
        rw [c1]
        have wb1 := same_new j1 (.lst (ws.take k))
        have xb1 : upd J b1 (.lst (ws.take k)) b1 = some (.lst (ws.take k)) := upd_same
        generalize upd J b1 (.lst (ws.take k)) = J1 at *
        refine ⟨_, rfl, one, fun b2 j2 => ?_⟩
        have wb2 := same_new j2 (.lst [V.ref u1])
        have xb2 : upd J1 b2 (.lst [V.ref u1]) b2 = some (.lst [V.ref u1]) := upd_same
        generalize upd J1 b2 (.lst [V.ref u1]) = J2 at *
        refine ⟨b1, b2, _, _, rfl, rfl, wb2 _ _ xb1, xb2, sz (by simp; omega), fun b3 j3 => ?_⟩
        have wb3 := same_new j3 (.lst (ws.take k ++ [V.ref u1]))
        have xb3 : upd J2 b3 (.lst (ws.take k ++ [V.ref u1])) b3 = some (.lst (ws.take k ++ [V.ref u1])) := upd_same
        generalize upd J2 b3 (.lst (ws.take k ++ [V.ref u1])) = J3 at *
        have v3 := (wb1.trans wb2).trans wb3
        refine ⟨_, rfl, _, rfl, _, _, rfl, rfl, _, rfl, F, ws, rfl, SqL.of ((sFJ.trans v3) _ _ hF), fun b4 j4 => ?_⟩
        rw [c2]
        have wb4 := same_new j4 (.lst (ws.drop (k + 1)))
        have xb4 : upd J3 b4 (.lst (ws.drop (k + 1))) b4 = some (.lst (ws.drop (k + 1))) := upd_same
        generalize upd J3 b4 (.lst (ws.drop (k + 1))) = J4 at *
        refine ⟨b3, b4, _, _, rfl, rfl, wb4 _ _ xb3, xb4, sz (by simp; omega), fun b5 j5 => ?_⟩
        rw [es]
        have wb5 := same_new j5 (.lst (ws.set k (V.ref u1)))
        have xb5 : upd J4 b5 (.lst (ws.set k (V.ref u1))) b5 = some (.lst (ws.set k (V.ref u1))) := upd_same
        generalize upd J4 b5 (.lst (ws.set k (V.ref u1))) = J5 at *
        have v5 := v3.trans (wb4.trans wb5)
        have sF5 := sFJ.trans v5
        have s25 := (s27.trans sJ).trans v5
        have dd5 : Dens J5 (thL (qs.set k (mvP "low" sc p))) (ws.set k (V.ref u1)) := by
          rw [thL_set]
          exact dens_set (dd.keep sF5) (pd1.keep (sJ.trans v5))
        have ls5 : (qs.set k (mvP "low" sc p)).length ≤ 30 := by rw [List.length_set]; omega
        have sq5 : SmQ 60 (qs.set k (mvP "low" sc p)) := sm60.set (k := k) (p := mvP "low" sc p) (by rw [show mvP "low" sc p = (p.1 + rq 1 sc, p.2) from if_pos rfl]; exact sp.1.plus sr) (by rw [show mvP "low" sc p = (p.1 + rq 1 sc, p.2) from if_pos rfl]; exact sp.2.mono (by decide))
        refine ⟨_, rfl, _, rfl, _, rfl, _, rfl, r, t, wt, n', sc, k, "low", qs, p, rfl, s25 _ _ hr2, s25 _ _ ht, dt.keep s25, by omega, by omega, lq, ep, smq, hs0, ssc, fun ir5 f H6 s6 df => ?_, fun nir H6 s6 => ?_⟩
        · refine ⟨_, rfl, b5, _, qs.set k (mvP "low" sc p), rfl, s6 _ _ xb5, dd5.keep s6, ls5, sq5, fun _ H7 s7 => ⟨_, rfl, iteF ?_⟩, fun z => absurd ir5 z⟩
          have df7 := df.keep s7
          refine ⟨_, rfl, _, _, _, true, rfl, df7, rfl, _, rfl, iteF ?_⟩
          have hb7 := (s6.trans s7) _ _ xb5
          refine ⟨_, rfl, _, rfl, _, rfl, b5, _, rfl, .inl ⟨SqL.of hb7, fun t3 ht3 => ⟨two, fun t4 ht4 => ?_⟩⟩⟩
          have wt3 := same_new ht3 (.tup (ws.set k (V.ref u1)))
          have xt3 : upd H7 t3 (.tup (ws.set k (V.ref u1))) t3 = some (.tup (ws.set k (V.ref u1))) := upd_same
          generalize upd H7 t3 (.tup (ws.set k (V.ref u1))) = H8 at *
          have wt4 := same_new ht4 ((.tup [V.int n', V.ref t3]))
          have xt4 : upd H8 t4 ((.tup [V.int n', V.ref t3])) t4 = some ((.tup [V.int n', V.ref t3])) := upd_same
          generalize upd H8 t4 ((.tup [V.int n', V.ref t3])) = H9 at *
          have s9 := wt3.trans wt4
          refine ⟨ruT n' ((qs.set k (mvP "low" sc p)).map sqR), df7.keep s9, ⟨t4, _, rfl, xt4, _, _, rfl, rfl, _, _, rfl, ⟨t3, _, rfl, wt4 _ _ xt3, dd5.keep ((s6.trans s7).trans s9)⟩, rfl⟩, dep_ru _ _, _, rfl, iteF ?_⟩
          exact ⟨(sJ.trans v5).trans ((s6.trans s7).trans s9), _, _, _, _, rfl⟩
        · refine ⟨_, rfl, b5, _, qs.set k (mvP "low" sc p), rfl, s6 _ _ xb5, dd5.keep s6, ls5, sq5, fun z => absurd z nir, fun _ H7 s7 => ⟨_, rfl, iteT ?_⟩⟩
          exact ⟨_, rfl, rfl, _, rfl, iteF ⟨(sJ.trans v5).trans (s6.trans s7), _, _, _, _, rfl⟩⟩
      · cases hx
        refine ⟨q2, _, rfl, SqT.of (sJ _ _ xq2'), rfl, .str "high", [.ref u2], rfl, .ref u2, [], rfl, rfl, ?_⟩
        have sFJ := sG7.trans sJ
        have hFJ := sFJ _ _ hF
        refine ⟨_, rfl, _, rfl, _, rfl, F, ws, rfl, SqL.of hFJ, fun b1 j1 => ?_⟩
        rw [c1]
        have wb1 := same_new j1 (.lst (ws.take k))
        have xb1 : upd J b1 (.lst (ws.take k)) b1 = some (.lst (ws.take k)) := upd_same
        generalize upd J b1 (.lst (ws.take k)) = J1 at *
        refine ⟨_, rfl, one, fun b2 j2 => ?_⟩
        have wb2 := same_new j2 (.lst [V.ref u2])
        have xb2 : upd J1 b2 (.lst [V.ref u2]) b2 = some (.lst [V.ref u2]) := upd_same
        generalize upd J1 b2 (.lst [V.ref u2]) = J2 at *
        refine ⟨b1, b2, _, _, rfl, rfl, wb2 _ _ xb1, xb2, sz (by simp; omega), fun b3 j3 => ?_⟩
        have wb3 := same_new j3 (.lst (ws.take k ++ [V.ref u2]))
        have xb3 : upd J2 b3 (.lst (ws.take k ++ [V.ref u2])) b3 = some (.lst (ws.take k ++ [V.ref u2])) := upd_same
        generalize upd J2 b3 (.lst (ws.take k ++ [V.ref u2])) = J3 at *
        have v3 := (wb1.trans wb2).trans wb3
        refine ⟨_, rfl, _, rfl, _, _, rfl, rfl, _, rfl, F, ws, rfl, SqL.of ((sFJ.trans v3) _ _ hF), fun b4 j4 => ?_⟩
        rw [c2]
        have wb4 := same_new j4 (.lst (ws.drop (k + 1)))
        have xb4 : upd J3 b4 (.lst (ws.drop (k + 1))) b4 = some (.lst (ws.drop (k + 1))) := upd_same
        generalize upd J3 b4 (.lst (ws.drop (k + 1))) = J4 at *
        refine ⟨b3, b4, _, _, rfl, rfl, wb4 _ _ xb3, xb4, sz (by simp; omega), fun b5 j5 => ?_⟩
        rw [es]
        have wb5 := same_new j5 (.lst (ws.set k (V.ref u2)))
        have xb5 : upd J4 b5 (.lst (ws.set k (V.ref u2))) b5 = some (.lst (ws.set k (V.ref u2))) := upd_same
        generalize upd J4 b5 (.lst (ws.set k (V.ref u2))) = J5 at *
        have v5 := v3.trans (wb4.trans wb5)
        have sF5 := sFJ.trans v5
        have s25 := (s27.trans sJ).trans v5
        have dd5 : Dens J5 (thL (qs.set k (mvP "high" sc p))) (ws.set k (V.ref u2)) := by
          rw [thL_set]
          exact dens_set (dd.keep sF5) (pd2.keep (sJ.trans v5))
        have ls5 : (qs.set k (mvP "high" sc p)).length ≤ 30 := by rw [List.length_set]; omega
        have sq5 : SmQ 60 (qs.set k (mvP "high" sc p)) := sm60.set (k := k) (p := mvP "high" sc p) (by rw [show mvP "high" sc p = (p.1, p.2 - rq 1 sc) from if_neg (by decide)]; exact sp.1.mono (by decide)) (by rw [show mvP "high" sc p = (p.1, p.2 - rq 1 sc) from if_neg (by decide)]; exact sp.2.minus sr)
        refine ⟨_, rfl, _, rfl, _, rfl, _, rfl, r, t, wt, n', sc, k, "high", qs, p, rfl, s25 _ _ hr2, s25 _ _ ht, dt.keep s25, by omega, by omega, lq, ep, smq, hs0, ssc, fun ir5 f H6 s6 df => ?_, fun nir H6 s6 => ?_⟩
        · refine ⟨_, rfl, b5, _, qs.set k (mvP "high" sc p), rfl, s6 _ _ xb5, dd5.keep s6, ls5, sq5, fun _ H7 s7 => ⟨_, rfl, iteF ?_⟩, fun z => absurd ir5 z⟩
          have df7 := df.keep s7
          refine ⟨_, rfl, _, _, _, true, rfl, df7, rfl, _, rfl, iteF ?_⟩
          have hb7 := (s6.trans s7) _ _ xb5
          refine ⟨_, rfl, _, rfl, _, rfl, b5, _, rfl, .inl ⟨SqL.of hb7, fun t3 ht3 => ⟨two, fun t4 ht4 => ?_⟩⟩⟩
          have wt3 := same_new ht3 (.tup (ws.set k (V.ref u2)))
          have xt3 : upd H7 t3 (.tup (ws.set k (V.ref u2))) t3 = some (.tup (ws.set k (V.ref u2))) := upd_same
          generalize upd H7 t3 (.tup (ws.set k (V.ref u2))) = H8 at *
          have wt4 := same_new ht4 ((.tup [V.int n', V.ref t3]))
          have xt4 : upd H8 t4 ((.tup [V.int n', V.ref t3])) t4 = some ((.tup [V.int n', V.ref t3])) := upd_same
          generalize upd H8 t4 ((.tup [V.int n', V.ref t3])) = H9 at *
          have s9 := wt3.trans wt4
          refine ⟨ruT n' ((qs.set k (mvP "high" sc p)).map sqR), df7.keep s9, ⟨t4, _, rfl, xt4, _, _, rfl, rfl, _, _, rfl, ⟨t3, _, rfl, wt4 _ _ xt3, dd5.keep ((s6.trans s7).trans s9)⟩, rfl⟩, dep_ru _ _, _, rfl, iteF ?_⟩
          exact ⟨(sJ.trans v5).trans ((s6.trans s7).trans s9), _, _, _, _, rfl⟩
        · refine ⟨_, rfl, b5, _, qs.set k (mvP "high" sc p), rfl, s6 _ _ xb5, dd5.keep s6, ls5, sq5, fun z => absurd z nir, fun _ H7 s7 => ⟨_, rfl, iteT ?_⟩⟩
          exact ⟨_, rfl, rfl, _, rfl, iteF ⟨(sJ.trans v5).trans (s6.trans s7), _, _, _, _, rfl⟩⟩
    · rintro σ J ⟨sJ, v13', v14', v15', v16', rfl⟩
      exact ⟨s27.trans sJ, _, _, _, _, _, _, _, _, _, rfl⟩
  · rintro σ G ⟨sm, v8, v9, v10, v11, v12, v13, v14, v15, v16, rfl⟩
    have sG := s2.trans sm
    refine ⟨_, rfl, _, rfl, _, rfl, F, ws, rfl, .inl ⟨SqL.of (sG _ _ hF), fun t3 ht3 => ⟨two, fun t4 ht4 => ?_⟩⟩⟩
    have wt3 := same_new ht3 (.tup ws)
    have xt3 : upd G t3 (.tup ws) t3 = some (.tup ws) := upd_same
    generalize upd G t3 (.tup ws) = G8 at *
    have wt4 := same_new ht4 ((.tup [V.int n', V.ref t3]))
    have xt4 : upd G8 t4 ((.tup [V.int n', V.ref t3])) t4 = some ((.tup [V.int n', V.ref t3])) := upd_same
    generalize upd G8 t4 ((.tup [V.int n', V.ref t3])) = G9 at *
    have s9 := wt3.trans wt4
    exact ⟨ruT n' (qs.map sqR), dr.keep (sm.trans s9), ⟨t4, _, rfl, xt4, _, _, rfl, rfl, _, _, rfl, ⟨t3, _, rfl, wt4 _ _ xt3, dd.keep (sG.trans s9)⟩, rfl⟩, dep_ru _ _, q _⟩
end
theorem all_mk {l : PySem.W.OpenLaw} {w : World} {K : PySem.W.Frag} {h : Heap} {mg : Str → Option Value} {fa f_whole f_share f_wpair f_cd f_frac f_plus f_minus f_und f_ruleof f_rowof f_str f_mov f_we f_cell f_stream f_dv f_low f_nm f_sts f_isr f_law : Addr} (X : K.In h) (G : h.Ns mainGlobals mg) (hfa : mg "law" = some (.ref fa))
    {od_whole an_whole : Option Addr} {sl_whole : Array (Option Value)} {oc_whole kV_whole dc_whole pm_whole cd_whole ct_whole : Value}
    (a_whole : PySem.W.nsIn K mainGlobals "is_whole" = some (some (.ref f_whole))) (l_whole : K.lookup f_whole = some ⟨oc_whole, od_whole, .func (PySem.W.fnOf "is_whole" "is_whole" (defArgs s_whole) (defBody s_whole) (defScope s_whole) .none kV_whole dc_whole pm_whole an_whole cd_whole ct_whole), sl_whole⟩) (c_whole : PySem.W.codeIn K cd_whole "is_whole" = true) (k_whole : PySem.W.keepIn K (.ref f_whole) = true)
    {od_share an_share : Option Addr} {sl_share : Array (Option Value)} {oc_share kV_share dc_share pm_share cd_share ct_share : Value}
    (a_share : PySem.W.nsIn K mainGlobals "is_share" = some (some (.ref f_share))) (l_share : K.lookup f_share = some ⟨oc_share, od_share, .func (PySem.W.fnOf "is_share" "is_share" (defArgs s_share) (defBody s_share) (defScope s_share) .none kV_share dc_share pm_share an_share cd_share ct_share), sl_share⟩) (c_share : PySem.W.codeIn K cd_share "is_share" = true) (k_share : PySem.W.keepIn K (.ref f_share) = true)
    {od_wpair an_wpair : Option Addr} {sl_wpair : Array (Option Value)} {oc_wpair kV_wpair dc_wpair pm_wpair cd_wpair ct_wpair : Value}
    (a_wpair : PySem.W.nsIn K mainGlobals "is_whole_pair" = some (some (.ref f_wpair))) (l_wpair : K.lookup f_wpair = some ⟨oc_wpair, od_wpair, .func (PySem.W.fnOf "is_whole_pair" "is_whole_pair" (defArgs s_wpair) (defBody s_wpair) (defScope s_wpair) .none kV_wpair dc_wpair pm_wpair an_wpair cd_wpair ct_wpair), sl_wpair⟩) (c_wpair : PySem.W.codeIn K cd_wpair "is_whole_pair" = true) (k_wpair : PySem.W.keepIn K (.ref f_wpair) = true)
    {od_cd an_cd : Option Addr} {sl_cd : Array (Option Value)} {oc_cd kV_cd dc_cd pm_cd cd_cd ct_cd : Value}
    (a_cd : PySem.W.nsIn K mainGlobals "common_divisor" = some (some (.ref f_cd))) (l_cd : K.lookup f_cd = some ⟨oc_cd, od_cd, .func (PySem.W.fnOf "common_divisor" "common_divisor" (defArgs s_cd) (defBody s_cd) (defScope s_cd) .none kV_cd dc_cd pm_cd an_cd cd_cd ct_cd), sl_cd⟩) (c_cd : PySem.W.codeIn K cd_cd "common_divisor" = true) (k_cd : PySem.W.keepIn K (.ref f_cd) = true)
    {od_frac an_frac : Option Addr} {sl_frac : Array (Option Value)} {oc_frac kV_frac dc_frac pm_frac cd_frac ct_frac : Value}
    (a_frac : PySem.W.nsIn K mainGlobals "fraction" = some (some (.ref f_frac))) (l_frac : K.lookup f_frac = some ⟨oc_frac, od_frac, .func (PySem.W.fnOf "fraction" "fraction" (defArgs s_frac) (defBody s_frac) (defScope s_frac) .none kV_frac dc_frac pm_frac an_frac cd_frac ct_frac), sl_frac⟩) (c_frac : PySem.W.codeIn K cd_frac "fraction" = true) (k_frac : PySem.W.keepIn K (.ref f_frac) = true)
    {od_plus an_plus : Option Addr} {sl_plus : Array (Option Value)} {oc_plus kV_plus dc_plus pm_plus cd_plus ct_plus : Value}
    (a_plus : PySem.W.nsIn K mainGlobals "plus" = some (some (.ref f_plus))) (l_plus : K.lookup f_plus = some ⟨oc_plus, od_plus, .func (PySem.W.fnOf "plus" "plus" (defArgs s_plus) (defBody s_plus) (defScope s_plus) .none kV_plus dc_plus pm_plus an_plus cd_plus ct_plus), sl_plus⟩) (c_plus : PySem.W.codeIn K cd_plus "plus" = true) (k_plus : PySem.W.keepIn K (.ref f_plus) = true)
    {od_minus an_minus : Option Addr} {sl_minus : Array (Option Value)} {oc_minus kV_minus dc_minus pm_minus cd_minus ct_minus : Value}
    (a_minus : PySem.W.nsIn K mainGlobals "minus" = some (some (.ref f_minus))) (l_minus : K.lookup f_minus = some ⟨oc_minus, od_minus, .func (PySem.W.fnOf "minus" "minus" (defArgs s_minus) (defBody s_minus) (defScope s_minus) .none kV_minus dc_minus pm_minus an_minus cd_minus ct_minus), sl_minus⟩) (c_minus : PySem.W.codeIn K cd_minus "minus" = true) (k_minus : PySem.W.keepIn K (.ref f_minus) = true)
    {od_und an_und : Option Addr} {sl_und : Array (Option Value)} {oc_und kV_und dc_und pm_und cd_und ct_und : Value}
    (a_und : PySem.W.nsIn K mainGlobals "under" = some (some (.ref f_und))) (l_und : K.lookup f_und = some ⟨oc_und, od_und, .func (PySem.W.fnOf "under" "under" (defArgs s_und) (defBody s_und) (defScope s_und) .none kV_und dc_und pm_und an_und cd_und ct_und), sl_und⟩) (c_und : PySem.W.codeIn K cd_und "under" = true) (k_und : PySem.W.keepIn K (.ref f_und) = true)
    {od_ruleof an_ruleof : Option Addr} {sl_ruleof : Array (Option Value)} {oc_ruleof kV_ruleof dc_ruleof pm_ruleof cd_ruleof ct_ruleof : Value}
    (a_ruleof : PySem.W.nsIn K mainGlobals "rule_of" = some (some (.ref f_ruleof))) (l_ruleof : K.lookup f_ruleof = some ⟨oc_ruleof, od_ruleof, .func (PySem.W.fnOf "rule_of" "rule_of" (defArgs s_ruleof) (defBody s_ruleof) (defScope s_ruleof) .none kV_ruleof dc_ruleof pm_ruleof an_ruleof cd_ruleof ct_ruleof), sl_ruleof⟩) (c_ruleof : PySem.W.codeIn K cd_ruleof "rule_of" = true) (k_ruleof : PySem.W.keepIn K (.ref f_ruleof) = true)
    {od_rowof an_rowof : Option Addr} {sl_rowof : Array (Option Value)} {oc_rowof kV_rowof dc_rowof pm_rowof cd_rowof ct_rowof : Value}
    (a_rowof : PySem.W.nsIn K mainGlobals "is_row_of" = some (some (.ref f_rowof))) (l_rowof : K.lookup f_rowof = some ⟨oc_rowof, od_rowof, .func (PySem.W.fnOf "is_row_of" "is_row_of" (defArgs s_rowof) (defBody s_rowof) (defScope s_rowof) .none kV_rowof dc_rowof pm_rowof an_rowof cd_rowof ct_rowof), sl_rowof⟩) (c_rowof : PySem.W.codeIn K cd_rowof "is_row_of" = true) (k_rowof : PySem.W.keepIn K (.ref f_rowof) = true)
    {od_str an_str : Option Addr} {sl_str : Array (Option Value)} {oc_str kV_str dc_str pm_str cd_str ct_str : Value}
    (a_str : PySem.W.nsIn K mainGlobals "stretch_of" = some (some (.ref f_str))) (l_str : K.lookup f_str = some ⟨oc_str, od_str, .func (PySem.W.fnOf "stretch_of" "stretch_of" (defArgs s_str) (defBody s_str) (defScope s_str) .none kV_str dc_str pm_str an_str cd_str ct_str), sl_str⟩) (c_str : PySem.W.codeIn K cd_str "stretch_of" = true) (k_str : PySem.W.keepIn K (.ref f_str) = true)
    {od_mov an_mov : Option Addr} {sl_mov : Array (Option Value)} {oc_mov kV_mov dc_mov pm_mov cd_mov ct_mov : Value}
    (a_mov : PySem.W.nsIn K mainGlobals "moved" = some (some (.ref f_mov))) (l_mov : K.lookup f_mov = some ⟨oc_mov, od_mov, .func (PySem.W.fnOf "moved" "moved" (defArgs s_mov) (defBody s_mov) (defScope s_mov) .none kV_mov dc_mov pm_mov an_mov cd_mov ct_mov), sl_mov⟩) (c_mov : PySem.W.codeIn K cd_mov "moved" = true) (k_mov : PySem.W.keepIn K (.ref f_mov) = true)
    {od_we an_we : Option Addr} {sl_we : Array (Option Value)} {oc_we kV_we dc_we pm_we cd_we ct_we : Value}
    (a_we : PySem.W.nsIn K mainGlobals "with_end" = some (some (.ref f_we))) (l_we : K.lookup f_we = some ⟨oc_we, od_we, .func (PySem.W.fnOf "with_end" "with_end" (defArgs s_we) (defBody s_we) (defScope s_we) .none kV_we dc_we pm_we an_we cd_we ct_we), sl_we⟩) (c_we : PySem.W.codeIn K cd_we "with_end" = true) (k_we : PySem.W.keepIn K (.ref f_we) = true)
    {od_cell an_cell : Option Addr} {sl_cell : Array (Option Value)} {oc_cell kV_cell dc_cell pm_cell cd_cell ct_cell : Value}
    (a_cell : PySem.W.nsIn K mainGlobals "_law_cell_at" = some (some (.ref f_cell))) (l_cell : K.lookup f_cell = some ⟨oc_cell, od_cell, .func (PySem.W.fnOf "_law_cell_at" "_law_cell_at" (defArgs s_cell) (defBody s_cell) (defScope s_cell) .none kV_cell dc_cell pm_cell an_cell cd_cell ct_cell), sl_cell⟩) (c_cell : PySem.W.codeIn K cd_cell "_law_cell_at" = true) (k_cell : PySem.W.keepIn K (.ref f_cell) = true)
    {od_stream an_stream : Option Addr} {sl_stream : Array (Option Value)} {oc_stream kV_stream dc_stream pm_stream cd_stream ct_stream : Value}
    (a_stream : PySem.W.nsIn K mainGlobals "_law_stream" = some (some (.ref f_stream))) (l_stream : K.lookup f_stream = some ⟨oc_stream, od_stream, .func (PySem.W.fnOf "_law_stream" "_law_stream" (defArgs s_stream) (defBody s_stream) (defScope s_stream) .none kV_stream dc_stream pm_stream an_stream cd_stream ct_stream), sl_stream⟩) (c_stream : PySem.W.codeIn K cd_stream "_law_stream" = true) (k_stream : PySem.W.keepIn K (.ref f_stream) = true)
    {od_dv an_dv : Option Addr} {sl_dv : Array (Option Value)} {oc_dv kV_dv dc_dv pm_dv cd_dv ct_dv : Value}
    (a_dv : PySem.W.nsIn K mainGlobals "_law_divisor" = some (some (.ref f_dv))) (l_dv : K.lookup f_dv = some ⟨oc_dv, od_dv, .func (PySem.W.fnOf "_law_divisor" "_law_divisor" (defArgs s_dv) (defBody s_dv) (defScope s_dv) .none kV_dv dc_dv pm_dv an_dv cd_dv ct_dv), sl_dv⟩) (c_dv : PySem.W.codeIn K cd_dv "_law_divisor" = true) (k_dv : PySem.W.keepIn K (.ref f_dv) = true)
    {od_low an_low : Option Addr} {sl_low : Array (Option Value)} {oc_low kV_low dc_low pm_low cd_low ct_low : Value}
    (a_low : PySem.W.nsIn K mainGlobals "_law_lowest" = some (some (.ref f_low))) (l_low : K.lookup f_low = some ⟨oc_low, od_low, .func (PySem.W.fnOf "_law_lowest" "_law_lowest" (defArgs s_low) (defBody s_low) (defScope s_low) .none kV_low dc_low pm_low an_low cd_low ct_low), sl_low⟩) (c_low : PySem.W.codeIn K cd_low "_law_lowest" = true) (k_low : PySem.W.keepIn K (.ref f_low) = true)
    {od_nm an_nm : Option Addr} {sl_nm : Array (Option Value)} {oc_nm kV_nm dc_nm pm_nm cd_nm ct_nm : Value}
    (a_nm : PySem.W.nsIn K mainGlobals "_law_no_more" = some (some (.ref f_nm))) (l_nm : K.lookup f_nm = some ⟨oc_nm, od_nm, .func (PySem.W.fnOf "_law_no_more" "_law_no_more" (defArgs s_nm) (defBody s_nm) (defScope s_nm) .none kV_nm dc_nm pm_nm an_nm cd_nm ct_nm), sl_nm⟩) (c_nm : PySem.W.codeIn K cd_nm "_law_no_more" = true) (k_nm : PySem.W.keepIn K (.ref f_nm) = true)
    {od_sts an_sts : Option Addr} {sl_sts : Array (Option Value)} {oc_sts kV_sts dc_sts pm_sts cd_sts ct_sts : Value}
    (a_sts : PySem.W.nsIn K mainGlobals "_law_stretches" = some (some (.ref f_sts))) (l_sts : K.lookup f_sts = some ⟨oc_sts, od_sts, .func (PySem.W.fnOf "_law_stretches" "_law_stretches" (defArgs s_sts) (defBody s_sts) (defScope s_sts) .none kV_sts dc_sts pm_sts an_sts cd_sts ct_sts), sl_sts⟩) (c_sts : PySem.W.codeIn K cd_sts "_law_stretches" = true) (k_sts : PySem.W.keepIn K (.ref f_sts) = true)
    {od_isr an_isr : Option Addr} {sl_isr : Array (Option Value)} {oc_isr kV_isr dc_isr pm_isr cd_isr ct_isr : Value}
    (a_isr : PySem.W.nsIn K mainGlobals "_law_is_rule" = some (some (.ref f_isr))) (l_isr : K.lookup f_isr = some ⟨oc_isr, od_isr, .func (PySem.W.fnOf "_law_is_rule" "_law_is_rule" (defArgs s_isr) (defBody s_isr) (defScope s_isr) .none kV_isr dc_isr pm_isr an_isr cd_isr ct_isr), sl_isr⟩) (c_isr : PySem.W.codeIn K cd_isr "_law_is_rule" = true) (k_isr : PySem.W.keepIn K (.ref f_isr) = true)
    {od_law an_law : Option Addr} {sl_law : Array (Option Value)} {oc_law kV_law dc_law pm_law cd_law ct_law : Value}
    (a_law : PySem.W.nsIn K mainGlobals "law" = some (some (.ref f_law))) (l_law : K.lookup f_law = some ⟨oc_law, od_law, .func (PySem.W.fnOf "law" "law" (defArgs s_law) (defBody s_law) (defScope s_law) .none kV_law dc_law pm_law an_law cd_law ct_law), sl_law⟩) (c_law : PySem.W.codeIn K cd_law "law" = true) (k_law : PySem.W.keepIn K (.ref f_law) = true)
    (z_range : PySem.W.nsIn K mainGlobals "range" = some none) (z_min : PySem.W.nsIn K mainGlobals "min" = some none) (z_max : PySem.W.nsIn K mainGlobals "max" = some none) (z_len : PySem.W.nsIn K mainGlobals "len" = some none) (z_isinstance : PySem.W.nsIn K mainGlobals "isinstance" = some none) (z_int : PySem.W.nsIn K mainGlobals "int" = some none) (z_bool : PySem.W.nsIn K mainGlobals "bool" = some none) (z_tuple : PySem.W.nsIn K mainGlobals "tuple" = some none) (z_list : PySem.W.nsIn K mainGlobals "list" = some none) (z_all : PySem.W.nsIn K mainGlobals "all" = some none) (z_sorted : PySem.W.nsIn K mainGlobals "sorted" = some none) (z_zip : PySem.W.nsIn K mainGlobals "zip" = some none) (z_reversed : PySem.W.nsIn K mainGlobals "reversed" = some none) (z_abs : PySem.W.nsIn K mainGlobals "abs" = some none) (z_ValueError : PySem.W.nsIn K mainGlobals "ValueError" = some none)
    {d_StretchError d_NoNumber d_NoRule : Addr}
    (n_StretchError : PySem.W.nsIn K mainGlobals "StretchError" = some (some (.ref d_StretchError)))
    (n_NoNumber : PySem.W.nsIn K mainGlobals "NoNumber" = some (some (.ref d_NoNumber)))
    (n_NoRule : PySem.W.nsIn K mainGlobals "NoRule" = some (some (.ref d_NoRule)))
    (x_NoRule : PySem.W.excIn K d_NoRule vbm "ValueError.__new__" = true)
    (ic_NoRule : PySem.W.isClsIn K d_NoRule = true)
    (ga_NoRule : PySem.W.findIn K (.ref d_NoRule) "__getattribute__" = some (some (.builtin "BaseException.__getattribute__")))
    (gt_NoRule : PySem.W.findIn K (.ref d_NoRule) "__getattr__" = some none)
    (cl_NoRule : PySem.W.findIn K (.ref d_NoRule) "__class__" = some (some (.builtin "object.__class__")))
    (sg_NoRule : PySem.W.specialIn K (.builtin "object.__class__") "__get__" = some (some (.builtin "getset_descriptor.__get__")))
    (tk_NoRule : PySem.W.takesIn K (.builtin "object.__class__") = some true)
    (ob_NoRule : PySem.W.mroIn K d_NoRule (.type "object") = some true)
    (be_NoRule : PySem.W.mroIn K d_NoRule (.type "BaseException") = some true)
    (x_NoNumber : PySem.W.excIn K d_NoNumber vbm "ValueError.__new__" = true)
    (ic_NoNumber : PySem.W.isClsIn K d_NoNumber = true)
    (ga_NoNumber : PySem.W.findIn K (.ref d_NoNumber) "__getattribute__" = some (some (.builtin "BaseException.__getattribute__")))
    (gt_NoNumber : PySem.W.findIn K (.ref d_NoNumber) "__getattr__" = some none)
    (cl_NoNumber : PySem.W.findIn K (.ref d_NoNumber) "__class__" = some (some (.builtin "object.__class__")))
    (sg_NoNumber : PySem.W.specialIn K (.builtin "object.__class__") "__get__" = some (some (.builtin "getset_descriptor.__get__")))
    (tk_NoNumber : PySem.W.takesIn K (.builtin "object.__class__") = some true)
    (ob_NoNumber : PySem.W.mroIn K d_NoNumber (.type "object") = some true)
    (be_NoNumber : PySem.W.mroIn K d_NoNumber (.type "BaseException") = some true)
    (t_NoRule : PySem.W.typeIn K (.ref d_NoRule) = some (.type "type")) (s_NoRule : PySem.W.isClsIn K d_NoRule = true) (u_NoRule : PySem.W.subIn K (.ref d_NoRule) (.type "BaseException") = some true)
    (f_sub : PySem.W.subIn K (.ref d_NoRule) (.ref d_NoRule) = some true) :
    ∃ fd : FuncData, (∀ (s : Shared) (v : Value), BindsTo s fd ⟨[v], []⟩ [("_law_script", v)]) ∧ ∀ base : Heap, K.In base → base.Ns mainGlobals mg → FnOk l.prog w K mg base CX0 8 fa fd ["_law_script"] (spLaw K) := by
  have e := hfa.symm.trans (PySem.W.mg_of X G a_law)
  cases e
  have T : Txt mg := ⟨PySem.W.mg_none_of X G z_range, PySem.W.mg_none_of X G z_min, PySem.W.mg_none_of X G z_max, PySem.W.mg_none_of X G z_len, PySem.W.mg_none_of X G z_isinstance, PySem.W.mg_none_of X G z_int, PySem.W.mg_none_of X G z_bool, PySem.W.mg_none_of X G z_tuple, PySem.W.mg_none_of X G z_list, PySem.W.mg_none_of X G z_all, PySem.W.mg_none_of X G z_sorted, PySem.W.mg_none_of X G z_zip, PySem.W.mg_none_of X G z_reversed, PySem.W.mg_none_of X G z_abs, PySem.W.mg_none_of X G z_ValueError⟩
  have cf : CF K mg ⟨d_StretchError, d_NoNumber, d_NoRule⟩ := ⟨PySem.W.mg_of X G n_StretchError, PySem.W.mg_of X G n_NoNumber, PySem.W.mg_of X G n_NoRule, ⟨PySem.W.mg_of X G n_NoRule, x_NoRule⟩, ⟨PySem.W.mg_of X G n_NoNumber, x_NoNumber⟩, ⟨t_NoRule, s_NoRule, u_NoRule⟩, ⟨ga_NoRule, gt_NoRule, cl_NoRule, sg_NoRule, tk_NoRule, ob_NoRule, be_NoRule, ic_NoRule⟩, ⟨ga_NoNumber, gt_NoNumber, cl_NoNumber, sg_NoNumber, tk_NoNumber, ob_NoNumber, be_NoNumber, ic_NoNumber⟩, f_sub⟩
  have F_whole := fun_mk (st := s_whole) l_whole c_whole k_whole
  have b_whole := F_whole.binds (ps := ["thing"]) fun _ _ _ _ _ _ us hl => match us, hl with | [_], _ => rfl
  have m_whole := PySem.W.mg_of X G a_whole
  have F_share := fun_mk (st := s_share) l_share c_share k_share
  have b_share := F_share.binds (ps := ["thing"]) fun _ _ _ _ _ _ us hl => match us, hl with | [_], _ => rfl
  have m_share := PySem.W.mg_of X G a_share
  have F_wpair := fun_mk (st := s_wpair) l_wpair c_wpair k_wpair
  have b_wpair := F_wpair.binds (ps := ["thing"]) fun _ _ _ _ _ _ us hl => match us, hl with | [_], _ => rfl
  have m_wpair := PySem.W.mg_of X G a_wpair
  have F_cd := fun_mk (st := s_cd) l_cd c_cd k_cd
  have b_cd := F_cd.binds (ps := ["one", "other"]) fun _ _ _ _ _ _ us hl => match us, hl with | [_, _], _ => rfl
  have m_cd := PySem.W.mg_of X G a_cd
  have F_frac := fun_mk (st := s_frac) l_frac c_frac k_frac
  have b_frac := F_frac.binds (ps := ["top", "bottom"]) fun _ _ _ _ _ _ us hl => match us, hl with | [_, _], _ => rfl
  have m_frac := PySem.W.mg_of X G a_frac
  have F_plus := fun_mk (st := s_plus) l_plus c_plus k_plus
  have b_plus := F_plus.binds (ps := ["one", "other"]) fun _ _ _ _ _ _ us hl => match us, hl with | [_, _], _ => rfl
  have m_plus := PySem.W.mg_of X G a_plus
  have F_minus := fun_mk (st := s_minus) l_minus c_minus k_minus
  have b_minus := F_minus.binds (ps := ["one", "other"]) fun _ _ _ _ _ _ us hl => match us, hl with | [_, _], _ => rfl
  have m_minus := PySem.W.mg_of X G a_minus
  have F_und := fun_mk (st := s_und) l_und c_und k_und
  have b_und := F_und.binds (ps := ["one", "other"]) fun _ _ _ _ _ _ us hl => match us, hl with | [_, _], _ => rfl
  have m_und := PySem.W.mg_of X G a_und
  have F_ruleof := fun_mk (st := s_ruleof) l_ruleof c_ruleof k_ruleof
  have b_ruleof := F_ruleof.binds (ps := ["n", "stretches"]) fun _ _ _ _ _ _ us hl => match us, hl with | [_, _], _ => rfl
  have m_ruleof := PySem.W.mg_of X G a_ruleof
  have F_rowof := fun_mk (st := s_rowof) l_rowof c_rowof k_rowof
  have b_rowof := F_rowof.binds (ps := ["thing", "count"]) fun _ _ _ _ _ _ us hl => match us, hl with | [_, _], _ => rfl
  have m_rowof := PySem.W.mg_of X G a_rowof
  have F_str := fun_mk (st := s_str) l_str c_str k_str
  have b_str := F_str.binds (ps := ["thing"]) fun _ _ _ _ _ _ us hl => match us, hl with | [_], _ => rfl
  have m_str := PySem.W.mg_of X G a_str
  have F_mov := fun_mk (st := s_mov) l_mov c_mov k_mov
  have b_mov := F_mov.binds (ps := ["rule", "k", "end", "measure"]) fun _ _ _ _ _ _ us hl => match us, hl with | [_, _, _, _], _ => rfl
  have m_mov := PySem.W.mg_of X G a_mov
  have F_we := fun_mk (st := s_we) l_we c_we k_we
  have b_we := F_we.binds (ps := ["stretches", "k", "end", "value"]) fun _ _ _ _ _ _ us hl => match us, hl with | [_, _, _, _], _ => rfl
  have m_we := PySem.W.mg_of X G a_we
  have F_cell := fun_mk (st := s_cell) l_cell c_cell k_cell
  have b_cell := F_cell.binds (ps := ["_law_script", "_law_k"]) fun _ _ _ _ _ _ us hl => match us, hl with | [_, _], _ => rfl
  have m_cell := PySem.W.mg_of X G a_cell
  have F_stream := fun_mk (st := s_stream) l_stream c_stream k_stream
  have b_stream := F_stream.binds (ps := ["_law_cell", "_law_salt", "_law_many"]) fun _ _ _ _ _ _ us hl => match us, hl with | [_, _, _], _ => rfl
  have m_stream := PySem.W.mg_of X G a_stream
  have F_dv := fun_mk (st := s_dv) l_dv c_dv k_dv
  have b_dv := F_dv.binds (ps := ["_law_one", "_law_other"]) fun _ _ _ _ _ _ us hl => match us, hl with | [_, _], _ => rfl
  have m_dv := PySem.W.mg_of X G a_dv
  have F_low := fun_mk (st := s_low) l_low c_low k_low
  have b_low := F_low.binds (ps := ["_law_top", "_law_bottom"]) fun _ _ _ _ _ _ us hl => match us, hl with | [_, _], _ => rfl
  have m_low := PySem.W.mg_of X G a_low
  have F_nm := fun_mk (st := s_nm) l_nm c_nm k_nm
  have b_nm := F_nm.binds (ps := ["_law_one", "_law_other"]) fun _ _ _ _ _ _ us hl => match us, hl with | [_, _], _ => rfl
  have m_nm := PySem.W.mg_of X G a_nm
  have F_sts := fun_mk (st := s_sts) l_sts c_sts k_sts
  have b_sts := F_sts.binds (ps := ["_law_script", "_law_n", "_law_measure"]) fun _ _ _ _ _ _ us hl => match us, hl with | [_, _, _], _ => rfl
  have m_sts := PySem.W.mg_of X G a_sts
  have F_isr := fun_mk (st := s_isr) l_isr c_isr k_isr
  have b_isr := F_isr.binds (ps := ["_law_stretches_here"]) fun _ _ _ _ _ _ us hl => match us, hl with | [_], _ => rfl
  have m_isr := PySem.W.mg_of X G a_isr
  have F_law := fun_mk (st := s_law) l_law c_law k_law
  have b_law := F_law.binds (ps := ["_law_script"]) fun _ _ _ _ _ _ us hl => match us, hl with | [_], _ => rfl
  have m_law := PySem.W.mg_of X G a_law
  refine ⟨PySem.W.fnOf "law" "law" (defArgs s_law) (defBody s_law) (defScope s_law) .none kV_law dc_law pm_law an_law cd_law ct_law, fun s v => .of_eq rfl, fun base _ _ => ?_⟩
  have G_cell := ok_cell (P := l.prog) (w := w) (base := base) F_cell T
  have G_stream := ok_stream (P := l.prog) (w := w) (base := base) F_stream T
  have G_dv := ok_dv (P := l.prog) (w := w) (base := base) F_dv T
  have G_low := ok_low (P := l.prog) (w := w) (base := base) F_low T (G_dv.mono (by decide)) b_dv k_dv m_dv
  have G_sts := ok_sts (P := l.prog) (w := w) (base := base) F_sts T (G_cell.mono (by decide)) b_cell k_cell m_cell (G_stream.mono (by decide)) b_stream k_stream m_stream (G_low.mono (by decide)) b_low k_low m_low
  have G_whole := ok_whole (P := l.prog) (w := w) (base := base) F_whole T
  have G_rowof := ok_rowof (P := l.prog) (w := w) (base := base) F_rowof T
  have G_wpair := ok_wpair (P := l.prog) (w := w) (base := base) F_wpair T (G_whole.mono (by decide)) b_whole k_whole m_whole
  have G_cd := ok_cd (P := l.prog) (w := w) (base := base) F_cd T
  have G_share := ok_share (P := l.prog) (w := w) (base := base) F_share T (G_wpair.mono (by decide)) b_wpair k_wpair m_wpair (G_cd.mono (by decide)) b_cd k_cd m_cd
  have G_und := ok_und (P := l.prog) (w := w) (base := base) F_und T
  have G_str := ok_str (P := l.prog) (w := w) (base := base) F_str T cf (G_rowof.mono (by decide)) b_rowof k_rowof m_rowof (G_share.mono (by decide)) b_share k_share m_share (G_und.mono (by decide)) b_und k_und m_und
  have G_ruleof := ok_ruleof (P := l.prog) (w := w) (base := base) F_ruleof T cf (G_whole.mono (by decide)) b_whole k_whole m_whole (G_rowof.mono (by decide)) b_rowof k_rowof m_rowof (G_str.mono (by decide)) b_str k_str m_str (G_und.mono (by decide)) b_und k_und m_und
  have G_frac := ok_frac (P := l.prog) (w := w) (base := base) F_frac T cf (G_whole.mono (by decide)) b_whole k_whole m_whole (G_cd.mono (by decide)) b_cd k_cd m_cd
  have G_plus := ok_plus (P := l.prog) (w := w) (base := base) F_plus T (G_frac.mono (by decide)) b_frac k_frac m_frac
  have G_minus := ok_minus (P := l.prog) (w := w) (base := base) F_minus T (G_frac.mono (by decide)) b_frac k_frac m_frac
  have G_we := ok_we (P := l.prog) (w := w) (base := base) F_we T
  have G_mov := ok_mov (P := l.prog) (w := w) (base := base) F_mov T cf (G_frac.mono (by decide)) b_frac k_frac m_frac (G_plus.mono (by decide)) b_plus k_plus m_plus (G_minus.mono (by decide)) b_minus k_minus m_minus (G_ruleof.mono (by decide)) b_ruleof k_ruleof m_ruleof (G_we.mono (by decide)) b_we k_we m_we
  have G_nm := ok_nm (P := l.prog) (w := w) (base := base) F_nm T
  have G_isr := ok_isr (P := l.prog) (w := w) (base := base) F_isr T (G_nm.mono (by decide)) b_nm k_nm m_nm
  exact ok_law F_law T cf (G_cell.mono (by decide)) b_cell k_cell m_cell (G_sts.mono (by decide)) b_sts k_sts m_sts (G_ruleof.mono (by decide)) b_ruleof k_ruleof m_ruleof (G_low.mono (by decide)) b_low k_low m_low (G_mov.mono (by decide)) b_mov k_mov m_mov (G_isr.mono (by decide)) b_isr k_isr m_isr
theorem walk {l : PySem.W.OpenLaw} {q : Program} {loose : List Str} {XP : (Str → Option Value) → Heap → Prop} {YP : World → Heap → Prop} {d : DefRec} {K : Params → PySem.W.Frag} (hn : l.most = some 63) (hdf : d.params.defaults = [])
    (hY : ∀ (w : World) (h : Heap), YP w h → (K w.params).In h)
    (F : ∀ (w : World) (mg : Str → Option Value) (fa : Addr) (h : Heap), (K w.params).In h → h.Ns mainGlobals mg → mg d.name = some (.ref fa) →
      ∃ fd : FuncData, (∀ (s : Shared) (u : Value), BindsTo s fd ⟨[u], []⟩ [("_law_script", u)]) ∧ ∀ base : Heap, (K w.params).In base → base.Ns mainGlobals mg → FnOk l.prog w (K w.params) mg base CX0 8 fa fd ["_law_script"] (spLaw (K w.params))) :
    PySem.W.WalkO q loose XP YP l.row.toRowW d [] (fun f vs => PySem.call f vs) :=
  L2.walk_ofB (n := 63) (k := 8) (x := "_law_script") (CX := fun _ => CX0) (sp := fun w => spLaw (K w.params)) hn (by decide) hdf ⟨rfl, by decide, by decide⟩ hY F (fun _ _ a ns hl hb _ hS => ⟨a, ns, rfl, hS, hl, hb, fun _ => rfl⟩) fun _ _ _ _ _ z => z
end K26
open PySem PySem.W PyProof.Rows
set_option maxRecDepth 100000 in
set_option maxHeartbeats 0 in
theorem PySem.Challenge.cw_surestretch_k26_ends_moved_holds : PySem.Challenge.rw_surestretch_k26_ends_moved.Holds := by
  w_on; o_law; k_head; (case hw => w_witness2)
  k_fill
  refine K26.walk (l := PySem.Challenge.rw_surestretch_k26_ends_moved) rfl rfl (fun w h Y => PySem.W.kIn_of Y) ?F
  case F =>
    intro w mg fa h KX G hmg
    refine' K26.all_mk KX G hmg ?a_whole ?l_whole ?c_whole ?k_whole ?a_share ?l_share ?c_share ?k_share ?a_wpair ?l_wpair ?c_wpair ?k_wpair ?a_cd ?l_cd ?c_cd ?k_cd ?a_frac ?l_frac ?c_frac ?k_frac ?a_plus ?l_plus ?c_plus ?k_plus ?a_minus ?l_minus ?c_minus ?k_minus ?a_und ?l_und ?c_und ?k_und ?a_ruleof ?l_ruleof ?c_ruleof ?k_ruleof ?a_rowof ?l_rowof ?c_rowof ?k_rowof ?a_str ?l_str ?c_str ?k_str ?a_mov ?l_mov ?c_mov ?k_mov ?a_we ?l_we ?c_we ?k_we ?a_cell ?l_cell ?c_cell ?k_cell ?a_stream ?l_stream ?c_stream ?k_stream ?a_dv ?l_dv ?c_dv ?k_dv ?a_low ?l_low ?c_low ?k_low ?a_nm ?l_nm ?c_nm ?k_nm ?a_sts ?l_sts ?c_sts ?k_sts ?a_isr ?l_isr ?c_isr ?k_isr ?a_law ?l_law ?c_law ?k_law ?z_range ?z_min ?z_max ?z_len ?z_isinstance ?z_int ?z_bool ?z_tuple ?z_list ?z_all ?z_sorted ?z_zip ?z_reversed ?z_abs ?z_ValueError ?n_StretchError ?n_NoNumber ?n_NoRule ?x_NoRule ?ic_NoRule ?ga_NoRule ?gt_NoRule ?cl_NoRule ?sg_NoRule ?tk_NoRule ?ob_NoRule ?be_NoRule ?x_NoNumber ?ic_NoNumber ?ga_NoNumber ?gt_NoNumber ?cl_NoNumber ?sg_NoNumber ?tk_NoNumber ?ob_NoNumber ?be_NoNumber ?t_NoRule ?s_NoRule ?u_NoRule ?f_sub
    (case a_whole => k_is); (case l_whole => k_is); (case c_whole => k_is); (case k_whole => k_is); (case a_share => k_is); (case l_share => k_is); (case c_share => k_is); (case k_share => k_is)
    (case a_wpair => k_is); (case l_wpair => k_is); (case c_wpair => k_is); (case k_wpair => k_is); (case a_cd => k_is); (case l_cd => k_is); (case c_cd => k_is); (case k_cd => k_is)
    (case a_frac => k_is); (case l_frac => k_is); (case c_frac => k_is); (case k_frac => k_is); (case a_plus => k_is); (case l_plus => k_is); (case c_plus => k_is); (case k_plus => k_is)
    (case a_minus => k_is); (case l_minus => k_is); (case c_minus => k_is); (case k_minus => k_is); (case a_und => k_is); (case l_und => k_is); (case c_und => k_is); (case k_und => k_is)
    (case a_ruleof => k_is); (case l_ruleof => k_is); (case c_ruleof => k_is); (case k_ruleof => k_is); (case a_rowof => k_is); (case l_rowof => k_is); (case c_rowof => k_is); (case k_rowof => k_is)
    (case a_str => k_is); (case l_str => k_is); (case c_str => k_is); (case k_str => k_is); (case a_mov => k_is); (case l_mov => k_is); (case c_mov => k_is); (case k_mov => k_is)
    (case a_we => k_is); (case l_we => k_is); (case c_we => k_is); (case k_we => k_is); (case a_cell => k_is); (case l_cell => k_is); (case c_cell => k_is); (case k_cell => k_is)
    (case a_stream => k_is); (case l_stream => k_is); (case c_stream => k_is); (case k_stream => k_is); (case a_dv => k_is); (case l_dv => k_is); (case c_dv => k_is); (case k_dv => k_is)
    (case a_low => k_is); (case l_low => k_is); (case c_low => k_is); (case k_low => k_is); (case a_nm => k_is); (case l_nm => k_is); (case c_nm => k_is); (case k_nm => k_is)
    (case a_sts => k_is); (case l_sts => k_is); (case c_sts => k_is); (case k_sts => k_is); (case a_isr => k_is); (case l_isr => k_is); (case c_isr => k_is); (case k_isr => k_is)
    (case a_law => k_is); (case l_law => k_is); (case c_law => k_is); (case k_law => k_is); (case z_range => k_is); (case z_min => k_is); (case z_max => k_is); (case z_len => k_is)
    (case z_isinstance => k_is); (case z_int => k_is); (case z_bool => k_is); (case z_tuple => k_is); (case z_list => k_is); (case z_all => k_is); (case z_sorted => k_is); (case z_zip => k_is)
    (case z_reversed => k_is); (case z_abs => k_is); (case z_ValueError => k_is); (case n_StretchError => k_is); (case n_NoNumber => k_is); (case n_NoRule => k_is); (case x_NoRule => k_exc); (case ic_NoRule => k_is)
    (case ga_NoRule => k_is); (case gt_NoRule => k_is); (case cl_NoRule => k_is); (case sg_NoRule => k_is); (case tk_NoRule => k_is); (case ob_NoRule => k_is); (case be_NoRule => k_is); (case x_NoNumber => k_exc)
    (case ic_NoNumber => k_is); (case ga_NoNumber => k_is); (case gt_NoNumber => k_is); (case cl_NoNumber => k_is); (case sg_NoNumber => k_is); (case tk_NoNumber => k_is); (case ob_NoNumber => k_is); (case be_NoNumber => k_is)
    (case t_NoRule => k_is); (case s_NoRule => k_is); (case u_NoRule => k_is); (case f_sub => k_is)