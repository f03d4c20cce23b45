import PyProof.Rows.All
import PyProof.InstStoreFacts
import PyProof.ExcClass3
import PyProof.ExcInit
import KE.KLam
import KE.KRevIter
import PyProof.EnumMake
import Wide.All
import OpenK.AllK
import Wide.FinOn
import Lean
import PyProof.EqAt
import PyProof.EqKinds
import PyProof.TupleCall
import PySem.Challenge.RW_surestretch_k34_count_rules_made_tight
set_option Elab.async false
set_option linter.all false
set_option maxRecDepth 100000
namespace L2
open PySem PySem.Spec PyProof.Rows
noncomputable abbrev Key := Sum Int Str
noncomputable def keyIs : Key → Value → Bool
  | .inl k, v => Value.isInt k v
  | .inr x, v => Value.isStrOf x v
noncomputable def keyH (w : World) : Key → Int
  | .inl k => hashInt k
  | .inr x => hashStr w x
theorem keyIs_shape : ∀ {k : Key} {v : Value}, keyIs k v = true → (∃ i t, k = Sum.inl i ∧ v = Value.int i t) ∨ (∃ x t, k = Sum.inr x ∧ v = Value.str x t)
  | .inl i, v, h => by
    obtain ⟨t, e⟩ := Value.isInt_shape (k := i) (v := v) h
    exact .inl ⟨i, t, rfl, e⟩
  | .inr x, v, h => by
    obtain ⟨t, e⟩ := Value.isStrOf_shape (x := x) (v := v) h
    exact .inr ⟨x, t, rfl, e⟩
theorem key_ll (a b : Int) : decide ((Sum.inl a : Key) = Sum.inl b) = (a == b) := by
  by_cases e : a = b
  · subst e; simp
  · have h : ¬ (Sum.inl a : Key) = Sum.inl b := fun q => e (Sum.inl.inj q)
    rw [decide_eq_false h]
    exact (beq_eq_false_iff_ne.mpr e).symm
theorem key_rr (a b : Str) : decide ((Sum.inr a : Key) = Sum.inr b) = decide (a = b) := by
  by_cases e : a = b
  · subst e; simp
  · have h : ¬ (Sum.inr a : Key) = Sum.inr b := fun q => e (Sum.inr.inj q)
    rw [decide_eq_false h, decide_eq_false e]
theorem key_lr (a : Int) (b : Str) : decide ((Sum.inl a : Key) = Sum.inr b) = false := decide_eq_false (fun q => nomatch q)
theorem key_rl (a : Str) (b : Int) : decide ((Sum.inr a : Key) = Sum.inl b) = false := decide_eq_false (fun q => nomatch q)
noncomputable def mixKind (prog : Program) (w : World) : PySem.KeyKind prog w Key where
  is := keyIs
  hash := keyH w
  inj := fun v a b ha hb => by
    rcases keyIs_shape ha with ⟨i, t, rfl, rfl⟩ | ⟨x, t, rfl, rfl⟩
    · rcases keyIs_shape hb with ⟨j, u, rfl, e⟩ | ⟨y, u, rfl, e⟩
      · injection e with e1 _; rw [e1]
      · exact nomatch e
    · rcases keyIs_shape hb with ⟨j, u, rfl, e⟩ | ⟨y, u, rfl, e⟩
      · exact nomatch e
      · injection e with e1 _; rw [e1]
  byValue := fun k v h => by
    rcases keyIs_shape h with ⟨i, t, rfl, rfl⟩ | ⟨x, t, rfl, rfl⟩ <;> rfl
  pyHash := fun hv h => by
    rcases keyIs_shape hv with ⟨i, t, rfl, rfl⟩ | ⟨x, t, rfl, rfl⟩
    · exact wpAny_pyHash_int h
    · exact wpAny_pyHash_str h
  eqBool := fun hu hv h => by
    rcases keyIs_shape hu with ⟨i, t, rfl, rfl⟩ | ⟨x, t, rfl, rfl⟩
    · rcases keyIs_shape hv with ⟨j, u, rfl, rfl⟩ | ⟨y, u, rfl, rfl⟩
      · rw [key_ll] at h; exact wpAny_eqBool_int h
      · rw [key_lr] at h; exact SeqAt.EqAt.int_str i t y u _ _ _ _ h
    · rcases keyIs_shape hv with ⟨j, u, rfl, rfl⟩ | ⟨y, u, rfl, rfl⟩
      · rw [key_rl] at h; exact SeqAt.EqAt.str_int x t j u _ _ _ _ h
      · rw [key_rr] at h; exact wpAny_eqBool_str h
  «strs» := fun k x t v h => by
    rcases keyIs_shape h with ⟨i, u, rfl, e⟩ | ⟨y, u, rfl, e⟩
    · exact nomatch e
    · injection e with e1 _
      subst e1
      cases v <;> rfl
end L2
namespace L2
open PySem PySem.Spec PyProof.Rows
inductive V where
  | non | bl (b : Bool) | int (i : Int) | str (x : Str) | byt (b : Array UInt8) | flt (b : UInt64) | ref (a : Addr) | ty (n : String)
  deriving DecidableEq
noncomputable def RelV : V → Value → Prop
  | .non, u => u = Value.none
  | .bl b, u => u = Value.bool b
  | .int i, u => ∃ t, u = Value.int i t
  | .str x, u => ∃ t, u = Value.str x t
  | .byt b, u => ∃ t, u = Value.bytes b t
  | .flt b, u => ∃ t, u = Value.float b t
  | .ref a, u => u = Value.ref a
  | .ty n, u => u = Value.type n
noncomputable abbrev Vals : List V → List Value → Prop := Paired RelV
theorem Vals.length {xs : List V} {us : List Value} (r : Vals xs us) : xs.length = us.length := Paired.length r
theorem Vals.get : ∀ {xs : List V} {us : List Value} {i : Nat} {x : V}, Vals xs us → xs[i]? = some x → ∃ u, us[i]? = some u ∧ RelV x u
  | _, _, _, _, .nil, e => by simp at e
  | _, _, 0, _, .cons r _, e => by simp at e; subst e; exact ⟨_, rfl, r⟩
  | _, _, i + 1, x, .cons _ t, e => by
    obtain ⟨u, h1, h2⟩ := Vals.get (i := i) (x := x) t (by simpa using e)
    exact ⟨u, by simpa using h1, h2⟩
theorem Vals.set {x : V} {u : Value} (r : RelV x u) : ∀ {xs : List V} {us : List Value} (i : Nat), Vals xs us → Vals (xs.set i x) (us.set i u)
  | _, _, _, .nil => .nil
  | _, _, 0, .cons _ t => .cons r t
  | _, _, i + 1, .cons q t => .cons q (Vals.set r i t)
theorem Vals.append : ∀ {xs ys : List V} {us ws : List Value}, Vals xs us → Vals ys ws → Vals (xs ++ ys) (us ++ ws)
  | _, _, _, _, .nil, s => s
  | _, _, _, _, .cons r t, s => .cons r (Vals.append t s)
theorem Vals.take : ∀ {xs : List V} {us : List Value} (n : Nat), Vals xs us → Vals (xs.take n) (us.take n)
  | _, _, 0, _ => .nil
  | _, _, _ + 1, .nil => .nil
  | _, _, n + 1, .cons r t => .cons r (Vals.take n t)
theorem Vals.drop : ∀ {xs : List V} {us : List Value} (n : Nat), Vals xs us → Vals (xs.drop n) (us.drop n)
  | _, _, 0, r => r
  | _, _, _ + 1, .nil => .nil
  | _, _, n + 1, .cons _ t => Vals.drop n t
theorem Vals.none_of : ∀ {xs : List V} {us : List Value} {i : Nat}, Vals xs us → xs[i]? = none → us[i]? = none := fun {xs us i} r e => by
  have h1 := r.length
  have h2 : xs.length ≤ i := List.getElem?_eq_none_iff.mp e
  exact List.getElem?_eq_none_iff.mpr (by omega)
noncomputable def RelO : Option V → Option Value → Prop
  | some v, some u => RelV v u
  | none, none => True
  | _, _ => False
noncomputable def KV {κ : Type} : List (κ × V) → List (κ × Value) → Prop := Paired fun (p : κ × V) (q : κ × Value) => p.1 = q.1 ∧ RelV p.2 q.2
noncomputable def kV : Key → V
  | .inl i => .int i
  | .inr x => .str x
inductive HO where
  | lst (xs : List V)
  | tup (xs : List V)
  | dK (kvs : List (Key × V)) | dT (kvs : List (List Key × V))
  | set (S : Int → Bool) (n : Nat)
  | ins (C dx : Addr) (fs : List (Str × V))
  | own (x : Addr)
  | xd (fs : List (Str × V))
  | met (f x : Addr)
  | rng (lo hi : Int)
  | frz (o : Obj) (u : HO)
  | tbl (ps : Array Value)
  | ext (φ : Heap → Prop)
noncomputable abbrev Hp := Addr → Option HO
noncomputable def upd (H : Hp) (a : Addr) (o : HO) : Hp := fun b => if b = a then some o else H b
theorem upd_same {H : Hp} {a : Addr} {o : HO} : upd H a o a = some o := by unfold upd; rw [if_pos rfl]
theorem upd_ne {H : Hp} {a b : Addr} {o : HO} (h : b ≠ a) : upd H a o b = H b := by unfold upd; rw [if_neg h]
theorem ne_of {H : Hp} {a b : Addr} {o u : HO} (h : H a = some o) (h' : H b = some u) (d : o ≠ u) : a ≠ b := by
  intro e; subst e; rw [h] at h'; exact d (Option.some.inj h')
theorem ne_of_none {H : Hp} {a b : Addr} {o : HO} (h : H a = some o) (h' : H b = none) : a ≠ b := by
  intro e; subst e; rw [h] at h'; cases h'
section
variable (P : Program) (w : World)
noncomputable def ObjOk (H : Hp) (h : Heap) (a : Addr) : HO → Prop
  | .lst xs => xs.length ≤ sizeLine ∧ ∃ (its : List Value) (n : Nat), Vals xs its ∧ h.get? a = some { cls := .type "list", data := .seq its.toArray n }
  | .tup xs => xs.length ≤ sizeLine ∧ ∃ its : List Value, Vals xs its ∧ IsTup h a its.toArray
  | .dK kvs => kvs.length ≤ sizeLine ∧ (a == sysModules) = false ∧ ∃ vs, KV kvs vs ∧ h.DictOf (mixKind P w) a vs
  | .dT kvs => kvs.length ≤ sizeLine ∧ (a == sysModules) = false ∧ ∃ xs : List (List Key × Addr × Value),
      Paired (fun (p : List Key × V) (q : List Key × Addr × Value) => p.1 = q.1 ∧ H q.2.1 = some (.tup (p.1.map kV)) ∧ RelV p.2 q.2.2) kvs xs ∧
      ∃ o es ep, h.get? a = some o ∧ o.ExactDict ∧ o.data = .dict es ep ∧ es.toList = xs.map (entryOfKey (tupleKind (mixKind P w))) ∧ (xs.map (·.1)).Nodup
  | .set S n => h.SetOf (intKind P w) a S n
  | .ins C dx fs => H dx = some (.own a) ∧ fs.length ≤ 1000 ∧ dx ≠ a ∧ h.get? a = some (PySem.W.instObj C dx) ∧
      ∃ mA, h.Ns1 dx mA ∧ (∀ f, RelO (fs.lookup f) (mA f)) ∧ PySem.Within mA (fs.map (·.1))
  | .own _ => ∃ o, h.get? a = some o
  | .xd fs => ∃ mA, h.Ns1 a mA ∧ ∀ f, RelO (fs.lookup f) (mA f)
  | .rng lo hi => ∃ t u v, h.get? a = some { cls := .type "range", data := .fields #[.int lo t, .int hi u, .int 1 v] }
  | .frz o u => h.get? a = some o ∧ ObjOk H h a u
  | .tbl ps => h.get? a = some { cls := .none, data := .fields ps }
  | .met f x => h.get? a = some (PySem.W.methodObj (.ref f) (.ref x))
  | .ext φ => φ h ∧ (∃ o, h.get? a = some o) ∧ ∀ h1 h2 : Heap, φ h1 → (∀ o, h1.get? a = some o → h2.get? a = some o) → φ h2
noncomputable def HOk (H : Hp) (h : Heap) : Prop := ∀ a o, H a = some o → ObjOk P w H h a o
end
section
variable {P : Program} {w : World} {H H' : Hp} {h h' : Heap} {a : Addr} {o : HO}
theorem ObjOk.lt (x : ObjOk P w H h a o) : a < h.objs.size := by
  cases o with
  | lst xs => obtain ⟨_, _, _, _, e⟩ := x; exact Heap.lt_size e
  | tup xs => obtain ⟨_, _, _, p⟩ := x; exact p.lt
  | dK kvs => obtain ⟨_, _, _, _, o, _, _, e, _⟩ := x; exact Heap.lt_size e
  | dT kvs => obtain ⟨_, _, _, _, o, _, _, e, _⟩ := x; exact Heap.lt_size e
  | set S n => obtain ⟨o, _, _, _, e, _⟩ := x; exact Heap.lt_size e
  | ins C dx fs => obtain ⟨_, _, _, e, _⟩ := x; exact Heap.lt_size e
  | own y => obtain ⟨_, e⟩ := x; exact Heap.lt_size e
  | xd fs => obtain ⟨_, ⟨_, _, _, e, _⟩, _⟩ := x; exact Heap.lt_size e
  | rng lo hi => obtain ⟨_, _, _, e⟩ := x; exact Heap.lt_size e
  | frz ob u => obtain ⟨e, _⟩ := x; exact Heap.lt_size e
  | tbl ps => exact Heap.lt_size (show h.get? a = some _ from x)
  | met f y => exact Heap.lt_size (show h.get? a = some _ from x)
  | ext φ => obtain ⟨_, ⟨_, e⟩, _⟩ := x; exact Heap.lt_size e
theorem Paired.mapP {α β : Type} {F G : α → β → Prop} : ∀ {l₁ : List α} {l₂ : List β}, Paired F l₁ l₂ → (∀ a b, F a b → G a b) → Paired G l₁ l₂
  | _, _, .nil, _ => .nil
  | _, _, .cons r t, f => .cons (f _ _ r) (Paired.mapP t f)
theorem ObjOk.stay (x : ObjOk P w H h a o) (k : ∀ b u, (b = a ∨ H b = some (.own a)) → h.get? b = some u → h'.get? b = some u)
    (ho : ∀ b, H b = some (.own a) → H' b = some (.own a)) (ht : ∀ b xs, H b = some (.tup xs) → H' b = some (.tup xs)) : ObjOk P w H' h' a o := by
  induction o with
  | lst xs => obtain ⟨z, its, n, r, e⟩ := x; exact ⟨z, its, n, r, k _ _ (.inl rfl) e⟩
  | tup xs => obtain ⟨z, its, r, ob, e, c⟩ := x; exact ⟨z, its, r, ob, k _ _ (.inl rfl) e, c⟩
  | dK kvs => obtain ⟨z, y, vs, r, ob, es, ep, e, c⟩ := x; exact ⟨z, y, vs, r, ob, es, ep, k _ _ (.inl rfl) e, c⟩
  | dT kvs =>
    obtain ⟨z, y, xs, r, ob, es, ep, e, c⟩ := x
    exact ⟨z, y, xs, Paired.mapP r fun p q z => ⟨z.1, ht _ _ z.2.1, z.2.2⟩, ob, es, ep, k _ _ (.inl rfl) e, c⟩
  | set S n => obtain ⟨ob, es, ep, t, e, c⟩ := x; exact ⟨ob, es, ep, t, k _ _ (.inl rfl) e, c⟩
  | ins C dx fs =>
    obtain ⟨d, z, ne, e, mA, ⟨od, es, ep, e2, c⟩, r⟩ := x
    exact ⟨ho _ d, z, ne, k _ _ (.inl rfl) e, mA, ⟨od, es, ep, k _ _ (.inr d) e2, c⟩, r⟩
  | own y => obtain ⟨ob, e⟩ := x; exact ⟨ob, k _ _ (.inl rfl) e⟩
  | xd fs => obtain ⟨mA, ⟨od, es, ep, e, c⟩, r⟩ := x; exact ⟨mA, ⟨od, es, ep, k _ _ (.inl rfl) e, c⟩, r⟩
  | rng lo hi => obtain ⟨t, u, v, e⟩ := x; exact ⟨t, u, v, k _ _ (.inl rfl) e⟩
  | frz ob u ih => obtain ⟨e, q⟩ := x; exact ⟨k _ _ (.inl rfl) e, ih q⟩
  | tbl ps =>
    have e : h.get? a = some { cls := .none, data := .fields ps } := x
    show h'.get? a = some { cls := .none, data := .fields ps }
    exact k a _ (.inl rfl) e
  | met f y =>
    have e : h.get? a = some (PySem.W.methodObj (.ref f) (.ref y)) := x
    show h'.get? a = some (PySem.W.methodObj (.ref f) (.ref y))
    exact k a _ (.inl rfl) e
  | ext φ => obtain ⟨p, ⟨o, e⟩, st⟩ := x; exact ⟨st _ _ p fun o q => k _ _ (.inl rfl) q, ⟨o, k _ _ (.inl rfl) e⟩, st⟩
theorem HOk.lt (x : HOk P w H h) (e : H a = some o) : a < h.objs.size := (x a o e).lt
theorem HOk.fresh (x : HOk P w H h) (e : h.objs.size ≤ a) : H a = none := by
  cases q : H a with
  | none => rfl
  | some u => exact absurd (Nat.lt_of_lt_of_le (x.lt q) e) (Nat.lt_irrefl _)
theorem HOk.kept (x : HOk P w H h) (k : ∀ b u, h.get? b = some u → h'.get? b = some u) : HOk P w H h' := fun a o e =>
  (x a o e).stay (fun b u _ q => k b u q) (fun _ q => q) fun _ _ q => q
theorem HOk.laid (x : HOk P w H h) (k : ∀ b u, h.get? b = some u → h'.get? b = some u) (hp : h.objs.size ≤ a) (new : ObjOk P w (upd H a o) h' a o) : HOk P w (upd H a o) h' := fun b u e => by
  have hn := x.fresh hp
  by_cases hb : b = a
  · subst hb; rw [upd_same] at e; cases e; exact new
  · rw [upd_ne hb] at e
    exact (x b u e).stay (fun c v _ q => k c v q) (fun c q => by rw [upd_ne (ne_of_none q hn)]; exact q) fun c xs q => by rw [upd_ne (ne_of_none q hn)]; exact q
end
noncomputable def Rd (H : Hp) (a : Addr) (u : HO) : Prop := H a = some u ∨ ∃ o, H a = some (.frz o u)
theorem Rd.of {H : Hp} {a : Addr} {u : HO} (h : H a = some u) : Rd H a u := .inl h
theorem Rd.ok {P : Program} {w : World} {H : Hp} {h : Heap} {a : Addr} {u : HO} (r : Rd H a u) (x : HOk P w H h) : ObjOk P w H h a u := by
  rcases r with r | ⟨o, r⟩
  · exact x a u r
  · obtain ⟨_, q⟩ := x a _ r
    exact q
noncomputable def Mut : Option HO → Prop
  | some (.lst _) => True
  | some (.dK _) => True
  | some (.dT _) => True
  | some (.set _ _) => True
  | some (.ins _ _ _) => True
  | some (.ext _) => True
  | _ => False
section
variable {P : Program} {w : World} {H : Hp} {h h' : Heap} {x e : Addr} {o' : HO}
theorem HOk.write (ok : HOk P w H h) (mu : Mut (H x)) (he : e = x ∨ H e = some (.own x)) (k : ∀ b u, b ≠ e → h.get? b = some u → h'.get? b = some u) (heo : ∃ u, h'.get? e = some u)
    (new : ObjOk P w (upd H x o') h' x o') : HOk P w (upd H x o') h' := fun b u q => by
  have nown : ∀ c y, H c = some (.own y) → c ≠ x := fun c y r z => by subst z; rw [r] at mu; exact mu
  have ntup : ∀ c xs, H c = some (.tup xs) → c ≠ x := fun c xs r z => by subst z; rw [r] at mu; exact mu
  by_cases hb : b = x
  · subst hb; rw [upd_same] at q; cases q; exact new
  · rw [upd_ne hb] at q
    by_cases hbe : b = e
    · have q' : H b = some (.own x) := by
        rcases he with z | z
        · exact absurd (hbe.trans z) hb
        · rw [hbe]; exact z
      rw [q] at q'; cases q'
      obtain ⟨v, hv⟩ := heo
      exact ⟨v, by rw [hbe]; exact hv⟩
    · refine (ok b u q).stay (fun c v hc r => k c v ?_ r) (fun c r => by rw [upd_ne (nown c b r)]; exact r) fun c xs r => by rw [upd_ne (ntup c xs r)]; exact r
      rcases hc with rfl | hc
      · exact hbe
      · rintro rfl
        rcases he with z | z
        · exact nown c b hc z
        · rw [hc] at z; cases z; exact hb rfl
end
structure Un (fs ex : List Addr) (H H' : Hp) (h h' : Heap) : Prop where
  keep : ∀ b o, h.get? b = some o → H b = none → b ∉ fs → b ∉ ex → h'.get? b = some o
  slot : ∀ b o, h.get? b = some o → H b = none → b ∈ fs → b ∉ ex → ∃ sl, h'.get? b = some { o with slots := sl }
  free : ∀ b o, h.get? b = some o → H b = none → b ∉ ex → H' b = none
  there : ∀ b o, h.get? b = some o → b ∉ ex → ∃ o', h'.get? b = some o'
  tups : ∀ b xs, H b = some (.tup xs) → H' b = some (.tup xs)
  frzs : ∀ b o u, H b = some (.frz o u) → H' b = some (.frz o u)
  tbls : ∀ b ps, H b = some (.tbl ps) → ∃ more, H' b = some (.tbl (ps ++ more))
section
variable {fs fs' ex ex' : List Addr} {H H1 H2 : Hp} {h h1 h2 h' : Heap} {a x e : Addr} {o : HO}
theorem Un.any (u : Un fs ex H H1 h h1) {b : Addr} {ob : Obj} (q : h.get? b = some ob) (n : H b = none) (hx : b ∉ ex) : ∃ sl, h1.get? b = some { ob with slots := sl } := by
  by_cases hb : b ∈ fs
  · exact u.slot b ob q n hb hx
  · exact ⟨ob.slots, u.keep b ob q n hb hx⟩
theorem Un.trans (a : Un fs ex H H1 h h1) (b : Un fs ex H1 H2 h1 h2) : Un fs ex H H2 h h2 where
  keep := fun c ob q n hc hx => b.keep c ob (a.keep c ob q n hc hx) (a.free c ob q n hx) hc hx
  slot := fun c ob q n hc hx => by
    obtain ⟨sl, e1⟩ := a.slot c ob q n hc hx
    obtain ⟨sl', e2⟩ := b.slot c _ e1 (a.free c ob q n hx) hc hx
    exact ⟨sl', e2⟩
  free := fun c ob q n hx => by
    obtain ⟨o', e1⟩ := a.there c ob q hx
    exact b.free c o' e1 (a.free c ob q n hx) hx
  there := fun c ob q hx => by
    obtain ⟨o', e1⟩ := a.there c ob q hx
    exact b.there c o' e1 hx
  tups := fun c xs q => b.tups c xs (a.tups c xs q)
  frzs := fun c ob xs q => b.frzs c ob xs (a.frzs c ob xs q)
  tbls := fun c ps q => by
    obtain ⟨m1, e1⟩ := a.tbls c ps q
    obtain ⟨m2, e2⟩ := b.tbls c _ e1
    exact ⟨m1 ++ m2, by rw [e2, Array.append_assoc]⟩
theorem Un.kept (k : ∀ b u, h.get? b = some u → h'.get? b = some u) : Un fs ex H H h h' :=
  ⟨fun b ob q _ _ _ => k b ob q, fun b ob q _ _ _ => ⟨ob.slots, k b ob q⟩, fun _ _ _ n _ => n, fun b ob q _ => ⟨ob, k b ob q⟩, fun _ _ q => q, fun _ _ _ q => q, fun _ ps q => ⟨#[], by rw [q]; simp⟩⟩
theorem Un.refl : Un fs ex H H h h := Un.kept fun _ _ q => q
theorem Un.laid (k : ∀ b u, h.get? b = some u → h'.get? b = some u) (hp : h.objs.size ≤ a) (hn : H a = none) : Un fs ex H (upd H a o) h h' where
  keep := fun b u q _ _ _ => k b u q
  slot := fun b u q _ _ _ => ⟨u.slots, k b u q⟩
  free := fun b u q n _ => by rw [upd_ne (Nat.ne_of_lt (Nat.lt_of_lt_of_le (Heap.lt_size q) hp))]; exact n
  there := fun b u q _ => ⟨u, k b u q⟩
  tups := fun b xs q => by rw [upd_ne (ne_of_none q hn)]; exact q
  frzs := fun b u xs q => by rw [upd_ne (ne_of_none q hn)]; exact q
  tbls := fun b ps q => ⟨#[], by rw [upd_ne (ne_of_none q hn), q]; simp⟩
theorem Un.write (mu : Mut (H x)) (he : e = x ∨ H e = some (.own x)) (k : ∀ b u, b ≠ e → h.get? b = some u → h'.get? b = some u) (heo : ∃ u, h'.get? e = some u) : Un fs ex H (upd H x o) h h' := by
  have hx : ∀ b, H b = none → b ≠ x := fun b n z => by subst z; rw [n] at mu; exact mu
  have hb : ∀ b, H b = none → b ≠ e := fun b n z => by
    subst z
    rcases he with r | r
    · exact hx b n r
    · rw [n] at r; cases r
  have hm : ∀ b u, H b = some u → ¬ Mut (some u) → b ≠ x := fun b u q nm z => by subst z; rw [q] at mu; exact nm mu
  refine ⟨fun b u q n _ _ => k b u (hb b n) q, fun b u q n _ _ => ⟨u.slots, k b u (hb b n) q⟩, fun b u q n _ => by rw [upd_ne (hx b n)]; exact n, fun b u q _ => ?_,
    fun b xs q => by rw [upd_ne (hm b _ q fun z => z)]; exact q, fun b u xs q => by rw [upd_ne (hm b _ q fun z => z)]; exact q, fun b ps q => ⟨#[], by rw [upd_ne (hm b _ q fun z => z), q]; simp⟩⟩
  by_cases hbe : b = e
  · subst hbe; exact heo
  · exact ⟨u, k b u hbe q⟩
theorem Un.mono (u : Un fs ex H H1 h h1) (hs : ∀ b ∈ fs, b ∈ fs') (hx : ∀ b ∈ ex, b ∈ ex') : Un fs' ex' H H1 h h1 :=
  ⟨fun b ob q n hb he => u.keep b ob q n (fun z => hb (hs b z)) fun z => he (hx b z), fun _ _ q n _ he => u.any q n fun z => he (hx _ z), fun b ob q n he => u.free b ob q n fun z => he (hx b z), fun b ob q he => u.there b ob q fun z => he (hx b z), u.tups, u.frzs, u.tbls⟩
end
noncomputable def trk (h : Heap) (H : Hp) : List Addr := (List.range h.objs.size).filter fun a => (H a).isSome
noncomputable def hidT (h : Heap) (H : Hp) : Heap := PySem.W.hideAll h (trk h H)
theorem hidT_size (h : Heap) (H : Hp) : (hidT h H).objs.size = h.objs.size := PySem.W.hideAll_size _ _
theorem hidT_get {h : Heap} {H : Hp} {b : Addr} {o : Obj} (e : h.get? b = some o) (n : H b = none) : (hidT h H).get? b = some o :=
  PySem.W.hideAll_get _ e fun hm => by
    have q : (H b).isSome = true := (List.mem_filter.mp hm).2
    rw [n] at q; simp at q
theorem of_hidT {h : Heap} {H : Hp} {b : Addr} {o : Obj} (e : (hidT h H).get? b = some o) : h.get? b = some o ∧ H b = none := by
  have e' : h.get? b = some o := PySem.W.of_hideAll (trk h H) e
  refine ⟨e', ?_⟩
  cases q : H b with
  | none => rfl
  | some x =>
    have hm : b ∈ trk h H := List.mem_filter.mpr ⟨List.mem_range.mpr (Heap.lt_size e'), by simp [q]⟩
    have z : (hidT h H).get? b = none := PySem.W.hideAll_none (trk h H) hm
    rw [z] at e; cases e
noncomputable def allNews (g h : Heap) (L : Addr) : List (Addr × Obj) := (List.range h.objs.size).filterMap fun a => if a = L ∨ (g.get? a).isSome = true then none else (h.get? a).map fun o => (a, o)
noncomputable def rest (g h : Heap) (L d : Addr) : List (Addr × Obj) := (allNews g h L).filter fun p => decide (p.1 ≠ d)
end L2
namespace L2
open PySem PySem.Spec PyProof.Rows
structure Mod (K : PySem.W.Frag) (mg : Str → Option Value) (base : Heap) : Prop where
  kin : K.In base
  glob : base.Ns mainGlobals mg
  blt : ∃ mb, base.Ns builtinsNs mb ∧ ∀ x : Str, x ≠ "__name__" → mb x = bootBuiltins x
  nolimit : base.NoLimit
structure Cx where
  prog : Program
  w : World
  K : PySem.W.Frag
  mg : Str → Option Value
  base : Heap
  A : Around
  N : List Str
  s₀ : Shared
  H₀ : Hp
  env : Env
  outer : List Env
  stack : List Env
  ex : List Addr
  fn : Str → Bool
  calm : Bool
  pn : List (Addr × Obj)
  xe : Value → Shared → Prop
noncomputable def frs (l : List Env) : List Addr := l.filterMap (·.frame)
noncomputable abbrev Cx.fs (X : Cx) : List Addr := frs X.outer
noncomputable def Vis (sc : Scope) (x : Str) : Prop := sc.names.lookup x = some .local ∨ sc.names.lookup x = some .cell ∨ sc.names.lookup x = some .free
noncomputable def Loc (sc : Scope) (x : Str) : Prop := sc.names.lookup x = some .local ∨ sc.names.lookup x = some .cell
noncomputable def Look (env : Env) (h : Heap) (m : Str → Option Value) (x : Str) (u : Value) : Prop :=
  (env.kindOf x = some .local ∧ m x = some u) ∨ ((env.kindOf x = some .cell ∨ env.kindOf x = some .free) ∧ ∃ c, env.cells.lookup x = some c ∧ h.IsCell c (some u))
structure Cx.Ok (X : Cx) : Prop where
  mod : Mod X.K X.mg X.base
  kind : X.env.scope.kind = .function
  glob : X.env.globals = mainGlobals
  blt : X.env.builtins = builtinsNs
  above : X.s₀.heap.objs.size ≤ X.env.locals
  inj : ∀ x y c, X.env.cells.lookup x = some c → X.env.cells.lookup y = some c → x = y
  has : ∀ x, (X.env.kindOf x = some .cell ∨ X.env.kindOf x = some .free) → ∃ c, X.env.cells.lookup x = some c
  cab : ∀ x c, X.fn x = true → X.env.cells.lookup x = some c → X.s₀.heap.objs.size ≤ c
  hd : X.calm = true → X.A.handled = none
  frames : X.A.frames = some X.stack
  stk : X.stack = X.outer ∨ (X.stack = X.env :: X.outer ∧ X.env.frame = some X.env.locals)
  exf : ∀ b ∈ X.ex, b ≠ X.env.locals ∧ ∀ x c, X.env.cells.lookup x = some c → c ≠ b
  bs : ∀ b o, X.base.get? b = some o → X.s₀.heap.get? b = some o ∧ X.H₀ b = none
  bsz : X.base.objs.size ≤ X.s₀.heap.objs.size
  noex : ∀ b o, X.base.get? b = some o → b ∉ X.ex
  exfs : ∀ b ∈ X.ex, b ∉ X.fs
  funs : X.s₀.heap.FunFrames X.base X.outer
  frf : ∀ b ∈ X.fs, X.H₀ b = none
structure Inv (X : Cx) (pins : List (Addr × Obj)) (σ : List (Option V)) (H : Hp) (s : Shared) : Prop where
  ok : X.Ok
  os : s.os = X.s₀.os
  bare : AllBare s.gens
  base : Un X.fs X.ex X.H₀ H X.s₀.heap s.heap
  loc : ∃ m, s.heap.Ns X.env.locals m ∧ ∀ (i : Nat) (x : Str) (v : V), X.N[i]? = some x → σ[i]? = some (some v) → Vis X.env.scope x → ∃ u, RelV v u ∧ Look X.env s.heap m x u
  cell : ∀ x c, X.env.cells.lookup x = some c → ∃ v, s.heap.IsCell c v
  free : H X.env.locals = none
  freeC : ∀ x c, X.env.cells.lookup x = some c → H c = none
  pin : ∀ p ∈ X.pn ++ pins, s.heap.get? p.1 = some p.2 ∧ H p.1 = none ∧ p.1 ≠ X.env.locals ∧ p.1 ∉ X.fs ∧ ∀ v, p.2.data ≠ .cell v
  hok : HOk X.prog X.w H s.heap
  len : σ.length = X.N.length
section
variable {X : Cx} {pins : List (Addr × Obj)} {σ : List (Option V)} {H H' : Hp} {s : Shared} {h' : Heap}
theorem Cx.Ok.nofr (ok : X.Ok) {b : Addr} {o : Obj} (e : X.base.get? b = some o) : b ∉ X.fs := fun hb => by
  have := (ok.funs.mem hb).1
  rw [e] at this; cases this
theorem Inv.bs (I : Inv X pins σ H s) : ∀ b o, X.base.get? b = some o → s.heap.get? b = some o ∧ H b = none := fun b o e =>
  ⟨I.base.keep b o (I.ok.bs b o e).1 (I.ok.bs b o e).2 (I.ok.nofr e) (I.ok.noex b o e), I.base.free b o (I.ok.bs b o e).1 (I.ok.bs b o e).2 (I.ok.noex b o e)⟩
theorem Inv.bk (I : Inv X pins σ H s) : ∀ b o, X.base.get? b = some o → s.heap.get? b = some o := fun b o e => (I.bs b o e).1
theorem Inv.mod (I : Inv X pins σ H s) : Mod X.K X.mg X.base := I.ok.mod
theorem Inv.kIn (I : Inv X pins σ H s) : X.K.In s.heap := I.ok.mod.kin.keeps I.bk
theorem Inv.nolimit (I : Inv X pins σ H s) : s.heap.NoLimit := I.ok.mod.nolimit.keeps I.bk
theorem Inv.fr (I : Inv X pins σ H s) : ∃ m, Fr X.base X.env.locals s.heap m :=
  let ⟨m, hn, _⟩ := I.loc
  ⟨m, hn, I.bk, Nat.le_trans I.ok.bsz I.ok.above⟩
theorem Inv.lt (I : Inv X pins σ H s) : X.env.locals < s.heap.objs.size := let ⟨_, hn, _⟩ := I.loc; hn.lt
theorem Inv.sz (I : Inv X pins σ H s) : X.s₀.heap.objs.size ≤ s.heap.objs.size := Nat.le_trans I.ok.above (Nat.le_of_lt I.lt)
theorem Inv.nofs (I : Inv X pins σ H s) {a : Addr} (h : s.heap.objs.size ≤ a) : a ∉ X.fs := fun hb => by
  obtain ⟨_, o, ho, _⟩ := I.ok.funs.mem hb
  exact absurd (Nat.lt_of_lt_of_le (Heap.lt_size ho) (Nat.le_trans I.sz h)) (Nat.lt_irrefl _)
theorem Inv.cne (I : Inv X pins σ H s) : ∀ x c, X.env.cells.lookup x = some c → c ≠ X.env.locals := fun x c e z => by
  obtain ⟨v, o, ho, hd⟩ := I.cell x c e
  obtain ⟨m, ⟨o', es, ep, ho', hd', _⟩, _⟩ := I.loc
  rw [z, ho'] at ho; cases ho; rw [hd'] at hd; cases hd
theorem Inv.funs (I : Inv X pins σ H s) : s.heap.FunFrames X.base X.outer := by
  have all : ∀ (l : List Env), (∀ b ∈ frs l, b ∈ X.fs) → X.s₀.heap.FunFrames X.base l → s.heap.FunFrames X.base l := by
    intro l
    induction l with
    | nil => intro _ _; trivial
    | cons env r ih =>
      intro hs hl
      obtain ⟨hk, ⟨L, o, hf, hn, ho, hd⟩, hr⟩ := hl
      have hL : L ∈ X.fs := hs L (by unfold frs; rw [List.filterMap_cons, hf]; exact List.mem_cons_self)
      obtain ⟨sl, e⟩ := I.base.slot L o ho (I.ok.frf L hL) hL fun z => I.ok.exfs L z hL
      exact ⟨hk, ⟨L, _, hf, hn, e, hd⟩, ih (fun b hb => hs b (by unfold frs; rw [List.filterMap_cons, hf]; exact List.mem_cons_of_mem _ hb)) hr⟩
  exact all X.outer (fun _ hb => hb) I.ok.funs
theorem Inv.stack (I : Inv X pins σ H s) : s.heap.FunFrames X.base X.stack := by
  rcases I.ok.stk with e | ⟨e, hf⟩
  · rw [e]; exact I.funs
  · rw [e]
    obtain ⟨m, hn, _⟩ := I.loc
    refine .cons (by rw [I.ok.kind]; decide) hf hn ?_ I.funs
    exact Heap.get?_none_of_le (Nat.le_trans I.ok.bsz I.ok.above)
theorem Inv.stkSub (I : Inv X pins σ H s) : ∀ b ∈ frs X.stack, b ∈ X.env.locals :: X.fs := fun b hb => by
  rcases I.ok.stk with e | ⟨e, hf⟩
  · rw [e] at hb; exact List.mem_cons_of_mem _ hb
  · rw [e] at hb
    unfold frs at hb
    rw [List.filterMap_cons, hf] at hb
    exact hb
theorem Inv.stkFree (I : Inv X pins σ H s) : ∀ b ∈ frs X.stack, H b = none := fun b hb => by
  rcases List.mem_cons.mp (I.stkSub b hb) with e | hb
  · rw [e]; exact I.free
  · obtain ⟨_, o, ho, _⟩ := I.ok.funs.mem hb
    exact I.base.free b o ho (I.ok.frf b hb) fun z => I.ok.exfs b z hb
theorem Inv.step {g' : Array GenState} {t' : Nat} {d' : Drawn} {ch : List Addr} (I : Inv X pins σ H s)
    (hch : ∀ b ∈ ch, (b ∈ X.ex ∨ X.s₀.heap.objs.size ≤ b) ∧ b ≠ X.env.locals ∧ (∀ x c, X.env.cells.lookup x = some c → c ≠ b) ∧ ∀ p ∈ X.pn ++ pins, p.1 ≠ b)
    (keep : ∀ b o, b ≠ X.env.locals → b ∉ X.fs → b ∉ ch → s.heap.get? b = some o → H b = none → h'.get? b = some o)
    (slot : ∀ b o, b ≠ X.env.locals → b ∈ X.fs → b ∉ ch → s.heap.get? b = some o → H b = none → ∃ sl, h'.get? b = some { o with slots := sl }) (free : ∀ b o, b ∉ ch → s.heap.get? b = some o → H b = none → H' b = none)
    (there : ∀ b o, b ∉ ch → s.heap.get? b = some o → ∃ o', h'.get? b = some o')
    (tups : ∀ b xs, H b = some (.tup xs) → H' b = some (.tup xs)) (frzs : ∀ b o u, H b = some (.frz o u) → H' b = some (.frz o u)) (tbls : ∀ b ps, H b = some (.tbl ps) → ∃ more, H' b = some (.tbl (ps ++ more)))
    (ns : ∀ m, s.heap.Ns X.env.locals m → h'.Ns X.env.locals m) (hok : HOk X.prog X.w H' h') (hg : AllBare g') :
    Inv X pins σ H' { s with heap := h', gens := g', drawn := d', toks := t' } := by
  have neL : ∀ b o, X.s₀.heap.get? b = some o → b ≠ X.env.locals := fun b o e => Nat.ne_of_lt (Nat.lt_of_lt_of_le (Heap.lt_size e) I.ok.above)
  have neC : ∀ b o, X.s₀.heap.get? b = some o → b ∉ X.ex → b ∉ ch := fun b o e hx hb => by
    rcases (hch b hb).1 with z | z
    · exact hx z
    · exact absurd (Nat.lt_of_lt_of_le (Heap.lt_size e) z) (Nat.lt_irrefl _)
  have cellK : ∀ x c, X.env.cells.lookup x = some c → ∀ v, s.heap.IsCell c v → h'.IsCell c v := fun x c e v ⟨o, ho, hd⟩ => by
    have nch : c ∉ ch := fun z => (hch c z).2.2.1 x c e rfl
    by_cases hc : c ∈ X.fs
    · obtain ⟨sl, q⟩ := slot c o (I.cne x c e) hc nch ho (I.freeC x c e)
      exact ⟨_, q, hd⟩
    · exact ⟨o, keep c o (I.cne x c e) hc nch ho (I.freeC x c e), hd⟩
  refine ⟨I.ok, I.os, hg, ⟨fun b o e n hb hx => ?_, fun b o e n hb hx => ?_, fun b o e n hx => ?_, fun b o e hx => ?_, fun b xs e => tups b xs (I.base.tups b xs e), fun b o xs e => frzs b o xs (I.base.frzs b o xs e), fun b ps e => ?_⟩, ?_, fun x c e => ?_, ?_, fun x c e => ?_, fun p hp => ?_, hok, I.len⟩
  · exact keep b o (neL b o e) hb (neC b o e hx) (I.base.keep b o e n hb hx) (I.base.free b o e n hx)
  · obtain ⟨sl, e1⟩ := I.base.slot b o e n hb hx
    obtain ⟨sl', e2⟩ := slot b _ (neL b o e) hb (neC b o e hx) e1 (I.base.free b o e n hx)
    exact ⟨sl', e2⟩
  · obtain ⟨o', e1⟩ := I.base.there b o e hx
    exact free b o' (neC b o e hx) e1 (I.base.free b o e n hx)
  · obtain ⟨o', e1⟩ := I.base.there b o e hx
    exact there b o' (neC b o e hx) e1
  · obtain ⟨m1, e1⟩ := I.base.tbls b ps e
    obtain ⟨m2, e2⟩ := tbls b _ e1
    exact ⟨m1 ++ m2, by rw [e2, Array.append_assoc]⟩
  · obtain ⟨m, hn, hl⟩ := I.loc
    refine ⟨m, ns m hn, fun i x v e1 e2 e3 => ?_⟩
    obtain ⟨u, r, l⟩ := hl i x v e1 e2 e3
    refine ⟨u, r, ?_⟩
    rcases l with l | ⟨k, c, e, z⟩
    · exact .inl l
    · exact .inr ⟨k, c, e, cellK x c e _ z⟩
  · obtain ⟨v, z⟩ := I.cell x c e
    exact ⟨v, cellK x c e v z⟩
  · obtain ⟨m, ⟨o, _, _, ho, _⟩, _⟩ := I.loc
    exact free _ o (fun z => (hch _ z).2.1 rfl) ho I.free
  · obtain ⟨v, o, ho, hd⟩ := I.cell x c e
    exact free c o (fun z => (hch c z).2.2.1 x c e rfl) ho (I.freeC x c e)
  · obtain ⟨e, n, ne, nf, d⟩ := I.pin p hp
    have nch : p.1 ∉ ch := fun z => (hch p.1 z).2.2.2 p hp rfl
    exact ⟨keep p.1 p.2 ne nf nch e n, free p.1 p.2 nch e n, ne, nf, d⟩
theorem Inv.un {t' : Nat} (I : Inv X pins σ H s) (u : Un X.fs [] H H' s.heap h') (hok : HOk X.prog X.w H' h') : Inv X pins σ H' { s with heap := h', toks := t' } := by
  obtain ⟨m, ⟨o, es, ep, ho, r⟩, _⟩ := id I.loc
  obtain ⟨sl, hL⟩ := u.any ho I.free (by simp)
  exact I.step (g' := s.gens) (d' := s.drawn) (ch := []) (fun _ z => nomatch z) (fun b o _ hb _ e n => u.keep b o e n hb (by simp)) (fun b o _ hb _ e n => u.slot b o e n hb (by simp)) (fun b o _ e n => u.free b o e n (by simp)) (fun b o _ e => u.there b o e (by simp)) u.tups u.frzs u.tbls (fun m' hm => by
    obtain ⟨o', es', ep', ho', r'⟩ := hm
    rw [ho] at ho'; cases ho'
    exact ⟨_, es', ep', hL, r'⟩) hok I.bare
theorem Inv.call {g' : Array GenState} {t' : Nat} {d' : Drawn} {ch : List Addr} (I : Inv X pins σ H s) (u : Un (frs X.stack) ch H H' s.heap h') (hok : HOk X.prog X.w H' h') (hg : AllBare g')
    (hch : ∀ b ∈ ch, (b ∈ X.ex ∨ X.s₀.heap.objs.size ≤ b) ∧ b ≠ X.env.locals ∧ (∀ x c, X.env.cells.lookup x = some c → c ≠ b) ∧ ∀ p ∈ X.pn ++ pins, p.1 ≠ b) :
    Inv X pins σ H' { s with heap := h', gens := g', drawn := d', toks := t' } := by
  obtain ⟨m, ⟨o, es, ep, ho, r⟩, _⟩ := id I.loc
  obtain ⟨sl, hL⟩ := u.any ho I.free fun z => (hch _ z).2.1 rfl
  exact I.step (ch := ch) hch (fun b o hL hb hc e n => u.keep b o e n (fun z => (List.mem_cons.mp (I.stkSub b z)).elim hL hb) hc) (fun b o _ _ hc e n => u.any e n hc) (fun b o hc e n => u.free b o e n hc) (fun b o hc e => u.there b o e hc) u.tups u.frzs u.tbls (fun m' hm => by
    obtain ⟨o', es', ep', ho', r'⟩ := hm
    rw [ho] at ho'; cases ho'
    exact ⟨_, es', ep', hL, r'⟩) hok hg
theorem Inv.turned {t' : Nat} {it : Addr} (I : Inv X pins σ H s) (k : ∀ b o, b ≠ it → s.heap.get? b = some o → h'.get? b = some o) (hn : H it = none) (hL : it ≠ X.env.locals)
    (h1 : it ∈ X.ex ∨ X.s₀.heap.objs.size ≤ it) (h2 : ∀ x c, X.env.cells.lookup x = some c → c ≠ it) (h3 : ∀ p ∈ X.pn ++ pins, p.1 ≠ it) : Inv X pins σ H { s with heap := h', toks := t' } := by
  have nit : ∀ b u, H b = some u → b ≠ it := fun b u e z => by rw [z, hn] at e; cases e
  refine I.step (g' := s.gens) (d' := s.drawn) (ch := [it]) (fun b hb => ?_) (fun b o _ _ hc e _ => k b o (fun z => hc (by simp [z])) e) (fun b o _ _ hc e _ => ⟨o.slots, k b o (fun z => hc (by simp [z])) e⟩) (fun _ _ _ _ n => n)
    (fun b o hc e => ⟨o, k b o (fun z => hc (by simp [z])) e⟩) (fun _ _ e => e) (fun _ _ _ e => e) (fun b ps e => ⟨#[], by rw [e]; simp⟩) (fun m hm => ?_) (fun b u e => ?_) I.bare
  · have e : b = it := by simpa using hb
    subst e
    exact ⟨h1, hL, h2, h3⟩
  · obtain ⟨o, es, ep, ho, r⟩ := hm
    exact ⟨o, es, ep, k _ o (Ne.symm hL) ho, r⟩
  · refine (I.hok b u e).stay (fun c v hc q => k c v ?_ q) (fun _ q => q) fun _ _ q => q
    rcases hc with z | z
    · rw [z]; exact nit b u e
    · exact nit c _ z
theorem Inv.tok (I : Inv X pins σ H s) (t : Nat) : Inv X pins σ H { s with toks := t } := I.un (h' := s.heap) (t' := t) Un.refl I.hok
theorem Inv.kept {t' : Nat} (I : Inv X pins σ H s) (k : ∀ b u, s.heap.get? b = some u → h'.get? b = some u) : Inv X pins σ H { s with heap := h', toks := t' } := I.un (Un.kept k) (I.hok.kept k)
theorem Inv.laid {a : Addr} {o : HO} {t' : Nat} (I : Inv X pins σ H s) (k : ∀ b u, s.heap.get? b = some u → h'.get? b = some u) (hp : s.heap.objs.size ≤ a) (new : ObjOk X.prog X.w (upd H a o) h' a o) :
    Inv X pins σ (upd H a o) { s with heap := h', toks := t' } := I.un (Un.laid k hp (I.hok.fresh hp)) (I.hok.laid k hp new)
theorem Inv.write {x e : Addr} {o : HO} {t' : Nat} (I : Inv X pins σ H s) (mu : Mut (H x)) (he : e = x ∨ H e = some (.own x)) (k : ∀ b u, b ≠ e → s.heap.get? b = some u → h'.get? b = some u) (heo : ∃ u, h'.get? e = some u)
    (new : ObjOk X.prog X.w (upd H x o) h' x o) : Inv X pins σ (upd H x o) { s with heap := h', toks := t' } := I.un (Un.write mu he k heo) (I.hok.write mu he k heo new)
theorem Inv.pins_of {pins' : List (Addr × Obj)} (I : Inv X pins σ H s) (h : ∀ p ∈ pins', s.heap.get? p.1 = some p.2 ∧ H p.1 = none ∧ p.1 ≠ X.env.locals ∧ p.1 ∉ X.fs ∧ ∀ v, p.2.data ≠ .cell v) : Inv X pins' σ H s :=
  ⟨I.ok, I.os, I.bare, I.base, I.loc, I.cell, I.free, I.freeC, fun p hp => (List.mem_append.mp hp).elim (fun z => I.pin p (List.mem_append_left _ z)) (h p), I.hok, I.len⟩
theorem nodup_ix {N : List Str} (hN : N.Nodup) {i j : Nat} {x : Str} (a : N[i]? = some x) (b : N[j]? = some x) : i = j := by
  obtain ⟨h1, e1⟩ := List.getElem?_eq_some_iff.mp a
  obtain ⟨h2, e2⟩ := List.getElem?_eq_some_iff.mp b
  exact (List.getElem_inj hN).mp (e1.trans e2.symm)
theorem store_ok2 {M : Model} {A : Around} {E : Value → Shared → Prop} {i : Nat} {x : Str} {v : V} {u : Value} {Q : Unit → Shared → Prop} (I : Inv X pins σ H s) (hN : X.N.Nodup) (hi : X.N[i]? = some x) (hx : Loc X.env.scope x) (r : RelV v u)
    (h : ∀ s', Inv X pins (σ.set i (some v)) H s' → (∃ a, Heap.SameBut a s.heap s'.heap ∧ (a = X.env.locals ∨ X.env.cells.lookup x = some a)) → Q () s') (hf : X.fn x = true ∨ X.env.scope.names.lookup x = some .local := by first | exact .inl rfl | exact .inr rfl | assumption) : wpAny M A (storeName X.env x u) Q E s := by
  obtain ⟨m, hn, hl⟩ := id I.loc
  have hcls : (X.env.scope.kind == .class || (X.env.scope.kind == .module && X.env.locals != X.env.globals)) = false := by rw [I.ok.kind]; rfl
  have hiσ : i < σ.length := by rw [I.len]; exact (List.getElem?_eq_some_iff.mp hi).1
  have cne := I.cne
  have tracked : ∀ {a : Addr} {h' : Heap}, (∃ o, s.heap.get? a = some o ∧ H a = none) → Heap.SameBut a s.heap h' → HOk X.prog X.w H h' := fun {a h'} ha hs b ob e => by
    obtain ⟨_, _, hfree⟩ := ha
    refine (I.hok b ob e).stay (fun c w' hc q => (hs.2 c ?_).trans q) (fun _ q => q) fun _ _ q => q
    rintro rfl
    rcases hc with rfl | hc
    · rw [hfree] at e; cases e
    · rw [hfree] at hc; cases hc
  rcases hx with hk | hk
  · refine wpAny_storeName_local hk hn (fun h' hn' hs => ?_) hcls
    obtain ⟨oL, _, _, hoL, _⟩ := id hn
    refine h _ ⟨I.ok, I.os, I.bare, ⟨fun b o e n hb hx => ?_, fun b o e n hb hx => ?_, I.base.free, fun b o e hx => ?_, I.base.tups, I.base.frzs, I.base.tbls⟩, ⟨_, hn', fun j y v' e1 e2 e3 => ?_⟩, fun y c e => ?_, I.free, I.freeC, fun p hp => ?_, tracked ⟨oL, hoL, I.free⟩ hs, by simpa using I.len⟩ ⟨_, hs, .inl rfl⟩
    · exact (hs.2 b (Nat.ne_of_lt (Nat.lt_of_lt_of_le (Heap.lt_size e) I.ok.above))).trans (I.base.keep b o e n hb hx)
    · obtain ⟨sl, e1⟩ := I.base.slot b o e n hb hx
      exact ⟨sl, (hs.2 b (Nat.ne_of_lt (Nat.lt_of_lt_of_le (Heap.lt_size e) I.ok.above))).trans e1⟩
    · obtain ⟨o', e1⟩ := I.base.there b o e hx
      exact ⟨o', (hs.2 b (Nat.ne_of_lt (Nat.lt_of_lt_of_le (Heap.lt_size e) I.ok.above))).trans e1⟩
    · by_cases hj : j = i
      · subst hj
        rw [hi] at e1; cases e1
        rw [List.getElem?_set_self hiσ] at e2
        cases e2
        exact ⟨u, r, .inl ⟨hk, by simp⟩⟩
      · rw [List.getElem?_set_ne (Ne.symm hj)] at e2
        obtain ⟨u', r', q⟩ := hl j y v' e1 e2 e3
        refine ⟨u', r', ?_⟩
        rcases q with ⟨k, e⟩ | ⟨k, c, e, z⟩
        · refine .inl ⟨k, ?_⟩
          have : y ≠ x := fun e => hj (nodup_ix hN e1 (e ▸ hi))
          simp [this, e]
        · exact .inr ⟨k, c, e, z.sameBut hs (cne y c e)⟩
    · obtain ⟨w', z⟩ := I.cell y c e
      exact ⟨w', z.sameBut hs (cne y c e)⟩
    · obtain ⟨e, n, ne, nf, d⟩ := I.pin p hp
      exact ⟨(hs.2 p.1 ne).trans e, n, ne, nf, d⟩
  · have hfn : X.fn x = true := by
      rcases hf with z | z
      · exact z
      · rw [z] at hk; cases hk
    obtain ⟨c, hc⟩ := I.ok.has x (.inl hk)
    obtain ⟨w', z⟩ := I.cell x c hc
    refine wpAny_storeName_cell I.ok.kind hk hc z (fun h' hc' hs => ?_)
    obtain ⟨oc, hoc, hocd⟩ := id z
    refine h { s with heap := h' } ⟨I.ok, I.os, I.bare, ⟨fun b o e n hb hx => ?_, fun b o e n hb hx => ?_, I.base.free, fun b o e hx => ?_, I.base.tups, I.base.frzs, I.base.tbls⟩, ⟨m, hn.sameBut hs (Ne.symm (cne x c hc)), fun j y v' e1 e2 e3 => ?_⟩, fun y c' e => ?_, I.free, I.freeC, fun p hp => ?_, tracked ⟨oc, hoc, I.freeC x c hc⟩ hs, by simpa using I.len⟩ ⟨c, hs, .inr hc⟩
    · exact (hs.2 b (Nat.ne_of_lt (Nat.lt_of_lt_of_le (Heap.lt_size e) (I.ok.cab x c hfn hc)))).trans (I.base.keep b o e n hb hx)
    · obtain ⟨sl, e1⟩ := I.base.slot b o e n hb hx
      exact ⟨sl, (hs.2 b (Nat.ne_of_lt (Nat.lt_of_lt_of_le (Heap.lt_size e) (I.ok.cab x c hfn hc)))).trans e1⟩
    · obtain ⟨o', e1⟩ := I.base.there b o e hx
      exact ⟨o', (hs.2 b (Nat.ne_of_lt (Nat.lt_of_lt_of_le (Heap.lt_size e) (I.ok.cab x c hfn hc)))).trans e1⟩
    · by_cases hj : j = i
      · subst hj
        rw [hi] at e1; cases e1
        rw [List.getElem?_set_self hiσ] at e2
        cases e2
        exact ⟨u, r, .inr ⟨.inl hk, c, hc, hc'⟩⟩
      · rw [List.getElem?_set_ne (Ne.symm hj)] at e2
        obtain ⟨u', r', q⟩ := hl j y v' e1 e2 e3
        refine ⟨u', r', ?_⟩
        rcases q with q | ⟨k, c', e, z'⟩
        · exact .inl q
        · refine .inr ⟨k, c', e, z'.sameBut hs ?_⟩
          rintro rfl
          exact hj (nodup_ix hN e1 (I.ok.inj _ _ _ e hc ▸ hi))
    · by_cases hcc : c' = c
      · subst hcc; exact ⟨_, hc'⟩
      · obtain ⟨w2, z2⟩ := I.cell y c' e
        exact ⟨w2, z2.sameBut hs hcc⟩
    · obtain ⟨e, n, ne, nf, d⟩ := I.pin p hp
      refine ⟨(hs.2 p.1 ?_).trans e, n, ne, nf, d⟩
      intro q
      rw [q, hoc] at e
      have q' : oc = p.2 := Option.some.inj e
      exact d w' (by rw [← q']; exact hocd)
theorem store_ok {M : Model} {A : Around} {E : Value → Shared → Prop} {i : Nat} {x : Str} {v : V} {u : Value} {Q : Unit → Shared → Prop} (I : Inv X pins σ H s) (hN : X.N.Nodup) (hi : X.N[i]? = some x) (hx : Loc X.env.scope x) (r : RelV v u)
    (h : ∀ s', Inv X pins (σ.set i (some v)) H s' → Q () s') (hf : X.fn x = true ∨ X.env.scope.names.lookup x = some .local := by first | exact .inl rfl | exact .inr rfl | assumption) : wpAny M A (storeName X.env x u) Q E s :=
  store_ok2 I hN hi hx r (fun s' I' _ => h s' I') hf
theorem Inv.call' {s' : Shared} {ch : List Addr} (I : Inv X pins σ H s) (ho : s'.os = s.os) (u : Un (frs X.stack) ch H H' s.heap s'.heap) (hok : HOk X.prog X.w H' s'.heap) (hg : AllBare s'.gens)
    (hch : ∀ b ∈ ch, (b ∈ X.ex ∨ X.s₀.heap.objs.size ≤ b) ∧ b ≠ X.env.locals ∧ (∀ x c, X.env.cells.lookup x = some c → c ≠ b) ∧ ∀ p ∈ X.pn ++ pins, p.1 ≠ b) : Inv X pins σ H' s' := by
  obtain ⟨h', g', d', t', o'⟩ := s'
  have e : o' = s.os := ho
  subst e
  exact I.call (g' := g') (t' := t') (d' := d') u hok hg hch
end
noncomputable abbrev XK := Value → Option Addr → Hp → Prop
noncomputable abbrev St := List (Option V)
noncomputable abbrev VK := V → Hp → Prop
noncomputable abbrev TE := St → Hp → VK → Prop
noncomputable abbrev TT := St → Hp → (Bool → Hp → Prop) → Prop
noncomputable abbrev TA := St → Hp → (List V → Hp → Prop) → Prop
structure Ends where
  nx : St → Hp → Prop
  rt : VK
  bk : St → Hp → Prop := fun _ _ => False
  ct : St → Hp → Prop := fun _ _ => False
noncomputable abbrev TS := Ends → St → Hp → Prop
noncomputable def EP (X : Cx) (pins : List (Addr × Obj)) (σ : St) (Q : VK) (u : Value) (s' : Shared) : Prop := ∃ v H', Inv X pins σ H' s' ∧ RelV v u ∧ Q v H'
noncomputable def TP (X : Cx) (pins : List (Addr × Obj)) (σ : St) (Q : Bool → Hp → Prop) (b : Bool) (s' : Shared) : Prop := ∃ H', Inv X pins σ H' s' ∧ Q b H'
noncomputable def AP (X : Cx) (pins : List (Addr × Obj)) (σ : St) (Q : List V → Hp → Prop) (us : List Value) (s' : Shared) : Prop := ∃ vs H', Inv X pins σ H' s' ∧ Vals vs us ∧ Q vs H'
noncomputable def SP (X : Cx) (pins : List (Addr × Obj)) (D : Ends) (f : Flow) (s' : Shared) : Prop :=
  match f with
  | .next => ∃ σ' H', Inv X pins σ' H' s' ∧ D.nx σ' H'
  | .brk => ∃ σ' H', Inv X pins σ' H' s' ∧ D.bk σ' H'
  | .cont => ∃ σ' H', Inv X pins σ' H' s' ∧ D.ct σ' H'
  | .ret u => ∃ v σ' H', Inv X pins σ' H' s' ∧ RelV v u ∧ D.rt v H'
noncomputable def PE (X : Cx) (e : Expr) (t : TE) : Prop :=
  ∀ (pins : List (Addr × Obj)) (s : Shared) (σ : St) (H : Hp) (Q : VK), Inv X pins σ H s → t σ H Q → wpAny (model X.prog X.w) X.A (eval e X.env) (EP X pins σ Q) X.xe s
noncomputable def PT (X : Cx) (e : Expr) (t : TT) : Prop :=
  ∀ (pins : List (Addr × Obj)) (s : Shared) (σ : St) (H : Hp) (Q : Bool → Hp → Prop), Inv X pins σ H s → t σ H Q → wpAny (model X.prog X.w) X.A (isTrue e X.env (eval e X.env)) (TP X pins σ Q) X.xe s
noncomputable def PW (X : Cx) (e : Expr) (t : TT) : Prop :=
  ∀ (whole : Sem Value) (pins : List (Addr × Obj)) (s : Shared) (σ : St) (H : Hp) (Q : Bool → Hp → Prop), Inv X pins σ H s → t σ H Q → wpAny (model X.prog X.w) X.A (isTrue e X.env whole) (TP X pins σ Q) X.xe s
theorem PW.pt {X : Cx} {e : Expr} {t : TT} (h : PW X e t) : PT X e t := h _
noncomputable def PA (X : Cx) (es : List Expr) (t : TA) : Prop :=
  ∀ (pos : Pos) (pins : List (Addr × Obj)) (s : Shared) (σ : St) (H : Hp) (Q : List V → Hp → Prop), Inv X pins σ H s → t σ H Q → wpAny (model X.prog X.w) X.A (spliced (backTo pos (starEach es X.env))) (AP X pins σ Q) X.xe s
noncomputable def PS (X : Cx) (st : Stmt) (t : TS) : Prop :=
  ∀ (pins : List (Addr × Obj)) (s : Shared) (σ : St) (H : Hp) (D : Ends), Inv X pins σ H s → t D σ H → wpAny (model X.prog X.w) X.A (exec st X.env) (SP X pins D) X.xe s
noncomputable def PSs (X : Cx) (st : List Stmt) (t : TS) : Prop :=
  ∀ (pins : List (Addr × Obj)) (s : Shared) (σ : St) (H : Hp) (D : Ends), Inv X pins σ H s → t D σ H → wpAny (model X.prog X.w) X.A (execs st X.env) (SP X pins D) X.xe s
theorem thn {α : Type} {t : Sem α} {Q Q' : α → Shared → Prop} {M : Model} {A : Around} {E : Value → Shared → Prop} {s : Shared} (h : wpAny M A t Q E s) (hQ : ∀ a s, Q a s → Q' a s) : wpAny M A t Q' E s := wpAny_mono h hQ fun _ _ x => x
end L2
namespace L2
open PySem PySem.Spec PyProof.Rows
section
variable {X : Cx}
noncomputable def tVar (i : Nat) : TE := fun σ H Q => ∃ v, σ[i]? = some (some v) ∧ Q v H
noncomputable def tC (v : V) : TE := fun _ H Q => Q v H
theorem pe_var {i : Nat} {x : Str} {pos : Pos} (hN : X.N[i]? = some x) (hv : Vis X.env.scope x) (hd : (x == ("__debug__" : Str)) = false := by decide) (hcd : (x == ("__classdict__" : Str)) = false := by decide) : PE X (.Name x pos) (tVar i) := by
  intro pins s σ H Q I h
  obtain ⟨v, e, h⟩ := h
  obtain ⟨m, hn, hl⟩ := I.loc
  obtain ⟨u, r, l⟩ := hl i x v hN e hv
  have fin : EP X pins σ Q u s := ⟨v, H, I, r, h⟩
  rcases l with ⟨hk, hm⟩ | ⟨hk, c, hc, hcell⟩
  · exact wpAny_Name (wpAny_loadName_local I.ok.kind hk hn hm fin) hd
  · rcases hk with hk | hk
    · exact wpAny_Name (wpAny_loadName_cell I.ok.kind hk hc hcell fin) hd
    · exact wpAny_Name (wpAny_loadName_free I.ok.kind hk hc hcell fin hcd) hd
theorem pe_int {i j pos} : PE X (.Constant (.int i) j pos) (tC (.int i)) := fun _ _ _ H _ I h => wpAny_Constant_int ⟨.int i, H, I.tok _, ⟨_, rfl⟩, h⟩
theorem pe_bl {b j pos} : PE X (.Constant (.bool b) j pos) (tC (.bl b)) := fun _ _ _ H _ I h => Constant_bool ⟨.bl b, H, I, rfl, h⟩
theorem pe_non {j pos} : PE X (.Constant .none j pos) (tC .non) := fun _ _ _ H _ I h => Constant_none ⟨.non, H, I, rfl, h⟩
theorem pe_str {x j pos} : PE X (.Constant (.str x) j pos) (tC (.str x)) := fun _ _ _ H _ I h => Calls.Constant_str ⟨.str x, H, I.tok _, ⟨_, rfl⟩, h⟩
noncomputable def Gl (X : Cx) (x : Str) : Prop := X.env.kindOf x = some .globalImplicit
theorem ld_glob {E : Value → Shared → Prop} {pins : List (Addr × Obj)} {s : Shared} {σ : St} {H : Hp} {x : Str} {u : Value} {pos : Pos} {Q : Value → Shared → Prop} (I : Inv X pins σ H s) (hg : Gl X x) (hm : X.mg x = some u) (h : Q u s)
    (hd : (x == ("__debug__" : Str)) = false := by decide) : wpAny (model X.prog X.w) X.A (eval (.Name x pos) X.env) Q E s :=
  Calls.Name_function_global I.ok.kind hg (Calls.loadGlobal_global (by rw [I.ok.glob]; exact I.mod.glob.keeps I.bk) hm h) hd
theorem ld_blt {E : Value → Shared → Prop} {pins : List (Addr × Obj)} {s : Shared} {σ : St} {H : Hp} {x : Str} {u : Value} {pos : Pos} {Q : Value → Shared → Prop} (I : Inv X pins σ H s) (hg : Gl X x) (hm : X.mg x = none) (hv : bootBuiltins x = some u) (h : Q u s)
    (hn : x ≠ "__name__" := by decide) (hd : (x == ("__debug__" : Str)) = false := by decide) : wpAny (model X.prog X.w) X.A (eval (.Name x pos) X.env) Q E s := by
  obtain ⟨mb, h1, h2⟩ := I.mod.blt
  exact Calls.Name_function_global I.ok.kind hg (Calls.loadGlobal_builtin (by rw [I.ok.glob]; exact I.mod.glob.keeps I.bk) hm (by rw [I.ok.blt]; exact h1.keeps I.bk) ((h2 x hn).trans hv) h) hd
theorem pe_glob {x : Str} {v : V} {u : Value} {pos : Pos} (hg : Gl X x) (hm : X.mg x = some u) (r : RelV v u) (hd : (x == ("__debug__" : Str)) = false := by decide) : PE X (.Name x pos) (tC v) :=
  fun _ _ _ H _ I h => ld_glob I hg hm ⟨v, H, I, r, h⟩ hd
theorem pe_bltn {x : Str} {v : V} {u : Value} {pos : Pos} (hg : Gl X x) (hm : X.mg x = none) (hv : bootBuiltins x = some u) (r : RelV v u) (hn : x ≠ "__name__" := by decide) (hd : (x == ("__debug__" : Str)) = false := by decide) : PE X (.Name x pos) (tC v) :=
  fun _ _ _ H _ I h => ld_blt I hg hm hv ⟨v, H, I, r, h⟩ hn hd
variable {a b : Expr} {ta tb : TE} {pos : Pos}
noncomputable def tB (t : TE) : TT := fun σ H Q => t σ H fun x H1 => ∃ c, x = .bl c ∧ Q c H1
theorem pt_val {e : Expr} {t : TE} (h : PE X e t) (he : ∀ whole, isTrue e X.env whole = (do let v ← whole; standAt e.pos; holding [v] (truthy v)) := by intro _; rfl) : PT X e (tB t) := by
  intro pins s σ H Q I hw
  refine isTrue_plain (thn (h pins s σ H _ I hw) fun v s1 ⟨x, H1, I1, r1, q1⟩ => ?_) (he _)
  obtain ⟨d, rfl, q⟩ := q1
  cases r1
  exact wpAny_truthy_bool ⟨H1, I1, q⟩
variable {tA tB' : TT} {rest : List Expr}
noncomputable def tAnd (t u : TT) : TT := fun σ H Q => t σ H fun c H1 => if c = true then u σ H1 Q else Q false H1
noncomputable def tOr (t u : TT) : TT := fun σ H Q => t σ H fun c H1 => if c = true then Q true H1 else u σ H1 Q
noncomputable def tNot (t : TT) : TT := fun σ H Q => t σ H fun c H1 => Q (!c) H1
theorem pw_and1 (ha : PT X a tA) : PW X (.BoolOp .And [a] pos) tA := by
  intro wh pins s σ H Q I h
  refine isTrue_and (thn (ha pins s σ H Q I h) fun c s1 e => ?_)
  cases c with
  | true => exact isTrue_and_nil e
  | false => exact e
theorem pw_or1 (ha : PT X a tA) : PW X (.BoolOp .Or [a] pos) tA := by
  intro wh pins s σ H Q I h
  refine isTrue_or (thn (ha pins s σ H Q I h) fun c s1 e => ?_)
  cases c with
  | false => exact isTrue_or_nil e
  | true => exact e
theorem pw_and (ha : PT X a tA) (hb : PW X (.BoolOp .And (b :: rest) pos) tB') : PW X (.BoolOp .And (a :: b :: rest) pos) (tAnd tA tB') := by
  intro wh pins s σ H Q I h
  refine isTrue_and (thn (ha pins s σ H _ I h) fun c s1 ⟨H1, I1, q1⟩ => ?_)
  cases c with
  | true => exact hb wh pins s1 σ H1 Q I1 q1
  | false => exact ⟨H1, I1, q1⟩
theorem pw_or (ha : PT X a tA) (hb : PW X (.BoolOp .Or (b :: rest) pos) tB') : PW X (.BoolOp .Or (a :: b :: rest) pos) (tOr tA tB') := by
  intro wh pins s σ H Q I h
  refine isTrue_or (thn (ha pins s σ H _ I h) fun c s1 ⟨H1, I1, q1⟩ => ?_)
  cases c with
  | true => exact ⟨H1, I1, q1⟩
  | false => exact hb wh pins s1 σ H1 Q I1 q1
theorem pt_not (ha : PT X a tA) : PT X (.UnaryOp .Not a pos) (tNot tA) := by
  intro pins s σ H Q I h
  exact isTrue_not (ha pins s σ H (fun c H1 => Q (!c) H1) I h)
noncomputable def tAndV (ta tb : TE) : TE := fun σ H Q => ta σ H fun x H1 => ∃ c, x = .bl c ∧ if c = true then tb σ H1 Q else Q (.bl false) H1
noncomputable def tNotV (ta : TE) : TE := fun σ H Q => ta σ H fun x H1 => ∃ c, x = .bl c ∧ Q (.bl (!c)) H1
theorem pe_one {op} {t : TE} (h : PE X a t) : PE X (.BoolOp op [a] pos) t := fun pins s σ H Q I hw => BoolOp_one (h pins s σ H Q I hw)
theorem pe_and (ha : PE X a ta) (hb : PE X (.BoolOp .And (b :: rest) pos) tb) : PE X (.BoolOp .And (a :: b :: rest) pos) (tAndV ta tb) := by
  intro pins s σ H Q I h
  refine BoolOp_and (thn (ha pins s σ H _ I h) fun v s1 ⟨x, H1, I1, r1, q1⟩ => ?_)
  obtain ⟨c, rfl, q1⟩ := q1
  cases r1
  refine wpAny_truthy_bool ?_
  cases c with
  | true => exact hb pins s1 σ H1 Q I1 q1
  | false => exact ⟨.bl false, H1, I1, rfl, q1⟩
theorem pe_not (ha : PE X a ta) : PE X (.UnaryOp .Not a pos) (tNotV ta) := by
  intro pins s σ H Q I h
  refine UnaryOp_ (thn (ha pins s σ H _ I h) fun v s1 ⟨x, H1, I1, r1, q1⟩ => ?_)
  obtain ⟨c, rfl, q1⟩ := q1
  cases r1
  exact not_of (wpAny_truthy_bool ⟨.bl (!c), H1, I1, rfl, q1⟩)
noncomputable def tIf (t : TT) (ta tb : TE) : TE := fun σ H Q => t σ H fun c H1 => if c = true then ta σ H1 Q else tb σ H1 Q
theorem pe_ifExp {c : Expr} (hc : PT X c tA) (ha : PE X a ta) (hb : PE X b tb) : PE X (.IfExp c a b pos) (tIf tA ta tb) := by
  intro pins s σ H Q I h
  refine wpAny_IfExp (thn (hc pins s σ H _ I h) fun d s1 ⟨H1, I1, q1⟩ => ?_)
  cases d with
  | true => exact ha pins s1 σ H1 Q I1 q1
  | false => exact hb pins s1 σ H1 Q I1 q1
end
end L2
namespace L2
open PySem PySem.Spec PyProof.Rows
noncomputable def SqL (K : PySem.W.Frag) (H : Hp) (a : Addr) (xs : List V) : Prop :=
  Rd H a (.lst xs) ∨
    ∃ (o : Obj) (its : Array Value) (n : Nat), K.lookup a = some o ∧ o.cls = .type "list" ∧ o.dict = none ∧ o.data = .seq its n ∧ its.size ≤ sizeLine ∧ Vals xs its.toList
noncomputable def SqT (K : PySem.W.Frag) (H : Hp) (a : Addr) (xs : List V) : Prop :=
  Rd H a (.tup xs) ∨
    ∃ (o : Obj) (its : Array Value) (n : Nat), K.lookup a = some o ∧ o.cls = .type "tuple" ∧ o.data = .seq its n ∧ its.size ≤ sizeLine ∧ Vals xs its.toList
noncomputable def absV : Value → Option V
  | .none => some .non
  | .bool b => some (.bl b)
  | .int i _ => some (.int i)
  | .str x _ => some (.str x)
  | .bytes b _ => some (.byt b)
  | .float b _ => some (.flt b)
  | .ref a => some (.ref a)
  | .type n => some (.ty n)
  | _ => none
theorem RelV.abs {x : V} {u : Value} (r : RelV x u) : absV u = some x := by
  cases x with
  | non => cases r; rfl
  | bl _ => cases r; rfl
  | int _ => obtain ⟨t, rfl⟩ := r; rfl
  | str _ => obtain ⟨t, rfl⟩ := r; rfl
  | byt _ => obtain ⟨t, rfl⟩ := r; rfl
  | flt _ => obtain ⟨t, rfl⟩ := r; rfl
  | ref _ => cases r; rfl
  | ty _ => cases r; rfl
theorem RelV.inj {x y : V} {u : Value} (r : RelV x u) (q : RelV y u) : x = y := Option.some.inj (r.abs.symm.trans q.abs)
theorem Vals.inj : ∀ {xs ys : List V} {us : List Value}, Vals xs us → Vals ys us → xs = ys
  | _, _, _, .nil, .nil => rfl
  | _, _, _, .cons r t, .cons r' t' => by rw [r.inj r', Vals.inj t t']
section
variable {X : Cx} {pins : List (Addr × Obj)} {σ : St} {H : Hp} {s : Shared} {a : Addr} {xs ys : List V}
theorem SqL.of {K : PySem.W.Frag} (h : H a = some (.lst xs)) : SqL K H a xs := .inl (.inl h)
theorem SqT.of {K : PySem.W.Frag} (h : H a = some (.tup xs)) : SqT K H a xs := .inl (.inl h)
theorem Inv.list (I : Inv X pins σ H s) (h : SqL X.K H a xs) : ∃ its : List Value, Vals xs its ∧ PlainL s.heap a its.toArray ∧ xs.length ≤ sizeLine := by
  rcases h with h | ⟨o, its, n, hk, hc, hd, hs, hz, r⟩
  · obtain ⟨z, its, n, r, e⟩ := h.ok I.hok
    exact ⟨its, r, ⟨_, n, e, rfl, rfl, rfl⟩, z⟩
  · refine ⟨its.toList, r, ⟨o, n, I.kIn a o hk, hc, hd, by simpa using hs⟩, ?_⟩
    have e := r.length
    simp only [Array.length_toList] at e
    omega
theorem Inv.tuple (I : Inv X pins σ H s) (h : SqT X.K H a xs) : ∃ its : List Value, Vals xs its ∧ IsTup s.heap a its.toArray ∧ xs.length ≤ sizeLine := by
  rcases h with h | ⟨o, its, n, hk, hc, hs, hz, r⟩
  · obtain ⟨z, its, r, p⟩ := h.ok I.hok
    exact ⟨its, r, p, z⟩
  · refine ⟨its.toList, r, ⟨o, I.kIn a o hk, hc, n, by simpa using hs⟩, ?_⟩
    have e := r.length
    simp only [Array.length_toList] at e
    omega
theorem Inv.list_inj (I : Inv X pins σ H s) (h : SqL X.K H a xs) (h' : SqL X.K H a ys) : xs = ys := by
  obtain ⟨its, r, ⟨o, n, e, _, _, d⟩, _⟩ := I.list h
  obtain ⟨its', r', ⟨o', n', e', _, _, d'⟩, _⟩ := I.list h'
  rw [e] at e'; cases e'
  rw [d] at d'
  injection d' with d1 _
  have : its = its' := by simpa using congrArg Array.toList d1
  subst this
  exact r.inj r'
theorem Inv.tuple_inj (I : Inv X pins σ H s) (h : SqT X.K H a xs) (h' : SqT X.K H a ys) : xs = ys := by
  obtain ⟨its, r, ⟨o, e, _, n, d⟩, _⟩ := I.tuple h
  obtain ⟨its', r', ⟨o', e', _, n', d'⟩, _⟩ := I.tuple h'
  rw [e] at e'; cases e'
  rw [d] at d'
  injection d' with d1 _
  have : its = its' := by simpa using congrArg Array.toList d1
  subst this
  exact r.inj r'
end
noncomputable abbrev Cx.wish (X : Cx) (E : Value → Shared → Prop) : Cx := { X with xe := E }
noncomputable abbrev Cx.nox (X : Cx) : Cx := X.wish fun _ _ => False
theorem Cx.Ok.wish {X : Cx} (ok : X.Ok) (E : Value → Shared → Prop) : (X.wish E).Ok :=
  ⟨ok.mod, ok.kind, ok.glob, ok.blt, ok.above, ok.inj, ok.has, ok.cab, ok.hd, ok.frames, ok.stk, ok.exf, ok.bs, ok.bsz, ok.noex, ok.exfs, ok.funs, ok.frf⟩
theorem Cx.Ok.unwish {X : Cx} {E : Value → Shared → Prop} (ok : (X.wish E).Ok) : X.Ok :=
  ⟨ok.mod, ok.kind, ok.glob, ok.blt, ok.above, ok.inj, ok.has, ok.cab, ok.hd, ok.frames, ok.stk, ok.exf, ok.bs, ok.bsz, ok.noex, ok.exfs, ok.funs, ok.frf⟩
section
variable {X : Cx} {pins : List (Addr × Obj)} {σ : St} {H : Hp} {s : Shared} {E : Value → Shared → Prop}
theorem Inv.wish (I : Inv X pins σ H s) (E : Value → Shared → Prop) : Inv (X.wish E) pins σ H s := ⟨I.ok.wish E, I.os, I.bare, I.base, I.loc, I.cell, I.free, I.freeC, I.pin, I.hok, I.len⟩
theorem Inv.unwish (I : Inv (X.wish E) pins σ H s) : Inv X pins σ H s := ⟨I.ok.unwish, I.os, I.bare, I.base, I.loc, I.cell, I.free, I.freeC, I.pin, I.hok, I.len⟩
theorem SP.unwish {D : Ends} {f : Flow} {s' : Shared} (h : SP (X.wish E) pins D f s') : SP X pins D f s' := by
  cases f with
  | next => obtain ⟨σ', H', I, q⟩ := h; exact ⟨σ', H', I.unwish, q⟩
  | brk => obtain ⟨σ', H', I, q⟩ := h; exact ⟨σ', H', I.unwish, q⟩
  | cont => obtain ⟨σ', H', I, q⟩ := h; exact ⟨σ', H', I.unwish, q⟩
  | ret u => obtain ⟨v, σ', H', I, r, q⟩ := h; exact ⟨v, σ', H', I.unwish, r, q⟩
theorem PE.nox {e : Expr} {t : TE} (h : PE X.nox e t) : PE X e t := fun pins s σ H Q I hw =>
  wpAny_mono (h pins s σ H Q (I.wish _) hw) (fun _ _ ⟨v, H', I', r, q⟩ => ⟨v, H', I'.unwish, r, q⟩) fun _ _ z => False.elim z
theorem PT.nox {e : Expr} {t : TT} (h : PT X.nox e t) : PT X e t := fun pins s σ H Q I hw =>
  wpAny_mono (h pins s σ H Q (I.wish _) hw) (fun _ _ ⟨H', I', q⟩ => ⟨H', I'.unwish, q⟩) fun _ _ z => False.elim z
theorem PSs.nox {st : List Stmt} {t : TS} (h : PSs X.nox st t) : PSs X st t := fun pins s σ H D I hw =>
  wpAny_mono (h pins s σ H D (I.wish _) hw) (fun _ _ q => q.unwish) fun _ _ z => False.elim z
end
section
variable {X : Cx} {st : Stmt} {rest : List Stmt} {t u : TS} {e : Expr} {te : TE} {pos : Pos}
noncomputable def tNext : TS := fun D σ H => D.nx σ H
noncomputable def tSeq (t u : TS) : TS := fun D σ H => t { D with nx := u D } σ H
theorem pss_nil : PSs X [] tNext := fun _ _ σ H _ I h => wpAny_execs_nil ⟨σ, H, I, h⟩
theorem pss_cons (h1 : PS X st t) (h2 : PSs X rest u) : PSs X (st :: rest) (tSeq t u) := by
  intro pins s σ H D I h
  refine wpAny_execs_cons (thn (h1 pins s σ H { D with nx := u D } I h) fun f s1 q => ?_)
  cases f with
  | next =>
    obtain ⟨σ', H', I', q⟩ := q
    exact h2 pins s1 σ' H' D I' q
  | ret v => exact q
  | brk => exact q
  | cont => exact q
theorem pss_one (h1 : PS X st t) : PSs X [st] t := by
  intro pins s σ H D I h
  refine wpAny_execs_cons (thn (h1 pins s σ H D I h) fun f s1 q => ?_)
  cases f with
  | next => exact wpAny_execs_nil q
  | ret v => exact q
  | brk => exact q
  | cont => exact q
theorem Inv.quiet {pins : List (Addr × Obj)} {σ : St} {H : Hp} {s : Shared} (I : Inv X pins σ H s) : interactive X.env = false := by simp [interactive, I.ok.kind]
noncomputable def tDrop (te : TE) : TS := fun D σ H => te σ H fun _ H1 => D.nx σ H1
theorem ps_expr (he : PE X e te) (hs : swapsWith e none pos.line X.env = pure false := by rfl) : PS X (.Expr e pos) (tDrop te) := by
  intro pins s σ H D I h
  exact wpAny_Expr_any (thn (he pins s σ H _ I h) fun v s1 ⟨x, H1, I1, r1, q1⟩ => ⟨σ, H1, I1, q1⟩) I.quiet hs
noncomputable def tRet (te : TE) : TS := fun D σ H => te σ H D.rt
theorem ps_ret (he : PE X e te) : PS X (.Return (some e) pos) (tRet te) := by
  intro pins s σ H D I h
  exact wpAny_Return_some (thn (he pins s σ H _ I h) fun v s1 ⟨x, H1, I1, r1, q1⟩ => ⟨x, σ, H1, I1, r1, q1⟩)
noncomputable def tIfS (c : TT) (t u : TS) : TS := fun D σ H => c σ H fun b H1 => if b = true then t D σ H1 else u D σ H1
theorem ps_if {c : Expr} {a b : List Stmt} {tc : TT} (hc : PT X c tc) (ha : PSs X a t) (hb : PSs X b u) : PS X (.If c a b pos) (tIfS tc t u) := by
  intro pins s σ H D I h
  refine wpAny_If (thn (hc pins s σ H _ I h) fun d s1 ⟨H1, I1, q1⟩ => ?_)
  cases d with
  | true => exact ha pins s1 σ H1 D I1 q1
  | false => exact hb pins s1 σ H1 D I1 q1
end
noncomputable abbrev TG := V → St → Hp → (St → Hp → Prop) → Prop
noncomputable abbrev TGs := List V → St → Hp → (St → Hp → Prop) → Prop
noncomputable def PG (X : Cx) (target : Expr) (t : TG) : Prop :=
  ∀ (pins : List (Addr × Obj)) (s : Shared) (σ : St) (H : Hp) (v : V) (u : Value) (Q : St → Hp → Prop), Inv X pins σ H s → RelV v u → t v σ H Q →
    wpAny (model X.prog X.w) X.A (assign target X.env u) (fun _ s' => ∃ σ' H', Inv X pins σ' H' s' ∧ Q σ' H') X.xe s
noncomputable def PGs (X : Cx) (ts : List Expr) (t : TGs) : Prop :=
  ∀ (pins : List (Addr × Obj)) (s : Shared) (σ : St) (H : Hp) (vs : List V) (us : List Value) (Q : St → Hp → Prop), Inv X pins σ H s → Vals vs us → t vs σ H Q →
    wpAny (model X.prog X.w) X.A (assignInOrder ((assignEach ts X.env).map (·.2)) us) (fun _ s' => ∃ σ' H', Inv X pins σ' H' s' ∧ Q σ' H') X.xe s
section
variable {X : Cx} {pos : Pos}
noncomputable def gName (i : Nat) : TG := fun v σ H Q => Q (σ.set i (some v)) H
theorem pg_name {i : Nat} {x : Str} (hN : X.N.Nodup) (hi : X.N[i]? = some x) (hx : Loc X.env.scope x) (hf : X.fn x = true ∨ X.env.scope.names.lookup x = some .local := by first | exact .inl rfl | exact .inr rfl | assumption) : PG X (.Name x pos) (gName i) := by
  intro pins s σ H v u Q I r h
  exact wpAny_assign_Name (store_ok I hN hi hx r (fun s' I' => ⟨_, H, I', h⟩) hf)
noncomputable def gNil : TGs := fun vs σ H Q => vs = [] ∧ Q σ H
noncomputable def gCons (t : TG) (u : TGs) : TGs := fun vs σ H Q => ∃ v r, vs = v :: r ∧ t v σ H fun σ' H' => u r σ' H' Q
theorem pgs_nil : PGs X [] gNil := by
  intro pins s σ H vs us Q I r h
  obtain ⟨e, h⟩ := h
  subst e
  cases r
  exact assignInOrder_nil ⟨σ, H, I, h⟩
theorem pgs_cons {e : Expr} {es : List Expr} {t : TG} {u : TGs} (h1 : PG X e t) (h2 : PGs X es u)
    (hs : (assignEach (e :: es) X.env).map (·.2) = assign e X.env :: (assignEach es X.env).map (·.2) := by rfl) : PGs X (e :: es) (gCons t u) := by
  intro pins s σ H vs us Q I r h
  obtain ⟨v, vr, e1, h⟩ := h
  subst e1
  cases r with
  | cons r rr =>
    rw [hs]
    refine assignInOrder_cons (thn (h1 pins s σ H _ _ _ I r h) fun _ s1 ⟨σ1, H1, I1, q1⟩ => ?_)
    exact h2 pins s1 σ1 H1 _ _ Q I1 rr q1
noncomputable def gTup (K : PySem.W.Frag) (n : Nat) (t : TGs) : TG := fun v σ H Q => ∃ a xs, v = .ref a ∧ SqT K H a xs ∧ xs.length = n ∧ t xs σ H Q
theorem pg_tup {es : List Expr} {k : Nat} {t : TGs} {n : Nat} (hc : X.calm = true) (h : PGs X es t)
    (hn : (assignEach es X.env).length = n := by rfl) (hst : (assignEach es X.env).findIdx? (·.1) = none := by rfl) : PG X (.Tuple es k pos) (gTup X.K n t) := by
  intro pins s σ H v u Q I r hw
  obtain ⟨a, xs, e1, hq, hl, hw⟩ := hw
  subst e1
  cases r
  obtain ⟨its, rv, ht, hz⟩ := I.tuple hq
  refine assign_Tuple_tuple (I.ok.hd hc) ht (by simp [hn, ← hl, rv.length]) hst fun h' hx => ?_
  have I1 : Inv X pins σ H { s with heap := h' } := I.kept (t' := s.toks) fun b o e => hx b o (Nat.ne_of_lt (Heap.lt_size e)) e
  exact h pins _ σ H xs _ Q I1 (by simpa using rv) hw
noncomputable def tAsg (te : TE) (g : TG) : TS := fun D σ H => te σ H fun x H1 => g x σ H1 D.nx
theorem ps_set {i : Nat} {x : Str} {e : Expr} {te : TE} {pos' : Pos} (hN : X.N.Nodup) (hi : X.N[i]? = some x) (hx : Loc X.env.scope x) (he : PE X e te) (hs : swapsWith e (some (.Name x pos')) pos.line X.env = pure false := by rfl) (hf : X.fn x = true ∨ X.env.scope.names.lookup x = some .local := by first | exact .inl rfl | exact .inr rfl | assumption) :
    PS X (.Assign [.Name x pos'] e pos) (tAsg te (gName i)) := by
  intro pins s σ H D I h
  refine wpAny_Assign_Name (thn (he pins s σ H _ I h) fun v s1 ⟨y, H1, I1, r1, q1⟩ => ?_) hs
  exact store_ok I1 hN hi hx r1 (fun s2 I2 => ⟨_, H1, I2, q1⟩) hf
end
section
variable {X : Cx} {pos : Pos}
noncomputable def tWhile (c : TT) (tb : TS) : TS := fun D σ H => ∃ W : Nat → St → Hp → Prop, (∃ m, W m σ H) ∧ ∀ m σ H, W m σ H →
  c σ H fun b H1 => if b = true then ∃ N : St → Hp → Prop, (∀ σ' H', N σ' H' → ∃ m', m' < m ∧ W m' σ' H') ∧ tb { D with nx := N, ct := N, bk := D.nx } σ H1 else D.nx σ H1
theorem ps_while {c : Expr} {body : List Stmt} {tc : TT} {tb : TS} (hp : PassesOwn (model X.prog X.w) X.A X.env X.xe) (hc : PT X c tc) (hb : PSs X body tb) : PS X (.While c body [] pos) (tWhile tc tb) := by
  intro pins s σ H D I h
  obtain ⟨W, ⟨m0, w0⟩, turn⟩ := h
  refine wpAny_While (codeAny_whileLoop (fun n s' => ∃ σ' H', Inv X pins σ' H' s' ∧ W n σ' H') ?_ m0 ⟨σ, H, I, w0⟩)
  rintro n s1 ⟨σ1, H1, I1, w1⟩
  refine wpAny_passesOwn hp (thn (hc pins s1 σ1 H1 _ I1 (turn n σ1 H1 w1)) fun b s2 ⟨H2, I2, q2⟩ => ?_)
  cases b with
  | true =>
    obtain ⟨N, hN, q2⟩ := q2
    rw [if_pos rfl]
    refine wpAny_passesOwn hp (thn (hb pins s2 σ1 H2 _ I2 q2) fun f s3 q3 => ?_)
    cases f with
    | next =>
      obtain ⟨σ3, H3, I3, n3⟩ := q3
      obtain ⟨m', hm, w3⟩ := hN σ3 H3 n3
      exact ⟨m', hm, σ3, H3, I3, w3⟩
    | cont =>
      obtain ⟨σ3, H3, I3, n3⟩ := q3
      obtain ⟨m', hm, w3⟩ := hN σ3 H3 n3
      exact ⟨m', hm, σ3, H3, I3, w3⟩
    | brk => exact q3
    | ret v => exact q3
  | false =>
    rw [if_neg Bool.false_ne_true]
    exact wpAny_execs_nil ⟨σ1, H2, I2, q2⟩
end
structure It where
  go : Nat → Hp → Prop
  yld : Nat → Hp → V → Hp → Prop
  stop : Nat → Hp → Prop
noncomputable def FpOk (X : Cx) (pins : List (Addr × Obj)) (H : Hp) (b : Addr) : Prop :=
  H b = none ∧ b ≠ X.env.locals ∧ b ∉ X.fs ∧ (b ∈ X.ex ∨ X.s₀.heap.objs.size ≤ b) ∧ (∀ x c, X.env.cells.lookup x = some c → c ≠ b) ∧ ∀ p ∈ X.pn ++ pins, p.1 ≠ b
theorem Inv.fpOk {X : Cx} {pins : List (Addr × Obj)} {σ : St} {H H' : Hp} {s : Shared} {b : Addr} (I : Inv X pins σ H s) (hb : s.heap.objs.size ≤ b) (hn : H' b = none) : FpOk X pins H' b := by
  refine ⟨hn, Nat.ne_of_gt (Nat.lt_of_lt_of_le I.lt hb), I.nofs hb, .inr (Nat.le_trans I.sz hb), fun x c e z => ?_, fun p hp z => ?_⟩
  · obtain ⟨v, q⟩ := I.cell x c e
    exact absurd (Nat.lt_of_lt_of_le q.lt (by rw [z]; exact hb)) (Nat.lt_irrefl _)
  · exact absurd (Nat.lt_of_lt_of_le (Heap.lt_size (I.pin p hp).1) (by rw [z]; exact hb)) (Nat.lt_irrefl _)
structure Turn (P : Program) (w : World) (K : PySem.W.Frag) (tg : Expr) (J : It) (fp : List Addr) (it : Addr) (tn : Nat → Heap → Prop) : Prop where
  mem : it ∈ fp
  obj : ∀ i h, tn i h → ∀ b ∈ fp, ∃ o, h.get? b = some o ∧ ∀ v, o.data ≠ .cell v
  keep : ∀ i h h', tn i h → (∀ b ∈ fp, ∀ o, h.get? b = some o → h'.get? b = some o) → tn i h'
  item : ∀ (X : Cx), X.prog = P → X.w = w → X.K = K → X.calm = true → ∀ (i : Nat) (pins : List (Addr × Obj)) (s : Shared) (σ : St) (H : Hp) (E : Value → Shared → Prop), Inv X pins σ H s → (∀ b ∈ fp, FpOk X pins H b) → tn i s.heap → J.go i H →
    wpAny (model P w) X.A (pyNext (.ref it)) (fun r s1 => ∃ u, r = some u ∧
      wpAny (model P w) X.A (letOwnedTupleGo tg (.ref it) u) (fun _ s2 => ∃ x H', Inv X pins σ H' s2 ∧ RelV x u ∧ J.yld i H x H' ∧ tn (i + 1) s2.heap ∧ ∀ b ∈ fp, H' b = none) E s1) E s
  done : ∀ (X : Cx), X.prog = P → X.w = w → X.K = K → X.calm = true → ∀ (i : Nat) (pins : List (Addr × Obj)) (s : Shared) (σ : St) (H : Hp) (E : Value → Shared → Prop), Inv X pins σ H s → (∀ b ∈ fp, FpOk X pins H b) → tn i s.heap → J.stop i H →
    wpAny (model P w) X.A (pyNext (.ref it)) (fun r s1 => r = none ∧ Inv X pins σ H s1) E s
  self : ∀ (A : Around) (i : Nat) (s : Shared) (Q : Value → Shared → Prop) (E : Value → Shared → Prop), tn i s.heap → Q (.ref it) s → wpAny (model P w) A (pyIter (.ref it)) Q E s
noncomputable abbrev TI := St → Hp → (It → Hp → Prop) → Prop
noncomputable def PIE (X : Cx) (pins : List (Addr × Obj)) (σ : St) (tg : Expr) (R : It → Hp → Prop) (itv : Value) (s2 : Shared) : Prop :=
  ∃ (it : Addr) (fp : List Addr) (tn : Nat → Heap → Prop) (J : It) (H' : Hp), itv = .ref it ∧ Inv X pins σ H' s2 ∧ Turn X.prog X.w X.K tg J fp it tn ∧ tn 0 s2.heap ∧ (∀ b ∈ fp, FpOk X pins H' b) ∧ R J H'
noncomputable def PI (X : Cx) (tg iter : Expr) (wi : TI) : Prop :=
  ∀ (pins : List (Addr × Obj)) (s : Shared) (σ : St) (H : Hp) (R : It → Hp → Prop), Inv X pins σ H s → wi σ H R →
    wpAny (model X.prog X.w) X.A (eval iter X.env) (fun v s1 => wpAny (model X.prog X.w) X.A (pyIter v) (PIE X pins σ tg R) X.xe s1) X.xe s
theorem go_of {M : Model} {A : Around} {E : Value → Shared → Prop} {s : Shared} {tg : Expr} {it : Addr} {u : Value} {o : Obj} {n : String} {vs : Array Value} {Q : Unit → Shared → Prop} (ho : s.heap.get? it = some o) (hc : o.cls = .type n) (hd : o.data = .fields vs)
    (hn : ["enumerate", "zip", "dict_itemiterator", "dict_reverseitemiterator", "odict_iterator", "itertools.zip_longest", "itertools.pairwise"].contains n = false) (hQ : Q () s) : wpAny M A (letOwnedTupleGo tg (.ref it) u) Q E s := by
  unfold letOwnedTupleGo
  cases tg <;> first
    | exact wpAny_pure hQ
    | (cases u <;> first
        | exact wpAny_pure hQ
        | (refine wpAny_bind (wpAny_load ho ?_)
           rw [hc, hd]
           show wpAny M A (if (["enumerate", "zip", "dict_itemiterator", "dict_reverseitemiterator", "odict_iterator", "itertools.zip_longest", "itertools.pairwise"].contains n && vs[0]? == some (rawInt _)) = true then _ else _) Q E s
           rw [if_neg (by intro h; rw [hn, Bool.false_and] at h; cases h)]
           exact wpAny_pure hQ))
noncomputable def Itl (K : PySem.W.Frag) (a : Addr) : It :=
  ⟨fun i H => ∃ xs x, SqL K H a xs ∧ xs[i]? = some x, fun i H x H' => H' = H ∧ ∀ xs, SqL K H a xs → xs[i]? = some x, fun i H => ∃ xs, SqL K H a xs ∧ xs.length ≤ i⟩
noncomputable def Itt (K : PySem.W.Frag) (a : Addr) : It :=
  ⟨fun i H => ∃ xs x, SqT K H a xs ∧ xs[i]? = some x, fun i H x H' => H' = H ∧ ∀ xs, SqT K H a xs → xs[i]? = some x, fun i H => ∃ xs, SqT K H a xs ∧ xs.length ≤ i⟩
noncomputable def Itr (lo : Int) (n : Nat) : It := ⟨fun i _ => i < n, fun i H x H' => H' = H ∧ x = .int (lo + i), fun i _ => n ≤ i⟩
theorem turn_list {P : Program} {w : World} {K : PySem.W.Frag} {tg : Expr} (a it : Addr) : Turn P w K tg (Itl K a) [it] it (fun i h => h.IsListIter it a i) where
  mem := by simp
  obj := fun i h st b hb => by
    have e : b = it := by simpa using hb
    subst e
    obtain ⟨o, e, c, d⟩ := st
    exact ⟨o, e, fun v z => by rw [d] at z; cases z⟩
  keep := fun i h h' st k => st.at fun o e => k it (by simp) o e
  item := by
    intro X hP hw hK hc i pins s σ H E I hf st hg
    subst hP hw hK
    obtain ⟨xs, x, hq, hx⟩ := hg
    obtain ⟨its, rv, p, hz⟩ := I.list hq
    obtain ⟨u, hu, ru⟩ := rv.get hx
    obtain ⟨f0, f1, f2, f3, f4, f5⟩ := hf it (by simp)
    refine wpAny_pyNext_list_item st p.isList (x := u) (by simpa using hu) fun h' st' sb => ?_
    have I1 : Inv X pins σ H { s with heap := h' } := I.turned (t' := s.toks) (fun b o hb e => (sb.2 b hb).trans e) f0 f1 f3 f4 f5
    obtain ⟨o, e, c, d⟩ := id st'
    exact ⟨u, rfl, go_of (s := { s with heap := h' }) e c d (by decide) ⟨x, H, I1, ru, ⟨rfl, fun ys hy => by rw [I.list_inj hy hq]; exact hx⟩, st', fun b hb => (hf b hb).1⟩⟩
  done := by
    intro X hP hw hK hc i pins s σ H E I hf st hg
    subst hP hw hK
    obtain ⟨xs, hq, hx⟩ := hg
    obtain ⟨its, rv, p, hz⟩ := I.list hq
    obtain ⟨f0, f1, f2, f3, f4, f5⟩ := hf it (by simp)
    have hl := rv.length
    exact wpAny_pyNext_list_end (I.ok.hd hc) st p.isList (by simp; omega) fun h' eb => ⟨rfl, I.turned (t' := s.toks) (fun b o hb e => eb b o hb e) f0 f1 f3 f4 f5⟩
  self := fun _ _ _ _ _ st h => wpAny_pyIter_listiter st h
theorem turn_tuple {P : Program} {w : World} {K : PySem.W.Frag} {tg : Expr} (a it : Addr) : Turn P w K tg (Itt K a) [it] it (fun i h => h.IsTupleIter it a i) where
  mem := by simp
  obj := fun i h st b hb => by
    have e : b = it := by simpa using hb
    subst e
    obtain ⟨o, e, c, d⟩ := st
    exact ⟨o, e, fun v z => by rw [d] at z; cases z⟩
  keep := fun i h h' st k => st.at fun o e => k it (by simp) o e
  item := by
    intro X hP hw hK hc i pins s σ H E I hf st hg
    subst hP hw hK
    obtain ⟨xs, x, hq, hx⟩ := hg
    obtain ⟨its, rv, p, hz⟩ := I.tuple hq
    obtain ⟨u, hu, ru⟩ := rv.get hx
    obtain ⟨f0, f1, f2, f3, f4, f5⟩ := hf it (by simp)
    refine wpAny_pyNext_tuple_item st (show s.heap.IsTuple a its.toArray from p) (x := u) (by simpa using hu) fun h' st' sb => ?_
    have I1 : Inv X pins σ H { s with heap := h' } := I.turned (t' := s.toks) (fun b o hb e => (sb.2 b hb).trans e) f0 f1 f3 f4 f5
    obtain ⟨o, e, c, d⟩ := id st'
    exact ⟨u, rfl, go_of (s := { s with heap := h' }) e c d (by decide) ⟨x, H, I1, ru, ⟨rfl, fun ys hy => by rw [I.tuple_inj hy hq]; exact hx⟩, st', fun b hb => (hf b hb).1⟩⟩
  done := by
    intro X hP hw hK hc i pins s σ H E I hf st hg
    subst hP hw hK
    obtain ⟨xs, hq, hx⟩ := hg
    obtain ⟨its, rv, p, hz⟩ := I.tuple hq
    obtain ⟨f0, f1, f2, f3, f4, f5⟩ := hf it (by simp)
    have hl := rv.length
    exact wpAny_pyNext_tuple_end (I.ok.hd hc) st (show s.heap.IsTuple a its.toArray from p) (by simp; omega) fun h' eb => ⟨rfl, I.turned (t' := s.toks) (fun b o hb e => eb b o hb e) f0 f1 f3 f4 f5⟩
  self := fun _ _ _ _ _ st h => wpAny_pyIter_tupleiter st h
theorem turn_range {P : Program} {w : World} {K : PySem.W.Frag} {tg : Expr} (it : Addr) (lo : Int) (n : Nat) : Turn P w K tg (Itr lo n) [it] it (fun i h => IsRangeIter h it (lo + (i : Nat) * 1) ((n : Int) - (i : Nat)) 1) where
  mem := by simp
  obj := fun i h st b hb => by
    have e : b = it := by simpa using hb
    subst e
    exact ⟨_, st, fun v z => by
      have z' : Data.fields _ = Data.cell v := z
      cases z'⟩
  keep := fun i h h' st k => k it (by simp) _ st
  item := by
    intro X hP hw hK hc i pins s σ H E I hf st hg
    subst hP hw hK
    obtain ⟨f0, f1, f2, f3, f4, f5⟩ := hf it (by simp)
    have W := Walks.range (prog := X.prog) (w := X.w) (I.ok.hd hc) it lo 1 n
    refine W.item i s _ _ hg st fun v h' tk hv st' kk => ?_
    obtain ⟨t, rfl⟩ := hv
    have I1 : Inv X pins σ H { s with heap := h', toks := tk } := I.turned (fun b o hb e => kk b o (by simpa using hb) e) f0 f1 f3 f4 f5
    refine ⟨_, rfl, go_of (s := { s with heap := h', toks := tk }) (n := "range_iterator") st' rfl rfl (by decide) ⟨.int (lo + i), H, I1, ⟨t, ?_⟩, ⟨rfl, rfl⟩, st', fun b hb => (hf b hb).1⟩⟩
    rw [Int.mul_one]
  done := by
    intro X hP hw hK hc i pins s σ H E I hf st hg
    subst hP hw hK
    obtain ⟨f0, f1, f2, f3, f4, f5⟩ := hf it (by simp)
    exact wpAny_pyNext_range_end (I.ok.hd hc) st (by have : n ≤ i := hg; omega) fun h' eb => ⟨rfl, I.turned (t' := s.toks) (fun b o hb e => eb b o hb e) f0 f1 f3 f4 f5⟩
  self := fun _ _ _ _ _ st h => wpAny_pyIter_rangeiter st h
end L2
namespace L2
open PySem PySem.Spec PyProof.Rows
section
variable {X : Cx} {tg : Expr}
noncomputable def iList (K : PySem.W.Frag) (tl : TE) : TI := fun σ H R => tl σ H fun x H1 => ∃ a, x = .ref a ∧ (∃ xs, SqL K H1 a xs) ∧ R (Itl K a) H1
noncomputable def iTup (K : PySem.W.Frag) (tl : TE) : TI := fun σ H R => tl σ H fun x H1 => ∃ a, x = .ref a ∧ (∃ xs, SqT K H1 a xs) ∧ R (Itt K a) H1
theorem pi_list {l : Expr} {tl : TE} (hl : PE X l tl) : PI X tg l (iList X.K tl) := by
  intro pins s σ H R I h
  refine thn (hl pins s σ H _ I h) fun v s1 ⟨x, H1, I1, r1, q1⟩ => ?_
  obtain ⟨a, e, ⟨xs, hq⟩, q⟩ := q1
  subst e
  cases r1
  obtain ⟨its, rv, p, hz⟩ := I1.list hq
  refine wpAny_pyIter_list p.isList ?_
  refine ⟨s1.heap.objs.size, [s1.heap.objs.size], _, _, H1, rfl, I1.kept (t' := s1.toks) fun b o e => Heap.get?_push_of_some _ e, turn_list a _, ⟨_, Heap.get?_push_size _ rfl, rfl, rfl⟩, fun b hb => ?_, q⟩
  have e : b = s1.heap.objs.size := by simpa using hb
  subst e
  exact I1.fpOk (Nat.le_refl _) (I1.hok.fresh (Nat.le_refl _))
theorem pi_tup {l : Expr} {tl : TE} (hl : PE X l tl) : PI X tg l (iTup X.K tl) := by
  intro pins s σ H R I h
  refine thn (hl pins s σ H _ I h) fun v s1 ⟨x, H1, I1, r1, q1⟩ => ?_
  obtain ⟨a, e, ⟨xs, hq⟩, q⟩ := q1
  subst e
  cases r1
  obtain ⟨its, rv, p, hz⟩ := I1.tuple hq
  refine wpAny_pyIter_tuple (show s1.heap.IsTuple a its.toArray from p) ?_
  refine ⟨s1.heap.objs.size, [s1.heap.objs.size], _, _, H1, rfl, I1.kept (t' := s1.toks) fun b o e => Heap.get?_push_of_some _ e, turn_tuple a _, ⟨_, Heap.get?_push_size _ rfl, rfl, rfl⟩, fun b hb => ?_, q⟩
  have e : b = s1.heap.objs.size := by simpa using hb
  subst e
  exact I1.fpOk (Nat.le_refl _) (I1.hok.fresh (Nat.le_refl _))
theorem range_it {pins : List (Addr × Obj)} {σ : St} {H : Hp} {s : Shared} {R : It → Hp → Prop} {E : Value → Shared → Prop} {lo hi : Int} {t u v : Tok} {tk : Nat} (I : Inv X pins σ H s) (h1 : -(2 ^ 62) ≤ lo) (h2 : lo < 2 ^ 62) (h3 : -(2 ^ 62) ≤ hi) (h4 : hi < 2 ^ 62)
    (q : R (Itr lo (hi - lo).toNat) H) : wpAny (model X.prog X.w) X.A (pyIter (.ref s.heap.objs.size)) (PIE X pins σ tg R) E { s with heap := s.heap.push { cls := .type "range", data := .fields #[.int lo t, .int hi u, .int 1 v] }, toks := tk } := by
  refine wpAny_pyIter_range (IsRange.new ..) (small_one h1 h2 h3 h4) ?_
  have I1 : Inv X pins σ H { s with heap := s.heap.push { cls := .type "range", data := .fields #[.int lo t, .int hi u, .int 1 v] }, toks := tk } := I.kept fun b o e => Heap.get?_push_of_some _ e
  refine ⟨(s.heap.push { cls := .type "range", data := .fields #[.int lo t, .int hi u, .int 1 v] }).objs.size, [(s.heap.push { cls := .type "range", data := .fields #[.int lo t, .int hi u, .int 1 v] }).objs.size], _, _, H, rfl,
    I1.kept (t' := tk) fun b o e => Heap.get?_push_of_some _ e, turn_range _ lo (hi - lo).toNat, ?_, fun b hb => ?_, q⟩
  · have e1 : lo + ((0 : Nat) : Int) * 1 = lo := by simp
    have e2 : (((hi - lo).toNat : Nat) : Int) - ((0 : Nat) : Int) = Builtin.Range.rangeSize lo hi 1 := by rw [rangeSize_one]; split <;> omega
    show IsRangeIter _ _ (lo + ((0 : Nat) : Int) * 1) ((((hi - lo).toNat : Nat) : Int) - ((0 : Nat) : Int)) 1
    rw [e1, e2]
    exact Heap.get?_push_size _ rfl
  · have e : b = (s.heap.push { cls := .type "range", data := .fields #[.int lo t, .int hi u, .int 1 v] }).objs.size := by simpa using hb
    subst e
    exact I1.fpOk (Nat.le_refl _) (I1.hok.fresh (Nat.le_refl _))
noncomputable def iRng1 (ta : TA) : TI := fun σ H R => ta σ H fun vs H1 => ∃ j : Int, vs = [.int j] ∧ -(2 ^ 62) ≤ j ∧ j < 2 ^ 62 ∧ R (Itr 0 j.toNat) H1
theorem pi_range1 {a : Expr} {ta : TA} {p pos : Pos} (hg : Gl X "range") (hm : X.mg "range" = none) (ha : PA X [a] ta) (hs : starEach [a] X.env = [(false, eval a X.env)] := by rfl) : PI X tg (.Call (.Name "range" p) [a] [] pos) (iRng1 ta) := by
  intro pins s σ H R I h
  refine Call_ (ld_blt I hg hm boot_range (PyProof.Rows.callWith_type1 (thn (ha pos pins s σ H _ I h) fun us s1 ⟨vs, H1, I1, r1, q1⟩ => ?_) hs rfl))
  obtain ⟨j, e, q1, q2, q⟩ := q1
  subst e
  cases r1 with
  | cons r rr =>
    cases rr
    obtain ⟨t, rfl⟩ := r
    exact call_range_1 (range_it I1 (by omega) (by omega) q1 q2 (by simpa using q))
noncomputable def tFor (wi : TI) (g : TG) (tb : TS) : TS := fun D σ H => wi σ H fun J H1 => ∃ W : Nat → Nat → St → Hp → Prop, (∃ m, W 0 m σ H1) ∧ ∀ i m σ H, W i m σ H →
  (J.stop i H ∧ D.nx σ H) ∨ (J.go i H ∧ ∃ N : St → Hp → Prop, (∀ σ' H', N σ' H' → ∃ m', m' < m ∧ W (i + 1) m' σ' H') ∧ ∀ x H', J.yld i H x H' → g x σ H' fun σ2 H2 => tb { D with nx := N, ct := N, bk := D.nx } σ2 H2)
noncomputable def pinsAt (fp : List Addr) (h : Heap) : List (Addr × Obj) := fp.filterMap fun b => (h.get? b).map fun o => (b, o)
theorem mem_pinsAt {fp : List Addr} {h : Heap} {b : Addr} {o : Obj} (hb : b ∈ fp) (e : h.get? b = some o) : (b, o) ∈ pinsAt fp h := List.mem_filterMap.mpr ⟨b, hb, by rw [e]; rfl⟩
theorem of_pinsAt {fp : List Addr} {h : Heap} {p : Addr × Obj} (hp : p ∈ pinsAt fp h) : p.1 ∈ fp ∧ h.get? p.1 = some p.2 := by
  obtain ⟨b, hb, e⟩ := List.mem_filterMap.mp hp
  cases q : h.get? b with
  | none => rw [q] at e; cases e
  | some o =>
    rw [q] at e
    have e' : (b, o) = p := Option.some.inj e
    subst e'
    exact ⟨hb, q⟩
theorem Inv.pinned {pins : List (Addr × Obj)} {σ : St} {H : Hp} {s : Shared} {fp : List Addr} (I : Inv X pins σ H s) (hf : ∀ b ∈ fp, FpOk X pins H b) (ho : ∀ b ∈ fp, ∃ o, s.heap.get? b = some o ∧ ∀ v, o.data ≠ .cell v) : Inv X (pins ++ pinsAt fp s.heap) σ H s :=
  I.pins_of fun p hp => (List.mem_append.mp hp).elim (fun z => I.pin p (List.mem_append_right _ z)) fun z => by
    obtain ⟨hb, e⟩ := of_pinsAt z
    obtain ⟨f0, f1, f2, _⟩ := hf p.1 hb
    obtain ⟨o, e', d⟩ := ho p.1 hb
    rw [e] at e'; cases e'
    exact ⟨e, f0, f1, f2, d⟩
theorem Inv.unpinned {pins pl : List (Addr × Obj)} {σ : St} {H : Hp} {s : Shared} (I : Inv X (pins ++ pl) σ H s) : Inv X pins σ H s := I.pins_of fun p hp => I.pin p (List.mem_append_right _ (List.mem_append_left _ hp))
theorem ps_for {iter : Expr} {body : List Stmt} {wi : TI} {g : TG} {tb : TS} {pos : Pos} (hp : PassesOwn (model X.prog X.w) X.A X.env X.xe) (hc : X.calm = true) (hi : PI X tg iter wi) (hg : PG X tg g) (hb : PSs X body tb)
    (hs : ∀ x, foldedSetIterable iter X.env x = pure x := by intro _; rfl) : PS X (.For tg iter body [] pos) (tFor wi g tb) := by
  intro pins s σ H D I h
  refine wpAny_For (thn (hi pins s σ H _ I h) fun v s1 h1 => thn h1 fun itv s2 h2 => ?_) hs
  obtain ⟨it, fp, tn, J, H2, e, I2, T, st2, f2, W, ⟨m0, w0⟩, turn⟩ := h2
  subst e
  have stat : ∀ {H' : Hp}, (∀ b ∈ fp, H' b = none) → ∀ b ∈ fp, FpOk X pins H' b := fun hn b hb => ⟨hn b hb, (f2 b hb).2⟩
  refine codeAny_forLoop_any (fun n s' => ∃ i σ' H', Inv X pins σ' H' s' ∧ tn i s'.heap ∧ (∀ b ∈ fp, H' b = none) ∧ W i n σ' H') ?_ m0 ⟨0, σ, H2, I2, st2, fun b hb => (f2 b hb).1, w0⟩
  rintro n s3 ⟨i, σ3, H3, I3, st3, fr3, w3⟩
  rcases turn i n σ3 H3 w3 with ⟨stop, qn⟩ | ⟨go, N, hN, step⟩
  · refine wpAny_passesOwn hp (thn (T.done X rfl rfl rfl hc i pins s3 σ3 H3 X.xe I3 (stat fr3) st3 stop) fun r s4 ⟨hr, I4⟩ => ?_)
    subst hr
    exact wpAny_execs_nil ⟨σ3, H3, I4, qn⟩
  · refine wpAny_passesOwn hp (thn (T.item X rfl rfl rfl hc i pins s3 σ3 H3 X.xe I3 (stat fr3) st3 go) fun r s4 ⟨u, hr, h4⟩ => ?_)
    subst hr
    refine wpAny_passesOwn hp (thn h4 fun _ s5 ⟨x, H5, I5, r5, y5, st5, fr5⟩ => ?_)
    have I5' := I5.pinned (stat fr5) (T.obj _ _ st5)
    refine wpAny_passesOwn hp (thn (hg _ s5 σ3 H5 x u _ I5' r5 (step x H5 y5)) fun _ s6 ⟨σ6, H6, I6, q6⟩ => ?_)
    refine wpAny_passesOwn hp (thn (hb _ s6 σ6 H6 _ I6 q6) fun f s7 q7 => ?_)
    have again : ∀ {σ7 : St} {H7 : Hp}, Inv X (pins ++ pinsAt fp s5.heap) σ7 H7 s7 → N σ7 H7 → ∃ m, m < n ∧ ∃ i σ' H', Inv X pins σ' H' s7 ∧ tn i s7.heap ∧ (∀ b ∈ fp, H' b = none) ∧ W i m σ' H' := fun {σ7 H7} I7 n7 => by
      obtain ⟨m', hm, w7⟩ := hN σ7 H7 n7
      refine ⟨m', hm, i + 1, σ7, H7, I7.unpinned, T.keep _ _ _ st5 fun b hb o e => (I7.pin (b, o) (List.mem_append_right _ (List.mem_append_right _ (mem_pinsAt hb e)))).1, fun b hb => ?_, w7⟩
      obtain ⟨o, e, d⟩ := T.obj _ _ st5 b hb
      exact (I7.pin (b, o) (List.mem_append_right _ (List.mem_append_right _ (mem_pinsAt hb e)))).2.1
    cases f with
    | next => obtain ⟨σ7, H7, I7, n7⟩ := q7; exact again I7 n7
    | cont => obtain ⟨σ7, H7, I7, n7⟩ := q7; exact again I7 n7
    | brk => obtain ⟨σ7, H7, I7, q7⟩ := q7; exact ⟨σ7, H7, I7.unpinned, q7⟩
    | ret v => obtain ⟨x7, σ7, H7, I7, r7, q7⟩ := q7; exact ⟨x7, σ7, H7, I7.unpinned, r7, q7⟩
end
theorem for_list {K : PySem.W.Frag} {a : Addr} {xs : List V} {g : TG} {tb : TS} {D : Ends} {σ : St} {H : Hp} (Pv : Nat → St → Hp → Prop) (h0 : Pv 0 σ H) (hl : ∀ i σ H, i ≤ xs.length → Pv i σ H → SqL K H a xs)
    (hs : ∀ i x σ H, xs[i]? = some x → Pv i σ H → g x σ H fun σ2 H2 => tb { D with nx := Pv (i + 1), ct := Pv (i + 1), bk := D.nx } σ2 H2) (hd : ∀ σ H, Pv xs.length σ H → D.nx σ H) :
    ∃ W : Nat → Nat → St → Hp → Prop, (∃ m, W 0 m σ H) ∧ ∀ i m σ H, W i m σ H →
      ((Itl K a).stop i H ∧ D.nx σ H) ∨ ((Itl K a).go i H ∧ ∃ N : St → Hp → Prop, (∀ σ' H', N σ' H' → ∃ m', m' < m ∧ W (i + 1) m' σ' H') ∧ ∀ x H', (Itl K a).yld i H x H' → g x σ H' fun σ2 H2 => tb { D with nx := N, ct := N, bk := D.nx } σ2 H2) := by
  refine ⟨fun i m σ H => m = xs.length - i ∧ i ≤ xs.length ∧ Pv i σ H, ⟨xs.length, by simp, Nat.zero_le _, h0⟩, ?_⟩
  rintro i m σ H ⟨rfl, hi, p⟩
  have q := hl i σ H hi p
  by_cases hlt : i < xs.length
  · refine .inr ⟨⟨xs, xs[i], q, by simp [hlt]⟩, Pv (i + 1), fun σ' H' p' => ⟨xs.length - (i + 1), by omega, rfl, hlt, p'⟩, fun x H' y => ?_⟩
    obtain ⟨e, y⟩ := y
    subst e
    exact hs i x σ _ (y xs q) p
  · have e : i = xs.length := by omega
    subst e
    exact .inl ⟨⟨xs, q, Nat.le_refl _⟩, hd σ H p⟩
theorem for_range {lo : Int} {n : Nat} {g : TG} {tb : TS} {D : Ends} {σ : St} {H : Hp} (Pv : Nat → St → Hp → Prop) (h0 : Pv 0 σ H)
    (hs : ∀ i σ H, i < n → Pv i σ H → g (.int (lo + i)) σ H fun σ2 H2 => tb { D with nx := Pv (i + 1), ct := Pv (i + 1), bk := D.nx } σ2 H2) (hd : ∀ σ H, Pv n σ H → D.nx σ H) :
    ∃ W : Nat → Nat → St → Hp → Prop, (∃ m, W 0 m σ H) ∧ ∀ i m σ H, W i m σ H →
      ((Itr lo n).stop i H ∧ D.nx σ H) ∨ ((Itr lo n).go i H ∧ ∃ N : St → Hp → Prop, (∀ σ' H', N σ' H' → ∃ m', m' < m ∧ W (i + 1) m' σ' H') ∧ ∀ x H', (Itr lo n).yld i H x H' → g x σ H' fun σ2 H2 => tb { D with nx := N, ct := N, bk := D.nx } σ2 H2) := by
  refine ⟨fun i m σ H => m = n - i ∧ i ≤ n ∧ Pv i σ H, ⟨n, by simp, Nat.zero_le _, h0⟩, ?_⟩
  rintro i m σ H ⟨rfl, hi, p⟩
  by_cases hlt : i < n
  · refine .inr ⟨hlt, Pv (i + 1), fun σ' H' p' => ⟨n - (i + 1), by omega, rfl, hlt, p'⟩, fun x H' y => ?_⟩
    obtain ⟨e, y⟩ := y
    subst e y
    exact hs i σ _ hlt p
  · have e : i = n := by omega
    subst e
    exact .inl ⟨Nat.le_refl _, hd σ H p⟩
theorem while_by {c : TT} {tb : TS} {D : Ends} {σ : St} {H : Hp} (Pv : St → Hp → Prop) (μ : St → Hp → Nat) (h0 : Pv σ H)
    (hs : ∀ σ H, Pv σ H → c σ H fun b H1 => if b = true then tb { D with nx := fun σ' H' => Pv σ' H' ∧ μ σ' H' < μ σ H, ct := fun σ' H' => Pv σ' H' ∧ μ σ' H' < μ σ H, bk := D.nx } σ H1 else D.nx σ H1)
    (mono : ∀ σ H Q Q', (∀ b H1, Q b H1 → Q' b H1) → c σ H Q → c σ H Q') : tWhile c tb D σ H := by
  refine ⟨fun m σ H => m = μ σ H ∧ Pv σ H, ⟨_, rfl, h0⟩, ?_⟩
  rintro m σ H ⟨rfl, p⟩
  refine mono σ H _ _ (fun b H1 q => ?_) (hs σ H p)
  cases b with
  | true => exact ⟨_, fun σ' H' ⟨p', l⟩ => ⟨_, l, rfl, p'⟩, q⟩
  | false => exact q
end L2
namespace L2
open PySem PySem.Spec PyProof.Rows
noncomputable abbrev R2 := V → V → Hp → VK → Prop
noncomputable def OpR (X : Cx) (f : Value → Value → Sem Value) (r : R2) : Prop :=
  ∀ (pins : List (Addr × Obj)) (s : Shared) (σ : St) (H : Hp) (x y : V) (v u : Value) (Q : VK), Inv X pins σ H s → RelV x v → RelV y u → r x y H Q →
    wpAny (model X.prog X.w) X.A (f v u) (EP X pins σ Q) X.xe s
noncomputable def UnR (X : Cx) (f : Value → Sem Value) (r : V → Hp → VK → Prop) : Prop :=
  ∀ (pins : List (Addr × Obj)) (s : Shared) (σ : St) (H : Hp) (x : V) (v : Value) (Q : VK), Inv X pins σ H s → RelV x v → r x H Q →
    wpAny (model X.prog X.w) X.A (f v) (EP X pins σ Q) X.xe s
noncomputable def CallR (X : Cx) (f : Value) (r : List V → Hp → VK → Prop) : Prop :=
  ∀ (pins : List (Addr × Obj)) (s : Shared) (σ : St) (H : Hp) (xs : List V) (us : List Value) (Q : VK), Inv X pins σ H s → Vals xs us → r xs H Q →
    wpAny (model X.prog X.w) X.A (call f us) (EP X pins σ Q) X.xe s
noncomputable def tOp (r : R2) (ta tb : TE) : TE := fun σ H Q => ta σ H fun x H1 => tb σ H1 fun y H2 => r x y H2 Q
noncomputable def tUn (r : V → Hp → VK → Prop) (ta : TE) : TE := fun σ H Q => ta σ H fun x H1 => r x H1 Q
noncomputable def rI (C : Int → Int → Prop) (g : Int → Int → V) : R2 := fun x y H Q => ∃ i j, x = .int i ∧ y = .int j ∧ C i j ∧ Q (g i j) H
noncomputable def rI0 (g : Int → Int → V) : R2 := fun x y H Q => ∃ i j, x = .int i ∧ y = .int j ∧ Q (g i j) H
noncomputable def rU (g : Int → V) : V → Hp → VK → Prop := fun x H Q => ∃ i, x = .int i ∧ Q (g i) H
section
variable {X : Cx} {a b c : Expr} {ta tb tc : TE} {pos : Pos}
theorem binT (ha : PE X a ta) (hb : PE X b tb) {pins : List (Addr × Obj)} {s : Shared} {σ : St} {H : Hp} {R : V → V → Hp → Prop} (I : Inv X pins σ H s)
    (h : ta σ H fun x H1 => tb σ H1 fun y H2 => R x y H2) {Q : Value → Shared → Prop} {f : Value → Value → Sem Value}
    (hf : ∀ v u s2 x y H2, Inv X pins σ H2 s2 → RelV x v → RelV y u → R x y H2 → wpAny (model X.prog X.w) X.A (f v u) Q X.xe s2) :
    wpAny (model X.prog X.w) X.A (eval a X.env) (fun v s₁ => wpAny (model X.prog X.w) X.A (eval b X.env) (fun u s₂ => wpAny (model X.prog X.w) X.A (f v u) Q X.xe s₂) X.xe s₁) X.xe s := by
  refine thn (ha pins s σ H _ I h) fun v s1 ⟨x, H1, I1, r1, q1⟩ => ?_
  refine thn (hb pins s1 σ H1 _ I1 q1) fun u s2 ⟨y, H2, I2, r2, q2⟩ => ?_
  exact hf v u s2 x y H2 I2 r1 r2 q2
theorem pe_op {op : Operator} {r : R2} (ho : OpR X (binaryOp op) r) (ha : PE X a ta) (hb : PE X b tb) : PE X (.BinOp a op b pos) (tOp r ta tb) := by
  intro pins s σ H Q I h
  exact wpAny_BinOp (binT ha hb I h fun v u s2 x y H2 I2 rx ry q => ho pins s2 σ H2 x y v u Q I2 rx ry q)
theorem pe_un {op : UnaryOp} {r : V → Hp → VK → Prop} (ho : UnR X (unaryOp op) r) (ha : PE X a ta) : PE X (.UnaryOp op a pos) (tUn r ta) := by
  intro pins s σ H Q I h
  exact UnaryOp_ (thn (ha pins s σ H _ I h) fun v s1 ⟨x, H1, I1, r1, q1⟩ => ho pins s1 σ H1 x v Q I1 r1 q1)
theorem opI {f : Value → Value → Sem Value} {C : Int → Int → Prop} {g : Int → Int → Int}
    (rule : ∀ (i j : Int) (t u : Tok) (s : Shared) (Q : Value → Shared → Prop) (E : Value → Shared → Prop), C i j → Q (.int (g i j) s.toks) { s with toks := s.toks + 1 } → wpAny (model X.prog X.w) X.A (f (.int i t) (.int j u)) Q E s) :
    OpR X f (rI C fun i j => .int (g i j)) := by
  intro pins s σ H x y v u Q I rx ry h
  obtain ⟨i, j, rfl, rfl, hc, q⟩ := h
  obtain ⟨t, rfl⟩ := rx
  obtain ⟨t', rfl⟩ := ry
  exact rule i j t t' s _ _ hc ⟨.int (g i j), H, I.tok _, ⟨_, rfl⟩, q⟩
theorem opI0 {f : Value → Value → Sem Value} {g : Int → Int → Int}
    (rule : ∀ (i j : Int) (t u : Tok) (s : Shared) (Q : Value → Shared → Prop) (E : Value → Shared → Prop), Q (.int (g i j) s.toks) { s with toks := s.toks + 1 } → wpAny (model X.prog X.w) X.A (f (.int i t) (.int j u)) Q E s) :
    OpR X f (rI0 fun i j => .int (g i j)) := by
  intro pins s σ H x y v u Q I rx ry h
  obtain ⟨i, j, rfl, rfl, q⟩ := h
  obtain ⟨t, rfl⟩ := rx
  obtain ⟨t', rfl⟩ := ry
  exact rule i j t t' s _ _ ⟨.int (g i j), H, I.tok _, ⟨_, rfl⟩, q⟩
theorem opB0 {f : Value → Value → Sem Value} {g : Int → Int → Bool}
    (rule : ∀ (i j : Int) (t u : Tok) (s : Shared) (Q : Value → Shared → Prop) (E : Value → Shared → Prop), Q (.bool (g i j)) s → wpAny (model X.prog X.w) X.A (f (.int i t) (.int j u)) Q E s) :
    OpR X f (rI0 fun i j => .bl (g i j)) := by
  intro pins s σ H x y v u Q I rx ry h
  obtain ⟨i, j, rfl, rfl, q⟩ := h
  obtain ⟨t, rfl⟩ := rx
  obtain ⟨t', rfl⟩ := ry
  exact rule i j t t' s _ _ ⟨.bl (g i j), H, I, rfl, q⟩
noncomputable def CDiv (i j : Int) : Prop := 0 < j ∧ j < 1073741824
noncomputable def CPow (i j : Int) : Prop := 0 ≤ j ∧ j ≤ 1000000 ∧ i.natAbs < 2 ^ 64
noncomputable def CMul (i j : Int) : Prop := (-(2 ^ 64) < i ∧ i < 2 ^ 64) ∨ (-(2 ^ 64) < j ∧ j < 2 ^ 64)
theorem CMul.ok {i j : Int} (h : CMul i j) : IntMulOk i j := by
  rcases h with ⟨h1, h2⟩ | ⟨h1, h2⟩
  · exact .of_left (intBits_le_64 h1 h2)
  · exact .of_right (intBits_le_64 h1 h2)
theorem op_add : OpR X (binaryOp .Add) (rI0 fun i j => .int (i + j)) := opI0 fun _ _ _ _ _ _ _ q => add_int q
theorem op_sub : OpR X (binaryOp .Sub) (rI0 fun i j => .int (i - j)) := opI0 fun _ _ _ _ _ _ _ q => sub_int q
theorem op_mul : OpR X (binaryOp .Mult) (rI CMul fun i j => .int (i * j)) := opI fun _ _ _ _ _ _ _ hc q => mul_int q hc.ok
theorem op_fdiv : OpR X (binaryOp .FloorDiv) (rI CDiv fun i j => .int (i / j)) := opI fun i j _ _ _ _ _ hc q => by
  have h1 : (0 : Int) < j := hc.1
  have h2 : j < 1073741824 := hc.2
  exact floordiv_int (by omega) (by rw [Int.fdiv_eq_ediv_of_nonneg i (by omega)]; exact q) (.inl (PyProof.noPylong_small (by omega)))
theorem op_mod : OpR X (binaryOp .Mod) (rI (fun _ j => 0 < j) fun i j => .int (i % j)) := opI fun i j _ _ _ _ _ hc q => by
  have h1 : (0 : Int) < j := hc
  exact mod_int' (by omega) (by rw [Int.fmod_eq_emod_of_nonneg i (by omega)]; exact q)
theorem op_pow : OpR X (binaryOp .Pow) (rI CPow fun i j => .int (i ^ j.toNat)) := opI fun _ _ _ _ _ _ _ hc q => pow_int_small hc.1 hc.2.1 hc.2.2 q
theorem unI {f : Value → Sem Value} {g : Int → Int}
    (rule : ∀ (i : Int) (t : Tok) (s : Shared) (Q : Value → Shared → Prop) (E : Value → Shared → Prop), Q (.int (g i) s.toks) { s with toks := s.toks + 1 } → wpAny (model X.prog X.w) X.A (f (.int i t)) Q E s) :
    UnR X f (rU fun i => .int (g i)) := by
  intro pins s σ H x v Q I rx h
  obtain ⟨i, rfl, q⟩ := h
  obtain ⟨t, rfl⟩ := rx
  exact rule i t s _ _ ⟨.int (g i), H, I.tok _, ⟨_, rfl⟩, q⟩
theorem un_neg : UnR X (unaryOp .USub) (rU fun i => .int (-i)) := unI fun _ _ _ _ _ q => neg_int q
end
noncomputable def scal : V → V → Bool
  | .non, .non => true | .non, .int _ => true | .int _, .non => true | .non, .bl _ => true | .bl _, .non => true | .non, .str _ => true | .str _, .non => true
  | .int _, .int _ => true | .bl _, .bl _ => true | .str _, .str _ => true | .byt _, .byt _ => true
  | .int _, .str _ => true | .str _, .int _ => true | .bl _, .str _ => true | .str _, .bl _ => true
  | _, _ => false
noncomputable def rEq : R2 := fun x y H Q => scal x y = true ∧ Q (.bl (decide (x = y))) H
noncomputable def rNe : R2 := fun x y H Q => scal x y = true ∧ Q (.bl (!decide (x = y))) H
theorem dec_int {i j : Int} : decide (V.int i = V.int j) = (i == j) := by
  rw [Bool.eq_iff_iff]
  simp
theorem dec_bl {i j : Bool} : decide (V.bl i = V.bl j) = (i == j) := by
  rw [Bool.eq_iff_iff]
  simp
theorem dec_str {i j : Str} : decide (V.str i = V.str j) = (i == j) := by
  rw [Bool.eq_iff_iff]
  simp
theorem dec_byt {i j : Array UInt8} : decide (V.byt i = V.byt j) = (i.toList == j.toList) := by
  rw [Bool.eq_iff_iff]
  cases i
  cases j
  simp
section
variable {X : Cx} {a b c : Expr} {ta tb tc : TE} {pos : Pos}
theorem fin_bl {pins : List (Addr × Obj)} {σ : St} {H : Hp} {s : Shared} {Q : VK} {k k' : Bool} (I : Inv X pins σ H s) (q : Q (.bl k) H) (e : k = k') : EP X pins σ Q (.bool k') s := by
  subst e
  exact ⟨.bl k, H, I, rfl, q⟩
theorem op_eq : OpR X (compareOp .Eq) rEq := by
  intro pins s σ H x y v u Q I rx ry h
  obtain ⟨hs, q⟩ := h
  cases x with
  | non =>
    cases rx
    cases y with
    | non => cases ry; exact PySem.EqNone.eq_none_none (fin_bl I q (by simp))
    | bl j => cases ry; exact PySem.EqNone.eq_none_bool (fin_bl I q (by simp))
    | int j => obtain ⟨t', rfl⟩ := ry; exact PySem.EqNone.eq_none_int (fin_bl I q (by simp))
    | str j => obtain ⟨t', rfl⟩ := ry; exact PySem.EqNone.eq_none_str (fin_bl I q (by simp))
    | _ => exact absurd (show false = true from hs) Bool.false_ne_true
  | bl i =>
    cases rx
    cases y with
    | non => cases ry; exact PySem.EqNone.eq_bool_none (fin_bl I q (by simp))
    | bl j => cases ry; exact eq_bool (fin_bl I q dec_bl)
    | str j => obtain ⟨t', rfl⟩ := ry; exact PySem.EqMixed.eq_bool_str (fin_bl I q (by simp))
    | _ => exact absurd (show false = true from hs) Bool.false_ne_true
  | int i =>
    obtain ⟨t, rfl⟩ := rx
    cases y with
    | non => cases ry; exact PySem.EqNone.eq_int_none (fin_bl I q (by simp))
    | int j => obtain ⟨t', rfl⟩ := ry; exact eq_int (fin_bl I q dec_int)
    | str j => obtain ⟨t', rfl⟩ := ry; exact PySem.EqMixed.eq_int_str (fin_bl I q (by simp))
    | _ => exact absurd (show false = true from hs) Bool.false_ne_true
  | str i =>
    obtain ⟨t, rfl⟩ := rx
    cases y with
    | non => cases ry; exact PySem.EqNone.eq_str_none (fin_bl I q (by simp))
    | bl j => cases ry; exact PySem.EqMixed.eq_str_bool (fin_bl I q (by simp))
    | int j => obtain ⟨t', rfl⟩ := ry; exact PySem.EqMixed.eq_str_int (fin_bl I q (by simp))
    | str j => obtain ⟨t', rfl⟩ := ry; exact eq_str (fin_bl I q dec_str)
    | _ => exact absurd (show false = true from hs) Bool.false_ne_true
  | byt i =>
    obtain ⟨t, rfl⟩ := rx
    cases y with
    | byt j => obtain ⟨t', rfl⟩ := ry; exact PySem.W.eq_bytes (fin_bl I q dec_byt)
    | _ => exact absurd (show false = true from hs) Bool.false_ne_true
  | _ => cases y <;> exact absurd (show false = true from hs) Bool.false_ne_true
theorem op_ne : OpR X (compareOp .NotEq) rNe := by
  intro pins s σ H x y v u Q I rx ry h
  obtain ⟨hs, q⟩ := h
  cases x with
  | non =>
    cases rx
    cases y with
    | non => cases ry; exact PySem.EqNone.ne_none_none (fin_bl I q (by simp))
    | bl j => cases ry; exact PySem.EqNone.ne_none_bool (fin_bl I q (by simp))
    | int j => obtain ⟨t', rfl⟩ := ry; exact PySem.EqNone.ne_none_int (fin_bl I q (by simp))
    | str j => obtain ⟨t', rfl⟩ := ry; exact PySem.EqNone.ne_none_str (fin_bl I q (by simp))
    | _ => exact absurd (show false = true from hs) Bool.false_ne_true
  | bl i =>
    cases rx
    cases y with
    | non => cases ry; exact PySem.EqNone.ne_bool_none (fin_bl I q (by simp))
    | bl j => cases ry; exact ne_bool (fin_bl I q (congrArg not dec_bl))
    | str j => obtain ⟨t', rfl⟩ := ry; exact PySem.EqMixed.ne_bool_str (fin_bl I q (by simp))
    | _ => exact absurd (show false = true from hs) Bool.false_ne_true
  | int i =>
    obtain ⟨t, rfl⟩ := rx
    cases y with
    | non => cases ry; exact PySem.EqNone.ne_int_none (fin_bl I q (by simp))
    | int j => obtain ⟨t', rfl⟩ := ry; exact ne_int (fin_bl I q (congrArg not dec_int))
    | str j => obtain ⟨t', rfl⟩ := ry; exact PySem.EqMixed.ne_int_str (fin_bl I q (by simp))
    | _ => exact absurd (show false = true from hs) Bool.false_ne_true
  | str i =>
    obtain ⟨t, rfl⟩ := rx
    cases y with
    | non => cases ry; exact PySem.EqNone.ne_str_none (fin_bl I q (by simp))
    | bl j => cases ry; exact PySem.EqMixed.ne_str_bool (fin_bl I q (by simp))
    | int j => obtain ⟨t', rfl⟩ := ry; exact PySem.EqMixed.ne_str_int (fin_bl I q (by simp))
    | str j => obtain ⟨t', rfl⟩ := ry; exact ne_str (fin_bl I q (congrArg not dec_str))
    | _ => exact absurd (show false = true from hs) Bool.false_ne_true
  | byt i =>
    obtain ⟨t, rfl⟩ := rx
    cases y with
    | byt j => obtain ⟨t', rfl⟩ := ry; exact PySem.W.ne_bytes (fin_bl I q (congrArg not dec_byt))
    | _ => exact absurd (show false = true from hs) Bool.false_ne_true
  | _ => cases y <;> exact absurd (show false = true from hs) Bool.false_ne_true
theorem op_lt : OpR X (compareOp .Lt) (rI0 fun i j => .bl (decide (i < j))) := opB0 fun _ _ _ _ _ _ _ q => lt_int q
theorem op_le : OpR X (compareOp .LtE) (rI0 fun i j => .bl (decide (i ≤ j))) := opB0 fun _ _ _ _ _ _ _ q => le_int q
theorem op_gt : OpR X (compareOp .Gt) (rI0 fun i j => .bl (decide (j < i))) := opB0 fun _ _ _ _ _ _ _ q => gt_int q
theorem op_isN : OpR X (compareOp .Is) (fun x y H Q => y = .non ∧ Q (.bl (decide (x = .non))) H) := by
  intro pins s σ H x y v u Q I rx ry h
  obtain ⟨rfl, q⟩ := h
  cases ry
  refine is_none_gen (fin_bl I q ?_)
  cases x <;> first
    | (cases rx; rfl)
    | (obtain ⟨t, rfl⟩ := rx; rfl)
theorem op_notN : OpR X (compareOp .IsNot) (fun x y H Q => y = .non ∧ Q (.bl (!decide (x = .non))) H) := by
  intro pins s σ H x y v u Q I rx ry h
  obtain ⟨rfl, q⟩ := h
  cases ry
  refine isnot_none_gen (fin_bl I q ?_)
  cases x <;> first
    | (cases rx; rfl)
    | (obtain ⟨t, rfl⟩ := rx; rfl)
theorem OpR.or {f : Value → Value → Sem Value} {r r' : R2} (h : OpR X f r) (h' : OpR X f r') : OpR X f (fun x y H Q => r x y H Q ∨ r' x y H Q) := by
  intro pins s σ H x y v u Q I rx ry q
  rcases q with q | q
  · exact h pins s σ H x y v u Q I rx ry q
  · exact h' pins s σ H x y v u Q I rx ry q
theorem nomark (b : Expr) {op : CmpOp} (h : op ≠ .In := by decide) (h2 : op ≠ .NotIn := by decide) : behindInMarks op b = false := by
  have e1 : (op == CmpOp.In) = false := by cases op <;> first | rfl | exact absurd rfl h
  have e2 : (op == CmpOp.NotIn) = false := by cases op <;> first | rfl | exact absurd rfl h2
  cases b <;> simp [behindInMarks, e1, e2]
theorem pe_cmpR {op : CmpOp} {r : R2} (ho : OpR X (compareOp op) r) (ha : PE X a ta) (hb : PE X b tb) (hm : behindInMarks op b = false) : PE X (.Compare a [op] [b] pos) (tOp r ta tb) := by
  intro pins s σ H Q I h
  exact wpAny_Compare1 (binT ha hb I h fun v u s2 x y H2 I2 rx ry q => ho pins s2 σ H2 x y v u Q I2 rx ry q) hm
noncomputable def tTest (t : TE) : TT := fun σ H Q => t σ H fun x H' => ∃ k, x = .bl k ∧ Q k H'
theorem pt_cmpR {op : CmpOp} {r : R2} (ho : OpR X (compareOp op) r) (ha : PE X a ta) (hb : PE X b tb) (hm : behindInMarks op b = false) : PT X (.Compare a [op] [b] pos) (tTest (tOp r ta tb)) := by
  intro pins s σ H Q I h
  refine wpAny_isTrue_Compare1 (thn (ha pins s σ H _ I h) fun v s1 ⟨x, H1, I1, r1, q1⟩ => thn (hb pins s1 σ H1 _ I1 q1) fun u s2 ⟨y, H2, I2, r2, q2⟩ =>
    thn (ho pins s2 σ H2 x y v u _ I2 r1 r2 q2) fun c s3 ⟨z, H3, I3, r3, k, e, q3⟩ => ?_) hm
  subst e
  cases r3
  exact wpAny_truthy_bool ⟨H3, I3, q3⟩
noncomputable def tChain (r r' : R2) (ta tb tc : TE) : TE := fun σ H Q => ta σ H fun x H1 => tb σ H1 fun y H2 => r x y H2 fun z H3 => ∃ k, z = .bl k ∧
  (if k = true then tc σ H3 fun w' H4 => r' y w' H4 Q else Q (.bl false) H3)
theorem pt_chain {op op' : CmpOp} {r r' : R2} (ho : OpR X (compareOp op) r) (ho' : OpR X (compareOp op') r') (ha : PE X a ta) (hb : PE X b tb) (hc : PE X c tc)
    (hm : lastMarks [op, op'] [b, c] = false := by with_unfolding_all rfl) : PT X (.Compare a [op, op'] [b, c] pos) (tTest (tChain r r' ta tb tc)) := by
  intro pins s σ H Q I h
  refine isTrue_chain (thn (ha pins s σ H _ I h) fun v s1 ⟨x, H1, I1, r1, q1⟩ => test_link (thn (hb pins s1 σ H1 _ I1 q1) fun u s2 ⟨y, H2, I2, r2, q2⟩ =>
    thn (ho pins s2 σ H2 x y v u _ I2 r1 r2 q2) fun d s3 ⟨z, H3, I3, r3, k, e, q3⟩ => ?_)) hm
  subst e
  cases r3
  refine wpAny_truthy_bool ?_
  cases k with
  | false =>
    obtain ⟨k', e', q'⟩ := q3
    cases e'
    exact ite_ff ⟨H3, I3, q'⟩
  | true =>
    refine ite_tt (test_last (thn (hc pins s3 σ H3 _ I3 q3) fun w' s4 ⟨z', H4, I4, r4, q4⟩ => thn (ho' pins s4 σ H4 y z' u w' _ I4 r2 r4 q4) fun d' s5 ⟨z2, H5, I5, r5, k2, e2, q5⟩ => ?_))
    subst e2
    cases r5
    exact wpAny_truthy_bool ⟨H5, I5, q5⟩
theorem line63 : (sizeLine : Nat) < 2 ^ 63 := by rw [sizeLine_eq]; decide
theorem vals1 {x : V} {us : List Value} (r : Vals [x] us) : ∃ u, us = [u] ∧ RelV x u := by
  cases r with
  | cons r1 r2 => cases r2; exact ⟨_, rfl, r1⟩
theorem vals2 {x y : V} {us : List Value} (r : Vals [x, y] us) : ∃ u w', us = [u, w'] ∧ RelV x u ∧ RelV y w' := by
  cases r with
  | cons r1 r2 =>
    cases r2 with
    | cons r3 r4 => cases r4; exact ⟨_, _, rfl, r1, r3⟩
theorem call_abs : CallR X (.builtin "abs") (fun xs H Q => ∃ i, xs = [.int i] ∧ Q (.int (if i < 0 then -i else i)) H) := by
  intro pins s σ H xs us Q I r h
  obtain ⟨i, rfl, q⟩ := h
  obtain ⟨u, rfl, t, rfl⟩ := vals1 r
  exact call_abs_int fun u tk => ⟨.int (if i < 0 then -i else i), H, I.tok _, ⟨_, rfl⟩, q⟩
theorem call_max2 (hc : X.calm = true) : CallR X (.builtin "max") (fun xs H Q => ∃ i j, xs = [.int i, .int j] ∧ Q (.int (if j > i then j else i)) H) := by
  intro pins s σ H xs us Q I r h
  obtain ⟨i, j, rfl, q⟩ := h
  obtain ⟨u, w', rfl, ⟨t, rfl⟩, ⟨t', rfl⟩⟩ := vals2 r
  refine max_two_ints (I.ok.hd hc) fun h' tk k => ⟨_, H, I.kept k, ?_, q⟩
  by_cases hj : j > i
  · rw [if_pos hj, if_pos hj]; exact ⟨_, rfl⟩
  · rw [if_neg hj, if_neg hj]; exact ⟨_, rfl⟩
theorem call_min2 (hc : X.calm = true) : CallR X (.builtin "min") (fun xs H Q => ∃ i j, xs = [.int i, .int j] ∧ Q (.int (if j < i then j else i)) H) := by
  intro pins s σ H xs us Q I r h
  obtain ⟨i, j, rfl, q⟩ := h
  obtain ⟨u, w', rfl, ⟨t, rfl⟩, ⟨t', rfl⟩⟩ := vals2 r
  refine min_two_ints (I.ok.hd hc) fun h' tk k => ⟨_, H, I.kept k, ?_, q⟩
  by_cases hj : j < i
  · rw [if_pos hj, if_pos hj]; exact ⟨_, rfl⟩
  · rw [if_neg hj, if_neg hj]; exact ⟨_, rfl⟩
end
end L2
namespace L2
open PySem PySem.Spec PyProof.Rows
structure ObjM (h : Heap) (x dx C : Addr) (mA : Str → Option Value) : Prop where
  obj : h.get? x = some (PySem.W.instObj C dx)
  ns : h.Ns1 dx mA
  ne : dx ≠ x
theorem lookIn_ns {h : Heap} {dx : Addr} {mA : Str → Option Value} (n : h.Ns1 dx mA) : ∃ od, h.get? dx = some od ∧ ∀ name, PySem.W.lookIn name od = some (mA name) := by
  obtain ⟨o, es, ep, ho, hd, hk, _, hm⟩ := n
  refine ⟨o, ho, fun name => ?_⟩
  have e := hm name
  unfold nsFind findBy at e
  rw [← Array.find?_toList] at e
  unfold PySem.W.lookIn
  rw [hd]
  dsimp only
  split
  · rename_i y q
    rw [q] at e
    exact congrArg some e
  · rename_i q
    rw [q] at e
    have a : es.toList.any (·.refKey) = false := by
      rw [List.any_eq_false]
      intro y hy
      obtain ⟨z, t, hkey⟩ := hk y (Array.mem_toList_iff.mp hy)
      simp [DictEntry.refKey, hkey]
    have a' : ¬ es.toList.any (·.refKey) = true := by rw [a]; exact Bool.false_ne_true
    rw [if_neg a']
    exact congrArg some e
theorem ObjM.look {h : Heap} {x dx C : Addr} {mA : Str → Option Value} (I : ObjM h x dx C mA) : ∃ od, PySem.W.InstAt h x (PySem.W.instObj C dx) C (some od) ∧ ∀ name, PySem.W.lookIn name od = some (mA name) :=
  let ⟨od, ho, hl⟩ := lookIn_ns I.ns
  ⟨od, ⟨I.obj, rfl, rfl, ho⟩, hl⟩
section
variable {prog : Program} {w : World} {A : Around} {E : Value → Shared → Prop} {s : Shared} {K : PySem.W.Frag} {x dx C f : Addr} {mA : Str → Option Value} {name : Str} {v : Value}
end
theorem RelO.some_of {v : V} {o : Option Value} (r : RelO (some v) o) : ∃ u, o = some u ∧ RelV v u := by
  cases o with
  | none => exact (show False from r).elim
  | some u => exact ⟨u, rfl, r⟩
theorem RelO.none_of {o : Option Value} (r : RelO none o) : o = none := by
  cases o with
  | none => rfl
  | some u => exact (show False from r).elim
theorem handed_of {v : V} {u : Value} (r : RelV v u) : PySem.W.handedIn u = true := by
  cases v with
  | non => cases (show u = Value.none from r); rfl
  | bl b => cases (show u = Value.bool b from r); rfl
  | int i => obtain ⟨t, e⟩ := (show ∃ t, u = Value.int i t from r); cases e; rfl
  | str x => obtain ⟨t, e⟩ := (show ∃ t, u = Value.str x t from r); cases e; rfl
  | byt b => obtain ⟨t, e⟩ := (show ∃ t, u = Value.bytes b t from r); cases e; rfl
  | flt b => obtain ⟨t, e⟩ := (show ∃ t, u = Value.float b t from r); cases e; rfl
  | ref a => cases (show u = Value.ref a from r); rfl
  | ty n => cases (show u = Value.type n from r); rfl
section
variable {P : Program} {w : World} {H H' : Hp} {h h' : Heap} {a C dx : Addr} {fs fs' : List (Str × V)}
theorem ins_get (hok : HOk P w H h) (e : H a = some (.ins C dx fs)) : ∃ mA, ObjM h a dx C mA ∧ (∀ f, RelO (fs.lookup f) (mA f)) ∧ PySem.Within mA (fs.map (·.1)) ∧ fs.length ≤ 1000 ∧ H dx = some (.own a) := by
  obtain ⟨d, z, ne, ob, mA, n, r, q⟩ := (show ObjOk P w H h a (.ins C dx fs) from hok a _ e)
  exact ⟨mA, ⟨ob, n, ne⟩, r, q, z, d⟩
end
structure Cls (K : PySem.W.Frag) (C : Addr) : Prop where
  pg : PySem.W.plainGet K C Str.empty = true
  hd : PySem.W.hasDictIn K C = true
  po : PySem.W.plainOver K C = true
  sa : PySem.W.findIn K (.ref C) "__setattr__" = some (some (.builtin "object.__setattr__"))
theorem Cls.get {K : PySem.W.Frag} {C : Addr} (c : Cls K C) (f : Str) : PySem.W.plainGet K C f = true := c.pg
structure Con (K : PySem.W.Frag) (C : Addr) (f : Str) (v : V) (u : Value) : Prop where
  at_ : PySem.W.findIn K (.ref C) f = some (some u)
  rel : RelV v u
  get : PySem.W.specialIn K u "__get__" = some none
  cp : PySem.W.copiedNames.contains f = false
structure Meth (K : PySem.W.Frag) (C : Addr) (m : Str) (f : Addr) : Prop where
  at_ : PySem.W.findIn K (.ref C) m = some (some (.ref f))
  fn : PySem.W.isFn K (.ref f) = true
  kp : PySem.W.keepIn K (.ref f) = true
section
variable {X : Cx} {pins : List (Addr × Obj)} {σ : St} {H : Hp} {s : Shared} {a C dx : Addr} {fs : List (Str × V)} {f : Str} {v : V} {A : Around} {E : Value → Shared → Prop}
theorem attr_of {prog : Program} {w : World} {env : Env} {e : Expr} {f : Str} {pos : Pos} {s : Shared} {Q : Value → Shared → Prop} (hb : attributeBase e f env (eval e env) = eval e env)
    (h : wpAny (model prog w) A (eval e env) (fun o s₁ => wpAny (model prog w) A (getAttr o f true) Q E s₁) E s) : wpAny (model prog w) A (eval (.Attribute e f pos) env) Q E s :=
  Attribute_any_ h (by rw [arm_eval_Attribute, hb])
end
section
variable {X : Cx} {o e value : Expr} {f : Str} {pos pos' tpos : Pos} {ta tv : TE}
end
section
variable {X : Cx} {pins : List (Addr × Obj)} {σ : St} {H : Hp} {s : Shared} {A : Around} {E : Value → Shared → Prop} {Q : Value → Shared → Prop} {c : Value} {b : Bool}
inductive TyOf (K : PySem.W.Frag) (H : Hp) : V → Value → Prop where
  | non : TyOf K H .non (.type "NoneType")
  | bl (x : Bool) : TyOf K H (.bl x) (.type "bool")
  | int (i : Int) : TyOf K H (.int i) (.type "int")
  | str (x : Str) : TyOf K H (.str x) (.type "str")
  | flt (x : UInt64) : TyOf K H (.flt x) (.type "float")
  | lst {a : Addr} {xs : List V} (e : H a = some (.lst xs)) : TyOf K H (.ref a) (.type "list")
  | frz {a : Addr} {o : Obj} {xs : List V} (e : H a = some (.frz o (.lst xs))) : TyOf K H (.ref a) (.type "list")
  | tup {a : Addr} {xs : List V} (e : H a = some (.tup xs)) : TyOf K H (.ref a) (.type "tuple")
  | dK {a : Addr} {kvs : List (Key × V)} (e : H a = some (.dK kvs)) : TyOf K H (.ref a) (.type "dict")
  | dT {a : Addr} {kvs : List (List Key × V)} (e : H a = some (.dT kvs)) : TyOf K H (.ref a) (.type "dict")
  | ins {a C dx : Addr} {fs : List (Str × V)} (e : H a = some (.ins C dx fs)) (cl : Cls K C) (ha : PySem.W.findIn K (.ref C) "__class__" = some (some (.builtin "object.__class__")))
      (hn : PySem.W.specialIn K (.builtin "object.__class__") "__get__" = some (some (.builtin "getset_descriptor.__get__"))) (htk : PySem.W.takesIn K (.builtin "object.__class__") = some true)
      (hm : PySem.W.mroIn K C (.type "object") = some true) : TyOf K H (.ref a) (.ref C)
theorem isinst_ok {x : V} {u t : Value} (I : Inv X pins σ H s) (rx : RelV x u) (ty : TyOf X.K H x t) (e : PySem.W.kitOne X.K t c = some b) (h : ∀ tk, Q (.bool b) { s with toks := tk }) :
    wpAny (model X.prog X.w) A (call (.builtin "isinstance") [u, c]) Q E s := by
  cases ty with
  | non => cases (show u = Value.none from rx); exact PySem.W.kia_one PySem.W.kitx_none I.kIn True.intro e (fun z => nomatch z) h
  | bl y => cases (show u = Value.bool y from rx); exact PySem.W.kia_one PySem.W.kitx_bool I.kIn True.intro e (fun z => nomatch z) h
  | int i => obtain ⟨t, q⟩ := (show ∃ t, u = Value.int i t from rx); cases q; exact PySem.W.kia_one PySem.W.kitx_int I.kIn True.intro e (fun z => nomatch z) h
  | str y => obtain ⟨t, q⟩ := (show ∃ t, u = Value.str y t from rx); cases q; exact PySem.W.kia_one PySem.W.kitx_str I.kIn True.intro e (fun z => nomatch z) h
  | flt y => obtain ⟨t, q⟩ := (show ∃ t, u = Value.float y t from rx); cases q; exact PySem.W.kia_one PySem.W.kitx_float I.kIn True.intro e (fun z => nomatch z) h
  | @lst a xs ea =>
    cases (show u = Value.ref a from rx)
    obtain ⟨_, _, n, _, h1⟩ := (show ObjOk X.prog X.w H s.heap a (.lst xs) from I.hok a _ ea)
    exact PySem.W.kia_one PySem.W.kitx_list I.kIn ⟨_, h1, rfl⟩ e (fun z => nomatch z) h
  | @frz a ob xs ea =>
    cases (show u = Value.ref a from rx)
    obtain ⟨_, _, _, n, _, h1⟩ := (show ObjOk X.prog X.w H s.heap a (.frz ob (.lst xs)) from I.hok a _ ea)
    exact PySem.W.kia_one PySem.W.kitx_list I.kIn ⟨_, h1, rfl⟩ e (fun z => nomatch z) h
  | @tup a xs ea =>
    cases (show u = Value.ref a from rx)
    obtain ⟨_, _, _, p⟩ := (show ObjOk X.prog X.w H s.heap a (.tup xs) from I.hok a _ ea)
    obtain ⟨o, h1, h2, _⟩ := p
    exact PySem.W.kia_one PySem.W.kitx_tuple I.kIn ⟨o, h1, h2⟩ e (fun z => nomatch z) h
  | @dK a kvs ea =>
    cases (show u = Value.ref a from rx)
    obtain ⟨_, _, vs, _, p⟩ := (show ObjOk X.prog X.w H s.heap a (.dK kvs) from I.hok a _ ea)
    obtain ⟨o, es, ep, h1, h2, _⟩ := p
    exact PySem.W.kia_one PySem.W.kitx_dict I.kIn ⟨o, h1, h2.1⟩ e (fun z => nomatch z) h
  | @dT a kvs ea =>
    cases (show u = Value.ref a from rx)
    obtain ⟨_, _, xs, _, o, es, ep, h1, h2, _⟩ := (show ObjOk X.prog X.w H s.heap a (.dT kvs) from I.hok a _ ea)
    exact PySem.W.kia_one PySem.W.kitx_dict I.kIn ⟨o, h1, h2.1⟩ e (fun z => nomatch z) h
  | @ins a C dx fs ea cl ha hn htk hm =>
    cases (show u = Value.ref a from rx)
    obtain ⟨mA, O, _⟩ := ins_get I.hok ea
    obtain ⟨od, J, _⟩ := O.look
    exact PySem.W.kia_one (PySem.W.kitx_own (cl.get _) cl.hd ha hn htk hm) I.kIn J e (fun z => nomatch z) h
end
end L2
namespace L2
open PySem PySem.Spec PyProof.Rows
structure Room (k : Nat) (A : Around) : Prop where
  hd : A.handled = none
  dp : A.depth + 3 * k + 5 < recursionLimit
  un : A.units + 16 * k + 200 < cLine
theorem Room.mono {j k : Nat} {A : Around} (r : Room k A) (h : j ≤ k) : Room j A := ⟨r.hd, by have := r.dp; omega, by have := r.un; omega⟩
theorem Room.deeper {k : Nat} {A : Around} (r : Room (k + 1) A) (env : Env) : Room k (A.deeper env) :=
  ⟨r.hd, by have := r.dp; show A.depth + 1 + 3 * k + 5 < _; omega, by have := r.un; show A.units + 3 + 16 * k + 200 < _; omega⟩
theorem Room.in1 {k : Nat} {A : Around} (r : Room (k + 1) A) : Room k A.in1 :=
  ⟨r.hd, by have := r.dp; show A.depth + 3 * k + 5 < _; omega, by have := r.un; show A.units + 1 + 16 * k + 200 < _; omega⟩
theorem make_depth {A : Around} {C : Addr} {us : List Value} {kw : List (Str × Value)} : (A.under (.builtin "type.__call__" ⟨.ref C :: us, kw⟩)).depth = A.depth + 1 := by
  first | rfl | simp [Around.under, Code.weight, Code.isCreation, Code.isGuard, Code.isCaller, Code.frames, Code.isFrame, guardIds]
theorem make_units {A : Around} {C : Addr} {us : List Value} {kw : List (Str × Value)} : (A.under (.builtin "type.__call__" ⟨.ref C :: us, kw⟩)).units = A.units + 1 := by
  first | rfl | simp [Around.under, Code.cUnits, Code.frames, Code.isFrame]
theorem Room.make {k : Nat} {A : Around} (r : Room (k + 1) A) (C : Addr) (us : List Value) (kw : List (Str × Value)) : Room k (A.under (.builtin "type.__call__" ⟨.ref C :: us, kw⟩)) :=
  ⟨r.hd, by have := r.dp; rw [make_depth]; omega, by have := r.un; rw [make_units]; omega⟩
theorem Room.depth {k : Nat} {A : Around} (r : Room k A) : A.depth < recursionLimit := by have := r.dp; omega
theorem Room.units {k : Nat} {A : Around} (r : Room k A) : A.units + 64 < cLine := by have := r.un; omega
noncomputable def tNil : TA := fun _ H Q => Q [] H
noncomputable def tCons (ta : TE) (tr : TA) : TA := fun σ H Q => ta σ H fun x H1 => tr σ H1 fun xs H2 => Q (x :: xs) H2
section
variable {X : Cx} {e : Expr} {es : List Expr} {te : TE} {t : TA} {pos : Pos}
theorem pa_nil : PA X [] tNil := fun _ _ _ _ H Q I h => Calls.spliced_nil ⟨[], H, I, .nil, h⟩
theorem pa_cons (ha : PE X e te) (hr : PA X es t) (hs : starEach (e :: es) X.env = (false, eval e X.env) :: starEach es X.env := by rfl) : PA X (e :: es) (tCons te t) := by
  intro pos pins s σ H Q I h
  rw [hs]
  show wpAny _ _ (spliced ((false, eval e X.env) :: backTo pos (starEach es X.env))) _ _ s
  refine Calls.spliced_cons (thn (ha pins s σ H _ I h) fun u s1 ⟨x, H1, I1, r1, q1⟩ => ?_)
  exact thn (hr pos pins s1 σ H1 _ I1 q1) fun us s2 ⟨xs, H2, I2, r2, q2⟩ => ⟨x :: xs, H2, I2, .cons r1 r2, q2⟩
noncomputable def tTup (t : TA) : TE := fun σ H Q => t σ H fun xs H1 => xs.length ≤ sizeLine ∧ ∀ p, H1 p = none → Q (.ref p) (upd H1 p (.tup xs))
noncomputable def tLst (t : TA) : TE := fun σ H Q => t σ H fun xs H1 => xs.length ≤ sizeLine ∧ ∀ p, H1 p = none → Q (.ref p) (upd H1 p (.lst xs))
theorem pe_tup {x1} (h : PA X es t) : PE X (.Tuple es x1 pos) (tTup t) := by
  intro pins s σ H Q I hq
  refine wpAny_Tuple_spliced (thn (h pos pins s σ H _ I hq) fun us s1 ⟨xs, H1, I1, r, z, q⟩ => ⟨by rw [← r.length]; exact z, ?_⟩)
  have hf : H1 s1.heap.objs.size = none := I1.hok.fresh (Nat.le_refl _)
  refine ⟨.ref s1.heap.objs.size, upd H1 s1.heap.objs.size (.tup xs), I1.laid (t' := s1.toks) (fun b u e => Heap.get?_push_of_some _ e) (Nat.le_refl _) ?_, rfl, q _ hf⟩
  exact ⟨z, us, r, ⟨_, Heap.get?_push_size _ rfl, rfl, _, rfl⟩⟩
theorem pe_lst (h : PA X es t) : PE X (.List es pos) (tLst t) := by
  intro pins s σ H Q I hq
  refine wpAny_List_spliced (thn (h pos pins s σ H _ I hq) fun us s1 ⟨xs, H1, I1, r, z, q⟩ => ⟨by rw [← r.length]; exact z, ?_⟩)
  have hf : H1 s1.heap.objs.size = none := I1.hok.fresh (Nat.le_refl _)
  refine ⟨.ref s1.heap.objs.size, upd H1 s1.heap.objs.size (.lst xs), I1.laid (t' := s1.toks) (fun b u e => Heap.get?_push_of_some _ e) (Nat.le_refl _) ?_, rfl, q _ hf⟩
  exact ⟨z, us, 0, r, Heap.get?_push_size _ rfl⟩
end
noncomputable abbrev Sp := List V → Hp → VK → XK → Prop
noncomputable abbrev CXT := List Env → Hp → Shared → XK → Value → Shared → Prop
structure Env0 (P : Program) (w : World) (K : PySem.W.Frag) (mg : Str → Option Value) (base : Heap) (A : Around) (outer : List Env) (s : Shared) (H : Hp) : Prop where
  frames : A.frames = some outer
  mod : Mod K mg base
  bs : ∀ b o, base.get? b = some o → s.heap.get? b = some o ∧ H b = none
  bsz : base.objs.size ≤ s.heap.objs.size
  funs : s.heap.FunFrames base outer
  frf : ∀ b ∈ frs outer, H b = none
  hok : HOk P w H s.heap
  bare : AllBare s.gens
noncomputable def CE (outer : List Env) (P : Program) (w : World) (H : Hp) (s : Shared) (Q : VK) (u : Value) (s' : Shared) : Prop :=
  ∃ v H', s'.os = s.os ∧ AllBare s'.gens ∧ Un (frs outer) [] H H' s.heap s'.heap ∧ HOk P w H' s'.heap ∧ RelV v u ∧ Q v H'
noncomputable def CR (CX : CXT) (outer : List Env) (P : Program) (w : World) (H : Hp) (s : Shared) (Q : VK) (E : XK) (r : Result) (s' : Shared) : Prop :=
  match r with
  | .ok (.ret u) => CE outer P w H s Q u s'
  | .ok _ => False
  | .error e => CX outer H s E e s'
structure FnOk (P : Program) (w : World) (K : PySem.W.Frag) (mg : Str → Option Value) (base : Heap) (CX : CXT) (k : Nat) (f : Addr) (fd : FuncData) (ps : List Str) (sp : Sp) : Prop where
  len : ∀ vs H Q E, sp vs H Q E → vs.length = ps.length
  run : ∀ (A : Around) (outer : List Env) (s : Shared) (H : Hp) (args : Args) (us : List Value) (vs : List V) (Q : VK) (E : XK), Room k A → Env0 P w K mg base A outer s H → BindsTo s fd args (ps.zip us) → Vals vs us → sp vs H Q E →
    codeAny (model P w) A (.call (.ref f) args) (CR CX outer P w H s Q E) s
theorem FnOk.mono {P : Program} {w : World} {K : PySem.W.Frag} {mg : Str → Option Value} {base : Heap} {CX : CXT} {j k : Nat} {f : Addr} {fd : FuncData} {ps : List Str} {sp : Sp} (F : FnOk P w K mg base CX j f fd ps sp) (h : j ≤ k) :
    FnOk P w K mg base CX k f fd ps sp := ⟨F.len, fun A outer s H args us vs Q E hr => F.run A outer s H args us vs Q E (hr.mono h)⟩
theorem FnOk.imp {P : Program} {w : World} {K : PySem.W.Frag} {mg : Str → Option Value} {base : Heap} {CX : CXT} {k : Nat} {f : Addr} {fd : FuncData} {ps : List Str} {sp sp' : Sp} (F : FnOk P w K mg base CX k f fd ps sp)
    (h : ∀ vs H Q E, sp' vs H Q E → sp vs H Q E) : FnOk P w K mg base CX k f fd ps sp' :=
  ⟨fun vs H Q E q => F.len vs H Q E (h _ _ _ _ q), fun A outer s H args us vs Q E hr he hb hv hs => F.run A outer s H args us vs Q E hr he hb hv (h _ _ _ _ hs)⟩
theorem Env0.make {P : Program} {w : World} {K : PySem.W.Frag} {mg : Str → Option Value} {base : Heap} {A : Around} {outer : List Env} {s : Shared} {H : Hp} (e : Env0 P w K mg base A outer s H) (C : Addr) (us : List Value) (kw : List (Str × Value)) :
    Env0 P w K mg base (A.under (.builtin "type.__call__" ⟨.ref C :: us, kw⟩)) outer s H := ⟨by first | exact e.frames | (simpa [Around.under, Code.envs, Code.isFrame, pushEnvs] using e.frames), e.mod, e.bs, e.bsz, e.funs, e.frf, e.hok, e.bare⟩
theorem Env0.in1 {P : Program} {w : World} {K : PySem.W.Frag} {mg : Str → Option Value} {base : Heap} {A : Around} {outer : List Env} {s : Shared} {H : Hp} (e : Env0 P w K mg base A outer s H) :
    Env0 P w K mg base A.in1 outer s H := ⟨e.frames, e.mod, e.bs, e.bsz, e.funs, e.frf, e.hok, e.bare⟩
section
variable {X : Cx} {pins : List (Addr × Obj)} {σ : St} {H : Hp} {s s' : Shared}
theorem Inv.env0 (I : Inv X pins σ H s) : Env0 X.prog X.w X.K X.mg X.base X.A X.stack s H :=
  ⟨I.ok.frames, I.ok.mod, I.bs, Nat.le_trans I.ok.bsz I.sz, I.stack, I.stkFree, I.hok, I.bare⟩
theorem Inv.after {Q : VK} {u : Value} (I : Inv X pins σ H s) (h : CE X.stack X.prog X.w H s Q u s') : EP X pins σ Q u s' := by
  obtain ⟨v, H', os, bare, un, hok, r, q⟩ := h
  obtain ⟨hh, g, d, t, os'⟩ := s'
  obtain rfl : os' = s.os := os
  exact ⟨v, H', I.call (h' := hh) (g' := g) (d' := d) (t' := t) (ch := []) un hok bare (fun b z => absurd z (by simp)), r, q⟩
end
noncomputable def tCall (sp : Sp) (dvs : List V) (E : XK) (t : TA) : TE := fun σ H Q => t σ H fun vs H1 => sp (vs ++ dvs) H1 Q E
noncomputable def Binds (K : PySem.W.Frag) (fd : FuncData) (ps : List Str) (ds : List Value) : Prop :=
  ∀ (s : Shared) (us : List Value), K.In s.heap → (us ++ ds).length = ps.length → BindsTo s fd ⟨us, []⟩ (ps.zip (us ++ ds))
theorem Binds.all {K : PySem.W.Frag} {fd : FuncData} {ps : List Str} (h : ∀ us : List Value, us.length = ps.length → bindArgs fd ⟨us, []⟩ = pure (ps.zip us)) : Binds K fd ps [] := fun s us _ hl => by
  rw [List.append_nil] at hl ⊢
  exact .of_eq (h us hl)
noncomputable def Passes (CX : CXT) (X : Cx) (E : XK) : Prop := ∀ (pins : List (Addr × Obj)) (σ : St) (H : Hp) (s : Shared) (e : Value) (s' : Shared), Inv X pins σ H s → CX X.stack H s E e s' → X.xe e s'
section
variable {X : Cx} {CX : CXT} {k : Nat} {f C : Addr} {fd : FuncData} {ps : List Str} {sp : Sp} {dvs : List V} {ds : List Value} {E : XK} {x m : Str} {p pos apos : Pos} {e o : Expr} {es : List Expr} {ta : TE} {t : TA}
theorem run_fn {pins : List (Addr × Obj)} {σ : St} {H : Hp} {s : Shared} {Q : VK} {us : List Value} {vs : List V} (F : FnOk X.prog X.w X.K X.mg X.base CX k f fd ps sp) (hr : Room k X.A) (hb : Binds X.K fd ps ds) (hd : Vals dvs ds) (hx : Passes CX X E)
    (I : Inv X pins σ H s) (r : Vals vs us) (h : sp (vs ++ dvs) H Q E) : wpAny (model X.prog X.w) X.A (call (.ref f) us) (EP X pins σ Q) X.xe s := by
  have r2 : Vals (vs ++ dvs) (us ++ ds) := r.append hd
  have hl : (us ++ ds).length = ps.length := by rw [← r2.length]; exact F.len _ _ _ _ h
  refine wpAny_call (codeAny_mono (F.run X.A X.stack s H ⟨us, []⟩ (us ++ ds) (vs ++ dvs) Q E hr I.env0 (hb s us I.kIn hl) r2 h) fun r s' hq => ?_)
  cases r with
  | error e => exact hx pins σ H s e s' I hq
  | ok fl =>
    cases fl with
    | ret u => exact I.after hq
    | next => exact False.elim hq
    | brk => exact False.elim hq
    | cont => exact False.elim hq
theorem pe_call (F : FnOk X.prog X.w X.K X.mg X.base CX k f fd ps sp) (hr : Room k X.A) (hg : Gl X x) (hm : X.mg x = some (.ref f)) (hk : PySem.W.keepIn X.K (.ref f) = true) (hb : Binds X.K fd ps ds) (hd : Vals dvs ds) (hx : Passes CX X E)
    (ha : PA X (e :: es) t) (hdb : (x == ("__debug__" : Str)) = false := by decide) (he : starEach (e :: es) X.env = (false, eval e X.env) :: starEach es X.env := by rfl) (hpl : (backTo pos (starEach es X.env)).any (·.1) = false := by rfl) :
    PE X (.Call (.Name x p) (e :: es) [] pos) (tCall sp dvs E t) := by
  intro pins s σ H Q I h
  refine wpAny_Call_Name_kw (ld_glob I hg hm ?_ hdb)
  refine PySem.W.callWith_K (h₀ := X.base) I.ok.mod.kin hk (thn (ha pos pins s σ H _ I h) fun us s1 ⟨vs, H1, I1, r, q⟩ => ⟨I1.kIn, ?_⟩) he hpl
  exact run_fn F hr hb hd hx I1 r q
structure Mk (K : PySem.W.Frag) (C f : Addr) : Prop where
  makes : PySem.W.makesIn K C = true
  init : PySem.W.findIn K (.ref C) "__init__" = some (some (.ref f))
  fn : PySem.W.isFn K (.ref f) = true
  kp : PySem.W.keepIn K (.ref C) = true
end
section
variable {X : Cx} {CX : CXT} {k : Nat} {f C : Addr} {fd : FuncData} {ps ks : List Str} {sp : Sp} {E : XK} {x m : Str} {p pos apos kpos : Pos} {e o : Expr} {es : List Expr} {kws : List Keyword} {te ta : TE} {t tk : TA} {nm : Option Str}
structure KBinds (K : PySem.W.Frag) (fd : FuncData) (ps ks : List Str) (g : List Value → List Value → List Value) (gV : List V → List V → List V) : Prop where
  to : ∀ (s : Shared) (us ws : List Value), K.In s.heap → (g us ws).length = ps.length → BindsTo s fd ⟨us, ks.zip ws⟩ (ps.zip (g us ws))
  rel : ∀ {vs : List V} {us : List Value} {zs : List V} {ws : List Value}, Vals vs us → Vals zs ws → Vals (gV vs zs) (g us ws)
variable {g : List Value → List Value → List Value} {gV : List V → List V → List V}
end
structure FnScope (N P : List Str) (sc : Scope) : Prop where
  kind : sc.kind = .function
  co : sc.isCoroutine = false
  gen : sc.isGenerator = false
  nd : N.Nodup
  pre : N.take P.length = P
  par : ∀ x ∈ P, sc.names.lookup x = some .local ∨ sc.names.lookup x = some .cell
  nofree : ∀ y ∈ sc.names, y.2 ≠ .free
theorem bindL_out {kindOf : Str → Option NameKind} {x : Str} : ∀ {binds : List (Str × Value)} {m : Str → Option Value}, (∀ v, (x, v) ∉ binds) → bindL kindOf binds m x = m x
  | [], _, _ => rfl
  | (n, v) :: r, m, h => by
    unfold bindL
    rw [bindL_out fun w hw => h w (List.mem_cons_of_mem _ hw)]
    split
    · have : x ≠ n := by rintro rfl; exact h v List.mem_cons_self
      simp [this]
    · rfl
theorem bindC_out {kindOf : Str → Option NameKind} {x : Str} : ∀ {binds : List (Str × Value)} {m : Str → Option Value}, (∀ v, (x, v) ∉ binds) → bindC kindOf binds m x = m x
  | [], _, _ => rfl
  | (n, v) :: r, m, h => by
    unfold bindC
    rw [bindC_out fun w hw => h w (List.mem_cons_of_mem _ hw)]
    split
    · rfl
    · have : x ≠ n := by rintro rfl; exact h v List.mem_cons_self
      simp [this]
theorem bindL_get {kindOf : Str → Option NameKind} {x : Str} {v : Value} : ∀ {P : List Str} {vs : List Value} {i : Nat} {m : Str → Option Value}, P.Nodup → P[i]? = some x → vs[i]? = some v → kindOf x = some .local →
    bindL kindOf (P.zip vs) m x = some v
  | [], _, _, _, _, h, _, _ => by simp at h
  | _ :: _, [], _, _, _, _, h, _ => by simp at h
  | p :: P, w :: vs, 0, m, nd, h1, h2, hk => by
    simp at h1 h2; subst h1; subst h2
    show bindL kindOf ((p, w) :: P.zip vs) m p = _
    unfold bindL
    rw [bindL_out fun v hv => (List.nodup_cons.mp nd).1 (List.of_mem_zip hv).1, if_pos hk]
    simp
  | p :: P, w :: vs, i + 1, m, nd, h1, h2, hk => by
    show bindL kindOf ((p, w) :: P.zip vs) m x = _
    unfold bindL
    exact bindL_get (i := i) (List.nodup_cons.mp nd).2 (by simpa using h1) (by simpa using h2) hk
theorem bindC_get {kindOf : Str → Option NameKind} {x : Str} {v : Value} : ∀ {P : List Str} {vs : List Value} {i : Nat} {m : Str → Option Value}, P.Nodup → P[i]? = some x → vs[i]? = some v → kindOf x ≠ some .local →
    bindC kindOf (P.zip vs) m x = some v
  | [], _, _, _, _, h, _, _ => by simp at h
  | _ :: _, [], _, _, _, _, h, _ => by simp at h
  | p :: P, w :: vs, 0, m, nd, h1, h2, hk => by
    simp at h1 h2; subst h1; subst h2
    show bindC kindOf ((p, w) :: P.zip vs) m p = _
    unfold bindC
    rw [bindC_out fun v hv => (List.nodup_cons.mp nd).1 (List.of_mem_zip hv).1, if_neg hk]
    simp
  | p :: P, w :: vs, i + 1, m, nd, h1, h2, hk => by
    show bindC kindOf ((p, w) :: P.zip vs) m x = _
    unfold bindC
    exact bindC_get (i := i) (List.nodup_cons.mp nd).2 (by simpa using h1) (by simpa using h2) hk
noncomputable def start (N : List Str) (vs : List V) : St := vs.map some ++ List.replicate (N.length - vs.length) none
noncomputable def cxOf (CX : CXT) (P : Program) (w : World) (K : PySem.W.Frag) (mg : Str → Option Value) (base : Heap) (N : List Str) (qual : Str) (scope : Scope) (f : Addr) (cd : Value) (A : Around) (outer : List Env) (s : Shared) (H : Hp) (E : XK) : Cx where
  prog := P
  w := w
  K := K
  mg := mg
  base := base
  A := A.deeper (envOfC qual scope s.heap.objs.size f cd)
  N := N
  s₀ := s
  H₀ := H
  env := envOfC qual scope s.heap.objs.size f cd
  outer := outer
  stack := envOfC qual scope s.heap.objs.size f cd :: outer
  ex := []
  calm := true
  fn := fun _ => true
  pn := []
  xe := fun e s' => wpAny (model P w) (A.deeper (envOfC qual scope s.heap.objs.size f cd)) (leaving (envOfC qual scope s.heap.objs.size f cd) e) (fun _ s'' => CX outer H s E e s'') (fun e' s'' => CX outer H s E e' s'') s'
theorem cell_has {sc : Scope} {n : Nat} {x : Str} (h : sc.names.lookup x = some .cell) : ∃ c, (cellsFrom n sc.names []).lookup x = some c := by
  have q := PySem.W.cellsFrom_some sc.names n [] (.inl h)
  exact Option.isSome_iff_exists.mp q
theorem inv_start {CX : CXT} {P : Program} {w : World} {K : PySem.W.Frag} {mg : Str → Option Value} {base : Heap} {N ps : List Str} {qual : Str} {scope : Scope} {f : Addr} {cd : Value} {A : Around} {outer : List Env} {s s1 : Shared} {H : Hp} {E : XK} {us : List Value} {vs : List V}
    (S : FnScope N ps scope) (hd : A.handled = none) (e0 : Env0 P w K mg base A outer s H) (hl : vs.length = ps.length) (r : Vals vs us)
    (x : InCallC s s.heap.objs.size (bindL (envOfC qual scope s.heap.objs.size f cd).kindOf (ps.zip us) fun _ => none) (cellsFrom (s.heap.objs.size + 1) scope.names []) (bindC (envOfC qual scope s.heap.objs.size f cd).kindOf (ps.zip us) fun _ => none) s1) :
    Inv (cxOf CX P w K mg base N qual scope f cd A outer s H E) [] (start N vs) H s1 := by
  have hpl : ps.length ≤ N.length := by have := congrArg List.length S.pre; rw [List.length_take] at this; omega
  obtain ⟨h1, tk, rfl, hk⟩ := x.done
  have noA : ∀ b : Addr, b ∉ (cxOf CX P w K mg base N qual scope f cd A outer s H E).ex := fun b z => absurd (show b ∈ ([] : List Addr) from z) (by simp)
  refine ⟨⟨e0.mod, S.kind, rfl, rfl, Nat.le_refl _, fun y z c h1 h2 => ?_, fun y hy => ?_, fun y c _ h => ?_, fun _ => hd, Around.frames_deeper e0.frames, .inr ⟨rfl, rfl⟩, fun b z => absurd z (noA b), e0.bs, e0.bsz, fun b _ _ => noA b, fun b z => absurd z (noA b), e0.funs, e0.frf⟩,
    rfl, e0.bare, Un.kept hk, ⟨_, x.toInCall.ns, fun i y v h1 h2 h3 => ?_⟩, fun y c h => ⟨_, x.cell y c h⟩, e0.hok.fresh (Nat.le_refl _), fun y c h => ?_, fun p hp => absurd (show p ∈ ([] : List (Addr × Obj)) from hp) (by simp), e0.hok.kept hk, ?_⟩
  · exact name_of_addr x.apart (PySem.mem_of_lookup h1) (PySem.mem_of_lookup h2)
  · have hy : scope.names.lookup y = some .cell ∨ scope.names.lookup y = some .free := hy
    rcases hy with hy | hy
    · exact cell_has hy
    · exact absurd rfl (S.nofree _ (PySem.mem_of_lookup hy))
  · exact Nat.le_of_lt (x.above y c (PySem.mem_of_lookup h))
  · have hi : i < vs.length := by
      unfold start at h2
      by_cases hi : i < vs.length
      · exact hi
      · rw [List.getElem?_append_right (by simpa using hi)] at h2
        rw [List.getElem?_replicate] at h2
        split at h2 <;> cases h2
    have ha : vs[i]? = some v := by
      unfold start at h2
      rw [List.getElem?_append_left (by simpa using hi), List.getElem?_map] at h2
      cases e : vs[i]? with
      | none => rw [e] at h2; cases h2
      | some a => rw [e] at h2; cases h2; rfl
    obtain ⟨u, hu, rv⟩ := r.get ha
    have hp : ps[i]? = some y := by
      rw [← S.pre, List.getElem?_take_of_lt (by omega)]; exact h1
    have ndP : ps.Nodup := by rw [← S.pre]; exact S.nd.sublist (List.take_sublist _ _)
    refine ⟨u, rv, ?_⟩
    rcases S.par y (List.mem_of_getElem? hp) with k | k
    · exact .inl ⟨k, bindL_get ndP hp hu k⟩
    · obtain ⟨c, e⟩ := cell_has (n := s.heap.objs.size + 1) k
      refine .inr ⟨.inl k, c, e, ?_⟩
      have q := x.cell y c e
      rw [bindC_get ndP hp hu (by show scope.names.lookup y ≠ _; rw [k]; decide)] at q
      exact q
  · exact e0.hok.fresh (Nat.le_of_lt (x.above y c (PySem.mem_of_lookup h)))
  · unfold start
    show _ = N.length
    rw [List.length_append, List.length_map, List.length_replicate]
    omega
theorem fn_of {CX : CXT} {P : Program} {w : World} {K : PySem.W.Frag} {mg : Str → Option Value} {base : Heap} {k : Nat} {f : Addr} {name qual : Str} {params : Arguments} {body : List Stmt} {scope : Scope} {dV kV doc pm cdv ct oc : Value} {an od : Option Addr}
    {osl : Array (Option Value)} {N ps : List Str} {sp : Sp} (lk : K.lookup f = some ⟨oc, od, .func (PySem.W.fnOf name qual params body scope dV kV doc pm an cdv ct), osl⟩) (hcd : PySem.W.codeIn K cdv qual = true) (S : FnScope N ps scope)
    (len : ∀ vs H Q E, sp vs H Q E → vs.length = ps.length)
    (hbody : ∀ (A : Around) (outer : List Env) (s : Shared) (H : Hp) (vs : List V) (Q : VK) (E : XK), Room k (A.deeper (envOfC qual scope s.heap.objs.size f cdv)) → sp vs H Q E →
      ∃ t, PSs (cxOf CX P w K mg base N qual scope f cdv A outer s H E) body t ∧ t { nx := fun _ H' => Q .non H', rt := Q } (start N vs) H) :
    FnOk P w K mg base CX (k + 1) f (PySem.W.fnOf name qual params body scope dV kV doc pm an cdv ct) ps sp := by
  refine ⟨len, fun A outer s H args us vs Q E hr e0 hb r hsp => ?_⟩
  have hl := len _ _ _ _ hsp
  have KX : K.In s.heap := e0.mod.kin.keeps fun b o e => (e0.bs b o e).1
  have lim : s.heap.NoLimit := e0.mod.nolimit.keeps fun b o e => (e0.bs b o e).1
  have hkind : ∀ y ∈ ps.zip us, scope.names.lookup y.1 = some .local ∨ (scope.names.lookup y.1 = some .cell ∧ ((cellsFrom (s.heap.objs.size + 1) scope.names []).lookup y.1).isSome = true) := fun ⟨n, v⟩ hy => by
    rcases S.par n (List.of_mem_zip hy).1 with q | q
    · exact .inl q
    · exact .inr ⟨q, PySem.W.cellsFrom_some _ _ _ (.inl q)⟩
  refine codeAny_call_function hr.depth (KX _ _ lk) rfl S.co S.gen rfl (PySem.W.codeRec_of KX hcd) (hb _ _ _ _ ?_)
  refine wpAny_newFunctionEnv_cells S.kind hkind fun env he s1 x => ?_
  subst he
  refine ⟨lim.keeps x.toInCall.keep, codeAny_func ?_⟩
  obtain ⟨t, ht, hq⟩ := hbody A outer s H vs Q E (hr.deeper _) hsp
  have I : Inv (cxOf CX P w K mg base N qual scope f cdv A outer s H E) [] (start N vs) H s1 := inv_start S hr.hd e0 hl r x
  refine wpAny_mono (ht [] s1 (start N vs) H _ I hq) (fun fl s' hs => ?_) fun e s' hs => hs
  have fin : ∀ {σ' : St} {H' : Hp} {v : V} {u : Value}, Inv (cxOf CX P w K mg base N qual scope f cdv A outer s H E) [] σ' H' s' → RelV v u → Q v H' → CE outer P w H s Q u s' :=
    fun {σ' H' v u} J rv q => ⟨v, H', J.os, J.bare, J.base, J.hok, rv, q⟩
  cases fl with
  | ret u =>
    obtain ⟨v, σ', H', J, rv, q⟩ := hs
    exact fin J rv q
  | next =>
    obtain ⟨σ', H', J, q⟩ := hs
    exact fin (v := V.non) (u := Value.none) J rfl q
  | brk =>
    obtain ⟨_, _, _, q⟩ := hs
    exact False.elim q
  | cont =>
    obtain ⟨_, _, _, q⟩ := hs
    exact False.elim q
end L2
namespace L2
open PySem PySem.Spec PyProof.Rows
section
variable {X : Cx} {x : Str} {p pos : Pos} {e : Expr} {es : List Expr} {t : TA} {id T : String} {r : List V → Hp → VK → Prop}
noncomputable def tCB (r : List V → Hp → VK → Prop) (t : TA) : TE := fun σ H Q => t σ H fun vs H1 => r vs H1 Q
theorem pe_callB (hc : CallR X (.builtin id) r) (hg : Gl X x) (hm : X.mg x = none) (hv : bootBuiltins x = some (.builtin id)) (ha : PA X (e :: es) t) (hn : x ≠ "__name__" := by decide) (hdb : (x == ("__debug__" : Str)) = false := by decide)
    (he : starEach (e :: es) X.env = (false, eval e X.env) :: starEach es X.env := by rfl) (hpl : (backTo pos (starEach es X.env)).any (·.1) = false := by rfl) : PE X (.Call (.Name x p) (e :: es) [] pos) (tCB r t) := by
  intro pins s σ H Q I h
  refine wpAny_Call_Name_kw (ld_blt I hg hm hv ?_ hn hdb)
  exact PyProof.Rows.callWith_builtin1 (thn (ha pos pins s σ H _ I h) fun us s1 ⟨vs, H1, I1, r1, q1⟩ => hc pins s1 σ H1 vs us Q I1 r1 q1) he hpl
theorem pe_callTy (hc : CallR X (.type T) r) (hg : Gl X x) (hm : X.mg x = none) (hv : bootBuiltins x = some (.type T)) (ha : PA X (e :: es) t) (hn : x ≠ "__name__" := by decide) (hdb : (x == ("__debug__" : Str)) = false := by decide)
    (he : starEach (e :: es) X.env = (false, eval e X.env) :: starEach es X.env := by rfl) (hpl : (backTo pos (starEach es X.env)).any (·.1) = false := by rfl) : PE X (.Call (.Name x p) (e :: es) [] pos) (tCB r t) := by
  intro pins s σ H Q I h
  refine wpAny_Call_Name_kw (ld_blt I hg hm hv ?_ hn hdb)
  exact PyProof.Rows.callWith_type1 (thn (ha pos pins s σ H _ I h) fun us s1 ⟨vs, H1, I1, r1, q1⟩ => hc pins s1 σ H1 vs us Q I1 r1 q1) he hpl
end
end L2
namespace HT
open PySem PyProof.Rows
section
open PySem.SeqAt
open PySem.AutoSeq1 (wpAny_loadPart')
open PySem.MeetsSeq PySem.MeetsSeq2 PySem.MeetsSeq3
end
section
variable {prog : Program} {w : World} {A : Around} {E : Value → Shared → Prop} {s : Shared}
theorem cat_tup {t b : Addr} {vs ws : List Value} {Q : Value → Shared → Prop} (ht : IsTup s.heap t vs.toArray) (hb : IsTup s.heap b ws.toArray) (hv : vs ≠ [])
    (h1 : ws = [] → Q (.ref t) s) (h2 : ws ≠ [] → Q (.ref s.heap.objs.size) { s with heap := s.heap.push { cls := .type "tuple", data := .seq (vs ++ ws).toArray } })
    (hsz : vs.length + ws.length ≤ sizeLine) : wpAny (model prog w) A (binaryOp .Add (.ref t) (.ref b)) Q E s := by
  obtain ⟨⟨cls, dd, data, sl⟩, ho, hc, n, hd⟩ := id ht
  obtain ⟨⟨cls2, dd2, data2, sl2⟩, ho2, hc2, n2, hd2⟩ := id hb
  simp only at hc hd hc2 hd2
  subst hc hd hc2 hd2
  have e : vs.toArray ++ ws.toArray = (vs ++ ws).toArray := by simp
  by_cases hw : ws = []
  · exact concat_meets ⟨_, ho, rfl⟩ ⟨_, ho2, rfl⟩ noFill_tuple_add seq_tuple_add PySem.F.slot_tuple_add PySem.F.entry_tuple_add (PySem.F.args_tuple_add_2 _ _)
      (tuple_addW1 t b vs.toArray ws.toArray n n2 dd dd2 sl sl2 (by simpa using hv) (by simp [hw])) ⟨ho, ho2, h1 hw⟩
  · refine concat_meets ⟨_, ho, rfl⟩ ⟨_, ho2, rfl⟩ noFill_tuple_add seq_tuple_add PySem.F.slot_tuple_add PySem.F.entry_tuple_add (PySem.F.args_tuple_add_2 _ _)
      (tuple_addW2 t b vs.toArray ws.toArray n n2 dd dd2 sl sl2 (by simpa using hv) (by simpa using hw) (by rw [List.size_toArray, List.size_toArray]; exact hsz)) ⟨ho, ho2, ?_⟩
    rw [e]
    exact h2 hw
noncomputable def sIx (n d : Nat) : Option Int → Nat
  | none => d
  | some v => if v < 0 then (v + (n : Int)).toNat else min v.toNat n
theorem sIx_none (n d : Nat) : sIx n d none = d := rfl
theorem sIx_nat (n d k : Nat) : sIx n d (some (k : Int)) = min k n := by
  show (if (k : Int) < 0 then ((k : Int) + (n : Int)).toNat else min (k : Int).toNat n) = min k n
  rw [if_neg (by omega), Int.toNat_natCast]
theorem sIx_le (n d : Nat) (hd : d ≤ n) (o : Option Int) : sIx n d o ≤ n := by
  cases o with
  | none => exact hd
  | some v =>
    show (if v < 0 then (v + (n : Int)).toNat else min v.toNat n) ≤ n
    by_cases hv : v < 0
    · rw [if_pos hv]; omega
    · rw [if_neg hv]; exact Nat.min_le_right _ _
theorem clip_eq (v : Int) (n d : Nat) : (if v < 0 then max (v + (n : Int)) 0 else min v (n : Int)) = ((sIx n d (some v) : Nat) : Int) := by
  show (if v < 0 then max (v + (n : Int)) 0 else min v (n : Int)) = (((if v < 0 then (v + (n : Int)).toNat else min v.toNat n) : Nat) : Int)
  by_cases hv : v < 0
  · simp only [if_pos hv]; omega
  · simp only [if_neg hv]; omega
theorem adjust_gen (lo hi : Option Int) (n : Nat) : Builtin.Slice.sliceAdjust lo hi 1 (n : Int) = (((sIx n 0 lo : Nat) : Int), ((sIx n n hi : Nat) : Int)) := by
  have h1 : ¬ ((1 : Int) < 0) := by omega
  unfold Builtin.Slice.sliceAdjust
  simp only [h1, if_false]
  refine Prod.ext ?_ ?_
  · cases lo with
    | none => rfl
    | some v => exact clip_eq v n 0
  · cases hi with
    | none => rfl
    | some v => exact clip_eq v n n
theorem places_gen (i j : Nat) : Builtin.Slice.slicePlaces (i : Int) (j : Int) 1 = j - i := by
  unfold Builtin.Slice.slicePlaces
  have h1 : (1 : Int) > 0 := by omega
  simp only [h1, if_true, Int.ediv_one]
  split <;> omega
theorem slicePart_ {v : Value} {o : Option Int} {Q : Option Int → Shared → Prop} (p : IsPart v o) (h : Q o s) : wpAny (model prog w) A (Builtin.Slice.slicePartIndex v) Q E s := by
  cases p with
  | none => exact slicePart_none h
  | int i t => exact slicePart_int h
theorem sliceApplied_gen {sl : Addr} {vl vu : Value} {lo hi : Option Int} {n : Nat} {Q : Int × Int × Nat → Shared → Prop} (hs : s.heap.IsSliceOf sl vl vu .none) (pl : IsPart vl lo) (pu : IsPart vu hi)
    (h : Q (((sIx n 0 lo : Nat) : Int), 1, sIx n n hi - sIx n 0 lo) s) : wpAny (model prog w) A (Builtin.Slice.sliceApplied (.ref sl) (pure (n : Int))) Q E s := by
  obtain ⟨os, hos, hcs, hds⟩ := id hs
  unfold Builtin.Slice.sliceApplied Builtin.Slice.sliceFields
  refine wpAny_bind (wpAny_bind (wpAny_field hos hds (x := vl) rfl (wpAny_bind (wpAny_field hos hds (x := vu) rfl (wpAny_bind (wpAny_field hos hds (x := .none) rfl (wpAny_pure ?_)))))))
  refine wpAny_bind (slicePart_none ?_)
  show wpAny _ _ (if ((1 : Int) == 0) = true then _ else _) _ _ s
  rw [if_neg (by decide)]
  refine wpAny_bind (slicePart_ pl (wpAny_bind (slicePart_ pu (wpAny_bind (wpAny_pure ?_)))))
  show wpAny _ _ (match Builtin.Slice.sliceAdjust lo hi 1 (n : Int) with | (lo, hi) => pure (lo, (1 : Int), Builtin.Slice.slicePlaces lo hi 1)) _ _ s
  rw [adjust_gen lo hi n]
  show wpAny _ _ (pure (((sIx n 0 lo : Nat) : Int), (1 : Int), Builtin.Slice.slicePlaces ((sIx n 0 lo : Nat) : Int) ((sIx n n hi : Nat) : Int) 1)) _ _ s
  rw [places_gen]
  exact wpAny_pure h
theorem pick_gen (xs : Array Value) (i k : Nat) : ((List.range k).filterMap fun (m : Nat) => xs[((i : Int) + (m : Int) * 1).toNat]?).toArray = ((xs.toList.drop i).take k).toArray := by
  have e : (fun (m : Nat) => xs[((i : Int) + (m : Int) * 1).toNat]?) = fun m => xs[i + m]? := by
    funext m
    have : ((i : Int) + (m : Int) * 1).toNat = i + m := by omega
    rw [this]
  rw [e]
  have := pick_run xs i k
  rw [List.filterMap_map] at this
  have e2 : ((fun x => xs[x]?) ∘ fun x => i + x) = fun m => xs[i + m]? := rfl
  rw [e2] at this
  rw [this]
theorem getItem_tuple_cut {t sl : Addr} {items : Array Value} {vl vu : Value} {lo hi : Option Int} {Q : Value → Shared → Prop} (ht : IsTup s.heap t items) (hs : s.heap.IsSliceOf sl vl vu .none) (pl : IsPart vl lo) (pu : IsPart vu hi)
    (hw : ¬ (sIx items.size 0 lo = 0 ∧ sIx items.size items.size hi = items.size))
    (h : Q (.ref s.heap.objs.size) { s with heap := s.heap.push { cls := .type "tuple", data := .seq ((items.toList.drop (sIx items.size 0 lo)).take (sIx items.size items.size hi - sIx items.size 0 lo)).toArray } })
    (hsz : items.size ≤ sizeLine) : wpAny (model prog w) A (getItem (.ref t) (.ref sl)) Q E s := by
  have htake : sizeOk (.seq ((items.toList.drop (sIx items.size 0 lo)).take (sIx items.size items.size hi - sIx items.size 0 lo)).toArray) := by
    show ((items.toList.drop (sIx items.size 0 lo)).take (sIx items.size items.size hi - sIx items.size 0 lo)).toArray.size ≤ sizeLine
    rw [List.size_toArray, List.length_take, List.length_drop, Array.length_toList]
    omega
  have hj : sIx items.size items.size hi ≤ items.size := sIx_le _ _ (Nat.le_refl _) hi
  obtain ⟨os, hos, hcs, hds⟩ := id hs
  have hTs : s.TypeIs (.ref sl) "slice" := ⟨os, hos, hcs⟩
  unfold getItem
  try with_reducible refine wpAny_holding ?_
  first | refine wpAny_bind (wpAny_pure ?_) | skip
  refine wpAny_bind (wpAny_sequenceKey ht.typeIs (by decide) ?_)
  refine wpAny_bind (wpAny_callSpecial?_slot (name := Str.ofString "__getitem__") ht.typeIs PyProof.Rows.slot_tuple_getitem
    (wpAny_call_entry PyProof.Rows.slot_tuple_getitem ht.typeIs entry_tuple_getitem ?_ (args_tuple_getitem _ _)))
  show wpAny _ _ (Builtin.Tuple.tupleItemsOf (.ref t) >>= _) _ _ s
  refine wpAny_bind (tupleItemsOf_ ht ?_)
  refine wpAny_bind (wpAny_typeOf hTs ?_)
  rw [if_pos (by decide)]
  refine wpAny_bind (sliceApplied_gen hs pl pu ?_)
  have hno : ¬ ((((sIx items.size 0 lo : Nat) : Int) == 0 && (1 : Int) == 1 && (sIx items.size items.size hi - sIx items.size 0 lo) == items.size) = true) := by
    intro q
    rw [Bool.and_eq_true, Bool.and_eq_true] at q
    have q1 : ((sIx items.size 0 lo : Nat) : Int) = 0 := eq_of_beq q.1.1
    have q2 : sIx items.size items.size hi - sIx items.size 0 lo = items.size := eq_of_beq q.2
    exact hw ⟨by omega, by omega⟩
  show wpAny _ _ (if (((sIx items.size 0 lo : Nat) : Int) == 0 && (1 : Int) == 1 && (sIx items.size items.size hi - sIx items.size 0 lo) == items.size) = true then _ else _) _ _ s
  rw [if_neg hno, pick_gen]
  first
    | exact wpAny_bind (m := Builtin.Tuple.tupleExact _) (wpAny_newObj_type (wpAny_pure ⟨_, rfl, wpAny_pure h⟩) htake)
    | exact wpAny_bind (m := Builtin.Tuple.tupleExact _) (wpAny_newObj_type (wpAny_bind (wpAny_pure (wpAny_pure ⟨_, rfl, wpAny_pure h⟩))) htake)
    | exact wpAny_bind (wpAny_bind (m := Builtin.Tuple.tupleExact _) (wpAny_newObj_type (wpAny_pure (wpAny_pure ⟨_, rfl, wpAny_pure h⟩)) htake))
    | exact wpAny_bind (wpAny_bind (m := Builtin.Tuple.tupleExact _) (wpAny_newObj_type (wpAny_pure ⟨_, rfl, wpAny_pure h⟩) htake))
end
end HT
namespace L2
open PySem PySem.Spec PyProof.Rows
noncomputable abbrev TO := St → Hp → (Option Int → Hp → Prop) → Prop
noncomputable def PO (X : Cx) (e : Option Expr) (t : TO) : Prop :=
  ∀ (pins : List (Addr × Obj)) (s : Shared) (σ : St) (H : Hp) (Q : Option Int → Hp → Prop), Inv X pins σ H s → t σ H Q →
    wpAny (model X.prog X.w) X.A (evalPart e X.env) (fun u s' => ∃ o H', Inv X pins σ H' s' ∧ IsPart u o ∧ Q o H') X.xe s
noncomputable def tNoPart : TO := fun _ H Q => Q none H
noncomputable def tPart (t : TE) : TO := fun σ H Q => t σ H fun x H1 => ∃ i, x = .int i ∧ Q (some i) H1
theorem intsAre_of {ns : List Int} : ∀ {us : List Value}, Vals (ns.map V.int) us → IntsAre us ns := by
  induction ns with
  | nil => intro us r; rw [List.map_nil] at r; cases r; exact .nil
  | cons n ns ih =>
    intro us r
    rw [List.map_cons] at r
    cases r with
    | cons r1 r2 =>
      obtain ⟨t, e⟩ := r1
      subst e
      exact .cons n t (ih r2)
section
variable {X : Cx} {e : Expr} {te : TE} {lo hi : Option Expr} {tl th : TO} {pos p2 : Pos}
theorem po_none : PO X none tNoPart := by
  intro pins s σ H Q I h
  rw [evalPart_none]
  exact wpAny_pure ⟨none, H, I, .none, h⟩
theorem po_some (h : PE X e te) : PO X (some e) (tPart te) := by
  intro pins s σ H Q I hw
  rw [evalPart_some]
  refine thn (h pins s σ H _ I hw) fun u s1 ⟨x, H1, I1, r1, q1⟩ => ?_
  obtain ⟨i, rfl, q⟩ := q1
  obtain ⟨t, rfl⟩ := r1
  exact ⟨some i, H1, I1, .int i t, q⟩
noncomputable def SlR (X : Cx) (r : V → Option Int → Option Int → Hp → VK → Prop) : Prop :=
  ∀ (pins : List (Addr × Obj)) (s : Shared) (σ : St) (H : Hp) (x : V) (v vl vu : Value) (lo hi : Option Int) (sl : Addr) (Q : VK), Inv X pins σ H s → RelV x v → s.heap.IsSliceOf sl vl vu .none → IsPart vl lo → IsPart vu hi → r x lo hi H Q →
    ∃ T id, typeLookup (.type T) "__getitem__" = pure (some (.builtin id)) ∧ s.TypeIs v T ∧ wpAny (model X.prog X.w) X.A (getItem v (.ref sl)) (EP X pins σ Q) X.xe s
theorem SlR.or {r r' : V → Option Int → Option Int → Hp → VK → Prop} (h : SlR X r) (h' : SlR X r') : SlR X (fun x lo hi H Q => r x lo hi H Q ∨ r' x lo hi H Q) := by
  intro pins s σ H x v vl vu lo hi sl Q I rx hs pl pu q
  rcases q with q | q
  · exact h pins s σ H x v vl vu lo hi sl Q I rx hs pl pu q
  · exact h' pins s σ H x v vl vu lo hi sl Q I rx hs pl pu q
noncomputable def tSl (r : V → Option Int → Option Int → Hp → VK → Prop) (te : TE) (tl th : TO) : TE := fun σ H Q => te σ H fun x H1 => tl σ H1 fun l H2 => th σ H2 fun u H3 => r x l u H3 Q
theorem pe_slice {r : V → Option Int → Option Int → Hp → VK → Prop} (hr : SlR X r) (he : PE X e te) (hl : PO X lo tl) (hu : PO X hi th) : PE X (.Subscript e (.Slice lo hi none p2) pos) (tSl r te tl th) := by
  intro pins s σ H Q I h
  refine Subscript_ (thn (he pins s σ H _ I h) fun v s1 ⟨x, H1, I1, r1, q1⟩ => ?_)
  refine wpAny_Slice (thn (hl pins s1 σ H1 _ I1 q1) fun vl s2 ⟨l, H2, I2, pl, q2⟩ => thn (hu pins s2 σ H2 _ I2 q2) fun vu s3 ⟨u, H3, I3, pu, q3⟩ => ?_)
  rw [evalPart_none]
  refine wpAny_pure ?_
  have I4 : Inv X pins σ H3 { s3 with heap := s3.heap.push { cls := .type "slice", data := .fields #[vl, vu, .none] } } := I3.kept (t' := s3.toks) fun b ob q => Heap.get?_push_of_some _ q
  obtain ⟨T, id, hT, ht, hg⟩ := hr pins { s3 with heap := s3.heap.push { cls := .type "slice", data := .fields #[vl, vu, .none] } } σ H3 x v vl vu l u s3.heap.objs.size Q I4 r1 (Heap.IsSliceOf.new ..) pl pu q3
  show wpAny (model X.prog X.w) X.A (subscriptTail e (.Slice lo hi none p2) v (.ref s3.heap.objs.size)) (EP X pins σ Q) X.xe { s3 with heap := s3.heap.push { cls := .type "slice", data := .fields #[vl, vu, .none] } }
  exact tail_any (ops := [.ref s3.heap.objs.size, v]) ht hT hg (by with_unfolding_all rfl)
noncomputable def cutV (xs : List V) (lo hi : Option Int) : List V := (xs.drop (HT.sIx xs.length 0 lo)).take (HT.sIx xs.length xs.length hi - HT.sIx xs.length 0 lo)
theorem cutV_length (xs : List V) (lo hi : Option Int) : (cutV xs lo hi).length ≤ xs.length := by
  unfold cutV
  rw [List.length_take, List.length_drop]
  omega
noncomputable def rSlT (K : PySem.W.Frag) : V → Option Int → Option Int → Hp → VK → Prop := fun x lo hi H Q => ∃ a xs, x = .ref a ∧ SqT K H a xs ∧
  ¬ (HT.sIx xs.length 0 lo = 0 ∧ HT.sIx xs.length xs.length hi = xs.length) ∧ ∀ p, H p = none → Q (.ref p) (upd H p (.tup (cutV xs lo hi)))
theorem sl_tup : SlR X (rSlT X.K) := by
  intro pins s σ H x v vl vu lo hi sl Q I rx hs pl pu h
  obtain ⟨a, xs, rfl, hx, hw, q⟩ := h
  cases rx
  obtain ⟨its, r, ht, hz⟩ := I.tuple hx
  have hlen : its.toArray.size = xs.length := by rw [List.size_toArray]; exact r.length.symm
  refine ⟨"tuple", _, PyProof.Rows.slot_tuple_getitem.lookup, ht.typeIs, ?_⟩
  refine HT.getItem_tuple_cut ht hs pl pu (by rw [hlen]; exact hw) ?_ (by rw [hlen]; exact hz)
  rw [hlen]
  refine ⟨.ref s.heap.objs.size, _, I.laid (t' := s.toks) (o := .tup (cutV xs lo hi)) (fun b ob q => Heap.get?_push_of_some _ q) (Nat.le_refl _) ?_, rfl, q _ (I.hok.fresh (Nat.le_refl _))⟩
  exact ⟨Nat.le_trans (cutV_length xs lo hi) hz, _, (r.drop (HT.sIx xs.length 0 lo)).take (HT.sIx xs.length xs.length hi - HT.sIx xs.length 0 lo), IsTup.new _ _⟩
noncomputable def rCatT (K : PySem.W.Frag) : R2 := fun x y H Q => ∃ a b xs ys, x = .ref a ∧ y = .ref b ∧ SqT K H a xs ∧ SqT K H b ys ∧ xs ≠ [] ∧ xs.length + ys.length ≤ sizeLine ∧
  (ys = [] → Q (.ref a) H) ∧ (ys ≠ [] → ∀ p, H p = none → Q (.ref p) (upd H p (.tup (xs ++ ys))))
theorem Vals.nil_iff {xs : List V} {us : List Value} (r : Vals xs us) : us = [] ↔ xs = [] := by
  cases r with
  | nil => simp
  | cons _ _ => simp
theorem op_catT : OpR X (binaryOp .Add) (rCatT X.K) := by
  intro pins s σ H x y v u Q I rx ry h
  obtain ⟨a, b, xs, ys, rfl, rfl, ha, hb, hx, hz, q1, q2⟩ := h
  cases rx
  cases ry
  obtain ⟨its, r1, p1, _⟩ := I.tuple ha
  obtain ⟨its2, r2, p2, _⟩ := I.tuple hb
  refine HT.cat_tup p1 p2 (fun z => hx (r1.nil_iff.mp z)) (fun z => ⟨.ref a, H, I, rfl, q1 (r2.nil_iff.mp z)⟩) (fun z => ?_) (by rw [← r1.length, ← r2.length]; exact hz)
  refine ⟨.ref s.heap.objs.size, _, I.laid (t' := s.toks) (o := .tup (xs ++ ys)) (fun b ob q => Heap.get?_push_of_some _ q) (Nat.le_refl _) ?_, rfl, q2 (fun w => z (r2.nil_iff.mpr w)) _ (I.hok.fresh (Nat.le_refl _))⟩
  exact ⟨by rw [List.length_append]; exact hz, _, r1.append r2, IsTup.new _ _⟩
end
end L2
namespace L2
open PySem PySem.Spec PyProof.Rows
noncomputable def ixN (n : Nat) (i : Int) : Option Nat := if 0 ≤ i then (if i < n then some i.toNat else none) else if -(n : Int) ≤ i then some (i + n).toNat else none
noncomputable def atI {α : Type} (xs : List α) (i : Int) : Option α := (ixN xs.length i).bind fun j => xs[j]?
theorem ixN_seq {n : Nat} {i : Int} {j : Nat} (h : ixN n i = some j) : seqIndex? i n = some j ∧ j < n ∧ -(n : Int) ≤ i ∧ i < n := by
  unfold ixN at h
  by_cases h0 : 0 ≤ i
  · rw [if_pos h0] at h
    by_cases h1 : i < n
    · rw [if_pos h1] at h
      have e : i.toNat = j := Option.some.inj h
      exact ⟨by rw [seqIndex_of h0 h1, e], by omega, by omega, h1⟩
    · rw [if_neg h1] at h; cases h
  · rw [if_neg h0] at h
    by_cases h1 : -(n : Int) ≤ i
    · rw [if_pos h1] at h
      have e : (i + n).toNat = j := Option.some.inj h
      exact ⟨by rw [seqIndex_neg (by omega) h1, e], by omega, h1, by omega⟩
    · rw [if_neg h1] at h; cases h
theorem atI_get {α : Type} {xs : List α} {i : Int} {v : α} (h : atI xs i = some v) : ∃ j, seqIndex? i xs.length = some j ∧ xs[j]? = some v ∧ j < xs.length ∧ -(xs.length : Int) ≤ i ∧ i < xs.length := by
  unfold atI at h
  cases e : ixN xs.length i with
  | none => rw [e] at h; cases h
  | some j =>
    rw [e] at h
    obtain ⟨h1, h2, h3, h4⟩ := ixN_seq e
    exact ⟨j, h1, h, h2, h3, h4⟩
theorem atI_nat {α : Type} {xs : List α} {j : Nat} {v : α} (h : xs[j]? = some v) : atI xs (j : Int) = some v := by
  have hj : j < xs.length := (List.getElem?_eq_some_iff.mp h).1
  have e : ixN xs.length (j : Int) = some j := by
    unfold ixN
    rw [if_pos (by omega), if_pos (by omega)]; simp
  unfold atI; rw [e]; exact h
noncomputable def PlainIx (b : Expr) : Prop := ∀ o i, subscripted b false o i = operate [o, i] (getItem o i)
noncomputable def IxR (X : Cx) (r : R2) : Prop :=
  ∀ (value slice : Expr) (pins : List (Addr × Obj)) (s : Shared) (σ : St) (H : Hp) (x y : V) (v u : Value) (Q : VK), Inv X pins σ H s → RelV x v → RelV y u → r x y H Q →
    subscripted slice false v u = operate [v, u] (getItem v u) → wpAny (model X.prog X.w) X.A (subscriptTail value slice v u) (EP X pins σ Q) X.xe s
noncomputable def MtR (X : Cx) (id : String) (r : V → List V → Hp → VK → Prop) : Prop :=
  ∀ (pins : List (Addr × Obj)) (s : Shared) (σ : St) (H : Hp) (x : V) (xs : List V) (v : Value) (us : List Value) (Q : VK), Inv X pins σ H s → RelV x v → Vals xs us → r x xs H Q →
    wpAny (model X.prog X.w) X.A (call (.builtin id) (v :: us)) (EP X pins σ Q) X.xe s
section
variable {X : Cx} {a b : Expr} {ta tb : TE} {pos : Pos}
theorem IxR.or {r r' : R2} (h : IxR X r) (h' : IxR X r') : IxR X (fun x y H Q => r x y H Q ∨ r' x y H Q) := by
  intro value slice pins s σ H x y v u Q I rx ry q hs
  rcases q with q | q
  · exact h value slice pins s σ H x y v u Q I rx ry q hs
  · exact h' value slice pins s σ H x y v u Q I rx ry q hs
theorem MtR.or {id : String} {r r' : V → List V → Hp → VK → Prop} (h : MtR X id r) (h' : MtR X id r') : MtR X id (fun x xs H Q => r x xs H Q ∨ r' x xs H Q) := by
  intro pins s σ H x xs v us Q I rx rs q
  rcases q with q | q
  · exact h pins s σ H x xs v us Q I rx rs q
  · exact h' pins s σ H x xs v us Q I rx rs q
theorem pe_ix {r : R2} (hr : IxR X r) (ha : PE X a ta) (hb : PE X b tb) (hs : PlainIx b) : PE X (.Subscript a b pos) (tOp r ta tb) := by
  intro pins s σ H Q I h
  exact Subscript_ (binT ha hb I h fun v u s2 x y H2 I2 rx ry q => hr a b pins s2 σ H2 x y v u Q I2 rx ry q (hs _ _))
noncomputable def rIxL (K : PySem.W.Frag) : R2 := fun x y H Q => ∃ p xs i v, x = .ref p ∧ y = .int i ∧ SqL K H p xs ∧ atI xs i = some v ∧ Q v H
noncomputable def rIxT (K : PySem.W.Frag) : R2 := fun x y H Q => ∃ p xs i v, x = .ref p ∧ y = .int i ∧ SqT K H p xs ∧ atI xs i = some v ∧ Q v H
noncomputable def rIxS : R2 := fun x y H Q => ∃ z i c, x = .str z ∧ y = .int i ∧ z.length ≤ sizeLine ∧ atI z.cps.toList i = some c ∧ Q (.str ⟨#[c]⟩) H
theorem ix_list : IxR X (rIxL X.K) := by
  intro value slice pins s σ H x y v u Q I rx ry h hs
  obtain ⟨p, xs, i, z, rfl, rfl, hq, he, q⟩ := h
  cases rx
  obtain ⟨t, rfl⟩ := ry
  obtain ⟨its, r, pl, hz⟩ := I.list hq
  obtain ⟨j, h1, h2, h3, h4, h5⟩ := atI_get he
  obtain ⟨w, ew, rw'⟩ := r.get h2
  have hl := r.length
  have hn := line63
  have fin : EP X pins σ Q w s := ⟨z, H, I, rw', q⟩
  by_cases h0 : 0 ≤ i
  · have hj : i.toNat = j := by
      rw [seqIndex_of h0 h5] at h1
      exact Option.some.inj h1
    exact item_listR pl.isList h0 (by omega) (by rw [hj]; simpa using ew) fin hs
  · have hj : (i + (its.toArray.size : Int)).toNat = j := by
      rw [seqIndex_neg (by omega) h4] at h1
      rw [List.size_toArray, ← hl]
      exact Option.some.inj h1
    exact subscriptTail_builtinR (x := w) pl.isList.typeIs slot_list_getitem.lookup
      (wpAny_getItem_list_neg (Q := fun r s' => r = w ∧ EP X pins σ Q r s') pl.isList (by omega) (by rw [List.size_toArray] <;> omega) (by omega) (by rw [hj]; simpa using ew) ⟨rfl, fin⟩) hs
theorem ix_tup : IxR X (rIxT X.K) := by
  intro value slice pins s σ H x y v u Q I rx ry h hs
  obtain ⟨p, xs, i, z, rfl, rfl, hq, he, q⟩ := h
  cases rx
  obtain ⟨t, rfl⟩ := ry
  obtain ⟨its, r, pl, hz⟩ := I.tuple hq
  obtain ⟨j, h1, h2, h3, h4, h5⟩ := atI_get he
  obtain ⟨w, ew, rw'⟩ := r.get h2
  have hl := r.length
  have hn := line63
  have fin : EP X pins σ Q w s := ⟨z, H, I, rw', q⟩
  exact subscriptTail_builtinR (x := w) pl.typeIs slot_tuple_getitem.lookup
    (getItem_tuple (j := j) (Q := fun r s' => r = w ∧ EP X pins σ Q r s') pl (by omega) (by omega) (by rw [List.size_toArray, ← hl]; exact h1) (by simpa using ew) ⟨rfl, fin⟩) hs
theorem ix_str : IxR X rIxS := by
  intro value slice pins s σ H x y v u Q I rx ry h hs
  obtain ⟨z, i, c, rfl, rfl, hz, he, q⟩ := h
  obtain ⟨t, rfl⟩ := rx
  obtain ⟨t', rfl⟩ := ry
  obtain ⟨j, h1, h2, h3, h4, h5⟩ := atI_get he
  have hl : z.cps.toList.length = z.length := by simp [Str.length]
  rw [hl] at h1 h4 h5
  have hn := line63
  exact tail_any (typeIs_str s z t) slot_str_getitem.lookup (getItem_str (c := c) (by
    have e1 : decide (i < -(2 ^ 63 : Int)) = false := decide_eq_false (by omega)
    have e2 : decide (i ≥ 2 ^ 63) = false := decide_eq_false (by omega)
    rw [e1, e2, Bool.or_false]) (by rw [h1]; simpa using h2) ⟨.str ⟨#[c]⟩, H, I.tok _, ⟨_, rfl⟩, q⟩) hs
noncomputable def rIx (K : PySem.W.Frag) : R2 := fun x y H Q => rIxL K x y H Q ∨ rIxT K x y H Q ∨ rIxS x y H Q
theorem ix_seq : IxR X (rIx X.K) := ix_list.or (ix_tup.or ix_str)
theorem Inv.lst {pins : List (Addr × Obj)} {σ : St} {H : Hp} {s : Shared} {p : Addr} {xs : List V} (I : Inv X pins σ H s) (h : H p = some (.lst xs)) :
    ∃ (its : List Value) (n : Nat), Vals xs its ∧ s.heap.get? p = some { cls := .type "list", data := .seq its.toArray n } ∧ xs.length ≤ sizeLine := by
  obtain ⟨z, its, n, r, e⟩ := I.hok p _ h
  exact ⟨its, n, r, e, z⟩
theorem call_len_seq : CallR X (.builtin "len") (fun xs H Q => ∃ p ys, xs = [.ref p] ∧ (SqL X.K H p ys ∨ SqT X.K H p ys) ∧ Q (.int ys.length) H) := by
  intro pins s σ H xs us Q I r h
  obtain ⟨p, ys, rfl, hq, q⟩ := h
  obtain ⟨u, rfl, rx⟩ := vals1 r
  cases rx
  have hn := line63
  rcases hq with hq | hq
  · obtain ⟨its, r', pl, hz⟩ := I.list hq
    have hlen := r'.length
    exact Calls.call_len_list pl.isList (by simp only [List.size_toArray] <;> omega) ⟨.int ys.length, H, I.tok _, ⟨s.toks + 1, by rw [List.size_toArray, hlen]⟩, q⟩
  · obtain ⟨its, r', pl, hz⟩ := I.tuple hq
    have hlen := r'.length
    exact len_tuple pl (by simp only [List.size_toArray] <;> omega) ⟨.int ys.length, H, I.tok _, ⟨s.toks + 1, by rw [List.size_toArray, hlen]⟩, q⟩
theorem CallR.or {f : Value} {r r' : List V → Hp → VK → Prop} (h : CallR X f r) (h' : CallR X f r') : CallR X f (fun xs H Q => r xs H Q ∨ r' xs H Q) := by
  intro pins s σ H xs us Q I rs q
  rcases q with q | q
  · exact h pins s σ H xs us Q I rs q
  · exact h' pins s σ H xs us Q I rs q
theorem call_tuple_of : CallR X (.type "tuple") (fun xs H Q => ∃ p ys, xs = [.ref p] ∧ ((SqL X.K H p ys ∧ ∀ l, H l = none → Q (.ref l) (upd H l (.tup ys))) ∨ (SqT X.K H p ys ∧ Q (.ref p) H))) := by
  intro pins s σ H xs us Q I r h
  obtain ⟨p, ys, rfl, h⟩ := h
  obtain ⟨u, rfl, rx⟩ := vals1 r
  cases rx
  rcases h with ⟨hq, q⟩ | ⟨hq, q⟩
  · obtain ⟨its, r', pl, hz⟩ := I.list hq
    have hlen := r'.length
    refine call_tuple_list pl.isList (fun h' kp => ?_) (by simp only [List.size_toArray] <;> omega)
    have I1 : Inv X pins σ H { s with heap := h' } := I.kept (t' := s.toks) kp
    have I2 : Inv X pins σ (upd H h'.objs.size (.tup ys)) { s with heap := h'.push { cls := .type "tuple", data := .seq its.toArray } } :=
      I1.laid (t' := s.toks) (fun b o e => Heap.get?_push_of_some _ e) (Nat.le_refl _) (show ObjOk X.prog X.w _ _ _ (.tup ys) from ⟨hz, its, r', IsTup.new _ _⟩)
    exact ⟨.ref h'.objs.size, _, I2, rfl, q _ (I1.hok.fresh (Nat.le_refl _))⟩
  · obtain ⟨its, r', pl, hz⟩ := I.tuple hq
    exact call_tuple_same pl ⟨.ref p, H, I, rfl, q⟩
noncomputable def tyV (K : PySem.W.Frag) (T : String) (x : V) (H : Hp) : Prop := match x with
  | .str _ => T = "str"
  | .int _ => T = "int"
  | .ref p => (T = "list" ∧ ∃ xs, SqL K H p xs) ∨ (T = "tuple" ∧ ∃ o, K.lookup p = some o ∧ o.cls = .type "tuple" ∧ o.dict = none) ∨
      (T = "dict" ∧ ((∃ kvs, H p = some (.dK kvs)) ∨ ∃ kvs, H p = some (.dT kvs))) ∨ (T = "set" ∧ ∃ S n, H p = some (.set S n))
  | _ => False
theorem tyV_is {pins : List (Addr × Obj)} {σ : St} {H : Hp} {s : Shared} {T : String} {x : V} {v : Value} (I : Inv X pins σ H s) (r : RelV x v) (ty : tyV X.K T x H) :
    s.TypeIs v T ∧ ∀ a, v = .ref a → ∃ ob, s.heap.get? a = some ob ∧ ob.dict = none := by
  cases x with
  | str z =>
    obtain ⟨t, rfl⟩ := r
    cases (show T = "str" from ty)
    exact ⟨typeIs_str s z t, fun _ e => nomatch e⟩
  | int i =>
    obtain ⟨t, rfl⟩ := r
    cases (show T = "int" from ty)
    exact ⟨typeIs_int s i t, fun _ e => nomatch e⟩
  | ref p =>
    cases r
    rcases ty with ⟨rfl, xs, hq⟩ | ⟨rfl, o, hk, hc, hd⟩ | ⟨rfl, hk⟩ | ⟨rfl, S, n, hk⟩
    · obtain ⟨its, _, pl, _⟩ := I.list hq
      refine ⟨pl.isList.typeIs, fun a e => ?_⟩
      cases e
      obtain ⟨o, n, e, c, hd, _⟩ := pl
      exact ⟨o, e, hd⟩
    · refine ⟨⟨o, I.kIn p o hk, hc⟩, fun a e => ?_⟩
      cases e
      exact ⟨o, I.kIn _ o hk, hd⟩
    · have z : ∃ o, s.heap.get? p = some o ∧ o.ExactDict := by
        rcases hk with ⟨kvs, hk⟩ | ⟨kvs, hk⟩
        · obtain ⟨_, _, _, _, o, _, _, e, ex, _⟩ := I.hok p _ hk
          exact ⟨o, e, ex⟩
        · obtain ⟨_, _, _, _, o, _, _, e, ex, _⟩ := I.hok p _ hk
          exact ⟨o, e, ex⟩
      obtain ⟨o, e, ex⟩ := z
      refine ⟨⟨o, e, ex.1⟩, fun a e2 => ?_⟩
      cases e2
      exact ⟨o, e, ex.2.1⟩
    · obtain ⟨o, _, _, _, e, ex, _⟩ := I.hok p _ hk
      refine ⟨⟨o, e, ex.1⟩, fun a e2 => ?_⟩
      cases e2
      exact ⟨o, e, ex.2.1⟩
  | _ => exact False.elim ty
noncomputable def tBM (K : PySem.W.Frag) (T : String) (r : V → List V → Hp → VK → Prop) (to : TE) (t : TA) : TE := fun σ H Q => to σ H fun x H1 => tyV K T x H1 ∧ t σ H1 fun xs H2 => r x xs H2 Q
variable {o e : Expr} {es : List Expr} {to : TE} {t : TA} {name : Str} {apos cpos : Pos} {T id : String} {r : V → List V → Hp → VK → Prop}
theorem pe_bm (pa : PlainAttrs T) (slot : Slot T name id) (hty : typeOf (.builtin id) = pure (.type "method_descriptor")) (hm : MtR X id r) (ho : PE X o to) (ha : PA X (e :: es) t)
    (hbase : attributeBase o name X.env (eval o X.env) = eval o X.env := by rfl)
    (hfew : ((backTo cpos (starEach (e :: es) X.env)).all (fun x => !x.1) && (backToKw cpos (keywordEach [] X.env)).all (fun x => x.1.isSome)
      && decide ((e :: es).length + ([] : List Keyword).length + (if ([] : List Keyword).isEmpty then 0 else 1) < 30)) = true := by rfl)
    (hline : (apos.endLine == cpos.line) = true := by rfl) (hs : starEach (e :: es) X.env = (false, eval e X.env) :: starEach es X.env := by rfl) (hplain : (backTo cpos (starEach es X.env)).any (·.1) = false := by rfl) :
    PE X (.Call (.Attribute o name apos) (e :: es) [] cpos) (tBM X.K T r to t) := by
  intro pins s σ H Q I h
  refine wpAny_Call_method_late hbase hfew hline rfl (thn (ho pins s σ H _ I h) fun v s1 ⟨x, H1, I1, r1, ty, q1⟩ => ?_)
  obtain ⟨h1, h2⟩ := tyV_is I1 r1 ty
  refine ⟨T, id, pa, slot, hty, h1, h2, ?_⟩
  have hA := ha cpos pins s1 σ H1 _ I1 q1
  rw [hs] at hA ⊢
  refine Calls.callWith_builtin (by show (false || (backTo cpos (starEach es X.env)).any (·.1)) = false; rw [hplain] <;> rfl) (Calls.evalArgs_plain ?_)
  exact thn hA fun us s2 ⟨vs, H2, I2, r2, q2⟩ => hm pins s2 σ H2 x vs v us Q I2 r1 r2 q2
end
end L2
namespace L2
open PySem PySem.Spec PyProof.Rows
noncomputable def MtM (X : Cx) (id : String) (r : V → List V → Hp → VK → Prop) : Prop :=
  ∀ (pins : List (Addr × Obj)) (s : Shared) (σ : St) (H : Hp) (x : V) (xs : List V) (v : Value) (us : List Value) (Q : VK), Inv X pins σ H s → RelV x v → Vals xs us → r x xs H Q →
    wpAny (model X.prog X.w) X.A (call (.builtin id) (v :: us)) (EP X pins σ Q) X.xe s
theorem Vals.one : ∀ {x : V} {us : List Value}, Vals [x] us → ∃ u, us = [u] ∧ RelV x u
  | _, _, .cons r .nil => ⟨_, rfl, r⟩
theorem Vals.two : ∀ {x y : V} {us : List Value}, Vals [x, y] us → ∃ u v, us = [u, v] ∧ RelV x u ∧ RelV y v
  | _, _, _, .cons r (.cons q .nil) => ⟨_, _, rfl, r, q⟩
theorem Vals.zero : ∀ {us : List Value}, Vals [] us → us = []
  | _, .nil => rfl
theorem Vals.reverse {xs : List V} {us : List Value} (h : Vals xs us) : Vals xs.reverse us.reverse := by
  induction h with
  | nil => exact .nil
  | cons r t ih => rw [List.reverse_cons, List.reverse_cons]; exact Vals.append ih (.cons r .nil)
section
variable {X : Cx} {pins : List (Addr × Obj)} {σ : St} {H : Hp} {s : Shared} {l b : Addr} {xs ys zs : List V}
theorem Inv.lset {its its' : List Value} {n : Nat} {f : Array Value → Array Value} {t' : Nat} (I : Inv X pins σ H s) (hH : H l = some (.lst xs))
    (e : s.heap.get? l = some { cls := .type "list", data := .seq its.toArray n }) (hf : f its.toArray = its'.toArray) (hv : Vals ys its') (hz : ys.length ≤ sizeLine) :
    Inv X pins σ (upd H l (.lst ys)) { s with heap := s.heap.update l (Obj.mapSeq f), toks := t' } := by
  have q := PySem.IsL.update e f
  rw [hf] at q
  refine I.write (x := l) (e := l) (by rw [hH]; exact trivial) (.inl rfl) (fun b' u hb hu => (Heap.get?_update_other s.heap (Obj.mapSeq f) (Ne.symm hb)).trans hu) ⟨_, q⟩ ?_
  exact ⟨hz, its', _, hv, q⟩
theorem Inv.lnew {its : List Value} {t' : Nat} (I : Inv X pins σ H s) (hv : Vals ys its) (hz : ys.length ≤ sizeLine) :
    Inv X pins σ (upd H s.heap.objs.size (.lst ys)) { s with heap := s.heap.push { cls := .type "list", data := .seq its.toArray }, toks := t' } :=
  I.laid (fun _ _ q => Heap.get?_push_of_some _ q) (Nat.le_refl _) ⟨hz, its, 0, hv, Heap.get?_push_size _ rfl⟩
theorem Inv.fresh (I : Inv X pins σ H s) : H s.heap.objs.size = none := I.hok.fresh (Nat.le_refl _)
theorem Inv.lstM (I : Inv X pins σ H s) (hH : H l = some (.lst xs)) : xs.length ≤ sizeLine ∧ ∃ (its : List Value) (n : Nat), Vals xs its ∧ xs.length = its.length ∧ s.heap.get? l = some { cls := .type "list", data := .seq its.toArray n } := by
  obtain ⟨z, its, n, r, e⟩ := I.hok l _ hH
  exact ⟨z, its, n, r, r.length, e⟩
end
section
variable {X : Cx}
noncomputable def rAppend : V → List V → Hp → VK → Prop := fun x vs H Q => ∃ l xs y, x = .ref l ∧ vs = [y] ∧ H l = some (.lst xs) ∧ xs.length < sizeLine ∧ Q .non (upd H l (.lst (xs ++ [y])))
theorem mt_append : MtM X "list.append" rAppend := by
  intro pins s σ H x vs v us Q I rx rv h
  obtain ⟨l, xs, y, rfl, rfl, hH, hz, q⟩ := h
  cases rx
  obtain ⟨u, rfl, ru⟩ := rv.one
  obtain ⟨z, its, n, r, hl, e⟩ := I.lstM hH
  refine call_meets F.slot_list_append ⟨_, e, rfl⟩ F.entry_list_append (F.args_list_append_2 _ _) (PySem.list_append l its.toArray n u (by rw [List.size_toArray]; omega)) ⟨e, ?_⟩
  refine ⟨.non, _, I.lset (its' := its ++ [u]) hH e (by simp) (r.append (.cons ru .nil)) ?_, rfl, q⟩
  rw [List.length_append, List.length_singleton]
  omega
noncomputable def rCat : R2 := fun x y H Q => ∃ l b xs zs, x = .ref l ∧ y = .ref b ∧ H l = some (.lst xs) ∧ H b = some (.lst zs) ∧ xs.length + zs.length ≤ sizeLine ∧ ∀ p, H p = none → Q (.ref p) (upd H p (.lst (xs ++ zs)))
theorem op_cat : OpR X (binaryOp .Add) rCat := by
  intro pins s σ H x y v u Q I rx ry h
  obtain ⟨l, b, xs, zs, rfl, rfl, hH, hB, hz, q⟩ := h
  cases rx
  cases ry
  obtain ⟨z, its, n, r, hl, e⟩ := I.lstM hH
  obtain ⟨z2, its2, n2, r2, hl2, e2⟩ := I.lstM hB
  refine PySem.P.add_list e e2 ?_ (by rw [List.size_toArray, List.size_toArray]; omega)
  have ea : its.toArray ++ its2.toArray = (its ++ its2).toArray := by simp
  rw [ea]
  exact ⟨.ref _, _, I.lnew (t' := s.toks) (r.append r2) (by rw [List.length_append]; omega), rfl, q _ I.fresh⟩
end
section
variable {prog : Program} {w : World} {A : Around} {E : Value → Shared → Prop} {s : Shared}
end
section
variable {X : Cx}
end
end L2
namespace Att
open PySem PySem.W PySem.Calls PyProof.Rows
theorem ints_of_wellAll {P : Params} {h : Heap} : ∀ (ns : List Int) (vs : List Value), WellAll P h vs (ns.map WData.int) → IntsAre vs ns := by
  intro ns
  induction ns with
  | nil =>
    intro vs w
    rw [List.map_nil] at w
    cases w
    exact .nil
  | cons n ns ih =>
    intro vs w
    rw [List.map_cons] at w
    cases w with
    | cons a b =>
      cases a
      exact .cons _ _ (ih _ b)
theorem script_of {l : OpenLaw} {n : Nat} (hn : l.most = some n) {P : Params} {h : Heap} {args : List WData} {vals : List Value}
    (hpre : l.row.toRowW.claim.pre args = true) (hwl : WellAll P h vals args) :
    ∃ a vs ns, vals = [Value.ref a] ∧ args = [WData.list (ns.map WData.int)] ∧ h.get? a = some { cls := .type "list", data := .seq vs.toArray } ∧ IntsAre vs ns ∧ ns.length ≤ n := by
  have hsh : WShape.hasAll [] args [.list .int] = true := (pre_splitW hpre).1
  have hc : l.pre.holds [] { args := args } = true := (pre_splitW hpre).2
  obtain ⟨d, r, rfl, h1, h2⟩ := hasAllW_cons hsh
  obtain rfl := hasAllW_nil h2
  obtain ⟨xs, rfl, h3⟩ := hasW_list h1
  obtain ⟨ns, rfl⟩ := items_int h3
  have hlen : ns.length ≤ n := by
    unfold OpenLaw.pre at hc
    have h4 : (WTm.not (.lt (.lit (.int (n : Int))) (.len (.arg 0)))).holds [] { args := [.list (ns.map .int)] } = true := by
      have h4 := (holds_andW hc).1
      rw [hn] at h4
      exact h4
    have h5 := condW_of h4 (w_not (w_lt w_lit (w_len_list (w_arg rfl))))
    rw [List.length_map] at h5
    refine Nat.le_of_not_lt fun q => ?_
    have q' : (n : Int) < ((ns.length : Nat) : Int) := by omega
    first
      | (rw [decide_eq_true q'] at h5; exact absurd h5 (by decide))
      | (simp at h5; omega)
  cases hwl with
  | cons w1 w2 =>
    cases w2
    cases w1 with
    | list ho hall => exact ⟨_, _, ns, rfl, rfl, ho, ints_of_wellAll ns _ hall, hlen⟩
theorem post_true (l : OpenLaw) (args : List WData) : l.row.toRowW.claim.post args (.bool true) args = true :=
  postW_of (r := l.row.toRowW) (X := (true == true))
    (show WShape.has [] (.bool true) .bool = true by first | rfl | decide | simp [WShape.has, WShape.arms, WShape.armsAll])
    (show (WTm.eq .res (.lit (.bool true))).value [] { args := args, res := some (.bool true), after := args } = some (.bool (true == true)) from w_eq_bool (w_res rfl) w_lit) rfl
section
variable {prog : Program} {w : World} {A : Around} {E : Value → Shared → Prop} {s : Shared} {K : Frag}
end
end Att
namespace L2
open PySem PySem.Spec PyProof.Rows
theorem vals_ints : ∀ {vs : List Value} {ns : List Int}, IntsAre vs ns → Vals (ns.map V.int) vs
  | _, _, .nil => .nil
  | _, _, .cons n t h => .cons ⟨t, rfl⟩ (vals_ints h)
end L2
namespace L2
open PySem PySem.Spec PyProof.Rows
end L2
namespace L2
open PySem PySem.Spec PyProof.Rows
noncomputable def defArgs (s : Stmt) : Arguments := match s with
  | .FunctionDef _ a _ _ _ _ _ _ _ _ => a
  | _ => { posonlyargs := [], args := [], vararg := none, kwonlyargs := [], kw_defaults := [], kwarg := none, defaults := [] }
noncomputable def defBody (s : Stmt) : List Stmt := match s with
  | .FunctionDef _ _ b _ _ _ _ _ _ _ => b
  | _ => []
noncomputable def defScope (s : Stmt) : Scope := match s with
  | .FunctionDef _ _ _ _ _ _ sc _ _ _ => sc
  | _ => { kind := .function, names := [], isGenerator := false, isCoroutine := false }
noncomputable abbrev CX0 : CXT := fun _ _ _ _ _ _ => False
noncomputable abbrev E0 : XK := fun _ _ _ => False
theorem pass0 {X : Cx} : Passes CX0 X E0 := fun _ _ _ _ _ _ _ h => h.elim
structure Fun (K : PySem.W.Frag) (x qual : Str) (st : Stmt) (f : Addr) (fd : FuncData) : Prop where
  ex : ∃ (oc : Value) (od : Option Addr) (kV doc pm : Value) (an : Option Addr) (cdv ct : Value) (osl : Array (Option Value)),
    fd = PySem.W.fnOf x qual (defArgs st) (defBody st) (defScope st) .none kV doc pm an cdv ct ∧ K.lookup f = some ⟨oc, od, .func fd, osl⟩ ∧ PySem.W.codeIn K cdv qual = true
  kp : PySem.W.keepIn K (.ref f) = true
section
variable {P : Program} {w : World} {K : PySem.W.Frag} {mg : Str → Option Value} {base : Heap}
theorem Fun.ok {x qual : Str} {st : Stmt} {f : Addr} {fd : FuncData} {N ps : List Str} {k : Nat} {sp : Sp} (F : Fun K x qual st f fd) (S : FnScope N ps (defScope st)) (len : ∀ vs H Q E, sp vs H Q E → vs.length = ps.length)
    (hbody : ∀ (cdv : Value) (A : Around) (outer : List Env) (s : Shared) (H : Hp) (vs : List V) (Q : VK) (E : XK), Room k (A.deeper (envOfC qual (defScope st) s.heap.objs.size f cdv)) → sp vs H Q E →
      ∃ t, PSs (cxOf CX0 P w K mg base N qual (defScope st) f cdv A outer s H E).nox (defBody st) t ∧ t { nx := fun _ H' => Q .non H', rt := Q } (start N vs) H) : FnOk P w K mg base CX0 (k + 1) f fd ps sp := by
  obtain ⟨oc, od, kV, doc, pm, an, cdv, ct, osl, rfl, lk, hcd⟩ := F.ex
  refine fn_of lk hcd S len fun A outer s H vs Q E hr hsp => ?_
  obtain ⟨t, h, q⟩ := hbody cdv A outer s H vs Q E hr hsp
  exact ⟨t, h.nox, q⟩
theorem Fun.binds {x qual : Str} {st : Stmt} {f : Addr} {fd : FuncData} {ps : List Str} (F : Fun K x qual st f fd)
    (h : ∀ (kV doc pm : Value) (an : Option Addr) (cdv ct : Value) (us : List Value), us.length = ps.length → bindArgs (PySem.W.fnOf x qual (defArgs st) (defBody st) (defScope st) .none kV doc pm an cdv ct) ⟨us, []⟩ = pure (ps.zip us)) : Binds K fd ps [] := by
  obtain ⟨oc, od, kV, doc, pm, an, cdv, ct, osl, rfl, lk, hcd⟩ := F.ex
  exact .all (h kV doc pm an cdv ct)
theorem fun_mk {x qual : Str} {st : Stmt} {f : Addr} {oc : Value} {od an : Option Addr} {osl : Array (Option Value)} {kV doc pm cdv ct : Value} (l : K.lookup f = some ⟨oc, od, .func (PySem.W.fnOf x qual (defArgs st) (defBody st) (defScope st) .none kV doc pm an cdv ct), osl⟩)
    (c : PySem.W.codeIn K cdv qual = true) (k : PySem.W.keepIn K (.ref f) = true) : Fun K x qual st f (PySem.W.fnOf x qual (defArgs st) (defBody st) (defScope st) .none kV doc pm an cdv ct) := ⟨⟨oc, od, kV, doc, pm, an, cdv, ct, osl, rfl, l, c⟩, k⟩
end
section
variable {X : Cx}
theorem pv (i : Nat) {x : Str} {pos : Pos} (hN : X.N[i]? = some x := by rfl) (hv : Vis X.env.scope x := by first | exact Or.inl rfl | exact Or.inr (Or.inl rfl) | exact Or.inr (Or.inr rfl)) (hd : (x == ("__debug__" : Str)) = false := by decide)
    (hcd : (x == ("__classdict__" : Str)) = false := by decide) : PE X (.Name x pos) (tVar i) := pe_var hN hv hd hcd
end
theorem iteF {A B : Prop} (h : B) : if false = true then A else B := by
  rw [if_neg Bool.false_ne_true]
  exact h
theorem iteT {A B : Prop} (h : A) : if true = true then A else B := by
  rw [if_pos rfl]
  exact h
theorem ite2 {c A B : Prop} [Decidable c] (h1 : c → A) (h2 : ¬ c → B) : if c then A else B := by
  by_cases h : c
  · rw [if_pos h]
    exact h1 h
  · rw [if_neg h]
    exact h2 h
noncomputable def Same (H H' : Hp) : Prop := ∀ b o, H b = some o → H' b = some o
theorem Same.refl (H : Hp) : Same H H := fun _ _ h => h
theorem Same.trans {H H1 H2 : Hp} (a : Same H H1) (b : Same H1 H2) : Same H H2 := fun c o h => b c o (a c o h)
theorem Same.free {H H' : Hp} (e : Same H H') {l : Addr} (h : H' l = Option.none) : H l = Option.none := by
  cases q : H l with
  | none => rfl
  | some o =>
    rw [e l o q] at h
    cases h
theorem Same.seq {K : PySem.W.Frag} {H H' : Hp} {a : Addr} {xs : List V} (e : Same H H') (h : SqL K H a xs) : SqL K H' a xs := by
  rcases h with (h | ⟨o, h⟩) | h
  · exact .inl (.inl (e _ _ h))
  · exact .inl (.inr ⟨o, e _ _ h⟩)
  · exact .inr h
end L2
set_option maxHeartbeats 4000000
namespace L2
open PySem PySem.Spec PyProof.Rows
section
variable {X : Cx}
noncomputable def Sml (i : Int) : Prop := i.natAbs < 2 ^ 4000
theorem Sml.bits {i : Int} (h : Sml i) : Builtin.Int.intBits i ≤ 4000 := intBits_le_iff.mpr h
theorem call_isinst : CallR X (.builtin "isinstance") (fun xs H Q => ∃ x t T b, xs = [x, .ty T] ∧ TyOf X.K H x t ∧ PySem.W.kitOne X.K t (.type T) = some b ∧ Q (.bl b) H) := by
  intro pins s σ H xs us Q I r h
  obtain ⟨x, t, T, b, rfl, ty, e, q⟩ := h
  obtain ⟨u, w', rfl, r1, r2⟩ := vals2 r
  cases r2
  exact isinst_ok I r1 ty e fun tk => ⟨.bl b, H, I.tok _, rfl, q⟩
theorem intItems_of : ∀ {ns : List Int} {us : List Value}, Vals (ns.map V.int) us → ∃ xs : Array (Int × Tok), us.toArray = intItems xs ∧ xs.toList.map (·.1) = ns := fun {ns us} r => by
  have hi : IntsAre us ns := intsAre_of r
  obtain ⟨xs, hx⟩ := hi.allInts.items
  refine ⟨xs, hx, ?_⟩
  rw [← nums_intItems, ← hx]
  exact (show numsOf us.toArray.toList = ns from hi.numsOf)
theorem call_sum (hc : X.calm = true) : CallR X (.builtin "sum") (fun xs H Q => ∃ (p : Addr) (ns : List Int), xs = [.ref p] ∧ SqL X.K H p (ns.map V.int) ∧ Q (.int ns.sum) H) := by
  intro pins s σ H xs us Q I r h
  obtain ⟨p, ns, rfl, hq, q⟩ := h
  obtain ⟨u, rfl, r1⟩ := vals1 r
  cases r1
  obtain ⟨its, rv, pl, hz⟩ := I.list hq
  obtain ⟨ys, hy, e1⟩ := intItems_of rv
  refine sum_intListG (I.ok.hd hc) (hy ▸ pl.isList) fun h' tk t' hk => ?_
  have e2 : preSum (numAt ys) ys.size = ns.sum := by
    rw [preSum_eq, List.take_of_length_le (by simp), e1]
  rw [e2]
  exact ⟨.int ns.sum, H, I.kept hk, ⟨_, rfl⟩, q⟩
end
theorem boot_min : bootBuiltins "min" = some (.builtin "min") := PyProof.Rows.boot_min
theorem boot_max : bootBuiltins "max" = some (.builtin "max") := PyProof.Rows.boot_max
theorem boot_sum : bootBuiltins "sum" = some (.builtin "sum") := PyProof.Rows.boot_sum
theorem boot_abs : bootBuiltins "abs" = some (.builtin "abs") := PyProof.Rows.boot_abs
theorem boot_isinstance : bootBuiltins "isinstance" = some (.builtin "isinstance") := PyProof.Rows.boot_isinstance
theorem boot_int : bootBuiltins "int" = some (.type "int") := PyProof.Rows.boot_int
theorem boot_bool : bootBuiltins "bool" = some (.type "bool") := PyProof.Rows.boot_bool
theorem boot_tuple : bootBuiltins "tuple" = some (.type "tuple") := PyProof.Rows.boot_tuple
theorem boot_list : bootBuiltins "list" = some (.type "list") := PyProof.Rows.boot_list
theorem getD_in {α : Type} {ns : List α} {i : Nat} {d : α} (h : i < ns.length) : ns.getD i d = ns[i] := by simp [List.getD, h]
theorem same_new {H : Hp} {p : Addr} (h : H p = none) (o : HO) : Same H (upd H p o) := fun b u q => by rw [upd_ne (ne_of_none q h)]; exact q
theorem eqT {Q : VK} {H : Hp} {a b : V} (e : a = b) (q : Q (.bl true) H) : Q (.bl (decide (a = b))) H := by
  rw [decide_eq_true e]; exact q
theorem ofD {p : Prop} [Decidable p] (h : ¬ decide p = true) : ¬ p := of_decide_eq_false (Bool.eq_false_iff.mpr h)
theorem sub1 {cs : List (Str × Addr)} {x : Str} {c : Addr} (h : cs.lookup x = some c) : ∀ y c', [(x, c)].lookup y = some c' → cs.lookup y = some c' := fun y c' e => by
  by_cases z : y = x
  · subst z
    simp at e
    subst e
    exact h
  · have : (y == x) = false := by simpa using z
    simp [List.lookup, this] at e
theorem at_getD {ns : List Int} {i : Int} (h0 : 0 ≤ i) (h1 : i < (ns.length : Int)) : atI (ns.map V.int) i = some (.int (ns.getD i.toNat 0)) := by
  have hk : i.toNat < ns.length := by omega
  have ek : i = ((i.toNat : Nat) : Int) := by omega
  have z : atI (ns.map V.int) ((i.toNat : Nat) : Int) = some (.int ns[i.toNat]) := atI_nat (by rw [List.getElem?_map, List.getElem?_eq_getElem hk] <;> rfl)
  rw [← ek] at z
  rw [z, getD_in hk]
theorem md0 (c : Int) {m : Int} (h : 0 < m) : 0 ≤ c % m := Int.emod_nonneg _ (by omega)
theorem md1 (c : Int) {m : Int} (h : 0 < m) : c % m < m := Int.emod_lt_of_pos _ h
end L2
set_option maxHeartbeats 4000000
namespace L2
open PySem PySem.Spec PyProof.Rows
noncomputable def cxComp (X : Cx) (N' : List Str) (scope : Scope) (cl : List (Str × Addr)) (C : Addr) (s3 : Shared) (H3 : Hp) (fp : List Addr) : Cx where
  prog := X.prog
  w := X.w
  K := X.K
  mg := X.mg
  base := X.base
  A := X.A
  N := N'
  s₀ := s3
  H₀ := H3
  env := compEnvC scope cl C X.env
  outer := X.stack
  stack := X.stack
  ex := fp
  fn := fun _ => false
  calm := X.calm
  pn := []
  xe := fun _ _ => False
noncomputable def taken (σ : St) (fr : List Nat) : St := fr.map fun j => (σ[j]?).getD none
noncomputable def CompGo (J : It) (te : TE) (st : St) (D : Addr) (H1 : Hp) (Q : VK) : Prop :=
  ∃ W : Nat → Nat → List V → Hp → Prop, (∃ m, W 0 m [] (upd H1 D (.lst []))) ∧ ∀ i m ys H2, W i m ys H2 →
    (J.stop i H2 ∧ Q (.ref D) H2) ∨ (J.go i H2 ∧ ∀ x H3, J.yld i H2 x H3 → te (some x :: st) H3 fun y H4 => H4 D = some (.lst ys) ∧ ys.length < sizeLine ∧ ∃ m', m' < m ∧ W (i + 1) m' (ys ++ [y]) (upd H4 D (.lst (ys ++ [y]))))
noncomputable def tComp (wi : TI) (fr : List Nat) (te : TE) : TE := fun σ H Q => wi σ H fun J H1 => ∀ D, H1 D = none → CompGo J te (taken σ fr) D H1 Q
theorem compLoop_any {prog : Program} {w : World} {A : Around} {R : Result → Shared → Prop} {s : Shared} {elt tg iter : Expr} {scope : Scope} {pos : Pos} {it acc : Value} {env : Env} (Iv : Nat → Shared → Prop)
    (turn : ∀ k s, Iv k s → wpAny (model prog w) A (pyNext it) (fun r s1 => match r with
      | none => R (.ok .next) s1
      | some v => wpAny (model prog w) A (letOwnedTupleGo tg it v) (fun _ s2 => wpAny (model prog w) A (assign tg env v) (fun _ s3 => wpAny (model prog w) A (eval elt env) (fun y s4 =>
          wpAny (model prog w) A (call (.builtin "list.append") [acc, y]) (fun _ s5 => ∃ m, m < k ∧ Iv m s5) (fun _ _ => False) s4) (fun _ _ => False) s3) (fun _ _ => False) s2) (fun _ _ => False) s1) (fun _ _ => False) s)
    (k : Nat) (h : Iv k s) : codeAny (model prog w) A (.compLoop (.ListComp elt [⟨tg, iter, [], 0⟩] scope pos) 0 it acc env) R s := by
  refine codeAny_loop rfl Iv (fun k s hI => ?_) k h
  show wpAny _ _ ((compTurn (.ListComp elt [⟨tg, iter, [], 0⟩] scope pos) 0 it acc env).onRaise (fun e => do noteFrame e env; theTreesLotGoes e)) _ _ s
  refine wpAny_noted ?_
  rw [compTurn_list1]
  refine wpAny_bind (wpAny_standAt (wpAny_bind (wpAny_mono (turn k s hI) (fun r s1 h1 => ?_) fun _ _ f => f.elim)))
  cases r with
  | none => exact wpAny_pure h1
  | some v =>
    exact wpAny_bind (wpAny_mono h1 (fun _ s2 h2 => wpAny_bind (wpAny_mono h2 (fun _ s3 h3 => wpAny_bind (wpAny_bind (wpAny_mono h3 (fun y s4 h4 => wpAny_bind (wpAny_mono h4
      (fun _ s5 h5 => wpAny_pure (wpAny_pure ⟨rfl, h5⟩)) fun _ _ f => f.elim)) fun _ _ f => f.elim))) fun _ _ f => f.elim)) fun _ _ f => f.elim)
theorem comp_range {lo : Int} {n : Nat} {te : TE} {st : St} {H1 : Hp} {Q : VK} {D : Addr} (f : Nat → V) (hD : H1 D = none) (hn : n ≤ sizeLine)
    (hs : ∀ (i : Nat) (H2 : Hp) (k : VK), i < n → Same H1 H2 → (∀ H4, Same H2 H4 → k (f i) H4) → te (some (.int (lo + i)) :: st) H2 k)
    (hd : ∀ H2, Same H1 H2 → H2 D = some (.lst ((List.range n).map f)) → Q (.ref D) H2) : CompGo (Itr lo n) te st D H1 Q := by
  have same : ∀ {H2 : Hp} {o : HO}, Same H1 H2 → Same H1 (upd H2 D o) := fun {H2 o} h b u e => by rw [upd_ne (ne_of_none e hD)]; exact h b u e
  refine ⟨fun i m ys H2 => m = n - i ∧ i ≤ n ∧ ys = (List.range i).map f ∧ Same H1 H2 ∧ H2 D = some (.lst ys), ⟨n, by simp, Nat.zero_le _, rfl, same (Same.refl H1), upd_same⟩, ?_⟩
  rintro i m ys H2 ⟨rfl, hi, rfl, sm, e⟩
  by_cases hlt : i < n
  · refine .inr ⟨hlt, fun x H3 y => ?_⟩
    obtain ⟨e1, e2⟩ := y
    subst e1 e2
    have ln : ((List.range i).map f).length = i := by rw [List.length_map, List.length_range]
    refine hs i _ _ hlt sm fun H4 s4 => ⟨s4 _ _ e, by rw [ln]; omega, n - (i + 1), by omega, rfl, hlt, ?_, same (sm.trans s4), upd_same⟩
    rw [List.range_succ, List.map_append] <;> rfl
  · have ei : i = n := by omega
    subst ei
    exact .inl ⟨Nat.le_refl _, hd _ sm e⟩
structure CompOk (X : Cx) (x : Str) (ts : List (Str × Nat)) (scope : Scope) (cl : List (Str × Addr)) : Prop where
  clos : closureFor scope X.env = pure cl
  sub : ∀ y c, cl.lookup y = some c → X.env.cells.lookup y = some c
  nocell : (scope.names.all fun p => p.2 != .cell) = true
  kind : scope.kind = .function
  locs : (scope.names.all fun p => p.2 != .local || scope.names.lookup p.1 == some .local) = true
  var : scope.names.lookup x = some .local
  nd : (x :: ts.map (·.1)).Nodup
  around : (ts.all fun p => decide (X.N[p.2]? = some p.1) && (X.env.kindOf p.1 == some .cell || X.env.kindOf p.1 == some .free) && (cl.lookup p.1).isSome &&
    ((relabel scope X.env).names.lookup p.1 == some .cell || (relabel scope X.env).names.lookup p.1 == some .free)) = true
  has : ((relabel scope X.env).names.all fun p => !(p.2 == .cell || p.2 == .free) || (cl.lookup p.1).isSome) = true
noncomputable abbrev nmsOf (x : Str) (ts : List (Str × Nat)) : List Str := x :: ts.map (·.1)
noncomputable abbrev sltOf (ts : List (Str × Nat)) : List Nat := ts.map (·.2)
theorem CompOk.nocell' {X : Cx} {x : Str} {ts : List (Str × Nat)} {scope : Scope} {cl : List (Str × Addr)} (O : CompOk X x ts scope cl) : ∀ y ∈ scope.names, y.2 ≠ .cell := fun y hy e => by
  have := List.all_eq_true.mp O.nocell y hy
  rw [e] at this
  cases this
theorem CompOk.locs' {X : Cx} {x : Str} {ts : List (Str × Nat)} {scope : Scope} {cl : List (Str × Addr)} (O : CompOk X x ts scope cl) : ∀ y ∈ scope.names, y.2 = .local → scope.names.lookup y.1 = some .local := fun y hy e => by
  have h := List.all_eq_true.mp O.locs y hy
  rw [e] at h
  rcases Bool.or_eq_true_iff.mp h with z | z
  · cases z
  · exact beq_iff_eq.mp z
theorem CompOk.from' {X : Cx} {x : Str} {ts : List (Str × Nat)} {scope : Scope} {cl : List (Str × Addr)} (O : CompOk X x ts scope cl) : ∀ (i : Nat) (y : Str), (nmsOf x ts)[i + 1]? = some y → ∃ j, (sltOf ts)[i]? = some j ∧ X.N[j]? = some y ∧ (X.env.kindOf y = some .cell ∨ X.env.kindOf y = some .free) ∧ (cl.lookup y).isSome = true ∧
    ((relabel scope X.env).names.lookup y = some .cell ∨ (relabel scope X.env).names.lookup y = some .free) := fun i y e => by
  have e1 : (ts.map (·.1))[i]? = some y := by simpa using e
  rw [List.getElem?_map] at e1
  cases q : ts[i]? with
  | none => rw [q] at e1; cases e1
  | some p =>
    rw [q] at e1
    have e2 : p.1 = y := Option.some.inj e1
    subst e2
    have h := List.all_eq_true.mp O.around p (List.mem_of_getElem? q)
    simp only [Bool.and_eq_true, Bool.or_eq_true, beq_iff_eq, decide_eq_true_eq] at h
    obtain ⟨⟨⟨h1, h2⟩, h3⟩, h4⟩ := h
    refine ⟨p.2, ?_, h1, h2, h3, h4⟩
    show (ts.map (·.2))[i]? = some p.2
    rw [List.getElem?_map, q] <;> rfl
theorem CompOk.has' {X : Cx} {x : Str} {ts : List (Str × Nat)} {scope : Scope} {cl : List (Str × Addr)} (O : CompOk X x ts scope cl) : ∀ y, ((relabel scope X.env).names.lookup y = some .cell ∨ (relabel scope X.env).names.lookup y = some .free) → (cl.lookup y).isSome = true := fun y h => by
  have go : ∀ k : NameKind, (k = .cell ∨ k = .free) → (relabel scope X.env).names.lookup y = some k → (cl.lookup y).isSome = true := fun k hk e => by
    have z := List.all_eq_true.mp O.has (y, k) (PySem.mem_of_lookup e)
    rcases Bool.or_eq_true_iff.mp z with z | z
    · rcases hk with e | e <;> (rw [e] at z; cases z)
    · exact z
  rcases h with h | h
  · exact go _ (.inl rfl) h
  · exact go _ (.inr rfl) h
section
variable {X : Cx} {elt iter : Expr} {x : Str} {px pos : Pos} {scope : Scope} {cl : List (Str × Addr)} {ts : List (Str × Nat)} {wi : TI} {te : TE}
theorem comp_ok {pins : List (Addr × Obj)} {σ : St} {H3 : Hp} {s3 : Shared} {fp : List Addr} (O : CompOk X x ts scope cl) (I3 : Inv X pins σ H3 s3) (hfp : ∀ b ∈ fp, FpOk X pins H3 b ∧ b < s3.heap.objs.size) :
    (cxComp X (nmsOf x ts) scope cl s3.heap.objs.size s3 H3 fp).Ok where
  mod := I3.ok.mod
  kind := O.kind
  glob := I3.ok.glob
  blt := I3.ok.blt
  above := Nat.le_refl _
  inj := fun y z c h1 h2 => I3.ok.inj y z c (O.sub y c h1) (O.sub z c h2)
  has := fun y h => Option.isSome_iff_exists.mp (O.has' y h)
  cab := fun y c h => by cases h
  hd := I3.ok.hd
  frames := I3.ok.frames
  stk := .inl rfl
  exf := fun b hb => ⟨Nat.ne_of_lt (hfp b hb).2, fun y c e => (hfp b hb).1.2.2.2.2.1 y c (O.sub y c e)⟩
  bs := fun b o e => I3.bs b o e
  bsz := Nat.le_trans I3.ok.bsz I3.sz
  noex := fun b o e hb => by
    rcases (hfp b hb).1.2.2.2.1 with z | z
    · exact I3.ok.noex b o e z
    · exact absurd (Nat.lt_of_lt_of_le (Heap.lt_size (I3.ok.bs b o e).1) z) (Nat.lt_irrefl _)
  exfs := fun b hb hz => by
    rcases List.mem_cons.mp (I3.stkSub b hz) with e | e
    · exact (hfp b hb).1.2.1 e
    · exact (hfp b hb).1.2.2.1 e
  funs := I3.stack
  frf := I3.stkFree
theorem comp_start {pins : List (Addr × Obj)} {σ : St} {H3 : Hp} {s3 : Shared} {fp : List Addr} {h1 : Heap} {tk : Nat} (O : CompOk X x ts scope cl) (I3 : Inv X pins σ H3 s3) (hfp : ∀ b ∈ fp, FpOk X pins H3 b ∧ b < s3.heap.objs.size)
    (hns : h1.Ns s3.heap.objs.size fun _ => none) (old : ∀ b o, s3.heap.get? b = some o → h1.get? b = some o) :
    Inv (cxComp X (nmsOf x ts) scope cl s3.heap.objs.size s3 H3 fp) [] (none :: taken σ (sltOf ts)) H3 { s3 with heap := h1, toks := tk } := by
  refine ⟨comp_ok O I3 hfp, rfl, I3.bare, Un.kept old, ⟨_, hns, fun i y v e1 e2 e3 => ?_⟩, fun y c e => ?_, I3.hok.fresh (Nat.le_refl _), fun y c e => I3.freeC y c (O.sub y c e), fun p hp => absurd (show p ∈ ([] : List (Addr × Obj)) from hp) (by simp), I3.hok.kept old, ?_⟩
  · cases i with
    | zero => simp at e2
    | succ i =>
      obtain ⟨j, hj, hN, hk, hcl, hk2⟩ := O.from' i y e1
      have e2' : σ[j]? = some (some v) := by
        have q : (taken σ (sltOf ts))[i]? = some (some v) := by simpa using e2
        unfold taken at q
        rw [List.getElem?_map, hj] at q
        have q' : (σ[j]?).getD none = some v := Option.some.inj q
        cases z : σ[j]? with
        | none => rw [z] at q'; cases q'
        | some w => rw [z] at q'; rw [show w = some v from q']
      obtain ⟨m, hn, hl⟩ := I3.loc
      have vis : Vis X.env.scope y := hk.elim (fun z => .inr (.inl z)) fun z => .inr (.inr z)
      obtain ⟨u, r, l⟩ := hl j y v hN e2' vis
      obtain ⟨c, hc⟩ := Option.isSome_iff_exists.mp hcl
      refine ⟨u, r, .inr ⟨hk2, c, hc, ?_⟩⟩
      rcases l with ⟨k, _⟩ | ⟨_, c', hc', z⟩
      · rcases hk with hk | hk
        · rw [k] at hk; cases hk
        · rw [k] at hk; cases hk
      · rw [O.sub y c hc] at hc'
        cases hc'
        obtain ⟨o, ho, hd⟩ := z
        exact ⟨o, old c o ho, hd⟩
  · obtain ⟨v, o, ho, hd⟩ := I3.cell y c (O.sub y c e)
    exact ⟨v, o, old c o ho, hd⟩
  · show (none :: taken σ (sltOf ts)).length = (nmsOf x ts).length
    simp [taken]
theorem pe_comp (hc : X.calm = true) (O : CompOk X x ts scope cl) (hi : PI X (.Name x px) iter wi) (he : ∀ C s3 H3 fp, PE (cxComp X (nmsOf x ts) scope cl C s3 H3 fp) elt te)
    (hs : ∀ x, foldedSetIterable iter X.env x = pure x := by intro _; rfl) : PE X (.ListComp elt [⟨.Name x px, iter, [], 0⟩] scope pos) (tComp wi (sltOf ts) te) := by
  intro pins s σ H Q I h
  rw [eval_ListComp]
  refine wpAny_comprehension_free (use := none) rfl hs O.clos O.kind O.locs' (thn (hi pins s σ H _ I h) fun v s1 h1 => thn h1 fun itv s2 h2 => ?_)
  obtain ⟨it, fp, tn, J, H2, rfl, I2, T, st2, f2, q⟩ := h2
  have hD : H2 s2.heap.objs.size = none := I2.hok.fresh (Nat.le_refl _)
  obtain ⟨W, ⟨m0, w0⟩, turn⟩ := q s2.heap.objs.size hD
  refine wpAny_newObj_type ?_
  have I3 : Inv X pins σ (upd H2 s2.heap.objs.size (.lst [])) { s2 with heap := s2.heap.push { cls := .type "list", dict := none, data := .seq ([] : List Value).toArray } } :=
    I2.laid (a := s2.heap.objs.size) (o := .lst []) (t' := s2.toks) (fun b u e => Heap.get?_push_of_some _ e) (Nat.le_refl _) ⟨Nat.zero_le _, [], 0, .nil, Heap.get?_push_size _ rfl⟩
  generalize hs3 : ({ s2 with heap := s2.heap.push { cls := .type "list", dict := none, data := .seq ([] : List Value).toArray } } : Shared) = s3 at I3
  have sz3 : s3.heap.objs.size = s2.heap.objs.size + 1 := by rw [← hs3, Heap.size_push]
  have old3 : ∀ b u, s2.heap.get? b = some u → s3.heap.get? b = some u := fun b u e => by rw [← hs3]; exact Heap.get?_push_of_some _ e
  generalize hH3 : upd H2 s2.heap.objs.size (.lst []) = H3 at I3 w0
  have H3D : H3 s2.heap.objs.size = some (.lst []) := by rw [← hH3]; exact upd_same
  have fp2 : ∀ b ∈ fp, b < s2.heap.objs.size := fun b hb => by
    obtain ⟨o, e, _⟩ := T.obj _ _ st2 b hb
    exact Heap.lt_size e
  have hfp : ∀ b ∈ fp, FpOk X pins H3 b ∧ b < s3.heap.objs.size := fun b hb => by
    refine ⟨⟨?_, (f2 b hb).2⟩, by rw [sz3]; exact Nat.lt_succ_of_lt (fp2 b hb)⟩
    rw [← hH3, upd_ne (Nat.ne_of_lt (fp2 b hb))]
    exact (f2 b hb).1
  refine wpAny_newFunctionEnv O.nocell' (by intro y hy; simp at hy) (fun h₁ hns₁ hsb₁ => ?_) O.kind
  have old : ∀ b o, s3.heap.get? b = some o → h₁.get? b = some o := fun b o e => hsb₁.extBut b o (Nat.ne_of_lt (Heap.lt_size e)) (Heap.get?_push_of_some _ e)
  have start : Inv (cxComp X (nmsOf x ts) scope cl s3.heap.objs.size s3 H3 fp) [] (none :: taken σ (sltOf ts)) H3 { s3 with heap := h₁, toks := s3.toks + 0 } := comp_start O I3 hfp hns₁ old
  have st4 : tn 0 h₁ := T.keep _ _ _ st2 fun b hb o e => old b o (old3 b o e)
  have okX : ∀ {H' : Hp}, (∀ b ∈ fp, H' b = none) → ∀ b ∈ fp, FpOk (cxComp X (nmsOf x ts) scope cl s3.heap.objs.size s3 H3 fp) [] H' b := fun hn b hb => by
    refine ⟨hn b hb, Nat.ne_of_lt (hfp b hb).2, fun z => ?_, .inl hb, fun y c e => (f2 b hb).2.2.2.2.1 y c (O.sub y c e), fun p hp => absurd (show p ∈ ([] : List (Addr × Obj)) from hp) (by simp)⟩
    rcases List.mem_cons.mp (I3.stkSub b z) with e | e
    · exact (f2 b hb).2.1 e
    · exact (f2 b hb).2.2.1 e
  have loop : ∀ s₄ : Shared, s₄ = { s3 with heap := h₁, toks := s3.toks + 0 } →
      codeAny (model X.prog X.w) X.A (.compLoop (.ListComp elt [⟨.Name x px, iter, [], 0⟩] scope pos) 0 (.ref it) (.ref s2.heap.objs.size) (compEnvC scope cl s3.heap.objs.size X.env))
        (compPost (model X.prog X.w) X.A X.xe none (EP X pins σ Q) (.ref s2.heap.objs.size) s3.heap.objs.size) s₄ := by
    rintro s₄ rfl
    refine compLoop_any (fun n s' => ∃ i ys σ0 H', Inv (cxComp X (nmsOf x ts) scope cl s3.heap.objs.size s3 H3 fp) [] (σ0 :: taken σ (sltOf ts)) H' s' ∧ tn i s'.heap ∧ (∀ b ∈ fp, H' b = none) ∧ W i n ys H') ?_ m0
      ⟨0, [], none, H3, start, st4, fun b hb => (hfp b hb).1.1, w0⟩
    rintro n s5 ⟨i, ys, σ0, H5, I5, st5, fr5, w5⟩
    rcases turn i n ys H5 w5 with ⟨stop, qn⟩ | ⟨go, step⟩
    · refine thn (T.done (cxComp X (nmsOf x ts) scope cl s3.heap.objs.size s3 H3 fp) rfl rfl rfl hc i [] s5 (σ0 :: taken σ (sltOf ts)) H5 _ I5 (okX fr5) st5 stop) fun r s6 ⟨hr, I6⟩ => ?_
      subst hr
      obtain ⟨m, hn, _⟩ := id I6.loc
      refine ⟨m, hn, fun h' sb => ?_⟩
      have u6 : Un (frs X.stack) fp H3 H5 s3.heap s6.heap := I6.base
      have neC : ∀ b o, s3.heap.get? b = some o → b ≠ s3.heap.objs.size := fun b o e => Nat.ne_of_lt (Heap.lt_size e)
      have un : Un (frs X.stack) fp H3 H5 s3.heap h' := ⟨fun b o e n1 hb hx => (sb.2 b (neC b o e)).trans (u6.keep b o e n1 hb hx), fun b o e n1 hb hx => by
          obtain ⟨sl, z⟩ := u6.slot b o e n1 hb hx
          exact ⟨sl, (sb.2 b (neC b o e)).trans z⟩, u6.free, fun b o e hx => by
          obtain ⟨o', z⟩ := u6.there b o e hx
          exact ⟨o', (sb.2 b (neC b o e)).trans z⟩, u6.tups, u6.frzs, u6.tbls⟩
      have hok : HOk X.prog X.w H5 h' := fun b u e => by
        refine (I6.hok b u e).stay (fun c v hc' z => (sb.2 c ?_).trans z) (fun _ z => z) fun _ _ z => z
        rintro rfl
        have fC : H5 s3.heap.objs.size = none := I6.free
        rcases hc' with z' | z'
        · rw [← z', fC] at e; cases e
        · rw [fC] at z'; cases z'
      refine ⟨.ref s2.heap.objs.size, H5, I3.call' (s' := { s6 with heap := h' }) (ch := fp) ?_ un hok I6.bare (fun b hb => ⟨(f2 b hb).2.2.2.1, (f2 b hb).2.1, (f2 b hb).2.2.2.2.1, (f2 b hb).2.2.2.2.2⟩), rfl, qn⟩
      exact I6.os
    · refine thn (T.item (cxComp X (nmsOf x ts) scope cl s3.heap.objs.size s3 H3 fp) rfl rfl rfl hc i [] s5 (σ0 :: taken σ (sltOf ts)) H5 _ I5 (okX fr5) st5 go) fun r s6 ⟨u, hr, h6⟩ => ?_
      subst hr
      refine thn h6 fun _ s7 ⟨z, H7, I7, rz, yz, st7, fr7⟩ => ?_
      have I7' := I7.pinned (okX fr7) (T.obj _ _ st7)
      have PG' : PG (cxComp X (nmsOf x ts) scope cl s3.heap.objs.size s3 H3 fp) (.Name x px) (gName 0) := pg_name (i := 0) O.nd rfl (.inl (lookup_relabel_local O.var)) (.inr (lookup_relabel_local O.var))
      refine thn (PG' _ s7 _ H7 z u (fun σ' H' => σ' = some z :: taken σ (sltOf ts) ∧ H' = H7) I7' rz ⟨rfl, rfl⟩) fun _ s8 ⟨σ8, H8, I8, e8, eh8⟩ => ?_
      subst e8 eh8
      refine thn (he s3.heap.objs.size s3 H3 fp _ s8 _ H8 _ I8 (step z H8 yz)) fun y s9 ⟨vy, H9, I9, ry, hD9, hl9, m', hm', w9⟩ => ?_
      refine thn (mt_append (X := cxComp X (nmsOf x ts) scope cl s3.heap.objs.size s3 H3 fp) _ s9 _ H9 (.ref s2.heap.objs.size) [vy] (.ref s2.heap.objs.size) [y] (fun _ H10 => H10 = upd H9 s2.heap.objs.size (.lst (ys ++ [vy]))) I9 rfl (.cons ry .nil) ⟨_, ys, vy, rfl, rfl, hD9, hl9, rfl⟩) fun _ s10 ⟨_, H10, I10, _, e10⟩ => ?_
      subst e10
      refine ⟨m', hm', i + 1, ys ++ [vy], some z, _, I10.unpinned, T.keep _ _ _ st7 fun b hb o e => (I10.pin (b, o) (List.mem_append_right _ (List.mem_append_right _ (mem_pinsAt hb e)))).1, fun b hb => ?_, w9⟩
      obtain ⟨o, e, d⟩ := T.obj _ _ st7 b hb
      exact (I10.pin (b, o) (List.mem_append_right _ (List.mem_append_right _ (mem_pinsAt hb e)))).2.1
  have hst := codeAny_compStart_list (loop _ rfl) (T.self X.A 0 _ _ _ st4 (loop _ rfl))
  exact hst
end
end L2
set_option maxHeartbeats 4000000
namespace L2
open PySem PySem.Spec PyProof.Rows
inductive Th where
  | non | bl (b : Bool) | int (i : Int) | str (x : Str) | lst (xs : List Th) | tup (xs : List Th) | emp | dic
mutual
noncomputable def Den (H : Hp) : Th → V → Prop
  | .non, v => v = .non
  | .bl b, v => v = .bl b
  | .int i, v => v = .int i
  | .str x, v => v = .str x
  | .lst ts, v => ∃ a xs, v = .ref a ∧ H a = some (.lst xs) ∧ Dens H ts xs
  | .tup ts, v => ∃ a xs, v = .ref a ∧ H a = some (.tup xs) ∧ Dens H ts xs
  | .emp, v => ∃ a, v = .ref a ∧ H a = some (.dK [])
  | .dic, v => ∃ a kvs, v = .ref a ∧ H a = some (.dK kvs)
noncomputable def Dens (H : Hp) : List Th → List V → Prop
  | [], xs => xs = []
  | t :: ts, xs => ∃ y ys, xs = y :: ys ∧ Den H t y ∧ Dens H ts ys
end
mutual
theorem Den.keep {H H' : Hp} (s : Same H H') : ∀ {t : Th} {v : V}, Den H t v → Den H' t v
  | .non, _, h => h
  | .bl _, _, h => h
  | .int _, _, h => h
  | .str _, _, h => h
  | .lst _, _, ⟨a, xs, e, h, d⟩ => ⟨a, xs, e, s _ _ h, Dens.keep s d⟩
  | .tup _, _, ⟨a, xs, e, h, d⟩ => ⟨a, xs, e, s _ _ h, Dens.keep s d⟩
  | .emp, _, ⟨a, e, h⟩ => ⟨a, e, s _ _ h⟩
  | .dic, _, ⟨a, k, e, h⟩ => ⟨a, k, e, s _ _ h⟩
theorem Dens.keep {H H' : Hp} (s : Same H H') : ∀ {ts : List Th} {xs : List V}, Dens H ts xs → Dens H' ts xs
  | [], _, h => h
  | _ :: _, _, ⟨y, ys, e, d, ds⟩ => ⟨y, ys, e, Den.keep s d, Dens.keep s ds⟩
end
theorem Dens.len {H : Hp} : ∀ {ts : List Th} {xs : List V}, Dens H ts xs → xs.length = ts.length
  | [], _, h => by rw [show _ = [] from h]; rfl
  | _ :: _, _, ⟨y, ys, e, d, ds⟩ => by rw [e, List.length_cons, List.length_cons, Dens.len ds]
theorem Dens.get {H : Hp} : ∀ {ts : List Th} {xs : List V} {i : Nat} {t : Th}, Dens H ts xs → ts[i]? = some t → ∃ v, xs[i]? = some v ∧ Den H t v
  | _ :: _, _, 0, t, ⟨y, ys, e, d, ds⟩, h => by
    rw [List.getElem?_cons_zero] at h
    cases h
    exact ⟨y, by rw [e]; rfl, d⟩
  | _ :: _, _, i + 1, t, ⟨y, ys, e, d, ds⟩, h => by
    rw [List.getElem?_cons_succ] at h
    obtain ⟨v, h1, h2⟩ := Dens.get ds h
    exact ⟨v, by rw [e, List.getElem?_cons_succ]; exact h1, h2⟩
noncomputable def tyTh : Th → Value
  | .non => .type "NoneType"
  | .bl _ => .type "bool"
  | .int _ => .type "int"
  | .str _ => .type "str"
  | .lst _ => .type "list"
  | .tup _ => .type "tuple"
  | .emp => .type "dict"
  | .dic => .type "dict"
theorem Den.ty {K : PySem.W.Frag} {H : Hp} : ∀ {t : Th} {v : V}, Den H t v → TyOf K H v (tyTh t)
  | .non, _, h => by cases (show _ = V.non from h); exact .non
  | .bl b, _, h => by cases (show _ = V.bl b from h); exact .bl b
  | .int i, _, h => by cases (show _ = V.int i from h); exact .int i
  | .str x, _, h => by cases (show _ = V.str x from h); exact .str x
  | .lst _, _, ⟨a, xs, e, h, _⟩ => by subst e; exact .lst h
  | .tup _, _, ⟨a, xs, e, h, _⟩ => by subst e; exact .tup h
  | .emp, _, ⟨a, e, h⟩ => by subst e; exact .dK h
  | .dic, _, ⟨a, k, e, h⟩ => by subst e; exact .dK h
noncomputable def isIntT : Th → Bool
  | .int _ => true
  | .bl _ => true
  | _ => false
noncomputable def isBoolT : Th → Bool
  | .bl _ => true
  | _ => false
noncomputable def isTupT : Th → Bool
  | .tup _ => true
  | _ => false
noncomputable def isLstT : Th → Bool
  | .lst _ => true
  | _ => false
theorem kit_int {K : PySem.W.Frag} (t : Th) : PySem.W.kitOne K (tyTh t) (.type "int") = some (isIntT t) := by cases t <;> rfl
theorem kit_bool {K : PySem.W.Frag} (t : Th) : PySem.W.kitOne K (tyTh t) (.type "bool") = some (isBoolT t) := by cases t <;> rfl
section
variable {X : Cx}
theorem kitx_ty {pins : List (Addr × Obj)} {σ : St} {H : Hp} {s : Shared} {t : Th} {x : V} {u : Value} (I : Inv X pins σ H s) (rx : RelV x u) (d : Den H t x) : ∃ HP : Heap → Prop, PySem.W.KitX X.K u (tyTh t) HP ∧ HP s.heap ∧ u ≠ .builtin "__main__.__loader__#opaque" := by
  cases t with
  | non => cases (show x = V.non from d); cases (show u = Value.none from rx); exact ⟨_, PySem.W.kitx_none, True.intro, fun z => nomatch z⟩
  | bl b => cases (show x = V.bl b from d); cases (show u = Value.bool b from rx); exact ⟨_, PySem.W.kitx_bool, True.intro, fun z => nomatch z⟩
  | int i => cases (show x = V.int i from d); obtain ⟨k, q⟩ := (show ∃ k, u = Value.int i k from rx); cases q; exact ⟨_, PySem.W.kitx_int, True.intro, fun z => nomatch z⟩
  | str y => cases (show x = V.str y from d); obtain ⟨k, q⟩ := (show ∃ k, u = Value.str y k from rx); cases q; exact ⟨_, PySem.W.kitx_str, True.intro, fun z => nomatch z⟩
  | lst ts =>
    obtain ⟨a, xs, e, h, _⟩ := d
    subst e
    cases (show u = Value.ref a from rx)
    obtain ⟨_, _, n, _, h1⟩ := (show ObjOk X.prog X.w H s.heap a (.lst xs) from I.hok a _ h)
    exact ⟨_, PySem.W.kitx_list, ⟨_, h1, rfl⟩, fun z => nomatch z⟩
  | tup ts =>
    obtain ⟨a, xs, e, h, _⟩ := d
    subst e
    cases (show u = Value.ref a from rx)
    obtain ⟨_, _, _, p⟩ := (show ObjOk X.prog X.w H s.heap a (.tup xs) from I.hok a _ h)
    obtain ⟨o, h1, h2, _⟩ := p
    exact ⟨_, PySem.W.kitx_tuple, ⟨o, h1, h2⟩, fun z => nomatch z⟩
  | emp =>
    obtain ⟨a, e, h⟩ := d
    subst e
    cases (show u = Value.ref a from rx)
    obtain ⟨_, _, vs, _, p⟩ := (show ObjOk X.prog X.w H s.heap a (.dK []) from I.hok a _ h)
    obtain ⟨o, es, ep, h1, h2, _⟩ := p
    exact ⟨_, PySem.W.kitx_dict, ⟨o, h1, h2.1⟩, fun z => nomatch z⟩
  | dic =>
    obtain ⟨a, kvs, e, h⟩ := d
    subst e
    cases (show u = Value.ref a from rx)
    obtain ⟨_, _, vs, _, p⟩ := (show ObjOk X.prog X.w H s.heap a (.dK kvs) from I.hok a _ h)
    obtain ⟨o, es, ep, h1, h2, _⟩ := p
    exact ⟨_, PySem.W.kitx_dict, ⟨o, h1, h2.1⟩, fun z => nomatch z⟩
theorem vals_tys : ∀ {Ts : List String} {us : List Value}, Vals (Ts.map V.ty) us → us = Ts.map Value.type
  | [], _, .nil => rfl
  | T :: Ts, _, .cons r t => by rw [vals_tys t, show _ = Value.type T from r]; rfl
theorem call_isinstT : CallR X (.builtin "isinstance") (fun xs H Q => ∃ (x : V) (p : Addr) (t : Th) (Ts : List String) (b : Bool), xs = [x, .ref p] ∧ H p = some (.tup (Ts.map V.ty)) ∧ Den H t x ∧ PySem.W.kitAny X.K (tyTh t) (Ts.map Value.type) = some b ∧ Q (.bl b) H) := by
  intro pins s σ H xs us Q I r h
  obtain ⟨x, p, t, Ts, b, rfl, hp, d, e, q⟩ := h
  obtain ⟨u, w', rfl, r1, r2⟩ := vals2 r
  cases r2
  obtain ⟨HP, Z, hz, hx⟩ := kitx_ty I r1 d
  obtain ⟨_, its, rv, tp⟩ := (show ObjOk X.prog X.w H s.heap p (.tup (Ts.map V.ty)) from I.hok p _ hp)
  have ei := vals_tys rv
  subst ei
  obtain ⟨⟨cls, dd, data, sl⟩, h1, h2, n, h3⟩ := tp
  simp only at h2 h3
  subst h2 h3
  exact PySem.W.kia_tup Z I.kIn hz h1 e hx fun tk => ⟨.bl b, H, I.tok _, rfl, q⟩
theorem call_isinstD : CallR X (.builtin "isinstance") (fun xs H Q => ∃ x t T b, xs = [x, .ty T] ∧ Den H t x ∧ PySem.W.kitOne X.K (tyTh t) (.type T) = some b ∧ Q (.bl b) H) := by
  intro pins s σ H xs us Q I r h
  obtain ⟨x, t, T, b, e, d, k, q⟩ := h
  exact call_isinst pins s σ H xs us Q I r ⟨x, tyTh t, T, b, e, d.ty, k, q⟩
theorem range_all_true (n : Nat) : ((List.range n).all fun _ => true) = true := List.all_eq_true.mpr fun _ _ => rfl
theorem dict_nil_any {P P' : Program} {w w' : World} {h : Heap} {a : Addr} (d : h.DictOf (mixKind P w) a []) : h.DictOf (mixKind P' w') a [] := by
  obtain ⟨o, es, ep, h1, h2, h3, h4, h5, h6⟩ := d
  have e : es = #[] := by
    have hl : es.toList.length = 0 := by
      have := h5.length
      simpa using this
    cases es with | mk l => cases l with
      | nil => rfl
      | cons x r => simp at hl
  subst e
  exact ⟨o, #[], ep, h1, h2, h3, (by intro z hz; simp at hz), .nil, List.nodup_nil⟩
mutual
noncomputable def depT : Th → Nat
  | .lst ts => depTs ts + 1
  | .tup ts => depTs ts + 1
  | .emp => 1
  | .dic => cLine + 1
  | .non | .bl _ | .int _ | .str _ => 0
noncomputable def depTs : List Th → Nat
  | [] => 0
  | t :: ts => max (depT t) (depTs ts)
end
theorem depTs_mem : ∀ {ts : List Th} {i : Nat} {t : Th}, ts[i]? = some t → depT t ≤ depTs ts
  | _ :: _, 0, _, h => by
    rw [List.getElem?_cons_zero] at h
    cases h
    exact Nat.le_max_left _ _
  | _ :: _, _ + 1, _, h => by
    rw [List.getElem?_cons_succ] at h
    exact Nat.le_trans (depTs_mem h) (Nat.le_max_right _ _)
theorem dens_at {H : Hp} {ts : List Th} {xs ys : List V} {us ws : List Value} (d1 : Dens H ts xs) (d2 : Dens H ts ys) (r1 : Vals xs us) (r2 : Vals ys ws) (j : Nat) (h1 : j < us.toArray.size) (h2 : j < ws.toArray.size) :
    ∃ t v1 v2, ts[j]? = some t ∧ Den H t v1 ∧ Den H t v2 ∧ RelV v1 us.toArray[j] ∧ RelV v2 ws.toArray[j] := by
  have hl : j < ts.length := by
    rw [← d1.len, r1.length]
    simpa using h1
  obtain ⟨v1, e1, q1⟩ := d1.get (List.getElem?_eq_getElem hl)
  obtain ⟨v2, e2, q2⟩ := d2.get (List.getElem?_eq_getElem hl)
  obtain ⟨u1, f1, g1⟩ := r1.get e1
  obtain ⟨u2, f2, g2⟩ := r2.get e2
  have k1 : us.toArray[j] = u1 := by
    have : us[j]? = some us.toArray[j] := by simp
    rw [this] at f1; exact Option.some.inj f1
  have k2 : ws.toArray[j] = u2 := by
    have : ws[j]? = some ws.toArray[j] := by simp
    rw [this] at f2; exact Option.some.inj f2
  exact ⟨ts[j], v1, v2, List.getElem?_eq_getElem hl, q1, q2, by rw [k1]; exact g1, by rw [k2]; exact g2⟩
theorem eqDen {P : Program} {w : World} {H : Hp} {s : Shared} (hok : HOk P w H s.heap) : ∀ (n : Nat) (A : Around) (t : Th) (v1 v2 : V) (u1 u2 : Value), depT t ≤ n → A.units + n < cLine → Den H t v1 → Den H t v2 → RelV v1 u1 → RelV v2 u2 → SeqAt.EqAt A s u1 u2 true
  | n, A, .non, v1, v2, u1, u2, _, _, d1, d2, r1, r2 => by
    cases (show v1 = V.non from d1); cases (show v2 = V.non from d2)
    cases (show u1 = Value.none from r1); cases (show u2 = Value.none from r2)
    exact SeqAt.EqAt.same _
  | n, A, .bl b, v1, v2, u1, u2, _, _, d1, d2, r1, r2 => by
    cases (show v1 = V.bl b from d1); cases (show v2 = V.bl b from d2)
    cases (show u1 = Value.bool b from r1); cases (show u2 = Value.bool b from r2)
    exact SeqAt.EqAt.same _
  | n, A, .int i, v1, v2, u1, u2, _, _, d1, d2, r1, r2 => by
    cases (show v1 = V.int i from d1); cases (show v2 = V.int i from d2)
    obtain ⟨k1, rfl⟩ := (show ∃ k, u1 = Value.int i k from r1)
    obtain ⟨k2, rfl⟩ := (show ∃ k, u2 = Value.int i k from r2)
    have h := SeqAt.EqAt.int_int (A := A) (s := s) i k1 i k2
    rw [beq_self_eq_true] at h
    exact h
  | n, A, .str x, v1, v2, u1, u2, _, _, d1, d2, r1, r2 => by
    cases (show v1 = V.str x from d1); cases (show v2 = V.str x from d2)
    obtain ⟨k1, rfl⟩ := (show ∃ k, u1 = Value.str x k from r1)
    obtain ⟨k2, rfl⟩ := (show ∃ k, u2 = Value.str x k from r2)
    have h := SeqAt.EqAt.str_str (A := A) (s := s) x k1 x k2
    rw [beq_self_eq_true] at h
    exact h
  | 0, A, .lst ts, v1, v2, u1, u2, hd, _, d1, d2, r1, r2 => absurd hd (by simp [depT])
  | 0, A, .tup ts, v1, v2, u1, u2, hd, _, d1, d2, r1, r2 => absurd hd (by simp [depT])
  | 0, A, .emp, v1, v2, u1, u2, hd, _, d1, d2, r1, r2 => absurd hd (by simp [depT])
  | 0, A, .dic, v1, v2, u1, u2, hd, _, d1, d2, r1, r2 => absurd hd (by simp [depT])
  | n + 1, A, .dic, v1, v2, u1, u2, hd, hu, d1, d2, r1, r2 => absurd (show cLine + 1 ≤ n + 1 from hd) (by omega)
  | n + 1, A, .lst ts, v1, v2, u1, u2, hd, hu, d1, d2, r1, r2 => by
    obtain ⟨a1, xs, rfl, h1, e1⟩ := d1
    obtain ⟨a2, ys, rfl, h2, e2⟩ := d2
    cases (show u1 = Value.ref a1 from r1); cases (show u2 = Value.ref a2 from r2)
    by_cases hne : a1 = a2
    · subst hne; exact SeqAt.EqAt.same _
    obtain ⟨_, us, n1, q1, g1⟩ := (show ObjOk P w H s.heap a1 (.lst xs) from hok a1 _ h1)
    obtain ⟨_, ws, n2, q2, g2⟩ := (show ObjOk P w H s.heap a2 (.lst ys) from hok a2 _ h2)
    have hsz : us.toArray.size = ws.toArray.size := by
      rw [List.size_toArray, List.size_toArray, ← q1.length, ← q2.length, e1.len, e2.len]
    have hd' : depTs ts + 1 ≤ n + 1 := hd
    have h := SeqAt.RcAt.lists (A := A) (s := s) (e := fun _ => true) (⟨_, g1, rfl, _, rfl⟩ : s.heap.IsList a1 us.toArray) (⟨_, g2, rfl, _, rfl⟩ : s.heap.IsList a2 ws.toArray) hsz (by omega) fun j j1 j2 => by
      obtain ⟨t, w1, w2, ht, p1, p2, s1, s2⟩ := dens_at e1 e2 q1 q2 j j1 j2
      exact eqDen hok n A.in1 t w1 w2 _ _ (by have := depTs_mem ht; omega) (by show A.units + 1 + n < cLine; omega) p1 p2 s1 s2
    rw [range_all_true] at h
    exact SeqAt.EqAt.of_refs hne h
  | n + 1, A, .tup ts, v1, v2, u1, u2, hd, hu, d1, d2, r1, r2 => by
    obtain ⟨a1, xs, rfl, h1, e1⟩ := d1
    obtain ⟨a2, ys, rfl, h2, e2⟩ := d2
    cases (show u1 = Value.ref a1 from r1); cases (show u2 = Value.ref a2 from r2)
    by_cases hne : a1 = a2
    · subst hne; exact SeqAt.EqAt.same _
    obtain ⟨_, us, q1, g1⟩ := (show ObjOk P w H s.heap a1 (.tup xs) from hok a1 _ h1)
    obtain ⟨_, ws, q2, g2⟩ := (show ObjOk P w H s.heap a2 (.tup ys) from hok a2 _ h2)
    have hsz : us.toArray.size = ws.toArray.size := by
      rw [List.size_toArray, List.size_toArray, ← q1.length, ← q2.length, e1.len, e2.len]
    have hd' : depTs ts + 1 ≤ n + 1 := hd
    have h := SeqAt.RcAt.tuples (A := A) (s := s) (e := fun _ => true) (show s.heap.IsTuple a1 us.toArray from g1) (show s.heap.IsTuple a2 ws.toArray from g2) (by omega) fun j j1 j2 => by
      obtain ⟨t, w1, w2, ht, p1, p2, s1, s2⟩ := dens_at e1 e2 q1 q2 j j1 j2
      exact eqDen hok n A.in1 t w1 w2 _ _ (by have := depTs_mem ht; omega) (by show A.units + 1 + n < cLine; omega) p1 p2 s1 s2
    rw [range_all_true, hsz, beq_self_eq_true, Bool.and_self] at h
    exact SeqAt.EqAt.of_refs hne h
  | n + 1, A, .emp, v1, v2, u1, u2, hd, hu, d1, d2, r1, r2 => by
    obtain ⟨a1, rfl, h1⟩ := d1
    obtain ⟨a2, rfl, h2⟩ := d2
    cases (show u1 = Value.ref a1 from r1); cases (show u2 = Value.ref a2 from r2)
    by_cases hne : a1 = a2
    · subst hne; exact SeqAt.EqAt.same _
    obtain ⟨_, m1, vs1, q1, g1⟩ := (show ObjOk P w H s.heap a1 (.dK []) from hok a1 _ h1)
    obtain ⟨_, m2, vs2, q2, g2⟩ := (show ObjOk P w H s.heap a2 (.dK []) from hok a2 _ h2)
    cases q1
    cases q2
    refine SeqAt.EqAt.of_refs hne fun prog w' E Q hq => ?_
    exact PySem.W.keq_eq (K := Key) (knd := mixKind prog w') (r := true) m1 m2 (dict_nil_any g1) (dict_nil_any g2) (by omega) (fun _ => .nil) hq
theorem op_neD (hu : X.A.units + 64 < cLine) : OpR X (compareOp .NotEq) (fun x y H Q => ∃ t, Den H t x ∧ Den H t y ∧ depT t ≤ 60 ∧ Q (.bl false) H) := by
  intro pins s σ H x y v u Q I rx ry h
  obtain ⟨t, d1, d2, hd, q⟩ := h
  have scal_case : scal x y = true → x = y → wpAny (model X.prog X.w) X.A (compareOp .NotEq v u) (EP X pins σ Q) X.xe s := fun h1 h2 =>
    op_ne pins s σ H x y v u Q I rx ry ⟨h1, by rw [decide_eq_true h2]; exact q⟩
  cases t with
  | non => cases (show x = V.non from d1); cases (show y = V.non from d2); exact scal_case rfl rfl
  | bl b => cases (show x = V.bl b from d1); cases (show y = V.bl b from d2); exact scal_case rfl rfl
  | int i => cases (show x = V.int i from d1); cases (show y = V.int i from d2); exact scal_case rfl rfl
  | str z => cases (show x = V.str z from d1); cases (show y = V.str z from d2); exact scal_case rfl rfl
  | lst ts =>
    obtain ⟨a1, xs, rfl, h1, e1⟩ := d1
    obtain ⟨a2, ys, rfl, h2, e2⟩ := d2
    cases (show v = Value.ref a1 from rx); cases (show u = Value.ref a2 from ry)
    obtain ⟨_, us, n1, q1, g1⟩ := (show ObjOk X.prog X.w H s.heap a1 (.lst xs) from I.hok a1 _ h1)
    obtain ⟨_, ws, n2, q2, g2⟩ := (show ObjOk X.prog X.w H s.heap a2 (.lst ys) from I.hok a2 _ h2)
    have hsz : us.toArray.size = ws.toArray.size := by
      rw [List.size_toArray, List.size_toArray, ← q1.length, ← q2.length, e1.len, e2.len]
    have hd' : depTs ts + 1 ≤ 60 := hd
    have h := SeqAt.RcNeAt.lists (A := X.A) (s := s) (e := fun _ => true) (⟨_, g1, rfl, _, rfl⟩ : s.heap.IsList a1 us.toArray) (⟨_, g2, rfl, _, rfl⟩ : s.heap.IsList a2 ws.toArray) hsz (by omega) fun j j1 j2 => by
      obtain ⟨t, w1, w2, ht, p1, p2, s1, s2⟩ := dens_at e1 e2 q1 q2 j j1 j2
      exact eqDen I.hok 60 X.A.in1 t w1 w2 _ _ (by have := depTs_mem ht; omega) (by show X.A.units + 1 + 60 < cLine; omega) p1 p2 s1 s2
    rw [range_all_true] at h
    exact h X.prog X.w _ _ ⟨.bl false, H, I, rfl, q⟩
  | tup ts =>
    obtain ⟨a1, xs, rfl, h1, e1⟩ := d1
    obtain ⟨a2, ys, rfl, h2, e2⟩ := d2
    cases (show v = Value.ref a1 from rx); cases (show u = Value.ref a2 from ry)
    obtain ⟨_, us, q1, g1⟩ := (show ObjOk X.prog X.w H s.heap a1 (.tup xs) from I.hok a1 _ h1)
    obtain ⟨_, ws, q2, g2⟩ := (show ObjOk X.prog X.w H s.heap a2 (.tup ys) from I.hok a2 _ h2)
    have hsz : us.toArray.size = ws.toArray.size := by
      rw [List.size_toArray, List.size_toArray, ← q1.length, ← q2.length, e1.len, e2.len]
    have hd' : depTs ts + 1 ≤ 60 := hd
    have h := SeqAt.RcNeAt.tuples (A := X.A) (s := s) (e := fun _ => true) (show s.heap.IsTuple a1 us.toArray from g1) (show s.heap.IsTuple a2 ws.toArray from g2) (by omega) fun j j1 j2 => by
      obtain ⟨t, w1, w2, ht, p1, p2, s1, s2⟩ := dens_at e1 e2 q1 q2 j j1 j2
      exact eqDen I.hok 60 X.A.in1 t w1 w2 _ _ (by have := depTs_mem ht; omega) (by show X.A.units + 1 + 60 < cLine; omega) p1 p2 s1 s2
    rw [range_all_true, hsz, beq_self_eq_true, Bool.and_self] at h
    exact h X.prog X.w _ _ ⟨.bl false, H, I, rfl, q⟩
  | emp =>
    obtain ⟨a1, rfl, h1⟩ := d1
    obtain ⟨a2, rfl, h2⟩ := d2
    cases (show v = Value.ref a1 from rx); cases (show u = Value.ref a2 from ry)
    obtain ⟨_, m1, vs1, q1, g1⟩ := (show ObjOk X.prog X.w H s.heap a1 (.dK []) from I.hok a1 _ h1)
    obtain ⟨_, m2, vs2, q2, g2⟩ := (show ObjOk X.prog X.w H s.heap a2 (.dK []) from I.hok a2 _ h2)
    cases q1
    cases q2
    exact PySem.W.keq_ne (K := Key) (knd := mixKind X.prog X.w) (r := true) m1 m2 g1 g2 (by omega) (fun _ => .nil) ⟨.bl false, H, I, rfl, q⟩
  | dic => exact absurd (show cLine + 1 ≤ 60 from hd) (by omega)
noncomputable def iSeq (K : PySem.W.Frag) (tl : TE) : TI := fun σ H R => tl σ H fun x H1 => ∃ a xs, x = .ref a ∧ ((SqL K H1 a xs ∧ R (Itl K a) H1) ∨ (SqT K H1 a xs ∧ R (Itt K a) H1))
theorem pi_seq {tg l : Expr} {tl : TE} (hl : PE X l tl) : PI X tg l (iSeq X.K tl) := by
  intro pins s σ H R I h
  refine thn (hl pins s σ H _ I h) fun v s1 ⟨x, H1, I1, r1, q1⟩ => ?_
  obtain ⟨a, xs, e, q⟩ := q1
  subst e
  cases r1
  rcases q with ⟨hq, q⟩ | ⟨hq, q⟩
  · obtain ⟨its, rv, p, hz⟩ := I1.list hq
    refine wpAny_pyIter_list p.isList ?_
    refine ⟨s1.heap.objs.size, [s1.heap.objs.size], _, _, H1, rfl, I1.kept (t' := s1.toks) fun b o e => Heap.get?_push_of_some _ e, turn_list a _, ⟨_, Heap.get?_push_size _ rfl, rfl, rfl⟩, fun b hb => ?_, q⟩
    have e : b = s1.heap.objs.size := by simpa using hb
    subst e
    exact I1.fpOk (Nat.le_refl _) (I1.hok.fresh (Nat.le_refl _))
  · obtain ⟨its, rv, p, hz⟩ := I1.tuple hq
    refine wpAny_pyIter_tuple (show s1.heap.IsTuple a its.toArray from p) ?_
    refine ⟨s1.heap.objs.size, [s1.heap.objs.size], _, _, H1, rfl, I1.kept (t' := s1.toks) fun b o e => Heap.get?_push_of_some _ e, turn_tuple a _, ⟨_, Heap.get?_push_size _ rfl, rfl, rfl⟩, fun b hb => ?_, q⟩
    have e : b = s1.heap.objs.size := by simpa using hb
    subst e
    exact I1.fpOk (Nat.le_refl _) (I1.hok.fresh (Nat.le_refl _))
end
end L2
set_option maxHeartbeats 4000000
namespace L2
open PySem PySem.Spec PyProof.Rows
theorem ObjOk.there {P : Program} {w : World} {H : Hp} {h : Heap} {a : Addr} {o : HO} (k : ObjOk P w H h a o) : ∃ ob, h.get? a = some ob := by
  cases o with
  | lst _ => obtain ⟨_, _, _, _, e⟩ := k; exact ⟨_, e⟩
  | tup _ => obtain ⟨_, _, _, o, e, _⟩ := k; exact ⟨o, e⟩
  | dK _ => obtain ⟨_, _, _, _, o, _, _, e, _⟩ := k; exact ⟨o, e⟩
  | dT _ => obtain ⟨_, _, _, _, o, _, _, e, _⟩ := k; exact ⟨o, e⟩
  | set _ _ => obtain ⟨o, _, _, _, e, _⟩ := k; exact ⟨o, e⟩
  | ins _ _ _ => obtain ⟨_, _, _, e, _⟩ := k; exact ⟨_, e⟩
  | own _ => obtain ⟨o, e⟩ := k; exact ⟨o, e⟩
  | xd _ => obtain ⟨_, ⟨o, _, _, e, _⟩, _⟩ := k; exact ⟨o, e⟩
  | rng _ _ => obtain ⟨_, _, _, e⟩ := k; exact ⟨_, e⟩
  | frz _ _ => obtain ⟨e, _⟩ := k; exact ⟨_, e⟩
  | tbl _ => exact ⟨_, k⟩
  | met _ _ => exact ⟨_, k⟩
  | ext _ => obtain ⟨_, ⟨o, e⟩, _⟩ := k; exact ⟨o, e⟩
noncomputable def Fly (l : List Env) (h0 : Heap) (H' : Hp) (e : Addr) (cls : Value) (h : Heap) : Prop :=
  ∃ (B : Heap) (t : Addr), Heap.FlyingW B l e cls (.ref t) h ∧ h0.get? e = none ∧ H' e = none ∧
    ∀ b o, h.get? b = some o → ((∃ o', h0.get? b = some o') ∨ ∃ u, H' b = some u) → b ∉ frs l → B.get? b = some o
noncomputable def CXX (P : Program) (w : World) : CXT := fun outer H s E e s' =>
  ∃ a cls H', e = .ref a ∧ s'.os = s.os ∧ AllBare s'.gens ∧ Un (frs outer) [] H H' s.heap s'.heap ∧ HOk P w H' s'.heap ∧ Fly outer s.heap H' a cls s'.heap ∧ E cls none H'
theorem cxx_never {P : Program} {w : World} {H : Hp} {s : Shared} {e : Value} {s' : Shared} {l : List Env} (h : CXX P w l H s (fun _ _ _ => False) e s') : False := by
  obtain ⟨_, _, _, _, _, _, _, _, _, q⟩ := h
  exact q
theorem fly_keeps {P : Program} {w : World} {fs : List Addr} {l : List Env} {base B h0 h h5 : Heap} {H H' : Hp} (un : Un fs [] H H' h0 h) (hok : HOk P w H' h)
    (kB : ∀ b o, h.get? b = some o → ((∃ o', h0.get? b = some o') ∨ ∃ u, H' b = some u) → b ∉ frs l → B.get? b = some o)
    (ff : h.FunFrames base l) (hfs : ∀ b ∈ fs, b ∈ frs l) (hl : ∀ b ∈ frs l, b ∉ fs → h0.get? b = none) (hu : ∀ b ∈ frs l, H' b = none)
    (st : B.StaysIn h5) (up : h.UpToSlots h5) : Un fs [] H H' h0 h5 ∧ HOk P w H' h5 := by
  have kk : ∀ b o, h.get? b = some o → (∃ o', h0.get? b = some o') → b ∉ fs → h5.get? b = some o := fun b o e1 ⟨o', e0⟩ hb => by
    refine st b o (kB b o e1 (.inl ⟨o', e0⟩) fun z => ?_)
    rw [hl b z hb] at e0; cases e0
  have ks : ∀ b o, h.get? b = some o → b ∈ fs → ∃ sl, h5.get? b = some { o with slots := sl } := fun b o e1 hb => by
    obtain ⟨_, o2, e2, nf⟩ := ff.mem (hfs b hb)
    rw [e1] at e2; cases e2
    exact up b o e1 nf
  refine ⟨⟨fun b o e n hb hx => kk b o (un.keep b o e n hb hx) ⟨o, e⟩ hb, fun b o e n hb hx => ?_, un.free, fun b o e hx => ?_, un.tups, un.frzs, un.tbls⟩, fun a o e => ?_⟩
  · obtain ⟨s1, e1⟩ := un.slot b o e n hb hx
    obtain ⟨s2, e2⟩ := ks b _ e1 hb
    exact ⟨s2, e2⟩
  · obtain ⟨o', e1⟩ := un.there b o e hx
    by_cases hb : b ∈ fs
    · obtain ⟨s2, e2⟩ := ks b _ e1 hb
      exact ⟨_, e2⟩
    · exact ⟨o', kk b o' e1 ⟨o, e⟩ hb⟩
  · have tr : ∀ b u v, H' b = some u → h.get? b = some v → h5.get? b = some v := fun b u v q e1 => st b v (kB b v e1 (.inr ⟨u, q⟩) fun z => by rw [hu b z] at q; cases q)
    refine (hok a o e).stay (fun b v hb q => ?_) (fun _ q => q) fun _ _ q => q
    rcases hb with z | z
    · subst z; exact tr b o v e q
    · exact tr b _ v z q
structure DefCx (X : Cx) : Prop where
  st : X.stack = X.env :: X.outer
  fr : X.env.frame = some X.env.locals
  ex : X.ex = []
section
variable {X : Cx} {pins : List (Addr × Obj)} {σ : St} {H : Hp} {s : Shared} {E : XK} {M : Model}
theorem Inv.gone (I : Inv X pins σ H s) (dx : DefCx X) {e : Addr} (n : s.heap.get? e = none) : X.s₀.heap.get? e = none ∧ H e = none := by
  constructor
  · cases q : X.s₀.heap.get? e with
    | none => rfl
    | some o =>
      obtain ⟨o', z⟩ := I.base.there e o q (by rw [dx.ex]; simp)
      rw [n] at z; cases z
  · cases q : H e with
    | none => rfl
    | some u =>
      obtain ⟨o', z⟩ := (I.hok e u q).there
      rw [n] at z; cases z
theorem Inv.notMine (I : Inv X pins σ H s) {b : Addr} {o : Obj} (e : X.s₀.heap.get? b = some o) : b ≠ X.env.locals := Nat.ne_of_lt (Nat.lt_of_lt_of_le (Heap.lt_size e) I.ok.above)
theorem fly_out (dx : DefCx X) (I : Inv X pins σ H s) {B h' : Heap} {e t : Addr} {cls : Value}
    (kB : ∀ b o, s.heap.get? b = some o → ((∃ o', X.s₀.heap.get? b = some o') ∨ ∃ u, H b = some u) → b ∉ frs X.stack → B.get? b = some o)
    (fw : Heap.FlyingW B X.outer e cls (.ref t) h') (up : s.heap.UpToSlots h') (ne : X.s₀.heap.get? e = none) (hn : H e = none) (q : E cls none H) :
    CXX X.prog X.w X.outer X.H₀ X.s₀ E (.ref e) { s with heap := h' } := by
  have un0 : Un X.fs [] X.H₀ H X.s₀.heap s.heap := by have := I.base; rw [dx.ex] at this; exact this
  have sub : ∀ b ∈ X.fs, b ∈ frs X.stack := fun b hb => by
    rw [dx.st]; unfold frs; rw [List.filterMap_cons, dx.fr]; exact List.mem_cons_of_mem _ hb
  have hl : ∀ b ∈ frs X.stack, b ∉ X.fs → X.s₀.heap.get? b = none := fun b hb hn => by
    rcases List.mem_cons.mp (I.stkSub b hb) with z | z
    · cases q : X.s₀.heap.get? b with
      | none => rfl
      | some o => exact absurd z (I.notMine q)
    · exact absurd z hn
  obtain ⟨un, hok⟩ := fly_keeps (h5 := h') un0 I.hok kB I.stack sub hl I.stkFree fw.1 up
  refine ⟨e, cls, H, rfl, I.os, I.bare, un, hok, ⟨B, t, fw, ne, hn, fun b o e1 hz hb => ?_⟩, q⟩
  have there : ∃ o2, s.heap.get? b = some o2 := by
    rcases hz with ⟨o', z⟩ | ⟨u, z⟩
    · exact un0.there b o' z (by simp)
    · exact (I.hok b u z).there
  have nst : b ∉ frs X.stack := fun z => by
    rcases List.mem_cons.mp (I.stkSub b z) with y | y
    · rcases hz with ⟨o', q⟩ | ⟨u, q⟩
      · exact I.notMine q y
      · rw [I.stkFree b z] at q; cases q
    · exact hb y
  obtain ⟨o2, e2⟩ := there
  have e3 := kB b o2 e2 hz nst
  have e4 := fw.1 b o2 e3
  have e1' : h'.get? b = some o := e1
  rw [e1'] at e4
  cases e4
  exact e3
theorem leave_made (dx : DefCx X) (I : Inv X pins σ H s) {h1 : Heap} {e : Addr} {cls : Value} {args : List Value} (mk : Heap.MadeExcOf s.heap h1 e cls args) (q : E cls none H) {E' : Value → Shared → Prop} :
    wpAny M X.A (leaving X.env (.ref e)) (fun _ s2 => CXX X.prog X.w X.outer X.H₀ X.s₀ E (.ref e) s2) E' { s with heap := h1 } := by
  have hin : ∀ env ∈ X.stack, ∀ b, env.frame = some b → b ∈ frs X.stack := fun env he b hb => List.mem_filterMap.mpr ⟨env, he, hb⟩
  have ff := PySem.W.funFrames_hide I.stack hin
  rw [dx.st] at ff
  obtain ⟨n1, n2⟩ := I.gone dx mk.new
  refine wpAny_leaves_madeW (base := PySem.W.hideAll s.heap (frs (X.env :: X.outer))) (h := s.heap) (by rw [I.ok.frames, dx.st]) dx.fr (fun b o z => PySem.W.of_hideAll _ z) ff mk fun h' t x1 _ _ x4 => ?_
  exact fly_out dx I (fun b o e1 _ hb => PySem.W.hideAll_get _ e1 (by rw [← dx.st]; exact hb)) x1 ((Heap.UpToSlots.of_keeps mk.keeps).trans x4) n1 n2 q
end
end L2
set_option maxHeartbeats 4000000
namespace L2
open PySem PySem.Spec PyProof.Rows
abbrev vbm : List Value := [.type "ValueError", .type "Exception", .type "BaseException", .type "object"]
theorem cls_of {K : PySem.W.Frag} {h : Heap} {C : Addr} {nid : String} {bmB : List Value} (kin : K.In h) (z : PySem.W.excIn K C bmB nid = true) :
    ∃ (tl : List Value) (N : Addr) (nm qn : Str) (bs : List Value) (hd : Bool) (sn : List Str) (su : List Value) (ab : Bool) (co : Option Bool) (dd : Option Addr) (k0 k1 k2 k3 k5 : Option Value) (mN : Str → Option Value),
      h.get? C = some (excClassObj nm qn C N bs tl hd sn su ab co dd k0 k1 k2 k3 k5 nid) ∧ h.Ns N mN ∧ mN "__init__" = none ∧ OwnTail h bmB tl := by
  unfold PySem.W.excIn at z
  split at z
  · rename_i d0 c0 slt lk
    split at z
    · rename_i C2 tl a0 a1 a2 a3 nn a5 em es
      simp only [Bool.and_eq_true, beq_iff_eq, Bool.not_eq_true'] at z
      obtain ⟨⟨⟨⟨⟨y1, y2⟩, y3⟩, y4⟩, y5⟩, y6⟩ := z
      subst y1 y2
      obtain ⟨nm, bs, mr, ns, qn, hd, sn, su, ab, co, de⟩ := c0
      dsimp only at em y3 y5 y6
      subst em y3
      have sz : slt = #[a0, a1, a2, a3, some (.builtin nn), a5] := by
        cases slt with | mk l => exact congrArg Array.mk es
      subst sz
      exact ⟨tl, ns, nm, qn, bs, hd, sn, su, ab, co, d0, a0, a1, a2, a3, a5, _, kin _ _ lk, .of_isNs (PySem.W.isNs_of_in kin y5), PySem.W.nsMap_none_of_in kin y5 y6, PySem.W.tail_of_in kin y4⟩
    · cases z
  · cases z
structure XCls (K : PySem.W.Frag) (mg : Str → Option Value) (x : Str) (C : Addr) : Prop where
  at_ : mg x = some (.ref C)
  ok : PySem.W.excIn K C vbm "ValueError.__new__" = true
section
variable {X : Cx} {E : XK} {x : Str} {C : Addr} {np cpos pos : Pos} {e : Expr} {es : List Expr} {t : TA}
noncomputable def Reach (X : Cx) (E : XK) : Prop := ∀ (pins : List (Addr × Obj)) (σ : St) (H : Hp) (s : Shared) (h1 : Heap) (e : Addr) (cls : Value) (args : List Value), Inv X pins σ H s → Heap.MadeExcOf s.heap h1 e cls args → E cls none H → X.xe (.ref e) { s with heap := h1 }
noncomputable def tRaise (C : Addr) (E : XK) (t : TA) : TS := fun _ σ H => t σ H fun vs H1 => vs.length ≤ sizeLine ∧ E (.ref C) none H1
theorem ps_raise (hr : Reach X E) (hc : X.calm = true) (xc : XCls X.K X.mg x C) (hg : Gl X x) (ha : PA X (e :: es) t)
    (hdb : (x == ("__debug__" : Str)) = false := by decide) (he : starEach (e :: es) X.env = (false, eval e X.env) :: starEach es X.env := by rfl) (hpl : (backTo cpos (starEach es X.env)).any (·.1) = false := by rfl) :
    PS X (.Raise (some (.Call (.Name x np) (e :: es) [] cpos)) none pos) (tRaise C E t) := by
  intro pins s σ H D I h
  obtain ⟨tl, N, nm, qn, bs, hd, sn, su, ab, co, dd, k0, k1, k2, k3, k5, mN, hC, hN, hni, T⟩ := cls_of I.mod.kin xc.ok
  refine wpAny_Raise_call_subT (C := C) (nm := nm) (q := qn) (N := N) (bs := bs) (bm := tl) (hdct := hd) (sn := sn) (sub := su) (ab := ab) (col := co) (dd := dd) (k0 := k0) (k1 := k1) (k2 := k2) (k3 := k3) (k5 := k5)
    PySem.F.excBase_ValueError (mN := mN) (T.hasType PySem.F.excBase_ValueError.hasBase) (I.ok.hd hc) (by rw [he]; show (false || _) = false; exact hpl) hni (ld_glob I hg xc.at_ ⟨rfl, ?_⟩ hdb)
  have h2 := ha cpos pins s σ H _ I h
  rw [he] at h2 ⊢
  exact Calls.evalArgs_plain (wpAny_mono h2 (fun us s2 ⟨vs, H1, I1, rv, hl, q⟩ => ⟨rfl, by rw [← rv.length]; exact hl, I1.bk _ _ hC, hN.keeps I1.bk, T.keeps I1.bk, fun h' e mk => hr pins σ H1 s2 h' e _ us I1 mk q⟩) fun _ _ y => y)
end
section
variable {P : Program} {w : World} {K : PySem.W.Frag} {mg : Str → Option Value} {base : Heap} {N : List Str} {qual : Str} {scope : Scope} {f : Addr} {cd : Value} {A : Around} {outer : List Env} {s : Shared} {H : Hp} {E : XK}
theorem dxOf {CX : CXT} : DefCx (cxOf CX P w K mg base N qual scope f cd A outer s H E) := ⟨rfl, rfl, rfl⟩
theorem reachOf : Reach (cxOf (CXX P w) P w K mg base N qual scope f cd A outer s H E) E := fun _ _ _ _ _ _ _ _ I mk q => leave_made dxOf I mk q
theorem Fun.okX {x : Str} {st : Stmt} {fd : FuncData} {ps : List Str} {k : Nat} {sp : Sp} (F : Fun K x qual st f fd) (S : FnScope N ps (defScope st)) (len : ∀ vs H Q E, sp vs H Q E → vs.length = ps.length)
    (hbody : ∀ (cdv : Value) (A : Around) (outer : List Env) (s : Shared) (H : Hp) (vs : List V) (Q : VK) (E : XK), Room k (A.deeper (envOfC qual (defScope st) s.heap.objs.size f cdv)) → sp vs H Q E →
      ∃ t, PSs (cxOf (CXX P w) P w K mg base N qual (defScope st) f cdv A outer s H E) (defBody st) t ∧ t { nx := fun _ H' => Q .non H', rt := Q } (start N vs) H) : FnOk P w K mg base (CXX P w) (k + 1) f fd ps sp := by
  obtain ⟨oc, od, kV, doc, pm, an, cdv, ct, osl, rfl, lk, hcd⟩ := F.ex
  exact fn_of lk hcd S len fun A outer s H vs Q E hr hsp => hbody cdv A outer s H vs Q E hr hsp
end
theorem FnOk.calm {P : Program} {w : World} {K : PySem.W.Frag} {mg : Str → Option Value} {base : Heap} {CX : CXT} {k : Nat} {f : Addr} {fd : FuncData} {ps : List Str} {sp : Sp} (F : FnOk P w K mg base CX0 k f fd ps sp) : FnOk P w K mg base CX k f fd ps sp :=
  ⟨F.len, fun A outer s H args us vs Q E hr he hb hv hs => codeAny_mono (F.run A outer s H args us vs Q E hr he hb hv hs) fun r s' h => by
    cases r with
    | ok fl => cases fl <;> exact h
    | error e => exact False.elim h⟩
section
variable {X : Cx}
theorem PS.nox {st : Stmt} {t : TS} (h : PS X.nox st t) : PS X st t := fun pins s σ H D I hw =>
  wpAny_mono (h pins s σ H D (I.wish _) hw) (fun _ _ q => q.unwish) fun _ _ z => z.elim
end
end L2
set_option maxHeartbeats 4000000
namespace L2
open PySem PySem.Spec PyProof.Rows
noncomputable abbrev Cx.held (X : Cx) (e : Addr) (oe : Obj) : Cx := { X with A := X.A.mark (some (.ref e)), calm := false, pn := (e, oe) :: X.pn, xe := fun _ _ => False }
noncomputable abbrev Cx.tried (X : Cx) (xe : Value → Shared → Prop) (pins : List (Addr × Obj)) : Cx := { X with xe := xe, pn := X.pn ++ pins }
section
variable {X : Cx} {pins pins' : List (Addr × Obj)} {σ : St} {H : Hp} {s : Shared} {xe : Value → Shared → Prop} {e : Addr} {oe : Obj}
theorem Cx.Ok.tried (ok : X.Ok) : (X.tried xe pins).Ok := ⟨ok.mod, ok.kind, ok.glob, ok.blt, ok.above, ok.inj, ok.has, ok.cab, ok.hd, ok.frames, ok.stk, ok.exf, ok.bs, ok.bsz, ok.noex, ok.exfs, ok.funs, ok.frf⟩
theorem Cx.Ok.untried (ok : (X.tried xe pins).Ok) : X.Ok := ⟨ok.mod, ok.kind, ok.glob, ok.blt, ok.above, ok.inj, ok.has, ok.cab, ok.hd, ok.frames, ok.stk, ok.exf, ok.bs, ok.bsz, ok.noex, ok.exfs, ok.funs, ok.frf⟩
theorem Inv.tried (I : Inv X pins σ H s) : Inv (X.tried xe pins) [] σ H s := ⟨I.ok.tried, I.os, I.bare, I.base, I.loc, I.cell, I.free, I.freeC, fun p hp => I.pin p (by simpa using hp), I.hok, I.len⟩
theorem Inv.untried (I : Inv (X.tried xe pins) pins' σ H s) : Inv X pins σ H s := ⟨I.ok.untried, I.os, I.bare, I.base, I.loc, I.cell, I.free, I.freeC, fun p hp => I.pin p (List.mem_append_left _ hp), I.hok, I.len⟩
theorem Inv.held (I : Inv X pins σ H s) (he : s.heap.get? e = some oe) (hn : H e = none) (hL : e ≠ X.env.locals) (hf : e ∉ X.fs) (hc : ∀ v, oe.data ≠ .cell v) : Inv (X.held e oe) pins σ H s := by
  have ok := I.ok
  refine ⟨⟨ok.mod, ok.kind, ok.glob, ok.blt, ok.above, ok.inj, ok.has, ok.cab, (fun z => by cases z), ok.frames, ok.stk, ok.exf, ok.bs, ok.bsz, ok.noex, ok.exfs, ok.funs, ok.frf⟩, I.os, I.bare, I.base, I.loc, I.cell, I.free, I.freeC, fun p hp => ?_, I.hok, I.len⟩
  rcases List.mem_cons.mp hp with z | z
  · subst z; exact ⟨he, hn, hL, hf, hc⟩
  · exact I.pin p z
theorem Inv.unheld (I : Inv (X.held e oe) pins σ H s) (hd : X.calm = true → X.A.handled = none) : Inv X pins σ H s := by
  have ok := I.ok
  exact ⟨⟨ok.mod, ok.kind, ok.glob, ok.blt, ok.above, ok.inj, ok.has, ok.cab, hd, ok.frames, ok.stk, ok.exf, ok.bs, ok.bsz, ok.noex, ok.exfs, ok.funs, ok.frf⟩, I.os, I.bare, I.base, I.loc, I.cell, I.free, I.freeC, fun p hp => I.pin p (List.mem_cons_of_mem _ hp), I.hok, I.len⟩
end
noncomputable def PassesS (CX : CXT) (X : Cx) (E : St → XK) : Prop := ∀ (pins : List (Addr × Obj)) (σ : St) (H : Hp) (s : Shared) (e : Value) (s' : Shared), Inv X pins σ H s → CX X.stack H s (E σ) e s' → X.xe e s'
noncomputable def tCallS (sp : Sp) (dvs : List V) (E : St → XK) (t : TA) : TE := fun σ H Q => t σ H fun vs H1 => sp (vs ++ dvs) H1 Q (E σ)
section
variable {X : Cx} {CX : CXT} {k : Nat} {f : Addr} {fd : FuncData} {ps : List Str} {sp : Sp} {dvs : List V} {ds : List Value} {E : St → XK} {x : Str} {p pos : Pos} {e : Expr} {es : List Expr} {t : TA}
theorem pe_callS (F : FnOk X.prog X.w X.K X.mg X.base CX k f fd ps sp) (hr : Room k X.A) (hg : Gl X x) (hm : X.mg x = some (.ref f)) (hk : PySem.W.keepIn X.K (.ref f) = true) (hb : Binds X.K fd ps ds) (hd : Vals dvs ds) (hx : PassesS CX X E)
    (ha : PA X (e :: es) t) (hdb : (x == ("__debug__" : Str)) = false := by decide) (he : starEach (e :: es) X.env = (false, eval e X.env) :: starEach es X.env := by rfl) (hpl : (backTo pos (starEach es X.env)).any (·.1) = false := by rfl) :
    PE X (.Call (.Name x p) (e :: es) [] pos) (tCallS sp dvs E t) := by
  intro pins s σ H Q I h
  refine wpAny_Call_Name_kw (ld_glob I hg hm ?_ hdb)
  refine PySem.W.callWith_K (h₀ := X.base) I.ok.mod.kin hk (thn (ha pos pins s σ H _ I h) fun us s1 ⟨vs, H1, I1, r, q⟩ => ⟨I1.kIn, ?_⟩) he hpl
  have r2 : Vals (vs ++ dvs) (us ++ ds) := r.append hd
  have hl : (us ++ ds).length = ps.length := by rw [← r2.length]; exact F.len _ _ _ _ q
  refine wpAny_call (codeAny_mono (F.run X.A X.stack s1 H1 ⟨us, []⟩ (us ++ ds) (vs ++ dvs) Q (E σ) hr I1.env0 (hb s1 us I1.kIn hl) r2 q) fun r s' hq => ?_)
  cases r with
  | error e => exact hx pins σ H1 s1 e s' I1 hq
  | ok fl =>
    cases fl with
    | ret u => exact I1.after hq
    | next => exact False.elim hq
    | brk => exact False.elim hq
    | cont => exact False.elim hq
end
structure Catch (K : PySem.W.Frag) (CS : Addr) : Prop where
  ty : PySem.W.typeIn K (.ref CS) = some (.type "type")
  isc : PySem.W.isClsIn K CS = true
  base : PySem.W.subIn K (.ref CS) (.type "BaseException") = some true
open PySem.W in
theorem looks_isType {K : Frag} {M : Model} {h : Heap} {C : Addr} (kin : K.In h) (z : isClsIn K C = true) : Looks M h (isType (.ref C)) true := by
  unfold isClsIn clsIn at z
  split at z
  · rename_i lk
    intro A Q E s k q
    unfold isType loadHead
    exact wpAny_bind (wpAny_loadPart (k C _ (kin C _ lk)) (wpAny_pure q))
  · cases z
open PySem.W in
theorem exc_matches {prog : Program} {w : World} {A : Around} {E : Value → Shared → Prop} {s : Shared} {K : Frag} {e CS : Addr} {oe : Obj} {Q : Bool → Shared → Prop} (kin : K.In s.heap) (he : s.heap.get? e = some oe) (ca : Catch K CS)
    (hC : subIn K oe.cls (.ref CS) = some true) (hq : Q true s) : wpAny (model prog w) A (excMatches (.ref e) (.ref CS)) Q E s := by
  obtain ⟨hh, g, d, tk, os⟩ := s
  have L1 : Looks (model prog w) hh (typeOf (.ref CS)) (.type "type") := looks_typeIn kin ca.ty
  have L2 : Looks (model prog w) hh (isType (.ref CS)) true := looks_isType kin ca.isc
  have L3 : Looks (model prog w) hh (isSubtype oe.cls (.ref CS)) true := looks_subIn kin hC
  have L4 : Looks (model prog w) hh (isInstance (.ref CS) (.type "tuple")) false := L1.andThen (Looks.of_pure tc_notTuple)
  have L5 : Looks (model prog w) hh (isExcClass (.ref CS)) true := L2.andThen (looks_subIn kin ca.base)
  have L6 : Looks (model prog w) hh (typeOf (.ref e)) oe.cls := (Looks.ld he).andThen .now
  unfold excMatches
  refine wpAny_bind (L4.at ?_)
  simp only [Bool.false_eq_true, if_false]
  refine wpAny_bind (wpAny_pure ?_)
  simp only [List.forIn_cons, List.forIn_nil]
  refine wpAny_bind (wpAny_bind (wpAny_bind (L5.at ?_)))
  simp only [Bool.not_true, Bool.false_eq_true, if_false]
  refine wpAny_pure (wpAny_pure (wpAny_bind (L6.at ?_)))
  refine wpAny_bind (wpAny_bind (wpAny_bind (L3.at ?_)))
  simp only [if_true]
  exact wpAny_pure (wpAny_pure (wpAny_pure hq))
theorem goes {X : Cx} {pins : List (Addr × Obj)} {σ : St} {H : Hp} {s : Shared} {M : Model} {A : Around} {E : Value → Shared → Prop} {Q : Unit → Shared → Prop} {i : Nat} {n : Str} {pos : Pos} (I : Inv X pins σ H s) (hN : X.N.Nodup) (hi : X.N[i]? = some n) (hl : X.env.scope.names.lookup n = some .local)
    (k : ∀ s', Inv X pins (σ.set i none) H s' → Q () s') : wpAny M A (do bindName X.env n .none; unbindBehindTheSuite X.env n pos) Q E s := by
  obtain ⟨m, hn, hloc⟩ := id I.loc
  have hcls : (X.env.scope.kind == .class || (X.env.scope.kind == .module && X.env.locals != X.env.globals)) = false := by rw [I.ok.kind]; rfl
  refine wpAny_nameGoes_keeps hl hn hcls fun h' v hn' hs => k _ ?_
  have nl : ∀ b o, X.s₀.heap.get? b = some o → b ≠ X.env.locals := fun b o e => I.notMine e
  have cne := I.cne
  refine ⟨I.ok, I.os, I.bare, ⟨fun b o e z hb hx => (hs.2 b (nl b o e)).trans (I.base.keep b o e z hb hx), fun b o e z hb hx => ?_, I.base.free, fun b o e hx => ?_, I.base.tups, I.base.frzs, I.base.tbls⟩, ⟨_, hn', fun j y v' e1 e2 e3 => ?_⟩, fun y c e => ?_, I.free, I.freeC, fun p hp => ?_, fun b u e => ?_, by simpa using I.len⟩
  · obtain ⟨sl, e1⟩ := I.base.slot b o e z hb hx
    exact ⟨sl, (hs.2 b (nl b o e)).trans e1⟩
  · obtain ⟨o', e1⟩ := I.base.there b o e hx
    exact ⟨o', (hs.2 b (nl b o e)).trans e1⟩
  · have hj : j ≠ i := by
      rintro rfl
      rw [List.getElem?_set_self (by rw [I.len]; exact (List.getElem?_eq_some_iff.mp hi).1)] at e2
      cases e2
    rw [List.getElem?_set_ne (Ne.symm hj)] at e2
    obtain ⟨u', r', q⟩ := hloc j y v' e1 e2 e3
    refine ⟨u', r', ?_⟩
    rcases q with ⟨k1, k2⟩ | ⟨k1, c, k2, z⟩
    · refine .inl ⟨k1, ?_⟩
      have : y ≠ n := fun e => hj (nodup_ix hN e1 (e ▸ hi))
      simp [this, k2]
    · exact .inr ⟨k1, c, k2, z.sameBut hs (cne y c k2)⟩
  · obtain ⟨w', z⟩ := I.cell y c e
    exact ⟨w', z.sameBut hs (cne y c e)⟩
  · obtain ⟨e, z, ne, nf, d⟩ := I.pin p hp
    exact ⟨(hs.2 p.1 ne).trans e, z, ne, nf, d⟩
  · refine (I.hok b u e).stay (fun c w' hc q => (hs.2 c ?_).trans q) (fun _ q => q) fun _ _ q => q
    rintro rfl
    have fr := I.free
    rcases hc with z | z
    · rw [← z, fr] at e; cases e
    · rw [fr] at z; cases z
end L2
set_option maxHeartbeats 4000000
namespace L2
open PySem PySem.Spec PyProof.Rows
noncomputable def Bg (i : Int) : Prop := Builtin.Int.intBits i ≤ 1048576
theorem Bg.le {i j : Int} (h : Bg i) (hj : j.natAbs ≤ i.natAbs) : Bg j := intBits_le_iff.mpr (Nat.lt_of_le_of_lt hj (intBits_le_iff.mp h))
theorem Bg.zero : Bg 0 := by unfold Bg Builtin.Int.intBits; decide
open PySem.W in
theorem bg_of_lay {ns : List Int} (h : WData.layableAll [WData.list (ns.map WData.int)] = true) : ∀ i ∈ ns, Bg i := fun i hi => by
  have h1 := layableW_arg h _ (List.mem_singleton.mpr rfl)
  have h2 := layableW_item h1 (.int i) (List.mem_map.mpr ⟨i, hi, rfl⟩)
  have h3 := (layableW_iff.mp h2).2.2
  exact h3
open PySem.W in
theorem attachB {l : OpenLaw} {n : Nat} {q : Program} {loose : List Str} {XP : (Str → Option Value) → Heap → Prop} {YP : World → Heap → Prop} {d : DefRec}
    (hn : l.most = some n) (hdf : d.params.defaults = [])
    (run : ∀ (w : World) (s0 s1 : Shared) (mg mb : Str → Option Value) (fa : Addr) (o : Obj) (pm cd doc : Value) (a : Addr) (vs : List Value) (ns : List Int),
      Ground q loose [] XP w s0 mg mb s1.heap → YP w s1.heap →
      s1.heap.get? fa = some o → o.data = .func (Calls.docDef d.name d.params d.body d.scope pm cd doc) → s1.heap.CodeRec cd d.name → mg d.name = some (.ref fa) →
      s1.heap.get? a = some { cls := .type "list", data := .seq vs.toArray } → IntsAre vs ns → ns.length ≤ n → (∀ i ∈ ns, Bg i) → s1.gens = #[] →
      codeAny (model l.prog w) callerA (.call (.ref fa) ⟨[.ref a], []⟩) (fun r s' => r = .ok (.ret (.bool true)) ∧ OldK s1.heap s'.heap ∧ s'.os = s1.os ∧ AllBare s'.gens) s1) :
    WalkO q loose XP YP l.row.toRowW d [] (fun f vs => PySem.call f vs) := by
  intro w s0 s1 mg mb G Y fa o pm cd doc dV kV ho hd hcd hD hmg hg args vals as hpre hlay hrd hwl hlo
  obtain rfl : dV = .none := Dflts.none hD hdf
  obtain rfl : kV = .none := Dflts.noKw hD
  obtain ⟨a, vs, ns, rfl, rfl, hobj, hints, hlen⟩ := Att.script_of hn hpre hwl
  have hbg := bg_of_lay hlay
  refine enter_call (codeAny_mono (run w s0 s1 mg mb fa o pm cd doc a vs ns G Y ho (fd_plain hd) hcd hmg hobj hints hlen hbg hg) fun r s' hq => ?_)
  obtain ⟨e1, h2, h3, h4⟩ := hq
  subst e1
  exact ⟨.inl ⟨.bool true, .bool true, [], rfl, fun _ => rfl, .bool true, Att.post_true l _, fun _ => ⟨List.Pairwise.nil, fun _ hm => (nomatch hm)⟩⟩, h2, h3, h4⟩
theorem Inv.big {X : Cx} {pins : List (Addr × Obj)} {σ : St} {H : Hp} {s : Shared} (I : Inv X pins σ H s) : sysModules < s.heap.objs.size := by
  have h : mainGlobals < s.heap.objs.size := (I.mod.glob.keeps I.bk).lt
  exact Nat.lt_trans (by decide) h
theorem Dens.at {H : Hp} {ts : List Th} {xs : List V} {i : Int} (d : Th) (h : Dens H ts xs) (h0 : 0 ≤ i) (h1 : i < (ts.length : Int)) : ∃ v, atI xs i = some v ∧ Den H (ts.getD i.toNat d) v := by
  have hk : i.toNat < ts.length := by omega
  have ek : i = ((i.toNat : Nat) : Int) := by omega
  obtain ⟨v, e, q⟩ := h.get (List.getElem?_eq_getElem hk)
  have z := atI_nat e
  rw [← ek] at z
  refine ⟨v, z, ?_⟩
  rw [getD_in hk]; exact q
end L2
set_option maxHeartbeats 4000000
namespace L2
open PySem PySem.Spec PyProof.Rows
section
variable {prog : Program} {w : World} {A : Around} {E : Value → Shared → Prop}
end
end L2
set_option maxHeartbeats 4000000
namespace L2
open PySem PySem.Spec PySem.W PyProof.Rows Builtin Builtin.ObjectAttr Builtin.Getset_descriptor
structure XInst (K : Frag) (C : Addr) : Prop where
  ga : findIn K (.ref C) "__getattribute__" = some (some (.builtin "BaseException.__getattribute__"))
  gt : findIn K (.ref C) "__getattr__" = some none
  cl : findIn K (.ref C) "__class__" = some (some (.builtin "object.__class__"))
  sg : specialIn K (.builtin "object.__class__") "__get__" = some (some (.builtin "getset_descriptor.__get__"))
  tk : takesIn K (.builtin "object.__class__") = some true
  ob : mroIn K C (.type "object") = some true
  be : mroIn K C (.type "BaseException") = some true
  ok : isClsIn K C = true
section
variable {prog : Program} {w : World} {A : Around} {E : Value → Shared → Prop} {K : Frag} {a C : Addr} {oe : Obj} {h : Heap} {g : Array GenState} {d : Drawn} {t : Nat} {os : OsState}
theorem exc_class_get {R : Result → Shared → Prop} {tp : Value} (kin : K.In h) (x : XInst K C) (he : h.get? a = some oe) (hc : oe.cls = .ref C) (q : R (.ok (.ret (.ref C))) ⟨h, g, d, t, os⟩) :
    codeAny (model prog w) A (.call (.builtin "getset_descriptor.__get__") ⟨[.builtin "object.__class__", .ref a, tp], []⟩) R ⟨h, g, d, t, os⟩ := by
  have M0 : Looks (model prog w) h (typeOf (.ref a)) (.ref C) := by rw [← hc]; exact (Looks.ld he).andThen .now
  have M1 := looks_mroIn (M := model prog w) kin x.ob
  refine codeAny_call_builtin (KF.slot_gs.plain) KF.entry_gs
    (KF.slot_gs.check _ _ _ _ _ _ _ _ KF.type_class (KF.args_gs _ _ _) ?_)
  unfold Builtin.«getset_descriptor.__get__» descrGet
  rw [dga_obj]
  refine wpAny_bind (wpAny_pure ?_)
  unfold descrGetter descrCheckInstance descrNameAndClass isInstance
  simp only [KF.owner_class]
  repeat lk
  refine ⟨Code.quiet_builtin _ (by decide +kernel), codeAny_builtin KF.entry_class ?_⟩
  unfold Builtin.«object.__class__» shownTypeOf
  repeat lk
  exact q
theorem exc_attr {tk : Tok} {Q : PySem.Fin → Shared → Prop} (kin : K.In h) (x : XInst K C) (he : h.get? a = some oe) (hc : oe.cls = .ref C) (q : Q (.done (.ret (.ref C))) ⟨h, g, d, t, os⟩) :
    wpAny (model prog w) A (Builtin.«object.__getattribute__» ⟨[.ref a, .str "__class__" tk], []⟩) Q E ⟨h, g, d, t, os⟩ := by
  have M0 : Looks (model prog w) h (typeOf (.ref a)) (.ref C) := by rw [← hc]; exact (Looks.ld he).andThen .now
  have M3 := looks_findIn (M := model prog w) kin x.cl
  have f5 := KF.type_class
  have f6 := F.slot_gs_get.lookup
  have f7 := F.slot_gs_set.lookup
  repeat (any_goals (first | assumption | (with_reducible refine wpAny_loadPart_at he ?_; rw [hc]) | (with_reducible refine M3.at ?_) | wp_step))
  refine exc_class_get kin x he hc ?_
  exact wpAny_pure q
seal wpAny in
theorem exc_class {Q : Option Value → Shared → Prop} (kin : K.In h) (x : XInst K C) (he : h.get? a = some oe) (hc : oe.cls = .ref C) (q : Q (some (.ref C)) ⟨h, g, d, t + 1, os⟩) :
    wpAny (model prog w) A (getAttr? (.ref a) "__class__") Q E ⟨h, g, d, t, os⟩ := by
  have M0 : Looks (model prog w) h (typeOf (.ref a)) (.ref C) := by rw [← hc]; exact (Looks.ld he).andThen .now
  have M1 := looks_findIn (M := model prog w) kin x.ga
  have M2 := looks_findIn (M := model prog w) kin x.gt
  have M3 := looks_findIn (M := model prog w) kin x.cl
  unfold getAttr? getAttrBy? getAttrBy
  refine wpAny_bind (wpAny_mkText (wpAny_bind (wpAny_attempt (wpAny_holding (wpAny_bind (M0.at (wpAny_bind (M1.at ?_))))))))
  have n1 : (onTheHeap (Value.ref C) && Value.builtin "BaseException.__getattribute__" == Value.builtin "object.__getattribute__") = false := by
    rw [show (Value.builtin "BaseException.__getattribute__" == Value.builtin "object.__getattribute__") = false by decide +kernel, Bool.and_false]
  simp only [n1, Bool.false_eq_true, if_false]
  unfold getAttrByItsOwn hookBefore
  refine wpAny_bind (M2.at (wpAny_bind (wpAny_attempt (wpAny_holding ?_))))
  unfold callGetattribute boundAndCalled
  simp only [Bool.false_and, Bool.false_eq_true, if_false]
  rw [F.attr_ValueError.ga.bind (.ref a)]
  refine wpAny_bind (wpAny_pure ?_)
  refine wpAny_call (codeAny_call_builtin F.attr_ValueError.ga.plain F.entry_bexc_ga ?_)
  have be : subIn K (.ref C) (.type "BaseException") = some true := x.be
  have M4 : Looks (model prog w) h (isInstance (.ref a) (.type "BaseException")) true := M0.andThen (looks_subIn kin be)
  have k1 : builtinKind "BaseException.__getattribute__" = some .slot := by decide +kernel
  have k2 : splitId "BaseException.__getattribute__" = some ("BaseException", "__getattribute__") := by decide +kernel
  show wpAny _ _ (checkBuiltinCall "BaseException.__getattribute__" ⟨[.ref a, .str "__class__" t], []⟩) _ _ _
  have k3 : argsOk "BaseException.__getattribute__" ⟨[.ref a, .str "__class__" t], []⟩ := F.args_bexc_ga (.ref a) (.str "__class__" t)
  refine check_slot (self := .ref a) (rest := [.str "__class__" t]) (kw := []) (owner := "BaseException") (n := "__getattribute__") k1 k2 M4 k3 ?_
  refine exc_attr kin x he hc ?_
  show wpAny (model prog w) A (handedOut (.ref C)) _ _ _
  exact handed_on rfl (wpAny_pure q)
theorem kitx_exc (x : XInst K C) : KitX K (.ref a) (.ref C) (fun h => ∃ oe, h.get? a = some oe ∧ oe.cls = .ref C) where
  ty := fun M h _ ⟨oe, he, hc⟩ => by rw [← hc]; exact (Looks.ld he).andThen .now
  it := fun M h kin _ => looks_isType kin x.ok
  ne := fun h tp dd its n sl kin htp => by
    refine Bool.eq_false_iff.mpr fun q => ?_
    have e : C = tp := Value.ref.inj (beq_iff_eq.mp q)
    subst e
    have z := x.ok
    unfold isClsIn clsIn at z
    split at z
    · rename_i lk
      have y := (kin C _ lk).symm.trans htp
      cases y
    · cases z
  ca := fun {prog w A E Q s} kin ⟨oe, he, hc⟩ q => by
    obtain ⟨h, g, d, t, os⟩ := s
    exact exc_class kin x he hc q
end
section
variable {X : Cx} {e : Addr} {oe : Obj}
theorem Inv.heldAt {pins : List (Addr × Obj)} {σ : St} {H : Hp} {s : Shared} (I : Inv (X.held e oe) pins σ H s) : s.heap.get? e = some oe := (I.pin (e, oe) (List.mem_append_left _ List.mem_cons_self)).1
theorem op_eqD (hu : X.A.units + 64 < cLine) : OpR X (compareOp .Eq) (fun x y H Q => ∃ t, Den H t x ∧ Den H t y ∧ depT t ≤ 60 ∧ Q (.bl true) H) := by
  intro pins s σ H x y v u Q I rx ry h
  obtain ⟨t, d1, d2, hd, q⟩ := h
  have scal_case : scal x y = true → x = y → wpAny (model X.prog X.w) X.A (compareOp .Eq v u) (EP X pins σ Q) X.xe s := fun h1 h2 =>
    op_eq pins s σ H x y v u Q I rx ry ⟨h1, by rw [decide_eq_true h2]; exact q⟩
  cases t with
  | non => cases (show x = V.non from d1); cases (show y = V.non from d2); exact scal_case rfl rfl
  | bl b => cases (show x = V.bl b from d1); cases (show y = V.bl b from d2); exact scal_case rfl rfl
  | int i => cases (show x = V.int i from d1); cases (show y = V.int i from d2); exact scal_case rfl rfl
  | str z => cases (show x = V.str z from d1); cases (show y = V.str z from d2); exact scal_case rfl rfl
  | lst ts =>
    obtain ⟨a1, xs, rfl, h1, e1⟩ := d1
    obtain ⟨a2, ys, rfl, h2, e2⟩ := d2
    cases (show v = Value.ref a1 from rx); cases (show u = Value.ref a2 from ry)
    obtain ⟨_, us, n1, q1, g1⟩ := (show ObjOk X.prog X.w H s.heap a1 (.lst xs) from I.hok a1 _ h1)
    obtain ⟨_, ws, n2, q2, g2⟩ := (show ObjOk X.prog X.w H s.heap a2 (.lst ys) from I.hok a2 _ h2)
    have hsz : us.toArray.size = ws.toArray.size := by
      rw [List.size_toArray, List.size_toArray, ← q1.length, ← q2.length, e1.len, e2.len]
    have hd' : depTs ts + 1 ≤ 60 := hd
    have h := SeqAt.RcAt.lists (A := X.A) (s := s) (e := fun _ => true) (⟨_, g1, rfl, _, rfl⟩ : s.heap.IsList a1 us.toArray) (⟨_, g2, rfl, _, rfl⟩ : s.heap.IsList a2 ws.toArray) hsz (by omega) fun j j1 j2 => by
      obtain ⟨t, w1, w2, ht, p1, p2, s1, s2⟩ := dens_at e1 e2 q1 q2 j j1 j2
      exact eqDen I.hok 60 X.A.in1 t w1 w2 _ _ (by have := depTs_mem ht; omega) (by show X.A.units + 1 + 60 < cLine; omega) p1 p2 s1 s2
    rw [range_all_true] at h
    exact h X.prog X.w _ _ ⟨.bl true, H, I, rfl, q⟩
  | tup ts =>
    obtain ⟨a1, xs, rfl, h1, e1⟩ := d1
    obtain ⟨a2, ys, rfl, h2, e2⟩ := d2
    cases (show v = Value.ref a1 from rx); cases (show u = Value.ref a2 from ry)
    obtain ⟨_, us, q1, g1⟩ := (show ObjOk X.prog X.w H s.heap a1 (.tup xs) from I.hok a1 _ h1)
    obtain ⟨_, ws, q2, g2⟩ := (show ObjOk X.prog X.w H s.heap a2 (.tup ys) from I.hok a2 _ h2)
    have hsz : us.toArray.size = ws.toArray.size := by
      rw [List.size_toArray, List.size_toArray, ← q1.length, ← q2.length, e1.len, e2.len]
    have hd' : depTs ts + 1 ≤ 60 := hd
    have h := SeqAt.RcAt.tuples (A := X.A) (s := s) (e := fun _ => true) (show s.heap.IsTuple a1 us.toArray from g1) (show s.heap.IsTuple a2 ws.toArray from g2) (by omega) fun j j1 j2 => by
      obtain ⟨t, w1, w2, ht, p1, p2, s1, s2⟩ := dens_at e1 e2 q1 q2 j j1 j2
      exact eqDen I.hok 60 X.A.in1 t w1 w2 _ _ (by have := depTs_mem ht; omega) (by show X.A.units + 1 + 60 < cLine; omega) p1 p2 s1 s2
    rw [range_all_true, hsz, beq_self_eq_true, Bool.and_self] at h
    exact h X.prog X.w _ _ ⟨.bl true, H, I, rfl, q⟩
  | emp =>
    obtain ⟨a1, rfl, h1⟩ := d1
    obtain ⟨a2, rfl, h2⟩ := d2
    cases (show v = Value.ref a1 from rx); cases (show u = Value.ref a2 from ry)
    obtain ⟨_, m1, vs1, q1, g1⟩ := (show ObjOk X.prog X.w H s.heap a1 (.dK []) from I.hok a1 _ h1)
    obtain ⟨_, m2, vs2, q2, g2⟩ := (show ObjOk X.prog X.w H s.heap a2 (.dK []) from I.hok a2 _ h2)
    cases q1
    cases q2
    exact PySem.W.keq_eq (K := Key) (knd := mixKind X.prog X.w) (r := true) m1 m2 g1 g2 (by omega) (fun _ => .nil) ⟨.bl true, H, I, rfl, q⟩
  | dic => exact absurd (show cLine + 1 ≤ 60 from hd) (by omega)
end
end L2
set_option maxHeartbeats 4000000
namespace L2
open PySem PySem.Spec PyProof.Rows
section
variable {X : Cx} {pins : List (Addr × Obj)} {σ : St} {H : Hp} {s : Shared} {h' : Heap}
theorem Inv.turnedL {t' : Nat} {fp : List Addr} (I : Inv X pins σ H s) (k : ∀ b o, b ∉ fp → s.heap.get? b = some o → h'.get? b = some o) (hf : ∀ b ∈ fp, FpOk X pins H b) :
    Inv X pins σ H { s with heap := h', toks := t' } := by
  have nin : ∀ b u, H b = some u → b ∉ fp := fun b u e z => by rw [(hf b z).1] at e; cases e
  refine I.step (g' := s.gens) (d' := s.drawn) (ch := fp) (fun b hb => ⟨(hf b hb).2.2.2.1, (hf b hb).2.1, (hf b hb).2.2.2.2.1, (hf b hb).2.2.2.2.2⟩) (fun b o _ _ hc e _ => k b o hc e) (fun b o _ _ hc e _ => ⟨o.slots, k b o hc e⟩) (fun _ _ _ _ n => n)
    (fun b o hc e => ⟨o, k b o hc e⟩) (fun _ _ e => e) (fun _ _ _ e => e) (fun b ps e => ⟨#[], by rw [e]; simp⟩) (fun m hm => ?_) (fun b u e => ?_) I.bare
  · obtain ⟨o, es, ep, ho, r⟩ := hm
    exact ⟨o, es, ep, k _ o (fun z => (hf _ z).2.1 rfl) ho, r⟩
  · refine (I.hok b u e).stay (fun c v hc q => k c v ?_ q) (fun _ q => q) fun _ _ q => q
    rcases hc with z | z
    · rw [z]; exact nin b u e
    · exact nin c _ z
theorem Inv.turnLay {t' : Nat} {fp : List Addr} {a : Addr} {o : HO} (I : Inv X pins σ H s) (k : ∀ b u, b ∉ fp → s.heap.get? b = some u → h'.get? b = some u) (hf : ∀ b ∈ fp, FpOk X pins H b)
    (ha : s.heap.objs.size ≤ a) (new : ObjOk X.prog X.w (upd H a o) h' a o) : Inv X pins σ (upd H a o) { s with heap := h', toks := t' } := by
  have nin : ∀ b u, H b = some u → b ∉ fp := fun b u e z => by rw [(hf b z).1] at e; cases e
  have hn : H a = none := I.hok.fresh ha
  have ne : ∀ b u, H b = some u → b ≠ a := fun b u e z => by rw [z, hn] at e; cases e
  refine I.step (g' := s.gens) (d' := s.drawn) (ch := fp) (fun b hb => ⟨(hf b hb).2.2.2.1, (hf b hb).2.1, (hf b hb).2.2.2.2.1, (hf b hb).2.2.2.2.2⟩) (fun b o _ _ hc e _ => k b o hc e) (fun b o _ _ hc e _ => ⟨o.slots, k b o hc e⟩)
    (fun b u _ e n => by rw [upd_ne (Nat.ne_of_lt (Nat.lt_of_lt_of_le (Heap.lt_size e) ha))]; exact n)
    (fun b o hc e => ⟨o, k b o hc e⟩) (fun b xs e => by rw [upd_ne (ne b _ e)]; exact e) (fun b o u e => by rw [upd_ne (ne b _ e)]; exact e) (fun b ps e => ⟨#[], by rw [upd_ne (ne b _ e), e]; simp⟩) (fun m hm => ?_) (fun b u e => ?_) I.bare
  · obtain ⟨o, es, ep, ho, r⟩ := hm
    exact ⟨o, es, ep, k _ o (fun z => (hf _ z).2.1 rfl) ho, r⟩
  · by_cases hb : b = a
    · subst hb
      rw [upd_same] at e
      cases e
      exact new
    · rw [upd_ne hb] at e
      refine (I.hok b u e).stay (fun c v hc q => k c v ?_ q) (fun c q => by rw [upd_ne (ne c _ q)]; exact q) fun c xs q => by rw [upd_ne (ne c _ q)]; exact q
      rcases hc with z | z
      · rw [z]; exact nin b u e
      · exact nin c _ z
end
theorem zapart {n l1 l2 : Nat} (h1 : l1 < n) (h2 : l2 < n) : ZipApart (n + 4) (n + 2) (n + 3) n (n + 1) l1 l2 := by
  constructor <;> (show (_ : Nat) ≠ (_ : Nat); omega)
end L2
set_option maxHeartbeats 4000000
namespace L2
open PySem PySem.Spec PyProof.Rows
noncomputable abbrev testsOf (ifs : List Expr) (env : Env) : Sem Bool := forIn ifs true fun c ok => if ok = true then do
      let ok ← PySem.isTrue c env (eval c env)
      pure (ForInStep.yield ok)
    else pure (ForInStep.yield ok)
theorem compTurn_ifs (elt target iter : Expr) (ifs : List Expr) (scope : Scope) (pos : Pos) (it acc : Value) (env : Env) :
  compTurn (elt.ListComp [⟨target, iter, ifs, 0⟩] scope pos) 0 it acc env = (do
    standAt iter.pos
    let r ← pyNext it
    match r with
      | none => pure (Fin.done Flow.next)
      | some v => do
        letOwnedTupleGo target it v
        assign target env v
        let ok ← testsOf ifs env
        if ok = true then do
          let x ← eval elt env
          let _ ← call (Value.builtin "list.append") [acc, x]
          again (Code.compLoop (elt.ListComp [⟨target, iter, ifs, 0⟩] scope pos) 0 it acc env)
        else again (Code.compLoop (elt.ListComp [⟨target, iter, ifs, 0⟩] scope pos) 0 it acc env)) := by
  unfold compTurn
  simp
  rfl
noncomputable def PIf (X : Cx) (ifs : List Expr) (t : TT) : Prop :=
  ∀ (pins : List (Addr × Obj)) (s : Shared) (σ : St) (H : Hp) (Q : Bool → Hp → Prop), Inv X pins σ H s → t σ H Q → wpAny (model X.prog X.w) X.A (testsOf ifs X.env) (TP X pins σ Q) X.xe s
noncomputable def tYes : TT := fun _ H Q => Q true H
theorem pif_nil {X : Cx} : PIf X [] tYes := fun pins s σ H Q I h => by
  show wpAny _ _ (pure true) _ _ s
  exact wpAny_pure ⟨H, I, h⟩
theorem pif_one {X : Cx} {c : Expr} {t : TT} (hc : PT X c t) : PIf X [c] t := fun pins s σ H Q I h => by
  have e : testsOf [c] X.env = PySem.isTrue c X.env (eval c X.env) := by simp [testsOf]
  rw [e]
  exact hc pins s σ H Q I h
theorem compLoop_ifs {prog : Program} {w : World} {A : Around} {R : Result → Shared → Prop} {s : Shared} {elt tg iter : Expr} {ifs : List Expr} {scope : Scope} {pos : Pos} {it acc : Value} {env : Env} (Iv : Nat → Shared → Prop)
    (turn : ∀ k s, Iv k s → wpAny (model prog w) A (pyNext it) (fun r s1 => match r with
      | none => R (.ok .next) s1
      | some v => wpAny (model prog w) A (letOwnedTupleGo tg it v) (fun _ s2 => wpAny (model prog w) A (assign tg env v) (fun _ s3 => wpAny (model prog w) A (testsOf ifs env) (fun b s4 => if b = true then
          wpAny (model prog w) A (eval elt env) (fun y s5 => wpAny (model prog w) A (call (.builtin "list.append") [acc, y]) (fun _ s6 => ∃ m, m < k ∧ Iv m s6) (fun _ _ => False) s5) (fun _ _ => False) s4
          else ∃ m, m < k ∧ Iv m s4) (fun _ _ => False) s3) (fun _ _ => False) s2) (fun _ _ => False) s1) (fun _ _ => False) s)
    (k : Nat) (h : Iv k s) : codeAny (model prog w) A (.compLoop (.ListComp elt [⟨tg, iter, ifs, 0⟩] scope pos) 0 it acc env) R s := by
  refine codeAny_loop rfl Iv (fun k s hI => ?_) k h
  show wpAny _ _ ((compTurn (.ListComp elt [⟨tg, iter, ifs, 0⟩] scope pos) 0 it acc env).onRaise (fun e => do noteFrame e env; theTreesLotGoes e)) _ _ s
  refine wpAny_noted ?_
  rw [compTurn_ifs]
  refine wpAny_bind (wpAny_standAt (wpAny_bind (wpAny_mono (turn k s hI) (fun r s1 h1 => ?_) fun _ _ f => f.elim)))
  cases r with
  | none => exact wpAny_pure h1
  | some v =>
    refine wpAny_bind (wpAny_mono h1 (fun _ s2 h2 => wpAny_bind (wpAny_mono h2 (fun _ s3 h3 => wpAny_bind (wpAny_mono h3 (fun b s4 h4 => ?_) fun _ _ f => f.elim)) fun _ _ f => f.elim)) fun _ _ f => f.elim)
    cases b with
    | true =>
      rw [if_pos rfl] at h4 ⊢
      exact wpAny_bind (wpAny_mono h4 (fun y s5 h5 => wpAny_bind (wpAny_mono h5 (fun _ s6 h6 => wpAny_pure ⟨rfl, h6⟩) fun _ _ f => f.elim)) fun _ _ f => f.elim)
    | false =>
      rw [if_neg Bool.false_ne_true] at h4 ⊢
      exact wpAny_pure ⟨rfl, h4⟩
structure CompOkL (X : Cx) (xs : List Str) (ts : List (Str × Nat)) (scope : Scope) (cl : List (Str × Addr)) : Prop where
  clos : closureFor scope X.env = pure cl
  sub : ∀ y c, cl.lookup y = some c → X.env.cells.lookup y = some c
  nocell : (scope.names.all fun p => p.2 != .cell) = true
  kind : scope.kind = .function
  locs : (scope.names.all fun p => p.2 != .local || scope.names.lookup p.1 == some .local) = true
  nd : (xs ++ ts.map (·.1)).Nodup
  around : (ts.all fun p => decide (X.N[p.2]? = some p.1) && (X.env.kindOf p.1 == some .cell || X.env.kindOf p.1 == some .free) && (cl.lookup p.1).isSome &&
    ((relabel scope X.env).names.lookup p.1 == some .cell || (relabel scope X.env).names.lookup p.1 == some .free)) = true
  has : ((relabel scope X.env).names.all fun p => !(p.2 == .cell || p.2 == .free) || (cl.lookup p.1).isSome) = true
noncomputable abbrev nmsL (xs : List Str) (ts : List (Str × Nat)) : List Str := xs ++ ts.map (·.1)
noncomputable def CompG (J : It) (g : TG) (tt : TT) (te : TE) (k : Nat) (st : St) (D : Addr) (H1 : Hp) (Q : VK) : Prop :=
  ∃ W : Nat → Nat → List V → Hp → Prop, (∃ m, W 0 m [] (upd H1 D (.lst []))) ∧ ∀ i m ys H2, W i m ys H2 →
    (J.stop i H2 ∧ Q (.ref D) H2) ∨ (J.go i H2 ∧ ∀ x H3 σ0, J.yld i H2 x H3 → σ0.length = k → g x (σ0 ++ st) H3 fun σ2 H4 => (∃ σ1, σ1.length = k ∧ σ2 = σ1 ++ st) ∧ tt σ2 H4 fun b H5 =>
      if b = true then te σ2 H5 fun y H6 => H6 D = some (.lst ys) ∧ ys.length < sizeLine ∧ ∃ m', m' < m ∧ W (i + 1) m' (ys ++ [y]) (upd H6 D (.lst (ys ++ [y])))
      else ∃ m', m' < m ∧ W (i + 1) m' ys H5)
noncomputable def tCompG (wi : TI) (g : TG) (tt : TT) (k : Nat) (fr : List Nat) (te : TE) : TE := fun σ H Q => wi σ H fun J H1 => ∀ D, H1 D = none → CompG J g tt te k (taken σ fr) D H1 Q
section
variable {X : Cx} {elt iter tg : Expr} {ifs : List Expr} {xs : List Str} {pos : Pos} {scope : Scope} {cl : List (Str × Addr)} {ts : List (Str × Nat)} {wi : TI} {te : TE} {g : TG} {tt : TT}
theorem CompOkL.nocell' (O : CompOkL X xs ts scope cl) : ∀ y ∈ scope.names, y.2 ≠ .cell := fun y hy e => by
  have := List.all_eq_true.mp O.nocell y hy
  rw [e] at this
  cases this
theorem CompOkL.locs' (O : CompOkL X xs ts scope cl) : ∀ y ∈ scope.names, y.2 = .local → scope.names.lookup y.1 = some .local := fun y hy e => by
  have h := List.all_eq_true.mp O.locs y hy
  rw [e] at h
  rcases Bool.or_eq_true_iff.mp h with z | z
  · cases z
  · exact beq_iff_eq.mp z
theorem CompOkL.from' (O : CompOkL X xs ts scope cl) : ∀ (i : Nat) (y : Str), (ts.map (·.1))[i]? = some y → ∃ j, (sltOf ts)[i]? = some j ∧ X.N[j]? = some y ∧ (X.env.kindOf y = some .cell ∨ X.env.kindOf y = some .free) ∧ (cl.lookup y).isSome = true ∧
    ((relabel scope X.env).names.lookup y = some .cell ∨ (relabel scope X.env).names.lookup y = some .free) := fun i y e1 => by
  rw [List.getElem?_map] at e1
  cases q : ts[i]? with
  | none => rw [q] at e1; cases e1
  | some p =>
    rw [q] at e1
    have e2 : p.1 = y := Option.some.inj e1
    subst e2
    have h := List.all_eq_true.mp O.around p (List.mem_of_getElem? q)
    simp only [Bool.and_eq_true, Bool.or_eq_true, beq_iff_eq, decide_eq_true_eq] at h
    obtain ⟨⟨⟨h1, h2⟩, h3⟩, h4⟩ := h
    refine ⟨p.2, ?_, h1, h2, h3, h4⟩
    show (ts.map (·.2))[i]? = some p.2
    rw [List.getElem?_map, q] <;> rfl
theorem CompOkL.has' (O : CompOkL X xs ts scope cl) : ∀ y, ((relabel scope X.env).names.lookup y = some .cell ∨ (relabel scope X.env).names.lookup y = some .free) → (cl.lookup y).isSome = true := fun y h => by
  have go : ∀ k : NameKind, (k = .cell ∨ k = .free) → (relabel scope X.env).names.lookup y = some k → (cl.lookup y).isSome = true := fun k hk e => by
    have z := List.all_eq_true.mp O.has (y, k) (PySem.mem_of_lookup e)
    rcases Bool.or_eq_true_iff.mp z with z | z
    · rcases hk with e | e <;> (rw [e] at z; cases z)
    · exact z
  rcases h with h | h
  · exact go _ (.inl rfl) h
  · exact go _ (.inr rfl) h
theorem compL_ok {pins : List (Addr × Obj)} {σ : St} {H3 : Hp} {s3 : Shared} {fp : List Addr} (O : CompOkL X xs ts scope cl) (I3 : Inv X pins σ H3 s3) (hfp : ∀ b ∈ fp, FpOk X pins H3 b ∧ b < s3.heap.objs.size) :
    (cxComp X (nmsL xs ts) scope cl s3.heap.objs.size s3 H3 fp).Ok where
  mod := I3.ok.mod
  kind := O.kind
  glob := I3.ok.glob
  blt := I3.ok.blt
  above := Nat.le_refl _
  inj := fun y z c h1 h2 => I3.ok.inj y z c (O.sub y c h1) (O.sub z c h2)
  has := fun y h => Option.isSome_iff_exists.mp (O.has' y h)
  cab := fun y c h => by cases h
  hd := I3.ok.hd
  frames := I3.ok.frames
  stk := .inl rfl
  exf := fun b hb => ⟨Nat.ne_of_lt (hfp b hb).2, fun y c e => (hfp b hb).1.2.2.2.2.1 y c (O.sub y c e)⟩
  bs := fun b o e => I3.bs b o e
  bsz := Nat.le_trans I3.ok.bsz I3.sz
  noex := fun b o e hb => by
    rcases (hfp b hb).1.2.2.2.1 with z | z
    · exact I3.ok.noex b o e z
    · exact absurd (Nat.lt_of_lt_of_le (Heap.lt_size (I3.ok.bs b o e).1) z) (Nat.lt_irrefl _)
  exfs := fun b hb hz => by
    rcases List.mem_cons.mp (I3.stkSub b hz) with e | e
    · exact (hfp b hb).1.2.1 e
    · exact (hfp b hb).1.2.2.1 e
  funs := I3.stack
  frf := I3.stkFree
theorem compL_start {pins : List (Addr × Obj)} {σ : St} {H3 : Hp} {s3 : Shared} {fp : List Addr} {h1 : Heap} {tk : Nat} (O : CompOkL X xs ts scope cl) (I3 : Inv X pins σ H3 s3) (hfp : ∀ b ∈ fp, FpOk X pins H3 b ∧ b < s3.heap.objs.size)
    (hns : h1.Ns s3.heap.objs.size fun _ => none) (old : ∀ b o, s3.heap.get? b = some o → h1.get? b = some o) :
    Inv (cxComp X (nmsL xs ts) scope cl s3.heap.objs.size s3 H3 fp) [] (List.replicate xs.length none ++ taken σ (sltOf ts)) H3 { s3 with heap := h1, toks := tk } := by
  refine ⟨compL_ok O I3 hfp, rfl, I3.bare, Un.kept old, ⟨_, hns, fun i y v e1 e2 e3 => ?_⟩, fun y c e => ?_, I3.hok.fresh (Nat.le_refl _), fun y c e => I3.freeC y c (O.sub y c e), fun p hp => absurd (show p ∈ ([] : List (Addr × Obj)) from hp) (by simp), I3.hok.kept old, ?_⟩
  · by_cases hi : i < xs.length
    · rw [List.getElem?_append_left (by simpa using hi), List.getElem?_replicate, if_pos hi] at e2
      cases e2
    · have hi' : xs.length ≤ i := Nat.le_of_not_lt hi
      have e1' : (ts.map (·.1))[i - xs.length]? = some y := by
        have : (xs ++ ts.map (·.1))[i]? = some y := e1
        rw [List.getElem?_append_right hi'] at this; exact this
      rw [List.getElem?_append_right (by simpa using hi')] at e2
      rw [List.length_replicate] at e2
      obtain ⟨j, hj, hN, hk, hcl, hk2⟩ := O.from' _ y e1'
      have e2' : σ[j]? = some (some v) := by
        have q := e2
        unfold taken at q
        rw [List.getElem?_map, hj] at q
        have q' : (σ[j]?).getD none = some v := Option.some.inj q
        cases z : σ[j]? with
        | none => rw [z] at q'; cases q'
        | some w => rw [z] at q'; rw [show w = some v from q']
      obtain ⟨m, hn, hl⟩ := I3.loc
      have vis : Vis X.env.scope y := hk.elim (fun z => .inr (.inl z)) fun z => .inr (.inr z)
      obtain ⟨u, r, l⟩ := hl j y v hN e2' vis
      obtain ⟨c, hc⟩ := Option.isSome_iff_exists.mp hcl
      refine ⟨u, r, .inr ⟨hk2, c, hc, ?_⟩⟩
      rcases l with ⟨k, _⟩ | ⟨_, c', hc', z⟩
      · rcases hk with hk | hk
        · rw [k] at hk; cases hk
        · rw [k] at hk; cases hk
      · rw [O.sub y c hc] at hc'
        cases hc'
        obtain ⟨o, ho, hd⟩ := z
        exact ⟨o, old c o ho, hd⟩
  · obtain ⟨v, o, ho, hd⟩ := I3.cell y c (O.sub y c e)
    exact ⟨v, o, old c o ho, hd⟩
  · show (List.replicate xs.length none ++ taken σ (sltOf ts)).length = (nmsL xs ts).length
    simp [taken]
theorem compG_run {use : Option (Value → Sem Unit)} {QV : Value → Shared → Prop} {cpos : Pos} {pins : List (Addr × Obj)} {s : Shared} {σ : St} {H : Hp} {Q : VK} (hc : X.calm = true) (O : CompOkL X xs ts scope cl) (hi : PI X tg iter wi) (hg : ∀ C s3 H3 fp, PG (cxComp X (nmsL xs ts) scope cl C s3 H3 fp) tg g)
    (ht : ∀ C s3 H3 fp, PIf (cxComp X (nmsL xs ts) scope cl C s3 H3 fp) ifs tt) (he : ∀ C s3 H3 fp, PE (cxComp X (nmsL xs ts) scope cl C s3 H3 fp) elt te)
    (hs : ∀ x, foldedSetIterable iter X.env x = pure x) (I : Inv X pins σ H s) (h : tCompG wi g tt xs.length (sltOf ts) te σ H Q)
    (fin : ∀ (D C : Addr) (s6 : Shared) (H5 : Hp), Inv X pins σ H5 s6 → FpOk X pins H5 C → (∃ m, s6.heap.Ns C m) → Q (.ref D) H5 → compPost (model X.prog X.w) X.A X.xe use QV (.ref D) C (.ok .next) s6) :
    wpAny (model X.prog X.w) X.A (comprehension (.ListComp elt [⟨tg, iter, ifs, 0⟩] scope pos) scope X.env cpos (newList []) false (eval iter X.env) use) QV X.xe s := by
  refine wpAny_comprehension_free (use := use) rfl hs O.clos O.kind O.locs' (thn (hi pins s σ H _ I h) fun v s1 h1 => thn h1 fun itv s2 h2 => ?_)
  obtain ⟨it, fp, tn, J, H2, rfl, I2, T, st2, f2, q⟩ := h2
  have hD : H2 s2.heap.objs.size = none := I2.hok.fresh (Nat.le_refl _)
  obtain ⟨W, ⟨m0, w0⟩, turn⟩ := q s2.heap.objs.size hD
  refine wpAny_newObj_type ?_
  have I3 : Inv X pins σ (upd H2 s2.heap.objs.size (.lst [])) { s2 with heap := s2.heap.push { cls := .type "list", dict := none, data := .seq ([] : List Value).toArray } } :=
    I2.laid (a := s2.heap.objs.size) (o := .lst []) (t' := s2.toks) (fun b u e => Heap.get?_push_of_some _ e) (Nat.le_refl _) ⟨Nat.zero_le _, [], 0, .nil, Heap.get?_push_size _ rfl⟩
  generalize hs3 : ({ s2 with heap := s2.heap.push { cls := .type "list", dict := none, data := .seq ([] : List Value).toArray } } : Shared) = s3 at I3
  have sz3 : s3.heap.objs.size = s2.heap.objs.size + 1 := by rw [← hs3, Heap.size_push]
  have old3 : ∀ b u, s2.heap.get? b = some u → s3.heap.get? b = some u := fun b u e => by rw [← hs3]; exact Heap.get?_push_of_some _ e
  generalize hH3 : upd H2 s2.heap.objs.size (.lst []) = H3 at I3 w0
  have fp2 : ∀ b ∈ fp, b < s2.heap.objs.size := fun b hb => by
    obtain ⟨o, e, _⟩ := T.obj _ _ st2 b hb
    exact Heap.lt_size e
  have hfp : ∀ b ∈ fp, FpOk X pins H3 b ∧ b < s3.heap.objs.size := fun b hb => by
    refine ⟨⟨?_, (f2 b hb).2⟩, by rw [sz3]; exact Nat.lt_succ_of_lt (fp2 b hb)⟩
    rw [← hH3, upd_ne (Nat.ne_of_lt (fp2 b hb))]
    exact (f2 b hb).1
  refine wpAny_newFunctionEnv O.nocell' (by intro y hy; simp at hy) (fun h₁ hns₁ hsb₁ => ?_) O.kind
  have old : ∀ b o, s3.heap.get? b = some o → h₁.get? b = some o := fun b o e => hsb₁.extBut b o (Nat.ne_of_lt (Heap.lt_size e)) (Heap.get?_push_of_some _ e)
  have start : Inv (cxComp X (nmsL xs ts) scope cl s3.heap.objs.size s3 H3 fp) [] (List.replicate xs.length none ++ taken σ (sltOf ts)) H3 { s3 with heap := h₁, toks := s3.toks + 0 } := compL_start O I3 hfp hns₁ old
  have st4 : tn 0 h₁ := T.keep _ _ _ st2 fun b hb o e => old b o (old3 b o e)
  have okX : ∀ {H' : Hp}, (∀ b ∈ fp, H' b = none) → ∀ b ∈ fp, FpOk (cxComp X (nmsL xs ts) scope cl s3.heap.objs.size s3 H3 fp) [] H' b := fun hn b hb => by
    refine ⟨hn b hb, Nat.ne_of_lt (hfp b hb).2, fun z => ?_, .inl hb, fun y c e => (f2 b hb).2.2.2.2.1 y c (O.sub y c e), fun p hp => absurd (show p ∈ ([] : List (Addr × Obj)) from hp) (by simp)⟩
    rcases List.mem_cons.mp (I3.stkSub b z) with e | e
    · exact (f2 b hb).2.1 e
    · exact (f2 b hb).2.2.1 e
  have loop : ∀ s₄ : Shared, s₄ = { s3 with heap := h₁, toks := s3.toks + 0 } →
      codeAny (model X.prog X.w) X.A (.compLoop (.ListComp elt [⟨tg, iter, ifs, 0⟩] scope pos) 0 (.ref it) (.ref s2.heap.objs.size) (compEnvC scope cl s3.heap.objs.size X.env))
        (compPost (model X.prog X.w) X.A X.xe use QV (.ref s2.heap.objs.size) s3.heap.objs.size) s₄ := by
    rintro s₄ rfl
    refine compLoop_ifs (fun n s' => ∃ i ys σ0 H', σ0.length = xs.length ∧ Inv (cxComp X (nmsL xs ts) scope cl s3.heap.objs.size s3 H3 fp) [] (σ0 ++ taken σ (sltOf ts)) H' s' ∧ tn i s'.heap ∧ (∀ b ∈ fp, H' b = none) ∧ W i n ys H') ?_ m0
      ⟨0, [], _, H3, by simp, start, st4, fun b hb => (hfp b hb).1.1, w0⟩
    rintro n s5 ⟨i, ys, σ0, H5, l0, I5, st5, fr5, w5⟩
    rcases turn i n ys H5 w5 with ⟨stop, qn⟩ | ⟨go, step⟩
    · refine thn (T.done (cxComp X (nmsL xs ts) scope cl s3.heap.objs.size s3 H3 fp) rfl rfl rfl hc i [] s5 (σ0 ++ taken σ (sltOf ts)) H5 _ I5 (okX fr5) st5 stop) fun r s6 ⟨hr, I6⟩ => ?_
      subst hr
      obtain ⟨m, hn, _⟩ := id I6.loc
      have u6 : Un (frs X.stack) fp H3 H5 s3.heap s6.heap := I6.base
      have fC : H5 s3.heap.objs.size = none := I6.free
      exact fin s2.heap.objs.size s3.heap.objs.size s6 H5 (I3.call' (s' := s6) (ch := fp) I6.os u6 I6.hok I6.bare (fun b hb => ⟨(f2 b hb).2.2.2.1, (f2 b hb).2.1, (f2 b hb).2.2.2.2.1, (f2 b hb).2.2.2.2.2⟩))
        (I3.fpOk (Nat.le_refl _) fC) ⟨m, hn⟩ qn
    · refine thn (T.item (cxComp X (nmsL xs ts) scope cl s3.heap.objs.size s3 H3 fp) rfl rfl rfl hc i [] s5 (σ0 ++ taken σ (sltOf ts)) H5 _ I5 (okX fr5) st5 go) fun r s6 ⟨u, hr, h6⟩ => ?_
      subst hr
      refine thn h6 fun _ s7 ⟨z, H7, I7, rz, yz, st7, fr7⟩ => ?_
      have I7' := I7.pinned (okX fr7) (T.obj _ _ st7)
      refine thn (hg s3.heap.objs.size s3 H3 fp _ s7 _ H7 z u _ I7' rz (step z H7 σ0 yz l0)) fun _ s8 ⟨σ8, H8, I8, ⟨σ1, l1, e8⟩, q8⟩ => ?_
      subst e8
      refine thn (ht s3.heap.objs.size s3 H3 fp _ s8 _ H8 _ I8 q8) fun b s9 ⟨H9, I9, q9⟩ => ?_
      cases b with
      | true =>
        rw [if_pos rfl] at q9 ⊢
        refine thn (he s3.heap.objs.size s3 H3 fp _ s9 _ H9 _ I9 q9) fun y s10 ⟨vy, H10, I10, ry, hD9, hl9, m', hm', w9⟩ => ?_
        refine thn (mt_append (X := cxComp X (nmsL xs ts) scope cl s3.heap.objs.size s3 H3 fp) _ s10 _ H10 (.ref s2.heap.objs.size) [vy] (.ref s2.heap.objs.size) [y] (fun _ H11 => H11 = upd H10 s2.heap.objs.size (.lst (ys ++ [vy]))) I10 rfl (.cons ry .nil) ⟨_, ys, vy, rfl, rfl, hD9, hl9, rfl⟩) fun _ s11 ⟨_, H11, I11, _, e11⟩ => ?_
        subst e11
        refine ⟨m', hm', i + 1, ys ++ [vy], σ1, _, l1, I11.unpinned, T.keep _ _ _ st7 fun b hb o e => (I11.pin (b, o) (List.mem_append_right _ (List.mem_append_right _ (mem_pinsAt hb e)))).1, fun b hb => ?_, w9⟩
        obtain ⟨o, e, d⟩ := T.obj _ _ st7 b hb
        exact (I11.pin (b, o) (List.mem_append_right _ (List.mem_append_right _ (mem_pinsAt hb e)))).2.1
      | false =>
        rw [if_neg Bool.false_ne_true] at q9 ⊢
        obtain ⟨m', hm', w9⟩ := q9
        refine ⟨m', hm', i + 1, ys, σ1, _, l1, I9.unpinned, T.keep _ _ _ st7 fun b hb o e => (I9.pin (b, o) (List.mem_append_right _ (List.mem_append_right _ (mem_pinsAt hb e)))).1, fun b hb => ?_, w9⟩
        obtain ⟨o, e, d⟩ := T.obj _ _ st7 b hb
        exact (I9.pin (b, o) (List.mem_append_right _ (List.mem_append_right _ (mem_pinsAt hb e)))).2.1
  have hst := codeAny_compStart_list (loop _ rfl) (T.self X.A 0 _ _ _ st4 (loop _ rfl))
  exact hst
theorem pe_compG (hc : X.calm = true) (O : CompOkL X xs ts scope cl) (hi : PI X tg iter wi) (hg : ∀ C s3 H3 fp, PG (cxComp X (nmsL xs ts) scope cl C s3 H3 fp) tg g)
    (ht : ∀ C s3 H3 fp, PIf (cxComp X (nmsL xs ts) scope cl C s3 H3 fp) ifs tt) (he : ∀ C s3 H3 fp, PE (cxComp X (nmsL xs ts) scope cl C s3 H3 fp) elt te)
    (hs : ∀ x, foldedSetIterable iter X.env x = pure x := by intro _; rfl) : PE X (.ListComp elt [⟨tg, iter, ifs, 0⟩] scope pos) (tCompG wi g tt xs.length (sltOf ts) te) := by
  intro pins s σ H Q I h
  rw [eval_ListComp]
  refine compG_run (use := none) hc O hi hg ht he hs I h fun D C s6 H5 I6 fC ⟨m, hn⟩ q => ?_
  refine ⟨m, hn, fun h' sb => ⟨.ref D, H5, ?_, rfl, q⟩⟩
  exact I6.turned (it := C) (t' := s6.toks) (fun b o hb e => (sb.2 b hb).trans e) fC.1 fC.2.1 fC.2.2.2.1 fC.2.2.2.2.1 fC.2.2.2.2.2
theorem ps_setC {i : Nat} {x : Str} {pos' sp : Pos} (hN : X.N.Nodup) (hix : X.N[i]? = some x) (hx : Loc X.env.scope x) (hc : X.calm = true) (O : CompOkL X xs ts scope cl) (hi : PI X tg iter wi) (hg : ∀ C s3 H3 fp, PG (cxComp X (nmsL xs ts) scope cl C s3 H3 fp) tg g)
    (ht : ∀ C s3 H3 fp, PIf (cxComp X (nmsL xs ts) scope cl C s3 H3 fp) ifs tt) (he : ∀ C s3 H3 fp, PE (cxComp X (nmsL xs ts) scope cl C s3 H3 fp) elt te)
    (hs : ∀ x, foldedSetIterable iter X.env x = pure x := by intro _; rfl) (hw : swapsWith (.ListComp elt [⟨tg, iter, ifs, 0⟩] scope pos) (some (.Name x pos')) sp.line X.env = pure true := by rfl)
    (hf : X.fn x = true ∨ X.env.scope.names.lookup x = some .local := by first | exact .inl rfl | exact .inr rfl | assumption) :
    PS X (.Assign [.Name x pos'] (.ListComp elt [⟨tg, iter, ifs, 0⟩] scope pos) sp) (tAsg (tCompG wi g tt xs.length (sltOf ts) te) (gName i)) := by
  intro pins s σ H D I h
  rw [exec_Assign_Name_used x pos' _ sp hw]
  refine wpAny_bind (wpAny_standAt (wpAny_bind ?_))
  show wpAny _ _ ((comprehension _ scope X.env _ (newList []) _ _ (some _)) >>= fun _ => pure ()) _ _ s
  refine wpAny_bind (compG_run (use := some (assign (.Name x pos') X.env)) hc O hi hg ht he hs I h fun A C s6 H5 I6 fC ⟨m, hn⟩ q => ?_)
  obtain ⟨o, es, ep, ho, r⟩ := id hn
  have onlyC : ∀ b : Addr, b ∈ [C] → b = C := fun b hb => by simpa using hb
  have I6' := I6.pinned (fp := [C]) (fun b hb => onlyC b hb ▸ fC) (fun b hb => by
    rw [onlyC b hb]
    exact ⟨o, ho, fun v z => by rw [r.1] at z; cases z⟩)
  refine wpAny_assign_Name (store_ok I6' hN hix hx (v := .ref A) rfl (fun s7 I7 => ?_) hf)
  have e7 : s7.heap.get? C = some o := (I7.pin (C, o) (List.mem_append_right _ (List.mem_append_right _ (mem_pinsAt (by simp) ho)))).1
  refine ⟨m, ⟨o, es, ep, e7, r⟩, fun h' sb => wpAny_pure (wpAny_pure ⟨_, H5, ?_, q⟩)⟩
  exact I7.unpinned.turned (it := C) (t' := s7.toks) (fun b o hb e => (sb.2 b hb).trans e) fC.1 fC.2.1 fC.2.2.2.1 fC.2.2.2.2.1 fC.2.2.2.2.2
end
theorem pg_tupC {X : Cx} {N' : List Str} {scope : Scope} {cl : List (Str × Addr)} {C : Addr} {s3 : Shared} {H3 : Hp} {fp : List Addr} {pos : Pos} {es : List Expr} {k : Nat} {t : TGs} {n : Nat} (hc : X.calm = true) (h : PGs (cxComp X N' scope cl C s3 H3 fp) es t)
    (hn : (assignEach es (cxComp X N' scope cl C s3 H3 fp).env).length = n := by rfl) (hst : (assignEach es (cxComp X N' scope cl C s3 H3 fp).env).findIdx? (·.1) = none := by rfl) : PG (cxComp X N' scope cl C s3 H3 fp) (.Tuple es k pos) (gTup X.K n t) := pg_tup hc h hn hst
theorem sub0 {cs : List (Str × Addr)} : ∀ (y : Str) (c : Addr), List.lookup y ([] : List (Str × Addr)) = some c → cs.lookup y = some c := fun _ _ h => by cases h
end L2
set_option maxHeartbeats 4000000
namespace L2
open PySem PySem.Spec PyProof.Rows
section
variable {X : Cx}
end
end L2
set_option maxHeartbeats 4000000
namespace L2
open PySem PySem.Spec PyProof.Rows
section
variable {X : Cx}
noncomputable def Smk (i : Int) : Prop := i.natAbs < 2 ^ 8900
theorem Smk.bits {i : Int} (h : Smk i) : Builtin.Int.intBits i ≤ 8900 := intBits_le_iff.mpr h
theorem mulOk_smk {i j : Int} (hi : Smk i) (hj : Smk j) : IntMulOk i j := by
  have h1 := hi.bits
  have h2 := hj.bits
  unfold IntMulOk Builtin.Int.intTooBig
  intro h
  have h4 := of_decide_eq_true (Bool.and_eq_true_iff.mp h).2
  rw [bitsLine_eq] at h4
  omega
theorem noPy_smk {i j : Int} (hj : Smk j) : Builtin.divisionGoesByPylong i j = false := by
  refine PyProof.noPylong_of_log2 ?_
  by_cases h0 : j.natAbs = 0
  · rw [h0]; decide +kernel
  · have h : j.natAbs.log2 < 8900 := (Nat.log2_lt h0).mpr hj
    omega
theorem op_mulK : OpR X (binaryOp .Mult) (rI (fun i j => Smk i ∧ Smk j) fun i j => .int (i * j)) := opI fun _ _ _ _ _ _ _ hc q => mul_int q (mulOk_smk hc.1 hc.2)
theorem op_fdivK : OpR X (binaryOp .FloorDiv) (rI (fun _ j => j ≠ 0 ∧ Smk j) fun i j => .int (i.fdiv j)) := opI fun _ _ _ _ _ _ _ hc q => floordiv_int hc.1 q (.inl (noPy_smk hc.2))
end
section
variable {X : Cx} {N' : List Str} {scope : Scope} {cl : List (Str × Addr)} {C : Addr} {s3 : Shared} {H3 : Hp} {fp : List Addr}
theorem ix_listC : IxR (cxComp X N' scope cl C s3 H3 fp) (rIxL X.K) := ix_list
theorem ix_tupC : IxR (cxComp X N' scope cl C s3 H3 fp) (rIxT X.K) := ix_tup
end
theorem Rd.same {H H' : Hp} {a : Addr} {u : HO} (e : Same H H') (h : Rd H a u) : Rd H' a u := by
  rcases h with h | ⟨o, h⟩
  · exact .inl (e a _ h)
  · exact .inr ⟨o, e a _ h⟩
theorem Same.tup {K : PySem.W.Frag} {H H' : Hp} {a : Addr} {xs : List V} (e : Same H H') (h : SqT K H a xs) : SqT K H' a xs := by
  rcases h with h | h
  · exact .inl (h.same e)
  · exact .inr h
theorem same_upd {H1 H2 : Hp} {D : Addr} {o : HO} (h : Same H1 H2) (hD : H1 D = none) : Same H1 (upd H2 D o) := fun b u e => by
  rw [upd_ne (ne_of_none e hD)]; exact h b u e
end L2
set_option maxHeartbeats 4000000
namespace L2
open PySem PySem.Spec PyProof.Rows
mutual
noncomputable def cmpTh : Th → Th → Bool
  | .int _, .int _ => true
  | .str _, .str _ => true
  | .non, .non => true
  | .tup ts, .tup us => cmpThs ts us
  | .lst ts, .lst us => cmpThs ts us && ts.length == us.length
  | _, _ => false
noncomputable def cmpThs : List Th → List Th → Bool
  | t :: ts, u :: us => cmpTh t u && cmpThs ts us
  | _, _ => true
end
theorem cmp_int {i : Int} {u : Th} (c : cmpTh (.int i) u = true) : ∃ j, u = .int j := by cases u <;> first | exact ⟨_, rfl⟩ | cases c
theorem cmp_str {i : Str} {u : Th} (c : cmpTh (.str i) u = true) : ∃ j, u = .str j := by cases u <;> first | exact ⟨_, rfl⟩ | cases c
theorem cmp_non {u : Th} (c : cmpTh .non u = true) : u = .non := by cases u <;> first | rfl | cases c
theorem cmp_tup {i : List Th} {u : Th} (c : cmpTh (.tup i) u = true) : ∃ j, u = .tup j := by cases u <;> first | exact ⟨_, rfl⟩ | cases c
theorem cmp_lst {i : List Th} {u : Th} (c : cmpTh (.lst i) u = true) : ∃ j, u = .lst j := by cases u <;> first | exact ⟨_, rfl⟩ | cases c
theorem cmp_bl {b : Bool} {u : Th} (c : cmpTh (.bl b) u = true) : False := by cases u <;> cases c
theorem cmp_emp {u : Th} (c : cmpTh .emp u = true) : False := by cases u <;> cases c
theorem cmp_dic {u : Th} (c : cmpTh .dic u = true) : False := by cases u <;> cases c
mutual
theorem Den.inj {H : Hp} : ∀ {t u : Th} {v : V}, cmpTh t u = true → Den H t v → Den H u v → t = u
  | .bl _, u, v, c, d1, d2 => (cmp_bl c).elim
  | .emp, u, v, c, d1, d2 => (cmp_emp c).elim
  | .dic, u, v, c, d1, d2 => (cmp_dic c).elim
  | .int i, u, v, c, d1, d2 => by
    obtain ⟨j, rfl⟩ := cmp_int c
    cases (show v = V.int i from d1); cases (show V.int i = V.int j from d2); rfl
  | .str i, u, v, c, d1, d2 => by
    obtain ⟨j, rfl⟩ := cmp_str c
    cases (show v = V.str i from d1); cases (show V.str i = V.str j from d2); rfl
  | .non, u, v, c, d1, d2 => (cmp_non c).symm
  | .tup ts, u, v, c, d1, d2 => by
    obtain ⟨us, rfl⟩ := cmp_tup c
    obtain ⟨a1, xs, rfl, h1, e1⟩ := d1
    obtain ⟨a2, ys, e0, h2, e2⟩ := d2
    cases e0
    rw [h1] at h2
    cases h2
    rw [cmpTh] at c
    rw [Dens.inj c e1 e2]
  | .lst ts, u, v, c, d1, d2 => by
    obtain ⟨us, rfl⟩ := cmp_lst c
    obtain ⟨a1, xs, rfl, h1, e1⟩ := d1
    obtain ⟨a2, ys, e0, h2, e2⟩ := d2
    cases e0
    rw [h1] at h2
    cases h2
    rw [cmpTh, Bool.and_eq_true] at c
    rw [Dens.inj c.1 e1 e2]
theorem Dens.inj {H : Hp} : ∀ {ts us : List Th} {xs : List V}, cmpThs ts us = true → Dens H ts xs → Dens H us xs → ts = us
  | [], [], _, _, _, _ => rfl
  | [], u :: us, xs, _, d1, d2 => by
    have e1 := d1.len
    have e2 := d2.len
    simp at e1 e2
    rw [e1] at e2
    simp at e2
  | t :: ts, [], xs, _, d1, d2 => by
    have e1 := d1.len
    have e2 := d2.len
    simp at e1 e2
    rw [e2] at e1
    simp at e1
  | t :: ts, u :: us, xs, c, d1, d2 => by
    obtain ⟨x, r, rfl, p1, q1⟩ := d1
    obtain ⟨x', r', e, p2, q2⟩ := d2
    cases e
    rw [cmpThs, Bool.and_eq_true] at c
    rw [Den.inj c.1 p1 p2, Dens.inj c.2 q1 q2]
end
section
variable {X : Cx}
end
theorem subL {cs : List (Str × Addr)} : ∀ {l : List (Str × Addr)}, (∀ p ∈ l, cs.lookup p.1 = some p.2) → ∀ (y : Str) (c : Addr), l.lookup y = some c → cs.lookup y = some c
  | [], _, y, c, h => by cases h
  | p :: l, k, y, c, h => by
    rw [List.lookup_cons] at h
    by_cases e : (y == p.1) = true
    · rw [e] at h
      have h' : p.2 = c := Option.some.inj h
      have ey : y = p.1 := beq_iff_eq.mp e
      rw [ey, ← h']
      exact k p (List.mem_cons_self ..)
    · have e' : (y == p.1) = false := Bool.eq_false_iff.mpr e
      rw [e'] at h
      exact subL (fun q hq => k q (List.mem_cons_of_mem _ hq)) y c h
theorem sub2 {cs : List (Str × Addr)} {x1 x2 : Str} {c1 c2 : Addr} (h1 : cs.lookup x1 = some c1) (h2 : cs.lookup x2 = some c2) : ∀ (y : Str) (c : Addr), List.lookup y [(x1, c1), (x2, c2)] = some c → cs.lookup y = some c :=
  subL fun p hp => by
    simp only [List.mem_cons, List.not_mem_nil, or_false] at hp
    rcases hp with rfl | rfl <;> assumption
theorem sub3 {cs : List (Str × Addr)} {x1 x2 x3 : Str} {c1 c2 c3 : Addr} (h1 : cs.lookup x1 = some c1) (h2 : cs.lookup x2 = some c2) (h3 : cs.lookup x3 = some c3) : ∀ (y : Str) (c : Addr), List.lookup y [(x1, c1), (x2, c2), (x3, c3)] = some c → cs.lookup y = some c :=
  subL fun p hp => by
    simp only [List.mem_cons, List.not_mem_nil, or_false] at hp
    rcases hp with rfl | rfl | rfl <;> assumption
theorem comp_rangeR {lo : Int} {n : Nat} {te : TE} {st : St} {H1 : Hp} {Q : VK} {D : Addr} (R : Nat → List V → Hp → Prop) (hD : H1 D = none) (hn : n ≤ sizeLine) (h0 : R 0 [] (upd H1 D (.lst [])))
    (hs : ∀ (i : Nat) (ys : List V) (H2 : Hp) (k : VK), i < n → Same H1 H2 → H2 D = some (.lst ys) → R i ys H2 → (∀ y H4, Same H2 H4 → R (i + 1) (ys ++ [y]) (upd H4 D (.lst (ys ++ [y]))) → k y H4) → te (some (.int (lo + i)) :: st) H2 k)
    (hd : ∀ ys H2, Same H1 H2 → H2 D = some (.lst ys) → ys.length = n → R n ys H2 → Q (.ref D) H2) : CompGo (Itr lo n) te st D H1 Q := by
  refine ⟨fun i m ys H2 => m = n - i ∧ i ≤ n ∧ ys.length = i ∧ Same H1 H2 ∧ H2 D = some (.lst ys) ∧ R i ys H2, ⟨n, by simp, Nat.zero_le _, rfl, same_upd (Same.refl H1) hD, upd_same, h0⟩, ?_⟩
  rintro i m ys H2 ⟨rfl, hi, hl, sm, e, r⟩
  by_cases hlt : i < n
  · refine .inr ⟨hlt, ?_⟩
    rintro x H3 ⟨rfl, rfl⟩
    refine hs i ys _ _ hlt sm e r fun y H4 s4 r4 => ⟨s4 _ _ e, by omega, n - (i + 1), by omega, rfl, hlt, by simp [hl], same_upd (sm.trans s4) hD, upd_same, r4⟩
  · have ei : i = n := by omega
    subst ei
    exact .inl ⟨Nat.le_refl _, hd ys H2 sm e hl r⟩
end L2
set_option maxHeartbeats 4000000
namespace L2
open PySem PySem.Spec PyProof.Rows
theorem comp_rangeF {lo : Int} {n : Nat} {te : TE} {tt : TT} {st : St} {H1 : Hp} {Q : VK} {D : Addr} (p : Nat → Bool) (f : Nat → V) (hD : H1 D = none) (hn : n ≤ sizeLine)
    (ht : ∀ (i : Nat) (H2 : Hp) (k : Bool → Hp → Prop), i < n → Same H1 H2 → (∀ H4, Same H2 H4 → k (p i) H4) → tt (some (.int (lo + i)) :: st) H2 k)
    (hs : ∀ (i : Nat) (H2 : Hp) (k : VK), i < n → p i = true → Same H1 H2 → (∀ H4, Same H2 H4 → k (f i) H4) → te (some (.int (lo + i)) :: st) H2 k)
    (hd : ∀ H2, Same H1 H2 → H2 D = some (.lst (((List.range n).filter p).map f)) → Q (.ref D) H2) : CompG (Itr lo n) (gName 0) tt te 1 st D H1 Q := by
  refine ⟨fun i m zs H2 => m = n - i ∧ i ≤ n ∧ zs = ((List.range i).filter p).map f ∧ Same H1 H2 ∧ H2 D = some (.lst zs), ⟨n, by simp, Nat.zero_le _, rfl, same_upd (Same.refl H1) hD, upd_same⟩, ?_⟩
  rintro i m zs H2 ⟨rfl, hi, rfl, sm, e⟩
  by_cases hlt : i < n
  · refine .inr ⟨hlt, ?_⟩
    rintro x H3 σ0 ⟨rfl, rfl⟩ l0
    obtain ⟨a, rfl⟩ : ∃ a, σ0 = [a] := by
      match σ0, l0 with
      | [a], _ => exact ⟨a, rfl⟩
    refine ⟨⟨[some (.int (lo + i))], rfl, rfl⟩, ?_⟩
    refine ht i _ _ hlt sm fun H4 s4 => ?_
    have ln : (((List.range i).filter p).map f).length ≤ i := by
      rw [List.length_map]; exact Nat.le_trans (List.length_filter_le _ _) (by simp)
    cases hp : p i with
    | true =>
      rw [if_pos rfl]
      refine hs i _ _ hlt hp (sm.trans s4) fun H5 s5 => ⟨s5 _ _ (s4 _ _ e), by omega, n - (i + 1), by omega, rfl, hlt, ?_, same_upd (sm.trans (s4.trans s5)) hD, upd_same⟩
      rw [List.range_succ, List.filter_append, List.map_append]
      simp [hp]
    | false =>
      rw [if_neg Bool.false_ne_true]
      refine ⟨n - (i + 1), by omega, rfl, hlt, ?_, sm.trans s4, s4 _ _ e⟩
      rw [List.range_succ, List.filter_append, List.map_append]
      simp [hp]
  · have ei : i = n := by omega
    subst ei
    exact .inl ⟨Nat.le_refl _, hd _ sm e⟩
theorem comp_pairR {K : PySem.W.Frag} {a : Addr} {xs : List V} {te : TE} {st : St} {H1 : Hp} {Q : VK} {D : Addr} (R : Nat → List V → Hp → Prop) (hD : H1 D = none) (q1 : SqT K H1 a xs) (hn : xs.length ≤ sizeLine) (h0 : R 0 [] (upd H1 D (.lst [])))
    (hx : ∀ (i : Nat), i < xs.length → ∃ b u v, xs[i]? = some (.ref b) ∧ H1 b = some (.tup [u, v]))
    (hs : ∀ (i : Nat) (b : Addr) (u v : V) (ys : List V) (H2 : Hp) (k : VK), xs[i]? = some (.ref b) → H1 b = some (.tup [u, v]) → Same H1 H2 → H2 D = some (.lst ys) → R i ys H2 → (∀ y H4, Same H2 H4 → R (i + 1) (ys ++ [y]) (upd H4 D (.lst (ys ++ [y]))) → k y H4) → te (some u :: some v :: st) H2 k)
    (hd : ∀ ys H2, Same H1 H2 → H2 D = some (.lst ys) → ys.length = xs.length → R xs.length ys H2 → Q (.ref D) H2) : CompG (Itt K a) (gTup K 2 (gCons (gName 0) (gCons (gName 1) gNil))) tYes te 2 st D H1 Q := by
  refine ⟨fun i m ys H2 => m = xs.length - i ∧ i ≤ xs.length ∧ ys.length = i ∧ Same H1 H2 ∧ H2 D = some (.lst ys) ∧ R i ys H2, ⟨xs.length, by simp, Nat.zero_le _, rfl, same_upd (Same.refl H1) hD, upd_same, h0⟩, ?_⟩
  rintro i m ys H2 ⟨rfl, hi, hl, sm, e, r⟩
  by_cases hlt : i < xs.length
  · have ex : xs[i]? = some xs[i] := List.getElem?_eq_getElem hlt
    obtain ⟨b, u, v, e1, e2⟩ := hx i hlt
    refine .inr ⟨⟨xs, _, sm.tup q1, ex⟩, ?_⟩
    rintro x H3 σ0 ⟨rfl, hx'⟩ l0
    have hx2 := hx' xs (sm.tup q1)
    rw [e1] at hx2
    cases hx2
    obtain ⟨a', b', rfl⟩ : ∃ a b, σ0 = [a, b] := by
      match σ0, l0 with
      | [a, b], _ => exact ⟨a, b, rfl⟩
    refine ⟨b, [u, v], rfl, SqT.of (sm _ _ e2), rfl, u, [v], rfl, v, [], rfl, rfl, ⟨[some u, some v], rfl, rfl⟩, ?_⟩
    exact hs i b u v ys _ _ e1 e2 sm e r fun y H4 s4 r4 => ⟨s4 _ _ e, by omega, xs.length - (i + 1), by omega, rfl, hlt, by simp [hl], same_upd (sm.trans s4) hD, upd_same, r4⟩
  · have ei : i = xs.length := by omega
    subst ei
    exact .inl ⟨⟨xs, sm.tup q1, Nat.le_refl _⟩, hd ys H2 sm e hl r⟩
end L2
set_option maxHeartbeats 4000000
namespace L2
open PySem PySem.Spec PyProof.Rows
section
variable {prog : Program} {w : World} {A : Around} {E : Value → Shared → Prop} {s : Shared}
theorem tnext_item {j tu : Addr} {i : Nat} {its : Array Value} {v : Value} {Q : Value → Shared → Prop} (hj : s.heap.IsTupleIter j tu i) (ht : s.heap.IsTuple tu its) (hv : its[i]? = some v)
    (k : ∀ g, g.IsTupleIter j tu (i + 1) → Heap.SameBut j s.heap g → Q v { s with heap := g }) : wpAny (model prog w) A (Builtin.SmallTypes.nextOf (.ref j)) Q E s := by
  obtain ⟨oj, ej, cj, dj⟩ := id hj
  obtain ⟨ot, et, _, nt, dt⟩ := ht
  unfold Builtin.SmallTypes.nextOf
  refine (wpAny_bind (wpAny_callSpecial?_slot (name := Str.ofString "__next__") hj.typeIs F.slot_tuple_iterator_next (wpAny_call_entry F.slot_tuple_iterator_next hj.typeIs F.entry_tuple_iterator_next ?_ (F.args_tuple_iterator_next_1 _))))
  show wpAny _ _ (field (.ref j) 0 >>= _) _ _ s
  refine (wpAny_bind (wpAny_field ej dj (x := .ref tu) rfl ?_))
  show wpAny _ _ (if (Value.ref tu == Value.none) = true then _ else _) _ _ s
  rw [if_neg (show ¬ ((Value.ref tu == Value.none) = true) from Bool.false_ne_true)]
  show wpAny _ _ (field (.ref j) 1 >>= _) _ _ s
  refine (wpAny_bind (wpAny_field ej dj (x := .int i 0) rfl ?_))
  show wpAny _ _ (seqItems? (.ref tu) >>= _) _ _ s
  refine (wpAny_bind (wpAny_seqItems et dt ?_))
  simp only [Int.toNat_natCast, hv]
  refine (wpAny_bind (wpAny_setField ej dj (by simp) (wpAny_pure ⟨v, rfl, wpAny_pure (k _ ?_ (Heap.SameBut.update ..))⟩)))
  refine ⟨_, Heap.get?_update_self _ ej (Obj.isFreed_of_fields (Obj.data_mapFields dj _)), (Obj.cls_mapFields ..).trans cj, ?_⟩
  rw [Obj.data_mapFields dj]
  simp [rawInt]
theorem tnext_end {j tu : Addr} {i : Nat} {its : Array Value} {Q : Value → Shared → Prop} (hh : A.handled = none) (hj : s.heap.IsTupleIter j tu i) (ht : s.heap.IsTuple tu its) (hv : its[i]? = none)
    (k : ∀ g e, Heap.ExtBut j s.heap g → (∃ o, g.get? e = some o ∧ o.cls = .type "StopIteration") → E (.ref e) { s with heap := g }) : wpAny (model prog w) A (Builtin.SmallTypes.nextOf (.ref j)) Q E s := by
  obtain ⟨oj, ej, cj, dj⟩ := id hj
  obtain ⟨ot, et, _, nt, dt⟩ := ht
  unfold Builtin.SmallTypes.nextOf
  refine (wpAny_bind (wpAny_callSpecial?_slot (name := Str.ofString "__next__") hj.typeIs F.slot_tuple_iterator_next (wpAny_call_entry F.slot_tuple_iterator_next hj.typeIs F.entry_tuple_iterator_next ?_ (F.args_tuple_iterator_next_1 _))))
  show wpAny _ _ (field (.ref j) 0 >>= _) _ _ s
  refine (wpAny_bind (wpAny_field ej dj (x := .ref tu) rfl ?_))
  show wpAny _ _ (if (Value.ref tu == Value.none) = true then _ else _) _ _ s
  rw [if_neg (show ¬ ((Value.ref tu == Value.none) = true) from Bool.false_ne_true)]
  show wpAny _ _ (field (.ref j) 1 >>= _) _ _ s
  refine (wpAny_bind (wpAny_field ej dj (x := .int i 0) rfl ?_))
  show wpAny _ _ (seqItems? (.ref tu) >>= _) _ _ s
  refine (wpAny_bind (wpAny_seqItems et dt ?_))
  simp only [Int.toNat_natCast, hv]
  refine (wpAny_bind (wpAny_rule (wpAny_bind (wpAny_setField ej dj (by simp) ?_))))
  show wpAny _ _ (newExc (.type "StopIteration") [] >>= _) (_) _ _
  refine (wpAny_bind ?_)
  simp only [newExc, newTuple]
  refine (wpAny_bind (wpAny_newObj_type ?_ (by size_fits)))
  refine (wpAny_bind (m := firstArgMember _ _) (wpAny_of_eq (a := Value.none) (by first | rfl | (simp only [firstArgMember]; rfl)) ?_))
  refine (wpAny_newObj_type ?_ (by size_fits))
  simp only [raiseNew]
  refine (wpAny_bind (wpAny_handled ?_))
  rw [show A.in1.handled = none from hh]
  refine (wpAny_bind (wpAny_pure (wpAny_throw ?_)))
  exact k _ _ (((Heap.SameBut.update ..).extBut.push _).push _) ⟨_, Heap.get?_push_size _ rfl, rfl⟩
theorem zt_next {z TI TO j1 j2 t1 t2 : Addr} {k1 k2 : Nat} {xs ys : Array Value} {u v c d : Value} {Q : Value → Shared → Prop} (ap : ZipApart z TI TO j1 j2 t1 t2) (hz : IsZip s.heap z TI TO .none) (hI : IsPair s.heap TI (.ref j1) (.ref j2)) (hO : IsPair s.heap TO c d)
    (i1 : s.heap.IsTupleIter j1 t1 k1) (i2 : s.heap.IsTupleIter j2 t2 k2) (q1 : s.heap.IsTuple t1 xs) (q2 : s.heap.IsTuple t2 ys) (hu : xs[k1]? = some u) (hv : ys[k2]? = some v)
    (k : ∀ g, IsZip g z TI TO (rawInt s.heap.objs.size) → IsPair g TO u v → g.IsTupleIter j1 t1 (k1 + 1) → g.IsTupleIter j2 t2 (k2 + 1) → IsPair g s.heap.objs.size u v → g.objs.size = s.heap.objs.size + 1 →
      (∀ b o, b ≠ z → b ≠ TO → b ≠ j1 → b ≠ j2 → s.heap.get? b = some o → g.get? b = some o) → Q (.ref s.heap.objs.size) { s with heap := g }) :
    wpAny (model prog w) A (Builtin.«zip.__next__» ⟨[.ref z], []⟩) (fun f s' => ∃ r, f = .done (.ret r) ∧ Q r s') E s := by
  show wpAny _ _ (field (.ref z) 2 >>= _) (_) _ _
  refine (wpAny_bind (wpAny_field hz rfl (x := .bool false) rfl ?_))
  show wpAny _ _ (field (.ref z) 3 >>= _) (_) _ _
  refine (wpAny_bind (wpAny_field hz rfl (x := .ref TI) rfl ?_))
  refine (wpAny_bind (wpAny_seqItems hI rfl ?_))
  show wpAny _ _ (Builtin.SmallTypes.ownedTupleIsFree (.ref z) >>= _) (_) _ _
  refine (wpAny_bind ?_)
  unfold Builtin.SmallTypes.ownedTupleIsFree
  refine (wpAny_bind (wpAny_field hz rfl (x := .none) rfl (wpAny_pure ?_)))
  simp only [if_true]
  refine (wpAny_bind (wpAny_rule ?_))
  refine (wpAny_bind (wpAny_field hz rfl (x := .ref TO) rfl ?_))
  refine (wpAny_bind (wpAny_setField_rec hz (by simp) fun g1 z1 s1 => ?_))
  replace z1 : IsZip g1 z TI TO .ellipsis := z1
  refine (wpAny_bind ?_)
  simp only [List.zipIdx_cons, List.zipIdx_nil, List.forIn_cons, List.forIn_nil, id]
  refine (wpAny_bind (wpAny_bind (wpAny_onRaise ?_)))
  show wpAny _ _ (Builtin.SmallTypes.nextOf (.ref j1) >>= _) (_) _ _
  refine (wpAny_bind (tnext_item (i1.extBut s1.extBut ap.i1z) (q1.extBut s1.extBut ap.l1z) hu fun g2 n1 s2 => wpAny_pure ?_))
  have O2 : IsPair g2 TO c d := s2.extBut _ _ ap.TOi1 (s1.extBut _ _ ap.TOz hO)
  refine (wpAny_bind (wpAny_seqItems O2 rfl ?_))
  refine (wpAny_bind (wpAny_updateSeq_pair O2 fun g3 O3 s3 => ?_))
  replace O3 : IsPair g3 TO u d := O3
  refine (wpAny_bind (wpAny_letGo (wpAny_pure ?_)))
  refine (wpAny_bind (wpAny_bind (wpAny_onRaise ?_)))
  show wpAny _ _ (Builtin.SmallTypes.nextOf (.ref j2) >>= _) (_) _ _
  refine (wpAny_bind (tnext_item (((i2.extBut s1.extBut ap.i2z).extBut s2.extBut ap.i12.symm).extBut s3.extBut ap.TOi2.symm) (((q2.extBut s1.extBut ap.l2z).extBut s2.extBut ap.l2i1).extBut s3.extBut ap.l2TO) hv fun g4 n2 s4 => wpAny_pure ?_))
  have O4 : IsPair g4 TO u d := s4.extBut _ _ ap.TOi2 O3
  refine (wpAny_bind (wpAny_seqItems O4 rfl ?_))
  refine (wpAny_bind (wpAny_updateSeq_pair O4 fun g5 O5 s5 => ?_))
  replace O5 : IsPair g5 TO u v := O5
  refine (wpAny_bind (wpAny_letGo (wpAny_pure (wpAny_pure ?_))))
  refine (wpAny_bind (wpAny_seqItems O5 rfl ?_))
  refine (wpAny_bind (wpAny_newTuple ?_))
  have sz : g5.objs.size = s.heap.objs.size := by rw [s5.1, s4.1, s3.1, s2.1, s1.1]
  have Z5 : IsZip g5 z TI TO .ellipsis := s5.extBut _ _ ap.TOz.symm (s4.extBut _ _ ap.i2z.symm (s3.extBut _ _ ap.TOz.symm (s2.extBut _ _ ap.i1z.symm z1)))
  have K5 : ∀ b o, b ≠ z → b ≠ TO → b ≠ j1 → b ≠ j2 → s.heap.get? b = some o → g5.get? b = some o := fun b o b1 b2 b3 b4 e => s5.extBut _ _ b2 (s4.extBut _ _ b4 (s3.extBut _ _ b2 (s2.extBut _ _ b3 (s1.extBut _ _ b1 e))))
  have I1 : g5.IsTupleIter j1 t1 (k1 + 1) := ((n1.extBut s3.extBut ap.TOi1.symm).extBut s4.extBut ap.i12).extBut s5.extBut ap.TOi1.symm
  have I2 : g5.IsTupleIter j2 t2 (k2 + 1) := n2.extBut s5.extBut ap.TOi2.symm
  have zlt : z < g5.objs.size := Heap.lt_size Z5
  show wpAny _ _ (Builtin.SmallTypes.ownedTupleHandOut (.ref z) (.ref g5.objs.size) >>= _) (_) _ _
  refine (wpAny_bind ?_)
  unfold Builtin.SmallTypes.ownedTupleHandOut
  have Z6 : IsZip (g5.push { cls := .type "tuple", data := .seq #[u, v] }) z TI TO .ellipsis := Heap.get?_push_of_some _ Z5
  refine (wpAny_bind (wpAny_setField_rec Z6 (by simp) fun g7 Z7 s7 => ?_))
  replace Z7 : IsZip g7 z TI TO (rawInt g5.objs.size) := Z7
  refine wpAny_setField_rec Z7 (by simp) fun g8 Z8 s8 => ?_
  replace Z8 : IsZip g8 z TI TO (rawInt g5.objs.size) := Z8
  have up : ∀ b o, b ≠ z → g5.get? b = some o → g8.get? b = some o := fun b o nb e => s8.extBut _ _ nb (s7.extBut _ _ nb (Heap.get?_push_of_some _ e))
  have T8 : IsPair g8 g5.objs.size u v := s8.extBut _ _ (Nat.ne_of_gt zlt) (s7.extBut _ _ (Nat.ne_of_gt zlt) (Heap.get?_push_size _ rfl))
  have N8 : g8.objs.size = g5.objs.size + 1 := by rw [s8.1, s7.1, Heap.size_push]
  rw [sz] at Z8 T8 N8
  refine wpAny_pure ⟨_, rfl, ?_⟩
  show Q (.ref g5.objs.size) _
  rw [sz]
  exact k g8 Z8 (up _ _ ap.TOz O5) (I1.at fun o e => up _ o ap.i1z e) (I2.at fun o e => up _ o ap.i2z e) T8 N8 fun b o b1 b2 b3 b4 e => up b o b1 (K5 b o b1 b2 b3 b4 e)
theorem zt_end {z TI TO j1 j2 t1 t2 : Addr} {k1 k2 : Nat} {xs ys : Array Value} {c d : Value} {Q : Fin → Shared → Prop} (hh : A.handled = none) (ap : ZipApart z TI TO j1 j2 t1 t2) (hz : IsZip s.heap z TI TO .none) (hI : IsPair s.heap TI (.ref j1) (.ref j2)) (hO : IsPair s.heap TO c d)
    (i1 : s.heap.IsTupleIter j1 t1 k1) (i2 : s.heap.IsTupleIter j2 t2 k2) (q1 : s.heap.IsTuple t1 xs) (q2 : s.heap.IsTuple t2 ys) (he : xs[k1]? = none ∨ ys[k2]? = none)
    (k : ∀ g e, (∀ b o, b ≠ z → b ≠ TO → b ≠ j1 → b ≠ j2 → s.heap.get? b = some o → g.get? b = some o) → (∃ o, g.get? e = some o ∧ o.cls = .type "StopIteration") → E (.ref e) { s with heap := g }) :
    wpAny (model prog w) A (Builtin.«zip.__next__» ⟨[.ref z], []⟩) Q E s := by
  show wpAny _ _ (field (.ref z) 2 >>= _) (_) _ _
  refine (wpAny_bind (wpAny_field hz rfl (x := .bool false) rfl ?_))
  show wpAny _ _ (field (.ref z) 3 >>= _) (_) _ _
  refine (wpAny_bind (wpAny_field hz rfl (x := .ref TI) rfl ?_))
  refine (wpAny_bind (wpAny_seqItems hI rfl ?_))
  show wpAny _ _ (Builtin.SmallTypes.ownedTupleIsFree (.ref z) >>= _) (_) _ _
  refine (wpAny_bind ?_)
  unfold Builtin.SmallTypes.ownedTupleIsFree
  refine (wpAny_bind (wpAny_field hz rfl (x := .none) rfl (wpAny_pure ?_)))
  simp only [if_true]
  refine (wpAny_bind (wpAny_rule ?_))
  refine (wpAny_bind (wpAny_field hz rfl (x := .ref TO) rfl ?_))
  refine (wpAny_bind (wpAny_setField_rec hz (by simp) fun g1 z1 s1 => ?_))
  replace z1 : IsZip g1 z TI TO .ellipsis := z1
  refine (wpAny_bind ?_)
  simp only [List.zipIdx_cons, List.zipIdx_nil, List.forIn_cons, List.forIn_nil, id]
  refine (wpAny_bind (wpAny_bind (wpAny_onRaise ?_)))
  show wpAny _ _ (Builtin.SmallTypes.nextOf (.ref j1) >>= _) (_) _ _
  cases hu : xs[k1]? with
  | none =>
    refine (wpAny_bind (tnext_end hh (i1.extBut s1.extBut ap.i1z) (q1.extBut s1.extBut ap.l1z) hu fun g2 e s2 he => ?_))
    obtain ⟨oe, ho, hc⟩ := he
    have Z2 : IsZip g2 z TI TO .ellipsis := s2 _ _ ap.i1z.symm z1
    have nz : e ≠ z := fun x => by
      subst x
      rw [Z2] at ho
      cases ho
      simp at hc
    refine wpAny_setField_rec Z2 (by simp) fun g3 _ s3 => k g3 e (fun b o b1 _ b3 _ x => s3.extBut _ _ b1 (s2 _ _ b3 (s1.extBut _ _ b1 x))) ⟨oe, s3.extBut _ _ nz ho, hc⟩
  | some u =>
    have hv : ys[k2]? = none := by
      rcases he with q | q
      · rw [hu] at q; cases q
      · exact q
    refine (wpAny_bind (tnext_item (i1.extBut s1.extBut ap.i1z) (q1.extBut s1.extBut ap.l1z) hu fun g2 n1 s2 => wpAny_pure ?_))
    have O2 : IsPair g2 TO c d := s2.extBut _ _ ap.TOi1 (s1.extBut _ _ ap.TOz hO)
    refine (wpAny_bind (wpAny_seqItems O2 rfl ?_))
    refine (wpAny_bind (wpAny_updateSeq_pair O2 fun g3 O3 s3 => ?_))
    refine (wpAny_bind (wpAny_letGo (wpAny_pure ?_)))
    refine (wpAny_bind (wpAny_bind (wpAny_onRaise ?_)))
    show wpAny _ _ (Builtin.SmallTypes.nextOf (.ref j2) >>= _) (_) _ _
    refine (wpAny_bind (tnext_end hh (((i2.extBut s1.extBut ap.i2z).extBut s2.extBut ap.i12.symm).extBut s3.extBut ap.TOi2.symm) (((q2.extBut s1.extBut ap.l2z).extBut s2.extBut ap.l2i1).extBut s3.extBut ap.l2TO) hv fun g4 e s4 he => ?_))
    obtain ⟨oe, ho, hc⟩ := he
    have Z4 : IsZip g4 z TI TO .ellipsis := s4 _ _ ap.i2z.symm (s3.extBut _ _ ap.TOz.symm (s2.extBut _ _ ap.i1z.symm z1))
    have nz : e ≠ z := fun x => by
      subst x
      rw [Z4] at ho
      cases ho
      simp at hc
    refine wpAny_setField_rec Z4 (by simp) fun g5 _ s5 => k g5 e (fun b o b1 b2 b3 b4 x => s5.extBut _ _ b1 (s4 _ _ b4 (s3.extBut _ _ b2 (s2.extBut _ _ b3 (s1.extBut _ _ b1 x))))) ⟨oe, s5.extBut _ _ nz ho, hc⟩
theorem zt_pyNext {z TI TO j1 j2 t1 t2 : Addr} {k1 k2 : Nat} {xs ys : Array Value} {u v c d : Value} {Q : Option Value → Shared → Prop} (ap : ZipApart z TI TO j1 j2 t1 t2) (hz : IsZip s.heap z TI TO .none) (hI : IsPair s.heap TI (.ref j1) (.ref j2)) (hO : IsPair s.heap TO c d)
    (i1 : s.heap.IsTupleIter j1 t1 k1) (i2 : s.heap.IsTupleIter j2 t2 k2) (q1 : s.heap.IsTuple t1 xs) (q2 : s.heap.IsTuple t2 ys) (hu : xs[k1]? = some u) (hv : ys[k2]? = some v)
    (k : ∀ g, IsZip g z TI TO (rawInt s.heap.objs.size) → IsPair g TO u v → g.IsTupleIter j1 t1 (k1 + 1) → g.IsTupleIter j2 t2 (k2 + 1) → IsPair g s.heap.objs.size u v → g.objs.size = s.heap.objs.size + 1 →
      (∀ b o, b ≠ z → b ≠ TO → b ≠ j1 → b ≠ j2 → s.heap.get? b = some o → g.get? b = some o) → Q (some (.ref s.heap.objs.size)) { s with heap := g }) : wpAny (model prog w) A (pyNext (.ref z)) Q E s := by
  have ty : s.TypeIs (.ref z) "zip" := ⟨_, hz, rfl⟩
  unfold pyNext
  exact wpAny_bind (wpAny_attempt (wpAny_callSpecial?_slot (name := Str.ofString "__next__") ty F.slot_zip_next (wpAny_call_entry F.slot_zip_next ty F.entry_zip_next (zt_next ap hz hI hO i1 i2 q1 q2 hu hv fun g a1 a2 a3 a4 a5 a6 a7 => wpAny_pure (k g a1 a2 a3 a4 a5 a6 a7)) (F.args_zip_next_1 _))))
theorem zt_pyEnd {z TI TO j1 j2 t1 t2 : Addr} {k1 k2 : Nat} {xs ys : Array Value} {c d : Value} {Q : Option Value → Shared → Prop} (hh : A.handled = none) (ap : ZipApart z TI TO j1 j2 t1 t2) (hz : IsZip s.heap z TI TO .none) (hI : IsPair s.heap TI (.ref j1) (.ref j2)) (hO : IsPair s.heap TO c d)
    (i1 : s.heap.IsTupleIter j1 t1 k1) (i2 : s.heap.IsTupleIter j2 t2 k2) (q1 : s.heap.IsTuple t1 xs) (q2 : s.heap.IsTuple t2 ys) (he : xs[k1]? = none ∨ ys[k2]? = none)
    (k : ∀ g, (∀ b o, b ≠ z → b ≠ TO → b ≠ j1 → b ≠ j2 → s.heap.get? b = some o → g.get? b = some o) → Q none { s with heap := g }) : wpAny (model prog w) A (pyNext (.ref z)) Q E s := by
  have ty : s.TypeIs (.ref z) "zip" := ⟨_, hz, rfl⟩
  unfold pyNext
  refine (wpAny_bind (wpAny_attempt (wpAny_callSpecial?_slot (name := Str.ofString "__next__") ty F.slot_zip_next (wpAny_call_entry F.slot_zip_next ty F.entry_zip_next (zt_end hh ap hz hI hO i1 i2 q1 q2 he fun g e hk hs => ?_) (F.args_zip_next_1 _)))))
  obtain ⟨o, ho, hc⟩ := hs
  refine (wpAny_bind (wpAny_isInstance (T := "StopIteration") (b := true) ⟨o, ho, hc⟩ isSubtype_stop ?_))
  exact wpAny_pure (k _ hk)
noncomputable abbrev zt1 (h : Heap) (a : Addr) : Heap := h.push { cls := .type "tuple_iterator", data := .fields #[.ref a, .int 0 0] }
noncomputable abbrev zt2 (h : Heap) (a b : Addr) : Heap := (zt1 h a).push { cls := .type "tuple_iterator", data := .fields #[.ref b, .int 0 0] }
noncomputable abbrev zt3 (h : Heap) (a b : Addr) : Heap := (zt2 h a b).push { cls := .type "tuple", data := .seq #[.ref h.objs.size, .ref (zt1 h a).objs.size] }
noncomputable abbrev zt4 (h : Heap) (a b : Addr) : Heap := (zt3 h a b).push { cls := .type "tuple", data := .seq #[.none, .none] }
noncomputable abbrev zt5 (h : Heap) (a b : Addr) : Heap := (zt4 h a b).push { cls := .type "zip", data := .fields #[.none, .bool false, .bool false, .ref (zt2 h a b).objs.size, .ref (zt3 h a b).objs.size] }
theorem zt_new (a b : Addr) (xs ys : Array Value) :
    Meets (Builtin.«zip.__new__» ⟨[.type "zip", .ref a, .ref b], []⟩) (fun _ R s => s.heap.IsTuple a xs ∧ s.heap.IsTuple b ys ∧ R (.ok (.ret (.ref (zt4 s.heap a b).objs.size))) { s with heap := zt5 s.heap a b }) :=
  .of_wp fun prog w A R s h => by
    obtain ⟨hp, g, dr, tk, os⟩ := s
    obtain ⟨h1, h2, h⟩ := h
    have sub := sub_zip
    have L1 : Heap.IsTuple (Shared.heap ⟨hp, g, dr, tk, os⟩) a xs := h1
    have L2 : Heap.IsTuple (Shared.heap ⟨hp.push { cls := .type "tuple_iterator", data := .fields #[.ref a, .int 0 0] }, g, dr, tk, os⟩) b ys := Heap.IsTuple.push h2 _
    wp_walk using wpAny_pyIter_tuple L1, wpAny_pyIter_tuple L2
    exact ⟨_, rfl, h⟩
theorem zt_call {a b : Addr} {xs ys : Array Value} {Q : Value → Shared → Prop} (h1 : s.heap.IsTuple a xs) (h2 : s.heap.IsTuple b ys)
    (k : ∀ g, IsZip g (s.heap.objs.size + 4) (s.heap.objs.size + 2) (s.heap.objs.size + 3) .none → IsPair g (s.heap.objs.size + 2) (.ref s.heap.objs.size) (.ref (s.heap.objs.size + 1)) → IsPair g (s.heap.objs.size + 3) .none .none →
      g.IsTupleIter s.heap.objs.size a 0 → g.IsTupleIter (s.heap.objs.size + 1) b 0 → (∀ c o, s.heap.get? c = some o → g.get? c = some o) → Q (.ref (s.heap.objs.size + 4)) { s with heap := g }) :
    wpAny (model prog w) A (call (.type "zip") [.ref a, .ref b]) Q E s := by
  refine callType_new F.called_zip (by decide) (F.typeCall_zip_2 _ _) (F.newCall_zip_2 _ _) (fun o => F.args_object_init_3 o _ _) F.entry_zip_new (zt_new a b xs ys) ⟨h1, h2, ?_⟩
  have z1 : (zt1 s.heap a).objs.size = s.heap.objs.size + 1 := Heap.size_push ..
  have z2 : (zt2 s.heap a b).objs.size = s.heap.objs.size + 2 := by rw [Heap.size_push, z1]
  have z3 : (zt3 s.heap a b).objs.size = s.heap.objs.size + 3 := by rw [Heap.size_push, z2]
  have z4 : (zt4 s.heap a b).objs.size = s.heap.objs.size + 4 := by rw [Heap.size_push, z3]
  have g5 : (zt5 s.heap a b).get? (zt4 s.heap a b).objs.size = some _ := Heap.get?_push_size _ rfl
  have g4 : (zt5 s.heap a b).get? (zt3 s.heap a b).objs.size = some _ := Heap.get?_push_of_some _ (Heap.get?_push_size _ rfl)
  have g3 : (zt5 s.heap a b).get? (zt2 s.heap a b).objs.size = some _ := Heap.get?_push_of_some _ (Heap.get?_push_of_some _ (Heap.get?_push_size _ rfl))
  have g2 : (zt5 s.heap a b).get? (zt1 s.heap a).objs.size = some _ := Heap.get?_push_of_some _ (Heap.get?_push_of_some _ (Heap.get?_push_of_some _ (Heap.get?_push_size _ rfl)))
  have g1 : (zt5 s.heap a b).get? s.heap.objs.size = some _ := Heap.get?_push_of_some _ (Heap.get?_push_of_some _ (Heap.get?_push_of_some _ (Heap.get?_push_of_some _ (Heap.get?_push_size _ rfl))))
  show _ ∧ _
  rw [z2, z3, z4] at g5
  rw [z1, z2] at g3
  rw [z3] at g4
  rw [z1] at g2
  rw [z4]
  exact ⟨⟨_, g5, rfl⟩, k _ g5 g3 g4 ⟨_, g1, rfl, rfl⟩ ⟨_, g2, rfl, rfl⟩ fun c o x => Heap.get?_push_of_some _ (Heap.get?_push_of_some _ (Heap.get?_push_of_some _ (Heap.get?_push_of_some _ (Heap.get?_push_of_some _ x))))⟩
end
noncomputable def Itzt (K : PySem.W.Frag) (t1 t2 : Addr) : It :=
  ⟨fun i H => ∃ xs ys x y, SqT K H t1 xs ∧ SqT K H t2 ys ∧ xs[i]? = some x ∧ ys[i]? = some y,
   fun i H v H' => ∃ T x y, H T = none ∧ H' = upd H T (.tup [x, y]) ∧ v = .ref T ∧ (∀ xs, SqT K H t1 xs → xs[i]? = some x) ∧ ∀ ys, SqT K H t2 ys → ys[i]? = some y,
   fun i H => ∃ xs ys, SqT K H t1 xs ∧ SqT K H t2 ys ∧ (xs.length ≤ i ∨ ys.length ≤ i)⟩
noncomputable def ZStT (z TI TO j1 j2 t1 t2 : Addr) (i : Nat) (h : Heap) : Prop :=
  IsZip h z TI TO Value.none ∧ IsPair h TI (.ref j1) (.ref j2) ∧ (∃ a b, IsPair h TO a b) ∧ h.IsTupleIter j1 t1 i ∧ h.IsTupleIter j2 t2 i
theorem isTuple_at {h : Heap} {l : Addr} {items : Array Value} (x : h.IsTuple l items) : ∃ o, h.get? l = some o ∧ o.cls = .type "tuple" := by
  obtain ⟨o, e, c, _⟩ := x
  exact ⟨o, e, c⟩
theorem turn_zipT {P : Program} {w : World} {K : PySem.W.Frag} {es : List Expr} {k0 : Nat} {p0 : Pos} {z TI TO i1 i2 l1 l2 : Addr} (ap : ZipApart z TI TO i1 i2 l1 l2) :
    Turn P w K (.Tuple es k0 p0) (Itzt K l1 l2) [z, TI, TO, i1, i2] z (ZStT z TI TO i1 i2 l1 l2) where
  mem := by simp
  obj := fun i h ⟨a, b, ⟨c1, c2, c⟩, d, e⟩ x hx => by
    simp only [List.mem_cons, List.not_mem_nil, or_false] at hx
    rcases hx with rfl | rfl | rfl | rfl | rfl
    · exact ⟨_, a, fun v q => by cases q⟩
    · exact ⟨_, b, fun v q => by cases q⟩
    · exact ⟨_, c, fun v q => by cases q⟩
    · obtain ⟨o, e1, _, e2⟩ := d
      exact ⟨o, e1, fun v q => by rw [e2] at q; cases q⟩
    · obtain ⟨o, e1, _, e2⟩ := e
      exact ⟨o, e1, fun v q => by rw [e2] at q; cases q⟩
  keep := fun i h h' ⟨a, b, ⟨c1, c2, c⟩, d, e⟩ kk =>
    ⟨kk _ (by simp) _ a, kk _ (by simp) _ b, ⟨c1, c2, kk _ (by simp) _ c⟩, d.at fun o q => kk _ (by simp) o q, e.at fun o q => kk _ (by simp) o q⟩
  item := by
    intro X hP hw hK hc i pins s σ H E I hf st hg
    subst hP hw hK
    obtain ⟨a, b, ⟨c1, c2, c⟩, d, e⟩ := st
    obtain ⟨xs, ys, x, y, q1, q2, x1, y1⟩ := hg
    obtain ⟨its1, rv1, pl1, hz1⟩ := I.tuple q1
    obtain ⟨its2, rv2, pl2, hz2⟩ := I.tuple q2
    obtain ⟨u1, hu1, ru1⟩ := rv1.get x1
    obtain ⟨u2, hu2, ru2⟩ := rv2.get y1
    refine zt_pyNext ap a b c d e (show s.heap.IsTuple l1 its1.toArray from pl1) (show s.heap.IsTuple l2 its2.toArray from pl2) (u := u1) (v := u2) (by simpa using hu1) (by simpa using hu2) fun h' za zb zc zd ze zs zk => ?_
    refine ⟨_, rfl, wpAny_letOwnedTupleGo_zip (s := { s with heap := h' }) za fun h2 za2 sb => ?_⟩
    have kk : ∀ b o, b ∉ [z, TI, TO, i1, i2] → s.heap.get? b = some o → h2.get? b = some o := fun b o hb q => by
      simp only [List.mem_cons, List.not_mem_nil, or_false, not_or] at hb
      exact (sb.2 b hb.1).trans (zk b o hb.1 hb.2.2.1 hb.2.2.2.1 hb.2.2.2.2 q)
    have szn : s.heap.objs.size ≠ z := fun q => by
      obtain ⟨f0, _⟩ := hf z (by simp)
      exact absurd (Heap.lt_size a) (by rw [← q]; exact Nat.lt_irrefl _)
    have hT : h2.get? s.heap.objs.size = some { cls := .type "tuple", data := .seq #[u1, u2] } := (sb.2 _ szn).trans ze
    have fr : H s.heap.objs.size = none := I.hok.fresh (Nat.le_refl _)
    have I2 : Inv X pins σ (upd H s.heap.objs.size (.tup [x, y])) { s with heap := h2 } := I.turnLay (t' := s.toks) (fp := [z, TI, TO, i1, i2]) kk hf (Nat.le_refl _)
      ⟨by show 2 ≤ sizeLine; decide, [u1, u2], .cons ru1 (.cons ru2 .nil), ⟨_, hT, rfl, _, rfl⟩⟩
    have kTI : h2.get? TI = some _ := (sb.2 TI ap.TIz).trans (zk TI _ ap.TIz ap.TITO ap.TIi1 ap.TIi2 b)
    refine ⟨.ref s.heap.objs.size, _, I2, rfl, ⟨_, x, y, fr, rfl, rfl, fun zs hz => by rw [I.tuple_inj hz q1]; exact x1, fun zs hz => by rw [I.tuple_inj hz q2]; exact y1⟩,
      ⟨za2, kTI, ⟨_, _, (sb.2 TO ap.TOz).trans zb⟩, zc.at fun o q => (sb.2 _ ap.i1z).trans q, zd.at fun o q => (sb.2 _ ap.i2z).trans q⟩, fun b hb => ?_⟩
    have h0 := (hf b hb).1
    have hlt : b ≠ s.heap.objs.size := fun q => by
      subst q
      simp only [List.mem_cons, List.not_mem_nil, or_false] at hb
      rcases hb with q | q | q | q | q
      · exact szn q
      · exact absurd (Heap.lt_size b) (by rw [← q]; exact Nat.lt_irrefl _)
      · exact absurd (Heap.lt_size c) (by rw [← q]; exact Nat.lt_irrefl _)
      · obtain ⟨o, e1, _⟩ := d
        exact absurd (Heap.lt_size e1) (by rw [← q]; exact Nat.lt_irrefl _)
      · obtain ⟨o, e1, _⟩ := e
        exact absurd (Heap.lt_size e1) (by rw [← q]; exact Nat.lt_irrefl _)
    rw [upd_ne hlt]
    exact h0
  done := by
    intro X hP hw hK hc i pins s σ H E I hf st hg
    subst hP hw hK
    obtain ⟨a, b, ⟨c1, c2, c⟩, d, e⟩ := st
    obtain ⟨xs, ys, q1, q2, hl⟩ := hg
    obtain ⟨its1, rv1, pl1, hz1⟩ := I.tuple q1
    obtain ⟨its2, rv2, pl2, hz2⟩ := I.tuple q2
    have g1 := rv1.length
    have g2 := rv2.length
    refine zt_pyEnd (I.ok.hd hc) ap a b c d e (show s.heap.IsTuple l1 its1.toArray from pl1) (show s.heap.IsTuple l2 its2.toArray from pl2) ?_ fun h' zk => ⟨rfl, I.turnedL (t' := s.toks) (fp := [z, TI, TO, i1, i2]) (fun b o hb q => ?_) hf⟩
    · rcases hl with q | q
      · left; simp; omega
      · right; simp; omega
    · simp only [List.mem_cons, List.not_mem_nil, or_false, not_or] at hb
      exact zk b o hb.1 hb.2.2.1 hb.2.2.2.1 hb.2.2.2.2 q
  self := fun _ _ _ _ _ st h => wpAny_pyIter_zip st.1 h
noncomputable def iZipT (K : PySem.W.Frag) (ta : TA) : TI := fun σ H R => ta σ H fun vs H1 => ∃ a b, vs = [.ref a, .ref b] ∧ (∃ xs, SqT K H1 a xs) ∧ (∃ ys, SqT K H1 b ys) ∧ R (Itzt K a b) H1
theorem pi_zipT {X : Cx} {es : List Expr} {k0 : Nat} {p0 : Pos} {a b : Expr} {ta : TA} {p pos : Pos} (hg : Gl X "zip") (hm : X.mg "zip" = none) (ha : PA X [a, b] ta) (hs : starEach [a, b] X.env = [(false, eval a X.env), (false, eval b X.env)] := by rfl) (hs2 : starEach [b] X.env = [(false, eval b X.env)] := by rfl) :
    PI X (.Tuple es k0 p0) (.Call (.Name "zip" p) [a, b] [] pos) (iZipT X.K ta) := by
  intro pins s σ H R I h
  refine Call_ (ld_blt I hg hm boot_zip (PyProof.Rows.callWith_type1 (thn (ha pos pins s σ H _ I h) fun us s1 ⟨vs, H1, I1, r1, q1⟩ => ?_) (by rw [hs, hs2]) (by rw [hs2]; rfl)))
  obtain ⟨l1, l2, e, ⟨xs, q1⟩, ⟨ys, q2⟩, q⟩ := q1
  subst e
  cases r1 with
  | cons r rr =>
    cases rr with
    | cons r' rr =>
      cases rr
      cases r
      cases r'
      obtain ⟨its1, rv1, pl1, hz1⟩ := I1.tuple q1
      obtain ⟨its2, rv2, pl2, hz2⟩ := I1.tuple q2
      have T1 : s1.heap.IsTuple l1 its1.toArray := pl1
      have T2 : s1.heap.IsTuple l2 its2.toArray := pl2
      have lt1 : l1 < s1.heap.objs.size := by obtain ⟨o, e, _⟩ := isTuple_at T1; exact Heap.lt_size e
      have lt2 : l2 < s1.heap.objs.size := by obtain ⟨o, e, _⟩ := isTuple_at T2; exact Heap.lt_size e
      refine zt_call T1 T2 fun h' za zb zc zd ze zk => ?_
      refine wpAny_pyIter_zip (s := { s1 with heap := h' }) za ?_
      have I2 : Inv X pins σ H1 { s1 with heap := h' } := I1.kept (t' := s1.toks) fun b o e => zk b o e
      refine ⟨_, [_, _, _, _, _], _, _, H1, rfl, I2, turn_zipT (z := s1.heap.objs.size + 4) (TI := s1.heap.objs.size + 2) (TO := s1.heap.objs.size + 3) (i1 := s1.heap.objs.size) (i2 := s1.heap.objs.size + 1) (l1 := l1) (l2 := l2) ?_, ⟨za, zb, ⟨_, _, zc⟩, zd, ze⟩, fun b hb => ?_, q⟩
      · exact zapart lt1 lt2
      · simp only [List.mem_cons, List.not_mem_nil, or_false] at hb
        have ge : s1.heap.objs.size ≤ b := by rcases hb with z | z | z | z | z <;> (subst z; first | exact Nat.le_add_right _ _ | exact Nat.le_refl _)
        exact I1.fpOk ge (I1.hok.fresh ge)
theorem for_zipT {K : PySem.W.Frag} {l1 l2 : Addr} {xs ys : List V} {g : TG} {tb : TS} {D : Ends} {σ : St} {H : Hp} {n : Nat} (Pv : Nat → St → Hp → Prop) (h0 : Pv 0 σ H) (n1 : n ≤ xs.length) (n2 : n ≤ ys.length) (ne : xs.length = n ∨ ys.length = n)
    (hl : ∀ i σ H, i ≤ n → Pv i σ H → SqT K H l1 xs ∧ SqT K H l2 ys)
    (hs : ∀ i x y T σ H, i < n → xs[i]? = some x → ys[i]? = some y → H T = none → Pv i σ H → g (.ref T) σ (upd H T (.tup [x, y])) fun σ2 H2 => tb { D with nx := Pv (i + 1), ct := Pv (i + 1), bk := D.nx } σ2 H2) (hd : ∀ σ H, Pv n σ H → D.nx σ H) :
    ∃ W : Nat → Nat → St → Hp → Prop, (∃ m, W 0 m σ H) ∧ ∀ i m σ H, W i m σ H →
      ((Itzt K l1 l2).stop i H ∧ D.nx σ H) ∨ ((Itzt K l1 l2).go i H ∧ ∃ N : St → Hp → Prop, (∀ σ' H', N σ' H' → ∃ m', m' < m ∧ W (i + 1) m' σ' H') ∧ ∀ x H', (Itzt K l1 l2).yld i H x H' → g x σ H' fun σ2 H2 => tb { D with nx := N, ct := N, bk := D.nx } σ2 H2) := by
  refine ⟨fun i m σ H => m = n - i ∧ i ≤ n ∧ Pv i σ H, ⟨n, by simp, Nat.zero_le _, h0⟩, ?_⟩
  rintro i m σ H ⟨rfl, hi, p⟩
  obtain ⟨q1, q2⟩ := hl i σ H hi p
  by_cases hlt : i < n
  · have ex : xs[i]? = some (xs[i]'(by omega)) := List.getElem?_eq_getElem (by omega)
    have ey : ys[i]? = some (ys[i]'(by omega)) := List.getElem?_eq_getElem (by omega)
    refine .inr ⟨⟨xs, ys, _, _, q1, q2, ex, ey⟩, Pv (i + 1), fun σ' H' z => ⟨n - (i + 1), by omega, rfl, hlt, z⟩, ?_⟩
    rintro v H' ⟨T, x, y, fr, rfl, rfl, hx, hy⟩
    exact hs i x y T σ H hlt (hx xs q1) (hy ys q2) fr p
  · have ei : i = n := by omega
    subst ei
    refine .inl ⟨⟨xs, ys, q1, q2, ?_⟩, hd σ H p⟩
    rcases ne with z | z
    · exact .inl (by omega)
    · exact .inr (by omega)
end L2
set_option maxHeartbeats 4000000
namespace L2
open PySem PySem.Spec PyProof.Rows
section
variable {X : Cx}
end
section
variable {X : Cx}
noncomputable def tListR (ta : TA) : TE := fun σ H Q => ta σ H fun vs H1 => ∃ i j : Int, vs = [.int i, .int j] ∧ (-(2 ^ 62) ≤ i ∧ i < 2 ^ 62 ∧ -(2 ^ 62) ≤ j ∧ j < 2 ^ 62) ∧ (j - i).toNat ≤ 1000 ∧ ∀ l, H1 l = none → Q (.ref l) (upd H1 l (.lst ((List.range (j - i).toNat).map fun (m : Nat) => V.int (i + (m : Int)))))
theorem vals_range {i : Int} : ∀ {n : Nat} {us : List Value}, us.length = n → (∀ (m : Nat) v, us[m]? = some v → ∃ t, v = .int (i + m * 1) t) → Vals ((List.range n).map fun (m : Nat) => V.int (i + (m : Int))) us := by
  intro n us hl h
  induction n generalizing i us with
  | zero =>
    have e : us = [] := List.eq_nil_of_length_eq_zero hl
    subst e
    exact .nil
  | succ n ih =>
    cases us with
    | nil => simp at hl
    | cons u us =>
      rw [List.range_succ_eq_map, List.map_cons, List.map_map]
      obtain ⟨t, e⟩ := h 0 u rfl
      refine .cons ⟨t, by rw [e]; simp⟩ ?_
      have z := ih (i := i + 1) (us := us) (by simpa using hl) fun m v hv => by
        obtain ⟨t', e'⟩ := h (m + 1) v (by simpa using hv)
        exact ⟨t', by rw [e']; congr 1; push_cast; omega⟩
      have ef : ((fun (m : Nat) => V.int (i + (m : Int))) ∘ Nat.succ) = fun (m : Nat) => V.int (i + 1 + (m : Int)) := by
        funext m
        show V.int (i + ((m + 1 : Nat) : Int)) = _
        congr 1
        omega
      rw [ef]
      exact z
theorem pe_listR {a b : Expr} {ta : TA} {p p' pos pos' : Pos} (hc : X.calm = true) (hg : Gl X "list") (hm : X.mg "list" = none) (hv : bootBuiltins "list" = some (.type "list")) (hg' : Gl X "range") (hm' : X.mg "range" = none) (ha : PA X [a, b] ta)
    (hs : starEach [a, b] X.env = [(false, eval a X.env), (false, eval b X.env)] := by rfl) (hs2 : starEach [b] X.env = [(false, eval b X.env)] := by rfl)
    (he : starEach [.Call (.Name "range" p') [a, b] [] pos'] X.env = [(false, eval (.Call (.Name "range" p') [a, b] [] pos') X.env)] := by rfl) (he2 : starEach [] X.env = [] := by rfl) :
    PE X (.Call (.Name "list" p) [.Call (.Name "range" p') [a, b] [] pos'] [] pos) (tListR ta) := by
  intro pins s σ H Q I h
  refine wpAny_Call_Name_kw (ld_blt I hg hm hv ?_ (by decide) (by decide))
  refine PyProof.Rows.callWith_type1 ?_ (by rw [he, he2]) (by rw [he2]; rfl)
  rw [he]
  show wpAny _ _ (spliced ((false, eval _ X.env) :: backTo pos [])) _ _ s
  refine Calls.spliced_cons ?_
  refine Call_ (ld_blt I hg' hm' boot_range (PyProof.Rows.callWith_type1 (thn (ha pos' pins s σ H _ I h) fun us s1 ⟨vs, H1, I1, r1, q1⟩ => ?_) (by rw [hs, hs2]) (by rw [hs2]; rfl)))
  obtain ⟨i, j, e, ⟨q1, q2, q3, q4⟩, hn, q⟩ := q1
  subst e
  cases r1 with
  | cons r rr =>
    cases rr with
    | cons r' rr =>
      cases rr
      obtain ⟨t, rfl⟩ := r
      obtain ⟨t', rfl⟩ := r'
      refine call_range_2 ?_
      refine Calls.spliced_nil ?_
      refine call_list_range (n := (j - i).toNat) (I1.ok.hd hc) (IsRange.new ..) (small_one q1 q2 q3 q4) (by rw [rangeSize_one]; split <;> omega) (by omega) fun h' tk acc c kp hS hit => ?_
      obtain ⟨us⟩ := acc
      obtain ⟨hz, hi⟩ := hit
      have hz' : us.length = (j - i).toNat := by simpa using hz
      have ge : s1.heap.objs.size ≤ (s1.heap.push { cls := .type "range", data := .fields #[.int i t, .int j t', .int 1 s1.toks] }).objs.size := by rw [Heap.size_push]; omega
      have rv := vals_range (i := i) hz' fun m v hv => hi m v (by simpa using hv)
      have big : ((List.range (j - i).toNat).map fun (m : Nat) => V.int (i + (m : Int))).length ≤ sizeLine := Nat.le_trans (show _ ≤ 1000 by simpa using hn) (by decide)
      exact ⟨.ref _, _, I1.laid (t' := tk) (fun b o e => kp b o (Heap.get?_push_of_some _ e)) ge (show ObjOk X.prog X.w _ h' _ (.lst _) from ⟨big, us, c, rv, hS⟩), rfl, q _ (I1.hok.fresh ge)⟩
end
end L2
set_option maxHeartbeats 4000000
namespace L2
open PySem PySem.Spec PyProof.Rows
section
variable {X : Cx} {e st : Expr} {te ts : TE} {pos p2 : Pos}
end
end L2
set_option maxHeartbeats 4000000
namespace L2
open PySem PySem.Spec PyProof.Rows
section
variable {X : Cx}
theorem op_catE : OpR X (binaryOp .Add) (fun x y H Q => ∃ a b ys, x = .ref a ∧ y = .ref b ∧ SqT X.K H a [] ∧ SqT X.K H b ys ∧ Q (.ref b) H) := by
  intro pins s σ H x y v u Q I rx ry h
  obtain ⟨a, b, ys, rfl, rfl, ha, hb, q⟩ := h
  cases rx
  cases ry
  obtain ⟨its, r1, p1, _⟩ := I.tuple ha
  obtain ⟨its2, r2, p2, _⟩ := I.tuple hb
  cases r1
  obtain ⟨⟨cls, dd, data, sl⟩, ho, hc, n, hd⟩ := id (show s.heap.IsTuple a ([] : List Value).toArray from p1)
  obtain ⟨⟨cls2, dd2, data2, sl2⟩, ho2, hc2, n2, hd2⟩ := id (show s.heap.IsTuple b its2.toArray from p2)
  simp only at hc hd hc2 hd2
  subst hc hd hc2 hd2
  exact concat_meets ⟨_, ho, rfl⟩ ⟨_, ho2, rfl⟩ noFill_tuple_add seq_tuple_add PySem.F.slot_tuple_add PySem.F.entry_tuple_add (PySem.F.args_tuple_add_2 _ _) (tuple_addW0 a b ([] : List Value).toArray its2.toArray n n2 dd dd2 sl sl2 rfl) ⟨ho, ho2, ⟨.ref b, H, I, rfl, q⟩⟩
theorem op_catU : OpR X (binaryOp .Add) (fun x y H Q => (∃ a b ys, x = .ref a ∧ y = .ref b ∧ SqT X.K H a [] ∧ SqT X.K H b ys ∧ Q (.ref b) H) ∨ rCatT X.K x y H Q) := by
  intro pins s σ H x y v u Q I rx ry h
  rcases h with h | h
  · exact op_catE pins s σ H x y v u Q I rx ry h
  · exact op_catT pins s σ H x y v u Q I rx ry h
end
end L2
namespace Gc
theorem gstep {a b : Int} (ha : 0 ≤ a) (hb : 0 ≤ b) (h : b ≠ 0) : Int.gcd b (a % b) = Int.gcd a b := by
  rw [Int.gcd_comm a b]
  unfold Int.gcd
  have e : (a % b).natAbs = a.natAbs % b.natAbs := by
    rw [Int.natAbs_emod_of_nonneg ha]
  rw [e, Nat.gcd_comm b.natAbs (a.natAbs % b.natAbs), ← Nat.gcd_rec]
theorem gend {a : Int} (ha : 0 ≤ a) : (Int.gcd a 0 : Int) = a := by
  rw [Int.gcd_zero_right]; omega
theorem gabs (a b : Int) : Int.gcd (if a < 0 then -a else a) (if b < 0 then -b else b) = Int.gcd a b := by
  unfold Int.gcd
  have h1 : (if a < 0 then -a else a).natAbs = a.natAbs := by split <;> omega
  have h2 : (if b < 0 then -b else b).natAbs = b.natAbs := by split <;> omega
  rw [h1, h2]
end Gc
namespace Gc
theorem fdiv_mul {g t : Int} (h : g ≠ 0) : (g * t).fdiv g = t := by
  rw [Int.mul_comm]; exact Int.mul_fdiv_cancel _ h
noncomputable def frD (t b : Int) : Int := if b < 0 then -(Int.gcd t b : Int) else (Int.gcd t b : Int)
noncomputable def frT (t b : Int) : Int := t.fdiv (frD t b)
noncomputable def frB (t b : Int) : Int := b.fdiv (frD t b)
theorem gne {t b : Int} (h : b ≠ 0) : Int.gcd t b ≠ 0 := fun e => h (Int.gcd_eq_zero_iff.mp e).2
theorem frD_ne {t b : Int} (h : b ≠ 0) : frD t b ≠ 0 := by
  have := gne (t := t) h
  unfold frD; split <;> omega
theorem fr_split {t b : Int} (h : b ≠ 0) : t = frD t b * frT t b ∧ b = frD t b * frB t b := by
  have hd : (Int.gcd t b : Int) ∣ t := Int.gcd_dvd_left ..
  have hb : (Int.gcd t b : Int) ∣ b := Int.gcd_dvd_right ..
  have hd' : frD t b ∣ t := by unfold frD; split; · exact Int.neg_dvd.mpr hd
                               · exact hd
  have hb' : frD t b ∣ b := by unfold frD; split; · exact Int.neg_dvd.mpr hb
                               · exact hb
  obtain ⟨x, hx⟩ := hd'
  obtain ⟨y, hy⟩ := hb'
  have ne := frD_ne (t := t) h
  generalize hD : frD t b = d at *
  have e1 : frT t b = x := by unfold frT; rw [hD]; conv => lhs; rw [hx]
                              exact fdiv_mul ne
  have e2 : frB t b = y := by unfold frB; rw [hD]; conv => lhs; rw [hy]
                              exact fdiv_mul ne
  rw [e1, e2]; exact ⟨hx, hy⟩
theorem frB_pos {t b : Int} (h : b ≠ 0) : 0 < frB t b := by
  obtain ⟨_, e⟩ := fr_split (t := t) h
  have g := gne (t := t) h
  rcases Int.lt_trichotomy (frB t b) 0 with c | c | c
  · exfalso
    by_cases hb : b < 0
    · have hd : frD t b < 0 := by unfold frD; rw [if_pos hb]; omega
      have := Int.mul_pos_of_neg_of_neg hd c
      omega
    · have hd : 0 < frD t b := by unfold frD; rw [if_neg hb]; omega
      have := Int.mul_neg_of_pos_of_neg hd c
      omega
  · rw [c, Int.mul_zero] at e; exact absurd e h
  · exact c
theorem fr_gcd {t b : Int} (h : b ≠ 0) : Int.gcd (frT t b) (frB t b) = 1 := by
  obtain ⟨e1, e2⟩ := fr_split (t := t) h
  have g := gne (t := t) h
  have k : Int.gcd t b = (frD t b).natAbs * Int.gcd (frT t b) (frB t b) := by
    rw [← Int.gcd_mul_left, ← e1, ← e2]
  have hn : (frD t b).natAbs = Int.gcd t b := by unfold frD; split <;> omega
  rw [hn] at k
  have : Int.gcd t b * 1 = Int.gcd t b * Int.gcd (frT t b) (frB t b) := by rw [Nat.mul_one]; exact k
  exact (Nat.eq_of_mul_eq_mul_left (Nat.pos_of_ne_zero g) this).symm
theorem fr_cross {t b : Int} (h : b ≠ 0) : frT t b * b = t * frB t b := by
  obtain ⟨e1, e2⟩ := fr_split (t := t) h
  generalize frT t b = x at *
  generalize frB t b = y at *
  generalize frD t b = d at *
  subst e1 e2
  rw [Int.mul_left_comm, Int.mul_assoc]
theorem dvd_cop {k m n : Int} (h : k ∣ m * n) (c : Int.gcd k m = 1) : k ∣ n := by
  have h' : k.natAbs ∣ m.natAbs * n.natAbs := by rw [← Int.natAbs_mul]; exact Int.natAbs_dvd_natAbs.mpr h
  exact Int.natAbs_dvd_natAbs.mp (Nat.Coprime.dvd_of_dvd_mul_left c h')
theorem fr_same {a b c d : Int} (hb : 0 < b) (hd : 0 < d) (g1 : Int.gcd a b = 1) (g2 : Int.gcd c d = 1) (e : a * d = c * b) : a = c ∧ b = d := by
  have h1 : b ∣ d := by
    have : b ∣ a * d := ⟨c, by rw [e, Int.mul_comm]⟩
    have k : Int.gcd b a = 1 := by rw [Int.gcd_comm]; exact g1
    exact dvd_cop this k
  have h2 : d ∣ b := by
    have : d ∣ c * b := ⟨a, by rw [← e, Int.mul_comm]⟩
    have k : Int.gcd d c = 1 := by rw [Int.gcd_comm]; exact g2
    exact dvd_cop this k
  have hbd : b = d := Int.dvd_antisymm (by omega) (by omega) h1 h2
  subst hbd
  exact ⟨Int.eq_of_mul_eq_mul_right (by omega) e, rfl⟩
end Gc
namespace Gc
theorem mul_ne {a b : Int} (ha : 0 < a) (hb : 0 < b) : a * b ≠ 0 := Int.ne_of_gt (Int.mul_pos ha hb)
theorem cancel {k x y : Int} (h : k ≠ 0) (e : k * x = k * y) : x = y := Int.eq_of_mul_eq_mul_left h e
theorem fr_is {t b c d : Int} (hb : b ≠ 0) (hd : 0 < d) (g : Int.gcd c d = 1) (e : t * d = c * b) : frT t b = c ∧ frB t b = d := by
  have h := fr_cross (t := t) hb
  refine fr_same (frB_pos hb) hd (fr_gcd hb) g ?_
  refine cancel hb ?_
  generalize frT t b = x at *
  generalize frB t b = y at *
  grind
theorem back {a b c d : Int} (hb : 0 < b) (hd : 0 < d) (g : Int.gcd c d = 1) :
    frT (frT (a * d + c * b) (b * d) * b - a * frB (a * d + c * b) (b * d)) (frB (a * d + c * b) (b * d) * b) = c ∧
    frB (frT (a * d + c * b) (b * d) * b - a * frB (a * d + c * b) (b * d)) (frB (a * d + c * b) (b * d) * b) = d := by
  have hn := mul_ne hb hd
  have h1 := fr_cross (t := a * d + c * b) hn
  have h2 := frB_pos (t := a * d + c * b) hn
  generalize frT (a * d + c * b) (b * d) = p at *
  generalize frB (a * d + c * b) (b * d) = q at *
  refine fr_is (mul_ne h2 hb) hd g ?_
  grind
noncomputable def Sz (n : Nat) (i : Int) : Prop := i.natAbs < 2 ^ n
theorem Sz.mono {m n : Nat} {i : Int} (h : Sz m i) (hn : m ≤ n) : Sz n i := Nat.lt_of_lt_of_le h (Nat.pow_le_pow_right (by decide) hn)
theorem Sz.mul {m n : Nat} {i j : Int} (h1 : Sz m i) (h2 : Sz n j) : Sz (m + n) (i * j) := by
  unfold Sz at *
  rw [Int.natAbs_mul, Nat.pow_add]
  exact Nat.mul_lt_mul'' h1 h2
theorem Sz.sub {n : Nat} {i j : Int} (h1 : Sz n i) (h2 : Sz n j) : Sz (n + 1) (i - j) := by
  unfold Sz at *
  rw [Nat.pow_succ]; omega
theorem Sz.fr {n m : Nat} {a b : Int} (h : b ≠ 0) (sa : Sz n a) (sb : Sz m b) : Sz n (frT a b) ∧ Sz m (frB a b) := by
  obtain ⟨e1, e2⟩ := fr_split (t := a) h
  have nd := frD_ne (t := a) h
  have h1 : (frT a b).natAbs ≤ a.natAbs := by
    have : a.natAbs = (frD a b).natAbs * (frT a b).natAbs := by rw [← Int.natAbs_mul, ← e1]
    rw [this]; exact Nat.le_mul_of_pos_left _ (by omega)
  have h2 : (frB a b).natAbs ≤ b.natAbs := by
    have : b.natAbs = (frD a b).natAbs * (frB a b).natAbs := by rw [← Int.natAbs_mul, ← e2]
    rw [this]; exact Nat.le_mul_of_pos_left _ (by omega)
  exact ⟨Nat.lt_of_le_of_lt h1 sa, Nat.lt_of_le_of_lt h2 sb⟩
structure FrOK (a b : Int) : Prop where
  pos : 0 < b
  low : Int.gcd a b = 1
  s1 : Sz 200 a
  s2 : Sz 200 b
theorem FrOK.of {a b : Int} (h : 0 < b) (sa : Sz 200 a) (sb : Sz 200 b) : FrOK (frT a b) (frB a b) :=
  have z := Sz.fr (by omega) sa sb
  ⟨frB_pos (by omega), fr_gcd (by omega), z.1, z.2⟩
theorem frD_pos {a b : Int} (h : 0 < b) : frD a b = Int.gcd a b := if_neg (by omega)
end Gc
namespace Ch
noncomputable def binom : Nat → Nat → Nat
  | _, 0 => 1
  | 0, _ + 1 => 0
  | n + 1, k + 1 => binom n k + binom n (k + 1)
theorem b0 (n : Nat) : binom n 0 = 1 := by cases n <;> rfl
theorem bs (n k : Nat) : binom (n + 1) (k + 1) = binom n k + binom n (k + 1) := rfl
theorem blt : ∀ {n k : Nat}, n < k → binom n k = 0
  | 0, k + 1, _ => rfl
  | n + 1, k + 1, h => by rw [bs, blt (by omega : n < k), blt (by omega : n < k + 1)]
theorem bself : ∀ n : Nat, binom n n = 1
  | 0 => rfl
  | n + 1 => by rw [bs, bself n, blt (Nat.lt_succ_self n)]
theorem babs : ∀ n k : Nat, binom n (k + 1) * (k + 1) = binom n k * (n - k)
  | 0, k => by rw [show binom 0 (k + 1) = 0 from rfl]; simp
  | n + 1, 0 => by
    have ih := babs n 0
    rw [bs, b0, b0]
    rw [b0] at ih
    simp only [Nat.zero_add, Nat.mul_one, Nat.one_mul, Nat.sub_zero] at *
    omega
  | n + 1, k + 1 => by
    have i1 := babs n k
    have i2 := babs n (k + 1)
    rw [bs n (k + 1), bs n k]
    by_cases h : k < n
    · have e1 : n - k = (n - (k + 1)) + 1 := by omega
      have e2 : n + 1 - (k + 1) = n - k := by omega
      rw [e2]
      rw [e1] at i1 ⊢
      generalize n - (k + 1) = d at *
      have : (binom n (k + 1) + binom n (k + 1 + 1)) * (k + 1 + 1) = binom n (k + 1) * (k + 1) + binom n (k + 1) + binom n (k + 1 + 1) * (k + 1 + 1) := by
        rw [Nat.add_mul, Nat.mul_add (binom n (k + 1)) (k + 1) 1, Nat.mul_one]
      rw [this, i1, i2, Nat.add_mul, Nat.mul_add (binom n k) d 1, Nat.mul_add (binom n (k + 1)) d 1]
      omega
    · have z1 : binom n (k + 1) = 0 := blt (by omega)
      have z2 : binom n (k + 1 + 1) = 0 := blt (by omega)
      have e2 : n + 1 - (k + 1) = 0 := by omega
      rw [z1, z2, e2]; simp
theorem bsymm : ∀ {n k : Nat}, k ≤ n → binom n (n - k) = binom n k
  | 0, 0, _ => rfl
  | n + 1, 0, _ => by rw [Nat.sub_zero, bself, b0]
  | n + 1, k + 1, h => by
    by_cases e : k = n
    · subst e; rw [Nat.sub_self, b0, bself]
    · have e1 : n + 1 - (k + 1) = (n - (k + 1)) + 1 := by omega
      have e2 : n - (k + 1) + 1 = n - k := by omega
      rw [e1, bs, bs, e2, bsymm (by omega : k + 1 ≤ n), bsymm (by omega : k ≤ n)]
      omega
theorem bturn (n t : Nat) : binom n t * (n - t) / (t + 1) = binom n (t + 1) := by
  rw [← babs, Nat.mul_div_cancel _ (Nat.succ_pos t)]
noncomputable def bsum (n : Nat) : Nat → Nat
  | 0 => 0
  | k + 1 => bsum n k + binom n k
theorem bsum_succ (n : Nat) : ∀ k : Nat, bsum (n + 1) (k + 1) = bsum n k + bsum n (k + 1)
  | 0 => by simp [bsum, b0]
  | k + 1 => by
    have ih := bsum_succ n k
    have e : bsum (n + 1) (k + 1 + 1) = bsum (n + 1) (k + 1) + binom (n + 1) (k + 1) := rfl
    rw [e, ih, bs]
    show bsum n k + bsum n (k + 1) + (binom n k + binom n (k + 1)) = bsum n (k + 1) + (bsum n (k + 1) + binom n (k + 1))
    have e2 : bsum n (k + 1) = bsum n k + binom n k := rfl
    omega
theorem bsum_over (n : Nat) : bsum n (n + 1 + 1) = bsum n (n + 1) := by
  show bsum n (n + 1) + binom n (n + 1) = _
  rw [blt (Nat.lt_succ_self n)]; omega
theorem bsum_all : ∀ n : Nat, bsum n (n + 1) = 2 ^ n
  | 0 => rfl
  | n + 1 => by
    rw [bsum_succ, bsum_over, bsum_all n, Nat.pow_succ]; omega
noncomputable def cho (n k : Int) : Int := if k < 0 ∨ n < k then 0 else (binom n.toNat k.toNat : Int)
theorem cho_out {n k : Int} (h : k < 0 ∨ n < k) : cho n k = 0 := if_pos h
theorem cho_in {n k : Int} (h0 : 0 ≤ k) (h1 : k ≤ n) : cho n k = (binom n.toNat k.toNat : Int) := if_neg (by omega)
theorem cho_min {n k : Int} (h0 : 0 ≤ k) (h1 : k ≤ n) : (binom n.toNat (if n - k < k then n - k else k).toNat : Int) = cho n k := by
  rw [cho_in h0 h1]
  by_cases c : n - k < k
  · rw [if_pos c]
    have e : (n - k).toNat = n.toNat - k.toNat := by omega
    rw [e, bsymm (by omega)]
  · rw [if_neg c]
theorem cho_turn {n : Int} {t : Nat} (h : (t : Int) < n) : (binom n.toNat t : Int) * (n - t) / ((t : Int) + 1) = (binom n.toNat (t + 1) : Int) := by
  rw [← bturn n.toNat t]
  have e : n - (t : Int) = ((n.toNat - t : Nat) : Int) := by omega
  rw [e]
  simp
end Ch
namespace Gc
open Ch
theorem rle {a b c : Rat} (h : a ≤ b) (hc : 0 ≤ c) : c * a ≤ c * b := Rat.mul_le_mul_of_nonneg_left h hc
noncomputable def sm (f : Nat → Rat) : Nat → Rat
  | 0 => 0
  | m + 1 => sm f m + f m
noncomputable def wt (p : Rat) : Nat → Nat → Rat
  | 0, 0 => 1
  | 0, _ + 1 => 0
  | n + 1, 0 => (1 - p) * wt p n 0
  | n + 1, k + 1 => (1 - p) * wt p n (k + 1) + p * wt p n k
end Gc
namespace Gc
open Ch
noncomputable def Cvx (G : Nat → Rat) : Prop := ∀ k, G (k + 1) - G k ≤ G (k + 2) - G (k + 1)
theorem Cvx.steps {G : Nat → Rat} (h : Cvx G) (a : Nat) : ∀ e, G (a + 1) - G a ≤ G (a + e + 1) - G (a + e)
  | 0 => Rat.le_refl
  | e + 1 => by
      have := h.steps a e
      have s := h (a + e)
      have e1 : a + (e + 1) = a + e + 1 := by omega
      have e2 : a + (e + 1) + 1 = a + e + 2 := by omega
      rw [e2, e1]; grind
theorem Cvx.up {G : Nat → Rat} (h : Cvx G) (a : Nat) : ∀ e : Nat, (e : Rat) * (G (a + 1) - G a) ≤ G (a + e) - G a
  | 0 => by have : a + 0 = a := rfl
            rw [this]; push_cast; grind
  | e + 1 => by
      have i := h.up a e
      have s := h.steps a e
      have e1 : a + (e + 1) = a + e + 1 := by omega
      rw [e1]; push_cast; grind
theorem Cvx.dn {G : Nat → Rat} (h : Cvx G) (a : Nat) : ∀ e : Nat, G (a + e) - G a ≤ (e : Rat) * (G (a + e + 1) - G (a + e))
  | 0 => by have : a + 0 = a := rfl
            rw [this]; push_cast; grind
  | e + 1 => by
      have i := h.dn a e
      have s := h (a + e)
      have m := rle s (show (0 : Rat) ≤ (e : Rat) by exact_mod_cast Nat.zero_le e)
      have e1 : a + (e + 1) = a + e + 1 := by omega
      have e2 : a + (e + 1) + 1 = a + e + 2 := by omega
      rw [e2, e1]; push_cast; grind
theorem castpos {e : Nat} (h : 0 < e) : (0 : Rat) < (e : Rat) := by exact_mod_cast h
theorem pos_of {e x : Rat} (he : 0 < e) (h : 0 < e * x) : 0 < x := by
  by_cases hx : 0 < x
  · exact hx
  · have := rle (show x ≤ 0 by grind) (show 0 ≤ e by grind); grind
theorem nonneg_of {e x : Rat} (he : 0 < e) (h : 0 ≤ e * x) : 0 ≤ x := by
  by_cases hx : 0 ≤ x
  · exact hx
  · have := Rat.mul_pos he (show 0 < -x by grind); grind
theorem Cvx.out {G : Nat → Rat} (h : Cvx G) {a d k : Nat} (ha : G a = 0) (hd : G d = 0) (had : a < d) (h1 : k ≤ a ∨ d ≤ k) : 0 ≤ G k := by
  obtain ⟨f, rfl⟩ := Nat.exists_eq_add_of_le (Nat.le_of_lt had)
  have fp := castpos (show 0 < f by omega)
  cases h1 with
  | inl h1 =>
    obtain ⟨e, rfl⟩ := Nat.exists_eq_add_of_le h1
    have u := h.dn k e
    have v := h.up (k + e) f
    have x : 0 ≤ -(G (k + e + 1) - G (k + e)) := nonneg_of fp (by grind)
    have y := Rat.mul_nonneg (show (0 : Rat) ≤ (e : Rat) by exact_mod_cast Nat.zero_le e) x
    grind
  | inr h1 =>
    obtain ⟨e, rfl⟩ := Nat.exists_eq_add_of_le h1
    have u := h.dn a f
    have v := h.up (a + f) e
    have x : 0 ≤ G (a + f + 1) - G (a + f) := nonneg_of fp (by grind)
    have y := Rat.mul_nonneg (show (0 : Rat) ≤ (e : Rat) by exact_mod_cast Nat.zero_le e) x
    grind
end Gc
namespace Gc
open Ch
theorem rden (r : Rat) : (0 : Int) < (r.den : Int) := by have := r.den_nz; omega
theorem rgcd (r : Rat) : Int.gcd r.num (r.den : Int) = 1 := by
  have := r.reduced
  rw [Int.gcd]; simpa [Nat.Coprime] using this
theorem rdenQ (r : Rat) : (r.den : Rat) ≠ 0 := by
  have := r.den_nz
  intro h; exact this (by exact_mod_cast h)
theorem rsplit (r : Rat) : r * (r.den : Rat) = (r.num : Rat) := by
  have h := Rat.mkRat_self r
  rw [Rat.mkRat_eq_div] at h
  have d := rdenQ r
  generalize (r.num : Rat) = x at *
  generalize (r.den : Rat) = y at *
  grind
theorem fr_rat {t b : Int} (h : b ≠ 0) {r : Rat} (e : r * (b : Rat) = (t : Rat)) : frT t b = r.num ∧ frB t b = (r.den : Int) := by
  refine fr_is h (rden r) (rgcd r) ?_
  have s := rsplit r
  have : ((t * (r.den : Int) : Int) : Rat) = ((r.num * b : Int) : Rat) := by push_cast; rw [← e, ← s]; grind
  exact_mod_cast this
theorem castlt {a b : Int} : ((a : Rat) < (b : Rat)) ↔ a < b := Rat.intCast_lt_intCast
theorem r_under (r s : Rat) : r.num * (s.den : Int) < s.num * (r.den : Int) ↔ r < s := by
  have a := rsplit r; have b := rsplit s
  have dr : (0 : Rat) < (r.den : Rat) := by exact_mod_cast (show 0 < r.den by have := r.den_nz; omega)
  have ds : (0 : Rat) < (s.den : Rat) := by exact_mod_cast (show 0 < s.den by have := s.den_nz; omega)
  have p := Rat.mul_pos dr ds
  rw [← castlt]; push_cast; rw [← a, ← b]
  constructor
  · intro h
    have := pos_of p (x := s - r) (by grind); grind
  · intro h
    have := Rat.mul_pos p (show 0 < s - r by grind); grind
theorem r_nonneg (r : Rat) : 0 ≤ r.num ↔ 0 ≤ r := Rat.num_nonneg
theorem r_le1 (r : Rat) : r.num ≤ (r.den : Int) ↔ r ≤ 1 := by
  have := r_under 1 r
  have e1 : (1 : Rat).num = 1 := rfl
  have e2 : ((1 : Rat).den : Int) = 1 := rfl
  rw [e1, e2] at this
  constructor
  · intro h
    by_cases c : 1 < r
    · exact absurd (this.mpr c) (by omega)
    · grind
  · intro h
    by_cases c : 1 * (r.den : Int) < r.num * 1
    · have := this.mp c; grind
    · omega
noncomputable def rq (t b : Int) : Rat := (t : Rat) / (b : Rat)
theorem rq_back {t b : Int} (h : 0 < b) (g : Int.gcd t b = 1) : (rq t b).num = t ∧ ((rq t b).den : Int) = b := by
  have hq : (b : Rat) ≠ 0 := by intro e; have : b = 0 := by exact_mod_cast e
                                omega
  have e : rq t b * (b : Rat) = (t : Rat) := by unfold rq; grind
  have := fr_rat (Int.ne_of_gt h) e
  have k := fr_is (t := t) (b := b) (Int.ne_of_gt h) h g rfl
  exact ⟨this.1.symm.trans k.1, this.2.symm.trans k.2⟩
noncomputable def Ov (B : Nat) (r : Rat) : Prop := ∃ m : Int, r * (B : Rat) = (m : Rat)
theorem Ov.dvd {B : Nat} {r : Rat} (h : Ov B r) : r.den ∣ B := by
  obtain ⟨m, hm⟩ := h
  have s := rsplit r
  have : ((r.num * (B : Int) : Int) : Rat) = ((m * (r.den : Int) : Int) : Rat) := by push_cast; rw [← hm, ← s]; grind
  have e : r.num * (B : Int) = m * (r.den : Int) := by exact_mod_cast this
  have d : (r.den : Int) ∣ (B : Int) := dvd_cop (k := (r.den : Int)) (m := r.num) ⟨m, by rw [e]; exact Int.mul_comm _ _⟩ (by rw [Int.gcd_comm]; exact rgcd r)
  exact_mod_cast d
theorem Ov.self (r : Rat) : Ov r.den r := ⟨r.num, rsplit r⟩
theorem Ov.sub {B : Nat} {r s : Rat} (h : Ov B r) (k : Ov B s) : Ov B (r - s) := by
  obtain ⟨a, ha⟩ := h; obtain ⟨b, hb⟩ := k
  exact ⟨a - b, by push_cast; rw [← ha, ← hb]; grind⟩
theorem Ov.mul {A B : Nat} {r s : Rat} (h : Ov A r) (k : Ov B s) : Ov (A * B) (r * s) := by
  obtain ⟨a, ha⟩ := h; obtain ⟨b, hb⟩ := k
  exact ⟨a * b, by push_cast; rw [← ha, ← hb]; grind⟩
theorem Ov.up {A B : Nat} {r : Rat} (h : Ov A r) (k : A ∣ B) : Ov B r := by
  obtain ⟨c, rfl⟩ := k
  obtain ⟨a, ha⟩ := h
  exact ⟨a * c, by push_cast; rw [← ha]; grind⟩
theorem Ov.one (B : Nat) : Ov B 1 := ⟨(B : Int), by push_cast; grind⟩
structure RSz (n : Nat) (r : Rat) : Prop where
  t : Sz n r.num
  b : Sz n (r.den : Int)
theorem RSz.of {n B : Nat} {r : Rat} (h : Ov B r) (hB : 0 < B) (hn : B < 2 ^ n) (h0 : 0 ≤ r) (h1 : r ≤ 1) : RSz n r := by
  have a := (r_nonneg r).mpr h0
  have b := (r_le1 r).mpr h1
  have c := Nat.le_of_dvd hB h.dvd
  constructor <;> (unfold Sz; omega)
end Gc
namespace Gc
open Ch
end Gc
namespace Gc
open Ch
end Gc
namespace Ch
noncomputable def nsm (f : Nat → Nat) : Nat → Nat
  | 0 => 0
  | m + 1 => nsm f m + f m
theorem nsm_front (f : Nat → Nat) : ∀ m, nsm f (m + 1) = f 0 + nsm (fun k => f (k + 1)) m
  | 0 => by simp [nsm]
  | m + 1 => by
    have ih := nsm_front f m
    show nsm f (m + 1) + f (m + 1) = f 0 + (nsm (fun k => f (k + 1)) m + f (m + 1))
    rw [ih]; omega
theorem nsm_congr {f g : Nat → Nat} : ∀ {m : Nat}, (∀ k, k < m → f k = g k) → nsm f m = nsm g m
  | 0, _ => rfl
  | m + 1, h => by
    show nsm f m + f m = nsm g m + g m
    rw [nsm_congr (fun k hk => h k (by omega)), h m (by omega)]
theorem nsm_add (f g : Nat → Nat) : ∀ m, nsm (fun k => f k + g k) m = nsm f m + nsm g m
  | 0 => rfl
  | m + 1 => by
    show nsm (fun k => f k + g k) m + (f m + g m) = nsm f m + f m + (nsm g m + g m)
    rw [nsm_add f g m]; omega
theorem nsm_zero {f : Nat → Nat} : ∀ {m : Nat}, (∀ k, k < m → f k = 0) → nsm f m = 0
  | 0, _ => rfl
  | m + 1, h => by
    show nsm f m + f m = 0
    rw [nsm_zero (fun k hk => h k (by omega)), h m (by omega)]
noncomputable def wyf (a b n k : Nat) : Nat := binom a k * binom b (n - k)
theorem vand (b : Nat) : ∀ a n, nsm (wyf a b n) (n + 1) = binom (a + b) n
  | 0, n => by
    rw [nsm_front, nsm_zero (fun k _ => by unfold wyf; rw [blt (Nat.succ_pos k)]; simp)]
    unfold wyf
    rw [b0]; simp
  | a + 1, 0 => by
    show 0 + wyf (a + 1) b 0 0 = _
    unfold wyf
    rw [b0, b0, b0]
  | a + 1, m + 1 => by
    have i1 := vand b a m
    have i2 := vand b a (m + 1)
    rw [nsm_front] at i2 ⊢
    have e : nsm (fun k => wyf (a + 1) b (m + 1) (k + 1)) (m + 1) = nsm (wyf a b m) (m + 1) + nsm (fun k => wyf a b (m + 1) (k + 1)) (m + 1) := by
      rw [← nsm_add]
      refine nsm_congr fun k hk => ?_
      unfold wyf
      rw [bs, Nat.add_sub_add_right, Nat.add_mul]
    rw [e, i1, show a + 1 + b = (a + b) + 1 by omega, bs]
    have z : wyf (a + 1) b (m + 1) 0 = wyf a b (m + 1) 0 := by unfold wyf; rw [b0, b0]
    rw [z]
    omega
theorem bpos : ∀ {n k : Nat}, k ≤ n → 0 < binom n k
  | n, 0, _ => by rw [b0]; decide
  | n + 1, k + 1, h => by
    rw [bs]
    have := bpos (n := n) (k := k) (by omega)
    omega
theorem ble (n : Nat) : ∀ k, binom n k ≤ 2 ^ n := by
  intro k
  by_cases c : k ≤ n
  · have e := bsum_all n
    have m : ∀ j, k < j → binom n k ≤ bsum n j := by
      intro j
      induction j with
      | zero => intro h; omega
      | succ j ih =>
        intro h
        show binom n k ≤ bsum n j + binom n j
        by_cases z : k = j
        · subst z; omega
        · have := ih (by omega); omega
    rw [← e]
    exact m (n + 1) (by omega)
  · rw [blt (by omega)]; exact Nat.zero_le _
theorem cho_nat (n k : Nat) : cho n k = (binom n k : Int) := by
  by_cases c : k ≤ n
  · rw [cho_in (by omega) (by omega)]; rfl
  · rw [cho_out (by omega), blt (by omega)]; rfl
noncomputable def wy (N T n k : Nat) : Nat := wyf T (N - T) n k
theorem wy_all {N T n : Nat} (h : T ≤ N) : nsm (wy N T n) (n + 1) = binom N n := by
  have := vand (N - T) T n
  rw [show T + (N - T) = N by omega] at this
  exact this
theorem wy_cho {N T n k : Nat} (h : T ≤ N) (hk : k ≤ n) : cho (T : Int) (k : Int) * cho ((N : Int) - (T : Int)) ((n : Int) - (k : Int)) = (wy N T n k : Int) := by
  rw [show (N : Int) - (T : Int) = ((N - T : Nat) : Int) by omega, show (n : Int) - (k : Int) = ((n - k : Nat) : Int) by omega, cho_nat, cho_nat]
  unfold wy wyf
  push_cast
  rfl
end Ch
namespace Ch
theorem sort_ge {xs ys zs : List Int} (hx : xs.Pairwise (· ≤ ·)) (hl : xs.length = ys.length) (h : ∀ (i : Nat) (x y : Int), xs[i]? = some x → ys[i]? = some y → x ≤ y) (hp : zs.Perm ys) (hz : zs.Pairwise (· ≤ ·)) :
    ∀ (k : Nat) (x z : Int), xs[k]? = some x → zs[k]? = some z → x ≤ z := by
  intro k x z ex ez
  by_cases c : x ≤ z
  · exact c
  exfalso
  have kx := (List.getElem?_eq_some_iff.mp ex).1
  have kz := (List.getElem?_eq_some_iff.mp ez).1
  have xk := (List.getElem?_eq_some_iff.mp ex).2
  have zk := (List.getElem?_eq_some_iff.mp ez).2
  have a : k + 1 ≤ zs.countP (fun v => decide (v ≤ z)) := by
    have s : (zs.take (k + 1)).countP (fun v => decide (v ≤ z)) ≤ zs.countP (fun v => decide (v ≤ z)) := (List.take_sublist (k + 1) zs).countP_le
    have e : (zs.take (k + 1)).countP (fun v => decide (v ≤ z)) = (zs.take (k + 1)).length := by
      rw [List.countP_eq_length]
      intro v hv
      obtain ⟨i, hi, rfl⟩ := List.getElem_of_mem hv
      rw [List.length_take] at hi
      rw [List.getElem_take]
      refine decide_eq_true ?_
      by_cases q : i = k
      · subst q; omega
      · have := List.pairwise_iff_getElem.mp hz i k (by omega) kz (by omega)
        omega
    rw [e, List.length_take] at s
    omega
  have b : ys.countP (fun v => decide (v ≤ z)) ≤ k := by
    have e : ys = ys.take k ++ ys.drop k := (List.take_append_drop k ys).symm
    rw [e, List.countP_append]
    have d : (ys.drop k).countP (fun v => decide (v ≤ z)) = 0 := by
      rw [List.countP_eq_zero]
      intro v hv
      obtain ⟨i, hi, rfl⟩ := List.getElem_of_mem hv
      rw [List.length_drop] at hi
      rw [List.getElem_drop]
      have hik : k + i < xs.length := by omega
      have g := h (k + i) xs[k + i] ys[k + i] (List.getElem?_eq_getElem hik) (List.getElem?_eq_getElem (by omega))
      have f : x ≤ xs[k + i] := by
        by_cases q : i = 0
        · subst q; simp; omega
        · have := List.pairwise_iff_getElem.mp hx k (k + i) kx hik (by omega)
          omega
      simp
      omega
    rw [d]
    have := List.countP_le_length (l := ys.take k) (p := fun v => decide (v ≤ z))
    rw [List.length_take] at this
    omega
  rw [hp.countP_eq] at a
  omega
end Ch
namespace Ch
noncomputable def sT (N n T k : Nat) : Nat := nsm (wy N T n) k
theorem nsm_mono (f : Nat → Nat) {a b : Nat} (h : a ≤ b) : nsm f a ≤ nsm f b := by
  induction b with
  | zero => have : a = 0 := by omega
            subst this; exact Nat.le_refl _
  | succ b ih =>
    by_cases c : a = b + 1
    · subst c; exact Nat.le_refl _
    · have := ih (by omega)
      show _ ≤ nsm f b + f b
      omega
theorem sT_mono {N n T a b : Nat} (h : a ≤ b) : sT N n T a ≤ sT N n T b := nsm_mono _ h
theorem sT_all {N n T : Nat} (h : T ≤ N) : sT N n T (n + 1) = binom N n := wy_all h
theorem sT_step (N n T k : Nat) : sT N n T (k + 1) = sT N n T k + wy N T n k := rfl
noncomputable def gW (T M n j : Nat) : Nat := binom T j * binom M (n - 1 - j)
noncomputable def hW (T M n j : Nat) : Nat := binom T j * binom M (n - j)
theorem wy_old {T M n j : Nat} (hj : j < n) : wy (T + M + 1) T n j = hW T M n j + gW T M n j := by
  unfold wy wyf hW gW
  rw [show T + M + 1 - T = M + 1 by omega, show n - j = (n - 1 - j) + 1 by omega, bs, Nat.mul_add]
  omega
theorem wy_new0 {T M n : Nat} : wy (T + M + 1) (T + 1) n 0 = hW T M n 0 := by
  unfold wy wyf hW
  rw [show T + M + 1 - (T + 1) = M by omega, b0, b0]
theorem wy_new {T M n j : Nat} : wy (T + M + 1) (T + 1) n (j + 1) = hW T M n (j + 1) + gW T M n j := by
  unfold wy wyf hW gW
  rw [show T + M + 1 - (T + 1) = M by omega, show n - (j + 1) = n - 1 - j by omega, bs, Nat.add_mul]
  omega
theorem sT_old {T M n : Nat} : ∀ {k : Nat}, k ≤ n → sT (T + M + 1) n T k = nsm (hW T M n) k + nsm (gW T M n) k
  | 0, _ => rfl
  | k + 1, h => by
    rw [sT_step, sT_old (by omega), wy_old (by omega)]
    show _ = (nsm (hW T M n) k + hW T M n k) + (nsm (gW T M n) k + gW T M n k)
    omega
theorem sT_new {T M n : Nat} : ∀ {k : Nat}, sT (T + M + 1) n (T + 1) (k + 1) = nsm (hW T M n) (k + 1) + nsm (gW T M n) k
  | 0 => by
    rw [sT_step, wy_new0]
    show 0 + _ = (0 + hW T M n 0) + 0
    omega
  | k + 1 => by
    rw [sT_step, sT_new, wy_new]
    show _ = (nsm (hW T M n) (k + 1) + hW T M n (k + 1)) + (nsm (gW T M n) k + gW T M n k)
    omega
theorem sT_fall1 {N n T k : Nat} (h : T + 1 ≤ N) (hk : k ≤ n + 1) : sT N n (T + 1) k ≤ sT N n T k := by
  obtain ⟨M, rfl⟩ : ∃ M, N = T + M + 1 := ⟨N - T - 1, by omega⟩
  by_cases c : k = n + 1
  · subst c
    rw [sT_all (by omega), sT_all (by omega)]
    exact Nat.le_refl _
  · match k, c with
    | 0, _ => exact Nat.le_refl _
    | k + 1, c =>
      rw [sT_new, sT_old (by omega)]
      show _ ≤ _ + (nsm (gW T M n) k + gW T M n k)
      omega
theorem sT_fall {N n k : Nat} (hk : k ≤ n + 1) {T T' : Nat} (h : T ≤ T') (h' : T' ≤ N) : sT N n T' k ≤ sT N n T k := by
  induction T' with
  | zero => have : T = 0 := by omega
            subst this; exact Nat.le_refl _
  | succ T' ih =>
    by_cases c : T = T' + 1
    · subst c; exact Nat.le_refl _
    · exact Nat.le_trans (sT_fall1 h' hk) (ih (by omega) (by omega))
theorem sT_next {N n T k : Nat} (h : T + 1 ≤ N) (hk : k ≤ n) : sT N n T k ≤ sT N n (T + 1) (k + 1) := by
  obtain ⟨M, rfl⟩ : ∃ M, N = T + M + 1 := ⟨N - T - 1, by omega⟩
  rw [sT_new, sT_old hk]
  show _ ≤ (nsm (hW T M n) k + hW T M n k) + _
  omega
theorem sT_none {N n k : Nat} (hn : n ≤ N) : sT N n 0 (k + 1) = binom N n := by
  have e : ∀ k, sT N n 0 (k + 1) = wy N 0 n 0 := by
    intro k
    induction k with
    | zero => show 0 + wy N 0 n 0 = _; omega
    | succ k ih =>
      rw [sT_step, ih]
      have : wy N 0 n (k + 1) = 0 := by unfold wy wyf; rw [blt (by omega)]; simp
      omega
  rw [e]
  unfold wy wyf
  rw [b0, Nat.sub_zero, Nat.sub_zero]
  simp
theorem sT_full {N n k : Nat} (hn : n ≤ N) (hk : k ≤ n) : sT N n N k = 0 := by
  refine nsm_zero fun j hj => ?_
  unfold wy wyf
  rw [Nat.sub_self, blt (show 0 < n - j by omega)]
  simp
noncomputable def hadW (N n s c k T : Nat) : Prop := c < 2 * s * (binom N n - sT N n T k) ∧ c < 2 * s * sT N n T (k + 1)
theorem had_one {N n s c k : Nat} (hn : n ≤ N) (hk : k ≤ n) (hc : c < s * binom N n) : ∃ T, T ≤ N ∧ hadW N n s c k T := by
  have B := bpos hn
  have ex : ∃ T, T ≤ N ∧ c < 2 * s * (binom N n - sT N n T k) ∧ ∀ T', T' < T → ¬ c < 2 * s * (binom N n - sT N n T' k) := by
    have full : c < 2 * s * (binom N n - sT N n N k) := by
      rw [sT_full hn hk, Nat.sub_zero, Nat.mul_assoc]
      omega
    have step : ∀ m, (∃ T, T ≤ m ∧ c < 2 * s * (binom N n - sT N n T k)) → ∃ T, T ≤ m ∧ c < 2 * s * (binom N n - sT N n T k) ∧ ∀ T', T' < T → ¬ c < 2 * s * (binom N n - sT N n T' k) := by
      intro m
      induction m with
      | zero =>
        rintro ⟨T, h, e⟩
        exact ⟨T, h, e, fun T' h' => by omega⟩
      | succ m ih =>
        rintro ⟨T, h, e⟩
        by_cases q : ∃ T, T ≤ m ∧ c < 2 * s * (binom N n - sT N n T k)
        · obtain ⟨T1, a1, a2, a3⟩ := ih q
          exact ⟨T1, by omega, a2, a3⟩
        · refine ⟨T, h, e, fun T' h' z => q ⟨T', by omega, z⟩⟩
    exact step N ⟨N, Nat.le_refl _, full⟩
  obtain ⟨T, hT, e1, e2⟩ := ex
  refine ⟨T, hT, e1, ?_⟩
  match T, hT, e2 with
  | 0, _, _ =>
    rw [sT_none hn, Nat.mul_assoc]
    omega
  | T + 1, hT, e2 =>
    have z := e2 T (by omega)
    have a := sT_next (n := n) (k := k) hT hk
    have d : binom N n - sT N n T k + sT N n T k = binom N n := by
      have := sT_mono (N := N) (n := n) (T := T) (show k ≤ n + 1 by omega)
      rw [sT_all (by omega)] at this
      omega
    have m : 2 * s * (binom N n - sT N n T k) + 2 * s * sT N n T k = 2 * (s * binom N n) := by rw [← Nat.mul_add, d, Nat.mul_assoc]
    have m2 : 2 * s * sT N n T k ≤ 2 * s * sT N n (T + 1) (k + 1) := Nat.mul_le_mul_left _ a
    omega
theorem had_row {N n s c k T1 T2 T : Nat} (hk : k ≤ n) (h1 : T1 ≤ T) (h2 : T ≤ T2) (h3 : T2 ≤ N) (a : hadW N n s c k T1) (b : hadW N n s c k T2) : hadW N n s c k T := by
  have f1 := sT_fall (N := N) (n := n) (k := k) (by omega) h1 (by omega)
  have f2 := sT_fall (N := N) (n := n) (k := k + 1) (by omega) h2 h3
  refine ⟨Nat.lt_of_lt_of_le a.1 (Nat.mul_le_mul_left _ (by omega)), Nat.lt_of_lt_of_le b.2 (Nat.mul_le_mul_left _ f2)⟩
theorem had_low {N n s c k T1 T2 : Nat} (h : k + 1 ≤ n) (hT : T1 ≤ N) (a : hadW N n s c (k + 1) T2) (lst : ∀ T, T < T1 → ¬ hadW N n s c k T) (b : hadW N n s c k T1) (h2 : T2 ≤ N) : T1 ≤ T2 := by
  by_cases q : T1 ≤ T2
  · exact q
  · exfalso
    refine lst T2 (by omega) ⟨?_, ?_⟩
    · refine Nat.lt_of_lt_of_le a.1 (Nat.mul_le_mul_left _ ?_)
      have := sT_mono (N := N) (n := n) (T := T2) (show k ≤ k + 1 by omega)
      omega
    · refine Nat.lt_of_lt_of_le b.2 (Nat.mul_le_mul_left _ ?_)
      exact sT_fall (by omega) (by omega) hT
theorem had_high {N n s c k T1 T2 : Nat} (h : k + 1 ≤ n) (h1 : T1 ≤ N) (a : hadW N n s c k T1) (gst : ∀ T, T2 < T → T ≤ N → ¬ hadW N n s c (k + 1) T) (b : hadW N n s c (k + 1) T2) : T1 ≤ T2 := by
  by_cases q : T1 ≤ T2
  · exact q
  · exfalso
    refine gst T1 (by omega) h1 ⟨?_, ?_⟩
    · refine Nat.lt_of_lt_of_le b.1 (Nat.mul_le_mul_left _ ?_)
      have := sT_fall (N := N) (n := n) (k := k + 1) (by omega) (show T2 ≤ T1 by omega) h1
      omega
    · refine Nat.lt_of_lt_of_le a.2 (Nat.mul_le_mul_left _ ?_)
      exact sT_mono (by omega)
end Ch
set_option maxHeartbeats 4000000
namespace L2
open PySem PySem.Spec PyProof.Rows PySem.W Gc
theorem comp_listRG {K : PySem.W.Frag} {a : Addr} {xs : List V} {te : TE} {st : St} {H1 : Hp} {Q : VK} {D : Addr} (R : Nat → List V → Hp → Prop) (hD : H1 D = none) (q1 : SqL K H1 a xs) (hn : xs.length ≤ sizeLine) (h0 : R 0 [] (upd H1 D (.lst [])))
    (hs : ∀ (i : Nat) (x : V) (ys : List V) (H2 : Hp) (k : VK), xs[i]? = some x → Same H1 H2 → H2 D = some (.lst ys) → ys.length = i → R i ys H2 → (∀ y H4, Same H2 H4 → R (i + 1) (ys ++ [y]) (upd H4 D (.lst (ys ++ [y]))) → k y H4) → te (some x :: st) H2 k)
    (hd : ∀ ys H2, Same H1 H2 → H2 D = some (.lst ys) → ys.length = xs.length → R xs.length ys H2 → Q (.ref D) H2) : CompG (Itl K a) (gName 0) tYes te 1 st D H1 Q := by
  refine ⟨fun i m ys H2 => m = xs.length - i ∧ i ≤ xs.length ∧ ys.length = i ∧ Same H1 H2 ∧ H2 D = some (.lst ys) ∧ R i ys H2, ⟨xs.length, by simp, Nat.zero_le _, rfl, same_upd (Same.refl H1) hD, upd_same, h0⟩, ?_⟩
  rintro i m ys H2 ⟨rfl, hi, hl, sm, e, r⟩
  by_cases hlt : i < xs.length
  · have ex : xs[i]? = some xs[i] := List.getElem?_eq_getElem hlt
    refine .inr ⟨⟨xs, _, sm.seq q1, ex⟩, ?_⟩
    rintro x H3 σ0 ⟨rfl, hx⟩ l0
    have hx' := hx xs (sm.seq q1)
    obtain ⟨a', rfl⟩ : ∃ a, σ0 = [a] := by
      match σ0, l0 with
      | [a], _ => exact ⟨a, rfl⟩
    refine ⟨⟨[some x], rfl, rfl⟩, ?_⟩
    exact hs i x ys _ _ hx' sm e hl r fun y H4 s4 r4 => ⟨s4 _ _ e, by omega, xs.length - (i + 1), by omega, rfl, hlt, by simp [hl], same_upd (sm.trans s4) hD, upd_same, r4⟩
  · have ei : i = xs.length := by omega
    subst ei
    exact .inl ⟨⟨xs, sm.seq q1, Nat.le_refl _⟩, hd ys H2 sm e hl r⟩
end L2
namespace L2
open PySem PySem.Spec PyProof.Rows PySem.W Gc
theorem comp_listMG {α : Type} {K : PySem.W.Frag} {a : Addr} {te : TE} {st : St} {H1 : Hp} {Q : VK} {D : Addr} (ks : List α) (g f : α → V) (hD : H1 D = none) (q1 : SqL K H1 a (ks.map g)) (hn : ks.length ≤ sizeLine)
    (hs : ∀ (x : α) (H2 : Hp) (k : VK), x ∈ ks → Same H1 H2 → (∀ H4, Same H2 H4 → k (f x) H4) → te (some (g x) :: st) H2 k)
    (hd : ∀ H2, Same H1 H2 → H2 D = some (.lst (ks.map f)) → Q (.ref D) H2) : CompG (Itl K a) (gName 0) tYes te 1 st D H1 Q := by
  refine comp_listRG (fun i ys _ => ys = (ks.take i).map f) hD q1 (by rw [List.length_map]; exact hn) (by simp) ?_ ?_
  · rintro i x ys H2 k hx sm e hl r hk
    rw [List.getElem?_map] at hx
    cases ex : ks[i]? with
    | none => rw [ex] at hx; cases hx
    | some y =>
      rw [ex] at hx
      cases hx
      refine hs y H2 k (List.mem_of_getElem? ex) sm fun H4 s4 => hk _ _ s4 ?_
      rw [List.take_add_one, ex, r]
      simp
  · rintro ys H2 sm e hl r
    rw [r, List.length_map, List.take_length] at e
    exact hd H2 sm e
end L2
set_option maxHeartbeats 4000000
namespace L2
open PySem PySem.Spec PyProof.Rows PySem.W Gc
theorem ints_of : ∀ {ns : List Int} {us : List Value}, Vals (ns.map V.int) us → IntsAre us ns
  | [], us, r => by cases r; exact .nil
  | n :: ns, us, r => by
    cases r with
    | cons r1 r2 =>
      obtain ⟨t, rfl⟩ := r1
      exact .cons n t (ints_of r2)
theorem ints_to : ∀ {ns : List Int} {us : List Value}, IntsAre us ns → Vals (ns.map V.int) us
  | _, _, .nil => .nil
  | _, _, .cons n t r => .cons ⟨t, rfl⟩ (ints_to r)
theorem call_sortedI {X : Cx} : CallR X (.builtin "sorted") (fun xs H Q => ∃ (p : Addr) (ns : List Int), xs = [.ref p] ∧ SqL X.K H p (ns.map V.int) ∧ ns.length < 64 ∧
    ∀ (D : Addr) (ms : List Int), H D = none → ms.Perm ns → ms.Pairwise (· ≤ ·) → Q (.ref D) (upd H D (.lst (ms.map V.int)))) := by
  intro pins s σ H xs us Q I r h
  obtain ⟨p, ns, rfl, hq, h64, q⟩ := h
  obtain ⟨u, rfl, rx⟩ := vals1 r
  cases rx
  obtain ⟨its, rv, pl, hz⟩ := I.list hq
  have li : its.length = ns.length := by rw [← rv.length, List.length_map]
  refine sorted_ints pl.isList (ints_of rv) (by omega) fun out ms a1 a2 a3 => ?_
  obtain ⟨e, he⟩ := sortedAll_at s.heap its out
  have hD : H (s.heap.objs.size + 1) = none := I.hok.fresh (Nat.le_succ _)
  refine ⟨.ref (s.heap.objs.size + 1), _, I.laid (t' := s.toks) (fun _ _ => sortedAll_old) (Nat.le_succ _) (show ObjOk X.prog X.w _ _ _ (.lst (ms.map V.int)) from ⟨?_, out.toList, e, ints_to a1, ?_⟩), rfl, q _ ms hD a2 a3⟩
  · rw [List.length_map, a2.length_eq, sizeLine_eq]; omega
  · exact he
section
variable {prog : Program} {w : World} {A : Around} {E : Value → Shared → Prop} {s : Shared}
theorem et_new (a : Addr) (xs : Array Value) (n : Nat) (dc : Option Addr) (sl : Array (Option Value)) :
    Meets (Builtin.«enumerate.__new__» ⟨[.type "enumerate", .ref a], []⟩) (fun _ R s => s.heap.get? a = some { cls := .type "tuple", dict := dc, data := .seq xs n, slots := sl } ∧
      R (.ok (.ret (.ref (zt1 s.heap a).objs.size))) { s with heap := (zt1 s.heap a).push { cls := .type "enumerate", data := .fields #[.none, .bool false, .ref s.heap.objs.size, rawInt 0, .none, .none] } }) :=
  .of_wp fun prog w A R s h => by
    obtain ⟨hp, g, dr, tk, os⟩ := s
    obtain ⟨ha, h⟩ := h
    have sub := sub_enumerate
    have tT : Heap.IsTuple (Shared.heap ⟨hp, g, dr, tk, os⟩) a xs := ⟨_, ha, rfl, n, rfl⟩
    wp_walk using AutoSeq1.wpAny_loadPart' ha
    refine (wpAny_stack_any fun st => wpAny_pure ?_)
    split
    · rename_i c _ _ _ _ _
      cases (c == Value.type "enumerate")
      · wp_walk using AutoSeq1.wpAny_loadPart' ha, wpAny_pyIter_tuple tT
        exact ⟨_, rfl, h⟩
      · wp_walk using AutoSeq1.wpAny_loadPart' ha, wpAny_pyIter_tuple tT
        exact ⟨_, rfl, h⟩
    · wp_walk using AutoSeq1.wpAny_loadPart' ha, wpAny_pyIter_tuple tT
      exact ⟨_, rfl, h⟩
theorem et_call {a : Addr} {xs : Array Value} {Q : Value → Shared → Prop} (hT : s.heap.IsTuple a xs)
    (k : ∀ g, IsEnum g (s.heap.objs.size + 1) s.heap.objs.size 0 .none → g.IsTupleIter s.heap.objs.size a 0 → (∀ c o, s.heap.get? c = some o → g.get? c = some o) → Q (.ref (s.heap.objs.size + 1)) { s with heap := g }) :
    wpAny (model prog w) A (call (.type "enumerate") [.ref a]) Q E s := by
  obtain ⟨⟨c, dc, dt, sl⟩, ha, hc, n, hd⟩ := hT
  replace hc : c = .type "tuple" := hc
  replace hd : dt = .seq xs n := hd
  subst hc hd
  refine callType_new (F.called_enumerate) (by decide) (F.typeCall_enumerate_1 _) (F.newCall_enumerate_1 _) (fun o => F.args_object_init_2 o _) (F.entry_enumerate_new) (et_new a xs n dc sl) ⟨ha, ?_⟩
  have z1 : (zt1 s.heap a).objs.size = s.heap.objs.size + 1 := Heap.size_push ..
  have g2 : ((zt1 s.heap a).push { cls := .type "enumerate", data := .fields #[.none, .bool false, .ref s.heap.objs.size, rawInt 0, .none, .none] }).get? (zt1 s.heap a).objs.size = some _ := Heap.get?_push_size _ rfl
  have g1 : ((zt1 s.heap a).push { cls := .type "enumerate", data := .fields #[.none, .bool false, .ref s.heap.objs.size, rawInt 0, .none, .none] }).get? s.heap.objs.size = some _ := Heap.get?_push_of_some _ (Heap.get?_push_size _ rfl)
  show _ ∧ _
  rw [z1] at g2 ⊢
  exact ⟨⟨_, g2, rfl⟩, k _ g2 ⟨_, g1, rfl, rfl⟩ fun b o x => Heap.get?_push_of_some _ (Heap.get?_push_of_some _ x)⟩
theorem et_next {e it t : Addr} {i : Nat} {xs : Array Value} {v old : Value} {Q : Value → Shared → Prop} (he : IsEnum s.heap e it i old) (hi : s.heap.IsTupleIter it t i) (ht : s.heap.IsTuple t xs) (hv : xs[i]? = some v) (ne : e ≠ it)
    (k : ∀ g, IsEnumOut g e it ((i : Int) + 1) v s.heap.objs.size → g.IsTupleIter it t (i + 1) → g.get? s.heap.objs.size = some { cls := .type "tuple", data := .seq #[.int i s.toks, v] } →
      (∀ b o, b ≠ e → b ≠ it → s.heap.get? b = some o → g.get? b = some o) → Q (.ref s.heap.objs.size) { s with heap := g, toks := s.toks + 1 }) :
    wpAny (model prog w) A (Builtin.«enumerate.__next__» ⟨[.ref e], []⟩) (fun f s' => ∃ r, f = .done (.ret r) ∧ Q r s') E s := by
  obtain ⟨hp, gn, dr, tk, os⟩ := s
  show wpAny _ _ (field (.ref e) 2 >>= _) (_) _ _
  refine (wpAny_bind (wpAny_field he rfl (x := .ref it) rfl ?_))
  refine (wpAny_bind (tnext_item hi ht hv fun g1 i1 s1 => ?_))
  replace s1 : Heap.SameBut it hp g1 := s1
  have e1 : IsEnum g1 e it i old := (s1.2 e ne).trans he
  show wpAny _ _ (field (.ref e) 3 >>= _) (_) _ (⟨g1, gn, dr, tk, os⟩)
  refine (wpAny_bind (wpAny_field e1 rfl (x := rawInt i) rfl ?_))
  show wpAny _ _ (field (.ref e) 4 >>= _) (_) _ (⟨g1, gn, dr, tk, os⟩)
  refine (wpAny_bind (wpAny_field e1 rfl (x := .none) rfl ?_))
  show wpAny _ _ (mkInt i >>= _) (_) _ (⟨g1, gn, dr, tk, os⟩)
  refine (wpAny_bind (wpAny_mkInt ?_))
  show wpAny _ _ (setField (.ref e) 3 (rawInt ((i : Int) + 1)) >>= _) (_) _ (⟨g1, gn, dr, tk + 1, os⟩)
  refine (wpAny_bind (wpAny_setField_rec e1 (by simp) fun g2 e2 s2 => ?_))
  replace s2 : Heap.SameBut e g1 g2 := s2
  replace e2 : IsEnum g2 e it ((i : Int) + 1) old := e2
  show wpAny _ _ (setField (.ref e) 4 .none >>= _) (_) _ (⟨g2, gn, dr, tk + 1, os⟩)
  refine (wpAny_bind (wpAny_setField_rec e2 (by simp) fun g3 e3 s3 => ?_))
  replace s3 : Heap.SameBut e g2 g3 := s3
  replace e3 : IsEnum g3 e it ((i : Int) + 1) old := e3
  show wpAny _ _ (newTuple [.int i tk, v] >>= _) (_) _ (⟨g3, gn, dr, tk + 1, os⟩)
  refine (wpAny_bind (wpAny_newTuple ?_))
  have e4 : IsEnum (g3.push { cls := .type "tuple", data := .seq #[.int i tk, v] }) e it ((i : Int) + 1) old := Heap.get?_push_of_some _ e3
  have z3 : g3.objs.size = hp.objs.size := by rw [s3.1, s2.1, s1.1]
  have t4 : (g3.push { cls := .type "tuple", data := .seq #[.int i tk, v] }).get? g3.objs.size = some { cls := .type "tuple", data := .seq #[.int i tk, v] } := Heap.get?_push_size _ rfl
  have k4 : ∀ b o, b ≠ e → b ≠ it → hp.get? b = some o → (g3.push { cls := .type "tuple", data := .seq #[.int i tk, v] }).get? b = some o := fun b o be bi q =>
    Heap.get?_push_of_some _ (s3.extBut b o be (s2.extBut b o be (s1.extBut b o bi q)))
  have i4 : (g3.push { cls := .type "tuple", data := .seq #[.int i tk, v] }).IsTupleIter it t (i + 1) :=
    ((i1.extBut s2.extBut ne.symm).extBut s3.extBut ne.symm).at fun o q => Heap.get?_push_of_some _ q
  rw [z3] at t4
  have lt : e < hp.objs.size := Heap.lt_size he
  rw [z3]
  generalize g3.push { cls := .type "tuple", data := .seq #[.int i tk, v] } = g4 at *
  show wpAny _ _ (Builtin.SmallTypes.ownedTupleIsFree (.ref e) >>= _) (_) _ (⟨g4, gn, dr, tk + 1, os⟩)
  refine (wpAny_bind ?_)
  unfold Builtin.SmallTypes.ownedTupleIsFree
  refine (wpAny_bind (wpAny_field e4 rfl (x := .none) rfl (wpAny_pure ?_)))
  simp only [if_true]
  refine (wpAny_bind (wpAny_rule ?_))
  refine (wpAny_bind (wpAny_field e4 rfl (x := old) rfl ?_))
  refine (wpAny_bind (wpAny_setField_rec e4 (by simp) fun g5 e5 s5 => ?_))
  replace s5 : Heap.SameBut e g4 g5 := s5
  replace e5 : IsEnum g5 e it ((i : Int) + 1) v := e5
  show wpAny _ _ (Builtin.SmallTypes.ownedTupleHandOut (.ref e) (.ref hp.objs.size) >>= _) (_) _ (⟨g5, gn, dr, tk + 1, os⟩)
  refine (wpAny_bind ?_)
  unfold Builtin.SmallTypes.ownedTupleHandOut
  refine (wpAny_bind (wpAny_setField_rec e5 (by simp) fun g6 e6 s6 => ?_))
  replace s6 : Heap.SameBut e g5 g6 := s6
  replace e6 : IsEnumOut g6 e it ((i : Int) + 1) v hp.objs.size := e6
  refine wpAny_setField_rec e6 (by simp) fun g7 e7 s7 => ?_
  replace s7 : Heap.SameBut e g6 g7 := s7
  replace e7 : IsEnumOut g7 e it ((i : Int) + 1) v hp.objs.size := e7
  have up : ∀ b o, b ≠ e → g4.get? b = some o → g7.get? b = some o := fun b o nb q => s7.extBut b o nb (s6.extBut b o nb (s5.extBut b o nb q))
  refine (wpAny_bind (wpAny_letGo (wpAny_pure ⟨_, rfl, k g7 e7 (i4.at fun o q => up _ o ne.symm q) (up _ _ (Nat.ne_of_gt lt) t4) fun b o be bi q => up b o be (k4 b o be bi q)⟩)))
theorem et_pyNext {e it t : Addr} {i : Nat} {xs : Array Value} {v old : Value} {Q : Option Value → Shared → Prop} (he : IsEnum s.heap e it i old) (hi : s.heap.IsTupleIter it t i) (ht : s.heap.IsTuple t xs) (hv : xs[i]? = some v) (ne : e ≠ it)
    (k : ∀ g, IsEnumOut g e it ((i : Int) + 1) v s.heap.objs.size → g.IsTupleIter it t (i + 1) → g.get? s.heap.objs.size = some { cls := .type "tuple", data := .seq #[.int i s.toks, v] } →
      (∀ b o, b ≠ e → b ≠ it → s.heap.get? b = some o → g.get? b = some o) → Q (some (.ref s.heap.objs.size)) { s with heap := g, toks := s.toks + 1 }) : wpAny (model prog w) A (pyNext (.ref e)) Q E s := by
  have ty : s.TypeIs (.ref e) "enumerate" := ⟨_, he, rfl⟩
  unfold pyNext
  exact (wpAny_bind (wpAny_attempt (wpAny_callSpecial?_slot (name := Str.ofString "__next__") ty F.slot_enumerate_next (wpAny_call_entry F.slot_enumerate_next ty F.entry_enumerate_next (et_next he hi ht hv ne fun g a1 a2 a3 a4 => wpAny_pure (k g a1 a2 a3 a4)) (F.args_enumerate_next_1 _)))))
theorem et_pyEnd {e it t : Addr} {i : Nat} {xs : Array Value} {old : Value} {Q : Option Value → Shared → Prop} (hh : A.handled = none) (he : IsEnum s.heap e it i old) (hi : s.heap.IsTupleIter it t i) (ht : s.heap.IsTuple t xs) (hv : xs[i]? = none)
    (k : ∀ g, Heap.ExtBut it s.heap g → Q none { s with heap := g }) : wpAny (model prog w) A (pyNext (.ref e)) Q E s := by
  have ty : s.TypeIs (.ref e) "enumerate" := ⟨_, he, rfl⟩
  unfold pyNext
  refine (wpAny_bind (wpAny_attempt (wpAny_callSpecial?_slot (name := Str.ofString "__next__") ty F.slot_enumerate_next (wpAny_call_entry F.slot_enumerate_next ty F.entry_enumerate_next ?_ (F.args_enumerate_next_1 _)))))
  show wpAny _ _ (field (.ref e) 2 >>= _) (_) _ _
  refine (wpAny_bind (wpAny_field he rfl (x := .ref it) rfl ?_))
  refine (wpAny_bind (tnext_end hh hi ht hv fun g x hk hs => ?_))
  obtain ⟨o, ho, hc⟩ := hs
  refine (wpAny_bind (wpAny_isInstance (T := "StopIteration") (b := true) ⟨o, ho, hc⟩ isSubtype_stop ?_))
  exact wpAny_pure (k _ hk)
end
noncomputable def Ite (K : PySem.W.Frag) (t : Addr) : It :=
  ⟨fun i H => ∃ xs x, SqT K H t xs ∧ xs[i]? = some x,
   fun i H v H' => ∃ T x, H T = none ∧ H' = upd H T (.tup [.int (i : Int), x]) ∧ v = .ref T ∧ ∀ xs, SqT K H t xs → xs[i]? = some x,
   fun i H => ∃ xs, SqT K H t xs ∧ xs.length ≤ i⟩
noncomputable def ESt (e it t : Addr) (i : Nat) (h : Heap) : Prop := (∃ old, IsEnum h e it i old) ∧ h.IsTupleIter it t i
theorem turn_enumT {P : Program} {w : World} {K : PySem.W.Frag} {es : List Expr} {k0 : Nat} {p0 : Pos} {e it t : Addr} (ne : e ≠ it) : Turn P w K (.Tuple es k0 p0) (Ite K t) [e, it] e (ESt e it t) where
  mem := by simp
  obj := fun i h ⟨⟨old, a⟩, d⟩ x hx => by
    simp only [List.mem_cons, List.not_mem_nil, or_false] at hx
    rcases hx with rfl | rfl
    · exact ⟨_, a, fun v q => by cases q⟩
    · obtain ⟨o, e1, _, e2⟩ := d
      exact ⟨o, e1, fun v q => by rw [e2] at q; cases q⟩
  keep := fun i h h' ⟨⟨old, a⟩, d⟩ kk => ⟨⟨old, kk _ (by simp) _ a⟩, d.at fun o q => kk _ (by simp) o q⟩
  item := by
    intro X hP hw hK hc i pins s σ H E I hf st hg
    subst hP hw hK
    obtain ⟨⟨old, a⟩, d⟩ := st
    obtain ⟨xs, x, q1, x1⟩ := hg
    obtain ⟨its, rv, pl, hz⟩ := I.tuple q1
    obtain ⟨u, hu, ru⟩ := rv.get x1
    refine et_pyNext a d (show s.heap.IsTuple t its.toArray from pl) (v := u) (by simpa using hu) ne fun h' za zc zt zk => ?_
    refine ⟨_, rfl, wpAny_letOwnedTupleGo_enum (s := { s with heap := h', toks := s.toks + 1 }) za fun h2 za2 sb => ?_⟩
    have kk : ∀ b o, b ∉ [e, it] → s.heap.get? b = some o → h2.get? b = some o := fun b o hb q => by
      simp only [List.mem_cons, List.not_mem_nil, or_false, not_or] at hb
      exact (sb.2 b hb.1).trans (zk b o hb.1 hb.2 q)
    have sze : s.heap.objs.size ≠ e := fun q => absurd (Heap.lt_size a) (by rw [← q]; exact Nat.lt_irrefl _)
    have hT : h2.get? s.heap.objs.size = some { cls := .type "tuple", data := .seq #[.int i s.toks, u] } := (sb.2 _ sze).trans zt
    have fr : H s.heap.objs.size = none := I.hok.fresh (Nat.le_refl _)
    have I2 : Inv X pins σ (upd H s.heap.objs.size (.tup [.int (i : Int), x])) { s with heap := h2, toks := s.toks + 1 } := I.turnLay (t' := s.toks + 1) (fp := [e, it]) kk hf (Nat.le_refl _)
      ⟨by show 2 ≤ sizeLine; decide, [.int i s.toks, u], .cons ⟨_, rfl⟩ (.cons ru .nil), ⟨_, hT, rfl, _, rfl⟩⟩
    refine ⟨.ref s.heap.objs.size, _, I2, rfl, ⟨_, x, fr, rfl, rfl, fun zs hz => by rw [I.tuple_inj hz q1]; exact x1⟩, ⟨⟨_, za2⟩, zc.at fun o q => (sb.2 _ ne.symm).trans q⟩, fun b hb => ?_⟩
    have h0 := (hf b hb).1
    have hlt : b ≠ s.heap.objs.size := fun q => by
      subst q
      simp only [List.mem_cons, List.not_mem_nil, or_false] at hb
      rcases hb with q | q
      · exact sze q
      · obtain ⟨o, e1, _⟩ := d
        exact absurd (Heap.lt_size e1) (by rw [← q]; exact Nat.lt_irrefl _)
    rw [upd_ne hlt]
    exact h0
  done := by
    intro X hP hw hK hc i pins s σ H E I hf st hg
    subst hP hw hK
    obtain ⟨⟨old, a⟩, d⟩ := st
    obtain ⟨xs, q1, hl⟩ := hg
    obtain ⟨its, rv, pl, hz⟩ := I.tuple q1
    have g1 := rv.length
    refine et_pyEnd (I.ok.hd hc) a d (show s.heap.IsTuple t its.toArray from pl) (by simp; omega) fun h' zk => ⟨rfl, I.turnedL (t' := s.toks) (fp := [e, it]) (fun b o hb q => ?_) hf⟩
    simp only [List.mem_cons, List.not_mem_nil, or_false, not_or] at hb
    exact zk b o hb.2 q
  self := fun _ _ _ _ _ st h => by
    obtain ⟨⟨old, a⟩, _⟩ := st
    exact wpAny_pyIter_enum a h
noncomputable def iEnum (K : PySem.W.Frag) (ta : TA) : TI := fun σ H R => ta σ H fun vs H1 => ∃ a, vs = [.ref a] ∧ (∃ xs, SqT K H1 a xs) ∧ R (Ite K a) H1
theorem pi_enumT {X : Cx} {es : List Expr} {k0 : Nat} {p0 : Pos} {a : Expr} {ta : TA} {p pos : Pos} (hg : Gl X "enumerate") (hm : X.mg "enumerate" = none) (ha : PA X [a] ta) (hs : starEach [a] X.env = (false, eval a X.env) :: starEach [] X.env := by rfl) :
    PI X (.Tuple es k0 p0) (.Call (.Name "enumerate" p) [a] [] pos) (iEnum X.K ta) := by
  intro pins s σ H R I h
  refine Call_ (ld_blt I hg hm boot_enumerate (PyProof.Rows.callWith_type1 (thn (ha pos pins s σ H _ I h) fun us s1 ⟨vs, H1, I1, r1, q1⟩ => ?_) hs rfl))
  obtain ⟨l1, e, ⟨xs, q1⟩, q⟩ := q1
  subst e
  cases r1 with
  | cons r rr =>
    cases rr
    cases r
    obtain ⟨its, rv, pl, hz⟩ := I1.tuple q1
    have T1 : s1.heap.IsTuple l1 its.toArray := pl
    refine et_call T1 fun h' za zb zk => ?_
    refine wpAny_pyIter_enum (s := { s1 with heap := h' }) za ?_
    have I2 : Inv X pins σ H1 { s1 with heap := h' } := I1.kept (t' := s1.toks) fun b o e => zk b o e
    refine ⟨_, [_, _], _, _, H1, rfl, I2, turn_enumT (e := s1.heap.objs.size + 1) (it := s1.heap.objs.size) (t := l1) (Nat.succ_ne_self _), ⟨⟨_, za⟩, zb⟩, fun b hb => ?_, q⟩
    simp only [List.mem_cons, List.not_mem_nil, or_false] at hb
    have ge : s1.heap.objs.size ≤ b := by rcases hb with z | z <;> (subst z; first | exact Nat.le_add_right _ _ | exact Nat.le_refl _)
    exact I1.fpOk ge (I1.hok.fresh ge)
theorem comp_enumF {K : PySem.W.Frag} {a : Addr} {xs : List V} {te : TE} {tt : TT} {st : St} {H1 : Hp} {Q : VK} {D : Addr} (c : Nat → Bool) (f : Nat → V) (hD : H1 D = none) (q1 : SqT K H1 a xs) (hn : xs.length ≤ sizeLine)
    (ht : ∀ (i : Nat) (x : V) (H2 : Hp) (k : Bool → Hp → Prop), xs[i]? = some x → Same H1 H2 → (∀ H4, Same H2 H4 → k (c i) H4) → tt (some (.int (i : Int)) :: some x :: st) H2 k)
    (hs : ∀ (i : Nat) (x : V) (H2 : Hp) (k : VK), xs[i]? = some x → c i = true → Same H1 H2 → (∀ H4, Same H2 H4 → k (f i) H4) → te (some (.int (i : Int)) :: some x :: st) H2 k)
    (hd : ∀ H2, Same H1 H2 → H2 D = some (.lst (((List.range xs.length).filter c).map f)) → Q (.ref D) H2) : CompG (Ite K a) (gTup K 2 (gCons (gName 0) (gCons (gName 1) gNil))) tt te 2 st D H1 Q := by
  refine ⟨fun i m ys H2 => m = xs.length - i ∧ i ≤ xs.length ∧ ys = ((List.range i).filter c).map f ∧ Same H1 H2 ∧ H2 D = some (.lst ys), ⟨xs.length, by simp, Nat.zero_le _, by simp, same_upd (Same.refl H1) hD, upd_same⟩, ?_⟩
  rintro i m ys H2 ⟨rfl, hi, rfl, sm, e⟩
  by_cases hlt : i < xs.length
  · have ex : xs[i]? = some xs[i] := List.getElem?_eq_getElem hlt
    refine .inr ⟨⟨xs, _, sm.tup q1, ex⟩, ?_⟩
    rintro x H3 σ0 ⟨T, y, hT, rfl, rfl, hx⟩ l0
    have hy := hx xs (sm.tup q1)
    obtain ⟨a', b', rfl⟩ : ∃ a b, σ0 = [a, b] := by
      match σ0, l0 with
      | [a, b], _ => exact ⟨a, b, rfl⟩
    have sT := same_new hT (.tup [.int (i : Int), y])
    have ll : (((List.range i).filter c).map f).length ≤ i := by
      rw [List.length_map]
      exact Nat.le_trans (List.length_filter_le _ _) (by rw [List.length_range]; exact Nat.le_refl _)
    refine ⟨T, [.int (i : Int), y], rfl, SqT.of upd_same, rfl, .int (i : Int), [y], rfl, y, [], rfl, rfl, ⟨[some (.int (i : Int)), some y], rfl, rfl⟩, ?_⟩
    refine ht i y _ _ hy (sm.trans sT) fun H4 s4 => ?_
    have e4 := s4 _ _ (sT _ _ e)
    cases ec : c i with
    | true =>
      rw [if_pos rfl]
      refine hs i y H4 _ hy ec ((sm.trans sT).trans s4) fun H5 s5 => ⟨s5 _ _ e4, by omega, xs.length - (i + 1), by omega, rfl, hlt, ?_, same_upd (((sm.trans sT).trans s4).trans s5) hD, upd_same⟩
      rw [List.range_succ, List.filter_append, List.map_append, List.filter_cons, ec]
      rfl
    | false =>
      rw [if_neg (by simp)]
      refine ⟨xs.length - (i + 1), by omega, rfl, hlt, ?_, (sm.trans sT).trans s4, ?_⟩
      · rw [List.range_succ, List.filter_append, List.map_append, List.filter_cons, ec]
        simp
      · exact e4
  · have ei : i = xs.length := by omega
    subst ei
    exact .inl ⟨⟨xs, sm.tup q1, Nat.le_refl _⟩, hd H2 sm e⟩
section
variable {X : Cx} {a b c d : Expr} {ta tb tc td : TE} {pos : Pos}
noncomputable def tChain3 (r r' r'' : R2) (ta tb tc td : TE) : TT := fun σ H Q => ta σ H fun x H1 => tb σ H1 fun y H2 => r x y H2 fun z H3 => ∃ k, z = .bl k ∧
  (if k = true then tc σ H3 fun y' H4 => r' y y' H4 fun z2 H5 => ∃ k2, z2 = .bl k2 ∧ (if k2 = true then td σ H5 fun y'' H6 => r'' y' y'' H6 fun z3 H7 => ∃ k3, z3 = .bl k3 ∧ Q k3 H7 else Q false H5) else Q false H3)
theorem pt_chain3 {op op' op'' : CmpOp} {r r' r'' : R2} (ho : OpR X (compareOp op) r) (ho' : OpR X (compareOp op') r') (ho'' : OpR X (compareOp op'') r'') (ha : PE X a ta) (hb : PE X b tb) (hc : PE X c tc) (hd : PE X d td)
    (hm : lastMarks [op, op', op''] [b, c, d] = false := by with_unfolding_all rfl) : PT X (.Compare a [op, op', op''] [b, c, d] pos) (tChain3 r r' r'' ta tb tc td) := by
  intro pins s σ H Q I h
  refine isTrue_chain (thn (ha pins s σ H _ I h) fun v s1 ⟨x, H1, I1, r1, q1⟩ => test_link (thn (hb pins s1 σ H1 _ I1 q1) fun u s2 ⟨y, H2, I2, r2, q2⟩ =>
    thn (ho pins s2 σ H2 x y v u _ I2 r1 r2 q2) fun d0 s3 ⟨z, H3, I3, r3, k, e, q3⟩ => ?_)) hm
  subst e
  cases r3
  refine wpAny_truthy_bool ?_
  cases k with
  | false => exact ite_ff ⟨H3, I3, q3⟩
  | true =>
    refine ite_tt (test_link (thn (hc pins s3 σ H3 _ I3 q3) fun w' s4 ⟨z', H4, I4, r4, q4⟩ => thn (ho' pins s4 σ H4 y z' u w' _ I4 r2 r4 q4) fun d' s5 ⟨z2, H5, I5, r5, k2, e2, q5⟩ => ?_))
    subst e2
    cases r5
    refine wpAny_truthy_bool ?_
    cases k2 with
    | false => exact ite_ff ⟨H5, I5, q5⟩
    | true =>
      refine ite_tt (test_last (thn (hd pins s5 σ H5 _ I5 q5) fun w'' s6 ⟨z'', H6, I6, r6, q6⟩ => thn (ho'' pins s6 σ H6 z' z'' w' w'' _ I6 r4 r6 q6) fun d'' s7 ⟨z3, H7, I7, r7, k3, e3, q7⟩ => ?_))
      subst e3
      cases r7
      exact wpAny_truthy_bool ⟨H7, I7, q7⟩
end
theorem sub4 {cs : List (Str × Addr)} {x1 x2 x3 x4 : Str} {c1 c2 c3 c4 : Addr} (h1 : cs.lookup x1 = some c1) (h2 : cs.lookup x2 = some c2) (h3 : cs.lookup x3 = some c3) (h4 : cs.lookup x4 = some c4) : ∀ (y : Str) (c : Addr), List.lookup y [(x1, c1), (x2, c2), (x3, c3), (x4, c4)] = some c → cs.lookup y = some c :=
  subL fun p hp => by
    simp only [List.mem_cons, List.not_mem_nil, or_false] at hp
    rcases hp with rfl | rfl | rfl | rfl <;> assumption
theorem sub5 {cs : List (Str × Addr)} {x1 x2 x3 x4 x5 : Str} {c1 c2 c3 c4 c5 : Addr} (h1 : cs.lookup x1 = some c1) (h2 : cs.lookup x2 = some c2) (h3 : cs.lookup x3 = some c3) (h4 : cs.lookup x4 = some c4) (h5 : cs.lookup x5 = some c5) : ∀ (y : Str) (c : Addr), List.lookup y [(x1, c1), (x2, c2), (x3, c3), (x4, c4), (x5, c5)] = some c → cs.lookup y = some c :=
  subL fun p hp => by
    simp only [List.mem_cons, List.not_mem_nil, or_false] at hp
    rcases hp with rfl | rfl | rfl | rfl | rfl <;> assumption
end L2
set_option maxHeartbeats 4000000
namespace L2
open PySem PySem.Spec PyProof.Rows PySem.W Gc
section
variable {X : Cx}
noncomputable def tListR1 (ta : TA) : TE := fun σ H Q => ta σ H fun vs H1 => ∃ j : Int, vs = [.int j] ∧ (0 ≤ j ∧ j ≤ 1000) ∧ ∀ l, H1 l = none → Q (.ref l) (upd H1 l (.lst ((List.range j.toNat).map fun (m : Nat) => V.int (m : Int))))
theorem pe_listR1 {b : Expr} {ta : TA} {p p' pos pos' : Pos} (hc : X.calm = true) (hg : Gl X "list") (hm : X.mg "list" = none) (hv : bootBuiltins "list" = some (.type "list")) (hg' : Gl X "range") (hm' : X.mg "range" = none) (ha : PA X [b] ta)
    (hs : starEach [b] X.env = [(false, eval b X.env)] := by rfl)
    (he : starEach [.Call (.Name "range" p') [b] [] pos'] X.env = [(false, eval (.Call (.Name "range" p') [b] [] pos') X.env)] := by rfl) (he2 : starEach [] X.env = [] := by rfl) :
    PE X (.Call (.Name "list" p) [.Call (.Name "range" p') [b] [] pos'] [] pos) (tListR1 ta) := by
  intro pins s σ H Q I h
  refine wpAny_Call_Name_kw (ld_blt I hg hm hv ?_ (by decide) (by decide))
  refine (PyProof.Rows.callWith_type1 ?_ (by rw [he, he2]) (by rw [he2]; rfl))
  rw [he]
  show wpAny _ _ (spliced ((false, eval _ X.env) :: backTo pos [])) (_) _ s
  refine (Calls.spliced_cons ?_)
  refine Call_ (ld_blt I hg' hm' boot_range (PyProof.Rows.callWith_type1 (thn (ha pos' pins s σ H _ I h) fun us s1 ⟨vs, H1, I1, r1, q1⟩ => ?_) (by rw [hs, he2]) (by rw [he2]; rfl)))
  obtain ⟨j, e, ⟨q1, q2⟩, q⟩ := q1
  subst e
  cases r1 with
  | cons r rr =>
    cases rr
    obtain ⟨t, rfl⟩ := r
    refine call_range_1 ?_
    refine (Calls.spliced_nil ?_)
    refine call_list_range (n := j.toNat) (I1.ok.hd hc) (IsRange.new ..) (small_one (by omega) (by omega) (by omega) (by omega)) (by rw [rangeSize_one]; split <;> omega) (by omega) fun h' tk acc c kp hS hit => ?_
    obtain ⟨us⟩ := acc
    obtain ⟨hz, hi⟩ := hit
    have hz' : us.length = j.toNat := by simpa using hz
    have ge : s1.heap.objs.size ≤ (s1.heap.push { cls := .type "range", data := .fields #[.int 0 s1.toks, .int j t, .int 1 (s1.toks + 1)] }).objs.size := by rw [Heap.size_push]; omega
    have rv := vals_range (i := 0) hz' fun m v hv => hi m v (by simpa using hv)
    have ef : (fun (m : Nat) => V.int ((0 : Int) + (m : Int))) = fun (m : Nat) => V.int (m : Int) := by
      funext m
      rw [Int.zero_add]
    rw [ef] at rv
    have big : ((List.range j.toNat).map fun (m : Nat) => V.int (m : Int)).length ≤ sizeLine := Nat.le_trans (show _ ≤ 1000 by simp; omega) (by decide)
    exact ⟨.ref _, _, I1.laid (t' := tk) (fun b o e => kp b o (Heap.get?_push_of_some _ e)) ge (show ObjOk X.prog X.w _ h' _ (.lst _) from ⟨big, us, c, rv, hS⟩), rfl, q _ (I1.hok.fresh ge)⟩
end
end L2
set_option maxHeartbeats 4000000
namespace L2
open PySem PySem.Spec PyProof.Rows PySem.W Gc
section
end
section
variable {prog : Program} {w : World} {A : Around} {E : Value → Shared → Prop} {s : Shared}
end
section
variable {prog : Program} {w : World} {A : Around} {E : Value → Shared → Prop} {s : Shared}
end
end L2
set_option maxHeartbeats 4000000
namespace L2
open PySem PySem.Spec PyProof.Rows
theorem compLoop_ifsX {prog : Program} {w : World} {A : Around} {R : Result → Shared → Prop} {s : Shared} {elt tg iter : Expr} {ifs : List Expr} {scope : Scope} {pos : Pos} {it acc : Value} {env : Env} (Iv : Nat → Shared → Prop)
    (turn : ∀ k s, Iv k s → wpAny (model prog w) A (pyNext it) (fun r s1 => match r with
      | none => R (.ok .next) s1
      | some v => wpAny (model prog w) A (letOwnedTupleGo tg it v) (fun _ s2 => wpAny (model prog w) A (assign tg env v) (fun _ s3 => wpAny (model prog w) A (testsOf ifs env) (fun b s4 => if b = true then
          wpAny (model prog w) A (eval elt env) (fun y s5 => wpAny (model prog w) A (call (.builtin "list.append") [acc, y]) (fun _ s6 => ∃ m, m < k ∧ Iv m s6) (fun _ _ => False) s5) (notedBy (model prog w) A env fun e s' => R (.error e) s') s4
          else ∃ m, m < k ∧ Iv m s4) (fun _ _ => False) s3) (fun _ _ => False) s2) (fun _ _ => False) s1) (fun _ _ => False) s)
    (k : Nat) (h : Iv k s) : codeAny (model prog w) A (.compLoop (.ListComp elt [⟨tg, iter, ifs, 0⟩] scope pos) 0 it acc env) R s := by
  refine codeAny_loop rfl Iv (fun k s hI => ?_) k h
  show wpAny _ _ ((compTurn (.ListComp elt [⟨tg, iter, ifs, 0⟩] scope pos) 0 it acc env).onRaise (fun e => do noteFrame e env; theTreesLotGoes e)) _ _ s
  refine wpAny_noted ?_
  rw [compTurn_ifs]
  refine wpAny_bind (wpAny_standAt (wpAny_bind (wpAny_mono (turn k s hI) (fun r s1 h1 => ?_) fun _ _ f => f.elim)))
  cases r with
  | none => exact wpAny_pure h1
  | some v =>
    refine wpAny_bind (wpAny_mono h1 (fun _ s2 h2 => wpAny_bind (wpAny_mono h2 (fun _ s3 h3 => wpAny_bind (wpAny_mono h3 (fun b s4 h4 => ?_) fun _ _ f => f.elim)) fun _ _ f => f.elim)) fun _ _ f => f.elim)
    cases b with
    | true =>
      rw [if_pos rfl] at h4 ⊢
      exact wpAny_bind (wpAny_mono h4 (fun y s5 h5 => wpAny_bind (wpAny_mono h5 (fun _ s6 h6 => wpAny_pure ⟨rfl, h6⟩) fun _ _ f => f.elim)) fun _ _ f => f)
    | false =>
      rw [if_neg Bool.false_ne_true] at h4 ⊢
      exact wpAny_pure ⟨rfl, h4⟩
noncomputable def postX (M : Model) (A : Around) (E : Value → Shared → Prop) (Q : Value → Shared → Prop) (acc : Value) (cenv : Env) : Result → Shared → Prop
  | .ok _, s' => ∃ m, s'.heap.Ns cenv.locals m ∧ ∀ h', Heap.SameBut cenv.locals s'.heap h' → Q acc { s' with heap := h' }
  | .error x, s' => ∃ m, s'.heap.Ns cenv.locals m ∧ ∀ h', Heap.SameBut cenv.locals s'.heap h' → wpAny M A (passOn "comprehension.variables-let-go" x cenv : Sem Value) (fun _ _ => False) E { s' with heap := h' }
theorem comp_freeX {M : Model} {A : Around} {E : Value → Shared → Prop} {s : Shared} {env : Env} {e : Expr} {scope : Scope} {pos : Pos} {newAcc first : Sem Value} {g : Comprehension} {gs : List Comprehension} {cl : List (Str × Addr)} {Q : Value → Shared → Prop}
    (hcl : clausesOf e = g :: gs) (hs : ∀ x, foldedSetIterable g.iter env x = pure x) (hclos : closureFor scope env = pure cl)
    (hkind : scope.kind = .function) (hnames : ∀ x ∈ scope.names, x.2 = .local → scope.names.lookup x.1 = some .local)
    (h : wpAny M A first (fun x s₁ => wpAny M A (pyIter x) (fun it s₂ => wpAny M A newAcc (fun acc s₃ =>
      wpAny M A (newFunctionEnv scope env.globals cl [] env.qual none .none (some env)) (fun cenv s₄ =>
        codeAny M A (.compStart e 0 it acc { cenv with scope := relabel scope env }) (postX M A E Q acc { cenv with scope := relabel scope env }) s₄) E s₃) E s₂) E s₁) E s) :
    wpAny M A (comprehension e scope env pos newAcc false first none) Q E s := by
  unfold comprehension
  rw [hclos, hcl]
  have same : ∀ {α : Type} {m : Sem α} {P P' : α → Shared → Prop} {t : Shared}, wpAny M A m P E t → (∀ a t', P a t' → P' a t') → wpAny M A m P' E t := fun h1 h2 => wpAny_mono h1 h2 fun _ _ y => y
  refine wpAny_bind (same h fun x s₁ h₁ => wpAny_bind (wpAny_standAt (wpAny_bind (wpAny_of_eq (hs x) (wpAny_bind (wpAny_holding (same h₁ fun it s₂ h₂ =>
    wpAny_standIf (wpAny_bind (same h₂ fun acc s₃ h₃ => wpAny_bind (wpAny_pure (wpAny_bind (same h₃ fun cenv s₄ h₄ => ?_))))))))))))
  dsimp only
  have hv : ∀ x ∈ (scope.names.filter fun x => (x.2 == .local || x.2 == .cell) && x.1 != (".0" : Str)).reverse, x.2 = .local →
      Env.kindOf { cenv with scope := relabel scope env } x.1 = some .local := fun x hx hl => lookup_relabel_local (hnames x (List.mem_filter.mp (List.mem_reverse.mp hx)).1 hl)
  refine wpAny_holding (wpAny_bind (wpAny_attempt (wpAny_holding (wpAny_run (codeAny_mono h₄ fun r s' hr => ?_)))))
  cases r with
  | ok f =>
    obtain ⟨m, hn, hr⟩ := hr
    exact wpAny_bind (wpAny_holding (wpAny_comp_letGo (cenv := { cenv with scope := relabel scope env }) hkind _ s' m hv hn fun h' _ _ z => wpAny_pure (hr h' z)))
  | error x =>
    obtain ⟨m, hn, hr⟩ := hr
    exact wpAny_bind (wpAny_holding (wpAny_comp_letGo (cenv := { cenv with scope := relabel scope env }) hkind _ s' m hv hn fun h' _ _ z => wpAny_mono (hr h' z) (fun _ _ f => f.elim) fun _ _ y => y))
section
variable {M : Model} {A : Around} {E : Value → Shared → Prop} {s : Shared} {B : Heap} {l : List Env} {e L : Addr} {cls a0 : Value}
theorem setFlight_held {Q : Unit → Shared → Prop} (x : Heap.HeldW B l e cls a0 L s.heap) (h : ∀ h', Heap.HeldW B l e cls a0 L h' → s.heap.UpToSlots h' → Q () { s with heap := h' }) :
    wpAny M A (setFlight (.ref e) (some L)) Q E s := by
  obtain ⟨st, en, ff, oe, vs, T, oT, ts, he, hc, hd, h1, nT, Te, hT, hdT, h3⟩ := x
  have sz := (Array.getElem?_eq_some_iff.mp h3).1
  have oth : ∀ b, b ≠ T → (s.heap.update T (Obj.mapFields (·.setIfInBounds 3 ((some L).elim Value.none fun f => rawInt f)))).get? b = s.heap.get? b := fun b hb => Heap.get?_update_other _ _ (Ne.symm hb)
  have nr : ∀ b o, s.heap.get? b = some o → (∀ vs, o.data ≠ .fields vs) → b ≠ T := fun b o hb hnf q => by
    rw [q, hT] at hb; cases hb; exact hnf ts hdT
  unfold setFlight
  refine wpAny_bind (wpAny_field he hd h1 ?_)
  rw [if_pos (show (Value.ref T != Value.none) = true from by simp)]
  refine wpAny_setField hT hdT sz (h _ ⟨fun b o z => (oth b fun q => by rw [q, nT] at z; cases z).trans (st b o z), en, ff.of_keeps fun b o hb hnf => ⟨o, (oth b (nr b o hb hnf)).trans hb, rfl⟩, ?_⟩ fun b o hb hnf => ⟨o.slots, (oth b (nr b o hb hnf)).trans hb⟩)
  exact ⟨oe, vs, T, _, _, (oth e (Ne.symm Te)).trans he, hc, hd, h1, nT, Te, Heap.get?_update_self _ hT (Obj.isFreed_of_fields (Obj.data_mapFields hdT _)), Obj.data_mapFields hdT _, by simp [sz]⟩
theorem pass_held {α : Type} {what : String} {cenv : Env} {Q : α → Shared → Prop} (hf : cenv.frame = some L) (x : Heap.HeldW B l e cls a0 L s.heap) (h : ∀ h', Heap.HeldW B l e cls a0 L h' → s.heap.UpToSlots h' → E (.ref e) { s with heap := h' }) :
    wpAny M A (passOn what (.ref e) cenv : Sem α) Q E s := by
  have y := x
  obtain ⟨st, en, ff, oe, vs, T, oT, ts, he, hc, hd, h1, nT, Te, hT, hdT, h3⟩ := y
  unfold PySem.passOn
  refine wpAny_bind (wpAny_field he hd h1 ?_)
  rw [if_neg (show ¬ ((Value.ref T == Value.none) = true) from by simp), hf]
  exact wpAny_bind (setFlight_held x fun h' y up => wpAny_throw (h h' y up))
theorem leave_held {env : Env} {outer : List Env} {Q : Unit → Shared → Prop} (hf : env.frame = some L) (x : Heap.HeldW B (env :: outer) e cls a0 L s.heap)
    (h : ∀ h', Heap.FlyingW B outer e cls a0 h' → s.heap.UpToSlots h' → Q () { s with heap := h' }) : wpAny M A (leaving env (.ref e)) Q E s := by
  unfold leaving
  refine wpAny_bind (wpAny_noteFrame_againW hf x.2.2.2 (wpAny_landsW x fun h' fl up => ?_))
  obtain ⟨k1, k2, ⟨_, _, k3⟩, k4⟩ := fl
  exact h h' ⟨k1, k2, k3, k4⟩ up
end
theorem funFrames_but {h h' B : Heap} {C : Addr} (k : Heap.SameBut C h h') : ∀ {l : List Env}, C ∉ frs l → h.FunFrames B l → h'.FunFrames B l
  | [], _, _ => trivial
  | env :: l, hC, ⟨hk, ⟨L, o, hf, hn, ho, hd⟩, hr⟩ => by
    have e1 : frs (env :: l) = L :: frs l := by unfold frs; rw [List.filterMap_cons, hf]
    rw [e1] at hC
    exact ⟨hk, ⟨L, o, hf, hn, (k.2 L fun z => hC (by simp [z])).trans ho, hd⟩, funFrames_but k (fun z => hC (by simp [z])) hr⟩
theorem held_but {h h' B : Heap} {C e L : Addr} {l : List Env} {cls a0 : Value} {m : Str → Option Value} (k : Heap.SameBut C h h') (hC : C ∉ frs l) (hn : h.Ns C m) (x : Heap.HeldW B l e cls a0 L h) :
    Heap.HeldW (PySem.W.hideAll B [C]) l e cls a0 L h' := by
  have x' := PySem.W.heldW_base (base := PySem.W.hideAll B [C]) (fun b o q => PySem.W.of_hideAll _ q) x
  obtain ⟨st, en, ff, oe, vs, T, oT, ts, he, hc, hd, h1, nT, Te, hT, hdT, h3⟩ := x'
  obtain ⟨o, es, ep, ho, od, _⟩ := hn
  have nC : ∀ b u ws, h.get? b = some u → u.data = .fields ws → b ≠ C := fun b u ws q d z => by
    rw [z, ho] at q; cases q; rw [od] at d; cases d
  refine ⟨fun b u q => (k.2 b fun z => ?_).trans (st b u q), en, funFrames_but k hC ff, oe, vs, T, oT, ts, (k.2 e (nC e oe vs he hd)).trans he, hc, hd, h1, nT, Te, (k.2 T (nC T oT ts hT hdT)).trans hT, hdT, h3⟩
  rw [z, PySem.W.hideAll_none [C] (by simp)] at q
  cases q
section
variable {X : Cx} {E : XK} {N' : List Str} {scope : Scope} {cl : List (Str × Addr)} {pins0 : List (Addr × Obj)} {σ0 : St} {H3 : Hp} {s3 : Shared} {fp : List Addr} {Q : Value → Shared → Prop} {acc : Value}
theorem comp_pass (dx : DefCx X) (hxe : ∀ e s', wpAny (model X.prog X.w) X.A (leaving X.env e) (fun _ s2 => CXX X.prog X.w X.outer X.H₀ X.s₀ E e s2) (fun e' s2 => CXX X.prog X.w X.outer X.H₀ X.s₀ E e' s2) s' → X.xe e s')
    (I3 : Inv X pins0 σ0 H3 s3) (hfp : ∀ b ∈ fp, FpOk X pins0 H3 b) {C : Addr} (hC : C = s3.heap.objs.size) :
    Passes (CXX X.prog X.w) ((cxComp X N' scope cl C s3 H3 fp).wish (notedBy (model X.prog X.w) X.A (compEnvC scope cl C X.env) fun e s' => postX (model X.prog X.w) X.A X.xe Q acc (compEnvC scope cl C X.env) (.error e) s')) E := by
  intro pins σ H s e s' I h
  obtain ⟨a, cls, H', rfl, os, bare, un, hok, ⟨B, t, fw, ne, hn, kB⟩, q⟩ := h
  have fl : X.env.frame = some X.env.locals := dx.fr
  have nofp : ∀ b o, X.s₀.heap.get? b = some o → b ∉ fp := fun b o e1 z => by
    rcases (hfp b z).2.2.2.1 with y | y
    · rw [dx.ex] at y; cases y
    · exact absurd (Nat.lt_of_lt_of_le (Heap.lt_size e1) y) (Nat.lt_irrefl _)
  have thr : ∀ b o, X.s₀.heap.get? b = some o → ∃ o', s.heap.get? b = some o' := fun b o e1 => by
    obtain ⟨o1, e2⟩ := I3.base.there b o e1 (by rw [dx.ex]; simp)
    exact I.base.there b o1 e2 (nofp b o e1)
  have I1 : Inv ((cxComp X N' scope cl C s3 H3 fp).wish (notedBy (model X.prog X.w) X.A (compEnvC scope cl C X.env) fun e s' => postX (model X.prog X.w) X.A X.xe Q acc (compEnvC scope cl C X.env) (.error e) s')) pins σ H' s' :=
    I.call' (ch := []) os un hok bare (fun b z => absurd z (by simp))
  have sf : ∀ b ∈ frs X.stack, H' b = none := I1.stkFree
  have fw' : Heap.FlyingW B (X.env :: X.outer) a cls (.ref t) s'.heap := by rw [← dx.st]; exact fw
  show wpAny (model X.prog X.w) X.A (noteFrame (.ref a) X.env) _ _ s'
  refine wpAny_looks_onW (L := X.env.locals) (by rw [I3.ok.frames, dx.st]) fl fw' fun h1 hw up => ?_
  have hw' : Heap.HeldW B X.stack a cls (.ref t) X.env.locals h1 := by rw [dx.st]; exact hw
  obtain ⟨un1, hok1⟩ := fly_keeps (h5 := h1) un hok kB fw.2.2.1 (fun b hb => hb) (fun b hb hb' => absurd hb hb') sf hw.1 up
  have I2 : Inv ((cxComp X N' scope cl C s3 H3 fp).wish (notedBy (model X.prog X.w) X.A (compEnvC scope cl C X.env) fun e s' => postX (model X.prog X.w) X.A X.xe Q acc (compEnvC scope cl C X.env) (.error e) s')) pins σ H' { s' with heap := h1 } :=
    I.call' (s' := { s' with heap := h1 }) (ch := []) os un1 hok1 bare (fun b z => absurd z (by simp))
  obtain ⟨m, ns, _⟩ := id I2.loc
  have ns' : h1.Ns C m := ns
  have u2 : Un (frs X.stack) fp H3 H' s3.heap h1 := I2.base
  have fC : H' C = none := I2.free
  have I4 : Inv X pins0 σ0 H' { s' with heap := h1 } := I3.call' (s' := { s' with heap := h1 }) (ch := fp) I2.os u2 I2.hok I2.bare (fun b hb => ⟨(hfp b hb).2.2.2.1, (hfp b hb).2.1, (hfp b hb).2.2.2.2.1, (hfp b hb).2.2.2.2.2⟩)
  have okC : FpOk X pins0 H' C := I3.fpOk (Nat.le_of_eq hC.symm) fC
  have nC : C ∉ frs X.stack := fun z => by
    rcases List.mem_cons.mp (I4.stkSub C z) with y | y
    · exact okC.2.1 y
    · exact okC.2.2.1 y
  refine ⟨m, ns', fun h2 sb => ?_⟩
  have I5 : Inv X pins0 σ0 H' { s' with heap := h2 } := Inv.turned (s := { s' with heap := h1 }) (it := C) (t' := s'.toks) I4 (fun b o hb e => (sb.2 b hb).trans e) okC.1 okC.2.1 okC.2.2.2.1 okC.2.2.2.2.1 okC.2.2.2.2.2
  refine pass_held (L := X.env.locals) fl (held_but sb nC ns' hw') fun h3 hw3 up3 => hxe _ _ ?_
  have hw3' : Heap.HeldW (PySem.W.hideAll B [C]) (X.env :: X.outer) a cls (.ref t) X.env.locals h3 := by rw [← dx.st]; exact hw3
  refine leave_held (s := { s' with heap := h3 }) fl hw3' fun h4 fw4 up4 => ?_
  have n1 : X.s₀.heap.get? a = none := by
    cases z : X.s₀.heap.get? a with
    | none => rfl
    | some o =>
      obtain ⟨o', y⟩ := thr a o z
      rw [ne] at y; cases y
  refine fly_out (s := { s' with heap := h2 }) dx I5 (fun b o e1 hz hb => ?_) fw4 (up3.trans up4) n1 hn q
  have bC : b ≠ C := fun z => by
    subst z
    rcases hz with ⟨o', y⟩ | ⟨u, y⟩
    · rcases okC.2.2.2.1 with w | w
      · rw [dx.ex] at w; cases w
      · exact absurd (Nat.lt_of_lt_of_le (Heap.lt_size y) w) (Nat.lt_irrefl _)
    · rw [fC] at y; cases y
  have e2 : h1.get? b = some o := (sb.2 b bC).symm.trans e1
  have hz' : (∃ o', s.heap.get? b = some o') ∨ ∃ u, H' b = some u := hz.imp (fun ⟨o', y⟩ => thr b o' y) id
  have th : ∃ o2, s'.heap.get? b = some o2 := by
    rcases hz' with ⟨o', y⟩ | ⟨u, y⟩
    · exact un.there b o' y (by simp)
    · exact (hok b u y).there
  obtain ⟨o2, e3⟩ := th
  have e4 := kB b o2 e3 hz' hb
  have e5 := hw.1 b o2 e4
  rw [e2] at e5
  cases e5
  exact PySem.W.hideAll_get [C] e4 (by simpa using bC)
end
section
variable {X : Cx} {E : XK} {elt iter tg : Expr} {ifs : List Expr} {xs : List Str} {pos : Pos} {scope : Scope} {cl : List (Str × Addr)} {ts : List (Str × Nat)} {wi : TI} {te : TE} {g : TG} {tt : TT}
theorem pe_compX (dx : DefCx X) (hxe : ∀ e s', wpAny (model X.prog X.w) X.A (leaving X.env e) (fun _ s2 => CXX X.prog X.w X.outer X.H₀ X.s₀ E e s2) (fun e' s2 => CXX X.prog X.w X.outer X.H₀ X.s₀ E e' s2) s' → X.xe e s')
    (hc : X.calm = true) (O : CompOkL X xs ts scope cl) (hi : PI X tg iter wi) (hg : ∀ C s3 H3 fp, PG (cxComp X (nmsL xs ts) scope cl C s3 H3 fp) tg g)
    (ht : ∀ C s3 H3 fp, PIf (cxComp X (nmsL xs ts) scope cl C s3 H3 fp) ifs tt)
    (he : ∀ C s3 H3 fp xe, Passes (CXX X.prog X.w) ((cxComp X (nmsL xs ts) scope cl C s3 H3 fp).wish xe) E → PE ((cxComp X (nmsL xs ts) scope cl C s3 H3 fp).wish xe) elt te)
    (hs : ∀ x, foldedSetIterable iter X.env x = pure x := by intro _; rfl) : PE X (.ListComp elt [⟨tg, iter, ifs, 0⟩] scope pos) (tCompG wi g tt xs.length (sltOf ts) te) := by
  intro pins s σ H Q I h
  rw [eval_ListComp]
  refine comp_freeX rfl hs O.clos O.kind O.locs' (thn (hi pins s σ H _ I h) fun v s1 h1 => thn h1 fun itv s2 h2 => ?_)
  obtain ⟨it, fp, tn, J, H2, rfl, I2, T, st2, f2, q⟩ := h2
  have hD : H2 s2.heap.objs.size = none := I2.hok.fresh (Nat.le_refl _)
  obtain ⟨W, ⟨m0, w0⟩, turn⟩ := q s2.heap.objs.size hD
  refine wpAny_newObj_type ?_
  have I3 : Inv X pins σ (upd H2 s2.heap.objs.size (.lst [])) { s2 with heap := s2.heap.push { cls := .type "list", dict := none, data := .seq ([] : List Value).toArray } } :=
    I2.laid (a := s2.heap.objs.size) (o := .lst []) (t' := s2.toks) (fun b u e => Heap.get?_push_of_some _ e) (Nat.le_refl _) ⟨Nat.zero_le _, [], 0, .nil, Heap.get?_push_size _ rfl⟩
  generalize hs3 : ({ s2 with heap := s2.heap.push { cls := .type "list", dict := none, data := .seq ([] : List Value).toArray } } : Shared) = s3 at I3
  have sz3 : s3.heap.objs.size = s2.heap.objs.size + 1 := by rw [← hs3, Heap.size_push]
  have old3 : ∀ b u, s2.heap.get? b = some u → s3.heap.get? b = some u := fun b u e => by rw [← hs3]; exact Heap.get?_push_of_some _ e
  generalize hH3 : upd H2 s2.heap.objs.size (.lst []) = H3 at I3 w0
  have fp2 : ∀ b ∈ fp, b < s2.heap.objs.size := fun b hb => by
    obtain ⟨o, e, _⟩ := T.obj _ _ st2 b hb
    exact Heap.lt_size e
  have hfp : ∀ b ∈ fp, FpOk X pins H3 b ∧ b < s3.heap.objs.size := fun b hb => by
    refine ⟨⟨?_, (f2 b hb).2⟩, by rw [sz3]; exact Nat.lt_succ_of_lt (fp2 b hb)⟩
    rw [← hH3, upd_ne (Nat.ne_of_lt (fp2 b hb))]
    exact (f2 b hb).1
  refine wpAny_newFunctionEnv O.nocell' (by intro y hy; simp at hy) (fun h₁ hns₁ hsb₁ => ?_) O.kind
  have old : ∀ b o, s3.heap.get? b = some o → h₁.get? b = some o := fun b o e => hsb₁.extBut b o (Nat.ne_of_lt (Heap.lt_size e)) (Heap.get?_push_of_some _ e)
  have start : Inv (cxComp X (nmsL xs ts) scope cl s3.heap.objs.size s3 H3 fp) [] (List.replicate xs.length none ++ taken σ (sltOf ts)) H3 { s3 with heap := h₁, toks := s3.toks + 0 } := compL_start O I3 hfp hns₁ old
  have st4 : tn 0 h₁ := T.keep _ _ _ st2 fun b hb o e => old b o (old3 b o e)
  have okX : ∀ {H' : Hp}, (∀ b ∈ fp, H' b = none) → ∀ b ∈ fp, FpOk (cxComp X (nmsL xs ts) scope cl s3.heap.objs.size s3 H3 fp) [] H' b := fun hn b hb => by
    refine ⟨hn b hb, Nat.ne_of_lt (hfp b hb).2, fun z => ?_, .inl hb, fun y c e => (f2 b hb).2.2.2.2.1 y c (O.sub y c e), fun p hp => absurd (show p ∈ ([] : List (Addr × Obj)) from hp) (by simp)⟩
    rcases List.mem_cons.mp (I3.stkSub b z) with e | e
    · exact (f2 b hb).2.1 e
    · exact (f2 b hb).2.2.1 e
  have loop : ∀ s₄ : Shared, s₄ = { s3 with heap := h₁, toks := s3.toks + 0 } →
      codeAny (model X.prog X.w) X.A (.compLoop (.ListComp elt [⟨tg, iter, ifs, 0⟩] scope pos) 0 (.ref it) (.ref s2.heap.objs.size) (compEnvC scope cl s3.heap.objs.size X.env))
        (postX (model X.prog X.w) X.A X.xe (EP X pins σ Q) (.ref s2.heap.objs.size) (compEnvC scope cl s3.heap.objs.size X.env)) s₄ := by
    rintro s₄ rfl
    refine compLoop_ifsX (fun n s' => ∃ i ys σ0 H', σ0.length = xs.length ∧ Inv (cxComp X (nmsL xs ts) scope cl s3.heap.objs.size s3 H3 fp) [] (σ0 ++ taken σ (sltOf ts)) H' s' ∧ tn i s'.heap ∧ (∀ b ∈ fp, H' b = none) ∧ W i n ys H') ?_ m0
      ⟨0, [], _, H3, by simp, start, st4, fun b hb => (hfp b hb).1.1, w0⟩
    rintro n s5 ⟨i, ys, σ0, H5, l0, I5, st5, fr5, w5⟩
    rcases turn i n ys H5 w5 with ⟨stop, qn⟩ | ⟨go, step⟩
    · refine thn (T.done (cxComp X (nmsL xs ts) scope cl s3.heap.objs.size s3 H3 fp) rfl rfl rfl hc i [] s5 (σ0 ++ taken σ (sltOf ts)) H5 _ I5 (okX fr5) st5 stop) fun r s6 ⟨hr, I6⟩ => ?_
      subst hr
      obtain ⟨m, hn, _⟩ := id I6.loc
      have u6 : Un (frs X.stack) fp H3 H5 s3.heap s6.heap := I6.base
      have fC : H5 s3.heap.objs.size = none := I6.free
      have J6 : Inv X pins σ H5 s6 := I3.call' (s' := s6) (ch := fp) I6.os u6 I6.hok I6.bare (fun b hb => ⟨(f2 b hb).2.2.2.1, (f2 b hb).2.1, (f2 b hb).2.2.2.2.1, (f2 b hb).2.2.2.2.2⟩)
      have oC : FpOk X pins H5 s3.heap.objs.size := I3.fpOk (Nat.le_refl _) fC
      exact ⟨m, hn, fun h' sb => ⟨.ref s2.heap.objs.size, H5, J6.turned (it := s3.heap.objs.size) (t' := s6.toks) (fun b o hb e => (sb.2 b hb).trans e) oC.1 oC.2.1 oC.2.2.2.1 oC.2.2.2.2.1 oC.2.2.2.2.2, rfl, qn⟩⟩
    · refine thn (T.item (cxComp X (nmsL xs ts) scope cl s3.heap.objs.size s3 H3 fp) rfl rfl rfl hc i [] s5 (σ0 ++ taken σ (sltOf ts)) H5 _ I5 (okX fr5) st5 go) fun r s6 ⟨u, hr, h6⟩ => ?_
      subst hr
      refine thn h6 fun _ s7 ⟨z, H7, I7, rz, yz, st7, fr7⟩ => ?_
      have I7' := I7.pinned (okX fr7) (T.obj _ _ st7)
      refine thn (hg s3.heap.objs.size s3 H3 fp _ s7 _ H7 z u _ I7' rz (step z H7 σ0 yz l0)) fun _ s8 ⟨σ8, H8, I8, ⟨σ1, l1, e8⟩, q8⟩ => ?_
      subst e8
      refine thn (ht s3.heap.objs.size s3 H3 fp _ s8 _ H8 _ I8 q8) fun b s9 ⟨H9, I9, q9⟩ => ?_
      cases b with
      | true =>
        rw [if_pos rfl] at q9 ⊢
        have hx := comp_pass (E := E) (N' := nmsL xs ts) (scope := scope) (cl := cl) (Q := EP X pins σ Q) (acc := .ref s2.heap.objs.size) dx hxe I3 (fun b hb => (hfp b hb).1) rfl
        refine wpAny_mono (he s3.heap.objs.size s3 H3 fp _ hx _ s9 _ H9 _ (I9.wish _) q9) (fun y s10 ⟨vy, H10, I10', ry, hD9, hl9, m', hm', w9⟩ => ?_) fun _ _ z => z
        have I10 := I10'.unwish
        refine thn (mt_append (X := cxComp X (nmsL xs ts) scope cl s3.heap.objs.size s3 H3 fp) _ s10 _ H10 (.ref s2.heap.objs.size) [vy] (.ref s2.heap.objs.size) [y] (fun _ H11 => H11 = upd H10 s2.heap.objs.size (.lst (ys ++ [vy]))) I10 rfl (.cons ry .nil) ⟨_, ys, vy, rfl, rfl, hD9, hl9, rfl⟩) fun _ s11 ⟨_, H11, I11, _, e11⟩ => ?_
        subst e11
        refine ⟨m', hm', i + 1, ys ++ [vy], σ1, _, l1, I11.unpinned, T.keep _ _ _ st7 fun b hb o e => (I11.pin (b, o) (List.mem_append_right _ (List.mem_append_right _ (mem_pinsAt hb e)))).1, fun b hb => ?_, w9⟩
        obtain ⟨o, e, d⟩ := T.obj _ _ st7 b hb
        exact (I11.pin (b, o) (List.mem_append_right _ (List.mem_append_right _ (mem_pinsAt hb e)))).2.1
      | false =>
        rw [if_neg Bool.false_ne_true] at q9 ⊢
        obtain ⟨m', hm', w9⟩ := q9
        refine ⟨m', hm', i + 1, ys, σ1, _, l1, I9.unpinned, T.keep _ _ _ st7 fun b hb o e => (I9.pin (b, o) (List.mem_append_right _ (List.mem_append_right _ (mem_pinsAt hb e)))).1, fun b hb => ?_, w9⟩
        obtain ⟨o, e, d⟩ := T.obj _ _ st7 b hb
        exact (I9.pin (b, o) (List.mem_append_right _ (List.mem_append_right _ (mem_pinsAt hb e)))).2.1
  have hst := codeAny_compStart_list (loop _ rfl) (T.self X.A 0 _ _ _ st4 (loop _ rfl))
  exact hst
end
theorem Inv.track {X : Cx} {pins : List (Addr × Obj)} {σ : St} {H : Hp} {s : Shared} {a : Addr} {o : HO} (I : Inv X pins σ H s) (hn : X.s₀.heap.get? a = none) (hH : H a = none) (hL : a ≠ X.env.locals) (hc : ∀ x c, X.env.cells.lookup x = some c → c ≠ a)
    (hp : ∀ p ∈ X.pn ++ pins, p.1 ≠ a) (new : ObjOk X.prog X.w (upd H a o) s.heap a o) : Inv X pins σ (upd H a o) s := by
  have ne : ∀ b u, H b = some u → b ≠ a := fun b u e z => by rw [z, hH] at e; cases e
  have b := I.base
  refine ⟨I.ok, I.os, I.bare, ⟨b.keep, b.slot, fun c u e1 e2 e3 => ?_, b.there, fun c xs e => ?_, fun c u v e => ?_, fun c ps e => ?_⟩, I.loc, I.cell, ?_, fun x c e => ?_, fun p hq => ?_, fun c u e => ?_, I.len⟩
  · rw [upd_ne (fun z => by rw [z, hn] at e1; cases e1)]
    exact b.free c u e1 e2 e3
  · have y := b.tups c xs e
    rw [upd_ne (ne _ _ y)]; exact y
  · have y := b.frzs c u v e
    rw [upd_ne (ne _ _ y)]; exact y
  · obtain ⟨more, y⟩ := b.tbls c ps e
    exact ⟨more, by rw [upd_ne (ne _ _ y)]; exact y⟩
  · rw [upd_ne (Ne.symm hL)]; exact I.free
  · rw [upd_ne (hc x c e)]; exact I.freeC x c e
  · obtain ⟨y1, y2, y3⟩ := I.pin p hq
    exact ⟨y1, by rw [upd_ne (hp p hq)]; exact y2, y3⟩
  · by_cases z : c = a
    · subst z
      rw [upd_same] at e
      cases e
      exact new
    · rw [upd_ne z] at e
      refine (I.hok c u e).stay (fun _ _ _ y => y) (fun d y => ?_) (fun d xs y => ?_)
      · rw [upd_ne (ne _ _ y)]; exact y
      · rw [upd_ne (ne _ _ y)]; exact y
section
open PySem.W
variable {X : Cx}
end
theorem comp_tupRG {K : PySem.W.Frag} {a : Addr} {xs : List V} {te : TE} {st : St} {H1 : Hp} {Q : VK} {D : Addr} (R : Nat → List V → Hp → Prop) (hD : H1 D = none) (q1 : SqT K H1 a xs) (hn : xs.length ≤ sizeLine) (h0 : R 0 [] (upd H1 D (.lst [])))
    (hs : ∀ (i : Nat) (x : V) (ys : List V) (H2 : Hp) (k : VK), xs[i]? = some x → Same H1 H2 → H2 D = some (.lst ys) → ys.length = i → R i ys H2 → (∀ y H4, Same H2 H4 → R (i + 1) (ys ++ [y]) (upd H4 D (.lst (ys ++ [y]))) → k y H4) → te (some x :: st) H2 k)
    (hd : ∀ ys H2, Same H1 H2 → H2 D = some (.lst ys) → ys.length = xs.length → R xs.length ys H2 → Q (.ref D) H2) : CompG (Itt K a) (gName 0) tYes te 1 st D H1 Q := by
  refine ⟨fun i m ys H2 => m = xs.length - i ∧ i ≤ xs.length ∧ ys.length = i ∧ Same H1 H2 ∧ H2 D = some (.lst ys) ∧ R i ys H2, ⟨xs.length, by simp, Nat.zero_le _, rfl, same_upd (Same.refl H1) hD, upd_same, h0⟩, ?_⟩
  rintro i m ys H2 ⟨rfl, hi, hl, sm, e, r⟩
  by_cases hlt : i < xs.length
  · have ex : xs[i]? = some xs[i] := List.getElem?_eq_getElem hlt
    refine .inr ⟨⟨xs, _, sm.tup q1, ex⟩, ?_⟩
    rintro x H3 σ0 ⟨rfl, hx⟩ l0
    have hx' := hx xs (sm.tup q1)
    obtain ⟨a', rfl⟩ : ∃ a, σ0 = [a] := by
      match σ0, l0 with
      | [a], _ => exact ⟨a, rfl⟩
    refine ⟨⟨[some x], rfl, rfl⟩, ?_⟩
    exact hs i x ys _ _ hx' sm e hl r fun y H4 s4 r4 => ⟨s4 _ _ e, by omega, xs.length - (i + 1), by omega, rfl, hlt, by simp [hl], same_upd (sm.trans s4) hD, upd_same, r4⟩
  · have ei : i = xs.length := by omega
    subst ei
    exact .inl ⟨⟨xs, sm.tup q1, Nat.le_refl _⟩, hd ys H2 sm e hl r⟩
noncomputable abbrev SeqAt2 (H : Hp) (a : Addr) (xs : List V) : Prop := H a = some (.lst xs) ∨ H a = some (.tup xs)
theorem SeqAt2.keep {H H' : Hp} {a : Addr} {xs : List V} (h : SeqAt2 H a xs) (s : Same H H') : SeqAt2 H' a xs := h.imp (s _ _) (s _ _)
theorem SeqAt2.sq {K : PySem.W.Frag} {H : Hp} {a : Addr} {xs : List V} (h : SeqAt2 H a xs) : SqL K H a xs ∨ SqT K H a xs := h.imp SqL.of SqT.of
theorem SeqAt2.ix {K : PySem.W.Frag} {H : Hp} {a : Addr} {xs : List V} {i : Int} {v : V} {Q : VK} (h : SeqAt2 H a xs) (e : atI xs i = some v) (q : Q v H) : rIx K (.ref a) (.int i) H Q := by
  rcases h with h | h
  · exact .inl ⟨a, xs, i, v, rfl, rfl, SqL.of h, e, q⟩
  · exact .inr (.inl ⟨a, xs, i, v, rfl, rfl, SqT.of h, e, q⟩)
theorem seq_comp {K : PySem.W.Frag} {a : Addr} {xs : List V} {te : TE} {st : St} {H1 : Hp} {Q : VK} (hq : SeqAt2 H1 a xs) (hn : xs.length ≤ sizeLine) (R : Addr → Nat → List V → Hp → Prop)
    (h0 : ∀ D, H1 D = none → R D 0 [] (upd H1 D (.lst [])))
    (hs : ∀ (D : Addr) (i : Nat) (x : V) (ys : List V) (H2 : Hp) (k : VK), H1 D = none → xs[i]? = some x → Same H1 H2 → H2 D = some (.lst ys) → ys.length = i → R D i ys H2 → (∀ y H4, Same H2 H4 → R D (i + 1) (ys ++ [y]) (upd H4 D (.lst (ys ++ [y]))) → k y H4) → te (some x :: st) H2 k)
    (hd : ∀ D ys H2, H1 D = none → Same H1 H2 → H2 D = some (.lst ys) → ys.length = xs.length → R D xs.length ys H2 → Q (.ref D) H2) :
    (SqL K H1 a xs ∧ ∀ D, H1 D = none → CompG (Itl K a) (gName 0) tYes te 1 st D H1 Q) ∨ (SqT K H1 a xs ∧ ∀ D, H1 D = none → CompG (Itt K a) (gName 0) tYes te 1 st D H1 Q) := by
  rcases hq with h | h
  · exact .inl ⟨SqL.of h, fun D hD => comp_listRG (R D) hD (SqL.of h) hn (h0 D hD) (fun i x ys H2 k a1 a2 a3 a4 a5 => hs D i x ys H2 k hD a1 a2 a3 a4 a5) fun ys H2 => hd D ys H2 hD⟩
  · exact .inr ⟨SqT.of h, fun D hD => comp_tupRG (R D) hD (SqT.of h) hn (h0 D hD) (fun i x ys H2 k a1 a2 a3 a4 a5 => hs D i x ys H2 k hD a1 a2 a3 a4 a5) fun ys H2 => hd D ys H2 hD⟩
end L2
set_option maxHeartbeats 4000000
namespace L2
open PySem PySem.Spec PyProof.Rows PySem.W Gc
section
variable {prog : Program} {w : World} {A : Around} {E : Value → Shared → Prop} {s : Shared}
end
section
variable {X : Cx}
end
end L2
set_option maxHeartbeats 4000000
namespace L2
open PySem PySem.Spec PyProof.Rows
noncomputable def ET0 (K : PySem.W.Frag) (CS : Addr) (ts : Addr → Obj → TS) (D : Ends) : St → XK := fun σ cls _ H =>
  PySem.W.subIn K cls (.ref CS) = some true ∧ ∀ e oe, H e = none → oe.cls = cls → ts e oe D σ H
noncomputable def tTry0 (K : PySem.W.Frag) (CS : Addr) (tb : (St → XK) → TS) (ts : Addr → Obj → TS) : TS := fun D σ H => tb (ET0 K CS ts D) D σ H
theorem ps_try0 {X : Cx} {body : List Stmt} {b0 : Stmt} {suite : List Stmt} {S : Str} {np hpos pos : Pos} {CS : Addr} {tb : (St → XK) → TS} {ts : Addr → Obj → TS} (dx : DefCx X)
    (hg : Gl X S) (hm : X.mg S = some (.ref CS)) (ca : Catch X.K CS)
    (hb : ∀ (xe : Value → Shared → Prop) (pn : List (Addr × Obj)) (E : St → XK), PassesS (CXX X.prog X.w) (X.tried xe pn) E → PSs (X.tried xe pn) body (tb E))
    (hs : ∀ (e : Addr) (oe : Obj), PSs (X.held e oe) (b0 :: suite) (ts e oe)) (hdb : (S == ("__debug__" : Str)) = false := by decide) :
    PS X (.Try body [.ExceptHandler (some (.Name S np)) none (b0 :: suite) hpos] [] [] pos) (tTry0 X.K CS tb ts) := by
  intro pins s σ H D I h
  have pass : PassesS (CXX X.prog X.w) (X.tried (fun e s1 => wpAny (model X.prog X.w) X.A (noteFrame e X.env) (fun _ s2 => wpAny (model X.prog X.w) X.A (setFlight e none) (fun _ s3 =>
      wpAny (model X.prog X.w) X.A (handleBy e X.env [.ExceptHandler (some (.Name S np)) none (b0 :: suite) hpos]) (SP X pins D) X.xe s3) X.xe s2) X.xe s1) pins) (ET0 X.K CS ts D) := by
    intro pins' σ' H1 s1 e s' I' hx
    obtain ⟨a, cls, H', rfl, os, bare, un, hok, ⟨B, t, fw, ne, hn, kB⟩, hk, q⟩ := hx
    have J : Inv X pins σ' H1 s1 := I'.untried
    have hu : ∀ b ∈ frs X.stack, H' b = none := fun b z => by
      obtain ⟨_, o, e0, _⟩ := J.stack.mem z
      exact un.free b o e0 (J.stkFree b z) (by simp)
    have keep5 : ∀ h5 : Heap, B.StaysIn h5 → s'.heap.UpToSlots h5 → Un (frs X.stack) [] H1 H' s1.heap h5 ∧ HOk X.prog X.w H' h5 := fun h5 st up =>
      fly_keeps un hok kB fw.2.2.1 (fun _ z => z) (fun b z nz => absurd z nz) hu st up
    have inv5 : ∀ h5 : Heap, B.StaysIn h5 → s'.heap.UpToSlots h5 → Inv X pins σ' H' { s' with heap := h5 } := fun h5 st up =>
      J.call' (s' := { s' with heap := h5 }) (ch := []) os (keep5 h5 st up).1 (keep5 h5 st up).2 bare (fun b z => absurd z (by simp))
    have neL : a ≠ X.env.locals := fun z => by
      obtain ⟨m, ⟨o, _, _, ho, _⟩, _⟩ := J.loc
      rw [← z, ne] at ho; cases ho
    have nfs : a ∉ X.fs := fun z => by
      obtain ⟨_, o, e0, _⟩ := J.funs.mem z
      rw [ne] at e0; cases e0
    have fw' : Heap.FlyingW B (X.env :: X.outer) a cls (.ref t) s'.heap := by rw [← dx.st]; exact fw
    show wpAny (model X.prog X.w) X.A (noteFrame (.ref a) X.env) _ X.xe s'
    refine wpAny_looks_onW (by rw [J.ok.frames, dx.st]) dx.fr fw' fun h4 held4 up4 => ?_
    refine wpAny_landsW held4 fun h5 fl5 up5 => ?_
    have up := up4.trans up5
    have J5 := inv5 h5 fl5.1 up
    obtain ⟨oe, vs, hoe, hoc, hod, _⟩ := fl5.first
    have K5 : Inv (X.held a oe) pins σ' H' { s' with heap := h5 } := J5.held hoe hn neL nfs (fun v z => by rw [hod] at z; cases z)
    refine wpAny_handleBy_cons (codeAny_handlers_test (ld_glob K5 hg hm ?_ hdb)) (by intro z; cases z)
    refine exc_matches K5.kIn hoe ca (by rw [hoc]; exact hk) ?_
    refine codeAny_handlers_suite ?_
    refine lands_againW fl5 fun h6 fl6 up6 => ?_
    have J6 := inv5 h6 fl6.1 (up.trans up6)
    obtain ⟨oe6, vs6, hoe6, hoc6, hod6, _⟩ := fl6.first
    have K6 : Inv (X.held a oe6) pins σ' H' { s' with heap := h6 } := J6.held hoe6 hn neL nfs (fun v z => by rw [hod6] at z; cases z)
    refine wpAny_mono (hs a oe6 pins _ _ H' D K6 (q a oe6 hn hoc6)) (fun f s8 h8 => ?_) (fun _ _ z => z.elim)
    cases f with
    | next =>
      obtain ⟨σ8, H8, I8, q8⟩ := h8
      exact ⟨_, _, I8.unheld I.ok.hd, q8⟩
    | brk =>
      obtain ⟨σ8, H8, I8, q8⟩ := h8
      exact ⟨_, _, I8.unheld I.ok.hd, q8⟩
    | cont =>
      obtain ⟨σ8, H8, I8, q8⟩ := h8
      exact ⟨_, _, I8.unheld I.ok.hd, q8⟩
    | ret u =>
      obtain ⟨v8, σ8, H8, I8, r8, q8⟩ := h8
      exact ⟨_, _, _, I8.unheld I.ok.hd, r8, q8⟩
  refine wpAny_Try_except (wpAny_mono (hb _ pins _ pass [] s σ H D I.tried h) (fun f s1 hf => ?_) fun e s1 he => he)
  cases f with
  | next =>
    obtain ⟨σ', H', J, q⟩ := hf
    exact wpAny_execs_nil ⟨σ', H', J.untried, q⟩
  | brk =>
    obtain ⟨σ', H', J, q⟩ := hf
    exact ⟨σ', H', J.untried, q⟩
  | cont =>
    obtain ⟨σ', H', J, q⟩ := hf
    exact ⟨σ', H', J.untried, q⟩
  | ret u =>
    obtain ⟨v, σ', H', J, r, q⟩ := hf
    exact ⟨v, σ', H', J.untried, r, q⟩
end L2
set_option maxHeartbeats 4000000
namespace L2
open PySem PySem.Spec PyProof.Rows
noncomputable def Itd (hi : Int) (n : Nat) : It := ⟨fun i _ => i < n, fun i H x H' => H' = H ∧ x = .int (hi - i), fun i _ => n ≤ i⟩
theorem turn_down {P : Program} {w : World} {K : PySem.W.Frag} {tg : Expr} (it : Addr) (hi : Int) (n : Nat) : Turn P w K tg (Itd hi n) [it] it (fun i h => IsRangeIter h it (hi + (i : Nat) * (-1)) ((n : Int) - (i : Nat)) (-1)) where
  mem := List.mem_singleton.mpr rfl
  obj := fun i h st b hb => by
    cases List.mem_singleton.mp hb
    exact ⟨_, st, fun v z => nomatch (show Data.fields _ = Data.cell v from z)⟩
  keep := fun i h h' st k => k it (List.mem_singleton.mpr rfl) _ st
  item := by
    intro X eP ew eK hc i pins s σ H E I hf st hg
    cases eP; cases ew; cases eK
    have ff := hf it (List.mem_singleton.mpr rfl)
    have W := Walks.range (prog := X.prog) (w := X.w) (I.ok.hd hc) it hi (-1) n
    refine W.item i s _ _ hg st fun v h' tk hv st' kk => ?_
    obtain ⟨t, rfl⟩ := hv
    have J : Inv X pins σ H { s with heap := h', toks := tk } := I.turned (fun b o hb e => kk b o (fun m => hb (List.mem_singleton.mp m)) e) ff.1 ff.2.1 ff.2.2.2.1 ff.2.2.2.2.1 ff.2.2.2.2.2
    have en : hi + (i : Nat) * (-1) = hi - (i : Nat) := by omega
    exact ⟨_, rfl, go_of (s := { s with heap := h', toks := tk }) (n := "range_iterator") st' rfl rfl (by decide) ⟨.int (hi - i), H, J, ⟨t, by rw [en]⟩, ⟨rfl, rfl⟩, st', fun b hb => (hf b hb).1⟩⟩
  done := by
    intro X eP ew eK hc i pins s σ H E I hf st hg
    cases eP; cases ew; cases eK
    have ff := hf it (List.mem_singleton.mpr rfl)
    have hn : n ≤ i := hg
    exact wpAny_pyNext_range_end (I.ok.hd hc) st (by omega) fun h' eb => ⟨rfl, I.turned (t' := s.toks) (fun b o hb e => eb b o hb e) ff.1 ff.2.1 ff.2.2.2.1 ff.2.2.2.2.1 ff.2.2.2.2.2⟩
  self := fun _ _ _ _ _ st h => wpAny_pyIter_rangeiter st h
theorem small_down {a b : Int} (h1 : 0 ≤ a) (h2 : a < 2 ^ 62) (h3 : -(2 ^ 62) ≤ b) (h4 : b < 2 ^ 62) : Builtin.Range.small a b (-1) = true := by
  unfold Builtin.Range.small Builtin.Range.rangeFitsLong
  rw [PySem.W.rangeSize_downNat, if_neg (by decide)]
  simp only [Bool.and_eq_true, Bool.or_eq_true, decide_eq_true_eq]
  have k : (2 : Int) ^ 62 + 2 ^ 62 = 2 ^ 63 := by decide
  have k0 : (0 : Int) < 2 ^ 62 := by decide
  generalize (2 : Int) ^ 63 = W at *
  generalize (2 : Int) ^ 62 = V at *
  have : 0 < W := by omega
  refine ⟨⟨⟨⟨⟨by omega, by omega⟩, by omega, by omega⟩, by omega, by omega⟩, by omega, by omega⟩, .inr ⟨by omega, by omega⟩⟩
section
variable {X : Cx} {tg : Expr}
noncomputable def iRngD (ta : TA) : TI := fun σ H R => ta σ H fun vs H1 => ∃ i j : Int, vs = [.int i, .int j, .int (-1)] ∧ (0 ≤ i ∧ i < 2 ^ 62 ∧ -(2 ^ 62) ≤ j ∧ j < 2 ^ 62) ∧ R (Itd i (i - j).toNat) H1
theorem pi_range3 {a b c : Expr} {ta : TA} {p pos : Pos} (hg : Gl X "range") (hm : X.mg "range" = none) (ha : PA X [a, b, c] ta) (hs : starEach [a, b, c] X.env = [(false, eval a X.env), (false, eval b X.env), (false, eval c X.env)] := by rfl) (hs2 : starEach [b, c] X.env = [(false, eval b X.env), (false, eval c X.env)] := by rfl) :
    PI X tg (.Call (.Name "range" p) [a, b, c] [] pos) (iRngD ta) := by
  intro pins s σ H R I h
  refine Call_ (ld_blt I hg hm boot_range (PyProof.Rows.callWith_type1 (thn (ha pos pins s σ H _ I h) fun us s1 ⟨vs, H1, I1, r1, q1⟩ => ?_) (by rw [hs, hs2]) (by rw [hs2]; rfl)))
  obtain ⟨i, j, e, ⟨q1, q2, q3, q4⟩, q⟩ := q1
  subst e
  cases r1 with
  | cons r rr =>
  cases rr with
  | cons r' rr =>
  cases rr with
  | cons r'' rr =>
  cases rr
  obtain ⟨t, rfl⟩ := r
  obtain ⟨t', rfl⟩ := r'
  obtain ⟨t'', rfl⟩ := r''
  refine call_range_3 (by decide) ?_ (.inl rfl)
  refine wpAny_pyIter_range (IsRange.new ..) (small_down q1 q2 q3 q4) ?_
  have J : Inv X pins σ H1 { s1 with heap := s1.heap.push { cls := .type "range", data := .fields #[.int i t, .int j t', .int (-1) t''] } } := I1.kept (t' := s1.toks) fun b o e => Heap.get?_push_of_some _ e
  refine ⟨(s1.heap.push { cls := .type "range", data := .fields #[.int i t, .int j t', .int (-1) t''] }).objs.size, [(s1.heap.push { cls := .type "range", data := .fields #[.int i t, .int j t', .int (-1) t''] }).objs.size], _, _, H1, rfl,
    J.kept (t' := s1.toks) fun b o e => Heap.get?_push_of_some _ e, turn_down _ i (i - j).toNat, ?_, fun b hb => ?_, q⟩
  · have e1 : i + ((0 : Nat) : Int) * (-1) = i := by omega
    have e2 : (((i - j).toNat : Nat) : Int) - ((0 : Nat) : Int) = Builtin.Range.rangeSize i j (-1) := by rw [PySem.W.rangeSize_downNat]; omega
    show IsRangeIter _ _ (i + ((0 : Nat) : Int) * (-1)) ((((i - j).toNat : Nat) : Int) - ((0 : Nat) : Int)) (-1)
    rw [e1, e2]
    exact Heap.get?_push_size _ rfl
  · cases List.mem_singleton.mp hb
    exact J.fpOk (Nat.le_refl _) (J.hok.fresh (Nat.le_refl _))
end
theorem comp_downR {hi : Int} {n : Nat} {te : TE} {st : St} {H1 : Hp} {Q : VK} {D : Addr} (R : Nat → List V → Hp → Prop) (hD : H1 D = none) (hn : n ≤ sizeLine) (h0 : R 0 [] (upd H1 D (.lst [])))
    (hs : ∀ (i : Nat) (ys : List V) (H2 : Hp) (k : VK), i < n → Same H1 H2 → H2 D = some (.lst ys) → R i ys H2 → (∀ y H4, Same H2 H4 → R (i + 1) (ys ++ [y]) (upd H4 D (.lst (ys ++ [y]))) → k y H4) → te (some (.int (hi - i)) :: st) H2 k)
    (hd : ∀ ys H2, Same H1 H2 → H2 D = some (.lst ys) → ys.length = n → R n ys H2 → Q (.ref D) H2) : CompGo (Itd hi n) te st D H1 Q := by
  refine ⟨fun i m ys H2 => m = n - i ∧ i ≤ n ∧ ys.length = i ∧ Same H1 H2 ∧ H2 D = some (.lst ys) ∧ R i ys H2, ⟨n, by simp, Nat.zero_le _, rfl, same_upd (Same.refl H1) hD, upd_same, h0⟩, ?_⟩
  rintro i m ys H2 ⟨rfl, hi', hl, sm, e, r⟩
  by_cases hlt : i < n
  · refine .inr ⟨hlt, ?_⟩
    rintro x H3 ⟨rfl, rfl⟩
    refine hs i ys _ _ hlt sm e r fun y H4 s4 r4 => ⟨s4 _ _ e, by omega, n - (i + 1), by omega, rfl, hlt, by simp [hl], same_upd (sm.trans s4) hD, upd_same, r4⟩
  · have ei : i = n := by omega
    subst ei
    exact .inl ⟨Nat.le_refl _, hd ys H2 sm e hl r⟩
end L2
set_option maxHeartbeats 4000000
namespace L2
open PySem PySem.Spec PyProof.Rows
noncomputable def Fz (o : Obj) : HO := .frz o (.ext fun _ => True)
theorem fz_ok {P : Program} {w : World} {H : Hp} {h : Heap} {a : Addr} {o : Obj} (e : h.get? a = some o) : ObjOk P w H h a (Fz o) := ⟨e, trivial, ⟨o, e⟩, fun _ _ _ _ => trivial⟩
theorem fz_get {P : Program} {w : World} {H : Hp} {h : Heap} {a : Addr} {o : Obj} (k : HOk P w H h) (e : H a = some (Fz o)) : h.get? a = some o := (k a _ e).1
noncomputable def hid (H : Hp) (c : Addr) : Hp := fun b => if b = c then none else H b
theorem hid_ne {H : Hp} {b c : Addr} (h : b ≠ c) : hid H c b = H b := if_neg h
theorem hid_self {H : Hp} {c : Addr} : hid H c c = none := if_pos rfl
theorem hid_some {H : Hp} {b c : Addr} {o : HO} (e : hid H c b = some o) : b ≠ c ∧ H b = some o := by
  by_cases z : b = c
  · rw [z, hid_self] at e; cases e
  · exact ⟨z, by rw [hid_ne z] at e; exact e⟩
theorem HOk.hide {P : Program} {w : World} {H : Hp} {h : Heap} {c : Addr} {o : Obj} (k : HOk P w H h) (e : H c = some (Fz o)) : HOk P w (hid H c) h := fun b u q => by
  obtain ⟨n, q⟩ := hid_some q
  refine (k b u q).stay (fun _ _ _ z => z) (fun d z => ?_) fun d xs z => ?_
  · rw [hid_ne (fun y => by rw [y, e] at z; cases z)]; exact z
  · rw [hid_ne (fun y => by rw [y, e] at z; cases z)]; exact z
theorem HOk.show {P : Program} {w : World} {H : Hp} {h : Heap} {c : Addr} {o : Obj} (k : HOk P w H h) (n : H c = none) (e : h.get? c = some o) : HOk P w (upd H c (Fz o)) h := fun b u q => by
  by_cases z : b = c
  · subst z
    rw [upd_same] at q
    cases q
    exact fz_ok e
  · rw [upd_ne z] at q
    refine (k b u q).stay (fun _ _ _ y => y) (fun d y => ?_) fun d xs y => ?_
    · rw [upd_ne (ne_of_none y n)]; exact y
    · rw [upd_ne (ne_of_none y n)]; exact y
theorem Un.unshow {fs : List Addr} {H H2 : Hp} {h h2 : Heap} {c : Addr} {o : Obj} {P : Program} {w : World} (n : H c = none) (e : h.get? c = some o) (hf : c ∉ fs) (u : Un fs [] (upd H c (Fz o)) H2 h h2) (k : HOk P w H2 h2) : Un fs [] H (hid H2 c) h h2 ∧ HOk P w (hid H2 c) h2 ∧ H2 c = some (Fz o) := by
  have e2 : H2 c = some (Fz o) := u.frzs c o _ upd_same
  refine ⟨⟨fun b ob q hn hb hx => ?_, fun b ob q hn hb hx => ?_, fun b ob q hn hx => ?_, fun b ob q hx => u.there b ob q hx, fun b xs q => ?_, fun b ob v q => ?_, fun b ps q => ?_⟩, k.hide e2, e2⟩
  · by_cases z : b = c
    · subst z
      rw [e] at q
      cases q
      exact fz_get k e2
    · exact u.keep b ob q (by rw [upd_ne z]; exact hn) hb hx
  · have z : b ≠ c := fun y => hf (by rw [← y]; exact hb)
    exact u.slot b ob q (by rw [upd_ne z]; exact hn) hb hx
  · by_cases z : b = c
    · rw [z]; exact hid_self
    · rw [hid_ne z]; exact u.free b ob q (by rw [upd_ne z]; exact hn) hx
  · have z : b ≠ c := ne_of_none q n
    rw [hid_ne z]; exact u.tups b xs (by rw [upd_ne z]; exact q)
  · have z : b ≠ c := ne_of_none q n
    rw [hid_ne z]; exact u.frzs b ob v (by rw [upd_ne z]; exact q)
  · have z : b ≠ c := ne_of_none q n
    rw [hid_ne z]; exact u.tbls b ps (by rw [upd_ne z]; exact q)
noncomputable def CodeIs (o : Obj) (qual : Str) : Prop := ∃ vs t, o.data = .fields vs ∧ (vs[1]? : Option Value) = some (.str qual t)
noncomputable def tLam (P : Addr) (pos : Pos) (qual : Str) (mk : Addr → Value → Obj) : TE := fun _ H Q => ∃ ps, H P = some (.tbl ps) ∧ TriplesOk ps.toList ∧
  ((codeAmong pos ps.toList = none ∧ ∀ f c' oc ctv, H f = none → H c' = none → f ≠ c' → CodeIs oc qual → Q (.ref f) (upd (upd (upd H P (.tbl (ps ++ #[rawInt pos.line, rawInt pos.col, .ref c']))) c' (Fz oc)) f (Fz (mk c' ctv)))) ∨
   (∃ c', codeAmong pos ps.toList = some (.ref c') ∧ ∀ f ctv, H f = none → Q (.ref f) (upd H f (Fz (mk c' ctv)))))
section
variable {X : Cx}
theorem pe_lam {params : Arguments} {body : Expr} {scope : Scope} {pos : Pos} {c P : Addr} {clos : List (Str × Addr)} (hcode : X.env.code = .ref c) (hC : PySem.W.CodeHd X.base c P) (hB : X.base.BuiltinsAt X.mg P) (hcl : closureFor scope X.env = pure clos) (hdef : defaultsOf params X.env = ([], [])) :
    PE X (.Lambda params body scope pos) (tLam P pos (X.env.qual ++ "<lambda>") fun c' ctv => PySem.W.kla_obj "<lambda>" (X.env.qual ++ "<lambda>") params body scope clos ((X.mg "__name__").getD .none) c' ctv) := by
  intro pins s σ H Q I h
  obtain ⟨ps, hP, ht, hcase⟩ := h
  have eP : s.heap.get? P = some (PySem.W.tabObj ps) := I.hok P _ hP
  have hns := I.mod.glob.keeps I.bk
  have hgP : mainGlobals ≠ P := fun q => by
    obtain ⟨o, es, ep, e, hd, _⟩ := hns
    rw [q, eP] at e; cases e; cases hd
  obtain ⟨bm, ob, b1, b2, b3, b4, b5, b6⟩ := hB
  have hB' : s.heap.BuiltinsAt X.mg P := ⟨bm, ob, b1, b2, b3, b4, I.bk _ _ b5, b6⟩
  have hC' := hC.keeps I.bk
  refine PySem.W.kla_eval hdef ?_
  rcases hcase with ⟨hno, q⟩ | ⟨c', hc', q⟩
  · refine PySem.W.kla_makeFunction hcl I.ok.glob hns hcode hC' eP ht hno hgP hB' fun c' ctv h' tk hx hge hlt hrec htb => ?_
    obtain ⟨c2, oc, vs, t, e2, hoc, hd, hv⟩ := hrec
    cases e2
    have fresh : ∀ b, s.heap.objs.size ≤ b → H b = none := fun b hb => I.hok.fresh hb
    have hf : s.heap.objs.size ≤ h'.objs.size := Nat.le_trans hge (Nat.le_of_lt hlt)
    have nfc : h'.objs.size ≠ c' := Nat.ne_of_gt hlt
    have nPc : P ≠ c' := fun z => by rw [z, fresh c' hge] at hP; cases hP
    have nPf : P ≠ h'.objs.size := fun z => by rw [z, fresh _ hf] at hP; cases hP
    have kp : ∀ b o, b ≠ P → s.heap.get? b = some o → (h'.push (PySem.W.kla_obj "<lambda>" (X.env.qual ++ "<lambda>") params body scope clos ((X.mg "__name__").getD .none) c' ctv)).get? b = some o := fun b o hb e => Heap.get?_push_of_some _ (hx b o hb e)
    have old : ∀ b o, H b = some o → b ≠ c' ∧ b ≠ h'.objs.size := fun b o e => ⟨ne_of_none e (fresh c' hge), ne_of_none e (fresh _ hf)⟩
    have at_ : ∀ b o, b ≠ P → H b = some o → upd (upd (upd H P (.tbl (ps ++ #[rawInt pos.line, rawInt pos.col, .ref c']))) c' (Fz oc)) h'.objs.size (Fz (PySem.W.kla_obj "<lambda>" (X.env.qual ++ "<lambda>") params body scope clos ((X.mg "__name__").getD .none) c' ctv)) b = some o := fun b o hb e => by
      rw [upd_ne (old b o e).2, upd_ne (old b o e).1, upd_ne hb]; exact e
    refine ⟨.ref h'.objs.size, _, I.un (t' := tk) (H' := upd (upd (upd H P (.tbl (ps ++ #[rawInt pos.line, rawInt pos.col, .ref c']))) c' (Fz oc)) h'.objs.size (Fz (PySem.W.kla_obj "<lambda>" (X.env.qual ++ "<lambda>") params body scope clos ((X.mg "__name__").getD .none) c' ctv))) ?_ ?_, rfl, q _ c' oc ctv (fresh _ hf) (fresh _ hge) nfc ⟨vs, t, hd, hv⟩⟩
    · refine ⟨fun b o e n hb hx' => kp b o (fun z => by rw [z, hP] at n; cases n) e, fun b o e n hb hx' => ⟨o.slots, kp b o (fun z => by rw [z, hP] at n; cases n) e⟩, fun b o e n hx' => ?_, fun b o e hx' => ?_, fun b xs e => at_ b _ (fun z => by rw [z, hP] at e; cases e) e, fun b o' v e => at_ b _ (fun z => by rw [z, hP] at e; cases e) e, fun b ps' e => ?_⟩
      · have l := Heap.lt_size e
        rw [upd_ne (Nat.ne_of_lt (Nat.lt_of_lt_of_le l hf)), upd_ne (Nat.ne_of_lt (Nat.lt_of_lt_of_le l hge)), upd_ne (fun z => by rw [z, hP] at n; cases n)]
        exact n
      · by_cases z : b = P
        · exact ⟨_, by rw [z]; exact Heap.get?_push_of_some _ htb⟩
        · exact ⟨o, kp b o z e⟩
      · by_cases z : b = P
        · subst z
          rw [hP] at e
          cases e
          exact ⟨_, by rw [upd_ne nPf, upd_ne nPc, upd_same]⟩
        · exact ⟨#[], by rw [at_ b _ z e]; simp⟩
    · intro b o e
      by_cases z1 : b = h'.objs.size
      · subst z1
        rw [upd_same] at e
        cases e
        exact fz_ok (Heap.get?_push_size _ rfl)
      · rw [upd_ne z1] at e
        by_cases z2 : b = c'
        · subst z2
          rw [upd_same] at e
          cases e
          exact fz_ok (Heap.get?_push_of_some _ hoc)
        · rw [upd_ne z2] at e
          by_cases z3 : b = P
          · subst z3
            rw [upd_same] at e
            cases e
            exact Heap.get?_push_of_some _ htb
          · rw [upd_ne z3] at e
            refine (I.hok b o e).stay (fun d u hd' q' => kp d u ?_ q') (fun d q' => at_ d _ (fun z => by rw [z, hP] at q'; cases q') q') fun d xs q' => at_ d _ (fun z => by rw [z, hP] at q'; cases q') q'
            rcases hd' with rfl | hd'
            · exact z3
            · exact fun z => by rw [z, hP] at hd'; cases hd'
  · refine PySem.W.kla_makeFunctionHit hcl I.ok.glob hns hcode hC' eP ht hc' hB' fun ctv h' tk hk hsz => ?_
    have kp : ∀ b o, s.heap.get? b = some o → (h'.push (PySem.W.kla_obj "<lambda>" (X.env.qual ++ "<lambda>") params body scope clos ((X.mg "__name__").getD .none) c' ctv)).get? b = some o := fun b o e => Heap.get?_push_of_some _ (hk b o e)
    exact ⟨.ref h'.objs.size, _, I.laid (t' := tk) kp hsz (fz_ok (Heap.get?_push_size _ rfl)), rfl, q _ ctv (I.hok.fresh hsz)⟩
end
end L2
set_option maxHeartbeats 4000000
namespace L2
open PySem PySem.Spec PyProof.Rows
theorem Env0.showing {P : Program} {w : World} {K : PySem.W.Frag} {mg : Str → Option Value} {base : Heap} {A : Around} {outer : List Env} {s : Shared} {H : Hp} {c : Addr} {o : Obj} (e0 : Env0 P w K mg base A outer s H) (n : H c = none) (e : s.heap.get? c = some o) (hf : c ∉ frs outer) (hb : base.get? c = none) : Env0 P w K mg base A outer s (upd H c (Fz o)) :=
  ⟨e0.frames, e0.mod, fun b ob q => ⟨(e0.bs b ob q).1, by rw [upd_ne (fun z => by rw [z, hb] at q; cases q)]; exact (e0.bs b ob q).2⟩, e0.bsz, e0.funs, fun b hb' => by rw [upd_ne (fun z => hf (by rw [← z]; exact hb'))]; exact e0.frf b hb', e0.hok.show n e, e0.bare⟩
theorem CE.unshow {outer : List Env} {P : Program} {w : World} {H : Hp} {s s' : Shared} {Q : VK} {u : Value} {c : Addr} {o : Obj} (n : H c = none) (e : s.heap.get? c = some o) (hf : c ∉ frs outer) (h : CE outer P w (upd H c (Fz o)) s (fun v H2 => H2 c = some (Fz o) → Q v (hid H2 c)) u s') : CE outer P w H s Q u s' := by
  obtain ⟨v, H2, os, bare, un, hok, r, q⟩ := h
  obtain ⟨un', hok', e2⟩ := un.unshow n e hf hok
  exact ⟨v, _, os, bare, un', hok', r, q e2⟩
noncomputable def tCallW (cS : Addr) (i : Nat) (sp : Sp) (t : TA) : TE := fun σ H Q => t σ H fun vs H1 => ∃ v, σ[i]? = some (some v) ∧ ∀ o u, RelV v u → o.data = .cell (some u) → H1 cS = none → sp vs (upd H1 cS (Fz o)) (fun r H2 => H2 cS = some (Fz o) → Q r (hid H2 cS)) E0
section
variable {X : Cx} {k : Nat} {f : Addr} {fd : FuncData} {ps : List Str} {sp : Sp} {x : Str} {p pos : Pos} {e : Expr} {es : List Expr} {t : TA}
theorem cell_of {pins : List (Addr × Obj)} {σ : St} {H : Hp} {s : Shared} {i : Nat} {y : Str} {v : V} {c : Addr} (I : Inv X pins σ H s) (hN : X.N[i]? = some y) (hσ : σ[i]? = some (some v)) (hk : X.env.kindOf y = some .cell) (hc : X.env.cells.lookup y = some c) (hfn : X.fn y = true) :
    ∃ o u, RelV v u ∧ s.heap.get? c = some o ∧ o.data = .cell (some u) ∧ H c = none ∧ c ∉ frs X.stack ∧ X.base.get? c = none := by
  obtain ⟨m, hn, hl⟩ := I.loc
  have cab := I.ok.cab y c hfn hc
  obtain ⟨u, ru, lk⟩ := hl i y v hN hσ (.inr (.inl hk))
  rcases lk with ⟨k1, _⟩ | ⟨_, c', e1, o, ho, hd⟩
  · rw [hk] at k1; cases k1
  · rw [hc] at e1
    cases e1
    refine ⟨o, u, ru, ho, hd, I.freeC y c hc, fun hb => ?_, Heap.get?_none_of_le (Nat.le_trans I.ok.bsz cab)⟩
    rcases List.mem_cons.mp (I.stkSub c hb) with z | z
    · exact I.cne y c hc z
    · obtain ⟨_, ob, hob, _⟩ := I.ok.funs.mem z
      exact absurd (Nat.lt_of_lt_of_le (Heap.lt_size hob) cab) (Nat.lt_irrefl _)
theorem pe_callW {cS : Addr} {i : Nat} {y : Str} (F : FnOk X.prog X.w X.K X.mg X.base CX0 k f fd ps sp) (hr : Room k X.A) (hg : Gl X x) (hm : X.mg x = some (.ref f)) (hk : PySem.W.keepIn X.K (.ref f) = true) (hb : Binds X.K fd ps [])
    (hN : X.N[i]? = some y) (hky : X.env.kindOf y = some .cell) (hc : X.env.cells.lookup y = some cS) (hfn : X.fn y = true)
    (ha : PA X (e :: es) t) (hdb : (x == ("__debug__" : Str)) = false := by decide) (he : starEach (e :: es) X.env = (false, eval e X.env) :: starEach es X.env := by rfl) (hpl : (backTo pos (starEach es X.env)).any (·.1) = false := by rfl) :
    PE X (.Call (.Name x p) (e :: es) [] pos) (tCallW cS i sp t) := by
  intro pins s σ H Q I h
  refine wpAny_Call_Name_kw (ld_glob I hg hm ?_ hdb)
  refine PySem.W.callWith_K (h₀ := X.base) I.ok.mod.kin hk (thn (ha pos pins s σ H _ I h) fun us s1 ⟨vs, H1, I1, r, q⟩ => ⟨I1.kIn, ?_⟩) he hpl
  obtain ⟨v, hσ, q⟩ := q
  obtain ⟨o, u, ru, ho, hd, n, nf, nb⟩ := cell_of I1 hN hσ hky hc hfn
  have sp1 := q o u ru hd n
  have hl : (us ++ []).length = ps.length := by rw [List.append_nil, ← r.length]; exact F.len _ _ _ _ sp1
  have bd := hb s1 us I1.kIn hl
  rw [List.append_nil] at bd
  refine wpAny_call (codeAny_mono (F.run X.A X.stack s1 _ ⟨us, []⟩ us vs _ _ hr (I1.env0.showing n ho nf nb) bd r sp1) fun r s' hq => ?_)
  cases r with
  | error e => exact False.elim hq
  | ok fl =>
    cases fl with
    | ret u => exact I1.after (CE.unshow n ho nf hq)
    | next => exact False.elim hq
    | brk => exact False.elim hq
    | cont => exact False.elim hq
noncomputable def tCallV {Par : Type} (fOf : Par → Addr) (i : Nat) (sp : Par → Sp) (t : TA) : TE := fun σ H Q => ∃ π, σ[i]? = some (some (.ref (fOf π))) ∧ t σ H fun vs H1 => (∃ cl d fd sl, H1 (fOf π) = some (Fz ⟨cl, d, .func fd, sl⟩)) ∧ sp π vs H1 Q E0
theorem keeps_V {M : Model} {a : Addr} (h : Heap) (X : ∃ cl d fd sl, h.get? a = some ⟨cl, d, .func fd, sl⟩) : ∃ k, (k = Keeper.frame ∨ k = Keeper.machine ∨ k = Keeper.boundFrame) ∧ PySem.W.Looks M h (keeperOf (.ref a)) k := by
  obtain ⟨cl, d, fd, sl, q⟩ := X
  exact ⟨.frame, .inl rfl, (PySem.W.Looks.ld (part := none) q).andThen .now⟩
theorem pe_callV {Par : Type} {fOf : Par → Addr} {fdOf : Par → FuncData} {sp : Par → Sp} {i : Nat} (F : ∀ π, FnOk X.prog X.w X.K X.mg X.base CX0 k (fOf π) (fdOf π) ps (sp π)) (hr : Room k X.A) (hb : ∀ π, Binds X.K (fdOf π) ps []) (hn : PE X (.Name x p) (tVar i))
    (ha : PA X (e :: es) t) (he : starEach (e :: es) X.env = (false, eval e X.env) :: starEach es X.env := by rfl) (hpl : (backTo pos (starEach es X.env)).any (·.1) = false := by rfl) :
    PE X (.Call (.Name x p) (e :: es) [] pos) (tCallV fOf i sp t) := by
  intro pins s σ H Q I h
  obtain ⟨π, hσ, h⟩ := h
  refine wpAny_Call_Name_kw (thn (hn pins s σ H (fun v H' => v = .ref (fOf π) ∧ H' = H) I ⟨_, hσ, rfl, rfl⟩) fun fv s0 ⟨v, H0, I0, rv, e1, e2⟩ => ?_)
  subst e1 e2
  obtain rfl : fv = Value.ref (fOf π) := rv
  have hh := thn (ha pos pins s0 σ H0 _ I0 h) (Q' := fun us s1 => (∃ cl d fd sl, s1.heap.get? (fOf π) = some ⟨cl, d, .func fd, sl⟩) ∧ wpAny (model X.prog X.w) X.A (call (.ref (fOf π)) ([] ++ us)) (EP X pins σ Q) X.xe s1) fun us s1 ⟨vs, H1, I1, r, ⟨cl, d, fd, sl, hf⟩, q⟩ => by
    refine ⟨⟨cl, d, fd, sl, fz_get I1.hok hf⟩, ?_⟩
    exact run_fn (dvs := []) (ds := []) (F π) hr (hb π) .nil pass0 I1 r (by rw [List.append_nil]; exact q)
  rw [he] at hh ⊢
  exact PySem.W.callWith_of (by show ((false || (backTo pos (starEach es X.env)).any (·.1)) || false) = false; rw [hpl]; rfl) keeps_V (PySem.Calls.evalArgs_plain hh)
end
end L2
set_option maxHeartbeats 4000000
namespace L2
open PySem PySem.Spec PyProof.Rows
noncomputable def cxL (P : Program) (w : World) (K : PySem.W.Frag) (mg : Str → Option Value) (base : Heap) (N : List Str) (qual : Str) (scope : Scope) (f c' : Addr) (cl : List (Str × Addr)) (A : Around) (outer : List Env) (s : Shared) (H : Hp) : Cx where
  prog := P
  w := w
  K := K
  mg := mg
  base := base
  A := A.deeper (PySem.W.envX qual scope s.heap.objs.size f (.ref c') cl)
  N := N
  s₀ := s
  H₀ := H
  env := PySem.W.envX qual scope s.heap.objs.size f (.ref c') cl
  outer := outer
  stack := PySem.W.envX qual scope s.heap.objs.size f (.ref c') cl :: outer
  ex := []
  calm := true
  fn := fun _ => false
  pn := []
  xe := fun _ _ => False
noncomputable def hidL (H : Hp) : List Addr → Hp
  | [] => H
  | c :: cs => hidL (hid H c) cs
noncomputable def shwL (H : Hp) : List (Addr × Obj) → Hp
  | [] => H
  | (c, o) :: r => upd (shwL H r) c (Fz o)
theorem hidL_none : ∀ {cs : List Addr} {H : Hp} {b : Addr}, H b = none → hidL H cs b = none
  | [], _, _, h => h
  | c :: cs, H, b, h => hidL_none (cs := cs) (by by_cases z : b = c
                                                 · rw [z, hid_self]
                                                 · rw [hid_ne z]; exact h)
theorem hidL_in : ∀ {cs : List Addr} {H : Hp} {b : Addr}, b ∈ cs → hidL H cs b = none
  | c :: cs, H, b, h => by
    show hidL (hid H c) cs b = none
    rcases List.mem_cons.mp h with e | h
    · rw [e]; exact hidL_none hid_self
    · exact hidL_in (cs := cs) h
theorem hidL_out : ∀ {cs : List Addr} {H : Hp} {b : Addr}, b ∉ cs → hidL H cs b = H b
  | [], _, _, _ => rfl
  | c :: cs, H, b, h => by
    have h1 : b ≠ c := fun z => h (by rw [z]; exact .head _)
    have h2 : b ∉ cs := fun z => h (.tail _ z)
    exact (hidL_out (cs := cs) h2).trans (hid_ne h1)
theorem shwL_out : ∀ {l : List (Addr × Obj)} {H : Hp} {b : Addr}, b ∉ l.map (·.1) → shwL H l b = H b
  | [], _, _, _ => rfl
  | (c, o) :: r, H, b, h => by
    have h1 : b ≠ c := fun z => h (by rw [z]; exact .head _)
    have h2 : b ∉ r.map (·.1) := fun z => h (.tail _ z)
    show upd (shwL H r) c (Fz o) b = _
    rw [upd_ne h1]
    exact shwL_out h2
theorem shwL_in {H : Hp} {c : Addr} {o : Obj} : ∀ (l : List (Addr × Obj)), (l.map (·.1)).Nodup → (c, o) ∈ l → shwL H l c = some (Fz o) := by
  intro l
  induction l with
  | nil => intro _ h; exact absurd h List.not_mem_nil
  | cons p r ih =>
    intro nd h
    have nd' := List.nodup_cons.mp nd
    show upd (shwL H r) p.1 (Fz p.2) c = _
    rcases List.mem_cons.mp h with e | h
    · rw [← e, upd_same]
    · have ne : c ≠ p.1 := fun z => nd'.1 (List.mem_map.mpr ⟨(c, o), h, z⟩)
      rw [upd_ne ne]
      exact ih nd'.2 h
theorem HOk.hideL {P : Program} {w : World} {H : Hp} {h : Heap} (l : List (Addr × Obj)) (k : HOk P w H h) (e : ∀ p ∈ l, H p.1 = some (Fz p.2)) : HOk P w (hidL H (l.map (·.1))) h := fun b u q => by
  by_cases z : b ∈ l.map (·.1)
  · rw [hidL_in z] at q; cases q
  · rw [hidL_out z] at q
    have nz : ∀ d o, H d = some o → (∀ ob, o ≠ Fz ob) → d ∉ l.map (·.1) := fun d o hd ho hm => by
      obtain ⟨p, hp, rfl⟩ := List.mem_map.mp hm
      rw [e p hp] at hd
      exact ho _ (Option.some.inj hd).symm
    refine (k b u q).stay (fun _ _ _ y => y) (fun d y => ?_) fun d xs y => ?_
    · rw [hidL_out (nz d _ y fun ob hh => by cases hh)]; exact y
    · rw [hidL_out (nz d _ y fun ob hh => by cases hh)]; exact y
theorem HOk.showL {P : Program} {w : World} {h : Heap} : ∀ {l : List (Addr × Obj)} {H : Hp}, HOk P w H h → (l.map (·.1)).Nodup → (∀ p ∈ l, H p.1 = none) → (∀ p ∈ l, h.get? p.1 = some p.2) → HOk P w (shwL H l) h
  | [], _, k, _, _, _ => k
  | (c, o) :: r, H, k, nd, n, e => by
    have nd' := List.nodup_cons.mp nd
    have k' := HOk.showL (l := r) k nd'.2 (fun p hp => n p (.tail _ hp)) fun p hp => e p (.tail _ hp)
    exact k'.show (by rw [shwL_out nd'.1]; exact n _ (.head _)) (e _ (.head _))
structure LamScope (N ps ys : List Str) (sc : Scope) : Prop where
  kind : sc.kind = .function
  co : sc.isCoroutine = false
  gen : sc.isGenerator = false
  len : N = ps ++ ys
  nocell : ∀ x ∈ sc.names, x.2 ≠ .cell
  par : ∀ x ∈ ps, sc.names.lookup x = some .local
  fre : ∀ y ∈ ys, sc.names.lookup y = some .free
  only : ∀ x, sc.names.lookup x = some .free → x ∈ ys
  look : ∀ us : List Value, us.length = ps.length → ∀ (i : Nat) (x : Str) (u : Value), ps[i]? = some x → us[i]? = some u → (ps.zip us).reverse.lookup x = some u
theorem clo_ok {P : Program} {w : World} {K : PySem.W.Frag} {mg : Str → Option Value} {base : Heap} {k : Nat} {f c' : Addr} {name qual : Str} {params : Arguments} {body : Expr} {scope : Scope} {ys : List Str} {cs : List Addr} {pm ctv : Value} {N ps : List Str} {sp : Sp} {cl : List (Str × Addr)}
    (S : LamScope N ps ys scope) (hcl : ∀ (i : Nat) y c, ys[i]? = some y → cs[i]? = some c → cl.lookup y = some c) (hcm : ∀ y c, cl.lookup y = some c → y ∈ ys ∧ c ∈ cs) (hly : ys.length = cs.length) (hinj : ∀ x y c, cl.lookup x = some c → cl.lookup y = some c → x = y) (nd : cs.Nodup)
    (len : ∀ vs H Q E, sp vs H Q E → vs.length = ps.length)
    (hbody : ∀ (A : Around) (outer : List Env) (s : Shared) (H : Hp) (vs : List V) (Q : VK) (E : XK), Room k (A.deeper (PySem.W.envX qual scope s.heap.objs.size f (.ref c') cl)) → sp vs H Q E →
      H f = some (Fz (PySem.W.kla_obj name qual params body scope cl pm c' ctv)) ∧ (∃ oc, H c' = some (Fz oc) ∧ CodeIs oc qual) ∧
      ∃ (os : List Obj) (ws : List V), os.length = cs.length ∧ ws.length = cs.length ∧ (∀ (i : Nat) c o v, cs[i]? = some c → os[i]? = some o → ws[i]? = some v → H c = some (Fz o) ∧ ∃ u, RelV v u ∧ o.data = .cell (some u)) ∧
      ∃ t, PE (cxL P w K mg base N qual scope f c' cl A outer s (hidL H cs)) body t ∧ t (vs.map some ++ ws.map some) (hidL H cs) fun r H2 => (∀ c ∈ cs, H2 c = none) → Q r (shwL H2 (cs.zip os))) :
    FnOk P w K mg base CX0 (k + 1) f (PySem.W.kla_fn name qual params body scope cl pm (.ref c') ctv) ps sp := by
  refine ⟨len, fun A outer s H args us vs Q E hr e0 hb r hsp => ?_⟩
  have hl := len _ _ _ _ hsp
  have hlu : us.length = ps.length := by rw [← r.length]; exact hl
  obtain ⟨hf, ⟨oc, hoc, cv, ct, hcd, hcv⟩, os, ws, lo, lw, hcells, t, ht, hq⟩ := hbody A outer s H vs Q E (hr.deeper _) hsp
  have lim : s.heap.NoLimit := e0.mod.nolimit.keeps fun b o e => (e0.bs b o e).1
  have cellAt : ∀ c ∈ cs, ∃ (i : Nat) (o : Obj) (v : V) (u : Value), cs[i]? = some c ∧ os[i]? = some o ∧ ws[i]? = some v ∧ H c = some (Fz o) ∧ RelV v u ∧ o.data = .cell (some u) := fun c hc => by
    obtain ⟨i, hi⟩ := List.mem_iff_getElem?.mp hc
    have hil := (List.getElem?_eq_some_iff.mp hi).1
    have e1 := List.getElem?_eq_getElem (show i < os.length by omega)
    have e2 := List.getElem?_eq_getElem (show i < ws.length by omega)
    obtain ⟨a, u, b, d⟩ := hcells i c _ _ hi e1 e2
    exact ⟨i, _, _, u, hi, e1, e2, a, b, d⟩
  have pairs : ∀ p ∈ cs.zip os, H p.1 = some (Fz p.2) := fun p hp => by
    obtain ⟨i, hi⟩ := List.mem_iff_getElem?.mp hp
    rw [List.getElem?_zip_eq_some] at hi
    have hil := (List.getElem?_eq_some_iff.mp hi.1).1
    have e2 := List.getElem?_eq_getElem (show i < ws.length by omega)
    exact (hcells i _ _ _ hi.1 hi.2 e2).1
  have mapz : (cs.zip os).map (·.1) = cs := List.map_fst_zip (by omega)
  have nfr : ∀ c ∈ cs, c ∉ frs outer := fun c hc hm => by
    obtain ⟨_, o, _, _, _, _, _, e, _⟩ := cellAt c hc
    rw [e0.frf c hm] at e; cases e
  refine PySem.W.kla_callFunE hr.depth (fz_get e0.hok hf) rfl S.co S.gen rfl ⟨c', oc, cv, ct, rfl, fz_get e0.hok hoc, hcd, hcv⟩ (hb _ _ _ _ ?_)
  refine wpAny_newFunctionEnv S.nocell (fun x hx => S.par _ (List.of_mem_zip hx).1) (fun h₁ hns hsb => ?_) S.kind
  have hk₁ : ∀ b o, s.heap.get? b = some o → h₁.get? b = some o := fun b o e => hsb.extBut b o (Nat.ne_of_lt (Heap.lt_size e)) (Heap.get?_push_of_some _ e)
  refine ⟨lim.keeps hk₁, ?_⟩
  show codeAny _ _ (.expr body (PySem.W.envX qual scope s.heap.objs.size f (.ref c') cl)) _ _
  have hok' : HOk P w (hidL H cs) s.heap := by have := e0.hok.hideL (cs.zip os) pairs; rw [mapz] at this; exact this
  have noA : ∀ b : Addr, b ∉ (cxL P w K mg base N qual scope f c' cl A outer s (hidL H cs)).ex := fun b z => absurd (show b ∈ ([] : List Addr) from z) (by simp)
  have I : Inv (cxL P w K mg base N qual scope f c' cl A outer s (hidL H cs)) [] (vs.map some ++ ws.map some) (hidL H cs) { s with heap := h₁, toks := s.toks + (ps.zip us).length } := by
    refine ⟨⟨e0.mod, S.kind, rfl, rfl, Nat.le_refl _, hinj, fun y hy => ?_, fun y c hfn _ => absurd (show false = true from hfn) Bool.false_ne_true, fun _ => hr.hd, Around.frames_deeper e0.frames, .inr ⟨rfl, rfl⟩, fun b z => absurd z (noA b), fun b o e => ⟨(e0.bs b o e).1, hidL_none (e0.bs b o e).2⟩, e0.bsz, fun b _ _ => noA b, fun b z => absurd z (noA b), e0.funs, fun b hb' => hidL_none (e0.frf b hb')⟩,
      rfl, e0.bare, Un.kept hk₁, ⟨_, hns, fun i x v h1 h2 h3 => ?_⟩, fun y c h => ?_, hok'.fresh (Nat.le_refl _), fun y c h => hidL_in (hcm y c h).2, fun p hp => absurd (show p ∈ ([] : List (Addr × Obj)) from hp) (by simp), hok'.kept hk₁, ?_⟩
    · have hy : scope.names.lookup y = some .cell ∨ scope.names.lookup y = some .free := hy
      rcases hy with hy | hy
      · exact absurd rfl (S.nocell _ (PySem.mem_of_lookup hy))
      · obtain ⟨i, hi⟩ := List.mem_iff_getElem?.mp (S.only y hy)
        have hil := (List.getElem?_eq_some_iff.mp hi).1
        exact ⟨_, hcl i y _ hi (List.getElem?_eq_getElem (show i < cs.length by omega))⟩
    · have h1 : (ps ++ ys)[i]? = some x := by rw [← S.len]; exact h1
      by_cases hi : i < ps.length
      · rw [List.getElem?_append_left hi] at h1
        rw [List.getElem?_append_left (by simp; omega), List.getElem?_map] at h2
        cases ev : vs[i]? with
        | none => rw [ev] at h2; cases h2
        | some v' =>
          rw [ev] at h2
          cases h2
          obtain ⟨u, hu, ru⟩ := r.get ev
          exact ⟨u, ru, .inl ⟨S.par x (List.mem_of_getElem? h1), S.look us hlu i x u h1 hu⟩⟩
      · rw [List.getElem?_append_right (by omega)] at h1
        rw [List.getElem?_append_right (by simp; omega), List.getElem?_map, List.length_map] at h2
        rw [hl] at h2
        cases ev : ws[i - ps.length]? with
        | none => rw [ev] at h2; cases h2
        | some v' =>
          rw [ev] at h2
          cases h2
          have hil := (List.getElem?_eq_some_iff.mp ev).1
          have ec := List.getElem?_eq_getElem (show i - ps.length < cs.length by omega)
          have eo := List.getElem?_eq_getElem (show i - ps.length < os.length by omega)
          obtain ⟨a, u, b, d⟩ := hcells _ _ _ _ ec eo ev
          exact ⟨u, b, .inr ⟨.inr (S.fre x (List.mem_of_getElem? h1)), _, hcl _ x _ h1 ec, _, hk₁ _ _ (fz_get e0.hok a), d⟩⟩
    · obtain ⟨i, o, v, u, _, _, _, a, b, d⟩ := cellAt c (hcm y c h).2
      exact ⟨_, o, hk₁ _ _ (fz_get e0.hok a), d⟩
    · show (vs.map some ++ ws.map some).length = N.length
      rw [S.len, List.length_append, List.length_append, List.length_map, List.length_map]
      omega
  refine PySem.W.kla_codeExpr (wpAny_mono (ht [] _ _ _ _ I hq) (fun v s' hs => ?_) fun e s' hs => False.elim hs)
  obtain ⟨v', H', J, rv, q⟩ := hs
  have nin : ∀ b, H b = none → b ∉ cs := fun b e hm => by
    obtain ⟨_, o, _, _, _, _, _, a, _⟩ := cellAt b hm
    rw [e] at a; cases a
  have out : ∀ b, b ∉ cs → shwL H' (cs.zip os) b = H' b := fun b hb => shwL_out (by rw [mapz]; exact hb)
  have JB : Un (frs outer) [] (hidL H cs) H' s.heap s'.heap := J.base
  have exact_ : ∀ p ∈ cs.zip os, s'.heap.get? p.1 = some p.2 := fun p hp => by
    have hc : p.1 ∈ cs := (List.of_mem_zip hp).1
    exact JB.keep p.1 p.2 (fz_get e0.hok (pairs p hp)) (hidL_in hc) (nfr _ hc) (by simp)
  have freeC : ∀ p ∈ cs.zip os, H' p.1 = none := fun p hp => by
    have hc : p.1 ∈ cs := (List.of_mem_zip hp).1
    exact JB.free p.1 p.2 (fz_get e0.hok (pairs p hp)) (hidL_in hc) (by simp)
  have freeA : ∀ c ∈ cs, H' c = none := fun c hc => by
    obtain ⟨_, o, _, _, _, _, _, e, _⟩ := cellAt c hc
    exact JB.free c o (fz_get e0.hok e) (hidL_in hc) (by simp)
  refine ⟨v', _, J.os, J.bare, ⟨fun b o e n hb hx => ?_, fun b o e n hb hx => ?_, fun b o e n hx => ?_, fun b o e hx => JB.there b o e hx, fun b xs e => ?_, fun b o v e => ?_, fun b ps' e => ?_⟩, J.hok.showL (by rw [mapz]; exact nd) freeC exact_, rv, q freeA⟩
  · exact JB.keep b o e (hidL_none n) hb hx
  · exact JB.slot b o e (hidL_none n) hb hx
  · rw [out b (nin b n)]
    exact JB.free b o e (hidL_none n) hx
  · have nb : b ∉ cs := fun hm => by
      obtain ⟨_, o, _, _, _, _, _, a, _⟩ := cellAt b hm
      rw [e] at a; cases a
    rw [out b nb]
    exact JB.tups b xs (by rw [hidL_out nb]; exact e)
  · by_cases nb : b ∈ cs
    · obtain ⟨i, o', _, _, e1, e2, _, a, _⟩ := cellAt b nb
      rw [e] at a
      have hm : (b, o') ∈ cs.zip os := List.mem_iff_getElem?.mpr ⟨i, List.getElem?_zip_eq_some.mpr ⟨e1, e2⟩⟩
      rw [shwL_in _ (by rw [mapz]; exact nd) hm, ← a]
    · rw [out b nb]
      exact JB.frzs b o v (by rw [hidL_out nb]; exact e)
  · have nb : b ∉ cs := fun hm => by
      obtain ⟨_, o, _, _, _, _, _, a, _⟩ := cellAt b hm
      rw [e] at a; cases a
    rw [out b nb]
    exact JB.tbls b ps' (by rw [hidL_out nb]; exact e)
end L2
set_option maxHeartbeats 4000000
namespace L2
open PySem PySem.Spec PyProof.Rows
theorem law_callT {P : Program} {w : World} {K : PySem.W.Frag} {mg mb : Str → Option Value} {CX : CXT} {k : Nat} {fa a c T : Addr} {fd : FuncData} {x : Str} {sp : Sp} {s₁ : Shared} {vs : List Value} {ns : List Int}
    (KX : K.In s₁.heap) (hns : s₁.heap.Ns mainGlobals mg) (hb : s₁.heap.Ns builtinsNs mb) (hbb : ∀ x : Str, x ≠ "__name__" → mb x = bootBuiltins x) (hlim : s₁.heap.NoLimit) (hg : s₁.gens = #[])
    (ha : s₁.heap.get? a = some { cls := .type "list", data := .seq vs.toArray }) (hi : IntsAre vs ns) (hl : ns.length ≤ sizeLine) (hr : Room k callerA)
    (hC : PySem.W.CodeHd s₁.heap c T) (hT : s₁.heap.get? T = some (PySem.W.tabObj #[])) (hKT : K.lookup T = none) (hTS : T ≠ cStatics) (hB : s₁.heap.BuiltinsAt mg T)
    (F : ∀ base : Heap, K.In base → base.Ns mainGlobals mg → PySem.W.CodeHd base c T → base.BuiltinsAt mg T → FnOk P w K mg base CX k fa fd [x] sp) (hbind : ∀ (s : Shared) (u : Value), BindsTo s fd ⟨[u], []⟩ [(x, u)])
    (hsp : ∀ H : Hp, SqL K H a (ns.map V.int) → H T = some (.tbl #[]) → sp [.ref a] H (fun v _ => v = .bl true) fun _ _ _ => False)
    (hCX : ∀ H e s', CX [] H s₁ (fun _ _ _ => False) e s' → False) :
    codeAny (model P w) callerA (.call (.ref fa) ⟨[.ref a], []⟩) (fun r s' => r = .ok (.ret (.bool true)) ∧ OldK s₁.heap s'.heap ∧ s'.os = s₁.os ∧ AllBare s'.gens) s₁ := by
  have rv := vals_ints hi
  have lenV := hi.length
  have naT : a ≠ T := fun z => by rw [z, hT] at ha; cases ha
  have core : ∀ H : Hp, (∀ b, b ≠ T → H b = none ∨ ∃ o xs, H b = some (.frz o (.lst xs))) → SqL K H a (ns.map V.int) → HOk P w H s₁.heap → (∀ b, H b ≠ none → b = a ∨ b = T) → (H a ≠ none → K.lookup a = none) → H T = some (.tbl #[]) →
      codeAny (model P w) callerA (.call (.ref fa) ⟨[.ref a], []⟩) (fun r s' => r = .ok (.ret (.bool true)) ∧ OldK s₁.heap s'.heap ∧ s'.os = s₁.os ∧ AllBare s'.gens) s₁ := by
    intro H hO hS hok hA hK hHT
    have base_of : ∀ {b : Addr} {o : Obj}, s₁.heap.get? b = some o → H b = none → (hidT s₁.heap H).get? b = some o := fun e n => hidT_get e n
    have plain : ∀ {b : Addr} {o : Obj}, s₁.heap.get? b = some o → o ≠ { cls := .type "list", data := .seq vs.toArray } → o ≠ PySem.W.tabObj #[] → H b = none := fun {b o} e n1 n2 => by
      cases q : H b with
      | none => rfl
      | some u =>
        rcases hA b (by rw [q]; simp) with z | z
        · rw [z, ha] at e; exact absurd (Option.some.inj e).symm n1
        · rw [z, hT] at e; exact absurd (Option.some.inj e).symm n2
    have nsK : ∀ {b : Addr} {m : Str → Option Value}, s₁.heap.Ns b m → (hidT s₁.heap H).Ns b m := fun {b m} ⟨o, es, ep, e, d, r⟩ => ⟨o, es, ep, base_of e (plain e (fun z => by rw [z] at d; cases d) fun z => by rw [z] at d; cases d), d, r⟩
    have hKb : K.In (hidT s₁.heap H) := fun b o e => base_of (KX b o e) (by
      cases q : H b with
      | none => rfl
      | some u =>
        rcases hA b (by rw [q]; simp) with z | z
        · subst z
          rw [hK (by rw [q]; simp)] at e; cases e
        · rw [z, hKT] at e; cases e)
    have hM : Mod K mg (hidT s₁.heap H) := ⟨hKb, nsK hns, ⟨mb, nsK hb, hbb⟩, let ⟨mc, h1, h2⟩ := hlim; ⟨mc, nsK h1, h2⟩⟩
    have e0 : Env0 P w K mg (hidT s₁.heap H) callerA [] s₁ H := ⟨rfl, hM, fun b o e => of_hidT e, Nat.le_of_eq (hidT_size _ _), trivial, fun b hb => absurd (show b ∈ ([] : List Addr) from hb) (by simp), hok, .of_eq hg⟩
    have hCb : PySem.W.CodeHd (hidT s₁.heap H) c T := by
      obtain ⟨o, cv, file, tf, flags, tg, inF, text, tt, e1, e2, e3, r⟩ := hC
      exact ⟨o, cv, file, tf, flags, tg, inF, text, tt, base_of e1 (plain e1 (fun z => by rw [z] at e3; cases e3) fun z => by rw [z] at e2; cases e2), e2, e3, r⟩
    have hBb : (hidT s₁.heap H).BuiltinsAt mg T := by
      obtain ⟨bm, ob, b1, b2, b3, b4, b5, b6, b7⟩ := hB
      exact ⟨bm, ob, b1, b2, b3, b4, base_of b5 (plain b5 (fun z => by rw [z] at b7; cases b7.2) fun z => by rw [z] at b6; cases b6), b6, b7⟩
    refine codeAny_mono ((F _ hKb (nsK hns) hCb hBb).run callerA [] s₁ H ⟨[.ref a], []⟩ [.ref a] [.ref a] _ _ hr e0 (hbind s₁ (.ref a)) (.cons rfl .nil) (hsp H hS hHT)) fun r s' h => ?_
    cases r with
    | error e => exact (hCX H e s' h).elim
    | ok fl =>
      cases fl with
      | next => exact False.elim h
      | brk => exact False.elim h
      | cont => exact False.elim h
      | ret u =>
        obtain ⟨v, H', os, bare, un, hok', r', q⟩ := h
        have q' : v = .bl true := q
        subst q'
        obtain rfl : u = Value.bool true := r'
        have kp : Heap.ExtBut T s₁.heap s'.heap := fun b o nb e => by
          cases q : H b with
          | none => exact un.keep b o e q (by intro z; exact absurd (show b ∈ ([] : List Addr) from z) (by simp)) (by simp)
          | some u =>
            rcases hO b nb with z | ⟨ob, xs, z⟩
            · rw [q] at z; cases z
            · have z2 := un.frzs b ob _ z
              obtain ⟨e1, _⟩ := hok b _ z
              obtain ⟨e2, _⟩ := hok' b _ z2
              rw [e] at e1; cases e1
              exact e2
        obtain ⟨more, hmore⟩ := un.tbls T #[] hHT
        have hT' : s'.heap.get? T = some (PySem.W.tabObj (#[] ++ more)) := hok' T _ hmore
        have hC' : PySem.W.CodeHd s'.heap c T := by
          obtain ⟨o, cv, file, tf, flags, tg, inF, text, tt, e1, e2, e3, e4, e5, e6, e7, e8, e9, ne⟩ := hC
          exact ⟨o, cv, file, tf, flags, tg, inF, text, tt, kp _ _ ne e1, e2, e3, e4, e5, e6, e7, e8, e9, ne⟩
        exact ⟨rfl, (OldK.refl s₁.heap).step_table (hC.tab hT) (hC.tab hT) (hC'.tab hT') kp hTS, os, bare⟩
  have tOk : ∀ H : Hp, ObjOk P w H s₁.heap T (.tbl #[]) := fun H => hT
  cases hk : K.lookup a with
  | some o =>
    have e := KX a o hk
    rw [ha] at e
    cases e
    refine core (fun b => if b = T then some (.tbl #[]) else none) (fun b nb => .inl (if_neg nb)) (.inr ⟨_, vs.toArray, _, hk, rfl, rfl, rfl, by rw [List.size_toArray, lenV]; exact hl, by simpa using rv⟩) (fun b u z => ?_) (fun b z => ?_) (fun z => absurd (if_neg naT) z) (if_pos rfl)
    · by_cases hb : b = T
      · have z' := (if_pos hb).symm.trans z
        cases z'
        rw [hb]
        exact tOk _
      · have z' := (if_neg hb).symm.trans z
        cases z'
    · by_cases hb : b = T
      · exact .inr hb
      · exact absurd (if_neg hb) z
  | none =>
    refine core (fun b => if b = T then some (.tbl #[]) else if b = a then some (.frz { cls := .type "list", data := .seq vs.toArray } (.lst (ns.map V.int))) else none) (fun b nb => ?_) (.inl (.inr ⟨{ cls := .type "list", data := .seq vs.toArray }, (if_neg naT).trans (if_pos rfl)⟩)) (fun b u z => ?_) (fun b z => ?_) (fun _ => hk) (if_pos rfl)
    · by_cases hb : b = a
      · exact .inr ⟨_, _, (if_neg nb).trans (if_pos hb)⟩
      · exact .inl ((if_neg nb).trans (if_neg hb))
    · by_cases hT' : b = T
      · have z' := (if_pos hT').symm.trans z
        cases z'
        rw [hT']
        exact tOk _
      · by_cases hb : b = a
        · have z' := ((if_neg hT').trans (if_pos hb)).symm.trans z
          cases z'
          subst hb
          exact ⟨ha, by rw [List.length_map]; exact hl, vs, _, rv, ha⟩
        · have z' := ((if_neg hT').trans (if_neg hb)).symm.trans z
          cases z'
    · by_cases hT' : b = T
      · exact .inr hT'
      · by_cases hb : b = a
        · exact .inl hb
        · exact absurd ((if_neg hT').trans (if_neg hb)) z
theorem walk_ofT {l : PySem.W.OpenLaw} {n k : Nat} {q : Program} {loose : List Str} {XP : (Str → Option Value) → Heap → Prop} {YP : World → Heap → Prop} {d : DefRec} {K : Params → PySem.W.Frag} {sp : PySem.W.Frag → Addr → Sp} {x tn : Str}
    (hn : l.most = some n) (hn2 : n ≤ sizeLine) (hdf : d.params.defaults = []) (hr : Room k callerA) (hrec : ((recsOf q).find? (fun e => e.name == tn)).isSome = true)
    (hY : ∀ (w : World) (h : Heap), YP w h → (K w.params).In h)
    (F : ∀ (w : World) (mg : Str → Option Value) (fa : Addr) (h : Heap), (K w.params).In h → h.Ns mainGlobals mg → mg d.name = some (.ref fa) →
      ∃ (c T : Addr) (fd : FuncData), PySem.W.tabIn (K w.params) tn = some (c, T) ∧ (K w.params).lookup T = none ∧ T ≠ cStatics ∧ (∀ (s : Shared) (u : Value), BindsTo s fd ⟨[u], []⟩ [(x, u)]) ∧
        ∀ base : Heap, (K w.params).In base → base.Ns mainGlobals mg → PySem.W.CodeHd base c T → base.BuiltinsAt mg T → FnOk l.prog w (K w.params) mg base CX0 k fa fd [x] (sp (K w.params) T))
    (hsp : ∀ (K : PySem.W.Frag) (T : Addr) (H : Hp) (a : Addr) (ns : List Int), ns.length ≤ n → (∀ i ∈ ns, Bg i) → SqL K H a (ns.map V.int) → H T = some (.tbl #[]) → sp K T [.ref a] H (fun v _ => v = .bl true) fun _ _ _ => False) :
    PySem.W.WalkO q loose XP YP l.row.toRowW d [] (fun f vs => PySem.call f vs) := by
  refine attachB hn hdf fun w s0 s1 mg mb fa o pm cd doc a vs ns G Y ho hd hcd hmg hobj hints hlen hbg hg => ?_
  have KX := hY w _ Y
  obtain ⟨c, T, fd, htab, hKT, hTS, hb, hF⟩ := F w mg fa _ KX G.T.g hmg
  obtain ⟨dt, hdt⟩ := Option.isSome_iff_exists.mp hrec
  obtain ⟨hC, hT⟩ := PySem.W.tab_of G.T KX hdt htab
  obtain ⟨bm, ob, b1, b2, b3, b4, b5, b6⟩ := G.T.bmain
  have hbT : bm ≠ T := fun z => by rw [z, hT] at b3; cases b3; cases b4
  have hbG : bm ≠ mainGlobals := fun z => by
    obtain ⟨o, es, ep, e, hd, _⟩ := G.T.g
    rw [z, e] at b3; cases b3; rw [hd] at b6; cases b6
  exact law_callT KX G.T.g G.T.b G.T.builtins G.T.nolimit hg hobj hints (Nat.le_trans hlen hn2) hr hC hT hKT hTS ⟨bm, ob, b1, b2, hbG, hbT, b3, b4, b5, b6⟩ hF hb (fun H hS hHT => hsp _ T H a ns hlen hbg hS hHT) fun H e s' h => h
theorem Fun.okC {P : Program} {w : World} {K : PySem.W.Frag} {mg : Str → Option Value} {base : Heap} {x qual : Str} {st : Stmt} {f : Addr} {N ps : List Str} {k : Nat} {sp : Sp} {oc kV doc pm cdv ct : Value} {od an : Option Addr} {osl : Array (Option Value)}
    (lk : K.lookup f = some ⟨oc, od, .func (PySem.W.fnOf x qual (defArgs st) (defBody st) (defScope st) .none kV doc pm an cdv ct), osl⟩) (hcd : PySem.W.codeIn K cdv qual = true) (S : FnScope N ps (defScope st)) (len : ∀ vs H Q E, sp vs H Q E → vs.length = ps.length)
    (hbody : ∀ (A : Around) (outer : List Env) (s : Shared) (H : Hp) (vs : List V) (Q : VK) (E : XK), Room k (A.deeper (envOfC qual (defScope st) s.heap.objs.size f cdv)) → sp vs H Q E →
      ∃ t, PSs (cxOf CX0 P w K mg base N qual (defScope st) f cdv A outer s H E).nox (defBody st) t ∧ t { nx := fun _ H' => Q .non H', rt := Q } (start N vs) H) : FnOk P w K mg base CX0 (k + 1) f (PySem.W.fnOf x qual (defArgs st) (defBody st) (defScope st) .none kV doc pm an cdv ct) ps sp := by
  refine fn_of lk hcd S len fun A outer s H vs Q E hr hsp => ?_
  obtain ⟨t, h, q⟩ := hbody A outer s H vs Q E hr hsp
  exact ⟨t, h.nox, q⟩
theorem tab_code {K : PySem.W.Frag} {x : Str} {f c T : Addr} {oc : Value} {od : Option Addr} {fd : FuncData} {osl : Array (Option Value)} (a : PySem.W.nsIn K mainGlobals x = some (some (.ref f))) (l : K.lookup f = some ⟨oc, od, .func fd, osl⟩) (ht : PySem.W.tabIn K x = some (c, T)) : fd.code = .ref c := by
  unfold PySem.W.tabIn at ht
  rw [a] at ht
  dsimp only at ht
  rw [l] at ht
  dsimp only at ht
  split at ht
  · rename_i c2 hc
    split at ht
    · split at ht
      · cases ht; exact hc
      · cases ht
    · cases ht
  · cases ht
theorem tab_mk {K : PySem.W.Frag} {x : Str} {f c T : Addr} {oc oT : Value} {od dT : Option Addr} {fd : FuncData} {osl slT : Array (Option Value)} {vs : Array Value} (a : PySem.W.nsIn K mainGlobals x = some (some (.ref f))) (l : K.lookup f = some ⟨oc, od, .func fd, osl⟩) (hc : fd.code = .ref c)
    (lc : K.lookup c = some ⟨oT, dT, .fields vs, slT⟩) (hv : (vs[11]? : Option Value) = some (.ref T)) : PySem.W.tabIn K x = some (c, T) := by
  unfold PySem.W.tabIn
  rw [a]
  dsimp only
  rw [l]
  dsimp only
  rw [hc]
  dsimp only
  rw [lc]
  dsimp only
  rw [hv]
end L2
set_option maxHeartbeats 4000000
namespace L2
open PySem PySem.Spec PyProof.Rows
end L2
set_option maxHeartbeats 4000000
namespace L2
open PySem
section
variable {prog : Program} {w : World} {A : Around} {E : Value → Shared → Prop} {h : Heap} {g : Array GenState} {d : Drawn} {t : Nat} {os : OsState}
variable {nm q : Str} {C N : Addr} {bs bm bmB bmN : List Value} {hdct : Bool} {sn : List Str} {sub : List Value} {ab : Bool} {col : Option Bool} {dd : Option Addr} {k0 k1 k2 k3 k5 : Option Value} {B Bn nid inN newId initId : String}
theorem type_call_init (Fn : ExcBaseFacts Bn newId inN bmN) (hBn : bmB.contains (.type Bn) = true) (F : ExcBaseFacts B nid initId bmB) (T : OwnTail h bmB bm) {mN : Str → Option Value} {rest : List Value} {fI : Addr} {oI : Obj} {Q : Fin → Shared → Prop}
    (hC : h.get? C = some (excClassObj nm q C N bs bm hdct sn sub ab col dd k0 k1 k2 k3 k5 newId)) (hn : h.Ns N mN) (hi : mN "__init__" = some (.ref fI)) (hfI : h.get? fI = some oI) (hfc : oI.cls = .type "function")
    (hq : ∀ h' e, Heap.MadeExcOf h h' e (.ref C) rest → wpAny (model prog w) A (call (.ref fI) (.ref e :: rest)) (fun r s' => r = .none ∧ Q (.done (.ret (.ref e))) s') E ⟨h', g, d, t, os⟩) (hrest : rest.length ≤ sizeLine) :
    wpAny (model prog w) A (Builtin.«type.__call__» ⟨.ref C :: rest, []⟩) Q E ⟨h, g, d, t, os⟩ := by
  repeat (first | with_reducible refine wpAny_loadPart_at hC ?_ | with_reducible refine wpAny_madeBy_exc hC ?_ | wp_step)
  refine codeAny_call_builtin_code (Code.quiet_builtin _ Fn.quiet) (wpAny_check_new_subU Fn hBn T hC ?_)
  refine codeAny_exc_new_subU Fn hBn F T hC ?_ hrest
  show wpAny _ _ _ _ _ _
  generalize hx : (h.push { cls := .type "tuple", data := .seq rest.toArray }).push { cls := .ref C, data := .fields #[.ref h.objs.size, .none, .none, .none, .bool false, .none] } = hp
  have keep : ∀ b o, h.get? b = some o → hp.get? b = some o := fun b o e => by rw [← hx]; exact Heap.get?_push_of_some _ (Heap.get?_push_of_some _ e)
  have hn1 : hp.Ns N mN := let ⟨o, es, ep, e, r⟩ := hn; ⟨o, es, ep, keep _ _ e, r⟩
  have hget : hp.get? (h.objs.size + 1) = some { cls := .ref C, data := .fields #[.ref h.objs.size, .none, .none, .none, .bool false, .none] } := by rw [← hx]; heap_get
  have htup : hp.get? h.objs.size = some { cls := .type "tuple", data := .seq rest.toArray } := by rw [← hx]; exact Heap.get?_push_of_some _ (Heap.get?_push_at rfl rfl)
  have hcC : (Value.ref C :: bm).contains (.ref C) = true := by simp
  have T1 := T.keeps (h' := hp) keep
  unfold isInstance
  repeat (first | with_reducible refine wpAny_loadPart_at hget ?_ | (with_reducible refine wpAny_isSubtype_exc (keep _ _ hC) ?_; rw [hcC]) | wp_step)
  show wpAny _ _ (typeLookup (.ref C) _) _ _ _
  refine wpAny_typeLookup_tail (keep _ _ hC) hn1 T1 F.mroIs F.init.lookup ?_
  rw [hi]
  refine wpAny_holding (wpAny_bind ?_)
  unfold bindSpecial
  refine wpAny_bind (wpAny_typeOf (T := "function") ⟨_, keep _ _ hfI, hfc⟩ ?_)
  rw [if_pos (by decide)]
  refine wpAny_pure (wpAny_bind (wpAny_mono (hq _ (h.objs.size + 1) ⟨keep, Heap.get?_none_of_le (Nat.le_succ _), h.objs.size, hget, Heap.get?_none_of_le (Nat.le_refl _), htup⟩) (fun r s' hr => ?_) fun _ _ e => e))
  obtain ⟨rfl, hQ⟩ := hr
  wp_walk
  exact hQ
theorem call_init (Fn : ExcBaseFacts Bn newId inN bmN) (hBn : bmB.contains (.type Bn) = true) (F : ExcBaseFacts B nid initId bmB) (T : OwnTail h bmB bm) {mN : Str → Option Value} {rest : List Value} {fI : Addr} {oI : Obj} {Q : Value → Shared → Prop}
    (hC : h.get? C = some (excClassObj nm q C N bs bm hdct sn sub ab col dd k0 k1 k2 k3 k5 newId)) (hn : h.Ns N mN) (hi : mN "__init__" = some (.ref fI)) (hfI : h.get? fI = some oI) (hfc : oI.cls = .type "function")
    (hq : ∀ h' e, Heap.MadeExcOf h h' e (.ref C) rest → wpAny (model prog w) (A.under (.builtin "type.__call__" ⟨.ref C :: rest, []⟩)) (call (.ref fI) (.ref e :: rest)) (fun r s' => r = .none ∧ Q (.ref e) s') E ⟨h', g, d, t, os⟩) (hrest : rest.length ≤ sizeLine) :
    wpAny (model prog w) A (call (.ref C) rest) Q E ⟨h, g, d, t, os⟩ := by
  have f1 := tc_lookup
  have f2 := tc_bind (.ref C)
  have hT : (⟨h, g, d, t, os⟩ : Shared).TypeIs (.ref C) "type" := ⟨_, hC, rfl⟩
  refine wpAny_call (codeAny_of_tree ?_)
  show wpAny _ _ (callAny (.ref C) _) _ _ _
  repeat (any_goals (first | assumption | with_reducible refine wpAny_loadPart_at hC ?_ | wp_step))
  refine ⟨rfl, codeAny_call_builtin_at (Code.quiet_builtin _ (by decide +kernel)) entry_typeCall (wpAny_check_type_call_sub hC (type_call_init Fn hBn F T hC hn hi hfI hfc (fun h' e hm => hq h' e hm) hrest))⟩
end
end L2
set_option maxHeartbeats 4000000
namespace L2
open PySem PySem.Spec PySem.W PyProof.Rows Builtin Builtin.ObjectAttr
noncomputable def valMro : List Value → Bool
  | .ref _ :: r => valMro r
  | l => l == vbm
theorem refuse_val (self : Value) (l : List Value) (e : valMro l = true) : refuseLoop self "__setattr__" l = pure () := by
  induction l with
  | nil => exact absurd e (by decide)
  | cons v r ih =>
    cases v with
    | ref c => rw [refuseLoop_ref]; exact ih e
    | _ =>
      have e' := beq_iff_eq.mp e
      rw [e']
      exact PySem.F.store_ValueError.passes self
theorem val_has (l : List Value) (e : valMro l = true) : l.contains (.type "object") = true := by
  induction l with
  | nil => exact absurd e (by decide)
  | cons v r ih =>
    cases v with
    | ref c => rw [List.contains_cons, ih e, Bool.or_true]
    | _ =>
      have e' := beq_iff_eq.mp e
      rw [e']
      decide
structure XSet (K : Frag) (C : Addr) (f : Str) : Prop where
  sa : findIn K (.ref C) "__setattr__" = some (some (.builtin "object.__setattr__"))
  at_ : findIn K (.ref C) f = some none
  st : (clsIn K C).any (fun cd => valMro cd.mro && cd.hasDict) = true
section
variable {prog : Program} {w : World} {A : Around} {E : Value → Shared → Prop} {s : Shared} {K : Frag} {C a : Addr} {name : Str} {v : Value}
theorem exc_set {ox : Obj} {vs : Array Value} {Q : Unit → Shared → Prop} (X : K.In s.heap) (x : XSet K C name) (hx : s.heap.get? a = some ox) (hc : ox.cls = .ref C) (hd : ox.data = .fields vs) (hn : ox.dict = none)
    (h : ∀ h' tk, h'.get? a = some { ox with dict := some s.heap.objs.size } → h'.Ns1 s.heap.objs.size (fun y => if y = name then some v else none) → (∀ b o, b ≠ a → s.heap.get? b = some o → h'.get? b = some o) → Q () { s with heap := h', toks := tk }) :
    wpAny (model prog w) A (setAttr (.ref a) name v) Q E s := by
  obtain ⟨oc, od, oda, osl⟩ := ox
  dsimp only at hc hd hn
  subst hc hd hn
  have I : InstAt s.heap a ⟨.ref C, none, .fields vs, osl⟩ C none := ⟨hx, rfl, rfl, trivial⟩
  have SF := PySem.F.store_object
  obtain ⟨cd, hcd, ho⟩ := any_some x.st
  obtain ⟨hv, hh⟩ := Bool.and_eq_true_iff.mp ho
  have ne : cd.mro.isEmpty = false := by
    cases q : cd.mro with
    | nil => rw [q] at hv; exact absurd hv (by decide)
    | cons _ _ => rfl
  have sub : Looks (model prog w) s.heap (isInstance (.ref a) (.type "object")) true := I.type.andThen (looks_mroIn X (by unfold mroIn; rw [hcd, Option.bind_some, if_neg (by rw [ne]; decide), val_has _ hv]))
  have hm : Looks (model prog w) s.heap (mroOf (.ref C)) cd.mro := (looks_clsIn X hcd).andThen .now
  refine set_plain X I x.sa ?_
  refine codeAny_call_builtin SF.slot.plain SF.entry (@check_slot (model prog w) _ _ { s with toks := s.toks + 1 } "object.__setattr__" "object" "__setattr__" (.ref a) [.str name s.toks, v] [] _ SF.kind SF.split sub (SF.args (.ref a) (.str name s.toks) v) ?_)
  rw [osa_eq, refuse_eq]
  refine wpAny_bind (wpAny_bind (I.type.here (s := { s with toks := s.toks + 1 }) (wpAny_bind (hm.here (s := { s with toks := s.toks + 1 }) ?_))))
  rw [refuse_val _ _ hv]
  refine wpAny_pure (wpAny_bind (I.type.here (s := { s with toks := s.toks + 1 }) (wpAny_bind ((looks_findIn X x.at_).here (s := { s with toks := s.toks + 1 }) (wpAny_bind (wpAny_pure ?_))))))
  obtain ⟨h0, g, d, t, os⟩ := s
  dsimp only at *
  refine wpAny_bind (wpAny_pure (wpAny_bind (wpAny_bind (wpAny_loadPart hx (wpAny_bind (Looks.here (s := ⟨h0, g, d, t + 1, os⟩) (looks_clsIn X hcd) ?_))))))
  rw [hh]
  have hx1 : (h0.push { cls := .type "dict", data := .dict #[] }).get? a = some ⟨.ref C, none, .fields vs, osl⟩ := Heap.get?_push_of_some _ hx
  have hxs : a ≠ h0.objs.size := Nat.ne_of_lt (Heap.lt_size hx)
  refine wpAny_bind (wpAny_alloc' ?_)
  refine wpAny_bind (wpAny_update' hx1 ?_)
  refine wpAny_pure ?_
  have hgd : ((h0.push { cls := .type "dict", data := .dict #[] }).update a fun o => { o with dict := some h0.objs.size }).get? h0.objs.size = some { cls := .type "dict", data := .dict #[] } :=
    (Heap.get?_update_ne _ _ _ _ hxs.symm).trans (Heap.get?_push_at rfl rfl)
  have hnd : ((h0.push { cls := .type "dict", data := .dict #[] }).update a fun o => { o with dict := some h0.objs.size }).Ns h0.objs.size (fun _ => none) := ⟨_, #[], _, hgd, rfl, fun e he => absurd he (by simp), fun _ => rfl⟩
  show wpAny _ _ (storeInDict h0.objs.size (.str name t) name v) _ _ _
  unfold storeInDict newKeyGuard
  refine wpAny_bind (wpAny_pure (wpAny_bind (wpAny_nsSet1 (Heap.Ns1.of_empty hnd) fun h' hn' hs => ?_)))
  obtain ⟨oD, esD, epD, hoD, hdD, hcD⟩ := hn'.count (Within.cons name v Within.nil)
  refine wpAny_bind (wpAny_lookBehind hoD (by rw [hdD]; exact pastItsLine_dict (Nat.le_trans hcD (by rw [List.length_cons, List.length_nil, sizeLine_eq]; omega))) ?_)
  refine wpAny_pure (h h' _ ?_ hn' fun b o hb e => ?_)
  · refine (hs.2 a hxs).trans (Heap.get?_update_self _ hx1 ?_)
    have hfr := (Heap.get?_some_iff.mp hx).2
    exact hfr
  · exact (hs.2 b (Nat.ne_of_lt (Heap.lt_size e))).trans ((Heap.get?_update_ne _ _ _ _ hb).trans (Heap.get?_push_of_some _ e))
structure XGet (K : Frag) (C : Addr) (f : Str) : Prop where
  ga : findIn K (.ref C) "__getattribute__" = some (some (.builtin "BaseException.__getattribute__"))
  gt : findIn K (.ref C) "__getattr__" = some none
  at_ : findIn K (.ref C) f = some none
  hd : hasDictIn K C = true
  be : subIn K (.ref C) (.type "BaseException") = some true
seal wpAny in
theorem exc_get {expr : Bool} {ox : Obj} {vs : Array Value} {dx : Addr} {mA : Str → Option Value} {Q : Value → Shared → Prop} (X : K.In s.heap) (x : XGet K C name) (hx : s.heap.get? a = some ox) (hc : ox.cls = .ref C) (hd : ox.data = .fields vs) (hn : ox.dict = some dx)
    (hN : s.heap.Ns1 dx mA) (hv : mA name = some v) (hv' : handedIn v = true) (q : Q v { s with toks := s.toks + 1 }) : wpAny (model prog w) A (getAttr (.ref a) name expr) Q E s := by
  obtain ⟨oc, od, oda, osl⟩ := ox
  dsimp only at hc hd hn
  subst hc hd hn
  obtain ⟨oD, hoD, hl⟩ := lookIn_ns hN
  have I : InstAt s.heap a ⟨.ref C, some dx, .fields vs, osl⟩ C (some oD) := ⟨hx, rfl, rfl, hoD⟩
  have hf : findObj K C (some oD) name = some (.value v) := findObj_own x.hd x.at_ rfl (by rw [hl, hv])
  obtain ⟨h, g, d, t, os⟩ := s
  have M0 := I.type (M := model prog w)
  have M1 := looks_findIn (M := model prog w) X x.ga
  have M2 := looks_findIn (M := model prog w) X x.gt
  have M3 := looks_find (M := model prog w) X I hf
  have n1 : (onTheHeap (Value.ref C) && Value.builtin "BaseException.__getattribute__" == Value.builtin "object.__getattribute__") = false := by
    rw [show (Value.builtin "BaseException.__getattribute__" == Value.builtin "object.__getattribute__") = false by decide +kernel, Bool.and_false]
  have n2 : (expr && onTheHeap (Value.builtin "BaseException.__getattribute__")) = false := by cases expr <;> rfl
  unfold getAttr getAttrBy
  refine wpAny_bind (wpAny_mkText (wpAny_holding (wpAny_bind (M0.at (wpAny_bind (M1.at ?_))))))
  simp only [n1, Bool.false_eq_true, if_false]
  unfold getAttrByItsOwn hookBefore
  refine wpAny_bind (M2.at (wpAny_bind (wpAny_attempt (wpAny_holding ?_))))
  unfold callGetattribute boundAndCalled
  simp only [n2, Bool.false_eq_true, if_false]
  rw [F.attr_ValueError.ga.bind (.ref a)]
  refine wpAny_bind (wpAny_pure ?_)
  refine wpAny_call (codeAny_call_builtin F.attr_ValueError.ga.plain F.entry_bexc_ga ?_)
  have M4 : Looks (model prog w) h (isInstance (.ref a) (.type "BaseException")) true := M0.andThen (looks_subIn X x.be)
  have k1 : builtinKind "BaseException.__getattribute__" = some .slot := by decide +kernel
  have k2 : splitId "BaseException.__getattribute__" = some ("BaseException", "__getattribute__") := by decide +kernel
  show wpAny _ _ (checkBuiltinCall "BaseException.__getattribute__" ⟨[.ref a, .str name t], []⟩) _ _ _
  have k3 : argsOk "BaseException.__getattribute__" ⟨[.ref a, .str name t], []⟩ := F.args_bexc_ga (.ref a) (.str name t)
  refine check_slot (self := .ref a) (rest := [.str name t]) (kw := []) (owner := "BaseException") (n := "__getattribute__") k1 k2 M4 k3 ?_
  unfold Builtin.«object.__getattribute__»
  refine wpAny_bind (wpAny_pure (wpAny_bind (wpAny_pure (wpAny_bind (M0.at (wpAny_bind (M3.at ?_)))))))
  refine wpAny_pure ?_
  show wpAny (model prog w) A (handedOut v) _ _ _
  exact handed_on hv' q
end
end L2
set_option maxHeartbeats 4000000
namespace L2
open PySem
theorem dict_mapFields (o : Obj) (f : Array Value → Array Value) : (Obj.mapFields f o).dict = o.dict := by
  obtain ⟨c, d, da, sl⟩ := o
  cases da <;> rfl
noncomputable def TrD (h B : Heap) (e : Addr) (cls a0 fl : Value) (dd : Option Addr) : Prop :=
  ∃ oe vs T oT ts, h.get? e = some oe ∧ (oe.cls = cls ∧ vs[0]? = some a0 ∧ oe.dict = dd) ∧ oe.data = .fields vs ∧ vs[1]? = some (.ref T) ∧ B.get? T = none ∧ T ≠ e ∧ h.get? T = some oT ∧ oT.data = .fields ts ∧ ts[3]? = some fl
theorem TrD.at {h B : Heap} {e : Addr} {cls a0 fl : Value} {dd : Option Addr} (x : TrD h B e cls a0 fl dd) : h.TracedAtW B e cls a0 fl :=
  let ⟨oe, vs, T, oT, ts, he, ⟨hc, h0, _⟩, r⟩ := x
  ⟨oe, vs, T, oT, ts, he, ⟨hc, h0⟩, r⟩
noncomputable def FlD (B : Heap) (l : List Env) (e : Addr) (cls a0 fl : Value) (dd : Option Addr) (h : Heap) : Prop := B.StaysIn h ∧ B.get? e = none ∧ h.FunFrames B l ∧ TrD h B e cls a0 fl dd
theorem FlD.w {B h : Heap} {l : List Env} {e : Addr} {cls a0 : Value} {dd : Option Addr} (x : FlD B l e cls a0 .none dd h) : Heap.FlyingW B l e cls a0 h := ⟨x.1, x.2.1, x.2.2.1, x.2.2.2.at⟩
theorem FlD.first {B h : Heap} {l : List Env} {e : Addr} {cls a0 fl : Value} {dd : Option Addr} (x : FlD B l e cls a0 fl dd h) : ∃ oe vs, h.get? e = some oe ∧ oe.cls = cls ∧ oe.data = .fields vs ∧ oe.dict = dd :=
  let ⟨_, _, _, oe, vs, _, _, _, he, hc, hd, _⟩ := x
  ⟨oe, vs, he, hc.1, hd, hc.2.2⟩
section
variable {M : Model} {A : Around} {E : Value → Shared → Prop} {s : Shared} {B : Heap} {env : Env} {l outer : List Env} {L e : Addr} {cls a0 : Value} {dd : Option Addr} {Q : Unit → Shared → Prop}
theorem entry_d {oe : Obj} {vs : Array Value} {head : Value} {hadNext : Bool} (hfr : A.frames = some (env :: outer)) (hl : s.heap.FunFrames B (env :: outer)) (hf : env.frame = some L) (he : s.heap.get? e = some oe)
    (st : B.StaysIn s.heap) (hen : B.get? e = none) (hd : oe.data = .fields vs) (hsz : 1 < vs.size) (h0 : vs[0]? = some a0)
    (h : ∀ h', FlD B (env :: outer) e oe.cls a0 (rawInt L) oe.dict h' → s.heap.UpToSlots h' → Q () { s with heap := h' }) :
    wpAny M A (do let a ← frameOf env; let pl ← entryPlaceOf L hadNext; let b ← EntryCells.newEntry head a .none (rawInt L) .none pl; setField (.ref e) 1 b) Q E s := by
  have notF : e ∉ (env :: outer).filterMap (·.frame) := fun hm => by
    obtain ⟨_, o, ho, hnf⟩ := hl.mem hm
    rw [he] at ho
    cases ho
    exact hnf vs hd
  refine wpAny_bind (wpAny_frameOf_fun hfr hl hf fun h1 hs1 => ?_)
  refine wpAny_bind (wpAny_entryPlaceOf fun pl hpl => ?_)
  unfold EntryCells.newEntry newFields
  refine wpAny_bind (wpAny_newObj_type ?_ (hpl.sizeOk5 _ _ _ _ _))
  have he1 : h1.get? e = some oe := (hs1.2.1 e notF).trans he
  have kb1 : B.StaysIn h1 := fun b o z => (hs1.2.1 b fun hm => by rw [(hl.mem hm).1] at z; cases z).trans (st b o z)
  generalize hob : ({ cls := .type "traceback", dict := none, data := .fields ([head, .ref L, .none, rawInt L, .none] ++ (if pl.isEmpty then List.replicate 6 Value.none else pl)).toArray } : Obj) = ob
  have hfree : ob.isFreed = false := by rw [← hob]; rfl
  have hobd : ob.data = .fields ([head, .ref L, .none, rawInt L, .none] ++ (if pl.isEmpty then List.replicate 6 Value.none else pl)).toArray := by rw [← hob]
  have he2 : (h1.push ob).get? e = some oe := Heap.get?_push_of_some ob he1
  have hTe : h1.objs.size ≠ e := Nat.ne_of_gt (Heap.lt_size he1)
  have hd3 := Obj.data_mapFields hd (·.setIfInBounds 1 (Value.ref h1.objs.size))
  have he3 := Heap.get?_update_self (Obj.mapFields (·.setIfInBounds 1 (Value.ref h1.objs.size))) he2 (Obj.isFreed_of_fields hd3)
  have hT3 := (Heap.get?_update_other (h1.push ob) (Obj.mapFields (·.setIfInBounds 1 (Value.ref h1.objs.size))) (Ne.symm hTe)).trans (Heap.get?_push_size h1 hfree)
  have keep : ∀ b o, b ≠ e → h1.get? b = some o → ((h1.push ob).update e (Obj.mapFields (·.setIfInBounds 1 (Value.ref h1.objs.size)))).get? b = some o := fun b o hbe hb => by
    rw [Heap.get?_update_other _ _ (Ne.symm hbe)]
    exact Heap.get?_push_of_some _ hb
  have noRec : ∀ b o, s.heap.get? b = some o → (∀ vs, o.data ≠ .fields vs) → b ≠ e := fun b o hb hnf q => by
    rw [q, he] at hb
    cases hb
    exact hnf vs hd
  refine wpAny_setField he2 hd hsz (h _ ⟨?_, hen, ?_, ?_⟩ ?_)
  · exact fun b o z => keep b o (fun q => by rw [q, hen] at z; cases z) (kb1 b o z)
  · exact hl.of_keeps fun b o hb hnf => let ⟨sl, hs⟩ := hs1.2.2 b o hb; ⟨_, keep b _ (noRec b o hb hnf) hs, rfl⟩
  · refine ⟨_, _, h1.objs.size, _, _, he3, ⟨Obj.cls_mapFields _ _, by rw [Array.getElem?_setIfInBounds_ne (by decide)]; exact h0, dict_mapFields _ _⟩, hd3, by simp [hsz], kb1.fresh, hTe, hT3, hobd, by first | (simp; done) | (rcases hpl with rfl | ⟨_, _, _, _, _, _, _, rfl⟩ <;> simp)⟩
  · exact fun b o hb hnf => let ⟨sl, hs⟩ := hs1.2.2 b o hb; ⟨sl, keep b _ (noRec b o hb hnf) hs⟩
theorem mark_d {fl : Value} (hh : FlD B l e cls a0 fl dd s.heap) (h : ∀ h', FlD B l e cls a0 .none dd h' → s.heap.UpToSlots h' → Q () { s with heap := h' }) : wpAny M A (setFlight (.ref e) none) Q E s := by
  obtain ⟨st, hen, hl, oe, vs, T, oT, ts, he, hcls, hd, h1, hnT, hTe, hT, hdT, h3⟩ := hh
  have sz : 3 < ts.size := (Array.getElem?_eq_some_iff.mp h3).1
  have oth : ∀ b, b ≠ T → (s.heap.update T (Obj.mapFields (·.setIfInBounds 3 ((none : Option Addr).elim Value.none fun f => rawInt f)))).get? b = s.heap.get? b := fun b hb => Heap.get?_update_other _ _ (Ne.symm hb)
  have nr : ∀ b o, s.heap.get? b = some o → (∀ vs, o.data ≠ .fields vs) → b ≠ T := fun b o hb hnf q => by
    rw [q, hT] at hb
    cases hb
    exact hnf ts hdT
  unfold setFlight
  refine wpAny_bind (wpAny_field he hd h1 ?_)
  rw [if_pos (show (Value.ref T != Value.none) = true from by simp)]
  refine wpAny_setField hT hdT sz (h _ ⟨fun b o z => (oth b fun q => by rw [q, hnT] at z; cases z).trans (st b o z), hen, hl.of_keeps fun b o hb hnf => ⟨o, (oth b (nr b o hb hnf)).trans hb, rfl⟩, ?_⟩ fun b o hb hnf => ⟨o.slots, (oth b (nr b o hb hnf)).trans hb⟩)
  exact ⟨oe, vs, T, _, _, (oth e (Ne.symm hTe)).trans he, hcls, hd, h1, hnT, hTe, Heap.get?_update_self _ hT (Obj.isFreed_of_fields (Obj.data_mapFields hdT _)), Obj.data_mapFields hdT _, by simp [sz]⟩
theorem leaves_d {oe : Obj} {vs : Array Value} (hfr : A.frames = some (env :: outer)) (hf : env.frame = some L) (st : B.StaysIn s.heap) (hl : s.heap.FunFrames B (env :: outer)) (he : s.heap.get? e = some oe) (hen : B.get? e = none)
    (hd : oe.data = .fields vs) (h1 : vs[1]? = some .none) (h0 : vs[0]? = some a0) (h : ∀ h', FlD B outer e oe.cls a0 .none oe.dict h' → s.heap.UpToSlots h' → Q () { s with heap := h' }) : wpAny M A (leaving env (.ref e)) Q E s := by
  unfold leaving noteFrame
  simp only [hf]
  refine wpAny_bind (wpAny_bind (wpAny_field he hd h1 ?_))
  rw [if_neg (by decide)]
  refine entry_d hfr hl hf he st hen hd (Array.getElem?_eq_some_iff.mp h1).1 h0 fun h' x up => ?_
  refine mark_d x fun h2 y up2 => ?_
  obtain ⟨k1, k2, ⟨_, _, k3⟩, k4⟩ := y
  exact h h2 ⟨k1, k2, k3, k4⟩ (up.trans up2)
theorem looks_d (hfr : A.frames = some (env :: outer)) (hf : env.frame = some L) (x : FlD B (env :: outer) e cls a0 .none dd s.heap) (h : ∀ h', FlD B (env :: outer) e cls a0 (rawInt L) dd h' → s.heap.UpToSlots h' → Q () { s with heap := h' }) :
    wpAny M A (noteFrame (.ref e) env) Q E s := by
  obtain ⟨st, hen, hl, oe, vs, T, oT, ts, he, ⟨hcls, h0, hdd⟩, hd, h1, hnT, hTe, hT, hdT, h3⟩ := x
  subst hcls hdd
  unfold noteFrame
  simp only [hf]
  refine wpAny_bind (wpAny_field he hd h1 ?_)
  rw [if_pos (show (Value.ref T != Value.none) = true from by simp)]
  refine wpAny_bind (wpAny_field hT hdT h3 ?_)
  rw [if_neg (show ¬ ((Value.none == rawInt L) = true) from by simp [rawInt])]
  refine wpAny_bind (wpAny_setField hT hdT (Array.getElem?_eq_some_iff.mp h3).1 ?_)
  have oth : ∀ b, b ≠ T → (s.heap.update T (Obj.mapFields (·.setIfInBounds 3 Value.none))).get? b = s.heap.get? b := fun b hb => Heap.get?_update_other _ _ (Ne.symm hb)
  have nr : ∀ b o, s.heap.get? b = some o → (∀ vs, o.data ≠ .fields vs) → b ≠ T := fun b o hb hnf q => by
    rw [q, hT] at hb
    cases hb
    exact hnf ts hdT
  exact entry_d hfr (hl.of_keeps fun b o hb hnf => ⟨o, (oth b (nr b o hb hnf)).trans hb, rfl⟩) hf ((oth e (Ne.symm hTe)).trans he) (fun b o z => (oth b fun q => by rw [q, hnT] at z; cases z).trans (st b o z)) hen hd
    (Array.getElem?_eq_some_iff.mp h1).1 h0 fun h' y up => h h' y fun b o hb hnf => up b o ((oth b (nr b o hb hnf)).trans hb) hnf
end
end L2
set_option maxHeartbeats 4000000
namespace L2
open PySem PySem.Spec PySem.W PyProof.Rows
noncomputable def FlyD (l : List Env) (h0 : Heap) (H' : Hp) (e : Addr) (cls : Value) (dd : Option Addr) (h : Heap) : Prop :=
  ∃ (B : Heap) (t : Addr), FlD B l e cls (.ref t) .none dd h ∧ h0.get? e = none ∧ H' e = none ∧
    ∀ b o, h.get? b = some o → ((∃ o', h0.get? b = some o') ∨ ∃ u, H' b = some u) → b ∉ frs l → B.get? b = some o
noncomputable def CXD (P : Program) (w : World) : CXT := fun outer H s E e s' =>
  ∃ a cls dd H', e = .ref a ∧ s'.os = s.os ∧ AllBare s'.gens ∧ Un (frs outer) [] H H' s.heap s'.heap ∧ HOk P w H' s'.heap ∧ FlyD outer s.heap H' a cls dd s'.heap ∧ E cls dd H'
theorem cxd_never {P : Program} {w : World} {H : Hp} {s : Shared} {e : Value} {s' : Shared} {l : List Env} (h : CXD P w l H s (fun _ _ _ => False) e s') : False := by
  obtain ⟨_, _, _, _, _, _, _, _, _, _, q⟩ := h
  exact q
theorem passD {P : Program} {w : World} {X : Cx} : Passes (CXD P w) X E0 := fun _ _ _ _ _ _ _ h => (cxd_never h).elim
noncomputable def exD (t : Addr) : Array Value := #[.ref t, .none, .none, .none, .bool false, .none]
section
variable {X : Cx} {pins : List (Addr × Obj)} {σ : St} {H : Hp} {s : Shared} {E : XK} {M : Model}
theorem fly_outD (dx : DefCx X) (I : Inv X pins σ H s) {B h' : Heap} {e t : Addr} {cls : Value} {dd : Option Addr}
    (kB : ∀ b o, s.heap.get? b = some o → ((∃ o', X.s₀.heap.get? b = some o') ∨ ∃ u, H b = some u) → b ∉ frs X.stack → B.get? b = some o)
    (fw : FlD B X.outer e cls (.ref t) .none dd h') (up : s.heap.UpToSlots h') (ne : X.s₀.heap.get? e = none) (hn : H e = none) (q : E cls dd H) : CXD X.prog X.w X.outer X.H₀ X.s₀ E (.ref e) { s with heap := h' } := by
  have un0 : Un X.fs [] X.H₀ H X.s₀.heap s.heap := by have := I.base; rw [dx.ex] at this; exact this
  have sub : ∀ b ∈ X.fs, b ∈ frs X.stack := fun b hb => by
    rw [dx.st]; unfold frs; rw [List.filterMap_cons, dx.fr]; exact List.mem_cons_of_mem _ hb
  have hl : ∀ b ∈ frs X.stack, b ∉ X.fs → X.s₀.heap.get? b = none := fun b hb hn => by
    rcases List.mem_cons.mp (I.stkSub b hb) with z | z
    · cases q : X.s₀.heap.get? b with
      | none => rfl
      | some o => exact absurd z (I.notMine q)
    · exact absurd z hn
  obtain ⟨un, hok⟩ := fly_keeps (h5 := h') un0 I.hok kB I.stack sub hl I.stkFree fw.1 up
  refine ⟨e, cls, dd, H, rfl, I.os, I.bare, un, hok, ⟨B, t, fw, ne, hn, fun b o e1 hz hb => ?_⟩, q⟩
  have there : ∃ o2, s.heap.get? b = some o2 := by
    rcases hz with ⟨o', z⟩ | ⟨u, z⟩
    · exact un0.there b o' z (by simp)
    · exact (I.hok b u z).there
  have nst : b ∉ frs X.stack := fun z => by
    rcases List.mem_cons.mp (I.stkSub b z) with y | y
    · rcases hz with ⟨o', q⟩ | ⟨u, q⟩
      · exact I.notMine q y
      · rw [I.stkFree b z] at q; cases q
    · exact hb y
  obtain ⟨o2, e2⟩ := there
  have e3 := kB b o2 e2 hz nst
  have e4 := fw.1 b o2 e3
  have e1' : h'.get? b = some o := e1
  rw [e1'] at e4
  cases e4
  exact e3
theorem leave_d (dx : DefCx X) (I : Inv X pins σ H s) {e t : Addr} {oe : Obj} (he : s.heap.get? e = some oe) (hd : oe.data = .fields (exD t)) (ne : X.s₀.heap.get? e = none) (hn : H e = none) (q : E oe.cls oe.dict H) {E' : Value → Shared → Prop} :
    wpAny M X.A (leaving X.env (.ref e)) (fun _ s2 => CXD X.prog X.w X.outer X.H₀ X.s₀ E (.ref e) s2) E' s := by
  have hin : ∀ env ∈ X.stack, ∀ b, env.frame = some b → b ∈ e :: frs X.stack := fun env hv b hb => List.mem_cons_of_mem _ (List.mem_filterMap.mpr ⟨env, hv, hb⟩)
  have ff := PySem.W.funFrames_hide I.stack hin
  rw [dx.st] at ff
  refine leaves_d (B := PySem.W.hideAll s.heap (e :: frs (X.env :: X.outer))) (by rw [I.ok.frames, dx.st]) dx.fr (fun b o z => PySem.W.of_hideAll _ z) ff he (PySem.W.hideAll_none _ List.mem_cons_self) hd rfl (a0 := .ref t) rfl fun h' x up => ?_
  refine fly_outD dx I (fun b o e1 hz hb => PySem.W.hideAll_get _ e1 fun z => ?_) x up ne hn q
  rcases List.mem_cons.mp z with y | y
  · subst y
    rcases hz with ⟨o', q⟩ | ⟨u, q⟩
    · rw [ne] at q; cases q
    · rw [hn] at q; cases q
  · rw [← dx.st] at y
    exact hb y
noncomputable def ReachD (X : Cx) (E : XK) : Prop := ∀ (pins : List (Addr × Obj)) (σ : St) (H : Hp) (s : Shared) (e t : Addr) (oe : Obj), Inv X pins σ H s → s.heap.get? e = some oe → oe.data = .fields (exD t) → X.s₀.heap.get? e = none → H e = none → E oe.cls oe.dict H → X.xe (.ref e) s
theorem Inv.untrack {e : Addr} {φ : Heap → Prop} (I : Inv X pins σ H s) (h : H e = some (.ext φ)) : Inv X pins σ (hid H e) s := by
  have b := I.base
  have ne : ∀ c u, H c = some u → u ≠ .ext φ → c ≠ e := fun c u q n z => by rw [z, h] at q; cases q; exact n rfl
  refine ⟨I.ok, I.os, I.bare, ⟨b.keep, b.slot, fun c u e1 e2 e3 => ?_, b.there, fun c xs q => ?_, fun c u v q => ?_, fun c ps q => ?_⟩, I.loc, I.cell, ?_, fun x c q => ?_, fun p hq => ?_, fun c u q => ?_, I.len⟩
  · by_cases z : c = e
    · rw [z]; exact hid_self
    · rw [hid_ne z]; exact b.free c u e1 e2 e3
  · have y := b.tups c xs q
    rw [hid_ne (ne _ _ y (by intro z; cases z))]; exact y
  · have y := b.frzs c u v q
    rw [hid_ne (ne _ _ y (by intro z; cases z))]; exact y
  · obtain ⟨more, y⟩ := b.tbls c ps q
    exact ⟨more, by rw [hid_ne (ne _ _ y (by intro z; cases z))]; exact y⟩
  · by_cases z : X.env.locals = e
    · rw [z]; exact hid_self
    · rw [hid_ne z]; exact I.free
  · by_cases z : c = e
    · rw [z]; exact hid_self
    · rw [hid_ne z]; exact I.freeC x c q
  · obtain ⟨y1, y2, y3⟩ := I.pin p hq
    refine ⟨y1, ?_, y3⟩
    by_cases z : p.1 = e
    · rw [z]; exact hid_self
    · rw [hid_ne z]; exact y2
  · obtain ⟨n, q⟩ := hid_some q
    refine (I.hok c u q).stay (fun _ _ _ y => y) (fun d y => ?_) (fun d xs y => ?_)
    · rw [hid_ne (ne _ _ y (by intro z; cases z))]; exact y
    · rw [hid_ne (ne _ _ y (by intro z; cases z))]; exact y
end
section
variable {P : Program} {w : World} {K : PySem.W.Frag} {mg : Str → Option Value} {base : Heap} {N : List Str} {qual : Str} {scope : Scope} {f : Addr} {cd : Value} {A : Around} {outer : List Env} {s : Shared} {H : Hp} {E : XK}
theorem reachD : ReachD (cxOf (CXD P w) P w K mg base N qual scope f cd A outer s H E) E := fun _ _ _ _ _ _ _ I he hd ne hn q => leave_d dxOf I he hd ne hn q
theorem Fun.okCD {x : Str} {st : Stmt} {ps : List Str} {k : Nat} {sp : Sp} {oc kV doc pm cdv ct : Value} {od an : Option Addr} {osl : Array (Option Value)}
    (lk : K.lookup f = some ⟨oc, od, .func (PySem.W.fnOf x qual (defArgs st) (defBody st) (defScope st) .none kV doc pm an cdv ct), osl⟩) (hcd : PySem.W.codeIn K cdv qual = true) (S : FnScope N ps (defScope st)) (len : ∀ vs H Q E, sp vs H Q E → vs.length = ps.length)
    (hbody : ∀ (A : Around) (outer : List Env) (s : Shared) (H : Hp) (vs : List V) (Q : VK) (E : XK), Room k (A.deeper (envOfC qual (defScope st) s.heap.objs.size f cdv)) → sp vs H Q E →
      ∃ t, PSs (cxOf (CXD P w) P w K mg base N qual (defScope st) f cdv A outer s H E) (defBody st) t ∧ t { nx := fun _ H' => Q .non H', rt := Q } (start N vs) H) : FnOk P w K mg base (CXD P w) (k + 1) f (PySem.W.fnOf x qual (defArgs st) (defBody st) (defScope st) .none kV doc pm an cdv ct) ps sp :=
  fn_of lk hcd S len fun A outer s H vs Q E hr hsp => hbody A outer s H vs Q E hr hsp
end
noncomputable def XN (C e t : Addr) : HO := .ext fun h => h.get? e = some { cls := .ref C, data := .fields (exD t) }
noncomputable def XE (C e dx t : Addr) : HO := .ext fun h => h.get? e = some { cls := .ref C, dict := some dx, data := .fields (exD t) }
theorem xn_ok {P : Program} {w : World} {H : Hp} {h : Heap} {C e t : Addr} (q : h.get? e = some { cls := .ref C, data := .fields (exD t) }) : ObjOk P w H h e (XN C e t) := ⟨q, ⟨_, q⟩, fun _ _ a b => b _ a⟩
theorem xe_ok {P : Program} {w : World} {H : Hp} {h : Heap} {C e dx t : Addr} (q : h.get? e = some { cls := .ref C, dict := some dx, data := .fields (exD t) }) : ObjOk P w H h e (XE C e dx t) := ⟨q, ⟨_, q⟩, fun _ _ a b => b _ a⟩
noncomputable def sFldX (K : PySem.W.Frag) (ta tv : TE) (f : Str) : TS := fun D σ H => tv σ H fun y H1 => ta σ H1 fun x H2 => ∃ C e t, x = .ref e ∧ H2 e = some (XN C e t) ∧ XSet K C f ∧
  ∀ dx, H2 dx = none → dx ≠ e → D.nx σ (upd (upd H2 e (XE C e dx t)) dx (.xd [(f, y)]))
theorem ps_fldX {X : Cx} {o value : Expr} {f : Str} {pos pos' : Pos} {ta tv : TE} (ha : PE X o ta) (hv : PE X value tv) (hs : swapsWith value (some (.Attribute o f pos')) pos.line X.env = pure false) : PS X (.Assign [.Attribute o f pos'] value pos) (sFldX X.K ta tv f) := by
  intro pins s σ H D I h
  refine plainObj_wpAny_Assign_Attribute (thn (hv pins s σ H _ I h) fun u s1 ⟨y, H1, I1, ry, q⟩ => thn (ha pins s1 σ H1 _ I1 q) fun ov s2 ⟨x, H2, I2, rx, C, e, t, ex, he, xs, q2⟩ => ?_) hs
  subst ex
  obtain rfl : ov = Value.ref e := rx
  have hx : s2.heap.get? e = some { cls := .ref C, data := .fields (exD t) } := (I2.hok e _ he).1
  have lt := Heap.lt_size hx
  have nd : s2.heap.objs.size ≠ e := Nat.ne_of_gt lt
  have hd0 : H2 s2.heap.objs.size = none := I2.hok.fresh (Nat.le_refl _)
  refine exc_set I2.kIn xs hx rfl rfl rfl fun h' tk g1 g2 g3 => ?_
  have J : Inv X pins σ (upd H2 e (XE C e s2.heap.objs.size t)) { s2 with heap := h', toks := tk } := I2.write (x := e) (e := e) (by rw [he]; exact True.intro) (.inl rfl) g3 ⟨_, g1⟩ (xe_ok g1)
  refine ⟨σ, _, J.track (a := s2.heap.objs.size) (o := .xd [(f, y)]) (Heap.get?_none_of_le I2.sz) (by rw [upd_ne nd]; exact hd0) ?_ (fun z c hc w => ?_) (fun p hp w => ?_) ⟨_, g2, fun g => ?_⟩, q2 _ hd0 nd⟩
  · exact Nat.ne_of_gt I2.lt
  · obtain ⟨v, o, y1, y2⟩ := I2.cell z c hc
    exact Nat.ne_of_lt (Heap.lt_size y1) w
  · exact Nat.ne_of_lt (Heap.lt_size (I2.pin p hp).1) w
  · by_cases z : g = f
    · subst z
      rw [if_pos rfl]
      have : List.lookup g [(g, y)] = some y := by simp [List.lookup]
      rw [this]
      exact ry
    · rw [if_neg z]
      have hb : (g == f) = false := beq_eq_false_iff_ne.mpr z
      have : List.lookup g [(f, y)] = none := by simp only [List.lookup, hb]
      rw [this]
      exact True.intro
noncomputable def xinitIn (K : Frag) (C f : Addr) : Bool := match K.lookup C with
  | some ⟨.type "type", _, .cls cd, sl⟩ => (match cd.mro, sl.toList with
    | .ref C' :: tl, [_, _, _, _, some (.builtin n), _] => C' == C && n == "ValueError.__new__" && !cd.hasDel && tailIn K vbm tl && nsOkIn K cd.ns && nsIn K cd.ns "__init__" == some (some (.ref f))
    | _, _ => false)
  | _ => false
theorem ns_some_of {K : Frag} {h : Heap} {N : Addr} {mg : Str → Option Value} {n : Str} {v : Value} (X : K.In h) (G : h.Ns N mg) (e : nsIn K N n = some (some v)) : mg n = some v := by
  obtain ⟨o, es, ep, ho, hd, _, hf⟩ := G
  unfold nsIn at e
  split at e
  · rename_i c d es' n' sl q
    have := X _ _ q
    rw [ho] at this
    cases this
    cases hd
    split at e
    · rename_i en he
      cases e
      rw [← hf]
      unfold nsFind findBy
      rw [← Array.find?_toList, he]
      rfl
    · split at e <;> cases e
  · cases e
theorem icls_of {K : PySem.W.Frag} {h : Heap} {C f : Addr} (kin : K.In h) (z : xinitIn K C f = true) :
    ∃ (tl : List Value) (N : Addr) (nm qn : Str) (bs : List Value) (hd : Bool) (sn : List Str) (su : List Value) (ab : Bool) (co : Option Bool) (dd : Option Addr) (k0 k1 k2 k3 k5 : Option Value) (mN : Str → Option Value),
      h.get? C = some (excClassObj nm qn C N bs tl hd sn su ab co dd k0 k1 k2 k3 k5 "ValueError.__new__") ∧ h.Ns N mN ∧ mN "__init__" = some (.ref f) ∧ OwnTail h vbm tl := by
  unfold xinitIn at z
  split at z
  · rename_i d0 c0 slt lk
    split at z
    · rename_i C2 tl a0 a1 a2 a3 nn a5 em es
      simp only [Bool.and_eq_true, beq_iff_eq, Bool.not_eq_true'] at z
      obtain ⟨⟨⟨⟨⟨y1, y2⟩, y3⟩, y4⟩, y5⟩, y6⟩ := z
      subst y1 y2
      obtain ⟨nm, bs, mr, ns, qn, hd, sn, su, ab, co, de⟩ := c0
      dsimp only at em y3 y5 y6
      subst em y3
      have sz : slt = #[a0, a1, a2, a3, some (.builtin "ValueError.__new__"), a5] := by
        cases slt with | mk l => exact congrArg Array.mk es
      subst sz
      exact ⟨tl, ns, nm, qn, bs, hd, sn, su, ab, co, d0, a0, a1, a2, a3, a5, _, kin _ _ lk, .of_isNs (PySem.W.isNs_of_in kin y5), ns_some_of kin (.of_isNs (PySem.W.isNs_of_in kin y5)) y6, PySem.W.tail_of_in kin y4⟩
    · cases z
  · cases z
structure MkX (K : PySem.W.Frag) (C f : Addr) : Prop where
  ini : xinitIn K C f = true
  fn : PySem.W.isFn K (.ref f) = true
  kp : PySem.W.keepIn K (.ref C) = true
noncomputable def tMakeX (C : Addr) (sp : Sp) (t : TA) : TE := fun σ H Q => t σ H fun vs H1 => vs.length ≤ sizeLine ∧ ∀ e tt, H1 e = none → sp (.ref e :: vs) (upd H1 e (XN C e tt)) (fun v H2 => v = .non ∧ Q (.ref e) H2) E0
section
variable {X : Cx} {k : Nat} {f C : Addr} {fd : FuncData} {ps : List Str} {sp : Sp} {E : XK} {x : Str} {p pos : Pos} {e : Expr} {es : List Expr} {t : TA}
theorem typ_fn {K : Frag} {h : Heap} {f : Addr} (kin : K.In h) (z : PySem.W.isFn K (.ref f) = true) : ∃ o, h.get? f = some o ∧ o.cls = .type "function" := by
  have z' : typeIn K (.ref f) = some (.type "function") := beq_iff_eq.mp z
  unfold typeIn at z'
  cases q : K.lookup f with
  | none => simp [q] at z'
  | some o => exact ⟨o, kin _ _ q, by simpa [q] using z'⟩
theorem pe_makeX (dx : DefCx X) (M : MkX X.K C f) (F : FnOk X.prog X.w X.K X.mg X.base CX0 k f fd ps sp) (hr : Room (k + 1) X.A) (hg : Gl X x) (hm : X.mg x = some (.ref C)) (hb : Binds X.K fd ps [])
    (ha : PA X (e :: es) t) (hdb : (x == ("__debug__" : Str)) = false := by decide) (he : starEach (e :: es) X.env = (false, eval e X.env) :: starEach es X.env := by rfl) (hpl : (backTo pos (starEach es X.env)).any (·.1) = false := by rfl) :
    PE X (.Call (.Name x p) (e :: es) [] pos) (tMakeX C sp t) := by
  intro pins s σ H Q I h
  refine wpAny_Call_Name_kw (ld_glob I hg hm ?_ hdb)
  refine PySem.W.callWith_K (h₀ := X.base) I.ok.mod.kin M.kp (thn (ha pos pins s σ H _ I h) fun us s1 ⟨vs, H1, I1, r, hl, q⟩ => ⟨I1.kIn, ?_⟩) he hpl
  obtain ⟨tl, N, nm, qn, bs, hd, sn, su, ab, co, dd, k0, k1, k2, k3, k5, mN, hC, hN, hni, T⟩ := icls_of I1.kIn M.ini
  obtain ⟨oI, hfI, hfc⟩ := typ_fn I1.kIn M.fn
  obtain ⟨hh, g, d, tk, os⟩ := s1
  refine call_init PySem.F.excBase_ValueError (by decide) PySem.F.excBase_ValueError T hC hN hni hfI hfc (fun h' a mk => ?_) (by show us.length ≤ sizeLine; rw [← r.length]; exact hl)
  obtain ⟨n1, n2⟩ := I1.gone dx mk.new
  obtain ⟨tt, ga, _, _⟩ := mk.there
  have I2 : Inv X pins σ H1 ⟨h', g, d, tk, os⟩ := I1.kept mk.keeps
  have neo : ∀ b o, hh.get? b = some o → b ≠ a := fun b o q z => by
    have y := mk.new
    rw [← z] at y
    have q' : hh.get? b = some o := q
    rw [show hh.get? b = none from y] at q'
    cases q'
  have I3 : Inv X pins σ (upd H1 a (XN C a tt)) ⟨h', g, d, tk, os⟩ := I2.track (a := a) (o := XN C a tt) n1 n2 (fun z => by
      obtain ⟨m, ⟨o, _, _, ho, _⟩, _⟩ := I1.loc
      exact neo _ _ ho z.symm) (fun y c hc z => by
      obtain ⟨v, o, y1, y2⟩ := I1.cell y c hc
      exact neo _ _ y1 z) (fun p hp z => neo _ _ (I1.pin p hp).1 z) (xn_ok ga)
  have hq := q a tt n2
  have r2 : Vals (V.ref a :: vs) (Value.ref a :: us) := .cons rfl r
  have hl2 : (Value.ref a :: us ++ []).length = ps.length := by
    have e := r2.length
    rw [F.len _ _ _ _ hq] at e
    rw [List.append_nil]
    exact e.symm
  have bnd := hb ⟨h', g, d, tk, os⟩ (Value.ref a :: us) I3.kIn hl2
  rw [List.append_nil] at bnd
  refine wpAny_call (codeAny_mono (F.run _ X.stack _ _ ⟨Value.ref a :: us, []⟩ (Value.ref a :: us) _ _ E0 (hr.make C us []) (I3.env0.make C us []) bnd r2 hq) fun r s' hq' => ?_)
  cases r with
  | error e => exact hq'.elim
  | ok fl =>
    cases fl with
    | ret u =>
      obtain ⟨v, H', I4, rv, ev, q3⟩ := I3.after hq'
      subst ev
      exact ⟨rv, ⟨V.ref a, H', I4, rfl, q3⟩⟩
    | next => exact False.elim hq'
    | brk => exact False.elim hq'
    | cont => exact False.elim hq'
noncomputable def tRaiseV (H0 : Hp) (K : Frag) (E : XK) (t : TE) : TS := fun _ σ H => t σ H fun v H1 => ∃ e C f dx tt, v = .ref e ∧ H1 e = some (XE C e dx tt) ∧ xinitIn K C f = true ∧ H0 e = none ∧ E (.ref C) (some dx) (hid H1 e)
theorem ps_raiseV {ex : Expr} {tx : TE} (dx : DefCx X) (hr : ReachD X E) (hc : X.calm = true) (he : PE X ex tx) : PS X (.Raise (some ex) none pos) (tRaiseV X.H₀ X.K E tx) := by
  intro pins s σ H D I h
  rw [arm_exec_Raise]
  simp only [evalOpt, Option.map]
  refine wpAny_bind (wpAny_standAt ?_)
  unfold raiseStmt
  refine wpAny_bind (wpAny_bind (thn (he pins s σ H _ I h) fun u s1 ⟨v, H1, I1, rv, a, C, f, dd, tt, ev, ha, hi, h0, q⟩ => wpAny_bind (wpAny_standAt (wpAny_pure ?_))))
  subst ev
  obtain rfl : u = Value.ref a := rv
  obtain ⟨tl, N, nm, qn, bs, hd, sn, su, ab, co, dd', k0, k1, k2, k3, k5, mN, hC, hN, hni, T⟩ := icls_of I1.kIn hi
  have hx : s1.heap.get? a = some { cls := .ref C, dict := some dd, data := .fields (exD tt) } := (I1.hok a _ ha).1
  have hcB : (Value.ref C :: tl).contains (.type "BaseException") = true := by rw [List.contains_cons, T.hasType (b := true) (by decide), Bool.or_true]
  have ne : X.s₀.heap.get? a = none := by
    cases q : X.s₀.heap.get? a with
    | none => rfl
    | some o =>
      have y := I1.base.free a o q h0 (by rw [dx.ex]; simp)
      rw [ha] at y; cases y
  have fin := hr pins σ (hid H1 a) s1 a tt _ (I1.untrack ha) hx rfl ne hid_self q
  obtain ⟨hp, g, d, tk, os⟩ := s1
  unfold exD at hx
  repeat (first | with_reducible refine wpAny_loadPart_at hx ?_ | with_reducible refine wpAny_loadPart_at hC ?_ | (with_reducible refine wpAny_isSubtype_exc hC ?_; rw [hcB]) | wp_step)
  exact wpAny_raiseNew_none (I.ok.hd hc) fin
end
noncomputable def XOD (cls : Value) (dd : Option Addr) (e : Addr) : HO := .ext fun h => ∃ oe vs, h.get? e = some oe ∧ oe.cls = cls ∧ oe.data = .fields vs ∧ oe.dict = dd
noncomputable def exEndsD (i : Nat) (e : Addr) (cls : Value) (dd : Option Addr) (D : Ends) : Ends := { nx := fun σ H => D.nx (σ.set i none) (upd H e (XOD cls dd e)), rt := D.rt, bk := fun σ H => D.bk (σ.set i none) H, ct := fun σ H => D.ct (σ.set i none) H }
noncomputable def ETD (K : PySem.W.Frag) (CS : Addr) (i : Nat) (ts : Addr → Obj → TS) (D : Ends) : St → XK := fun σ cls dd H =>
  PySem.W.subIn K cls (.ref CS) = some true ∧ ∀ e oe, H e = none → oe.cls = cls → ts e oe (exEndsD i e cls dd D) (σ.set i (some (.ref e))) H
noncomputable def tTryD (K : PySem.W.Frag) (CS : Addr) (i : Nat) (tb : (St → XK) → TS) (ts : Addr → Obj → TS) : TS := fun D σ H => tb (ETD K CS i ts D) D σ H
theorem ps_tryD {X : Cx} {body : List Stmt} {b0 : Stmt} {suite : List Stmt} {S n : Str} {np hpos pos : Pos} {CS : Addr} {i : Nat} {tb : (St → XK) → TS} {ts : Addr → Obj → TS} (dx : DefCx X) (hN : X.N.Nodup) (hi : X.N[i]? = some n) (hl : X.env.scope.names.lookup n = some .local)
    (hg : Gl X S) (hm : X.mg S = some (.ref CS)) (ca : Catch X.K CS)
    (hb : ∀ (xe : Value → Shared → Prop) (pn : List (Addr × Obj)) (E : St → XK), PassesS (CXD X.prog X.w) (X.tried xe pn) E → PSs (X.tried xe pn) body (tb E))
    (hs : ∀ (e : Addr) (oe : Obj), PSs (X.held e oe) (b0 :: suite) (ts e oe)) (hdb : (S == ("__debug__" : Str)) = false := by decide) :
    PS X (.Try body [.ExceptHandler (some (.Name S np)) (some n) (b0 :: suite) hpos] [] [] pos) (tTryD X.K CS i tb ts) := by
  intro pins s σ H D I h
  have pass : PassesS (CXD X.prog X.w) (X.tried (fun e s1 => wpAny (model X.prog X.w) X.A (noteFrame e X.env) (fun _ s2 => wpAny (model X.prog X.w) X.A (setFlight e none) (fun _ s3 =>
      wpAny (model X.prog X.w) X.A (handleBy e X.env [.ExceptHandler (some (.Name S np)) (some n) (b0 :: suite) hpos]) (SP X pins D) X.xe s3) X.xe s2) X.xe s1) pins) (ETD X.K CS i ts D) := by
    intro pins' σ' H1 s1 e s' I' hx
    obtain ⟨a, cls, dd, H', rfl, os, bare, un, hok, ⟨B, t, fw, ne, hn, kB⟩, hk, q⟩ := hx
    have J : Inv X pins σ' H1 s1 := I'.untried
    have hu : ∀ b ∈ frs X.stack, H' b = none := fun b z => by
      obtain ⟨_, o, e0, _⟩ := J.stack.mem z
      exact un.free b o e0 (J.stkFree b z) (by simp)
    have keep5 : ∀ h5 : Heap, B.StaysIn h5 → s'.heap.UpToSlots h5 → Un (frs X.stack) [] H1 H' s1.heap h5 ∧ HOk X.prog X.w H' h5 := fun h5 st up =>
      fly_keeps un hok kB fw.2.2.1 (fun _ z => z) (fun b z nz => absurd z nz) hu st up
    have inv5 : ∀ h5 : Heap, B.StaysIn h5 → s'.heap.UpToSlots h5 → Inv X pins σ' H' { s' with heap := h5 } := fun h5 st up =>
      J.call' (s' := { s' with heap := h5 }) (ch := []) os (keep5 h5 st up).1 (keep5 h5 st up).2 bare (fun b z => absurd z (by simp))
    have neL : a ≠ X.env.locals := fun z => by
      obtain ⟨m, ⟨o, _, _, ho, _⟩, _⟩ := J.loc
      rw [← z, ne] at ho; cases ho
    have nfs : a ∉ X.fs := fun z => by
      obtain ⟨_, o, e0, _⟩ := J.funs.mem z
      rw [ne] at e0; cases e0
    have fw' : FlD B (X.env :: X.outer) a cls (.ref t) .none dd s'.heap := by rw [← dx.st]; exact fw
    show wpAny (model X.prog X.w) X.A (noteFrame (.ref a) X.env) _ X.xe s'
    refine looks_d (by rw [J.ok.frames, dx.st]) dx.fr fw' fun h4 held4 up4 => ?_
    refine mark_d (s := { s' with heap := h4 }) held4 fun h5 fl5 up5 => ?_
    have up := up4.trans up5
    have J5 := inv5 h5 fl5.1 up
    obtain ⟨oe, vs, hoe, hoc, hod, hoD⟩ := fl5.first
    have K5 : Inv (X.held a oe) pins σ' H' { s' with heap := h5 } := J5.held hoe hn neL nfs (fun v z => by rw [hod] at z; cases z)
    refine wpAny_handleBy_cons (codeAny_handlers_test (ld_glob K5 hg hm ?_ hdb)) (by intro z; cases z)
    refine exc_matches K5.kIn hoe ca (by rw [hoc]; exact hk) ?_
    refine codeAny_handlers_suite_as ?_
    refine mark_d (s := { s' with heap := h5 }) fl5 fun h6 fl6 up6 => ?_
    have J6 := inv5 h6 fl6.1 (up.trans up6)
    obtain ⟨oe6, vs6, hoe6, hoc6, hod6, hoD6⟩ := fl6.first
    have K6 : Inv (X.held a oe6) pins σ' H' { s' with heap := h6 } := J6.held hoe6 hn neL nfs (fun v z => by rw [hod6] at z; cases z)
    refine store_ok (X := X.held a oe6) K6 hN hi (.inl hl) (v := .ref a) rfl (fun s7 I7 => ?_) (.inr hl)
    refine wpAny_mono (hs a oe6 pins s7 _ H' (exEndsD i a cls dd D) I7 (q a oe6 hn hoc6)) (fun f s8 h8 => ?_) (fun _ _ z => z.elim)
    cases f with
    | next =>
      obtain ⟨σ8, H8, I8, q8⟩ := h8
      refine goes (X := X.held a oe6) I8 hN hi hl fun s9 I9 => ⟨_, _, (I9.unheld I.ok.hd).track (a := a) (o := XOD cls dd a) (J.gone dx ne).1 ?_ neL (fun x c e z => ?_) (fun p hp z => ?_) ⟨⟨oe6, vs6, I9.heldAt, hoc6, hod6, hoD6⟩, ⟨oe6, I9.heldAt⟩, fun h1 h2 ⟨o, vs, y1, y2⟩ k => ⟨o, vs, k o y1, y2⟩⟩, q8⟩
      · exact (I9.pin (a, oe6) (List.mem_append_left _ List.mem_cons_self)).2.1
      · subst z
        obtain ⟨v, o, y1, y2⟩ := I9.cell x c e
        have y3 := (I9.pin (c, oe6) (List.mem_append_left _ List.mem_cons_self)).2.2.2.2 v
        have y4 : s9.heap.get? c = some oe6 := I9.heldAt
        rw [y4] at y1
        cases y1
        exact y3 y2
      · have y := (J.pin p hp).1
        rw [z, ne] at y
        cases y
    | brk =>
      obtain ⟨σ8, H8, I8, q8⟩ := h8
      exact goes (X := X.held a oe6) I8 hN hi hl fun s9 I9 => ⟨_, _, I9.unheld I.ok.hd, q8⟩
    | cont =>
      obtain ⟨σ8, H8, I8, q8⟩ := h8
      exact goes (X := X.held a oe6) I8 hN hi hl fun s9 I9 => ⟨_, _, I9.unheld I.ok.hd, q8⟩
    | ret u =>
      obtain ⟨v8, σ8, H8, I8, r8, q8⟩ := h8
      exact goes (X := X.held a oe6) I8 hN hi hl fun s9 I9 => ⟨_, _, _, I9.unheld I.ok.hd, r8, q8⟩
  refine wpAny_Try_except (wpAny_mono (hb _ pins _ pass [] s σ H D I.tried h) (fun f s1 hf => ?_) fun e s1 he => he)
  cases f with
  | next =>
    obtain ⟨σ', H', J, q⟩ := hf
    exact wpAny_execs_nil ⟨σ', H', J.untried, q⟩
  | brk =>
    obtain ⟨σ', H', J, q⟩ := hf
    exact ⟨σ', H', J.untried, q⟩
  | cont =>
    obtain ⟨σ', H', J, q⟩ := hf
    exact ⟨σ', H', J.untried, q⟩
  | ret u =>
    obtain ⟨v, σ', H', J, r, q⟩ := hf
    exact ⟨v, σ', H', J.untried, r, q⟩
section
variable {X : Cx}
theorem Inv.xod {pins : List (Addr × Obj)} {σ : St} {H : Hp} {s : Shared} {e : Addr} {cls : Value} {dd : Option Addr} (I : Inv X pins σ H s) (h : H e = some (XOD cls dd e)) : ∃ oe vs, s.heap.get? e = some oe ∧ oe.cls = cls ∧ oe.data = .fields vs ∧ oe.dict = dd := (show ObjOk X.prog X.w H s.heap e (XOD cls dd e) from I.hok e _ h).1
theorem call_isinstF : CallR X (.builtin "isinstance") (fun xs H Q => ∃ (e C D : Addr) (dd : Option Addr) (b : Bool), xs = [.ref e, .ref D] ∧ H e = some (XOD (.ref C) dd e) ∧ XInst X.K C ∧ kitOne X.K (.ref C) (.ref D) = some b ∧ Q (.bl b) H) := by
  intro pins s σ H xs us Q I r h
  obtain ⟨e, C, D, dd, b, rfl, hc, x, k, q⟩ := h
  obtain ⟨u, w', rfl, r1, r2⟩ := vals2 r
  cases r1
  cases r2
  obtain ⟨oe, vs, y1, y2, _⟩ := I.xod hc
  exact kia_one (kitx_exc x) I.kIn ⟨oe, y1, y2⟩ k (fun z => nomatch z) fun tk => ⟨.bl b, H, I.tok _, rfl, q⟩
theorem call_isinstFB : CallR X (.builtin "isinstance") (fun xs H Q => ∃ (e C : Addr) (T : String) (dd : Option Addr) (b : Bool), xs = [.ref e, .ty T] ∧ H e = some (XOD (.ref C) dd e) ∧ XInst X.K C ∧ kitOne X.K (.ref C) (.type T) = some b ∧ Q (.bl b) H) := by
  intro pins s σ H xs us Q I r h
  obtain ⟨e, C, T, dd, b, rfl, hc, x, k, q⟩ := h
  obtain ⟨u, w', rfl, r1, r2⟩ := vals2 r
  cases r1
  cases r2
  obtain ⟨oe, vs, y1, y2, _⟩ := I.xod hc
  exact kia_one (kitx_exc x) I.kIn ⟨oe, y1, y2⟩ k (fun z => nomatch z) fun tk => ⟨.bl b, H, I.tok _, rfl, q⟩
noncomputable def tAttrX (K : Frag) (ta : TE) (f : Str) : TE := fun σ H Q => ta σ H fun x H1 => ∃ a C dx fs v, x = .ref a ∧ H1 a = some (XOD (.ref C) (some dx) a) ∧ H1 dx = some (.xd fs) ∧ XGet K C f ∧ fs.lookup f = some v ∧ Q v H1
theorem pe_attrX {e : Expr} {f : Str} {pos : Pos} {ta : TE} (he : PE X e ta) (hb : attributeBase e f X.env (eval e X.env) = eval e X.env) : PE X (.Attribute e f pos) (tAttrX X.K ta f) := by
  intro pins s σ H Q I h
  refine attr_of hb (thn (he pins s σ H _ I h) fun u s1 ⟨x, H1, I1, rx, a, C, dx, fs, v, ex, ea, ed, g, l, q⟩ => ?_)
  subst ex
  obtain rfl : u = Value.ref a := rx
  obtain ⟨oe, vs, y1, y2, y3, y4⟩ := I1.xod ea
  obtain ⟨mA, n1, r⟩ := (show ObjOk X.prog X.w H1 s1.heap dx (.xd fs) from I1.hok dx _ ed)
  obtain ⟨u, hu, ru⟩ := RelO.some_of (v := v) (o := mA f) (by rw [← l]; exact r f)
  exact exc_get I1.kIn g y1 y2 y3 y4 n1 hu (handed_of ru) ⟨v, H1, I1.tok _, ru, q⟩
end
end L2
set_option maxHeartbeats 4000000
namespace L2
open PySem PySem.Spec PyProof.Rows
theorem op_neNil {X : Cx} (hu : X.A.units + 64 < cLine) : OpR X (compareOp .NotEq) (fun x y H Q => ∃ a b xs, x = .ref a ∧ y = .ref b ∧ SqL X.K H a xs ∧ SqL X.K H b [] ∧ Q (.bl (!xs.isEmpty)) H) := by
  intro pins s σ H x y v u Q I rx ry h
  obtain ⟨a, b, xs, rfl, rfl, h1, h2, q⟩ := h
  cases rx
  cases ry
  obtain ⟨its1, r1, p1, z1⟩ := I.list h1
  obtain ⟨its2, r2, p2, z2⟩ := I.list h2
  cases r2
  have l1 := r1.length
  cases xs with
  | nil =>
    have e : its1 = [] := List.eq_nil_of_length_eq_zero (by simpa using l1.symm)
    subst e
    exact SeqAt.RcNeAt.lists (A := X.A) (s := s) (e := fun _ => true) p1.isList p2.isList rfl (by omega) (fun j j1 _ => by simp at j1) X.prog X.w _ _ ⟨.bl _, H, I, rfl, q⟩
  | cons x xs =>
    exact SeqAt.RcNeAt.lists_lengths (A := X.A) (s := s) p1.isList p2.isList (by simp at l1 ⊢; intro e; rw [e] at l1; simp at l1) (by omega) X.prog X.w _ _ ⟨.bl _, H, I, rfl, q⟩
end L2
set_option maxHeartbeats 4000000
namespace K34
open PySem L2 Gc Ch
seal wpAny
noncomputable def top (i : Nat) : Stmt := PySem.Challenge.pw_surestretch_k34_count_rules_made_tight.main.body.getD i (.Pass ⟨0, 0, 0, 0⟩)
noncomputable abbrev s_cho : Stmt := top 1
noncomputable abbrev s_whole : Stmt := top 8
noncomputable abbrev s_cd : Stmt := top 9
noncomputable abbrev s_frac : Stmt := top 10
noncomputable abbrev s_und : Stmt := top 11
noncomputable abbrev s_rowof : Stmt := top 13
noncomputable abbrev s_half : Stmt := top 15
noncomputable abbrev s_we : Stmt := top 16
noncomputable abbrev s_mt : Stmt := top 17
noncomputable abbrev s_tog : Stmt := top 19
noncomputable abbrev s_crule : Stmt := top 20
noncomputable abbrev s_cnt : Stmt := top 21
noncomputable abbrev s_ucov : Stmt := top 22
noncomputable abbrev s_ul : Stmt := top 23
noncomputable abbrev s_utl : Stmt := top 24
noncomputable abbrev s_tc : Stmt := top 25
noncomputable abbrev s_had : Stmt := top 26
noncomputable abbrev s_utg : Stmt := top 27
noncomputable abbrev s_sws : Stmt := top 28
noncomputable abbrev s_cellU : Stmt := top 30
noncomputable abbrev s_rest : Stmt := top 31
noncomputable abbrev s_low : Stmt := top 32
noncomputable abbrev s_cr : Stmt := top 33
noncomputable abbrev s_shU : Stmt := top 34
noncomputable abbrev s_ls : Stmt := top 35
noncomputable abbrev s_stt : Stmt := top 36
noncomputable abbrev s_ref : Stmt := top 37
noncomputable abbrev s_mvd : Stmt := top 38
noncomputable abbrev s_made : Stmt := top 39
noncomputable abbrev s_tgt : Stmt := top 40
noncomputable abbrev s_law : Stmt := top 41
noncomputable def clsBody (s : Stmt) : List Stmt := match s with
  | .ClassDef _ _ _ b _ _ _ _ _ _ _ => b
  | _ => []
noncomputable abbrev s_ini : Stmt := (clsBody (top 6)).getD 0 (.Pass ⟨0, 0, 0, 0⟩)
structure Txt (mg : Str → Option Value) : Prop where
  range : mg "range" = none
  min : mg "min" = none
  max : mg "max" = none
  len : mg "len" = none
  isinstance : mg "isinstance" = none
  int : mg "int" = none
  bool : mg "bool" = none
  tuple : mg "tuple" = none
  list : mg "list" = none
  abs : mg "abs" = none
  all : mg "all" = none
  sum : mg "sum" = none
  sorted : mg "sorted" = none
  enumerate : mg "enumerate" = none
  zip : mg "zip" = none
  ValueError : mg "ValueError" = none
structure CA where
  StretchError : Addr
  NoNumber : Addr
  NoRule : Addr
  NotSure : Addr
  ini : Addr
structure CF (K : PySem.W.Frag) (mg : Str → Option Value) (C : CA) : Prop where
  mStretchError : mg "StretchError" = some (.ref C.StretchError)
  mNoNumber : mg "NoNumber" = some (.ref C.NoNumber)
  mNoRule : mg "NoRule" = some (.ref C.NoRule)
  mNotSure : mg "NotSure" = some (.ref C.NotSure)
  xNoRule : XCls K mg "NoRule" C.NoRule
  xNoNumber : XCls K mg "NoNumber" C.NoNumber
  cNoRule : Catch K C.NoRule
  cStretchError : Catch K C.StretchError
  iNoRule : XInst K C.NoRule
  iNoNumber : XInst K C.NoNumber
  kNotSure : MkX K C.NotSure C.ini
  sNotSure : XSet K C.NotSure "at"
  gNotSure : XGet K C.NotSure "at"
  iNotSure : XInst K C.NotSure
  sub : PySem.W.subIn K (.ref C.NoRule) (.ref C.NoRule) = some true
  sub1 : PySem.W.subIn K (.ref C.NotSure) (.ref C.StretchError) = some true
  kit1 : PySem.W.kitOne K (.ref C.NotSure) (.ref C.NotSure) = some true
  kit2 : PySem.W.kitOne K (.ref C.NotSure) (.type "ValueError") = some true
theorem passN {P : Program} {w : World} {X : Cx} : Passes (CXX P w) X E0 := fun _ _ _ _ _ _ _ h => (cxx_never h).elim
noncomputable def isW (t : Th) : Bool := isIntT t && !isBoolT t
theorem isW_shape {t : Th} (h : isW t = true) : ∃ i, t = .int i := by
  cases t <;> first | exact ⟨_, rfl⟩ | (simp [isW, isIntT, isBoolT] at h)
theorem at0 {x : V} {xs : List V} : atI (x :: xs) 0 = some x := atI_nat (xs := x :: xs) (j := 0) rfl
theorem at1 {x y : V} {xs : List V} : atI (x :: y :: xs) 1 = some y := atI_nat (xs := x :: y :: xs) (j := 1) rfl
theorem den_pair {H : Hp} {a b : Int} {v : V} (d : Den H (.tup [.int a, .int b]) v) : ∃ p, v = .ref p ∧ H p = some (.tup [.int a, .int b]) := by
  obtain ⟨p, xs, rfl, h, y, ys, e1, e2, z, zs, e3, e4, e5⟩ := d
  have e2' : y = V.int a := e2
  have e4' : z = V.int b := e4
  have e5' : zs = [] := e5
  subst e5' e4' e3 e2' e1
  exact ⟨p, rfl, h⟩
theorem getD_mem {α : Type} {l : List α} {i : Nat} {d : α} (h : i < l.length) : l.getD i d ∈ l := by rw [getD_in h]; exact List.getElem_mem h
theorem den_p {H : Hp} {p : Addr} {a b : Int} (h : H p = some (.tup [.int a, .int b])) : Den H (.tup [.int a, .int b]) (.ref p) := ⟨p, _, rfl, h, _, _, rfl, rfl, _, _, rfl, rfl, rfl⟩
theorem _root_.Gc.Sz.smk {n : Nat} {i : Int} (h : Sz n i) (hn : n ≤ 8900) : Smk i := h.mono hn
theorem lt40 {n : Nat} (h : n ≤ 40) : n < sizeLine := Nat.lt_of_le_of_lt h (by decide)
section
variable {P : Program} {w : World} {K : PySem.W.Frag} {mg : Str → Option Value} {base : Heap} {TB : Addr}
noncomputable def spCho : Sp := fun vs H Q _ => ∃ n k : Int, vs = [.int n, .int k] ∧ n ≤ 100 ∧ Q (.int (cho n k)) H
theorem sc_cho : FnScope ["n", "k", "ways", "taken"] ["n", "k"] (defScope s_cho) := ⟨rfl, rfl, rfl, by decide +kernel, rfl, by decide +kernel, by decide +kernel⟩
theorem ok_cho {f : Addr} {fd : FuncData} (F : Fun K "choices" "choices" s_cho f fd) (T : Txt mg) : FnOk P w K mg base CX0 1 f fd ["n", "k"] spCho := by
  refine F.ok sc_cho (fun vs H Q E h => ?_) (fun cdv A outer s H vs Q E hr h => ?_)
  · obtain ⟨n, k, rfl, _⟩ := h
    rfl
  obtain ⟨n, k, rfl, hn, q⟩ := h
  refine ⟨_, (pss_cons (ps_if (PW.pt (pw_or (pt_cmpR op_lt (pv 1) pe_int (nomark _)) (pw_or1 (pt_cmpR op_gt (pv 1) (pv 0) (nomark _))))) (pss_one (ps_ret pe_int)) pss_nil)
    (pss_cons (ps_set (i := 2) sc_cho.nd rfl (Or.inl rfl) pe_int)
    (pss_cons (ps_for PassesOwn.never rfl (pi_range1 rfl T.range (pa_cons (pe_callB (call_min2 rfl) rfl T.min boot_min (pa_cons (pv 1) (pa_cons (pe_op op_sub (pv 0) (pv 1)) pa_nil))) pa_nil)) (pg_name (i := 3) sc_cho.nd rfl (Or.inl rfl)) (pss_one (ps_set (i := 2) sc_cho.nd rfl (Or.inl rfl) (pe_op op_fdiv (pe_op op_mul (pv 2) (pe_op op_sub (pv 0) (pv 3))) (pe_op op_add (pv 3) pe_int)))))
    (pss_one (ps_ret (pv 2)))))), ?_⟩
  refine ⟨_, rfl, _, _, rfl, rfl, _, rfl, ?_⟩
  refine ite2 (fun c => ?_) (fun c => ?_)
  · have c' : k < 0 := of_decide_eq_true c
    refine iteT ?_
    show Q (.int 0) H
    rw [cho_out (.inl c')] at q
    exact q
  have c' : ¬ k < 0 := ofD c
  refine ⟨_, rfl, _, rfl, _, _, rfl, rfl, _, rfl, ?_⟩
  refine ite2 (fun d => ?_) (fun d => ?_)
  · have d' : n < k := of_decide_eq_true d
    show Q (.int 0) H
    rw [cho_out (.inr d')] at q
    exact q
  have d' : ¬ n < k := ofD d
  refine ⟨_, rfl, _, rfl, _, rfl, _, _, rfl, rfl, _, _, rfl, ?_⟩
  refine ⟨_, rfl, ?_, ?_, ?_⟩
  · split <;> omega
  · split <;> omega
  refine for_range (lo := 0) (fun i σ H' => H' = H ∧ ∃ v, σ = [some (.int n), some (.int k), some (.int (binom n.toNat i : Int)), v]) ⟨rfl, none, ?_⟩ ?_ ?_
  · rw [b0] <;> rfl
  · rintro i σ H' hi ⟨rfl, v, rfl⟩
    have hi2 : (i : Int) < n := by
      by_cases z : n - k < k
      · rw [if_pos z] at hi; omega
      · rw [if_neg z] at hi; omega
    have e : (binom n.toNat i : Int) * (n - (0 + (i : Int))) / (0 + (i : Int) + 1) = (binom n.toNat (i + 1) : Int) := by
      rw [Int.zero_add]; exact cho_turn hi2
    refine ⟨_, rfl, _, rfl, _, rfl, _, _, rfl, rfl, _, _, rfl, rfl, .inr ⟨?_, ?_⟩, _, rfl, _, _, rfl, rfl, _, _, rfl, rfl, ⟨?_, ?_⟩, rfl, some (.int (0 + (i : Int))), ?_⟩
    · omega
    · omega
    · omega
    · omega
    rw [← e] <;> rfl
  · rintro σ H' ⟨rfl, v, rfl⟩
    refine ⟨_, rfl, ?_⟩
    rw [← cho_min (by omega) (by omega)] at q
    exact q
noncomputable def spWhole : Sp := fun vs H Q _ => ∃ x t, vs = [x] ∧ Den H t x ∧ Q (.bl (isW t)) H
theorem sc_whole : FnScope ["thing"] ["thing"] (defScope s_whole) := ⟨rfl, rfl, rfl, by decide +kernel, rfl, by decide +kernel, by decide +kernel⟩
theorem ok_whole {f : Addr} {fd : FuncData} (F : Fun K "is_whole" "is_whole" s_whole f fd) (T : Txt mg) : FnOk P w K mg base CX0 1 f fd ["thing"] spWhole := by
  refine F.ok sc_whole (fun vs H Q E h => ?_) (fun cdv A outer s H vs Q E hr h => ?_)
  · obtain ⟨x, t, rfl, _⟩ := h
    rfl
  obtain ⟨x, t, rfl, d, q⟩ := h
  refine ⟨_, (pss_one (ps_ret (pe_and (pe_callB call_isinstD rfl T.isinstance boot_isinstance (pa_cons (pv 0) (pa_cons (pe_bltn (v := .ty "int") rfl T.int boot_int rfl) pa_nil))) (pe_one (pe_not (pe_callB call_isinstD rfl T.isinstance boot_isinstance (pa_cons (pv 0) (pa_cons (pe_bltn (v := .ty "bool") rfl T.bool boot_bool rfl) pa_nil)))))))), ?_⟩
  refine ⟨_, rfl, x, t, _, _, rfl, d, kit_int t, _, rfl, ?_⟩
  cases hi : isIntT t with
  | false =>
    unfold isW at q
    rw [hi, Bool.false_and] at q
    exact iteF q
  | true =>
    unfold isW at q
    rw [hi, Bool.true_and] at q
    exact iteT ⟨_, rfl, x, t, _, _, rfl, d, kit_bool t, _, rfl, q⟩
noncomputable def spCd : Sp := fun vs H Q _ => ∃ a b : Int, vs = [.int a, .int b] ∧ 0 ≤ a ∧ 0 ≤ b ∧ Q (.int (Int.gcd a b)) H
noncomputable def mu2 (σ : St) : Nat := match σ with
  | _ :: some (.int y) :: _ => y.toNat
  | _ => 0
theorem sc_cd : FnScope ["one", "other", "rest"] ["one", "other"] (defScope s_cd) := ⟨rfl, rfl, rfl, by decide +kernel, rfl, by decide +kernel, by decide +kernel⟩
theorem ok_cd {f : Addr} {fd : FuncData} (F : Fun K "common_divisor" "common_divisor" s_cd f fd) (T : Txt mg) : FnOk P w K mg base CX0 1 f fd ["one", "other"] spCd := by
  refine F.ok sc_cd (fun vs H Q E h => ?_) (fun cdv A outer s H vs Q E hr h => ?_)
  · obtain ⟨a, b, rfl, _⟩ := h
    rfl
  obtain ⟨a, b, rfl, ha, hb, q⟩ := h
  refine ⟨_, (pss_cons (ps_while PassesOwn.never (pt_cmpR op_ne (pv 1) pe_int (nomark _)) (pss_cons (ps_set (i := 2) sc_cd.nd rfl (Or.inl rfl) (pe_op op_mod (pv 0) (pv 1)))
      (pss_cons (ps_set (i := 0) sc_cd.nd rfl (Or.inl rfl) (pv 1))
      (pss_one (ps_set (i := 1) sc_cd.nd rfl (Or.inl rfl) (pv 2))))))
    (pss_one (ps_ret (pv 0)))), ?_⟩
  refine while_by (fun σ H' => H' = H ∧ ∃ x y v, σ = [some (.int x), some (.int y), v] ∧ 0 ≤ x ∧ 0 ≤ y ∧ Int.gcd x y = Int.gcd a b) (fun σ _ => mu2 σ) ⟨rfl, a, b, none, rfl, ha, hb, rfl⟩ ?_ ?_
  · rintro σ H' ⟨rfl, x, y, v, rfl, hx, hy, g⟩
    refine ⟨_, rfl, rfl, _, rfl, ?_⟩
    refine ite2 (fun c => ?_) (fun c => ?_)
    · have c' : y ≠ 0 := by rintro rfl; exact absurd c (by decide)
      have hm := Int.emod_nonneg x c'
      have hl := Int.emod_lt_of_pos x (show 0 < y by omega)
      refine ⟨_, rfl, _, rfl, _, _, rfl, rfl, (by show 0 < y; omega), _, rfl, _, rfl, ?_⟩
      refine ⟨⟨rfl, y, x % y, some (.int (x % y)), rfl, hy, hm, by rw [gstep hx hy c']; exact g⟩, ?_⟩
      show (x % y).toNat < y.toNat
      omega
    · have c' : y = 0 := by
        by_cases z : y = 0
        · exact z
        · exact absurd (show (!decide (V.int y = V.int 0)) = true by rw [decide_eq_false (fun w => z (by injection w))]; rfl) c
      subst c'
      refine ⟨_, rfl, ?_⟩
      rw [← g, gend hx] at q
      exact q
  · intro σ H Q Q' hq h
    obtain ⟨v, e, h1, k, e2, h2⟩ := h
    exact ⟨v, e, h1, k, e2, hq _ _ h2⟩
noncomputable def frOk : Th → Th → Option (Int × Int)
  | .int a, .int b => if b = 0 then none else some (a, b)
  | _, _ => none
theorem frOk_shape {tx ty : Th} {a b : Int} (h : frOk tx ty = some (a, b)) : tx = .int a ∧ ty = .int b ∧ b ≠ 0 := by
  unfold frOk at h
  split at h
  · split at h
    · cases h
    · rename_i hz; cases h; exact ⟨rfl, rfl, hz⟩
  · cases h
theorem frOk_no1 {tx ty : Th} (h : isW tx = false) : frOk tx ty = none := by
  cases tx <;> first | rfl | cases h
theorem frOk_no2 {tx ty : Th} (h : isW ty = false) : frOk tx ty = none := by
  cases tx <;> cases ty <;> first | rfl | cases h
theorem frOk_yes {a b : Int} (h : b ≠ 0) : frOk (.int a) (.int b) = some (a, b) := if_neg h
noncomputable def spFrac (C : CA) : Sp := fun vs H Q E => ∃ x y tx ty, vs = [x, y] ∧ Den H tx x ∧ Den H ty y ∧
  (∀ a b, frOk tx ty = some (a, b) → Smk b ∧ ∀ p, H p = none → Q (.ref p) (upd H p (.tup [.int (frT a b), .int (frB a b)]))) ∧ (frOk tx ty = none → E (.ref C.NoNumber) none H)
theorem smk_frD {a b : Int} (h : b ≠ 0) (sb : Smk b) : Smk (frD a b) := by
  have h1 : (frD a b).natAbs = Int.gcd a b := by unfold frD; split <;> omega
  have h2 : Int.gcd a b ≤ b.natAbs := Nat.le_of_dvd (by omega) (Nat.gcd_dvd_right ..)
  exact Nat.lt_of_le_of_lt (by rw [h1]; exact h2) sb
theorem gcd_abs (a b : Int) : (Int.gcd (if a < 0 then -a else a) (if b < 0 then -b else b) : Int) = Int.gcd a b := by rw [gabs]
theorem sc_frac : FnScope ["top", "bottom", "divisor"] ["top", "bottom"] (defScope s_frac) := ⟨rfl, rfl, rfl, by decide +kernel, rfl, by decide +kernel, by decide +kernel⟩
theorem ok_frac {C : CA} {f : Addr} {fd : FuncData} (F : Fun K "fraction" "fraction" s_frac f fd) (T : Txt mg) (cf : CF K mg C) {fwhole : Addr} {dwhole : FuncData} (Gwhole : FnOk P w K mg base CX0 2 fwhole dwhole ["thing"] spWhole) (bwhole : Binds K dwhole ["thing"] []) (kwhole : PySem.W.keepIn K (.ref fwhole) = true) (mwhole : mg "is_whole" = some (.ref fwhole)) {fcd : Addr} {dcd : FuncData} (Gcd : FnOk P w K mg base CX0 2 fcd dcd ["one", "other"] spCd) (bcd : Binds K dcd ["one", "other"] []) (kcd : PySem.W.keepIn K (.ref fcd) = true) (mcd : mg "common_divisor" = some (.ref fcd)) : FnOk P w K mg base (CXX P w) 3 f fd ["top", "bottom"] (spFrac C) := by
  refine F.okX sc_frac (fun vs H Q E h => ?_) (fun cdv A outer s H vs Q E hr h => ?_)
  · obtain ⟨x, y, tx, ty, rfl, _⟩ := h
    rfl
  obtain ⟨x, y, tx, ty, rfl, d1, d2, q1, q2⟩ := h
  refine ⟨_, (pss_cons (ps_if (PW.pt (pw_or (pt_not (pt_val (pe_call Gwhole hr rfl mwhole kwhole bwhole .nil pass0 (pa_cons (pv 0) pa_nil)))) (pw_or1 (pt_not (pt_val (pe_call Gwhole hr rfl mwhole kwhole bwhole .nil pass0 (pa_cons (pv 1) pa_nil))))))) (pss_one (ps_raise reachOf rfl cf.xNoNumber rfl (pa_cons pe_str pa_nil))) pss_nil)
    (pss_cons (ps_if (pt_cmpR op_eq (pv 1) pe_int (nomark _)) (pss_one (ps_raise reachOf rfl cf.xNoNumber rfl (pa_cons pe_str pa_nil))) pss_nil)
    (pss_cons (ps_set (i := 2) sc_frac.nd rfl (Or.inl rfl) (pe_call Gcd hr rfl mcd kcd bcd .nil pass0 (pa_cons (pe_callB call_abs rfl T.abs boot_abs (pa_cons (pv 0) pa_nil)) (pa_cons (pe_callB call_abs rfl T.abs boot_abs (pa_cons (pv 1) pa_nil)) pa_nil))))
    (pss_cons (ps_if (pt_cmpR op_lt (pv 1) pe_int (nomark _)) (pss_one (ps_set (i := 2) sc_frac.nd rfl (Or.inl rfl) (pe_un un_neg (pv 2)))) pss_nil)
    (pss_one (ps_ret (pe_tup (pa_cons (pe_op op_fdivK (pv 0) (pv 2)) (pa_cons (pe_op op_fdivK (pv 1) (pv 2)) pa_nil))))))))), ?_⟩
  refine ⟨_, rfl, x, tx, rfl, d1, _, rfl, ?_⟩
  cases hx : isW tx with
  | false => exact iteT (iteT ⟨(by show 1 ≤ sizeLine; decide), q2 (frOk_no1 hx)⟩)
  | true =>
    refine iteF ?_
    refine ⟨_, rfl, y, ty, rfl, d2, _, rfl, ?_⟩
    cases hy : isW ty with
    | false => exact iteT ⟨(by show 1 ≤ sizeLine; decide), q2 (frOk_no2 hy)⟩
    | true =>
      refine iteF ?_
      obtain ⟨a, rfl⟩ := isW_shape hx
      obtain ⟨b, rfl⟩ := isW_shape hy
      have d1' : x = V.int a := d1
      have d2' : y = V.int b := d2
      subst d1' d2'
      refine ⟨_, rfl, rfl, _, rfl, ?_⟩
      by_cases hb : b = 0
      · subst hb
        exact iteT ⟨(by show 1 ≤ sizeLine; decide), q2 rfl⟩
      refine ite2 (fun c => absurd (by have := of_decide_eq_true c; injection this) hb) (fun _ => ?_)
      obtain ⟨sb, q⟩ := q1 a b (frOk_yes hb)
      have sd := smk_frD (a := a) hb sb
      have nd := frD_ne (t := a) hb
      have ha : 0 ≤ (if a < 0 then -a else a) := by split <;> omega
      have hb' : 0 ≤ (if b < 0 then -b else b) := by split <;> omega
      refine ⟨_, rfl, _, rfl, _, rfl, _, rfl, _, _, rfl, ha, hb', ?_⟩
      rw [gcd_abs]
      refine ⟨_, rfl, _, _, rfl, rfl, _, rfl, ?_⟩
      refine ite2 (fun c => ?_) (fun c => ?_)
      · have c' : b < 0 := of_decide_eq_true c
        have e : frD a b = -(Int.gcd a b : Int) := if_pos c'
        rw [e] at sd nd
        refine ⟨_, rfl, _, rfl, ?_⟩
        refine ⟨_, rfl, _, rfl, _, _, rfl, rfl, ⟨nd, sd⟩, _, rfl, _, rfl, _, _, rfl, rfl, ⟨nd, sd⟩, (by show 2 ≤ sizeLine; decide), fun p hp => ?_⟩
        have z := q p hp
        unfold frT frB at z
        rw [e] at z
        exact z
      · have c' : ¬ b < 0 := ofD c
        have e : frD a b = (Int.gcd a b : Int) := if_neg c'
        rw [e] at sd nd
        refine ⟨_, rfl, _, rfl, _, _, rfl, rfl, ⟨nd, sd⟩, _, rfl, _, rfl, _, _, rfl, rfl, ⟨nd, sd⟩, (by show 2 ≤ sizeLine; decide), fun p hp => ?_⟩
        have z := q p hp
        unfold frT frB at z
        rw [e] at z
        exact z
noncomputable def NewFr (H : Hp) (r : Rat) (Q : VK) : Prop := ∀ a H', Same H H' → H' a = some (.tup [.int r.num, .int (r.den : Int)]) → Q (.ref a) H'
noncomputable def Told (H : Hp) (t b : Int) (Q : VK) : Prop := ∀ p, H p = none → Q (.ref p) (upd H p (.tup [.int (frT t b), .int (frB t b)]))
theorem frac_ready {C : CA} {H : Hp} {Q : VK} {E : XK} {t b : Int} (hb : b ≠ 0) (sb : Smk b) (q : Told H t b Q) : spFrac C [.int t, .int b] H Q E := by
  refine ⟨_, _, .int t, .int b, rfl, rfl, rfl, fun a b' e => ?_, fun e => ?_⟩
  · obtain ⟨e1, e2, _⟩ := frOk_shape e
    cases e1; cases e2
    exact ⟨sb, q⟩
  · rw [frOk_yes hb] at e; cases e
theorem told_new {H : Hp} {t b : Int} {r : Rat} {Q : VK} (e : frT t b = r.num ∧ frB t b = (r.den : Int)) (q : NewFr H r Q) : Told H t b Q := fun x hx => by
  refine q x _ (same_new hx _) ?_
  rw [upd_same, e.1, e.2]
structure FrA (H : Hp) (f : Addr) (r : Rat) : Prop where
  ob : H f = some (.tup [.int r.num, .int (r.den : Int)])
  st : Sz 4400 r.num
  sb : Sz 4400 (r.den : Int)
theorem FrA.keep {H H' : Hp} {f : Addr} {r : Rat} (h : FrA H f r) (s : Same H H') : FrA H' f r := ⟨s _ _ h.ob, h.st, h.sb⟩
noncomputable def natV (ks : List Nat) : List V := ks.map fun (k : Nat) => V.int (k : Int)
noncomputable def wysum (N T n : Nat) (ks : List Nat) : Nat := (ks.map fun k => wy N T n k).sum
theorem sum_nat {α : Type} (f : α → Nat) : ∀ ks : List α, (ks.map fun k => ((f k : Nat) : Int)).sum = (((ks.map f).sum : Nat) : Int)
  | [] => rfl
  | k :: ks => by
    rw [List.map_cons, List.sum_cons, sum_nat f ks, List.map_cons, List.sum_cons, Int.natCast_add]
theorem rq_is {t b : Int} (hb : 0 < b) : rq t b * (b : Rat) = (t : Rat) := by
  have bp : (0 : Rat) < (b : Rat) := by exact_mod_cast hb
  unfold rq; grind
theorem szb {N : Nat} (h : N ≤ 30) (k : Nat) : Sz 31 (binom N k : Int) := by
  have a := ble N k
  have b : (2 : Nat) ^ N ≤ 2 ^ 30 := Nat.pow_le_pow_right (by decide) h
  unfold Sz
  have : (2 : Nat) ^ 30 < 2 ^ 31 := by decide
  omega
theorem NewFr.on {H H' : Hp} {r : Rat} {Q : VK} (q : NewFr H r Q) (s : Same H H') : NewFr H' r Q := fun a H'' s' e => q a H'' (s.trans s') e
noncomputable def spTog : Sp := fun vs H Q _ => ∃ (N T n : Nat) (l : Addr) (ks : List Nat), vs = [.int N, .int T, .int n, .ref l] ∧ H l = some (.lst (natV ks)) ∧ T ≤ N ∧ N ≤ 30 ∧ n ≤ N ∧ (∀ k ∈ ks, k ≤ n) ∧ ks.length ≤ 40 ∧ NewFr H (rq (wysum N T n ks : Int) (binom N n : Int)) Q
theorem sc_tog : FnScope ["N", "T", "n", "outcomes", "ways"] ["N", "T", "n", "outcomes"] (defScope s_tog) := ⟨rfl, rfl, rfl, by decide +kernel, rfl, by decide +kernel, by decide +kernel⟩
theorem ok_tog {C : CA} {f : Addr} {fd : FuncData} (F : Fun K "weights_together" "weights_together" s_tog f fd) (T : Txt mg) {fcho : Addr} {dcho : FuncData} (Gcho : FnOk P w K mg base CX0 3 fcho dcho ["n", "k"] spCho) (bcho : Binds K dcho ["n", "k"] []) (kcho : PySem.W.keepIn K (.ref fcho) = true) (mcho : mg "choices" = some (.ref fcho)) {ffrac : Addr} {dfrac : FuncData} (Gfrac : FnOk P w K mg base (CXX P w) 3 ffrac dfrac ["top", "bottom"] (spFrac C)) (bfrac : Binds K dfrac ["top", "bottom"] []) (kfrac : PySem.W.keepIn K (.ref ffrac) = true) (mfrac : mg "fraction" = some (.ref ffrac)) : FnOk P w K mg base CX0 4 f fd ["N", "T", "n", "outcomes"] spTog := by
  refine F.ok sc_tog (fun vs H Q E h => ?_) (fun cdv A outer s H vs Q E hr h => ?_)
  · obtain ⟨N, T', n, l, ks, rfl, _⟩ := h
    rfl
  obtain ⟨N, T', n, l, ks, rfl, hl, hT, hN, hn, hk, h40, q⟩ := h
  refine ⟨_, (pss_cons (ps_setC (i := 4) sc_tog.nd rfl (Or.inl rfl) (xs := ["k"]) (ts := [("T", 1), ("N", 0), ("n", 2)]) rfl ⟨rfl, sub3 rfl rfl rfl, rfl, rfl, rfl, by decide +kernel, rfl, rfl⟩ (pi_list (pv 3)) (fun C s3 H3 fp => (pg_name (i := 0) (show (["k", "T", "N", "n"] : List Str).Nodup by decide +kernel) rfl (Or.inl rfl) (Or.inr rfl))) (fun C s3 H3 fp => pif_nil) (fun C s3 H3 fp => (pe_op op_mulK (pe_call Gcho hr rfl mcho kcho bcho .nil pass0 (pa_cons (pv 1) (pa_cons (pv 0) pa_nil))) (pe_call Gcho hr rfl mcho kcho bcho .nil pass0 (pa_cons (pe_op op_sub (pv 2) (pv 1)) (pa_cons (pe_op op_sub (pv 3) (pv 0)) pa_nil))))))
    (pss_one (ps_ret (pe_call Gfrac hr rfl mfrac kfrac bfrac .nil passN (pa_cons (pe_callB (call_sum rfl) rfl T.sum boot_sum (pa_cons (pv 4) pa_nil)) (pa_cons (pe_call Gcho hr rfl mcho kcho bcho .nil pass0 (pa_cons (pv 0) (pa_cons (pv 2) pa_nil))) pa_nil)))))), ?_⟩
  refine ⟨_, rfl, l, rfl, ⟨_, SqL.of hl⟩, fun D hD => ?_⟩
  refine comp_listMG ks (fun k => V.int (k : Int)) (fun k => V.int (wy N T' n k : Int)) hD (SqL.of hl) (Nat.le_of_lt (lt40 h40)) ?_ ?_
  · intro k H2 kk hx sm hkk
    have kn := hk k hx
    have z1 : Smk (cho (T' : Int) (k : Int)) := by rw [cho_nat]; exact (szb (by omega) k).smk (by decide)
    have z2 : Smk (cho ((N : Int) - (T' : Int)) ((n : Int) - (k : Int))) := by
      rw [show (N : Int) - (T' : Int) = ((N - T' : Nat) : Int) by omega, show (n : Int) - (k : Int) = ((n - k : Nat) : Int) by omega, cho_nat]
      exact (szb (by omega) _).smk (by decide)
    refine ⟨_, rfl, _, rfl, (T' : Int), (k : Int), rfl, by omega, _, rfl, _, rfl, _, _, rfl, rfl, _, rfl, _, rfl, _, _, rfl, rfl, _, _, rfl, by omega, _, _, rfl, rfl, ⟨z1, z2⟩, ?_⟩
    show kk (.int (cho (T' : Int) (k : Int) * cho ((N : Int) - (T' : Int)) ((n : Int) - (k : Int)))) H2
    rw [wy_cho hT kn]
    exact hkk H2 (Same.refl H2)
  intro H2 s2 hD2
  refine ⟨_, rfl, D, ks.map (fun k => (wy N T' n k : Int)), rfl, SqL.of (by rw [hD2, List.map_map]; rfl), ?_⟩
  refine ⟨_, rfl, _, rfl, (N : Int), (n : Int), rfl, by omega, ?_⟩
  have bp := bpos hn
  have bi : (0 : Int) < (binom N n : Int) := by omega
  rw [cho_nat, sum_nat]
  exact frac_ready (Int.ne_of_gt bi) ((szb hN n).smk (by decide)) (told_new (fr_rat (Int.ne_of_gt bi) (rq_is bi)) (q.on s2))
noncomputable def spUnd : Sp := fun vs H Q _ => ∃ f g r s, vs = [.ref f, .ref g] ∧ FrA H f r ∧ FrA H g s ∧ Q (.bl (decide (r < s))) H
theorem sc_und : FnScope ["one", "other"] ["one", "other"] (defScope s_und) := ⟨rfl, rfl, rfl, by decide +kernel, rfl, by decide +kernel, by decide +kernel⟩
theorem ok_und {f : Addr} {fd : FuncData} (F : Fun K "under" "under" s_und f fd) (T : Txt mg) : FnOk P w K mg base CX0 1 f fd ["one", "other"] spUnd := by
  refine F.ok sc_und (fun vs H Q E h => ?_) (fun cdv A outer s H vs Q E hr h => ?_)
  · obtain ⟨f, g, r, s, rfl, _⟩ := h
    rfl
  obtain ⟨f, g, r, s, rfl, t, u, q⟩ := h
  refine ⟨_, (pss_one (ps_ret (pe_cmpR op_lt (pe_op op_mulK (pe_ix ix_tup (pv 0) pe_int (fun _ _ => rfl)) (pe_ix ix_tup (pv 1) pe_int (fun _ _ => rfl))) (pe_op op_mulK (pe_ix ix_tup (pv 1) pe_int (fun _ _ => rfl)) (pe_ix ix_tup (pv 0) pe_int (fun _ _ => rfl))) (nomark _)))), ?_⟩
  refine ⟨_, rfl, f, _, 0, _, rfl, rfl, SqT.of t.ob, at0, _, rfl, g, _, 1, _, rfl, rfl, SqT.of u.ob, at1, _, _, rfl, rfl, ⟨t.st.smk (by decide), u.sb.smk (by decide)⟩, _, rfl, g, _, 0, _, rfl, rfl, SqT.of u.ob, at0, _, rfl, f, _, 1, _, rfl, rfl, SqT.of t.ob, at1, _, _, rfl, rfl, ⟨u.st.smk (by decide), t.sb.smk (by decide)⟩, _, _, rfl, rfl, ?_⟩
  have e : decide (r.num * (s.den : Int) < s.num * (r.den : Int)) = decide (r < s) := by
    by_cases c : r < s
    · rw [decide_eq_true c, decide_eq_true ((r_under r s).mpr c)]
    · rw [decide_eq_false c, decide_eq_false (fun z => c ((r_under r s).mp z))]
  show Q (.bl (decide (r.num * (s.den : Int) < s.num * (r.den : Int)))) H
  rw [e]
  exact q
theorem kit_lt {K : PySem.W.Frag} (t : Th) : PySem.W.kitAny K (tyTh t) (["list", "tuple"].map Value.type) = some (isLstT t || isTupT t) := by cases t <;> rfl
noncomputable def seqOf : Th → Option (List Th)
  | .lst ts => some ts
  | .tup ts => some ts
  | _ => none
noncomputable def rowB (t : Th) (c : Int) : Bool := match seqOf t with
  | some ts => decide ((ts.length : Int) = c)
  | none => false
noncomputable def pr2 (t : Th) : Option (Int × Int) := match seqOf t with
  | some [.int a, .int b] => some (a, b)
  | _ => none
theorem seq_den {H : Hp} {t : Th} {ts : List Th} {v : V} (h : seqOf t = some ts) (d : Den H t v) : ∃ a xs, v = .ref a ∧ SeqAt2 H a xs ∧ Dens H ts xs := by
  cases t with
  | lst us =>
    cases h
    obtain ⟨a, xs, e, h1, h2⟩ := d
    exact ⟨a, xs, e, .inl h1, h2⟩
  | tup us =>
    cases h
    obtain ⟨a, xs, e, h1, h2⟩ := d
    exact ⟨a, xs, e, .inr h1, h2⟩
  | non => cases h
  | bl _ => cases h
  | int _ => cases h
  | str _ => cases h
  | emp => cases h
  | dic => cases h
theorem row_seq {t : Th} {c : Int} (h : rowB t c = true) : ∃ ts, seqOf t = some ts ∧ (ts.length : Int) = c := by
  unfold rowB at h
  cases e : seqOf t with
  | none => rw [e] at h; cases h
  | some ts => rw [e] at h; exact ⟨ts, rfl, of_decide_eq_true h⟩
theorem row_two {t : Th} (h : rowB t 2 = true) : ∃ x y, seqOf t = some [x, y] := by
  obtain ⟨ts, e, l⟩ := row_seq h
  match ts, l with
  | [x, y], _ => exact ⟨x, y, e⟩
theorem dec_int {a b : Int} : decide (V.int a = V.int b) = decide (a = b) := decide_eq_decide.mpr ⟨fun h => by injection h, fun h => by rw [h]⟩
noncomputable def spRowT : Sp := fun vs H Q _ => ∃ (x : V) (c : Int) (t : Th), vs = [x, .int c] ∧ Den H t x ∧ ∀ H', Same H H' → Q (.bl (rowB t c)) H'
theorem sc_rowof : FnScope ["thing", "count"] ["thing", "count"] (defScope s_rowof) := ⟨rfl, rfl, rfl, by decide +kernel, rfl, by decide +kernel, by decide +kernel⟩
theorem ok_rowof {f : Addr} {fd : FuncData} (F : Fun K "is_row_of" "is_row_of" s_rowof f fd) (T : Txt mg) : FnOk P w K mg base CX0 1 f fd ["thing", "count"] spRowT := by
  refine F.ok sc_rowof (fun vs H Q E h => ?_) (fun cdv A outer s H vs Q E hr h => ?_)
  · obtain ⟨x, c, t, rfl, _⟩ := h
    rfl
  obtain ⟨x, c, t, rfl, d, q⟩ := h
  refine ⟨_, (pss_one (ps_ret (pe_and (pe_callB call_isinstT rfl T.isinstance boot_isinstance (pa_cons (pv 0) (pa_cons (pe_tup (pa_cons (pe_bltn (v := .ty "list") rfl T.list boot_list rfl) (pa_cons (pe_bltn (v := .ty "tuple") rfl T.tuple boot_tuple rfl) pa_nil))) pa_nil))) (pe_one (pe_cmpR op_eq (pe_callB call_len_seq rfl T.len boot_len (pa_cons (pv 0) pa_nil)) (pv 1) (nomark _)))))), ?_⟩
  refine ⟨_, rfl, (by show 2 ≤ sizeLine; decide), fun p hp => ?_⟩
  have s1 := same_new hp (.tup [V.ty "list", V.ty "tuple"])
  refine ⟨x, p, t, ["list", "tuple"], _, rfl, upd_same, d.keep s1, kit_lt t, _, rfl, ?_⟩
  have q1 := q _ s1
  cases t with
  | lst ts =>
    obtain ⟨a, xs, rfl, h1, dd⟩ := d
    refine iteT ⟨_, rfl, a, xs, rfl, .inl (SqL.of (s1 _ _ h1)), _, rfl, rfl, ?_⟩
    show Q (.bl (decide (V.int (xs.length : Int) = V.int c))) _
    rw [dec_int, dd.len]
    exact q1
  | tup ts =>
    obtain ⟨a, xs, rfl, h1, dd⟩ := d
    refine iteT ⟨_, rfl, a, xs, rfl, .inr (SqT.of (s1 _ _ h1)), _, rfl, rfl, ?_⟩
    show Q (.bl (decide (V.int (xs.length : Int) = V.int c))) _
    rw [dec_int, dd.len]
    exact q1
  | non => exact iteF q1
  | bl _ => exact iteF q1
  | int _ => exact iteF q1
  | str _ => exact iteF q1
  | emp => exact iteF q1
  | dic => exact iteF q1
noncomputable def InN (N : Int) (p : Int × Int) : Prop := 0 ≤ p.1 ∧ p.1 ≤ p.2 ∧ p.2 ≤ N
noncomputable def spCntX (C : CA) : Sp := fun vs H Q E => ∃ (x : V) (t : Th) (N : Int), vs = [x, .int N] ∧ Den H t x ∧ (∀ a, pr2 t = some a → InN N a → ∀ p H', Same H H' → H' p = some (.tup [.int a.1, .int a.2]) → Q (.ref p) H') ∧
  ((∀ a, pr2 t = some a → ¬ InN N a) → ∀ H', Same H H' → E (.ref C.NoRule) none H')
theorem sc_cnt : FnScope ["thing", "N", "low", "high"] ["thing", "N"] (defScope s_cnt) := ⟨rfl, rfl, rfl, by decide +kernel, rfl, by decide +kernel, by decide +kernel⟩
theorem ok_cnt {C : CA} {f : Addr} {fd : FuncData} (F : Fun K "counts_of" "counts_of" s_cnt f fd) (T : Txt mg) (cf : CF K mg C) {frowof : Addr} {drowof : FuncData} (Growof : FnOk P w K mg base CX0 3 frowof drowof ["thing", "count"] spRowT) (browof : Binds K drowof ["thing", "count"] []) (krowof : PySem.W.keepIn K (.ref frowof) = true) (mrowof : mg "is_row_of" = some (.ref frowof)) {fwhole : Addr} {dwhole : FuncData} (Gwhole : FnOk P w K mg base CX0 3 fwhole dwhole ["thing"] spWhole) (bwhole : Binds K dwhole ["thing"] []) (kwhole : PySem.W.keepIn K (.ref fwhole) = true) (mwhole : mg "is_whole" = some (.ref fwhole)) : FnOk P w K mg base (CXX P w) 4 f fd ["thing", "N"] (spCntX C) := by
  refine F.okX sc_cnt (fun vs H Q E h => ?_) (fun cdv A outer s H vs Q E hr h => ?_)
  · obtain ⟨x, t, N, rfl, _⟩ := h
    rfl
  obtain ⟨x, t, N, rfl, d, q1, q2⟩ := h
  refine ⟨_, (pss_cons (ps_if (pt_not (pt_val (pe_call Growof hr rfl mrowof krowof browof .nil pass0 (pa_cons (pv 0) (pa_cons pe_int pa_nil))))) (pss_one (ps_raise reachOf rfl cf.xNoRule rfl (pa_cons pe_str pa_nil))) pss_nil)
    (pss_cons (ps_set (i := 2) sc_cnt.nd rfl (Or.inl rfl) (pe_ix ix_seq (pv 0) pe_int (fun _ _ => rfl)))
    (pss_cons (ps_set (i := 3) sc_cnt.nd rfl (Or.inl rfl) (pe_ix ix_seq (pv 0) pe_int (fun _ _ => rfl)))
    (pss_cons (ps_if (PW.pt (pw_or (pt_not (pt_val (pe_call Gwhole hr rfl mwhole kwhole bwhole .nil pass0 (pa_cons (pv 2) pa_nil)))) (pw_or1 (pt_not (pt_val (pe_call Gwhole hr rfl mwhole kwhole bwhole .nil pass0 (pa_cons (pv 3) pa_nil))))))) (pss_one (ps_raise reachOf rfl cf.xNoRule rfl (pa_cons pe_str pa_nil))) pss_nil)
    (pss_cons (ps_if (pt_not (pt_chain3 op_le op_le op_le pe_int (pv 2) (pv 3) (pv 1))) (pss_one (ps_raise reachOf rfl cf.xNoRule rfl (pa_cons pe_str pa_nil))) pss_nil)
    (pss_one (ps_ret (pe_tup (pa_cons (pv 2) (pa_cons (pv 3) pa_nil)))))))))), ?_⟩
  refine ⟨_, rfl, x, 2, t, rfl, d, fun H1 s1 => ⟨_, rfl, ?_⟩⟩
  cases hr2 : rowB t 2 with
  | false =>
    refine iteT ⟨(by show 1 ≤ sizeLine; decide), q2 (fun a ha => ?_) _ s1⟩
    exfalso
    unfold pr2 at ha
    unfold rowB at hr2
    split at ha
    · rename_i e
      rw [e] at hr2
      exact absurd hr2 (by simp)
    · cases ha
  | true =>
    obtain ⟨t0, t1, e2⟩ := row_two hr2
    obtain ⟨a, xs, rfl, sq, dd⟩ := seq_den e2 d
    obtain ⟨y, ys, rfl, d0, z, zs, rfl, d1, e5⟩ := dd
    have e5' : zs = [] := e5
    subst e5'
    refine iteF ?_
    have sq1 := sq.keep s1
    refine ⟨_, rfl, sq1.ix at0 ?_⟩
    refine ⟨_, rfl, sq1.ix at1 ?_⟩
    refine ⟨_, rfl, y, t0, rfl, d0.keep s1, _, rfl, ?_⟩
    cases h0 : isW t0 with
    | false =>
      refine iteT (iteT ⟨(by show 1 ≤ sizeLine; decide), q2 (fun a ha => ?_) _ s1⟩)
      exfalso
      unfold pr2 at ha
      rw [e2] at ha
      split at ha
      · rename_i e
        cases e
        cases h0
      · cases ha
    | true =>
      refine iteF ⟨_, rfl, z, t1, rfl, d1.keep s1, _, rfl, ?_⟩
      cases h1 : isW t1 with
      | false =>
        refine iteT ⟨(by show 1 ≤ sizeLine; decide), q2 (fun a ha => ?_) _ s1⟩
        exfalso
        unfold pr2 at ha
        rw [e2] at ha
        split at ha
        · rename_i e
          cases e
          cases h1
        · cases ha
      | true =>
        obtain ⟨i, rfl⟩ := isW_shape h0
        obtain ⟨j, rfl⟩ := isW_shape h1
        have d0' : y = V.int i := d0
        have d1' : z = V.int j := d1
        subst d0' d1'
        have ep : pr2 t = some (i, j) := by unfold pr2; rw [e2]
        have bad : ¬ InN N (i, j) → ∀ H', Same H H' → E (.ref C.NoRule) none H' := fun hb => q2 fun a ha => by rw [ep] at ha; cases ha; exact hb
        refine iteF ?_
        refine ⟨_, rfl, _, _, rfl, rfl, _, rfl, ?_⟩
        refine ite2 (fun c0 => ?_) (fun c0 => iteT ⟨(by show 1 ≤ sizeLine; decide), bad (fun hb => ofD c0 hb.1) _ s1⟩)
        refine ⟨_, rfl, _, _, rfl, rfl, _, rfl, ?_⟩
        refine ite2 (fun c1 => ?_) (fun c1 => iteT ⟨(by show 1 ≤ sizeLine; decide), bad (fun hb => ofD c1 hb.2.1) _ s1⟩)
        refine ⟨_, rfl, _, _, rfl, rfl, _, rfl, ?_⟩
        refine ite2 (fun c2 => ⟨(by show 1 ≤ sizeLine; decide), bad (fun hb => ?_) _ s1⟩) (fun c2 => ?_)
        · exact absurd (show j ≤ N from hb.2.2) (by simpa using c2)
        · have hN : j ≤ N := by simpa using c2
          exact ⟨_, rfl, _, rfl, (by show 2 ≤ sizeLine; decide), fun b hb => q1 (i, j) ep ⟨of_decide_eq_true c0, of_decide_eq_true c1, hN⟩ b _ (s1.trans (same_new hb _)) upd_same⟩
theorem cut_tail {ws : List V} (h : 1 ≤ ws.length) : cutV ws (some 1) none = ws.drop 1 := by
  have h1 : HT.sIx ws.length 0 (some 1) = 1 := by
    rw [show (1 : Int) = ((1 : Nat) : Int) from rfl, HT.sIx_nat]
    omega
  unfold cutV
  rw [h1, HT.sIx_none, List.take_of_length_le (by simp)]
noncomputable def Ris (ps : List (Int × Int)) : Prop := ∀ i p q, ps[i]? = some p → ps[i + 1]? = some q → p.1 ≤ q.1 ∧ p.2 ≤ q.2
structure GoodR (A B S : Th) (N n : Int) (ps : List (Int × Int)) : Prop where
  a : A = .int N
  b : B = .int n
  seq : ∃ ts, seqOf S = some ts ∧ ts.map pr2 = ps.map some
  N1 : 1 ≤ N
  N30 : N ≤ 30
  n1 : 1 ≤ n
  n10 : n ≤ 10
  nN : n ≤ N
  len : (ps.length : Int) = n + 1
  inn : ∀ p ∈ ps, InN N p
  ris : Ris ps
noncomputable def ppT (p : Int × Int) : Th := .tup [.int p.1, .int p.2]
noncomputable def ruleT (N n : Int) (ps : List (Int × Int)) : Th := .tup [.int N, .int n, .tup (ps.map ppT)]
theorem dens_snoc {H : Hp} : ∀ {ts : List Th} {xs : List V} {t : Th} {v : V}, Dens H ts xs → Den H t v → Dens H (ts ++ [t]) (xs ++ [v])
  | [], xs, t, v, h, d => by
    rw [show xs = [] from h]
    exact ⟨v, [], rfl, d, rfl⟩
  | u :: us, xs, t, v, ⟨y, ys, e, d1, d2⟩, d => by
    rw [e]
    exact ⟨y, ys ++ [v], rfl, d1, dens_snoc d2 d⟩
theorem den_pp {H : Hp} {p : Int × Int} {v : V} (d : Den H (ppT p) v) : ∃ a, v = .ref a ∧ H a = some (.tup [.int p.1, .int p.2]) := den_pair d
theorem map_snoc {ts : List Th} {ps : List (Int × Int)} {i : Nat} {t : Th} {a : Int × Int} (h : (ts.take i).map pr2 = ps.map some) (e : ts[i]? = some t) (ha : pr2 t = some a) : (ts.take (i + 1)).map pr2 = (ps ++ [a]).map some := by
  rw [List.take_add_one, e, List.map_append, List.map_append, h]
  show _ ++ [pr2 t] = _
  rw [ha]
  rfl
theorem map_at {ts : List Th} {ps : List (Int × Int)} (h : ts.map pr2 = ps.map some) {i : Nat} {t : Th} (e : ts[i]? = some t) : ∃ p, ps[i]? = some p ∧ pr2 t = some p := by
  have h1 : (ts.map pr2)[i]? = some (pr2 t) := by rw [List.getElem?_map, e]; rfl
  rw [h, List.getElem?_map] at h1
  cases q : ps[i]? with
  | none => rw [q] at h1; cases h1
  | some p => rw [q] at h1; exact ⟨p, rfl, (Option.some.inj h1).symm⟩
theorem some_inj : ∀ {ps qs : List (Int × Int)}, ps.map some = qs.map some → ps = qs
  | [], [], _ => rfl
  | [], _ :: _, h => by cases h
  | _ :: _, [], h => by cases h
  | p :: ps, q :: qs, h => by
    rw [List.map_cons, List.map_cons] at h
    injection h with h1 h2
    injection h1 with h1
    rw [h1, some_inj h2]
theorem dens_write {H : Hp} {l : Addr} {zs ws : List V} (hl : H l = some (.lst zs)) : ∀ {ts : List Th} {xs : List V}, (∀ t ∈ ts, ∃ p, t = ppT p) → Dens H ts xs → Dens (upd H l (.lst ws)) ts xs
  | [], _, _, h => h
  | t :: ts, xs, ht, ⟨y, ys, e, d1, d2⟩ => by
    obtain ⟨p, rfl⟩ := ht t (by simp)
    obtain ⟨a, rfl, ha⟩ := den_pp d1
    exact ⟨.ref a, ys, e, den_p (by rw [upd_ne (ne_of ha hl (by intro z; cases z))]; exact ha), dens_write hl (fun t' h' => ht t' (by simp [h'])) d2⟩
noncomputable def spCRX (C : CA) : Sp := fun vs H Q E => ∃ (x y z : V) (A B S : Th), vs = [x, y, z] ∧ Den H A x ∧ Den H B y ∧ Den H S z ∧ (∀ N n ps, GoodR A B S N n ps → ∀ p H', Same H H' → Den H' (ruleT N n ps) (.ref p) → Q (.ref p) H') ∧
  ((∀ N n ps, ¬ GoodR A B S N n ps) → ∀ H', Same H H' → E (.ref C.NoRule) none H')
theorem sc_crule : FnScope ["N", "n", "stretches", "kept", "ahead", "behind"] ["N", "n", "stretches"] (defScope s_crule) := ⟨rfl, rfl, rfl, by decide +kernel, rfl, by decide +kernel, by decide +kernel⟩
theorem ok_crule {C : CA} {f : Addr} {fd : FuncData} (F : Fun K "count_rule" "count_rule" s_crule f fd) (T : Txt mg) (cf : CF K mg C) {fwhole : Addr} {dwhole : FuncData} (Gwhole : FnOk P w K mg base CX0 4 fwhole dwhole ["thing"] spWhole) (bwhole : Binds K dwhole ["thing"] []) (kwhole : PySem.W.keepIn K (.ref fwhole) = true) (mwhole : mg "is_whole" = some (.ref fwhole)) {frowof : Addr} {drowof : FuncData} (Growof : FnOk P w K mg base CX0 4 frowof drowof ["thing", "count"] spRowT) (browof : Binds K drowof ["thing", "count"] []) (krowof : PySem.W.keepIn K (.ref frowof) = true) (mrowof : mg "is_row_of" = some (.ref frowof)) {fcnt : Addr} {dcnt : FuncData} (Gcnt : FnOk P w K mg base (CXX P w) 4 fcnt dcnt ["thing", "N"] (spCntX C)) (bcnt : Binds K dcnt ["thing", "N"] []) (kcnt : PySem.W.keepIn K (.ref fcnt) = true) (mcnt : mg "counts_of" = some (.ref fcnt)) : FnOk P w K mg base (CXX P w) 5 f fd ["N", "n", "stretches"] (spCRX C) := by
  refine F.okX sc_crule (fun vs H Q E h => ?_) (fun cdv A outer s H vs Q E hr h => ?_)
  · obtain ⟨x, y, z, A', B', S', rfl, _⟩ := h
    rfl
  obtain ⟨x, y, z, A', B', S', rfl, dA, dB, dS, q1, q2⟩ := h
  refine ⟨_, (pss_cons (ps_if (PW.pt (pw_or (pt_not (pt_val (pe_call Gwhole hr rfl mwhole kwhole bwhole .nil pass0 (pa_cons (pv 0) pa_nil)))) (pw_or (pt_cmpR op_lt (pv 0) pe_int (nomark _)) (pw_or1 (pt_cmpR op_gt (pv 0) pe_int (nomark _)))))) (pss_one (ps_raise reachOf rfl cf.xNoRule rfl (pa_cons pe_str pa_nil))) pss_nil)
    (pss_cons (ps_if (PW.pt (pw_or (pt_not (pt_val (pe_call Gwhole hr rfl mwhole kwhole bwhole .nil pass0 (pa_cons (pv 1) pa_nil)))) (pw_or (pt_cmpR op_lt (pv 1) pe_int (nomark _)) (pw_or (pt_cmpR op_gt (pv 1) pe_int (nomark _)) (pw_or1 (pt_cmpR op_gt (pv 1) (pv 0) (nomark _))))))) (pss_one (ps_raise reachOf rfl cf.xNoRule rfl (pa_cons pe_str pa_nil))) pss_nil)
    (pss_cons (ps_if (pt_not (pt_val (pe_call Growof hr rfl mrowof krowof browof .nil pass0 (pa_cons (pv 2) (pa_cons (pe_op op_add (pv 1) pe_int) pa_nil))))) (pss_one (ps_raise reachOf rfl cf.xNoRule rfl (pa_cons pe_str pa_nil))) pss_nil)
    (pss_cons (ps_set (i := 3) sc_crule.nd rfl (Or.inl rfl) (pe_callTy call_tuple_of rfl T.tuple boot_tuple (pa_cons (pe_compX (xs := ["stretch"]) (ts := [("N", 0)]) dxOf (fun _ _ h => h) rfl ⟨rfl, sub1 rfl, rfl, rfl, rfl, by decide +kernel, rfl, rfl⟩ (pi_seq (pv 2)) (fun C s3 H3 fp => (pg_name (i := 0) (show (["stretch", "N"] : List Str).Nodup by decide +kernel) rfl (Or.inl rfl) (Or.inr rfl))) (fun C s3 H3 fp => pif_nil) (fun C s3 H3 fp xe hx => (pe_call Gcnt hr rfl mcnt kcnt bcnt .nil hx (pa_cons (pv 0) (pa_cons (pv 1) pa_nil))))) pa_nil)))
    (pss_cons (ps_for PassesOwn.leaving rfl (pi_zipT rfl T.zip (pa_cons (pv 3) (pa_cons (pe_slice sl_tup (pv 3) (po_some pe_int) po_none) pa_nil))) (pg_tup rfl (pgs_cons (pg_name (i := 4) sc_crule.nd rfl (Or.inl rfl)) (pgs_cons (pg_name (i := 5) sc_crule.nd rfl (Or.inl rfl)) pgs_nil))) (pss_one (ps_if (PW.pt (pw_or (pt_cmpR op_lt (pe_ix ix_tup (pv 5) pe_int (fun _ _ => rfl)) (pe_ix ix_tup (pv 4) pe_int (fun _ _ => rfl)) (nomark _)) (pw_or1 (pt_cmpR op_lt (pe_ix ix_tup (pv 5) pe_int (fun _ _ => rfl)) (pe_ix ix_tup (pv 4) pe_int (fun _ _ => rfl)) (nomark _))))) (pss_one (ps_raise reachOf rfl cf.xNoRule rfl (pa_cons pe_str pa_nil))) pss_nil)))
    (pss_one (ps_ret (pe_tup (pa_cons (pv 0) (pa_cons (pv 1) (pa_cons (pv 3) pa_nil))))))))))), ?_⟩
  have one : 1 ≤ sizeLine := by decide
  refine ⟨_, rfl, x, A', rfl, dA, _, rfl, ?_⟩
  cases hA : isW A' with
  | false => exact iteT (iteT ⟨one, q2 (fun N n ps g => by rw [g.a] at hA; cases hA) _ (Same.refl H)⟩)
  | true =>
  obtain ⟨N, rfl⟩ := isW_shape hA
  cases (show x = V.int N from dA)
  refine iteF ⟨_, rfl, _, _, rfl, rfl, _, rfl, ?_⟩
  refine ite2 (fun c => iteT ⟨one, q2 (fun N' n ps g => ?_) _ (Same.refl H)⟩) (fun c1 => ?_)
  · have e := g.a
    cases e
    have := of_decide_eq_true c
    have := g.N1
    omega
  refine ⟨_, rfl, _, _, rfl, rfl, _, rfl, ?_⟩
  refine ite2 (fun c => ⟨one, q2 (fun N' n ps g => ?_) _ (Same.refl H)⟩) (fun c2 => ?_)
  · have e := g.a
    cases e
    have := of_decide_eq_true c
    have := g.N30
    omega
  have k1 : ¬ N < 1 := ofD c1
  have k2 : ¬ (30 : Int) < N := ofD c2
  refine ⟨_, rfl, y, B', rfl, dB, _, rfl, ?_⟩
  cases hB : isW B' with
  | false => exact iteT (iteT ⟨one, q2 (fun N n ps g => by rw [g.b] at hB; cases hB) _ (Same.refl H)⟩)
  | true =>
  obtain ⟨n, rfl⟩ := isW_shape hB
  cases (show y = V.int n from dB)
  have gn : ∀ {N' n' ps}, GoodR (.int N) (.int n) S' N' n' ps → N' = N ∧ n' = n := fun g => by
    have e := g.a
    have e' := g.b
    cases e
    cases e'
    exact ⟨rfl, rfl⟩
  refine iteF ⟨_, rfl, _, _, rfl, rfl, _, rfl, ?_⟩
  refine ite2 (fun c => iteT ⟨one, q2 (fun N' n' ps g => ?_) _ (Same.refl H)⟩) (fun c3 => ?_)
  · obtain ⟨rfl, rfl⟩ := gn g
    have := of_decide_eq_true c
    have := g.n1
    omega
  refine ⟨_, rfl, _, _, rfl, rfl, _, rfl, ?_⟩
  refine ite2 (fun c => iteT ⟨one, q2 (fun N' n' ps g => ?_) _ (Same.refl H)⟩) (fun c4 => ?_)
  · obtain ⟨rfl, rfl⟩ := gn g
    have := of_decide_eq_true c
    have := g.n10
    omega
  refine ⟨_, rfl, _, rfl, _, _, rfl, rfl, _, rfl, ?_⟩
  refine ite2 (fun c => ⟨one, q2 (fun N' n' ps g => ?_) _ (Same.refl H)⟩) (fun c5 => ?_)
  · obtain ⟨rfl, rfl⟩ := gn g
    have := of_decide_eq_true c
    have := g.nN
    omega
  have k3 : ¬ n < 1 := ofD c3
  have k4 : ¬ (10 : Int) < n := ofD c4
  have k5 : ¬ N < n := ofD c5
  refine ⟨_, rfl, _, rfl, _, _, rfl, rfl, z, n + 1, S', rfl, dS, fun H1 s1 => ⟨_, rfl, ?_⟩⟩
  cases hR : rowB S' (n + 1) with
  | false =>
    refine iteT ⟨one, q2 (fun N' n' ps g => ?_) _ s1⟩
    obtain ⟨rfl, rfl⟩ := gn g
    obtain ⟨ts, e1, e2⟩ := g.seq
    have l1 : ts.length = ps.length := by simpa using congrArg List.length e2
    have l2 := g.len
    unfold rowB at hR
    rw [e1] at hR
    exact absurd hR (by simp; omega)
  | true =>
  refine iteF ?_
  obtain ⟨ts, es, lt⟩ := row_seq hR
  obtain ⟨a, xs, rfl, sq, dd⟩ := seq_den es dS
  have lx := dd.len
  have sq1 := sq.keep s1
  have dd1 := dd.keep s1
  refine ⟨_, rfl, a, xs, rfl, ?_⟩
  refine seq_comp sq1 (Nat.le_of_lt (lt40 (by omega))) (fun D i ws H2 => ∃ ps : List (Int × Int), (ts.take i).map pr2 = ps.map some ∧ (∀ p ∈ ps, InN N p) ∧ Dens H2 (ps.map ppT) ws) (fun D hD => ⟨[], rfl, (fun p hp => absurd hp (by simp)), rfl⟩) ?_ ?_
  · rintro D i v ws H2 k hD hv sm e hl ⟨ps, m1, m2, m3⟩ hk
    have hi := (List.getElem?_eq_some_iff.mp hv).1
    have et := List.getElem?_eq_getElem (show i < ts.length by omega)
    obtain ⟨v', f1, f2⟩ := (dd1.keep sm).get et
    rw [hv] at f1
    cases f1
    refine ⟨_, rfl, _, rfl, v, _, N, rfl, f2, fun b hb hin p H3 s3 hp => hk _ _ s3 ⟨ps ++ [b], map_snoc m1 et hb, fun p' hp' => ?_, ?_⟩, fun hbad H3 s3 => q2 (fun N' n' ps' g => ?_) _ ((s1.trans sm).trans s3)⟩
    · rcases List.mem_append.mp hp' with y | y
      · exact m2 p' y
      · rw [List.mem_singleton.mp y]; exact hin
    · rw [List.map_append]
      have hD3 := s3 _ _ e
      exact dens_write hD3 (fun p' hp' => by
        rcases List.mem_append.mp hp' with y | y
        · obtain ⟨q, _, rfl⟩ := List.mem_map.mp y; exact ⟨q, rfl⟩
        · exact ⟨b, List.mem_singleton.mp y⟩) (dens_snoc (m3.keep s3) (show Den H3 (ppT b) (.ref p) from den_p hp))
    · obtain ⟨rfl, rfl⟩ := gn g
      obtain ⟨ts', e1, e2⟩ := g.seq
      rw [es] at e1
      cases e1
      obtain ⟨p, y1, y2⟩ := map_at e2 et
      exact hbad p y2 (g.inn p (List.mem_of_getElem? y1))
  rintro D ws H2 hD s2 hD2 hlw ⟨ps, m1, m2, m3⟩
  rw [List.take_of_length_le (by omega)] at m1
  have lp : ts.length = ps.length := by simpa using congrArg List.length m1
  refine ⟨D, ws, rfl, .inl ⟨SqL.of hD2, fun t ht => ?_⟩⟩
  have s3 := same_new ht (.tup ws)
  have r3 := m3.keep s3
  have t3 : (upd H2 t (.tup ws)) t = some (.tup ws) := upd_same
  have s13 := (s1.trans s2).trans s3
  generalize hH3 : upd H2 t (.tup ws) = H3 at *
  have hcut : ¬ (HT.sIx ws.length 0 (some 1) = 0 ∧ HT.sIx ws.length ws.length none = ws.length) := by
    rw [show (1 : Int) = ((1 : Nat) : Int) from rfl, HT.sIx_nat]
    omega
  refine ⟨_, rfl, _, rfl, _, rfl, t, ws, rfl, SqT.of t3, hcut, fun m hm => ?_⟩
  rw [cut_tail (by omega)]
  have s4 := same_new hm (.tup (ws.drop 1))
  refine ⟨t, m, rfl, ⟨_, SqT.of (s4 _ _ t3)⟩, ⟨_, SqT.of upd_same⟩, ?_⟩
  have m4 : (upd H3 m (.tup (ws.drop 1))) m = some (.tup (ws.drop 1)) := upd_same
  have r4 := r3.keep s4
  have t4 := s4 _ _ t3
  generalize hH4 : upd H3 m (.tup (ws.drop 1)) = H4 at *
  have pin : ∀ {N' n' ps'}, GoodR (.int N) (.int n) S' N' n' ps' → ps' = ps := fun g => by
    obtain ⟨ts', e1, e2⟩ := g.seq
    rw [es] at e1
    cases e1
    exact some_inj (e2.symm.trans m1)
  refine for_zipT (n := ws.length - 1) (xs := ws) (ys := ws.drop 1) (fun i σ H' => Same H4 H' ∧ (∀ j, j < i → ∀ p q, ps[j]? = some p → ps[j + 1]? = some q → p.1 ≤ q.1 ∧ p.2 ≤ q.2) ∧ ∃ v1 v2, σ = [some (.int N), some (.int n), some (.ref a), some (.ref t), v1, v2]) ⟨Same.refl H4, fun j hj => absurd hj (by omega), none, none, rfl⟩ (by omega) (by simp) (.inr (by simp)) ?_ ?_ ?_
  · rintro i σ H' hi ⟨sm, _⟩
    exact ⟨SqT.of (sm _ _ t4), SqT.of (sm _ _ m4)⟩
  · rintro i u v U σ H' hi hu hv hU ⟨sm, hj, v1, v2, rfl⟩
    have ep := List.getElem?_eq_getElem (show i < ps.length by omega)
    have ep2 := List.getElem?_eq_getElem (show i + 1 < ps.length by omega)
    obtain ⟨w1, f1, g1⟩ := (r4.keep sm).get (i := i) (t := ppT ps[i]) (by rw [List.getElem?_map, ep]; rfl)
    obtain ⟨w2, f2, g2⟩ := (r4.keep sm).get (i := i + 1) (t := ppT ps[i + 1]) (by rw [List.getElem?_map, ep2]; rfl)
    rw [hu] at f1
    cases f1
    rw [List.getElem?_drop, Nat.add_comm, f2] at hv
    cases hv
    obtain ⟨b, rfl, b2⟩ := den_pp g1
    obtain ⟨b', rfl, b2'⟩ := den_pp g2
    have sU := same_new hU (.tup [.ref b, .ref b'])
    refine ⟨U, _, rfl, SqT.of upd_same, rfl, .ref b, [.ref b'], rfl, .ref b', [], rfl, rfl, ?_⟩
    have f2' := sU _ _ b2
    have g2' := sU _ _ b2'
    refine ⟨_, rfl, b', _, 0, _, rfl, rfl, SqT.of g2', at0, _, rfl, b, _, 0, _, rfl, rfl, SqT.of f2', at0, _, _, rfl, rfl, _, rfl, ?_⟩
    refine ite2 (fun c => iteT ⟨one, q2 (fun N' n' ps' g => ?_) _ ((((s13.trans s4).trans sm)).trans sU)⟩) (fun d1 => ?_)
    · have z := of_decide_eq_true c
      have y := g.ris
      rw [pin g] at y
      have := (y i _ _ ep ep2).1
      omega
    refine ⟨_, rfl, b', _, 1, _, rfl, rfl, SqT.of g2', at1, _, rfl, b, _, 1, _, rfl, rfl, SqT.of f2', at1, _, _, rfl, rfl, _, rfl, ?_⟩
    refine ite2 (fun c => ⟨one, q2 (fun N' n' ps' g => ?_) _ ((((s13.trans s4).trans sm)).trans sU)⟩) (fun d2 => ?_)
    · have z := of_decide_eq_true c
      have y := g.ris
      rw [pin g] at y
      have := (y i _ _ ep ep2).2
      omega
    refine ⟨sm.trans sU, fun j hj' p q hp hq => ?_, _, _, rfl⟩
    by_cases ej : j < i
    · exact hj j ej p q hp hq
    · have : j = i := by omega
      subst this
      rw [ep] at hp
      rw [ep2] at hq
      cases hp
      cases hq
      have z1 := ofD d1
      have z2 := ofD d2
      exact ⟨by omega, by omega⟩
  · rintro σ H' ⟨sm, hj, v1, v2, rfl⟩
    refine ⟨_, rfl, _, rfl, _, rfl, (by show 3 ≤ sizeLine; decide), fun x hx => ?_⟩
    have s5 := same_new hx (.tup [V.int N, V.int n, V.ref t])
    have gd : GoodR (.int N) (.int n) S' N n ps := ⟨rfl, rfl, ⟨ts, es, m1⟩, by omega, by omega, by omega, by omega, by omega, by omega, m2, fun i p q hp hq => hj i (by have := (List.getElem?_eq_some_iff.mp hq).1; omega) p q hp hq⟩
    exact q1 N n ps gd x _ (((s13.trans s4).trans sm).trans s5) ⟨x, _, rfl, upd_same, _, _, rfl, rfl, _, _, rfl, rfl, _, _, rfl, ⟨t, ws, rfl, s5 _ _ (sm _ _ t4), (r4.keep sm).keep s5⟩, rfl⟩
noncomputable def RowN (H : Hp) : List (Nat × Nat) → List V → Prop
  | [], xs => xs = []
  | p :: ps, xs => ∃ a ys, xs = .ref a :: ys ∧ H a = some (.tup [.int p.1, .int p.2]) ∧ RowN H ps ys
theorem RowN.keep {H H' : Hp} (s : Same H H') : ∀ {ps : List (Nat × Nat)} {xs : List V}, RowN H ps xs → RowN H' ps xs
  | [], _, h => h
  | _ :: _, _, ⟨a, ys, e, h0, h3⟩ => ⟨a, ys, e, s _ _ h0, h3.keep s⟩
theorem RowN.len {H : Hp} : ∀ {ps : List (Nat × Nat)} {xs : List V}, RowN H ps xs → xs.length = ps.length
  | [], _, h => by rw [show _ = [] from h]; rfl
  | _ :: _, _, ⟨a, ys, e, h0, h3⟩ => by rw [e, List.length_cons, List.length_cons, h3.len]
theorem RowN.get {H : Hp} : ∀ {ps : List (Nat × Nat)} {xs : List V} {i : Nat} {p : Nat × Nat}, RowN H ps xs → ps[i]? = some p → ∃ a, xs[i]? = some (.ref a) ∧ H a = some (.tup [.int p.1, .int p.2])
  | _ :: _, _, 0, p, ⟨a, ys, e, h0, h3⟩, q => by
    rw [List.getElem?_cons_zero] at q; cases q
    exact ⟨a, by rw [e]; rfl, h0⟩
  | _ :: _, _, i + 1, p, ⟨a, ys, e, h0, h3⟩, q => by
    rw [List.getElem?_cons_succ] at q
    obtain ⟨b, f, g⟩ := h3.get q
    exact ⟨b, by rw [e, List.getElem?_cons_succ]; exact f, g⟩
theorem RowN.app {H : Hp} : ∀ {ps qs : List (Nat × Nat)} {xs ys : List V}, RowN H ps xs → RowN H qs ys → RowN H (ps ++ qs) (xs ++ ys)
  | [], _, _, _, h, k => by rw [show _ = [] from h]; exact k
  | _ :: _, _, _, _, ⟨a, zs, e, h0, h3⟩, k => by rw [e]; exact ⟨a, _, rfl, h0, h3.app k⟩
theorem RowN.write {H : Hp} {l : Addr} {zs ws : List V} (hl : H l = some (.lst zs)) : ∀ {ps : List (Nat × Nat)} {xs : List V}, RowN H ps xs → RowN (upd H l (.lst ws)) ps xs
  | [], _, h => h
  | _ :: _, _, ⟨a, ys, e, h0, h3⟩ => ⟨a, ys, e, by rw [upd_ne (ne_of h0 hl (by intro z; cases z))]; exact h0, h3.write hl⟩
noncomputable def nnT (p : Nat × Nat) : Th := .tup [.int p.1, .int p.2]
theorem rown_den {H : Hp} : ∀ {ps : List (Nat × Nat)} {xs : List V}, RowN H ps xs → Dens H (ps.map nnT) xs
  | [], _, h => h
  | _ :: _, _, ⟨a, ys, e, h0, h3⟩ => ⟨_, ys, e, den_p h0, rown_den h3⟩
structure IsCR (N n : Nat) (ps : List (Nat × Nat)) : Prop where
  n1 : 1 ≤ n
  n10 : n ≤ 10
  nN : n ≤ N
  N30 : N ≤ 30
  len : ps.length = n + 1
  le : ∀ p ∈ ps, p.1 ≤ p.2 ∧ p.2 ≤ N
  lows : ∀ (i : Nat) (p q : Nat × Nat), ps[i]? = some p → ps[i + 1]? = some q → p.1 ≤ q.1
  highs : ∀ (i : Nat) (p q : Nat × Nat), ps[i]? = some p → ps[i + 1]? = some q → p.2 ≤ q.2
structure CRAt (H : Hp) (x : Addr) (N n : Nat) (ps : List (Nat × Nat)) : Prop where
  ob : ∃ t zs, H x = some (.tup [.int N, .int n, .ref t]) ∧ H t = some (.tup zs) ∧ RowN H ps zs
  ok : IsCR N n ps
theorem CRAt.keep {H H' : Hp} {x : Addr} {N n : Nat} {ps : List (Nat × Nat)} (h : CRAt H x N n ps) (s : Same H H') : CRAt H' x N n ps := by
  obtain ⟨⟨t, zs, a, b, c⟩, ok⟩ := h
  exact ⟨⟨t, zs, s _ _ a, s _ _ b, c.keep s⟩, ok⟩
theorem at2 {x y z : V} {xs : List V} : atI (x :: y :: z :: xs) 2 = some z := atI_nat (xs := x :: y :: z :: xs) (j := 2) rfl
noncomputable def hasB (ps : List (Nat × Nat)) (T k : Nat) : Bool := decide ((ps.getD k (0, 0)).1 ≤ T) && decide (T ≤ (ps.getD k (0, 0)).2)
noncomputable def hvL (ps : List (Nat × Nat)) (T m : Nat) : List Nat := (List.range m).filter (hasB ps T)
noncomputable def cwy (N n : Nat) (ps : List (Nat × Nat)) (T : Nat) : Nat := wysum N T n (hvL ps T (n + 1))
theorem wysum_le {N T n : Nat} (c : Nat → Bool) (m : Nat) : wysum N T n ((List.range m).filter c) ≤ nsm (wy N T n) m := by
  induction m with
  | zero => exact Nat.le_refl _
  | succ m ih =>
    unfold wysum at *
    rw [List.range_succ, List.filter_append, List.map_append, List.sum_append]
    show _ ≤ nsm (wy N T n) m + wy N T n m
    rw [List.filter_cons]
    split
    · simp; omega
    · simp; omega
theorem cwy_le {N n T : Nat} {ps : List (Nat × Nat)} (h : T ≤ N) : cwy N n ps T ≤ binom N n := by
  have := wysum_le (N := N) (T := T) (n := n) (hasB ps T) (n + 1)
  rw [wy_all h] at this
  exact this
theorem frA_w {H : Hp} {f : Addr} {N n w : Nat} (h : N ≤ 30) (nN : n ≤ N) (hw : w ≤ binom N n) (e : H f = some (.tup [.int (rq (w : Int) (binom N n : Int)).num, .int ((rq (w : Int) (binom N n : Int)).den : Int)])) : FrA H f (rq (w : Int) (binom N n : Int)) := by
  have bp := bpos nN
  have bi : (0 : Int) < (binom N n : Int) := by omega
  have z := szb h n
  have z2 : Sz 31 (w : Int) := by unfold Sz at *; omega
  have r := fr_rat (Int.ne_of_gt bi) (rq_is (t := (w : Int)) bi)
  have s := Sz.fr (Int.ne_of_gt bi) z2 z
  rw [r.1, r.2] at s
  exact ⟨e, s.1.mono (by decide), s.2.mono (by decide)⟩
theorem rq_lt {a b c : Int} (hc : 0 < c) : rq a c < rq b c ↔ a < b := by
  have cp : (0 : Rat) < (c : Rat) := by exact_mod_cast hc
  have e1 := rq_is (t := a) hc
  have e2 := rq_is (t := b) hc
  constructor
  · intro h
    have := Rat.mul_pos cp (show 0 < rq b c - rq a c by grind)
    have : (a : Rat) < (b : Rat) := by grind
    exact_mod_cast this
  · intro h
    have h' : (a : Rat) < (b : Rat) := by exact_mod_cast h
    by_cases z : rq a c < rq b c
    · exact z
    · have := Rat.mul_nonneg (show 0 ≤ (c : Rat) by grind) (show 0 ≤ rq a c - rq b c by grind)
      grind
noncomputable def spUcov : Sp := fun vs H Q _ => ∃ (x : Addr) (N n T : Nat) (ps : List (Nat × Nat)), vs = [.ref x, .int T] ∧ CRAt H x N n ps ∧ T ≤ N ∧ NewFr H (rq (cwy N n ps T : Int) (binom N n : Int)) Q
theorem hvL_in {ps : List (Nat × Nat)} {T m k : Nat} (h : k ∈ hvL ps T m) : k < m := List.mem_range.mp (List.mem_filter.mp h).1
theorem sc_ucov : FnScope ["rule", "T", "having"] ["rule", "T"] (defScope s_ucov) := ⟨rfl, rfl, rfl, by decide +kernel, rfl, by decide +kernel, by decide +kernel⟩
theorem ok_ucov {f : Addr} {fd : FuncData} (F : Fun K "urn_cover" "urn_cover" s_ucov f fd) (T : Txt mg) {ftog : Addr} {dtog : FuncData} (Gtog : FnOk P w K mg base CX0 4 ftog dtog ["N", "T", "n", "outcomes"] spTog) (btog : Binds K dtog ["N", "T", "n", "outcomes"] []) (ktog : PySem.W.keepIn K (.ref ftog) = true) (mtog : mg "weights_together" = some (.ref ftog)) : FnOk P w K mg base CX0 5 f fd ["rule", "T"] spUcov := by
  refine F.ok sc_ucov (fun vs H Q E h => ?_) (fun cdv A outer s H vs Q E hr h => ?_)
  · obtain ⟨x, N, n, T', ps, rfl, _⟩ := h
    rfl
  obtain ⟨x, N, n, T', ps, rfl, hx, hT, q⟩ := h
  refine ⟨_, (pss_cons (ps_setC (i := 2) sc_ucov.nd rfl (Or.inl rfl) (xs := ["k", "stretch"]) (ts := [("T", 1)]) rfl ⟨rfl, sub1 rfl, rfl, rfl, rfl, by decide +kernel, rfl, rfl⟩ (pi_enumT rfl T.enumerate (pa_cons (pe_ix ix_tup (pv 0) pe_int (fun _ _ => rfl)) pa_nil)) (fun C s3 H3 fp => (pg_tupC (n := 2) rfl (pgs_cons (pg_name (i := 0) (show (["k", "stretch", "T"] : List Str).Nodup by decide +kernel) rfl (Or.inl rfl) (Or.inr rfl)) (pgs_cons (pg_name (i := 1) (show (["k", "stretch", "T"] : List Str).Nodup by decide +kernel) rfl (Or.inl rfl) (Or.inr rfl)) pgs_nil)))) (fun C s3 H3 fp => (pif_one (pt_chain op_le op_le (pe_ix ix_tupC (pv 1) pe_int (fun _ _ => rfl)) (pv 2) (pe_ix ix_tupC (pv 1) pe_int (fun _ _ => rfl))))) (fun C s3 H3 fp => (pv 0)))
    (pss_one (ps_ret (pe_call Gtog hr rfl mtog ktog btog .nil pass0 (pa_cons (pe_ix ix_tup (pv 0) pe_int (fun _ _ => rfl)) (pa_cons (pv 1) (pa_cons (pe_ix ix_tup (pv 0) pe_int (fun _ _ => rfl)) (pa_cons (pv 2) pa_nil)))))))), ?_⟩
  obtain ⟨t, zs, ox, ot, row⟩ := hx.ob
  have lz := row.len
  have lp := hx.ok.len
  have n10 := hx.ok.n10
  refine ⟨_, rfl, x, _, 2, _, rfl, rfl, SqT.of ox, at2, t, rfl, ⟨_, SqT.of ot⟩, fun D hD => ?_⟩
  refine comp_enumF (hasB ps T') (fun k => V.int (k : Int)) hD (SqT.of ot) (Nat.le_of_lt (lt40 (by omega))) ?_ ?_ ?_
  · intro i y H2 k hy sm hk
    have hi := (List.getElem?_eq_some_iff.mp hy).1
    have ep := List.getElem?_eq_getElem (show i < ps.length by omega)
    obtain ⟨b, f1, f2⟩ := (row.keep sm).get ep
    rw [hy] at f1
    cases f1
    have eg : ps.getD i (0, 0) = ps[i] := by rw [List.getD_eq_getElem?_getD, ep]; rfl
    have hk' := hk H2 (Same.refl H2)
    unfold hasB at hk'
    rw [eg] at hk'
    refine ⟨_, rfl, b, _, 0, _, rfl, rfl, SqT.of f2, at0, _, rfl, _, _, rfl, rfl, _, rfl, ?_⟩
    refine ite2 (fun c => ?_) (fun c => ?_)
    · have c' : ((ps[i].1 : Nat) : Int) ≤ (T' : Int) := of_decide_eq_true c
      rw [decide_eq_true (show ps[i].1 ≤ T' by omega), Bool.true_and] at hk'
      refine ⟨_, rfl, b, _, 1, _, rfl, rfl, SqT.of f2, at1, _, _, rfl, rfl, _, rfl, ?_⟩
      have e9 : decide ((T' : Int) ≤ ((ps[i].2 : Nat) : Int)) = decide (T' ≤ ps[i].2) := by
        by_cases z : T' ≤ ps[i].2
        · rw [decide_eq_true z, decide_eq_true (by omega)]
        · rw [decide_eq_false z, decide_eq_false (by omega)]
      rw [e9]
      exact hk'
    · have c' := ofD c
      rw [decide_eq_false (show ¬ ps[i].1 ≤ T' by omega), Bool.false_and] at hk'
      exact ⟨_, rfl, hk'⟩
  · intro i y H2 k hy hc sm hk
    exact ⟨_, rfl, hk H2 (Same.refl H2)⟩
  intro H2 s2 hD2
  have ox2 := s2 _ _ ox
  rw [lz, lp] at hD2
  refine ⟨_, rfl, x, _, 0, _, rfl, rfl, SqT.of ox2, at0, _, rfl, _, rfl, x, _, 1, _, rfl, rfl, SqT.of ox2, at1, _, rfl, N, T', n, D, hvL ps T' (n + 1), rfl, hD2, hT, hx.ok.N30, hx.ok.nN, fun k hk => by have := hvL_in hk; omega, ?_, q.on s2⟩
  refine Nat.le_trans (List.length_filter_le _ _) ?_
  rw [List.length_range]
  omega
noncomputable def fewS (f : Nat → Nat) (o : Option (Nat × Nat)) (T : Nat) : Option (Nat × Nat) := match o with
  | none => some (f T, T)
  | some (w, t) => if f T < w then some (f T, T) else some (w, t)
noncomputable def fewN (f : Nat → Nat) : Nat → Option (Nat × Nat)
  | 0 => none
  | m + 1 => fewS f (fewN f m) m
theorem fewN_some (f : Nat → Nat) : ∀ m, ∃ w t, fewN f (m + 1) = some (w, t) ∧ t ≤ m ∧ w = f t
  | 0 => ⟨f 0, 0, rfl, Nat.le_refl _, rfl⟩
  | m + 1 => by
    obtain ⟨w, t, e, h, hw⟩ := fewN_some f m
    show ∃ w t, fewS f (fewN f (m + 1)) (m + 1) = some (w, t) ∧ _
    rw [e]
    show ∃ w' t', (if f (m + 1) < w then some (f (m + 1), m + 1) else some (w, t)) = some (w', t') ∧ _
    split
    · exact ⟨_, _, rfl, Nat.le_refl _, rfl⟩
    · exact ⟨_, _, rfl, by omega, hw⟩
noncomputable def FewV (H : Hp) (B : Nat) : Option (Nat × Nat) → V → Prop
  | none, v => v = .non
  | some (w, t), v => ∃ f c, v = .ref f ∧ H f = some (.tup [.ref c, .int t]) ∧ H c = some (.tup [.int (rq (w : Int) (B : Int)).num, .int ((rq (w : Int) (B : Int)).den : Int)])
theorem FewV.keep {H H' : Hp} (s : Same H H') {B : Nat} : ∀ {o : Option (Nat × Nat)} {v : V}, FewV H B o v → FewV H' B o v
  | none, _, h => h
  | some (_, _), _, ⟨f, c, e, h1, h2⟩ => ⟨f, c, e, s _ _ h1, s _ _ h2⟩
noncomputable def spUl : Sp := fun vs H Q _ => ∃ (x : Addr) (N n : Nat) (ps : List (Nat × Nat)), vs = [.ref x] ∧ CRAt H x N n ps ∧ ∀ v H', Same H H' → FewV H' (binom N n) (fewN (cwy N n ps) (N + 1)) v → Q v H'
theorem sc_ul : FnScope ["rule", "found", "T", "covered"] ["rule"] (defScope s_ul) := ⟨rfl, rfl, rfl, by decide +kernel, rfl, by decide +kernel, by decide +kernel⟩
theorem ok_ul {f : Addr} {fd : FuncData} (F : Fun K "urn_least" "urn_least" s_ul f fd) (T : Txt mg) {fucov : Addr} {ducov : FuncData} (Gucov : FnOk P w K mg base CX0 5 fucov ducov ["rule", "T"] spUcov) (bucov : Binds K ducov ["rule", "T"] []) (kucov : PySem.W.keepIn K (.ref fucov) = true) (mucov : mg "urn_cover" = some (.ref fucov)) {fund : Addr} {dund : FuncData} (Gund : FnOk P w K mg base CX0 5 fund dund ["one", "other"] spUnd) (bund : Binds K dund ["one", "other"] []) (kund : PySem.W.keepIn K (.ref fund) = true) (mund : mg "under" = some (.ref fund)) : FnOk P w K mg base CX0 6 f fd ["rule"] spUl := by
  refine F.ok sc_ul (fun vs H Q E h => ?_) (fun cdv A outer s H vs Q E hr h => ?_)
  · obtain ⟨x, N, n, ps, rfl, _⟩ := h
    rfl
  obtain ⟨x, N, n, ps, rfl, hx, q⟩ := h
  refine ⟨_, (pss_cons (ps_set (i := 1) sc_ul.nd rfl (Or.inl rfl) pe_non)
    (pss_cons (ps_for PassesOwn.never rfl (pi_range1 rfl T.range (pa_cons (pe_op op_add (pe_ix ix_tup (pv 0) pe_int (fun _ _ => rfl)) pe_int) pa_nil)) (pg_name (i := 2) sc_ul.nd rfl (Or.inl rfl)) (pss_cons (ps_set (i := 3) sc_ul.nd rfl (Or.inl rfl) (pe_call Gucov hr rfl mucov kucov bucov .nil pass0 (pa_cons (pv 0) (pa_cons (pv 2) pa_nil))))
      (pss_one (ps_if (PW.pt (pw_or (pt_cmpR op_isN (pv 1) pe_non (nomark _)) (pw_or1 (pt_val (pe_call Gund hr rfl mund kund bund .nil pass0 (pa_cons (pv 3) (pa_cons (pe_ix ix_tup (pv 1) pe_int (fun _ _ => rfl)) pa_nil))))))) (pss_one (ps_set (i := 1) sc_ul.nd rfl (Or.inl rfl) (pe_tup (pa_cons (pv 3) (pa_cons (pv 2) pa_nil))))) pss_nil))))
    (pss_one (ps_ret (pv 1))))), ?_⟩
  obtain ⟨t, zs, ox, ot, row⟩ := hx.ob
  have N30 := hx.ok.N30
  have nN := hx.ok.nN
  have bp := bpos nN
  have bi : (0 : Int) < (binom N n : Int) := by omega
  refine ⟨_, rfl, x, _, 0, _, rfl, rfl, SqT.of ox, at0, _, _, rfl, rfl, _, rfl, by omega, by omega, ?_⟩
  refine for_range (lo := 0) (fun T σ H' => Same H H' ∧ ∃ v v1 v2, σ = [some (.ref x), some v, v1, v2] ∧ FewV H' (binom N n) (fewN (cwy N n ps) T) v) ⟨Same.refl H, .non, none, none, rfl, rfl⟩ ?_ ?_
  · rintro T' σ H1 hT ⟨s1, v, v1, v2, rfl, fv⟩
    rw [show (0 : Int) + (T' : Int) = (T' : Int) from Int.zero_add _]
    have hT' : T' ≤ N := by omega
    refine ⟨_, rfl, _, rfl, x, N, n, T', ps, rfl, hx.keep s1, hT', fun c H2 s2 hc => ?_⟩
    have fv2 := fv.keep s2
    have mk : ∀ H3 (p : Addr), H2 p = none → H3 = upd H2 p (.tup [.ref c, .int T']) → FewV H3 (binom N n) (some (cwy N n ps T', T')) (.ref p) := fun H3 p hp e => by
      subst e
      exact ⟨p, c, rfl, upd_same, (same_new hp _) _ _ hc⟩
    show _
    cases eo : fewN (cwy N n ps) T' with
    | none =>
      rw [eo] at fv2
      have ev : v = V.non := fv2
      subst ev
      refine ⟨_, rfl, rfl, _, rfl, iteT (iteT ⟨_, rfl, _, rfl, (by show 2 ≤ sizeLine; decide), fun p hp => ⟨(s1.trans s2).trans (same_new hp _), _, _, _, rfl, ?_⟩⟩)⟩
      show FewV _ _ (fewS (cwy N n ps) (fewN (cwy N n ps) T') T') _
      rw [eo]
      exact mk _ p hp rfl
    | some wt =>
      obtain ⟨w, t'⟩ := wt
      rw [eo] at fv2
      obtain ⟨f, c', ev, hf, hc'⟩ := fv2
      subst ev
      have T0 : T' ≠ 0 := fun z => by subst z; cases eo
      obtain ⟨m, rfl⟩ : ∃ m, T' = m + 1 := ⟨T' - 1, by omega⟩
      obtain ⟨w', t'', e9, h9, hw9⟩ := fewN_some (cwy N n ps) m
      rw [e9] at eo
      cases eo
      have fw : FrA H2 c' (rq (w : Int) (binom N n : Int)) := frA_w N30 nN (by rw [hw9]; exact cwy_le (by omega)) hc'
      have fc : FrA H2 c (rq (cwy N n ps (m + 1) : Int) (binom N n : Int)) := frA_w N30 nN (cwy_le hT') hc
      refine ⟨_, rfl, rfl, _, rfl, iteF ?_⟩
      refine ⟨_, rfl, _, rfl, f, _, 0, _, rfl, rfl, SqT.of hf, at0, c, c', _, _, rfl, fc, fw, _, rfl, ?_⟩
      by_cases k : cwy N n ps (m + 1) < w
      · rw [decide_eq_true ((rq_lt bi).mpr (by omega))]
        refine iteT ⟨_, rfl, _, rfl, (by show 2 ≤ sizeLine; decide), fun p hp => ⟨(s1.trans s2).trans (same_new hp _), _, _, _, rfl, ?_⟩⟩
        show FewV _ _ (fewS (cwy N n ps) (fewN (cwy N n ps) (m + 1)) (m + 1)) _
        rw [e9]
        show FewV _ _ (if cwy N n ps (m + 1) < w then some (cwy N n ps (m + 1), m + 1) else some (w, t')) _
        rw [if_pos k]
        exact mk _ p hp rfl
      · rw [decide_eq_false (fun z => k (by have := (rq_lt bi).mp z; omega))]
        refine iteF ⟨s1.trans s2, _, _, _, rfl, ?_⟩
        show FewV _ _ (fewS (cwy N n ps) (fewN (cwy N n ps) (m + 1)) (m + 1)) _
        rw [e9]
        show FewV _ _ (if cwy N n ps (m + 1) < w then some (cwy N n ps (m + 1), m + 1) else some (w, t')) _
        rw [if_neg k]
        exact ⟨f, c', rfl, hf, hc'⟩
  · rintro σ H1 ⟨s1, v, v1, v2, rfl, fv⟩
    have e : (((N : Int) + 1).toNat) = N + 1 := by omega
    rw [e] at fv
    exact ⟨_, rfl, q v H1 s1 fv⟩
theorem seq_by {t u : TS} {D : Ends} {σ : St} {H : Hp} (P : St → Hp → Prop) (h1 : ∀ N : St → Hp → Prop, (∀ σ H, P σ H → N σ H) → t { D with nx := N } σ H) (h2 : ∀ σ H, P σ H → u D σ H) : tSeq t u D σ H := h1 _ h2
noncomputable def spCellU (K : PySem.W.Frag) : Sp := fun vs H Q _ => ∃ (a : Addr) (ns : List Int) (k : Int), vs = [.ref a, .int k] ∧ SqL K H a (ns.map V.int) ∧ ns.length ≤ 63 ∧ 0 ≤ k ∧ k ≤ 400 ∧ ∀ r : Int, 0 ≤ r → r < 2147483629 → Q (.int r) H
theorem sc_cellU : FnScope ["_law_script", "_law_k", "_law_cell_here"] ["_law_script", "_law_k"] (defScope s_cellU) := ⟨rfl, rfl, rfl, by decide +kernel, rfl, by decide +kernel, by decide +kernel⟩
theorem ok_cellU {f : Addr} {fd : FuncData} (F : Fun K "_law_cell" "_law_cell" s_cellU f fd) (T : Txt mg) : FnOk P w K mg base CX0 1 f fd ["_law_script", "_law_k"] (spCellU K) := by
  refine F.ok sc_cellU (fun vs H Q E h => ?_) (fun cdv A outer s H vs Q E hr h => ?_)
  · obtain ⟨a, ns, k, rfl, _⟩ := h
    rfl
  obtain ⟨a, ns, k, rfl, hS, h63, h0, h4, q⟩ := h
  refine ⟨_, (pss_cons (ps_set (i := 2) sc_cellU.nd rfl (Or.inl rfl) pe_int)
    (pss_cons (ps_if (pt_cmpR op_gt (pe_callB call_len_seq rfl T.len boot_len (pa_cons (pv 0) pa_nil)) pe_int (nomark _)) (pss_one (ps_set (i := 2) sc_cellU.nd rfl (Or.inl rfl) (pe_ix ix_list (pv 0) (pe_op op_mod (pv 1) (pe_callB call_len_seq rfl T.len boot_len (pa_cons (pv 0) pa_nil))) (fun _ _ => rfl)))) pss_nil)
    (pss_cons (ps_set (i := 2) sc_cellU.nd rfl (Or.inl rfl) (pe_op op_mod (pe_op op_mul (pe_op op_add (pe_op op_add (pe_op op_mod (pv 2) pe_int) (pe_op op_mul pe_int (pv 1))) pe_int) pe_int) pe_int))
    (pss_one (ps_ret (pe_op op_mod (pe_op op_mul (pv 2) (pe_op op_add (pe_op op_add (pe_op op_mod (pv 2) pe_int) (pv 1)) pe_int)) pe_int)))))), ?_⟩
  have hl : (ns.map V.int).length = ns.length := List.length_map _
  have M1 : (0 : Int) < 2147483629 := by decide
  have M2 : (0 : Int) < 2147483647 := by decide
  dsimp only
  refine seq_by (fun σ H' => H' = H ∧ ∃ x : Int, σ = [some (.ref a), some (.int k), some (.int x)]) ?_ ?_
  · intro M hM
    exact hM _ _ ⟨rfl, _, rfl⟩
  rintro σ H' ⟨rfl, x0, rfl⟩
  refine seq_by (fun σ H'' => H'' = H' ∧ ∃ x : Int, σ = [some (.ref a), some (.int k), some (.int x)]) ?_ ?_
  · intro M hM
    refine ⟨_, rfl, a, _, rfl, .inl hS, _, _, rfl, rfl, _, rfl, ?_⟩
    refine ite2 (fun c => ?_) (fun c => ?_)
    · have c' : (0 : Int) < (((ns.map V.int).length : Nat) : Int) := of_decide_eq_true c
      rw [hl] at c'
      refine ⟨_, rfl, _, rfl, _, rfl, a, _, rfl, .inl hS, _, _, rfl, rfl, (by rw [hl]; exact c'), a, _, _, _, rfl, rfl, hS, at_getD (md0 _ (by rw [hl]; exact c')) (by rw [hl]; exact md1 _ c'), hM _ _ ⟨rfl, _, rfl⟩⟩
    · exact hM _ _ ⟨rfl, _, rfl⟩
  rintro σ H'' ⟨rfl, x, rfl⟩
  refine ⟨_, rfl, _, _, rfl, rfl, M1, _, rfl, _, _, rfl, rfl, .inl ⟨by decide, by decide⟩, _, _, rfl, rfl, _, _, rfl, rfl, _, _, rfl, rfl, .inr ⟨by decide, by decide⟩, _, _, rfl, rfl, M2, ?_⟩
  generalize (x % 2147483629 + 6151 * k + 1) * 48271 = y
  have y0 := md0 y M2
  have y1 := md1 y M2
  refine ⟨_, rfl, _, rfl, _, _, rfl, rfl, (by show (0 : Int) < 65519; decide), _, rfl, _, _, rfl, rfl, _, _, rfl, rfl, _, _, rfl, rfl, .inl ⟨by omega, by omega⟩, _, _, rfl, rfl, M1, ?_⟩
  exact q _ (md0 _ M1) (md1 _ M1)
theorem sc_rest : FnScope ["_law_one", "_law_other", "_law_left"] ["_law_one", "_law_other"] (defScope s_rest) := ⟨rfl, rfl, rfl, by decide +kernel, rfl, by decide +kernel, by decide +kernel⟩
theorem ok_rest {f : Addr} {fd : FuncData} (F : Fun K "_law_rest" "_law_rest" s_rest f fd) (T : Txt mg) : FnOk P w K mg base CX0 1 f fd ["_law_one", "_law_other"] spCd := by
  refine F.ok sc_rest (fun vs H Q E h => ?_) (fun cdv A outer s H vs Q E hr h => ?_)
  · obtain ⟨a, b, rfl, _⟩ := h
    rfl
  obtain ⟨a, b, rfl, ha, hb, q⟩ := h
  refine ⟨_, (pss_cons (ps_while PassesOwn.never (pt_cmpR op_ne (pv 1) pe_int (nomark _)) (pss_cons (ps_set (i := 2) sc_rest.nd rfl (Or.inl rfl) (pe_op op_mod (pv 0) (pv 1)))
      (pss_cons (ps_set (i := 0) sc_rest.nd rfl (Or.inl rfl) (pv 1))
      (pss_one (ps_set (i := 1) sc_rest.nd rfl (Or.inl rfl) (pv 2))))))
    (pss_one (ps_ret (pv 0)))), ?_⟩
  refine while_by (fun σ H' => H' = H ∧ ∃ x y v, σ = [some (.int x), some (.int y), v] ∧ 0 ≤ x ∧ 0 ≤ y ∧ Int.gcd x y = Int.gcd a b) (fun σ _ => mu2 σ) ⟨rfl, a, b, none, rfl, ha, hb, rfl⟩ ?_ ?_
  · rintro σ H' ⟨rfl, x, y, v, rfl, hx, hy, g⟩
    refine ⟨_, rfl, rfl, _, rfl, ?_⟩
    refine ite2 (fun c => ?_) (fun c => ?_)
    · have c' : y ≠ 0 := by rintro rfl; exact absurd c (by decide)
      have hm := Int.emod_nonneg x c'
      have hl := Int.emod_lt_of_pos x (show 0 < y by omega)
      refine ⟨_, rfl, _, rfl, _, _, rfl, rfl, (by show 0 < y; omega), _, rfl, _, rfl, ?_⟩
      refine ⟨⟨rfl, y, x % y, some (.int (x % y)), rfl, hy, hm, by rw [gstep hx hy c']; exact g⟩, ?_⟩
      show (x % y).toNat < y.toNat
      omega
    · have c' : y = 0 := by
        by_cases z : y = 0
        · exact z
        · exact absurd (show (!decide (V.int y = V.int 0)) = true by rw [decide_eq_false (fun w => z (by injection w))]; rfl) c
      subst c'
      refine ⟨_, rfl, ?_⟩
      rw [← g, gend hx] at q
      exact q
  · intro σ H Q Q' hq h
    obtain ⟨v, e, h1, k, e2, h2⟩ := h
    exact ⟨v, e, h1, k, e2, hq _ _ h2⟩
noncomputable def spLow : Sp := fun vs H Q _ => ∃ t b : Int, vs = [.int t, .int b] ∧ 0 ≤ t ∧ 0 < b ∧ Smk b ∧ NewFr H (rq t b) Q
theorem sc_low : FnScope ["_law_top", "_law_bottom", "_law_by"] ["_law_top", "_law_bottom"] (defScope s_low) := ⟨rfl, rfl, rfl, by decide +kernel, rfl, by decide +kernel, by decide +kernel⟩
theorem ok_low {f : Addr} {fd : FuncData} (F : Fun K "_law_low" "_law_low" s_low f fd) (T : Txt mg) {frest : Addr} {drest : FuncData} (Grest : FnOk P w K mg base CX0 1 frest drest ["_law_one", "_law_other"] spCd) (brest : Binds K drest ["_law_one", "_law_other"] []) (krest : PySem.W.keepIn K (.ref frest) = true) (mrest : mg "_law_rest" = some (.ref frest)) : FnOk P w K mg base CX0 2 f fd ["_law_top", "_law_bottom"] spLow := by
  refine F.ok sc_low (fun vs H Q E h => ?_) (fun cdv A outer s H vs Q E hr h => ?_)
  · obtain ⟨t, b, rfl, _⟩ := h
    rfl
  obtain ⟨t, b, rfl, h0, hb, sb, q⟩ := h
  refine ⟨_, (pss_cons (ps_set (i := 2) sc_low.nd rfl (Or.inl rfl) (pe_call Grest hr rfl mrest krest brest .nil pass0 (pa_cons (pe_callB call_abs rfl T.abs boot_abs (pa_cons (pv 0) pa_nil)) (pa_cons (pv 1) pa_nil))))
    (pss_one (ps_ret (pe_tup (pa_cons (pe_op op_fdivK (pv 0) (pv 2)) (pa_cons (pe_op op_fdivK (pv 1) (pv 2)) pa_nil)))))), ?_⟩
  have ea : (if t < 0 then -t else t) = t := if_neg (by omega)
  have eD : frD t b = (Int.gcd t b : Int) := frD_pos hb
  have n1 := frD_ne (t := t) (b := b) (by omega)
  have n2 := smk_frD (a := t) (b := b) (by omega) sb
  rw [eD] at n1 n2
  refine ⟨_, rfl, _, rfl, _, rfl, ?_⟩
  rw [ea]
  refine ⟨t, b, rfl, h0, by omega, ?_⟩
  refine ⟨_, rfl, _, rfl, _, _, rfl, rfl, ⟨n1, n2⟩, _, rfl, _, rfl, _, _, rfl, rfl, ⟨n1, n2⟩, (by show 2 ≤ sizeLine; decide), fun p hp => ?_⟩
  refine q p _ (same_new hp _) ?_
  obtain ⟨f1, f2⟩ := fr_rat (Int.ne_of_gt hb) (rq_is (t := t) hb)
  unfold frT at f1
  unfold frB at f2
  rw [eD] at f1 f2
  rw [upd_same, ← f1, ← f2]
theorem dep_nn : ∀ ps : List (Nat × Nat), depTs (ps.map nnT) ≤ 5
  | [] => by simp [depTs]
  | p :: ps => by
    have := dep_nn ps
    rw [List.map_cons, depTs]
    exact Nat.max_le.mpr ⟨by simp [nnT, depT, depTs], this⟩
noncomputable def crT (N n : Nat) (ps : List (Nat × Nat)) : Th := .tup [.int N, .int n, .tup (ps.map nnT)]
theorem cr_den {H : Hp} {x : Addr} {N n : Nat} {ps : List (Nat × Nat)} (h : CRAt H x N n ps) : Den H (crT N n ps) (.ref x) := by
  obtain ⟨⟨t, zs, a, b, c⟩, _⟩ := h
  exact ⟨x, _, rfl, a, _, _, rfl, rfl, _, _, rfl, rfl, _, _, rfl, ⟨t, _, rfl, b, rown_den c⟩, rfl⟩
theorem dep_cr (N n : Nat) (ps : List (Nat × Nat)) : depT (crT N n ps) ≤ 60 := by
  have := dep_nn ps
  simp only [crT, depT, depTs]
  omega
theorem rq_lt2 {a b c d : Int} (hb : 0 < b) (hd : 0 < d) : rq a b < rq c d ↔ a * d < c * b := by
  have bp : (0 : Rat) < (b : Rat) := by exact_mod_cast hb
  have dp : (0 : Rat) < (d : Rat) := by exact_mod_cast hd
  have e1 := rq_is (t := a) hb
  have e2 := rq_is (t := c) hd
  have bd := Rat.mul_pos bp dp
  have c1 : ((a * d : Int) : Rat) = ((b : Rat) * (d : Rat)) * rq a b := by rw [Rat.intCast_mul, ← e1]; grind
  have c2 : ((c * b : Int) : Rat) = ((b : Rat) * (d : Rat)) * rq c d := by rw [Rat.intCast_mul, ← e2]; grind
  rw [← Rat.intCast_lt_intCast, c1, c2]
  constructor
  · intro h
    have := Rat.mul_pos bd (show 0 < rq c d - rq a b by grind)
    grind
  · intro h
    by_cases z : rq a b < rq c d
    · exact z
    · have := Rat.mul_nonneg (show 0 ≤ (b : Rat) * (d : Rat) by grind) (show 0 ≤ rq a b - rq c d by grind)
      grind
noncomputable def hadB (N n s c k T : Nat) : Bool := decide (c < 2 * s * (binom N n - sT N n T k)) && decide (c < 2 * s * sT N n T (k + 1))
theorem hadB_iff {N n s c k T : Nat} : hadB N n s c k T = true ↔ hadW N n s c k T := by
  unfold hadB hadW
  rw [Bool.and_eq_true, decide_eq_true_iff, decide_eq_true_iff]
theorem wysum_run {N T n : Nat} (k : Nat) : ∀ m, wysum N T n ((List.range m).map fun i => k + i) + sT N n T k = sT N n T (k + m)
  | 0 => by simp [wysum]
  | m + 1 => by
    have ih := wysum_run (N := N) (T := T) (n := n) k m
    unfold wysum at *
    rw [List.range_succ, List.map_append, List.map_append, List.sum_append, ← Nat.add_assoc, sT_step]
    simp only [List.map_cons, List.map_nil, List.sum_cons, List.sum_nil]
    omega
theorem wysum_first {N T n : Nat} (m : Nat) : wysum N T n (List.range m) = sT N n T m := by
  have := wysum_run (N := N) (T := T) (n := n) 0 m
  simp only [Nat.zero_add] at this
  rw [show (List.range m).map (fun i => i) = List.range m by simp] at this
  show _ = nsm _ m
  have z : sT N n T 0 = 0 := rfl
  rw [z] at this
  exact this
theorem p30 : (2000000000000000000000000000000000 : Nat) < 2 ^ 120 := by decide +kernel
noncomputable def spHalf : Sp := fun vs H Q _ => ∃ (a : Addr) (s0 s1 : Nat), vs = [.ref a] ∧ H a = some (.tup [.int s0, .int s1]) ∧ 1 ≤ s1 ∧ s1 ≤ 1000000000000000000000000000000 ∧ NewFr H (rq ((s1 : Int) - (s0 : Int)) (2 * (s1 : Int))) Q
theorem sc_half : FnScope ["share"] ["share"] (defScope s_half) := ⟨rfl, rfl, rfl, by decide +kernel, rfl, by decide +kernel, by decide +kernel⟩
theorem ok_half {C : CA} {f : Addr} {fd : FuncData} (F : Fun K "half_of_what_is_left" "half_of_what_is_left" s_half f fd) (T : Txt mg) {ffrac : Addr} {dfrac : FuncData} (Gfrac : FnOk P w K mg base (CXX P w) 3 ffrac dfrac ["top", "bottom"] (spFrac C)) (bfrac : Binds K dfrac ["top", "bottom"] []) (kfrac : PySem.W.keepIn K (.ref ffrac) = true) (mfrac : mg "fraction" = some (.ref ffrac)) : FnOk P w K mg base CX0 4 f fd ["share"] spHalf := by
  refine F.ok sc_half (fun vs H Q E h => ?_) (fun cdv A outer s H vs Q E hr h => ?_)
  · obtain ⟨a, s0, s1, rfl, _⟩ := h
    rfl
  obtain ⟨a, s0, s1, rfl, ha, h1, h2, q⟩ := h
  refine ⟨_, (pss_one (ps_ret (pe_call Gfrac hr rfl mfrac kfrac bfrac .nil passN (pa_cons (pe_op op_sub (pe_ix ix_tup (pv 0) pe_int (fun _ _ => rfl)) (pe_ix ix_tup (pv 0) pe_int (fun _ _ => rfl))) (pa_cons (pe_op op_mul pe_int (pe_ix ix_tup (pv 0) pe_int (fun _ _ => rfl))) pa_nil))))), ?_⟩
  refine ⟨_, rfl, a, _, 1, _, rfl, rfl, SqT.of ha, at1, _, rfl, a, _, 0, _, rfl, rfl, SqT.of ha, at0, _, _, rfl, rfl, _, rfl, a, _, 1, _, rfl, rfl, SqT.of ha, at1, _, _, rfl, rfl, .inl ⟨by decide, by decide⟩, ?_⟩
  have bp : (0 : Int) < 2 * (s1 : Int) := by omega
  have z : Sz 120 (2 * (s1 : Int)) := Nat.lt_of_le_of_lt (show (2 * (s1 : Int)).natAbs ≤ 2000000000000000000000000000000000 by omega) p30
  exact frac_ready (Int.ne_of_gt bp) (z.smk (by decide)) (told_new (fr_rat (Int.ne_of_gt bp) (rq_is bp)) q)
noncomputable def mostR (s0 s1 : Nat) : Rat := rq ((s1 : Int) - (s0 : Int)) (2 * (s1 : Int))
theorem frA_most {H : Hp} {f : Addr} {s0 s1 : Nat} (h0 : s0 ≤ s1) (h1 : 1 ≤ s1) (h2 : s1 ≤ 1000000000000000000000000000000) (e : H f = some (.tup [.int (mostR s0 s1).num, .int ((mostR s0 s1).den : Int)])) : FrA H f (mostR s0 s1) := by
  have bi : (0 : Int) < 2 * (s1 : Int) := by omega
  have z : Sz 120 (2 * (s1 : Int)) := Nat.lt_of_le_of_lt (show (2 * (s1 : Int)).natAbs ≤ 2000000000000000000000000000000000 by omega) p30
  have z2 : Sz 120 ((s1 : Int) - (s0 : Int)) := Nat.lt_of_le_of_lt (show ((s1 : Int) - (s0 : Int)).natAbs ≤ 2000000000000000000000000000000000 by omega) p30
  have r := fr_rat (Int.ne_of_gt bi) (rq_is (t := ((s1 : Int) - (s0 : Int))) bi)
  have s := Sz.fr (Int.ne_of_gt bi) z2 z
  rw [r.1, r.2] at s
  exact ⟨e, s.1.mono (by decide), s.2.mono (by decide)⟩
noncomputable def spHad : Sp := fun vs H Q _ => ∃ (N T n k s0 s1 : Nat) (m : Addr), vs = [.int N, .int T, .int n, .int k, .ref m] ∧ FrA H m (mostR s0 s1) ∧ T ≤ N ∧ N ≤ 30 ∧ n ≤ N ∧ n ≤ 10 ∧ k ≤ n ∧ s0 ≤ s1 ∧ 1 ≤ s1 ∧ ∀ H', Same H H' → Q (.bl (hadB N n s1 ((s1 - s0) * binom N n) k T)) H'
theorem sc_had : FnScope ["N", "T", "n", "k", "most", "upper", "lower"] ["N", "T", "n", "k", "most"] (defScope s_had) := ⟨rfl, rfl, rfl, by decide +kernel, rfl, by decide +kernel, by decide +kernel⟩
theorem ok_had {f : Addr} {fd : FuncData} (F : Fun K "is_had" "is_had" s_had f fd) (T : Txt mg) {ftog : Addr} {dtog : FuncData} (Gtog : FnOk P w K mg base CX0 4 ftog dtog ["N", "T", "n", "outcomes"] spTog) (btog : Binds K dtog ["N", "T", "n", "outcomes"] []) (ktog : PySem.W.keepIn K (.ref ftog) = true) (mtog : mg "weights_together" = some (.ref ftog)) {fund : Addr} {dund : FuncData} (Gund : FnOk P w K mg base CX0 4 fund dund ["one", "other"] spUnd) (bund : Binds K dund ["one", "other"] []) (kund : PySem.W.keepIn K (.ref fund) = true) (mund : mg "under" = some (.ref fund)) : FnOk P w K mg base CX0 5 f fd ["N", "T", "n", "k", "most"] spHad := by
  refine F.ok sc_had (fun vs H Q E h => ?_) (fun cdv A outer s H vs Q E hr h => ?_)
  · obtain ⟨N, T', n, k, s0, s1, m, rfl, _⟩ := h
    rfl
  obtain ⟨N, T', n, k, s0, s1, m, rfl, fm, hT, hN, hn, n10, hk, s01, s11, q⟩ := h
  refine ⟨_, (pss_cons (ps_set (i := 5) sc_had.nd rfl (Or.inl rfl) (pe_call Gtog hr rfl mtog ktog btog .nil pass0 (pa_cons (pv 0) (pa_cons (pv 1) (pa_cons (pv 2) (pa_cons (pe_listR rfl rfl T.list boot_list rfl T.range (pa_cons (pv 3) (pa_cons (pe_op op_add (pv 2) pe_int) pa_nil))) pa_nil))))))
    (pss_cons (ps_set (i := 6) sc_had.nd rfl (Or.inl rfl) (pe_call Gtog hr rfl mtog ktog btog .nil pass0 (pa_cons (pv 0) (pa_cons (pv 1) (pa_cons (pv 2) (pa_cons (pe_listR1 rfl rfl T.list boot_list rfl T.range (pa_cons (pe_op op_add (pv 3) pe_int) pa_nil)) pa_nil))))))
    (pss_one (ps_ret (pe_and (pe_call Gund hr rfl mund kund bund .nil pass0 (pa_cons (pv 4) (pa_cons (pv 5) pa_nil))) (pe_one (pe_call Gund hr rfl mund kund bund .nil pass0 (pa_cons (pv 4) (pa_cons (pv 6) pa_nil))))))))), ?_⟩
  have B := bpos hn
  have bi : (0 : Int) < (binom N n : Int) := by omega
  have b2 : (0 : Int) < 2 * (s1 : Int) := by omega
  have al := sT_all (n := n) hT
  have sk : sT N n T' k ≤ binom N n := by rw [← al]; exact sT_mono (by omega)
  have sk1 : sT N n T' (k + 1) ≤ binom N n := by rw [← al]; exact sT_mono (by omega)
  have e1 : wysum N T' n ((List.range (n + 1 - k)).map fun i => k + i) = binom N n - sT N n T' k := by
    have := wysum_run (N := N) (T := T') (n := n) k (n + 1 - k)
    rw [show k + (n + 1 - k) = n + 1 by omega, al] at this
    omega
  have cmp : ∀ w : Nat, decide (mostR s0 s1 < rq (w : Int) (binom N n : Int)) = decide ((s1 - s0) * binom N n < 2 * s1 * w) := by
    intro w
    have i : mostR s0 s1 < rq (w : Int) (binom N n : Int) ↔ (s1 - s0) * binom N n < 2 * s1 * w := by
      unfold mostR
      rw [rq_lt2 b2 bi, show (s1 : Int) - (s0 : Int) = ((s1 - s0 : Nat) : Int) by omega, show (w : Int) * (2 * (s1 : Int)) = ((2 * s1 * w : Nat) : Int) by push_cast; grind, ← Int.natCast_mul]
      omega
    by_cases z : (s1 - s0) * binom N n < 2 * s1 * w
    · rw [decide_eq_true z, decide_eq_true (i.mpr z)]
    · rw [decide_eq_false z, decide_eq_false fun y => z (i.mp y)]
  refine ⟨_, rfl, _, rfl, _, rfl, _, rfl, _, rfl, _, _, rfl, rfl, (k : Int), (n : Int) + 1, rfl, ⟨by omega, by omega, by omega, by omega⟩, by omega, fun l hl => ?_⟩
  have en : ((n : Int) + 1 - (k : Int)).toNat = n + 1 - k := by omega
  have s1' := same_new hl (.lst ((List.range ((n : Int) + 1 - (k : Int)).toNat).map fun (i : Nat) => V.int ((k : Int) + (i : Int))))
  refine ⟨N, T', n, l, (List.range (n + 1 - k)).map (fun i => k + i), rfl, ?_, hT, hN, hn, fun j hj => ?_, by simp; omega, fun u H2 s2 hu => ?_⟩
  · rw [upd_same, en]
    unfold natV
    rw [List.map_map]
    congr 2
  · obtain ⟨i, hi, rfl⟩ := List.mem_map.mp hj
    have := List.mem_range.mp hi
    omega
  rw [e1] at hu
  have s12 := s1'.trans s2
  refine ⟨_, rfl, _, rfl, _, rfl, _, rfl, _, _, rfl, rfl, (k : Int) + 1, rfl, ⟨by omega, by omega⟩, fun l2 hl2 => ?_⟩
  have ek : ((k : Int) + 1).toNat = k + 1 := by omega
  have s3 := same_new hl2 (.lst ((List.range ((k : Int) + 1).toNat).map fun (i : Nat) => V.int (i : Int)))
  refine ⟨N, T', n, l2, List.range (k + 1), rfl, ?_, hT, hN, hn, fun j hj => ?_, by simp; omega, fun v H4 s4 hv => ?_⟩
  · rw [upd_same, ek]
    rfl
  · have := List.mem_range.mp hj
    omega
  rw [wysum_first] at hv
  have s14 := s12.trans (s3.trans s4)
  have fm4 := fm.keep s14
  have fu : FrA H4 u (rq ((binom N n - sT N n T' k : Nat) : Int) (binom N n : Int)) := (frA_w hN hn (by omega) hu).keep (s3.trans s4)
  have fv : FrA H4 v (rq ((sT N n T' (k + 1) : Nat) : Int) (binom N n : Int)) := frA_w hN hn sk1 hv
  refine ⟨_, rfl, _, rfl, m, u, _, _, rfl, fm4, fu, _, rfl, ?_⟩
  rw [cmp]
  have q' := q H4 s14
  unfold hadB at q'
  by_cases z : (s1 - s0) * binom N n < 2 * s1 * (binom N n - sT N n T' k)
  · rw [decide_eq_true z] at q' ⊢
    rw [Bool.true_and] at q'
    refine iteT ⟨_, rfl, _, rfl, m, v, _, _, rfl, fm4, fv, ?_⟩
    rw [cmp]
    exact q'
  · rw [decide_eq_false z] at q' ⊢
    rw [Bool.false_and] at q'
    exact iteF q'
noncomputable def hadL (N n s c k : Nat) : List Nat := (List.range (N + 1)).filter (hadB N n s c k)
theorem filt_run {p : Nat → Bool} {a b : Nat} : ∀ {m : Nat}, b < m → a ≤ b → (∀ i, i < m → (p i = true ↔ a ≤ i ∧ i ≤ b)) → (List.range m).filter p = (List.range (b + 1 - a)).map fun i => a + i := by
  intro m
  induction m generalizing b with
  | zero => intro h; omega
  | succ m ih =>
    intro hb hab h
    rw [List.range_succ, List.filter_append, List.filter_cons]
    by_cases c : b = m
    · subst c
      rw [(h b (by omega)).mpr ⟨hab, Nat.le_refl _⟩, if_pos rfl]
      by_cases z : a = b
      · subst z
        rw [show a + 1 - a = 1 by omega]
        have : (List.range a).filter p = [] := by
          rw [List.filter_eq_nil_iff]
          intro i hi y
          have := List.mem_range.mp hi
          have := (h i (by omega)).mp y
          omega
        rw [this]
        rfl
      · have i1 := ih (b := b - 1) (by omega) (by omega) (fun i hi => by rw [h i (by omega)]; omega)
        rw [i1, show b - 1 + 1 - a = b - a by omega, show b + 1 - a = (b - a) + 1 by omega, List.range_succ, List.map_append]
        simp
        omega
    · have i1 := ih (b := b) (by omega) hab (fun i hi => h i (by omega))
      have e : p m = false := by
        cases y : p m with
        | false => rfl
        | true => have := (h m (by omega)).mp y; omega
      rw [i1, e]
      simp
theorem least_of {p : Nat → Prop} [DecidablePred p] : ∀ m, (∃ T, T ≤ m ∧ p T) → ∃ T, T ≤ m ∧ p T ∧ ∀ T', T' < T → ¬ p T' := by
  intro m
  induction m with
  | zero =>
    rintro ⟨T, h, e⟩
    exact ⟨T, h, e, fun T' h' => by omega⟩
  | succ m ih =>
    rintro ⟨T, h, e⟩
    by_cases q : ∃ T, T ≤ m ∧ p T
    · obtain ⟨T1, a1, a2, a3⟩ := ih q
      exact ⟨T1, by omega, a2, a3⟩
    · exact ⟨T, h, e, fun T' h' z => q ⟨T', by omega, z⟩⟩
theorem most_of {p : Nat → Prop} [DecidablePred p] : ∀ m, (∃ T, T ≤ m ∧ p T) → ∃ T, T ≤ m ∧ p T ∧ ∀ T', T < T' → T' ≤ m → ¬ p T' := by
  intro m
  induction m with
  | zero =>
    rintro ⟨T, h, e⟩
    exact ⟨T, h, e, fun T' h' h2 => by omega⟩
  | succ m ih =>
    rintro ⟨T, h, e⟩
    by_cases q : p (m + 1)
    · exact ⟨m + 1, Nat.le_refl _, q, fun T' h' h2 => by omega⟩
    · have : T ≠ m + 1 := fun z => q (by rw [← z]; exact e)
      obtain ⟨T1, a1, a2, a3⟩ := ih ⟨T, by omega, e⟩
      refine ⟨T1, by omega, a2, fun T' h' h2 => ?_⟩
      by_cases z : T' = m + 1
      · subst z; exact q
      · exact a3 T' h' (by omega)
structure Ends2 (N n s c k a b : Nat) : Prop where
  ab : a ≤ b
  bN : b ≤ N
  ha : hadW N n s c k a
  hb : hadW N n s c k b
  lo : ∀ T, T < a → ¬ hadW N n s c k T
  hi : ∀ T, b < T → T ≤ N → ¬ hadW N n s c k T
theorem ends2 {N n s c k : Nat} (hn : n ≤ N) (hk : k ≤ n) (hc : c < s * binom N n) : ∃ a b, Ends2 N n s c k a b := by
  haveI : DecidablePred (hadW N n s c k) := fun T => by unfold hadW; infer_instance
  obtain ⟨T, h1, h2⟩ := had_one hn hk hc
  obtain ⟨a, a1, a2, a3⟩ := least_of (p := hadW N n s c k) N ⟨T, h1, h2⟩
  obtain ⟨b, b1, b2, b3⟩ := most_of (p := hadW N n s c k) N ⟨T, h1, h2⟩
  refine ⟨a, b, ?_, b1, a2, b2, a3, b3⟩
  by_cases z : a ≤ b
  · exact z
  · exact absurd a2 (b3 a (by omega) a1)
theorem Ends2.iff {N n s c k a b : Nat} (e : Ends2 N n s c k a b) (hk : k ≤ n) {T : Nat} (hT : T ≤ N) : hadB N n s c k T = true ↔ a ≤ T ∧ T ≤ b := by
  rw [hadB_iff]
  constructor
  · intro h
    constructor
    · by_cases z : a ≤ T
      · exact z
      · exact absurd h (e.lo T (by omega))
    · by_cases z : T ≤ b
      · exact z
      · exact absurd h (e.hi T (by omega) hT)
  · rintro ⟨h1, h2⟩
    exact had_row hk h1 h2 e.bN e.ha e.hb
theorem Ends2.list {N n s c k a b : Nat} (e : Ends2 N n s c k a b) (hk : k ≤ n) : hadL N n s c k = (List.range (b + 1 - a)).map fun i => a + i :=
  filt_run (by have := e.bN; omega) e.ab fun i hi => e.iff hk (by omega)
noncomputable def loT (N n s c k : Nat) : Nat := (hadL N n s c k).getD 0 0
noncomputable def hiT (N n s c k : Nat) : Nat := (hadL N n s c k).getD ((hadL N n s c k).length - 1) 0
theorem Ends2.lo_is {N n s c k a b : Nat} (e : Ends2 N n s c k a b) (hk : k ≤ n) : loT N n s c k = a ∧ hiT N n s c k = b ∧ (hadL N n s c k).length = b + 1 - a := by
  have ab := e.ab
  have l := e.list hk
  have len : (hadL N n s c k).length = b + 1 - a := by rw [l]; simp
  refine ⟨?_, ?_, len⟩
  · unfold loT
    rw [l, List.getD_eq_getElem?_getD, List.getElem?_map, List.getElem?_range (by omega)]
    simp
  · unfold hiT
    rw [len, l, List.getD_eq_getElem?_getD, List.getElem?_map, List.getElem?_range (by omega)]
    simp
    omega
theorem at_neg1 {xs : List V} {y : V} (h : xs[xs.length - 1]? = some y) : atI xs (-1) = some y := by
  have hl : 0 < xs.length := by have := (List.getElem?_eq_some_iff.mp h).1; omega
  have e : ixN xs.length (-1) = some (xs.length - 1) := by
    unfold ixN
    rw [if_neg (by omega), if_pos (by omega)]
    congr 1
    omega
  unfold atI
  rw [e]
  exact h
theorem natV_at {ks : List Nat} {i : Nat} (h : i < ks.length) : (natV ks)[i]? = some (.int (ks.getD i 0 : Nat)) := by
  unfold natV
  rw [List.getElem?_map, List.getD_eq_getElem?_getD, List.getElem?_eq_getElem h]
  rfl
theorem natV_len (ks : List Nat) : (natV ks).length = ks.length := by unfold natV; simp
noncomputable def spTc : Sp := fun vs H Q _ => ∃ (N n k s0 s1 : Nat) (m : Addr), vs = [.int N, .int n, .int k, .ref m] ∧ FrA H m (mostR s0 s1) ∧ N ≤ 30 ∧ n ≤ N ∧ n ≤ 10 ∧ k ≤ n ∧ 1 ≤ s0 ∧ s0 ≤ s1 ∧
  ∀ p H', Same H H' → H' p = some (.tup [.int (loT N n s1 ((s1 - s0) * binom N n) k : Nat), .int (hiT N n s1 ((s1 - s0) * binom N n) k : Nat)]) → Q (.ref p) H'
theorem left_lt {N n s0 s1 : Nat} (hn : n ≤ N) (h0 : 1 ≤ s0) (h1 : s0 ≤ s1) : (s1 - s0) * binom N n < s1 * binom N n := Nat.mul_lt_mul_of_pos_right (by omega) (bpos hn)
theorem sc_tc : FnScope ["N", "n", "k", "most", "had"] ["N", "n", "k", "most"] (defScope s_tc) := ⟨rfl, rfl, rfl, by decide +kernel, rfl, by decide +kernel, by decide +kernel⟩
theorem ok_tc {f : Addr} {fd : FuncData} (F : Fun K "tails_counts" "tails_counts" s_tc f fd) (T : Txt mg) {fhad : Addr} {dhad : FuncData} (Ghad : FnOk P w K mg base CX0 5 fhad dhad ["N", "T", "n", "k", "most"] spHad) (bhad : Binds K dhad ["N", "T", "n", "k", "most"] []) (khad : PySem.W.keepIn K (.ref fhad) = true) (mhad : mg "is_had" = some (.ref fhad)) : FnOk P w K mg base CX0 6 f fd ["N", "n", "k", "most"] spTc := by
  refine F.ok sc_tc (fun vs H Q E h => ?_) (fun cdv A outer s H vs Q E hr h => ?_)
  · obtain ⟨N, n, k, s0, s1, m, rfl, _⟩ := h
    rfl
  obtain ⟨N, n, k, s0, s1, m, rfl, fm, hN, hn, n10, hk, h0, h1, q⟩ := h
  refine ⟨_, (pss_cons (ps_setC (i := 4) sc_tc.nd rfl (Or.inl rfl) (xs := ["T"]) (ts := [("N", 0), ("n", 1), ("k", 2), ("most", 3)]) rfl ⟨rfl, sub4 rfl rfl rfl rfl, rfl, rfl, rfl, by decide +kernel, rfl, rfl⟩ (pi_range1 rfl T.range (pa_cons (pe_op op_add (pv 0) pe_int) pa_nil)) (fun C s3 H3 fp => (pg_name (i := 0) (show (["T", "N", "n", "k", "most"] : List Str).Nodup by decide +kernel) rfl (Or.inl rfl) (Or.inr rfl))) (fun C s3 H3 fp => (pif_one (pt_val (pe_call Ghad hr rfl mhad khad bhad .nil pass0 (pa_cons (pv 1) (pa_cons (pv 0) (pa_cons (pv 2) (pa_cons (pv 3) (pa_cons (pv 4) pa_nil))))))))) (fun C s3 H3 fp => (pv 0)))
    (pss_one (ps_ret (pe_tup (pa_cons (pe_ix ix_list (pv 4) pe_int (fun _ _ => rfl)) (pa_cons (pe_ix ix_list (pv 4) (pe_un un_neg pe_int) (fun _ _ => rfl)) pa_nil)))))), ?_⟩
  have eN : ((N : Int) + 1).toNat = N + 1 := by omega
  refine ⟨_, rfl, _, _, rfl, rfl, _, rfl, by omega, by omega, fun D hD => ?_⟩
  rw [eN]
  refine comp_rangeF (hadB N n s1 ((s1 - s0) * binom N n) k) (fun t => V.int (t : Int)) hD (Nat.le_of_lt (lt40 (by omega))) ?_ ?_ ?_
  · intro i H2 kk hi sm hkk
    rw [show (0 : Int) + (i : Int) = (i : Int) from Int.zero_add _]
    exact ⟨_, rfl, _, rfl, _, rfl, _, rfl, _, rfl, N, i, n, k, s0, s1, m, rfl, fm.keep sm, by omega, hN, hn, n10, hk, h1, by omega, fun H3 s3 => ⟨_, rfl, hkk H3 s3⟩⟩
  · intro i H2 kk hi hp sm hkk
    rw [show (0 : Int) + (i : Int) = (i : Int) from Int.zero_add _]
    exact ⟨_, rfl, hkk H2 (Same.refl H2)⟩
  intro H2 s2 hD2
  have hD2' : H2 D = some (.lst (natV (hadL N n s1 ((s1 - s0) * binom N n) k))) := hD2
  obtain ⟨a, b, e2⟩ := ends2 (s := s1) (c := (s1 - s0) * binom N n) hn hk (left_lt hn h0 h1)
  obtain ⟨_, _, e5⟩ := e2.lo_is hk
  have ab := e2.ab
  have p0 : 0 < (hadL N n s1 ((s1 - s0) * binom N n) k).length := by omega
  refine ⟨_, rfl, D, _, 0, _, rfl, rfl, SqL.of hD2', atI_nat (j := 0) (natV_at p0), _, rfl, _, rfl, D, _, -1, _, rfl, rfl, SqL.of hD2', at_neg1 (by rw [natV_len]; exact natV_at (by omega)), (by show 2 ≤ sizeLine; decide), fun p hp => ?_⟩
  exact q p _ (s2.trans (same_new hp _)) upd_same
noncomputable def tlL (N n s c : Nat) : List (Nat × Nat) := (List.range (n + 1)).map fun k => (loT N n s c k, hiT N n s c k)
theorem tlL_at {N n s c i : Nat} {p : Nat × Nat} (h : (tlL N n s c)[i]? = some p) : i < n + 1 ∧ p = (loT N n s c i, hiT N n s c i) := by
  unfold tlL at h
  rw [List.getElem?_map] at h
  by_cases q : i < n + 1
  · rw [List.getElem?_range q] at h
    exact ⟨q, (Option.some.inj h).symm⟩
  · rw [List.getElem?_eq_none (by simp; omega)] at h
    cases h
theorem tl_cr {N n s0 s1 : Nat} (n1 : 1 ≤ n) (n10 : n ≤ 10) (nN : n ≤ N) (N30 : N ≤ 30) (h0 : 1 ≤ s0) (h1 : s0 ≤ s1) : IsCR N n (tlL N n s1 ((s1 - s0) * binom N n)) where
  n1 := n1
  n10 := n10
  nN := nN
  N30 := N30
  len := by unfold tlL; simp
  le := fun p hp => by
    obtain ⟨i, hi⟩ := List.mem_iff_getElem?.mp hp
    obtain ⟨a1, rfl⟩ := tlL_at hi
    obtain ⟨a, b, e⟩ := ends2 (s := s1) (c := (s1 - s0) * binom N n) nN (show i ≤ n by omega) (left_lt nN h0 h1)
    obtain ⟨e1, e2, _⟩ := e.lo_is (by omega)
    show loT _ _ _ _ _ ≤ hiT _ _ _ _ _ ∧ hiT _ _ _ _ _ ≤ N
    rw [e1, e2]
    exact ⟨e.ab, e.bN⟩
  lows := fun i p q hp hq => by
    obtain ⟨a1, rfl⟩ := tlL_at hp
    obtain ⟨a2, rfl⟩ := tlL_at hq
    obtain ⟨a, b, e⟩ := ends2 (s := s1) (c := (s1 - s0) * binom N n) nN (show i ≤ n by omega) (left_lt nN h0 h1)
    obtain ⟨a', b', e'⟩ := ends2 (s := s1) (c := (s1 - s0) * binom N n) nN (show i + 1 ≤ n by omega) (left_lt nN h0 h1)
    show loT _ _ _ _ _ ≤ loT _ _ _ _ _
    rw [(e.lo_is (by omega)).1, (e'.lo_is (by omega)).1]
    exact had_low (by omega) (by have := e.ab; have := e.bN; omega) e'.ha e.lo e.ha (by have := e'.ab; have := e'.bN; omega)
  highs := fun i p q hp hq => by
    obtain ⟨a1, rfl⟩ := tlL_at hp
    obtain ⟨a2, rfl⟩ := tlL_at hq
    obtain ⟨a, b, e⟩ := ends2 (s := s1) (c := (s1 - s0) * binom N n) nN (show i ≤ n by omega) (left_lt nN h0 h1)
    obtain ⟨a', b', e'⟩ := ends2 (s := s1) (c := (s1 - s0) * binom N n) nN (show i + 1 ≤ n by omega) (left_lt nN h0 h1)
    show hiT _ _ _ _ _ ≤ hiT _ _ _ _ _
    rw [(e.lo_is (by omega)).2.1, (e'.lo_is (by omega)).2.1]
    exact had_high (by omega) e.bN e.hb e'.hi e'.hb
noncomputable def spUt : Sp := fun vs H Q _ => ∃ (N n s0 s1 : Nat) (a : Addr), vs = [.int N, .int n, .ref a] ∧ H a = some (.tup [.int s0, .int s1]) ∧ 1 ≤ n ∧ n ≤ 10 ∧ n ≤ N ∧ N ≤ 30 ∧ 1 ≤ s0 ∧ s0 ≤ s1 ∧ s1 ≤ 1000000000000000000000000000000 ∧
  ∀ x H', Same H H' → CRAt H' x N n (tlL N n s1 ((s1 - s0) * binom N n)) → Q (.ref x) H'
theorem sc_utl : FnScope ["N", "n", "share", "most"] ["N", "n", "share"] (defScope s_utl) := ⟨rfl, rfl, rfl, by decide +kernel, rfl, by decide +kernel, by decide +kernel⟩
theorem ok_utl {f : Addr} {fd : FuncData} (F : Fun K "urn_tails" "urn_tails" s_utl f fd) (T : Txt mg) {fhalf : Addr} {dhalf : FuncData} (Ghalf : FnOk P w K mg base CX0 6 fhalf dhalf ["share"] spHalf) (bhalf : Binds K dhalf ["share"] []) (khalf : PySem.W.keepIn K (.ref fhalf) = true) (mhalf : mg "half_of_what_is_left" = some (.ref fhalf)) {ftc : Addr} {dtc : FuncData} (Gtc : FnOk P w K mg base CX0 6 ftc dtc ["N", "n", "k", "most"] spTc) (btc : Binds K dtc ["N", "n", "k", "most"] []) (ktc : PySem.W.keepIn K (.ref ftc) = true) (mtc : mg "tails_counts" = some (.ref ftc)) : FnOk P w K mg base CX0 7 f fd ["N", "n", "share"] spUt := by
  refine F.ok sc_utl (fun vs H Q E h => ?_) (fun cdv A outer s H vs Q E hr h => ?_)
  · obtain ⟨N, n, s0, s1, a, rfl, _⟩ := h
    rfl
  obtain ⟨N, n, s0, s1, a, rfl, ha, n1, n10, nN, N30, h0, h1, h2, q⟩ := h
  refine ⟨_, (pss_cons (ps_set (i := 3) sc_utl.nd rfl (Or.inr rfl) (pe_call Ghalf hr rfl mhalf khalf bhalf .nil pass0 (pa_cons (pv 2) pa_nil)))
    (pss_one (ps_ret (pe_tup (pa_cons (pv 0) (pa_cons (pv 1) (pa_cons (pe_callTy call_tuple_of rfl T.tuple boot_tuple (pa_cons (pe_comp (ts := [("N", 0), ("n", 1), ("most", 3)]) rfl ⟨rfl, sub3 rfl rfl rfl, rfl, rfl, rfl, rfl, by decide +kernel, rfl, rfl⟩ (pi_range1 rfl T.range (pa_cons (pe_op op_add (pv 1) pe_int) pa_nil)) (fun C s3 H3 fp => (pe_call Gtc hr rfl mtc ktc btc .nil pass0 (pa_cons (pv 1) (pa_cons (pv 2) (pa_cons (pv 0) (pa_cons (pv 3) pa_nil))))))) pa_nil)) pa_nil))))))), ?_⟩
  refine ⟨_, rfl, a, s0, s1, rfl, ha, by omega, h2, fun m H1 t1 hm => ?_⟩
  have fm := frA_most (H := H1) (f := m) h1 (by omega) h2 hm
  have en : ((n : Int) + 1).toNat = n + 1 := by omega
  refine ⟨_, rfl, _, rfl, _, rfl, _, _, rfl, rfl, _, rfl, by omega, by omega, fun D hD => ?_⟩
  rw [en]
  refine comp_rangeR (fun i ys H' => RowN H' ((tlL N n s1 ((s1 - s0) * binom N n)).take i) ys) hD (Nat.le_of_lt (lt40 (by omega))) rfl ?_ ?_
  · rintro i ys H2 kk hi sm e r hk
    rw [show (0 : Int) + (i : Int) = (i : Int) from Int.zero_add _]
    refine ⟨_, rfl, _, rfl, _, rfl, _, rfl, N, n, i, s0, s1, m, rfl, fm.keep sm, N30, nN, n10, by omega, h0, h1, fun p H3 s3 hp => hk _ _ s3 ?_⟩
    have ep : (tlL N n s1 ((s1 - s0) * binom N n))[i]? = some (loT N n s1 ((s1 - s0) * binom N n) i, hiT N n s1 ((s1 - s0) * binom N n) i) := by
      unfold tlL
      rw [List.getElem?_map, List.getElem?_range hi]
      rfl
    rw [List.take_add_one, ep]
    exact ((r.keep s3).app (show RowN _ [_] [.ref p] from ⟨p, [], rfl, hp, rfl⟩)).write (s3 _ _ e)
  rintro ys H2 s2 hD2 hl2 r
  have lp : (tlL N n s1 ((s1 - s0) * binom N n)).length = n + 1 := by unfold tlL; simp
  rw [List.take_of_length_le (by omega)] at r
  refine ⟨D, ys, rfl, .inl ⟨SqL.of hD2, fun t ht => ?_⟩⟩
  have s3 := same_new ht (.tup ys)
  have t3 : (upd H2 t (.tup ys)) t = some (.tup ys) := upd_same
  refine ⟨(by show 3 ≤ sizeLine; decide), fun x hx => ?_⟩
  have s4 := same_new hx (.tup [V.int N, V.int n, V.ref t])
  exact q x _ (((t1.trans s2).trans s3).trans s4) ⟨⟨t, ys, upd_same, s4 _ _ t3, (r.keep s3).keep s4⟩, tl_cr n1 n10 nN N30 h0 h1⟩
noncomputable def GoodS (H : Hp) (v : V) : Prop := ∃ (p : Addr) (s0 s1 : Nat), v = .ref p ∧ H p = some (.tup [.int s0, .int s1]) ∧ 1 ≤ s0 ∧ s0 ≤ s1 ∧ s1 ≤ 1000000000000000000000000000000 ∧ Nat.gcd s0 s1 = 1
theorem GoodS.keep {H H' : Hp} {v : V} (h : GoodS H v) (s : Same H H') : GoodS H' v := by
  obtain ⟨p, a, b, e, h1, h2⟩ := h
  exact ⟨p, a, b, e, s _ _ h1, h2⟩
theorem GoodS.write {H : Hp} {v : V} {l : Addr} {zs ws : List V} (h : GoodS H v) (hl : H l = some (.lst zs)) : GoodS (upd H l (.lst ws)) v := by
  obtain ⟨p, a, b, e, h1, h2⟩ := h
  exact ⟨p, a, b, e, by rw [upd_ne (ne_of h1 hl (by intro z; cases z))]; exact h1, h2⟩
theorem goodS_new {H : Hp} {p : Addr} (a b : Nat) (h1 : 1 ≤ a) (h2 : a ≤ b) (h3 : b ≤ 1000000000000000000000000000000) (h4 : Nat.gcd a b = 1) : GoodS (upd H p (.tup [.int (a : Int), .int (b : Int)])) (.ref p) := ⟨p, a, b, rfl, upd_same, h1, h2, h3, h4⟩
theorem rq_good {H : Hp} {p : Addr} {t b : Int} (h0 : 1 ≤ t) (h1 : t ≤ b) (h2 : b ≤ 1000000000000000000000000000000) (e : H p = some (.tup [.int (rq t b).num, .int ((rq t b).den : Int)])) : GoodS H (.ref p) := by
  have bp : (0 : Int) < b := by omega
  have er := rq_is (t := t) bp
  have bq : (0 : Rat) < (b : Rat) := by exact_mod_cast bp
  have tq : (1 : Rat) ≤ (t : Rat) := by exact_mod_cast h0
  have tb : (t : Rat) ≤ (b : Rat) := by exact_mod_cast h1
  have r0 : 0 < rq t b := by
    by_cases z : 0 < rq t b
    · exact z
    · have := Rat.mul_nonneg (show 0 ≤ (b : Rat) by grind) (show 0 ≤ - rq t b by grind)
      grind
  have r1 : rq t b ≤ 1 := by
    have := nonneg_of bq (x := 1 - rq t b) (by grind)
    grind
  have d := rden (rq t b)
  have n1 : (rq t b).num ≤ ((rq t b).den : Int) := (r_le1 _).mpr r1
  have n0 : 0 < (rq t b).num := by
    have s := rsplit (rq t b)
    have dq : (0 : Rat) < ((rq t b).den : Rat) := by
      have : 0 < (rq t b).den := by have := (rq t b).den_nz; omega
      exact_mod_cast this
    have : (0 : Rat) < ((rq t b).num : Rat) := by rw [← s]; exact Rat.mul_pos r0 dq
    exact_mod_cast this
  have ov : Ov b.toNat (rq t b) := by
    refine ⟨t, ?_⟩
    have e' : ((b.toNat : Nat) : Rat) = (b : Rat) := by
      have : ((b.toNat : Nat) : Int) = b := by omega
      rw [← Rat.intCast_natCast, this]
    rw [e']
    exact er
  have dl := Nat.le_of_dvd (by omega) ov.dvd
  have gg : Nat.gcd (rq t b).num.toNat (rq t b).den = 1 := by
    have g := rgcd (rq t b)
    unfold Int.gcd at g
    rw [show (rq t b).num.natAbs = (rq t b).num.toNat by omega] at g
    exact g
  refine ⟨p, (rq t b).num.toNat, (rq t b).den, rfl, ?_, by omega, by omega, by omega, gg⟩
  rw [e, show (((rq t b).num.toNat : Nat) : Int) = (rq t b).num by omega]
theorem u30 : (10 : Int) ^ (30 : Int).toNat = 1000000000000000000000000000000 := by decide +kernel
theorem u30p : (0 : Int) < 10 ^ (30 : Int).toNat := by decide +kernel
theorem smk30 {b : Int} (h0 : 0 ≤ b) (h : b ≤ 1000000000000000000000000000000) : Smk b := by
  have z : Sz 120 b := Nat.lt_of_le_of_lt (show b.natAbs ≤ 2000000000000000000000000000000000 by omega) p30
  exact z.smk (by decide)
noncomputable def spShU (K : PySem.W.Frag) : Sp := fun vs H Q _ => ∃ (a : Addr) (ns : List Int) (k : Int), vs = [.ref a, .int k] ∧ SqL K H a (ns.map V.int) ∧ ns.length ≤ 63 ∧ 0 ≤ k ∧ k ≤ 300 ∧ ∀ v H', Same H H' → GoodS H' v → Q v H'
theorem sc_shU : FnScope ["_law_script", "_law_k", "_law_some", "_law_bottom"] ["_law_script", "_law_k"] (defScope s_shU) := ⟨rfl, rfl, rfl, by decide +kernel, rfl, by decide +kernel, by decide +kernel⟩
theorem ok_shU {f : Addr} {fd : FuncData} (F : Fun K "_law_share" "_law_share" s_shU f fd) (T : Txt mg) {fcellU : Addr} {dcellU : FuncData} (GcellU : FnOk P w K mg base CX0 3 fcellU dcellU ["_law_script", "_law_k"] (spCellU K)) (bcellU : Binds K dcellU ["_law_script", "_law_k"] []) (kcellU : PySem.W.keepIn K (.ref fcellU) = true) (mcellU : mg "_law_cell" = some (.ref fcellU)) {flow : Addr} {dlow : FuncData} (Glow : FnOk P w K mg base CX0 3 flow dlow ["_law_top", "_law_bottom"] spLow) (blow : Binds K dlow ["_law_top", "_law_bottom"] []) (klow : PySem.W.keepIn K (.ref flow) = true) (mlow : mg "_law_low" = some (.ref flow)) : FnOk P w K mg base CX0 4 f fd ["_law_script", "_law_k"] (spShU K) := by
  refine F.ok sc_shU (fun vs H Q E h => ?_) (fun cdv A outer s H vs Q E hr h => ?_)
  · obtain ⟨a, ns, k, rfl, _⟩ := h
    rfl
  obtain ⟨a, ns, k, rfl, hS, h63, h0, h3, q⟩ := h
  refine ⟨_, (pss_cons (ps_set (i := 2) sc_shU.nd rfl (Or.inl rfl) (pe_lst (pa_cons (pe_tup (pa_cons pe_int (pa_cons pe_int pa_nil))) (pa_cons (pe_tup (pa_cons pe_int (pa_cons pe_int pa_nil))) (pa_cons (pe_tup (pa_cons pe_int (pa_cons pe_int pa_nil))) (pa_cons (pe_tup (pa_cons pe_int (pa_cons pe_int pa_nil))) (pa_cons (pe_tup (pa_cons pe_int (pa_cons pe_int pa_nil))) (pa_cons (pe_tup (pa_cons pe_int (pa_cons (pe_op op_pow pe_int pe_int) pa_nil))) pa_nil))))))))
    (pss_cons (ps_set (i := 3) sc_shU.nd rfl (Or.inl rfl) (pe_op op_add pe_int (pe_op op_mod (pe_op op_mul (pe_call GcellU hr rfl mcellU kcellU bcellU .nil pass0 (pa_cons (pv 0) (pa_cons (pe_op op_add (pv 1) pe_int) pa_nil))) (pe_op op_pow pe_int pe_int)) (pe_op op_pow pe_int pe_int))))
    (pss_cons (ps_expr (pe_bm PySem.F.plainAttrs_list PySem.F.slot_list_append PySem.F.type_list_append mt_append (pv 2) (pa_cons (pe_call Glow hr rfl mlow klow blow .nil pass0 (pa_cons (pe_op op_add pe_int (pe_op op_mod (pe_op op_mul (pe_call GcellU hr rfl mcellU kcellU bcellU .nil pass0 (pa_cons (pv 0) (pa_cons (pe_op op_add (pv 1) pe_int) pa_nil))) (pe_op op_pow pe_int pe_int)) (pv 3))) (pa_cons (pv 3) pa_nil))) pa_nil)))
    (pss_cons (ps_expr (pe_bm PySem.F.plainAttrs_list PySem.F.slot_list_append PySem.F.type_list_append mt_append (pv 2) (pa_cons (pe_call Glow hr rfl mlow klow blow .nil pass0 (pa_cons (pe_op op_add pe_int (pe_op op_mod (pe_call GcellU hr rfl mcellU kcellU bcellU .nil pass0 (pa_cons (pv 0) (pa_cons (pe_op op_add (pv 1) pe_int) pa_nil))) pe_int)) (pa_cons pe_int pa_nil))) pa_nil)))
    (pss_one (ps_ret (pe_ix ix_list (pv 2) (pe_op op_mod (pe_call GcellU hr rfl mcellU kcellU bcellU .nil pass0 (pa_cons (pv 0) (pa_cons (pv 1) pa_nil))) pe_int) (fun _ _ => rfl)))))))), ?_⟩
  have t2 : 2 ≤ sizeLine := by decide
  refine ⟨t2, fun p1 f1 => ⟨t2, fun p2 f2 => ⟨t2, fun p3 f3 => ⟨t2, fun p4 f4 => ⟨t2, fun p5 f5 => ⟨_, _, rfl, rfl, ⟨by decide, by decide, by decide⟩, t2, fun p6 f6 => ⟨(by show 6 ≤ sizeLine; decide), fun l hl => ?_⟩⟩⟩⟩⟩⟩⟩
  have s1 := same_new f1 (.tup [V.int 1, V.int 2])
  have s2 := same_new f2 (.tup [V.int 9, V.int 10])
  have s3 := same_new f3 (.tup [V.int 19, V.int 20])
  have s4 := same_new f4 (.tup [V.int 2, V.int 3])
  have s5 := same_new f5 (.tup [V.int 1, V.int 1])
  have s6 := same_new f6 (.tup [V.int 1, V.int (10 ^ (30 : Int).toNat)])
  have s7 := same_new hl (.lst [V.ref p1, V.ref p2, V.ref p3, V.ref p4, V.ref p5, V.ref p6])
  have g1 := (((((((goodS_new (H := H) (p := p1) 1 2 (by decide) (by decide) (by decide) (by decide)).keep s2).keep s3).keep s4).keep s5).keep s6).keep s7)
  have g2 := ((((((goodS_new (H := upd H p1 (.tup [V.int 1, V.int 2])) (p := p2) 9 10 (by decide) (by decide) (by decide) (by decide)).keep s3).keep s4).keep s5).keep s6).keep s7)
  have g3 := (((((goodS_new (H := upd (upd H p1 (.tup [V.int 1, V.int 2])) p2 (.tup [V.int 9, V.int 10])) (p := p3) 19 20 (by decide) (by decide) (by decide) (by decide)).keep s4).keep s5).keep s6).keep s7)
  have g4 := ((((goodS_new (H := upd (upd (upd H p1 (.tup [V.int 1, V.int 2])) p2 (.tup [V.int 9, V.int 10])) p3 (.tup [V.int 19, V.int 20])) (p := p4) 2 3 (by decide) (by decide) (by decide) (by decide)).keep s5).keep s6).keep s7)
  have g5 := (((goodS_new (H := upd (upd (upd (upd H p1 (.tup [V.int 1, V.int 2])) p2 (.tup [V.int 9, V.int 10])) p3 (.tup [V.int 19, V.int 20])) p4 (.tup [V.int 2, V.int 3])) (p := p5) 1 1 (by decide) (by decide) (by decide) (by decide)).keep s6).keep s7)
  have g6 : GoodS _ (.ref p6) := (GoodS.keep (show GoodS (upd (upd (upd (upd (upd (upd H p1 (.tup [V.int 1, V.int 2])) p2 (.tup [V.int 9, V.int 10])) p3 (.tup [V.int 19, V.int 20])) p4 (.tup [V.int 2, V.int 3])) p5 (.tup [V.int 1, V.int 1])) p6 (.tup [V.int 1, V.int (10 ^ (30 : Int).toNat)])) (.ref p6) from ⟨p6, 1, 1000000000000000000000000000000, rfl, by rw [upd_same, u30]; rfl, by decide, by decide, by decide⟩) s7)
  have s17 := (((((s1.trans s2).trans s3).trans s4).trans s5).trans s6).trans s7
  have el : (upd (upd (upd (upd (upd (upd (upd H p1 (.tup [V.int 1, V.int 2])) p2 (.tup [V.int 9, V.int 10])) p3 (.tup [V.int 19, V.int 20])) p4 (.tup [V.int 2, V.int 3])) p5 (.tup [V.int 1, V.int 1])) p6 (.tup [V.int 1, V.int (10 ^ (30 : Int).toNat)])) l (.lst [V.ref p1, V.ref p2, V.ref p3, V.ref p4, V.ref p5, V.ref p6])) l = some (.lst [V.ref p1, V.ref p2, V.ref p3, V.ref p4, V.ref p5, V.ref p6]) := upd_same
  have lfr : H l = none := by
    cases hz : H l with
    | none => rfl
    | some u =>
      have := (((((s1.trans s2).trans s3).trans s4).trans s5).trans s6) _ _ hz
      rw [hl] at this
      cases this
  generalize upd (upd (upd (upd (upd (upd (upd H p1 (.tup [V.int 1, V.int 2])) p2 (.tup [V.int 9, V.int 10])) p3 (.tup [V.int 19, V.int 20])) p4 (.tup [V.int 2, V.int 3])) p5 (.tup [V.int 1, V.int 1])) p6 (.tup [V.int 1, V.int (10 ^ (30 : Int).toNat)])) l (.lst [V.ref p1, V.ref p2, V.ref p3, V.ref p4, V.ref p5, V.ref p6]) = H1 at *
  refine ⟨_, rfl, _, rfl, _, _, rfl, rfl, a, ns, _, rfl, s17.seq hS, h63, by omega, by omega, fun r r0 r1 => ?_⟩
  refine ⟨_, _, rfl, rfl, ⟨by decide, by decide, by decide⟩, _, _, rfl, rfl, .inl ⟨by omega, by omega⟩, _, _, rfl, rfl, ⟨by decide, by decide, by decide⟩, _, _, rfl, rfl, u30p, _, _, rfl, rfl, ?_⟩
  have b0 := md0 (r * 40014 ^ (5 : Int).toNat) u30p
  have b1 := md1 (r * 40014 ^ (5 : Int).toNat) u30p
  generalize r * 40014 ^ (5 : Int).toNat % 10 ^ (30 : Int).toNat = bt at *
  rw [u30] at b1
  refine ⟨_, rfl, .inl ⟨rfl, _, SqL.of el⟩, _, rfl, _, rfl, _, _, rfl, rfl, a, ns, _, rfl, s17.seq hS, h63, by omega, by omega, fun r2 q0 q1 => ?_⟩
  have bp : (0 : Int) < 1 + bt := by omega
  refine ⟨_, _, rfl, rfl, ⟨by decide, by decide, by decide⟩, _, _, rfl, rfl, .inl ⟨by omega, by omega⟩, _, rfl, _, _, rfl, rfl, bp, _, _, rfl, rfl, ?_⟩
  have c0 := md0 (r2 * 48271 ^ (7 : Int).toNat) bp
  have c1 := md1 (r2 * 48271 ^ (7 : Int).toNat) bp
  generalize r2 * 48271 ^ (7 : Int).toNat % (1 + bt) = tt at *
  refine ⟨_, rfl, 1 + tt, 1 + bt, rfl, by omega, bp, smk30 (by omega) (by omega), fun p7 H2 s8 e7 => ?_⟩
  have g7 := rq_good (H := H2) (p := p7) (t := 1 + tt) (b := 1 + bt) (by omega) (by omega) (by omega) e7
  have el2 := s8 _ _ el
  refine ⟨l, _, _, rfl, rfl, el2, lt40 (by show 6 ≤ 40; decide), ?_⟩
  have w2 : ∀ {v : V} (xs : List V), GoodS H2 v → GoodS (upd H2 l (.lst xs)) v := fun xs h => h.write el2
  have sH2 : Same H (upd H2 l (.lst ([V.ref p1, V.ref p2, V.ref p3, V.ref p4, V.ref p5, V.ref p6] ++ [V.ref p7]))) := fun b' o' eb => by rw [upd_ne (ne_of_none eb lfr)]; exact s8 _ _ (s17 _ _ eb)
  have g1' := w2 ([V.ref p1, V.ref p2, V.ref p3, V.ref p4, V.ref p5, V.ref p6] ++ [V.ref p7]) (g1.keep s8)
  have g2' := w2 ([V.ref p1, V.ref p2, V.ref p3, V.ref p4, V.ref p5, V.ref p6] ++ [V.ref p7]) (g2.keep s8)
  have g3' := w2 ([V.ref p1, V.ref p2, V.ref p3, V.ref p4, V.ref p5, V.ref p6] ++ [V.ref p7]) (g3.keep s8)
  have g4' := w2 ([V.ref p1, V.ref p2, V.ref p3, V.ref p4, V.ref p5, V.ref p6] ++ [V.ref p7]) (g4.keep s8)
  have g5' := w2 ([V.ref p1, V.ref p2, V.ref p3, V.ref p4, V.ref p5, V.ref p6] ++ [V.ref p7]) (g5.keep s8)
  have g6' := w2 ([V.ref p1, V.ref p2, V.ref p3, V.ref p4, V.ref p5, V.ref p6] ++ [V.ref p7]) (g6.keep s8)
  have g7' := w2 ([V.ref p1, V.ref p2, V.ref p3, V.ref p4, V.ref p5, V.ref p6] ++ [V.ref p7]) g7
  have el3 : (upd H2 l (.lst ([V.ref p1, V.ref p2, V.ref p3, V.ref p4, V.ref p5, V.ref p6] ++ [V.ref p7]))) l = some (.lst ([V.ref p1, V.ref p2, V.ref p3, V.ref p4, V.ref p5, V.ref p6] ++ [V.ref p7])) := upd_same
  generalize upd H2 l (.lst ([V.ref p1, V.ref p2, V.ref p3, V.ref p4, V.ref p5, V.ref p6] ++ [V.ref p7])) = H3 at *
  refine ⟨_, rfl, .inl ⟨rfl, _, SqL.of el3⟩, _, rfl, _, rfl, _, _, rfl, rfl, a, ns, _, rfl, sH2.seq hS, h63, by omega, by omega, fun r3 u0 u1 => ?_⟩
  have d0 := md0 r3 (show (0 : Int) < 100 by decide)
  have d1 := md1 r3 (show (0 : Int) < 100 by decide)
  refine ⟨_, _, rfl, rfl, (by show (0 : Int) < 100; decide), _, _, rfl, rfl, 1 + r3 % 100, 100, rfl, by omega, by decide, smk30 (by decide) (by decide), fun p8 H4 s9 e8 => ?_⟩
  have g8 := rq_good (H := H4) (p := p8) (t := 1 + r3 % 100) (b := 100) (by omega) (by omega) (by omega) e8
  have el4 := s9 _ _ el3
  refine ⟨l, _, _, rfl, rfl, el4, lt40 (by show 7 ≤ 40; decide), ?_⟩
  have sH4 : Same H (upd H4 l (.lst (([V.ref p1, V.ref p2, V.ref p3, V.ref p4, V.ref p5, V.ref p6] ++ [V.ref p7]) ++ [V.ref p8]))) := fun b' o' eb => by rw [upd_ne (ne_of_none eb lfr)]; exact s9 _ _ (sH2 _ _ eb)
  have all : ∀ v ∈ ([V.ref p1, V.ref p2, V.ref p3, V.ref p4, V.ref p5, V.ref p6] ++ [V.ref p7]) ++ [V.ref p8], GoodS (upd H4 l (.lst (([V.ref p1, V.ref p2, V.ref p3, V.ref p4, V.ref p5, V.ref p6] ++ [V.ref p7]) ++ [V.ref p8]))) v := by
    intro v hv
    refine GoodS.write ?_ el4
    simp only [List.mem_append, List.mem_cons, List.not_mem_nil, or_false] at hv
    rcases hv with ((rfl | rfl | rfl | rfl | rfl | rfl) | rfl) | rfl
    · exact g1'.keep s9
    · exact g2'.keep s9
    · exact g3'.keep s9
    · exact g4'.keep s9
    · exact g5'.keep s9
    · exact g6'.keep s9
    · exact g7'.keep s9
    · exact g8
  have el5 : (upd H4 l (.lst (([V.ref p1, V.ref p2, V.ref p3, V.ref p4, V.ref p5, V.ref p6] ++ [V.ref p7]) ++ [V.ref p8]))) l = some (.lst (([V.ref p1, V.ref p2, V.ref p3, V.ref p4, V.ref p5, V.ref p6] ++ [V.ref p7]) ++ [V.ref p8])) := upd_same
  have len8 : (([V.ref p1, V.ref p2, V.ref p3, V.ref p4, V.ref p5, V.ref p6] ++ [V.ref p7]) ++ [V.ref p8]).length = 8 := rfl
  generalize ([V.ref p1, V.ref p2, V.ref p3, V.ref p4, V.ref p5, V.ref p6] ++ [V.ref p7]) ++ [V.ref p8] = xs at *
  generalize upd H4 l (.lst xs) = H5 at *
  refine ⟨_, rfl, _, rfl, _, rfl, a, ns, _, rfl, sH4.seq hS, h63, by omega, by omega, fun r4 w0 w1 => ?_⟩
  have k0 := md0 r4 (show (0 : Int) < 8 by decide)
  have k1 := md1 r4 (show (0 : Int) < 8 by decide)
  obtain ⟨j, ej, jl⟩ : ∃ j : Nat, r4 % 8 = (j : Int) ∧ j < 8 := ⟨(r4 % 8).toNat, by omega, by omega⟩
  have ex := List.getElem?_eq_getElem (show j < xs.length by omega)
  refine ⟨_, _, rfl, rfl, (by show (0 : Int) < 8; decide), l, _, _, _, rfl, rfl, SqL.of el5, (by rw [ej]; exact atI_nat ex), ?_⟩
  exact q _ _ sH4 (all _ (List.mem_of_getElem? ex))
theorem boot_sorted : bootBuiltins "sorted" = some (.builtin "sorted") := by decide +kernel
structure LH (N n : Nat) (ls hs : List Int) : Prop where
  l1 : ls.length = n + 1
  l2 : hs.length = n + 1
  b1 : ∀ x ∈ ls, 0 ≤ x ∧ x ≤ (N : Int)
  b2 : ∀ x ∈ hs, 0 ≤ x ∧ x ≤ (N : Int)
  u1 : ls.Pairwise (· ≤ ·)
  u2 : hs.Pairwise (· ≤ ·)
  le : ∀ (k : Nat) (x z : Int), ls[k]? = some x → hs[k]? = some z → x ≤ z
noncomputable def pairsOf' (ls hs : List Int) : List (Nat × Nat) := List.zipWith (fun l h => (l.toNat, h.toNat)) ls hs
theorem pairs_at {ls hs : List Int} {i : Nat} {p : Nat × Nat} (h : (pairsOf' ls hs)[i]? = some p) : ∃ x z, ls[i]? = some x ∧ hs[i]? = some z ∧ p = (x.toNat, z.toNat) := by
  unfold pairsOf' at h
  rw [List.getElem?_zipWith] at h
  cases e1 : ls[i]? with
  | none => rw [e1] at h; cases h
  | some x =>
    cases e2 : hs[i]? with
    | none => rw [e1, e2] at h; cases h
    | some z => rw [e1, e2] at h; exact ⟨x, z, rfl, rfl, (Option.some.inj h).symm⟩
theorem pw_next {l : List Int} (h : l.Pairwise (· ≤ ·)) {i : Nat} {x y : Int} (e1 : l[i]? = some x) (e2 : l[i + 1]? = some y) : x ≤ y := by
  obtain ⟨a1, b1⟩ := List.getElem?_eq_some_iff.mp e1
  obtain ⟨a2, b2⟩ := List.getElem?_eq_some_iff.mp e2
  have := List.pairwise_iff_getElem.mp h i (i + 1) a1 a2 (by omega)
  omega
theorem LH.cr {N n : Nat} {ls hs : List Int} (h : LH N n ls hs) (n1 : 1 ≤ n) (n10 : n ≤ 10) (nN : n ≤ N) (N30 : N ≤ 30) : IsCR N n (pairsOf' ls hs) where
  n1 := n1
  n10 := n10
  nN := nN
  N30 := N30
  len := by unfold pairsOf'; simp [h.l1, h.l2]
  le := fun p hp => by
    obtain ⟨i, hi⟩ := List.mem_iff_getElem?.mp hp
    obtain ⟨x, z, a, b, rfl⟩ := pairs_at hi
    have := h.le i x z a b
    have := h.b2 z (List.mem_of_getElem? b)
    show x.toNat ≤ z.toNat ∧ z.toNat ≤ N
    omega
  lows := fun i p q hp hq => by
    obtain ⟨x, z, a, b, rfl⟩ := pairs_at hp
    obtain ⟨x', z', a', b', rfl⟩ := pairs_at hq
    have := pw_next h.u1 a a'
    show x.toNat ≤ x'.toNat
    omega
  highs := fun i p q hp hq => by
    obtain ⟨x, z, a, b, rfl⟩ := pairs_at hp
    obtain ⟨x', z', a', b', rfl⟩ := pairs_at hq
    have := pw_next h.u2 b b'
    show z.toNat ≤ z'.toNat
    omega
theorem getD_at {l : List Int} {k : Nat} {x : Int} (h : l[k]? = some x) : l.getD k 0 = x := by rw [List.getD_eq_getElem?_getD, h]; rfl
noncomputable def IntsR (N : Nat) (i : Nat) (ys : List V) (_ : Hp) : Prop := ∃ xs : List Int, ys = xs.map V.int ∧ xs.length = i ∧ ∀ x ∈ xs, 0 ≤ x ∧ x ≤ (N : Int)
theorem IntsR.snoc {N i : Nat} {ys : List V} {H H' : Hp} {x : Int} (h : IntsR N i ys H) (h0 : 0 ≤ x) (h1 : x ≤ (N : Int)) : IntsR N (i + 1) (ys ++ [.int x]) H' := by
  obtain ⟨xs, rfl, e, b⟩ := h
  refine ⟨xs ++ [x], by rw [List.map_append]; rfl, by simp [e], fun z hz => ?_⟩
  rcases List.mem_append.mp hz with q | q
  · exact b z q
  · rw [List.mem_singleton.mp q]; exact ⟨h0, h1⟩
noncomputable def lowF (N n : Nat) (k : Nat) : Int := if (k : Int) * (N : Int) / (n : Int) - (N : Int) / 2 - 1 > 0 then (k : Int) * (N : Int) / (n : Int) - (N : Int) / 2 - 1 else 0
noncomputable def highF (N n : Nat) (k : Nat) : Int := if (k : Int) * (N : Int) / (n : Int) + (N : Int) / 2 + 1 < (N : Int) then (k : Int) * (N : Int) / (n : Int) + (N : Int) / 2 + 1 else (N : Int)
theorem kq {N n k : Nat} (n1 : 1 ≤ n) (hk : k ≤ n) : 0 ≤ (k : Int) * (N : Int) / (n : Int) ∧ (k : Int) * (N : Int) / (n : Int) ≤ (N : Int) := by
  refine ⟨Int.ediv_nonneg (Int.mul_nonneg (by omega) (by omega)) (by omega), ?_⟩
  have : (k : Int) * (N : Int) ≤ (N : Int) * (n : Int) := by rw [Int.mul_comm]; exact Int.mul_le_mul_of_nonneg_left (by omega) (by omega)
  exact Int.ediv_le_of_le_mul (by omega) this
theorem kq_mono {N n k j : Nat} (n1 : 1 ≤ n) (h : k ≤ j) : (k : Int) * (N : Int) / (n : Int) ≤ (j : Int) * (N : Int) / (n : Int) :=
  Int.ediv_le_ediv (by omega) (Int.mul_le_mul_of_nonneg_right (by omega) (by omega))
theorem range_at {f : Nat → Int} {m k : Nat} {x : Int} (h : ((List.range m).map f)[k]? = some x) : k < m ∧ x = f k := by
  rw [List.getElem?_map] at h
  by_cases c : k < m
  · rw [List.getElem?_range c] at h
    exact ⟨c, (Option.some.inj h).symm⟩
  · rw [List.getElem?_eq_none (by simp; omega)] at h
    cases h
theorem range_pw {f : Nat → Int} (h : ∀ i j, i ≤ j → f i ≤ f j) (m : Nat) : ((List.range m).map f).Pairwise (· ≤ ·) := by
  refine List.pairwise_iff_getElem.mpr fun i j hi hj hij => ?_
  rw [List.getElem_map, List.getElem_map, List.getElem_range, List.getElem_range]
  exact h i j (by omega)
theorem lh_far {N n : Nat} (n1 : 1 ≤ n) : LH N n ((List.range (n + 1)).map (lowF N n)) ((List.range (n + 1)).map (highF N n)) where
  l1 := by simp
  l2 := by simp
  b1 := fun x hx => by
    obtain ⟨k, hk, rfl⟩ := List.mem_map.mp hx
    have := List.mem_range.mp hk
    have := kq (N := N) (n := n) (k := k) n1 (by omega)
    unfold lowF
    split <;> omega
  b2 := fun x hx => by
    obtain ⟨k, hk, rfl⟩ := List.mem_map.mp hx
    have := List.mem_range.mp hk
    have := kq (N := N) (n := n) (k := k) n1 (by omega)
    unfold highF
    split <;> omega
  u1 := range_pw (fun i j hij => by
    have := kq_mono (N := N) (n := n) n1 hij
    unfold lowF
    split <;> split <;> omega) _
  u2 := range_pw (fun i j hij => by
    have := kq_mono (N := N) (n := n) n1 hij
    unfold highF
    split <;> split <;> omega) _
  le := fun k x z hx hz => by
    obtain ⟨hk, rfl⟩ := range_at hx
    obtain ⟨_, rfl⟩ := range_at hz
    have := kq (N := N) (n := n) (k := k) n1 (by omega)
    unfold lowF highF
    split <;> split <;> omega
noncomputable def spCr (K : PySem.W.Frag) : Sp := fun vs H Q _ => ∃ (a : Addr) (ns : List Int) (N n : Nat) (st : Int), vs = [.ref a, .int N, .int n, .int st] ∧ SqL K H a (ns.map V.int) ∧ ns.length ≤ 63 ∧ 0 ≤ st ∧ st ≤ 300 ∧ 1 ≤ n ∧ n ≤ 10 ∧ n ≤ N ∧ N ≤ 30 ∧ ∀ x H' ps, Same H H' → CRAt H' x N n ps → Q (.ref x) H'
theorem sc_cr : FnScope ["_law_script", "_law_things", "_law_drawn", "_law_start_here", "_law_lows", "_law_wide", "_law_highs"] ["_law_script", "_law_things", "_law_drawn", "_law_start_here"] (defScope s_cr) := ⟨rfl, rfl, rfl, by decide +kernel, rfl, by decide +kernel, by decide +kernel⟩
theorem ok_cr {f : Addr} {fd : FuncData} (F : Fun K "_law_rule" "_law_rule" s_cr f fd) (T : Txt mg) {fcellU : Addr} {dcellU : FuncData} (GcellU : FnOk P w K mg base CX0 1 fcellU dcellU ["_law_script", "_law_k"] (spCellU K)) (bcellU : Binds K dcellU ["_law_script", "_law_k"] []) (kcellU : PySem.W.keepIn K (.ref fcellU) = true) (mcellU : mg "_law_cell" = some (.ref fcellU)) : FnOk P w K mg base CX0 2 f fd ["_law_script", "_law_things", "_law_drawn", "_law_start_here"] (spCr K) := by
  refine F.ok sc_cr (fun vs H Q E h => ?_) (fun cdv A outer s H vs Q E hr h => ?_)
  · obtain ⟨a, ns, N, n, st, rfl, _⟩ := h
    rfl
  obtain ⟨a, ns, N, n, st, rfl, hS, h63, st0, st1, n1, n10, nN, N30, q⟩ := h
  refine ⟨_, (pss_cons (ps_set (i := 4) sc_cr.nd rfl (Or.inr rfl) (pe_callB call_sortedI rfl T.sorted boot_sorted (pa_cons (pe_comp (ts := [("_law_script", 0), ("_law_things", 1), ("_law_start_here", 3)]) rfl ⟨rfl, sub3 rfl rfl rfl, rfl, rfl, rfl, rfl, by decide +kernel, rfl, rfl⟩ (pi_range1 rfl T.range (pa_cons (pe_op op_add (pv 2) pe_int) pa_nil)) (fun C s3 H3 fp => (pe_op op_mod (pe_call GcellU hr rfl mcellU kcellU bcellU .nil pass0 (pa_cons (pv 1) (pa_cons (pe_op op_add (pv 3) (pv 0)) pa_nil))) (pe_op op_add (pv 2) pe_int)))) pa_nil)))
    (pss_cons (ps_set (i := 5) sc_cr.nd rfl (Or.inr rfl) (pe_ix ix_list (pe_lst (pa_cons pe_int (pa_cons pe_int (pa_cons (pe_op op_add (pv 1) pe_int) pa_nil)))) (pe_op op_mod (pe_call GcellU hr rfl mcellU kcellU bcellU .nil pass0 (pa_cons (pv 0) (pa_cons (pe_op op_add (pv 3) pe_int) pa_nil))) pe_int) (fun _ _ => rfl)))
    (pss_cons (ps_set (i := 6) sc_cr.nd rfl (Or.inr rfl) (pe_callB call_sortedI rfl T.sorted boot_sorted (pa_cons (pe_comp (ts := [("_law_things", 1), ("_law_lows", 4), ("_law_wide", 5), ("_law_script", 0), ("_law_start_here", 3)]) rfl ⟨rfl, sub5 rfl rfl rfl rfl rfl, rfl, rfl, rfl, rfl, by decide +kernel, rfl, rfl⟩ (pi_range1 rfl T.range (pa_cons (pe_op op_add (pv 2) pe_int) pa_nil)) (fun C s3 H3 fp => (pe_callB (call_min2 rfl) rfl T.min boot_min (pa_cons (pv 1) (pa_cons (pe_op op_add (pe_ix ix_listC (pv 2) (pv 0) (fun _ _ => rfl)) (pe_op op_mod (pe_call GcellU hr rfl mcellU kcellU bcellU .nil pass0 (pa_cons (pv 4) (pa_cons (pe_op op_add (pe_op op_add (pv 5) pe_int) (pv 0)) pa_nil))) (pv 3))) pa_nil))))) pa_nil)))
    (pss_cons (ps_if (pt_cmpR op_eq (pe_op op_mod (pe_call GcellU hr rfl mcellU kcellU bcellU .nil pass0 (pa_cons (pv 0) (pa_cons (pe_op op_add (pv 3) pe_int) pa_nil))) pe_int) pe_int (nomark _)) (pss_cons (ps_set (i := 4) sc_cr.nd rfl (Or.inr rfl) (pe_comp (ts := [("_law_drawn", 2), ("_law_things", 1)]) rfl ⟨rfl, sub2 rfl rfl, rfl, rfl, rfl, rfl, by decide +kernel, rfl, rfl⟩ (pi_range1 rfl T.range (pa_cons (pe_op op_add (pv 2) pe_int) pa_nil)) (fun C s3 H3 fp => (pe_callB (call_max2 rfl) rfl T.max boot_max (pa_cons pe_int (pa_cons (pe_op op_sub (pe_op op_sub (pe_op op_fdiv (pe_op op_mul (pv 0) (pv 2)) (pv 1)) (pe_op op_fdiv (pv 2) pe_int)) pe_int) pa_nil))))))
      (pss_one (ps_set (i := 6) sc_cr.nd rfl (Or.inr rfl) (pe_comp (ts := [("_law_things", 1), ("_law_drawn", 2)]) rfl ⟨rfl, sub2 rfl rfl, rfl, rfl, rfl, rfl, by decide +kernel, rfl, rfl⟩ (pi_range1 rfl T.range (pa_cons (pe_op op_add (pv 2) pe_int) pa_nil)) (fun C s3 H3 fp => (pe_callB (call_min2 rfl) rfl T.min boot_min (pa_cons (pv 1) (pa_cons (pe_op op_add (pe_op op_add (pe_op op_fdiv (pe_op op_mul (pv 0) (pv 1)) (pv 2)) (pe_op op_fdiv (pv 1) pe_int)) pe_int) pa_nil)))))))) pss_nil)
    (pss_one (ps_ret (pe_tup (pa_cons (pv 1) (pa_cons (pv 2) (pa_cons (pe_callTy call_tuple_of rfl T.tuple boot_tuple (pa_cons (pe_comp (ts := [("_law_lows", 4), ("_law_highs", 6)]) rfl ⟨rfl, sub2 rfl rfl, rfl, rfl, rfl, rfl, by decide +kernel, rfl, rfl⟩ (pi_range1 rfl T.range (pa_cons (pe_op op_add (pv 2) pe_int) pa_nil)) (fun C s3 H3 fp => (pe_tup (pa_cons (pe_ix ix_listC (pv 1) (pv 0) (fun _ _ => rfl)) (pa_cons (pe_ix ix_listC (pv 2) (pv 0) (fun _ _ => rfl)) pa_nil))))) pa_nil)) pa_nil)))))))))), ?_⟩
  have en : ((n : Int) + 1).toNat = n + 1 := by omega
  have Np : (0 : Int) < (N : Int) + 1 := by omega
  have sl : n + 1 ≤ sizeLine := Nat.le_of_lt (lt40 (by omega))
  refine ⟨_, rfl, _, _, rfl, rfl, _, rfl, by omega, by omega, fun D1 hD1 => ?_⟩
  rw [en]
  refine comp_rangeR (IntsR N) hD1 sl ⟨[], rfl, rfl, fun x hx => by cases hx⟩ ?_ ?_
  · rintro i ys H2 k hi sm e r hk
    refine ⟨_, rfl, _, rfl, _, rfl, _, _, rfl, rfl, a, ns, _, rfl, sm.seq hS, h63, by omega, by omega, fun v v0 v1 => ?_⟩
    refine ⟨_, rfl, _, _, rfl, rfl, _, _, rfl, rfl, Np, hk _ _ (Same.refl H2) (r.snoc (md0 _ Np) (by have := md1 v Np; omega))⟩
  rintro ys H2 s2 hD2 hl2 ⟨xs, rfl, lx, bx⟩
  refine ⟨D1, xs, rfl, SqL.of hD2, by omega, fun L1 ls hL1 pl ul => ?_⟩
  have s3 := same_new hL1 (.lst (ls.map V.int))
  have eL1 : (upd H2 L1 (.lst (ls.map V.int))) L1 = some (.lst (ls.map V.int)) := upd_same
  generalize hH3 : upd H2 L1 (.lst (ls.map V.int)) = H3 at *
  have s13 := s2.trans s3
  have lls : ls.length = n + 1 := by rw [pl.length_eq, lx]
  have bls : ∀ x ∈ ls, 0 ≤ x ∧ x ≤ (N : Int) := fun x hx => bx x (pl.mem_iff.mp hx)
  refine ⟨_, rfl, _, _, rfl, rfl, (by show 3 ≤ sizeLine; decide), fun p1 h1 => ?_⟩
  dsimp only
  have s4 := same_new h1 (.lst [V.int 1, V.int 3, V.int ((N : Int) + 1)])
  have s14 := s13.trans s4
  refine ⟨_, rfl, _, rfl, _, _, rfl, rfl, a, ns, _, rfl, s14.seq hS, h63, by omega, by omega, fun v v0 v1 => ?_⟩
  have k0 := md0 v (show (0 : Int) < 3 by decide)
  have k1 := md1 v (show (0 : Int) < 3 by decide)
  refine ⟨_, _, rfl, rfl, (by show (0 : Int) < 3; decide), p1, _, _, _, rfl, rfl, SqL.of upd_same, at_getD (ns := [1, 3, (N : Int) + 1]) k0 k1, ?_⟩
  have hm : ([1, 3, (N : Int) + 1] : List Int).getD (v % 3).toNat 0 ∈ ([1, 3, (N : Int) + 1] : List Int) := getD_mem (by show (v % 3).toNat < 3; omega)
  have hw : 0 < ([1, 3, (N : Int) + 1] : List Int).getD (v % 3).toNat 0 := by
    generalize ([1, 3, (N : Int) + 1] : List Int).getD (v % 3).toNat 0 = m at *
    simp only [List.mem_cons, List.not_mem_nil, or_false] at hm
    omega
  generalize ([1, 3, (N : Int) + 1] : List Int).getD (v % 3).toNat 0 = wd at *
  have eL4 := s4 _ _ eL1
  generalize hH4 : upd H3 p1 (.lst [V.int 1, V.int 3, V.int ((N : Int) + 1)]) = H4 at *
  refine ⟨_, rfl, _, _, rfl, rfl, _, rfl, by omega, by omega, fun D2 hD2' => ?_⟩
  rw [en]
  refine comp_rangeR (fun i ys _ => ∃ ms : List Int, ys = ms.map V.int ∧ ms.length = i ∧ (∀ x ∈ ms, 0 ≤ x ∧ x ≤ (N : Int)) ∧ ∀ (j : Nat) (x y : Int), ls[j]? = some x → ms[j]? = some y → x ≤ y) hD2' sl ⟨[], rfl, rfl, (fun x hx => by cases hx), fun j x y _ hy => by cases hy⟩ ?_ ?_
  · rintro i ys H5 k hi sm e ⟨ms, rfl, lm, bm, gm⟩ hk
    rw [show (0 : Int) + (i : Int) = (i : Int) from Int.zero_add _]
    have ei := List.getElem?_eq_getElem (show i < ls.length by omega)
    have bi := bls _ (List.mem_of_getElem? ei)
    have gi : ls.getD ((i : Int)).toNat 0 = ls[i] := getD_at ei
    refine ⟨_, rfl, _, rfl, _, rfl, L1, _, (i : Int), _, rfl, rfl, SqL.of (sm _ _ eL4), at_getD (by omega) (by omega), ?_⟩
    rw [gi]
    refine ⟨_, rfl, _, rfl, _, _, rfl, rfl, _, rfl, _, _, rfl, rfl, a, ns, _, rfl, sm.seq (s14.seq hS), h63, by omega, by omega, fun v' v0' v1' => ?_⟩
    have g0 := md0 v' hw
    refine ⟨_, rfl, _, _, rfl, rfl, hw, _, _, rfl, rfl, _, _, rfl, hk _ _ (Same.refl H5) ⟨ms ++ [_], by rw [List.map_append]; rfl, by simp [lm], ?_, ?_⟩⟩
    · intro z hz
      rcases List.mem_append.mp hz with q' | q'
      · exact bm z q'
      · rw [List.mem_singleton.mp q']
        split <;> omega
    · intro j x y hx hy
      by_cases c : j < ms.length
      · rw [List.getElem?_append_left c] at hy
        exact gm j x y hx hy
      · have ej : j = i := by
          have := (List.getElem?_eq_some_iff.mp hy).1
          simp at this
          omega
        subst ej
        rw [List.getElem?_append_right (show ms.length ≤ j by omega)] at hy
        have e0 : j - ms.length = 0 := by omega
        rw [e0] at hy
        have hy' := (Option.some.inj hy)
        rw [ei] at hx
        cases hx
        rw [← hy']
        split <;> omega
  rintro ys H5 s5 hD5 hl5 ⟨ms, rfl, lm, bm, gm⟩
  refine ⟨D2, ms, rfl, SqL.of hD5, by omega, fun L2 hs hL2 ph uh => ?_⟩
  have s6 := same_new hL2 (.lst (hs.map V.int))
  have eL2 : (upd H5 L2 (.lst (hs.map V.int))) L2 = some (.lst (hs.map V.int)) := upd_same
  have eL1' := s6 _ _ (s5 _ _ eL4)
  generalize hH6 : upd H5 L2 (.lst (hs.map V.int)) = H6 at *
  have s16 := (s14.trans s5).trans s6
  have lh : LH N n ls hs := ⟨lls, by rw [ph.length_eq, lm], bls, fun x hx => bm x (ph.mem_iff.mp hx), ul, uh, sort_ge ul (by rw [lls, lm]) gm ph uh⟩
  dsimp only
  refine seq_by (fun σ H' => Same H H' ∧ ∃ (l1 l2 : Addr) (ls hs : List Int), σ = [some (.ref a), some (.int N), some (.int n), some (.int st), some (.ref l1), some (.int wd), some (.ref l2)] ∧ H' l1 = some (.lst (ls.map V.int)) ∧ H' l2 = some (.lst (hs.map V.int)) ∧ LH N n ls hs) ?_ ?_
  · intro M hM
    refine ⟨_, rfl, _, rfl, _, _, rfl, rfl, a, ns, _, rfl, s16.seq hS, h63, by omega, by omega, fun v' v0' v1' => ?_⟩
    refine ⟨_, _, rfl, rfl, (by show (0 : Int) < 4; decide), rfl, _, rfl, ?_⟩
    refine ite2 (fun c => ?_) (fun c => ?_)
    · refine ⟨_, rfl, _, _, rfl, rfl, _, rfl, by omega, by omega, fun D3 hD3 => ?_⟩
      rw [en]
      refine comp_range (fun k => V.int (lowF N n k)) hD3 sl ?_ ?_
      · intro k H7 kk hk sm hkk
        rw [show (0 : Int) + (k : Int) = (k : Int) from Int.zero_add _]
        refine ⟨_, rfl, _, rfl, _, _, rfl, rfl, .inl ⟨by omega, by omega⟩, _, rfl, _, _, rfl, rfl, ⟨by show (0 : Int) < (n : Int); omega, by show (n : Int) < 1073741824; omega⟩, _, rfl, _, _, rfl, rfl, ⟨by decide, by decide⟩, _, _, rfl, rfl, _, _, rfl, rfl, _, _, rfl, hkk H7 (Same.refl H7)⟩
      intro H7 s7 hD7
      refine ⟨_, rfl, _, _, rfl, rfl, _, rfl, by omega, by omega, fun D4 hD4 => ?_⟩
      rw [en]
      refine comp_range (fun k => V.int (highF N n k)) hD4 sl ?_ ?_
      · intro k H8 kk hk sm hkk
        rw [show (0 : Int) + (k : Int) = (k : Int) from Int.zero_add _]
        refine ⟨_, rfl, _, rfl, _, rfl, _, _, rfl, rfl, .inl ⟨by omega, by omega⟩, _, rfl, _, _, rfl, rfl, ⟨by show (0 : Int) < (n : Int); omega, by show (n : Int) < 1073741824; omega⟩, _, rfl, _, _, rfl, rfl, ⟨by decide, by decide⟩, _, _, rfl, rfl, _, _, rfl, rfl, _, _, rfl, hkk H8 (Same.refl H8)⟩
      intro H8 s8 hD8
      exact hM _ _ ⟨(s16.trans s7).trans s8, D3, D4, _, _, rfl, by rw [s8 _ _ hD7, List.map_map]; rfl, by rw [hD8, List.map_map]; rfl, lh_far n1⟩
    · exact hM _ _ ⟨s16, L1, L2, ls, hs, rfl, eL1', eL2, lh⟩
  rintro σ H7 ⟨s7, l1, l2, ls', hs', rfl, e1, e2, lh'⟩
  refine ⟨_, rfl, _, rfl, _, rfl, _, _, rfl, rfl, _, rfl, by omega, by omega, fun D5 hD5' => ?_⟩
  rw [en]
  have crp := lh'.cr n1 n10 nN N30
  have lp := crp.len
  refine comp_rangeR (fun i ys H' => RowN H' ((pairsOf' ls' hs').take i) ys) hD5' sl rfl ?_ ?_
  · rintro i ys H8 k hi sm e r hk
    rw [show (0 : Int) + (i : Int) = (i : Int) from Int.zero_add _]
    have el := List.getElem?_eq_getElem (show i < ls'.length by rw [lh'.l1]; exact hi)
    have eh := List.getElem?_eq_getElem (show i < hs'.length by rw [lh'.l2]; exact hi)
    have ep := List.getElem?_eq_getElem (show i < (pairsOf' ls' hs').length by omega)
    obtain ⟨x, z, f1, f2, f3⟩ := pairs_at ep
    have x0 := lh'.b1 x (List.mem_of_getElem? f1)
    have z0 := lh'.b2 z (List.mem_of_getElem? f2)
    refine ⟨_, rfl, _, rfl, l1, _, (i : Int), _, rfl, rfl, SqL.of (sm _ _ e1), at_getD (by omega) (by rw [lh'.l1]; omega), _, rfl, _, rfl, l2, _, (i : Int), _, rfl, rfl, SqL.of (sm _ _ e2), at_getD (by omega) (by rw [lh'.l2]; omega), (by show 2 ≤ sizeLine; decide), fun p hp => ?_⟩
    rw [show ls'.getD ((i : Int)).toNat 0 = x from getD_at f1, show hs'.getD ((i : Int)).toNat 0 = z from getD_at f2]
    have sp := same_new hp (.tup [V.int x, V.int z])
    refine hk _ _ sp ?_
    rw [List.take_add_one, ep, f3]
    refine ((r.keep sp).app (show RowN _ [_] [.ref p] from ⟨p, [], rfl, ?_, rfl⟩)).write (sp _ _ e)
    rw [show (((x.toNat, z.toNat) : Nat × Nat).1 : Int) = x by show ((x.toNat : Nat) : Int) = x; omega, show (((x.toNat, z.toNat) : Nat × Nat).2 : Int) = z by show ((z.toNat : Nat) : Int) = z; omega]
    exact upd_same
  rintro ys H8 s8 hD8 hl8 r
  rw [List.take_of_length_le (by omega)] at r
  refine ⟨D5, ys, rfl, .inl ⟨SqL.of hD8, fun t ht => ?_⟩⟩
  have s9 := same_new ht (.tup ys)
  have t9 : (upd H8 t (.tup ys)) t = some (.tup ys) := upd_same
  refine ⟨(by show 3 ≤ sizeLine; decide), fun x hx => ?_⟩
  have s10 := same_new hx (.tup [V.int N, V.int n, V.ref t])
  exact q x _ _ (((s7.trans s8).trans s9).trans s10) ⟨⟨t, ys, upd_same, s10 _ _ t9, (r.keep s9).keep s10⟩, crp⟩
theorem set_cut {ws : List V} {k : Nat} {x : V} (h : k < ws.length) : ws.take k ++ [x] ++ ws.drop (k + 1) = ws.set k x := by
  rw [List.set_eq_take_append_cons_drop, if_pos h]
  simp
theorem cutV_up {ws : List V} {k : Nat} (h : k ≤ ws.length) : cutV ws none (some (k : Int)) = ws.take k := by
  unfold cutV
  rw [HT.sIx_nat, HT.sIx_none, Nat.min_eq_left h]
  rfl
theorem cutV_from {ws : List V} {k : Nat} (h : k ≤ ws.length) : cutV ws (some (k : Int)) none = ws.drop k := by
  unfold cutV
  rw [HT.sIx_nat, HT.sIx_none, Nat.min_eq_left h, List.take_of_length_le (by simp)]
noncomputable def spWe : Sp := fun vs H Q _ => ∃ (t b : Addr) (v la ha : V) (ws : List V) (k : Nat) (e : Str), vs = [.ref t, .int k, .str e, v] ∧ H t = some (.tup ws) ∧ ws.length ≤ 30 ∧ ws[k]? = some (.ref b) ∧ H b = some (.tup [la, ha]) ∧
  ∀ p c H', Same H H' → H' p = some (.tup (ws.set k (.ref c))) → H' c = some (.tup (if e = "low" then [v, ha] else [la, v])) → Q (.ref p) H'
theorem sc_we : FnScope ["stretches", "k", "end", "value", "stretch", "changed"] ["stretches", "k", "end", "value"] (defScope s_we) := ⟨rfl, rfl, rfl, by decide +kernel, rfl, by decide +kernel, by decide +kernel⟩
theorem ok_we {f : Addr} {fd : FuncData} (F : Fun K "with_end" "with_end" s_we f fd) (T : Txt mg) : FnOk P w K mg base CX0 1 f fd ["stretches", "k", "end", "value"] spWe := by
  refine F.ok sc_we (fun vs H Q E h => ?_) (fun cdv A outer s H vs Q E hr h => ?_)
  · obtain ⟨t, b, v, la, ha, ws, k, e, rfl, _⟩ := h
    rfl
  obtain ⟨t, b, v, la, ha, ws, k, e, rfl, ht, h30, hk, hb, q⟩ := h
  refine ⟨_, (pss_cons (ps_set (i := 4) sc_we.nd rfl (Or.inl rfl) (pe_ix ix_tup (pv 0) (pv 1) (fun _ _ => rfl)))
    (pss_cons (ps_set (i := 5) sc_we.nd rfl (Or.inl rfl) (pe_ifExp (pt_cmpR op_eq (pv 2) pe_str (nomark _)) (pe_tup (pa_cons (pv 3) (pa_cons (pe_ix ix_tup (pv 4) pe_int (fun _ _ => rfl)) pa_nil))) (pe_tup (pa_cons (pe_ix ix_tup (pv 4) pe_int (fun _ _ => rfl)) (pa_cons (pv 3) pa_nil)))))
    (pss_one (ps_ret (pe_op op_catU (pe_op op_catU (pe_slice sl_tup (pv 0) po_none (po_some (pv 1))) (pe_tup (pa_cons (pv 5) pa_nil))) (pe_slice sl_tup (pv 0) (po_some (pe_op op_add (pv 1) pe_int)) po_none)))))), ?_⟩
  have hkl := (List.getElem?_eq_some_iff.mp hk).1
  have one : 1 ≤ sizeLine := by decide
  have two : 2 ≤ sizeLine := by decide
  have sz : ∀ {m : Nat}, m ≤ 40 → m ≤ sizeLine := fun h => Nat.le_of_lt (lt40 h)
  have c1 : ¬ (HT.sIx ws.length 0 none = 0 ∧ HT.sIx ws.length ws.length (some (k : Int)) = ws.length) := by rw [HT.sIx_nat]; omega
  have c2 : ¬ (HT.sIx ws.length 0 (some ((k : Int) + 1)) = 0 ∧ HT.sIx ws.length ws.length none = ws.length) := by
    rw [show ((k : Int) + 1) = ((k + 1 : Nat) : Int) from rfl, HT.sIx_nat]
    omega
  have e1 := cutV_up (ws := ws) (k := k) (by omega)
  have e2 : cutV ws (some ((k : Int) + 1)) none = ws.drop (k + 1) := cutV_from (ws := ws) (k := k + 1) (by omega)
  have es := fun x => set_cut (x := x) hkl
  refine ⟨_, rfl, _, rfl, t, ws, k, _, rfl, rfl, SqT.of ht, atI_nat hk, ?_⟩
  dsimp only
  refine seq_by (fun σ G => Same H G ∧ ∃ c, σ = [some (.ref t), some (.int k), some (.str e), some v, some (.ref b), some (.ref c)] ∧ G c = some (.tup (if e = "low" then [v, ha] else [la, v]))) ?_ ?_
  · intro M hM
    refine ⟨_, rfl, rfl, _, rfl, ?_⟩
    refine ite2 (fun d => ?_) (fun d => ?_)
    · have d' : V.str e = V.str "low" := of_decide_eq_true d
      have d2 : e = "low" := by injection d'
      refine ⟨_, rfl, _, rfl, b, _, 1, _, rfl, rfl, SqT.of hb, at1, two, fun c hc => hM _ _ ⟨same_new hc _, c, rfl, ?_⟩⟩
      rw [upd_same, if_pos d2]
    · have d2 : ¬ e = "low" := fun z => d (decide_eq_true (congrArg V.str z))
      refine ⟨_, rfl, b, _, 0, _, rfl, rfl, SqT.of hb, at0, _, rfl, two, fun c hc => hM _ _ ⟨same_new hc _, c, rfl, ?_⟩⟩
      rw [upd_same, if_neg d2]
  rintro σ G ⟨sG, c, rfl, hc⟩
  have htG := sG _ _ ht
  refine ⟨_, rfl, _, rfl, _, rfl, t, ws, rfl, SqT.of htG, c1, fun p1 h1 => ?_⟩
  rw [e1]
  have w1 := same_new h1 (.tup (ws.take k))
  have x1 : upd G p1 (.tup (ws.take k)) p1 = some (.tup (ws.take k)) := upd_same
  generalize upd G p1 (.tup (ws.take k)) = G1 at *
  refine ⟨_, rfl, one, fun p2 h2 => ?_⟩
  have w2 := same_new h2 (.tup [V.ref c])
  have x2 : upd G1 p2 (.tup [V.ref c]) p2 = some (.tup [V.ref c]) := upd_same
  generalize upd G1 p2 (.tup [V.ref c]) = G2 at *
  have hne : k ≠ 0 → ws.take k ≠ [] := fun z1 z => by
    have z2 : (ws.take k).length = 0 := by rw [z]; rfl
    rw [List.length_take] at z2
    omega
  by_cases hk0 : k = 0
  · refine .inl ⟨p1, p2, _, rfl, rfl, SqT.of (by rw [w2 _ _ x1, hk0]; rfl), SqT.of x2, ?_⟩
    refine ⟨_, rfl, _, rfl, _, _, rfl, rfl, _, rfl, t, ws, rfl, SqT.of ((w1.trans w2) _ _ htG), c2, fun p4 h4 => ?_⟩
    rw [e2]
    have w4 := same_new h4 (.tup (ws.drop (k + 1)))
    have x4 : upd G2 p4 (.tup (ws.drop (k + 1))) p4 = some (.tup (ws.drop (k + 1))) := upd_same
    generalize upd G2 p4 (.tup (ws.drop (k + 1))) = G4 at *
    have x4' := w4 _ _ x2
    refine .inr ⟨p2, p4, [V.ref c], ws.drop (k + 1), rfl, rfl, SqT.of x4', SqT.of x4, by simp, sz (by simp; omega), fun z => ?_, fun z p5 h5 => ?_⟩
    · refine q p2 c _ ((sG.trans (w1.trans w2)).trans w4) ?_ (((w1.trans w2).trans w4) _ _ hc)
      rw [x4', ← es, z] <;> simp [hk0]
    · have w5 := same_new h5 (.tup ([V.ref c] ++ ws.drop (k + 1)))
      refine q p5 c _ (((sG.trans (w1.trans w2)).trans w4).trans w5) ?_ ((((w1.trans w2).trans w4).trans w5) _ _ hc)
      rw [upd_same, ← es] <;> simp [hk0]
  · refine .inr ⟨p1, p2, _, _, rfl, rfl, SqT.of (w2 _ _ x1), SqT.of x2, (hne hk0), sz (by simp; omega), fun z => absurd z (by simp), fun _ p3 h3 => ?_⟩
    have w3 := same_new h3 (.tup (ws.take k ++ [V.ref c]))
    have x3 : upd G2 p3 (.tup (ws.take k ++ [V.ref c])) p3 = some (.tup (ws.take k ++ [V.ref c])) := upd_same
    generalize upd G2 p3 (.tup (ws.take k ++ [V.ref c])) = G3 at *
    refine ⟨_, rfl, _, rfl, _, _, rfl, rfl, _, rfl, t, ws, rfl, SqT.of (((w1.trans w2).trans w3) _ _ htG), c2, fun p4 h4 => ?_⟩
    rw [e2]
    have w4 := same_new h4 (.tup (ws.drop (k + 1)))
    have x4 : upd G3 p4 (.tup (ws.drop (k + 1))) p4 = some (.tup (ws.drop (k + 1))) := upd_same
    generalize upd G3 p4 (.tup (ws.drop (k + 1))) = G4 at *
    have x4' := w4 _ _ x3
    refine .inr ⟨p3, p4, (ws.take k ++ [V.ref c]), ws.drop (k + 1), rfl, rfl, SqT.of x4', SqT.of x4, by simp, sz (by simp; omega), fun z => ?_, fun z p5 h5 => ?_⟩
    · refine q p3 c _ ((sG.trans ((w1.trans w2).trans w3)).trans w4) ?_ ((((w1.trans w2).trans w3).trans w4) _ _ hc)
      rw [x4', ← es, z] <;> simp
    · have w5 := same_new h5 (.tup ((ws.take k ++ [V.ref c]) ++ ws.drop (k + 1)))
      refine q p5 c _ (((sG.trans ((w1.trans w2).trans w3)).trans w4).trans w5) ?_ (((((w1.trans w2).trans w3).trans w4).trans w5) _ _ hc)
      rw [upd_same, ← es] <;> simp
theorem ix_tupY {X : Cx} {xe : Value → Shared → Prop} {pn : List (Addr × Obj)} : IxR (X.tried xe pn) (rIxT X.K) := ix_tup
structure ShAt (H : Hp) (a : Addr) (s0 s1 : Nat) : Prop where
  ob : H a = some (.tup [.int s0, .int s1])
  h0 : 1 ≤ s0
  h1 : s0 ≤ s1
  h2 : s1 ≤ 1000000000000000000000000000000
  cop : Nat.gcd s0 s1 = 1
theorem ShAt.keep {H H' : Hp} {a : Addr} {s0 s1 : Nat} (h : ShAt H a s0 s1) (s : Same H H') : ShAt H' a s0 s1 := ⟨s _ _ h.ob, h.h0, h.h1, h.h2, h.cop⟩
theorem ShAt.fr {H : Hp} {a : Addr} {s0 s1 : Nat} (h : ShAt H a s0 s1) : FrA H a (rq (s0 : Int) (s1 : Int)) := by
  have h0 := h.h0
  have h1 := h.h1
  have h2 := h.h2
  obtain ⟨e1, e2⟩ := rq_back (t := (s0 : Int)) (b := (s1 : Int)) (by omega) (by unfold Int.gcd; exact h.cop)
  have z : ∀ i : Int, 0 ≤ i → i ≤ 1000000000000000000000000000000 → Sz 4400 i := fun i i0 i1 => by
    have : Sz 100 i := Nat.lt_of_le_of_lt (show i.natAbs ≤ 1000000000000000000000000000000 by omega) (by decide +kernel)
    exact this.mono (by decide)
  exact ⟨by rw [e1, e2]; exact h.ob, by rw [e1]; exact z _ (by omega) (by omega), by rw [e2]; exact z _ (by omega) (by omega)⟩
noncomputable def eS (lo : Bool) : Str := if lo = true then "low" else "high"
noncomputable def nxP (lo : Bool) (p : Nat × Nat) : Nat × Nat := if lo = true then (p.1 + 1, p.2) else (p.1, p.2 - 1)
noncomputable def lostP (lo : Bool) (p : Nat × Nat) : Nat := if lo = true then p.1 else p.2
noncomputable def ShrC (N n s0 s1 : Nat) (ps : List (Nat × Nat)) (k : Nat) (lo : Bool) : Prop := (lo = false → 1 ≤ (ps.getD k (0, 0)).2) ∧ IsCR N n (ps.set k (nxP lo (ps.getD k (0, 0)))) ∧ s0 * binom N n ≤ s1 * cwy N n (ps.set k (nxP lo (ps.getD k (0, 0)))) (lostP lo (ps.getD k (0, 0)))
open Classical in
noncomputable def shr (N n s0 s1 : Nat) (ps : List (Nat × Nat)) (k : Nat) (lo : Bool) : Option (List (Nat × Nat)) := if ShrC N n s0 s1 ps k lo then some (ps.set k (nxP lo (ps.getD k (0, 0)))) else none
theorem shr_yes {N n s0 s1 : Nat} {ps : List (Nat × Nat)} {k : Nat} {lo : Bool} (h : ShrC N n s0 s1 ps k lo) : shr N n s0 s1 ps k lo = some (ps.set k (nxP lo (ps.getD k (0, 0)))) := if_pos h
theorem shr_no {N n s0 s1 : Nat} {ps : List (Nat × Nat)} {k : Nat} {lo : Bool} (h : ¬ ShrC N n s0 s1 ps k lo) : shr N n s0 s1 ps k lo = none := if_neg h
theorem rown_set {H : Hp} : ∀ {ps : List (Nat × Nat)} {xs : List V} {k : Nat} {p : Nat × Nat} {c : Addr}, RowN H ps xs → H c = some (.tup [.int p.1, .int p.2]) → RowN H (ps.set k p) (xs.set k (.ref c))
  | [], xs, k, p, c, h, _ => by rw [show xs = [] from h]; simp [RowN]
  | q :: ps, xs, 0, p, c, ⟨a, ys, e, h1, h2⟩, hc => by rw [e]; exact ⟨c, ys, rfl, hc, h2⟩
  | q :: ps, xs, k + 1, p, c, ⟨a, ys, e, h1, h2⟩, hc => by rw [e]; exact ⟨a, ys.set k (.ref c), rfl, h1, rown_set h2 hc⟩
noncomputable def zP (p : Nat × Nat) : Int × Int := ((p.1 : Int), (p.2 : Int))
noncomputable def mvI (lo : Bool) (p : Nat × Nat) : Int × Int := if lo = true then ((p.1 : Int) + 1, (p.2 : Int)) else ((p.1 : Int), (p.2 : Int) - 1)
theorem map_pr2 (l : List (Int × Int)) : (l.map ppT).map pr2 = l.map some := by
  rw [List.map_map]
  exact List.map_congr_left fun p _ => rfl
theorem nn_pp (ps : List (Nat × Nat)) : ps.map nnT = (ps.map zP).map ppT := by rw [List.map_map] <;> rfl
theorem dens_set {H : Hp} : ∀ {ts : List Th} {xs : List V} {k : Nat} {t : Th} {v : V}, Dens H ts xs → Den H t v → Dens H (ts.set k t) (xs.set k v)
  | [], xs, k, t, v, h, d => by rw [show xs = [] from h]; simp [Dens]
  | u :: us, xs, 0, t, v, ⟨y, ys, e, d1, d2⟩, d => by rw [e]; exact ⟨v, ys, rfl, d, d2⟩
  | u :: us, xs, k + 1, t, v, ⟨y, ys, e, d1, d2⟩, d => by rw [e]; exact ⟨y, ys.set k v, rfl, d1, dens_set d2 d⟩
theorem good_iff {N n : Nat} {ps : List (Nat × Nat)} (ok : IsCR N n ps) {k : Nat} (hk : k ≤ n) {lo : Bool} {N' n' : Int} {qs : List (Int × Int)} :
    GoodR (.int (N : Int)) (.int (n : Int)) (.tup (((ps.map zP).set k (mvI lo (ps.getD k (0, 0)))).map ppT)) N' n' qs ↔
      (N' = N ∧ n' = n ∧ qs = ((ps.set k (nxP lo (ps.getD k (0, 0)))).map zP) ∧ (lo = false → 1 ≤ (ps.getD k (0, 0)).2) ∧ IsCR N n (ps.set k (nxP lo (ps.getD k (0, 0))))) := by
  have hl := ok.len
  generalize ps.getD k (0, 0) = p
  have key : (lo = false → 1 ≤ p.2) → (ps.set k (nxP lo p)).map zP = (ps.map zP).set k (mvI lo p) := fun h => by
    rw [List.map_set]
    congr 1
    unfold nxP mvI zP
    cases lo with
    | true => rw [if_pos rfl, if_pos rfl]; exact Prod.ext (by show ((p.1 + 1 : Nat) : Int) = _; omega) rfl
    | false => rw [if_neg Bool.false_ne_true, if_neg Bool.false_ne_true]; have := h rfl; exact Prod.ext rfl (by show ((p.2 - 1 : Nat) : Int) = _; omega)
  constructor
  · intro g
    obtain ⟨ts, e1, e2⟩ := g.seq
    cases e1
    rw [map_pr2] at e2
    have eq : (ps.map zP).set k (mvI lo p) = qs := some_inj e2
    have eN : N' = (N : Int) := by have := g.a; cases this; rfl
    have en : n' = (n : Int) := by have := g.b; cases this; rfl
    have hin := g.inn
    have hris := g.ris
    rw [eN] at hin
    rw [← eq] at hin hris
    have at_k : ((ps.map zP).set k (mvI lo p))[k]? = some (mvI lo p) := by rw [List.getElem?_set_self (by simp; omega)]
    have h1 : lo = false → 1 ≤ p.2 := fun h => by
      have := hin _ (List.mem_of_getElem? at_k)
      unfold InN mvI at this
      rw [h, if_neg Bool.false_ne_true] at this
      omega
    have kk := key h1
    rw [← kk] at hin hris
    refine ⟨eN, en, by rw [← eq, kk], h1, ok.n1, ok.n10, ok.nN, ok.N30, by rw [List.length_set]; exact hl, fun q hq => ?_, fun i a b ha hb => ?_, fun i a b ha hb => ?_⟩
    · have := hin (zP q) (List.mem_map.mpr ⟨q, hq, rfl⟩)
      unfold InN zP at this
      omega
    · have := hris i (zP a) (zP b) (by rw [List.getElem?_map, ha]; rfl) (by rw [List.getElem?_map, hb]; rfl)
      unfold zP at this
      omega
    · have := hris i (zP a) (zP b) (by rw [List.getElem?_map, ha]; rfl) (by rw [List.getElem?_map, hb]; rfl)
      unfold zP at this
      omega
  · rintro ⟨rfl, rfl, rfl, h1, c⟩
    have n1 := c.n1
    have n10 := c.n10
    have nN := c.nN
    have N30 := c.N30
    refine ⟨rfl, rfl, ⟨_, rfl, ?_⟩, by omega, by omega, by omega, by omega, by omega, by rw [List.length_map, c.len]; omega, fun q hq => ?_, fun i a b ha hb => ?_⟩
    · rw [map_pr2, key h1]
    · obtain ⟨q', hq', rfl⟩ := List.mem_map.mp hq
      have := c.le q' hq'
      unfold InN zP
      omega
    · rw [List.getElem?_map] at ha hb
      cases ea : (ps.set k (nxP lo p))[i]? with
      | none => rw [ea] at ha; cases ha
      | some a' =>
        cases eb : (ps.set k (nxP lo p))[i + 1]? with
        | none => rw [eb] at hb; cases hb
        | some b' =>
          rw [ea] at ha
          rw [eb] at hb
          cases ha
          cases hb
          have u := c.lows i a' b' ea eb
          have v := c.highs i a' b' ea eb
          unfold zP
          exact ⟨by show (a'.1 : Int) ≤ (b'.1 : Int); omega, by show (a'.2 : Int) ≤ (b'.2 : Int); omega⟩
theorem dens_rown {H : Hp} : ∀ {ps : List (Nat × Nat)} {xs : List V}, Dens H ((ps.map zP).map ppT) xs → RowN H ps xs
  | [], _, h => h
  | p :: ps, xs, ⟨y, ys, e, d1, d2⟩ => by
    obtain ⟨a, rfl, ha⟩ := den_pp d1
    exact ⟨a, ys, e, ha, dens_rown d2⟩
theorem cr_of_den {H : Hp} {p : Addr} {N n : Nat} {ps : List (Nat × Nat)} (ok : IsCR N n ps) (d : Den H (ruleT (N : Int) (n : Int) (ps.map zP)) (.ref p)) : CRAt H p N n ps := by
  obtain ⟨q, xs, e, hq, x1, r1, e1, d1, x2, r2, e2, d2, x3, r3, e3, d3, e4⟩ := d
  cases e
  have d1' : x1 = V.int N := d1
  have d2' : x2 = V.int n := d2
  have e4' : r3 = [] := e4
  subst e4' e3 e2 e1 d1' d2'
  obtain ⟨t, zs, e5, ht, dz⟩ := d3
  subst e5
  exact ⟨⟨t, zs, hq, ht, dens_rown dz⟩, ok⟩
noncomputable def spSws : Sp := fun vs H Q _ => ∃ (x a : Addr) (N n s0 s1 k : Nat) (ps : List (Nat × Nat)) (lo : Bool), vs = [.ref x, .int k, .str (eS lo), .ref a] ∧ CRAt H x N n ps ∧ k ≤ n ∧ ShAt H a s0 s1 ∧
  (∀ ps', shr N n s0 s1 ps k lo = some ps' → ∀ y H', Same H H' → CRAt H' y N n ps' → Q (.ref y) H') ∧ (shr N n s0 s1 ps k lo = none → ∀ H', Same H H' → Q .non H')
theorem eS_low (lo : Bool) : decide (V.str (eS lo) = V.str "low") = lo := by cases lo <;> decide
theorem rq_cmp {w B s0 s1 : Nat} (hB : 0 < B) (h1 : 0 < s1) : rq (w : Int) (B : Int) < rq (s0 : Int) (s1 : Int) ↔ ¬ s0 * B ≤ s1 * w := by
  rw [rq_lt2 (by omega) (by omega)]
  constructor
  · intro h z
    have : ((w * s1 : Nat) : Int) < ((s0 * B : Nat) : Int) := by push_cast; exact h
    have := Int.ofNat_lt.mp this
    rw [Nat.mul_comm s1 w] at z
    omega
  · intro h
    have : ((w * s1 : Nat) : Int) < ((s0 * B : Nat) : Int) := Int.ofNat_lt.mpr (by rw [Nat.mul_comm w s1]; omega)
    push_cast at this
    exact this
theorem sc_sws : FnScope ["rule", "k", "end", "share", "lost", "value", "shorter"] ["rule", "k", "end", "share"] (defScope s_sws) := ⟨rfl, rfl, rfl, by decide +kernel, rfl, by decide +kernel, by decide +kernel⟩
theorem ok_sws {C : CA} {f : Addr} {fd : FuncData} (F : Fun K "sure_when_shorter" "sure_when_shorter" s_sws f fd) (T : Txt mg) (cf : CF K mg C) {fcrule : Addr} {dcrule : FuncData} (Gcrule : FnOk P w K mg base (CXX P w) 6 fcrule dcrule ["N", "n", "stretches"] (spCRX C)) (bcrule : Binds K dcrule ["N", "n", "stretches"] []) (kcrule : PySem.W.keepIn K (.ref fcrule) = true) (mcrule : mg "count_rule" = some (.ref fcrule)) {fwe : Addr} {dwe : FuncData} (Gwe : FnOk P w K mg base CX0 6 fwe dwe ["stretches", "k", "end", "value"] spWe) (bwe : Binds K dwe ["stretches", "k", "end", "value"] []) (kwe : PySem.W.keepIn K (.ref fwe) = true) (mwe : mg "with_end" = some (.ref fwe)) {fucov : Addr} {ducov : FuncData} (Gucov : FnOk P w K mg base CX0 6 fucov ducov ["rule", "T"] spUcov) (bucov : Binds K ducov ["rule", "T"] []) (kucov : PySem.W.keepIn K (.ref fucov) = true) (mucov : mg "urn_cover" = some (.ref fucov)) {fund : Addr} {dund : FuncData} (Gund : FnOk P w K mg base CX0 6 fund dund ["one", "other"] spUnd) (bund : Binds K dund ["one", "other"] []) (kund : PySem.W.keepIn K (.ref fund) = true) (mund : mg "under" = some (.ref fund)) : FnOk P w K mg base CX0 7 f fd ["rule", "k", "end", "share"] spSws := by
  refine F.ok sc_sws (fun vs H Q E h => ?_) (fun cdv A outer s H vs Q E hr h => ?_)
  · obtain ⟨x, a, N, n, s0, s1, k, ps, lo, rfl, _⟩ := h
    rfl
  obtain ⟨x, a, N, n, s0, s1, k, ps, lo, rfl, hx, hk, sh, q1, q2⟩ := h
  refine ⟨_, (pss_cons (ps_set (i := 4) sc_sws.nd rfl (Or.inl rfl) (pe_ifExp (pt_cmpR op_eq (pv 2) pe_str (nomark _)) (pe_ix ix_tup (pe_ix ix_tup (pe_ix ix_tup (pv 0) pe_int (fun _ _ => rfl)) (pv 1) (fun _ _ => rfl)) pe_int (fun _ _ => rfl)) (pe_ix ix_tup (pe_ix ix_tup (pe_ix ix_tup (pv 0) pe_int (fun _ _ => rfl)) (pv 1) (fun _ _ => rfl)) pe_int (fun _ _ => rfl))))
    (pss_cons (ps_set (i := 5) sc_sws.nd rfl (Or.inl rfl) (pe_ifExp (pt_cmpR op_eq (pv 2) pe_str (nomark _)) (pe_op op_add (pv 4) pe_int) (pe_op op_sub (pv 4) pe_int)))
    (pss_cons (ps_try0 ⟨rfl, rfl, rfl⟩ rfl cf.mNoRule cf.cNoRule (fun xe pn E hp => (pss_one (ps_set (i := 6) sc_sws.nd rfl (Or.inl rfl) (pe_callS Gcrule hr rfl mcrule kcrule bcrule .nil hp (pa_cons (pe_ix ix_tupY (pv 0) pe_int (fun _ _ => rfl)) (pa_cons (pe_ix ix_tupY (pv 0) pe_int (fun _ _ => rfl)) (pa_cons (pe_call Gwe hr rfl mwe kwe bwe .nil pass0 (pa_cons (pe_ix ix_tupY (pv 0) pe_int (fun _ _ => rfl)) (pa_cons (pv 1) (pa_cons (pv 2) (pa_cons (pv 5) pa_nil))))) pa_nil))))))) (fun e oe => (pss_one (ps_ret pe_non))))
    (pss_cons (ps_if (pt_val (pe_call Gund hr rfl mund kund bund .nil pass0 (pa_cons (pe_call Gucov hr rfl mucov kucov bucov .nil pass0 (pa_cons (pv 6) (pa_cons (pv 4) pa_nil))) (pa_cons (pv 3) pa_nil)))) (pss_one (ps_ret pe_non)) pss_nil)
    (pss_one (ps_ret (pv 6))))))), ?_⟩
  obtain ⟨t, zs, ox, ot, row⟩ := hx.ob
  have ok := hx.ok
  have hl := ok.len
  have n10 := ok.n10
  have lz := row.len
  have ep := List.getElem?_eq_getElem (show k < ps.length by omega)
  have gp : ps.getD k (0, 0) = ps[k] := getD_in (by omega)
  obtain ⟨b, f1, f2⟩ := row.get ep
  have at2' : atI [V.int N, V.int n, V.ref t] 2 = some (.ref t) := at2
  dsimp only
  refine seq_by (fun σ G => G = H ∧ σ = [some (.ref x), some (.int k), some (.str (eS lo)), some (.ref a), some (.int (lostP lo ps[k] : Nat)), none, none]) ?_ ?_
  · intro M hM
    refine ⟨_, rfl, rfl, _, rfl, ?_⟩
    rw [eS_low]
    cases lo with
    | true => exact iteT ⟨_, rfl, x, _, 2, _, rfl, rfl, SqT.of ox, at2', _, rfl, t, _, _, _, rfl, rfl, SqT.of ot, atI_nat f1, b, _, 0, _, rfl, rfl, SqT.of f2, at0, hM _ _ ⟨rfl, rfl⟩⟩
    | false => exact iteF ⟨_, rfl, x, _, 2, _, rfl, rfl, SqT.of ox, at2', _, rfl, t, _, _, _, rfl, rfl, SqT.of ot, atI_nat f1, b, _, 1, _, rfl, rfl, SqT.of f2, at1, hM _ _ ⟨rfl, rfl⟩⟩
  rintro σ G ⟨rfl, rfl⟩
  refine seq_by (fun σ G' => G' = G ∧ σ = [some (.ref x), some (.int k), some (.str (eS lo)), some (.ref a), some (.int (lostP lo ps[k] : Nat)), some (.int (if lo = true then (mvI lo ps[k]).1 else (mvI lo ps[k]).2)), none]) ?_ ?_
  · intro M hM
    refine ⟨_, rfl, rfl, _, rfl, ?_⟩
    rw [eS_low]
    cases lo with
    | true => exact iteT ⟨_, rfl, _, _, rfl, rfl, hM _ _ ⟨rfl, rfl⟩⟩
    | false => exact iteF ⟨_, rfl, _, _, rfl, rfl, hM _ _ ⟨rfl, rfl⟩⟩
  rintro σ G' ⟨rfl, rfl⟩
  refine ⟨_, rfl, x, _, 0, _, rfl, rfl, SqT.of ox, at0, _, rfl, x, _, 1, _, rfl, rfl, SqT.of ox, at1, _, rfl, x, _, 2, _, rfl, rfl, SqT.of ox, at2', _, rfl, _, rfl, _, rfl, t, b, _, _, _, zs, k, eS lo, rfl, ot, by omega, f1, f2, fun y c H2 s2 hy hc => ?_⟩
  have dc : Den H2 (ppT (mvI lo ps[k])) (.ref c) := by
    cases lo with
    | true => exact den_p (by rw [hc, if_pos rfl]; rfl)
    | false => exact den_p (by rw [hc, if_neg (by decide)]; rfl)
  have dS : Den H2 (.tup (((ps.map zP).set k (mvI lo ps[k])).map ppT)) (.ref y) := by
    refine ⟨y, _, rfl, hy, ?_⟩
    rw [List.map_set, ← nn_pp]
    exact dens_set ((rown_den row).keep s2) dc
  rw [← gp] at dS
  refine ⟨_, _, _, .int (N : Int), .int (n : Int), _, rfl, rfl, rfl, dS, fun N' n' qs g p' H3 s3 dp => ?_, fun no H3 s3 => ⟨cf.sub, fun x1 oe hn hoe => ?_⟩⟩
  · obtain ⟨rfl, rfl, rfl, h1, c1⟩ := (good_iff ok hk).mp g
    have hp := cr_of_den c1 dp
    have s03 := s2.trans s3
    have lT : lostP lo (ps.getD k (0, 0)) ≤ N := by
      have := ok.le _ (List.mem_of_getElem? ep)
      rw [gp]
      unfold lostP
      split <;> omega
    rw [gp] at lT
    have bp := bpos ok.nN
    refine ⟨_, rfl, _, rfl, p', N, n, lostP lo ps[k], _, rfl, hp, lT, fun cv H4 s4 hcv => ?_⟩
    have fc := frA_w ok.N30 ok.nN (cwy_le lT) hcv
    have s04 := s03.trans s4
    refine ⟨_, rfl, cv, a, _, _, rfl, fc, (sh.keep s04).fr, _, rfl, ?_⟩
    have h1' := sh.h1
    have h0' := sh.h0
    by_cases cc : s0 * binom N n ≤ s1 * cwy N n (ps.set k (nxP lo (ps.getD k (0, 0)))) (lostP lo (ps.getD k (0, 0)))
    · have hh := shr_yes (N := N) (n := n) (s0 := s0) (s1 := s1) (ps := ps) (k := k) (lo := lo) ⟨h1, c1, cc⟩
      rw [gp] at cc
      rw [decide_eq_false (fun z => (rq_cmp bp (by omega)).mp z (by rw [← gp] at cc ⊢; exact cc))]
      exact iteF ⟨_, rfl, q1 _ hh p' H4 s04 (hp.keep s4)⟩
    · have hh := shr_no (N := N) (n := n) (s0 := s0) (s1 := s1) (ps := ps) (k := k) (lo := lo) (fun z => cc z.2.2)
      rw [decide_eq_true ((rq_cmp bp (by omega)).mpr (by rw [← gp]; exact cc))]
      exact iteT (q2 hh H4 s04)
  · exact q2 (shr_no fun z => no _ _ _ ((good_iff ok hk).mpr ⟨rfl, rfl, rfl, z.1, z.2.1⟩)) _ (s2.trans s3)
noncomputable def lamX : Expr := match (defBody s_utg).getD 1 (.Pass ⟨0, 0, 0, 0⟩) with
  | .Return (some (.Call _ (_ :: _ :: l :: _) _ _)) _ => l
  | _ => .Constant (.bool true) 0 ⟨0, 0, 0, 0⟩
noncomputable def lamP : Arguments := match lamX with
  | .Lambda a _ _ _ => a
  | _ => defArgs s_utg
noncomputable def lamB : Expr := match lamX with
  | .Lambda _ b _ _ => b
  | e => e
noncomputable def lamS : Scope := match lamX with
  | .Lambda _ _ c _ => c
  | _ => defScope s_utg
noncomputable def lamO : Pos := match lamX with
  | .Lambda _ _ _ p => p
  | _ => ⟨0, 0, 0, 0⟩
noncomputable def lamQ : Str := ("urn_tight" : Str) ++ ".<locals>." ++ "<lambda>"
noncomputable def pmV (mg : Str → Option Value) : Value := (mg "__name__").getD .none
theorem sc_lam : LamScope ["kept", "k", "end", "share"] ["kept", "k", "end"] ["share"] lamS where
  kind := rfl
  co := rfl
  gen := rfl
  len := rfl
  nocell := by decide +kernel
  par := by decide +kernel
  fre := by decide +kernel
  only := fun x h => by
    have h' : x ∈ (lamS.names.filter (fun p => p.2 == .free)).map (·.1) := List.mem_map.mpr ⟨_, List.mem_filter.mpr ⟨PySem.mem_of_lookup h, rfl⟩, rfl⟩
    have e : (lamS.names.filter (fun p => p.2 == .free)).map (·.1) = [("share" : Str)] := by decide +kernel
    rw [e] at h'
    exact h'
  look := fun us hu i x u hx hv => by
    match us, hu with
    | [u1, u2, u3], _ =>
      match i, hx, hv with
      | 0, hx, hv => cases hx; cases hv; rfl
      | 1, hx, hv => cases hx; cases hv; rfl
      | 2, hx, hv => cases hx; cases hv; rfl
      | i + 3, hx, _ => simp at hx
structure Mv where
  f : Addr
  c : Addr
  cS : Addr
  a : Addr
  s0 : Nat
  s1 : Nat
  ctv : Value
  o : Obj
noncomputable def mvObj (mg : Str → Option Value) (π : Mv) : Obj := PySem.W.kla_obj "<lambda>" lamQ lamP lamB lamS [("share", π.cS)] (pmV mg) π.c π.ctv
structure MvAt (mg : Str → Option Value) (π : Mv) (H : Hp) : Prop where
  fn : H π.f = some (Fz (mvObj mg π))
  cd : ∃ oc, H π.c = some (Fz oc) ∧ CodeIs oc lamQ
  ce : H π.cS = some (Fz π.o)
  dt : π.o.data = .cell (some (.ref π.a))
  sh : ShAt H π.a π.s0 π.s1
theorem MvAt.keep {mg : Str → Option Value} {π : Mv} {H H' : Hp} (h : MvAt mg π H) (s : Same H H') : MvAt mg π H' := by
  obtain ⟨oc, e1, e2⟩ := h.cd
  exact ⟨s _ _ h.fn, ⟨oc, s _ _ e1, e2⟩, s _ _ h.ce, h.dt, h.sh.keep s⟩
theorem hid_tup {H : Hp} {c b : Addr} {o : Obj} {xs : List V} (hc : H c = some (Fz o)) (e : H b = some (.tup xs)) : hid H c b = some (.tup xs) := by
  rw [hid_ne (fun z => by rw [z, hc] at e; cases e)]; exact e
theorem RowN.map {H H' : Hp} (s : ∀ b xs, H b = some (.tup xs) → H' b = some (.tup xs)) : ∀ {ps : List (Nat × Nat)} {xs : List V}, RowN H ps xs → RowN H' ps xs
  | [], _, h => h
  | _ :: _, _, ⟨a, ys, e, h1, h2⟩ => ⟨a, ys, e, s _ _ h1, h2.map s⟩
theorem CRAt.map {H H' : Hp} (s : ∀ b xs, H b = some (.tup xs) → H' b = some (.tup xs)) {x : Addr} {N n : Nat} {ps : List (Nat × Nat)} (h : CRAt H x N n ps) : CRAt H' x N n ps := by
  obtain ⟨⟨t, zs, a, b, c⟩, ok⟩ := h
  exact ⟨⟨t, zs, s _ _ a, s _ _ b, c.map s⟩, ok⟩
noncomputable def spMv (mg : Str → Option Value) (π : Mv) : Sp := fun vs H Q _ => ∃ (x : Addr) (N n k : Nat) (ps : List (Nat × Nat)) (lo : Bool), vs = [.ref x, .int k, .str (eS lo)] ∧ MvAt mg π H ∧ CRAt H x N n ps ∧ k ≤ n ∧
  (∀ ps', shr N n π.s0 π.s1 ps k lo = some ps' → ∀ y H', Same H H' → CRAt H' y N n ps' → Q (.ref y) H') ∧ (shr N n π.s0 π.s1 ps k lo = none → ∀ H', Same H H' → Q .non H')
theorem ok_clo (T : Txt mg) {fsws : Addr} {dsws : FuncData} (Gsws : FnOk P w K mg base CX0 8 fsws dsws ["rule", "k", "end", "share"] spSws) (bsws : Binds K dsws ["rule", "k", "end", "share"] []) (ksws : PySem.W.keepIn K (.ref fsws) = true) (msws : mg "sure_when_shorter" = some (.ref fsws)) (π : Mv) : FnOk P w K mg base CX0 9 π.f (PySem.W.kla_fn "<lambda>" lamQ lamP lamB lamS [("share", π.cS)] (pmV mg) (.ref π.c) π.ctv) ["kept", "k", "end"] (spMv mg π) := by
  refine clo_ok (cs := [π.cS]) (ys := ["share"]) (N := ["kept", "k", "end", "share"]) sc_lam ?_ ?_ rfl ?_ (by simp) (fun vs H Q E h => ?_) (fun A outer s H vs Q E hr h => ?_)
  · intro i y c h1 h2
    match i, h1, h2 with
    | 0, h1, h2 => cases h1; cases h2; rfl
    | i + 1, h1, _ => simp at h1
  · intro y c h
    have h' : (if y == ("share" : Str) then some π.cS else none) = some c := by
      have : List.lookup y [(("share" : Str), π.cS)] = some c := h
      rw [List.lookup_cons] at this
      cases hb : y == ("share" : Str) with
      | true => rw [hb] at this; exact this
      | false => rw [hb] at this; cases this
    by_cases z : (y == ("share" : Str)) = true
    · rw [if_pos z] at h'
      cases h'
      rw [beq_iff_eq.mp z]
      exact ⟨List.mem_singleton.mpr rfl, List.mem_singleton.mpr rfl⟩
    · rw [if_neg z] at h'; cases h'
  · intro x y c h1 h2
    have one : ∀ z, List.lookup z [(("share" : Str), π.cS)] = some c → z = "share" := fun z hz => by
      rw [List.lookup_cons] at hz
      cases hb : z == ("share" : Str) with
      | true => exact beq_iff_eq.mp hb
      | false => rw [hb] at hz; cases hz
    rw [one x h1, one y h2]
  · obtain ⟨x, N, n, k, ps, lo, rfl, _⟩ := h
    rfl
  obtain ⟨x, N, n, k, ps, lo, rfl, mv, hx, hk, q1, q2⟩ := h
  have hce := mv.ce
  refine ⟨mv.fn, mv.cd, [π.o], [.ref π.a], rfl, rfl, ?_, ?_⟩
  · intro i c o v h1 h2 h3
    match i, h1, h2, h3 with
    | 0, h1, h2, h3 => cases h1; cases h2; cases h3; exact ⟨hce, _, rfl, mv.dt⟩
    | i + 1, h1, _, _ => simp at h1
  refine ⟨_, (pe_call Gsws hr rfl msws ksws bsws .nil pass0 (pa_cons (pv 0) (pa_cons (pv 1) (pa_cons (pv 2) (pa_cons (pv 3) pa_nil))))), ?_⟩
  have tp : ∀ b xs, H b = some (.tup xs) → hid H π.cS b = some (.tup xs) := fun b xs e => hid_tup hce e
  have back : ∀ H2 : Hp, Same (hid H π.cS) H2 → Same H (upd H2 π.cS (Fz π.o)) := fun H2 sm b o e => by
    by_cases z : b = π.cS
    · rw [z, upd_same, ← hce, ← z, e]
    · rw [upd_ne z]
      exact sm b o (by rw [hid_ne z]; exact e)
  have shh : ShAt (hid H π.cS) π.a π.s0 π.s1 := ⟨tp _ _ mv.sh.ob, mv.sh.h0, mv.sh.h1, mv.sh.h2, mv.sh.cop⟩
  refine ⟨_, rfl, _, rfl, _, rfl, _, rfl, x, π.a, N, n, π.s0, π.s1, k, ps, lo, rfl, hx.map tp, hk, shh, fun ps' e y H2 sm hy fr => ?_, fun e H2 sm fr => ?_⟩
  · have nc : H2 π.cS = none := fr _ (List.mem_singleton.mpr rfl)
    refine q1 ps' e y _ (back H2 sm) (hy.map fun b xs e => ?_)
    show upd H2 π.cS (Fz π.o) b = _
    rw [upd_ne (ne_of_none e nc)]
    exact e
  · exact q2 e _ (back H2 sm)
theorem b_clo {mg : Str → Option Value} (π : Mv) : Binds K (PySem.W.kla_fn "<lambda>" lamQ lamP lamB lamS [("share", π.cS)] (pmV mg) (.ref π.c) π.ctv) ["kept", "k", "end"] [] := Binds.all fun us hl => match us, hl with | [_, _, _], _ => rfl
noncomputable def RowE (H : Hp) : List (Nat × Bool) → List V → Prop
  | [], xs => xs = []
  | p :: ps, xs => ∃ a ys, xs = .ref a :: ys ∧ H a = some (.tup [.int (p.1 : Nat), .str (eS p.2)]) ∧ RowE H ps ys
theorem RowE.map {H H' : Hp} (s : ∀ b xs, H b = some (.tup xs) → H' b = some (.tup xs)) : ∀ {ps : List (Nat × Bool)} {xs : List V}, RowE H ps xs → RowE H' ps xs
  | [], _, h => h
  | _ :: _, _, ⟨a, ys, e, h1, h2⟩ => ⟨a, ys, e, s _ _ h1, h2.map s⟩
theorem RowE.len {H : Hp} : ∀ {ps : List (Nat × Bool)} {xs : List V}, RowE H ps xs → xs.length = ps.length
  | [], _, h => by rw [show _ = [] from h]; rfl
  | _ :: _, _, ⟨a, ys, e, h1, h2⟩ => by rw [e, List.length_cons, List.length_cons, h2.len]
theorem RowE.get {H : Hp} : ∀ {ps : List (Nat × Bool)} {xs : List V} {i : Nat} {p : Nat × Bool}, RowE H ps xs → ps[i]? = some p → ∃ a, xs[i]? = some (.ref a) ∧ H a = some (.tup [.int (p.1 : Nat), .str (eS p.2)])
  | _ :: _, _, 0, p, ⟨a, ys, e, h1, h2⟩, q => by
    rw [List.getElem?_cons_zero] at q; cases q
    exact ⟨a, by rw [e]; rfl, h1⟩
  | _ :: _, _, i + 1, p, ⟨a, ys, e, h1, h2⟩, q => by
    rw [List.getElem?_cons_succ] at q
    obtain ⟨b, f, g⟩ := h2.get q
    exact ⟨b, by rw [e, List.getElem?_cons_succ]; exact f, g⟩
theorem RowE.app {H : Hp} : ∀ {ps qs : List (Nat × Bool)} {xs ys : List V}, RowE H ps xs → RowE H qs ys → RowE H (ps ++ qs) (xs ++ ys)
  | [], _, _, _, h, k => by rw [show _ = [] from h]; exact k
  | _ :: _, _, _, _, ⟨a, zs, e, h1, h2⟩, k => by rw [e]; exact ⟨a, _, rfl, h1, h2.app k⟩
noncomputable def hiE (m : Nat) : List (Nat × Bool) := (List.range m).map fun k => (k, false)
noncomputable def loE (n m : Nat) : List (Nat × Bool) := (List.range m).map fun i => (n - i, true)
theorem hiE_snoc (m : Nat) : hiE (m + 1) = hiE m ++ [(m, false)] := by unfold hiE; rw [List.range_succ, List.map_append] <;> rfl
theorem loE_snoc (n m : Nat) : loE n (m + 1) = loE n m ++ [(n - m, true)] := by unfold loE; rw [List.range_succ, List.map_append] <;> rfl
noncomputable def eEnds (n : Nat) : List (Nat × Bool) := hiE (n + 1) ++ loE n (n + 1)
theorem eEnds_le {n : Nat} {p : Nat × Bool} (h : p ∈ eEnds n) : p.1 ≤ n := by
  unfold eEnds hiE loE at h
  rcases List.mem_append.mp h with h | h
  · obtain ⟨k, hk, rfl⟩ := List.mem_map.mp h
    have := List.mem_range.mp hk
    show k ≤ n; omega
  · obtain ⟨k, hk, rfl⟩ := List.mem_map.mp h
    show n - k ≤ n; omega
inductive Rn (N n s0 s1 k : Nat) (lo : Bool) : List (Nat × Nat) → List (Nat × Nat) → Prop where
  | stop {ps} : shr N n s0 s1 ps k lo = none → Rn N n s0 s1 k lo ps ps
  | step {ps ps1 ps'} : shr N n s0 s1 ps k lo = some ps1 → Rn N n s0 s1 k lo ps1 ps' → Rn N n s0 s1 k lo ps ps'
noncomputable def RunAll (N n s0 s1 : Nat) : List (Nat × Bool) → List (Nat × Nat) → List (Nat × Nat) → Prop
  | [], ps, ps' => ps' = ps
  | p :: r, ps, ps' => ∃ q, Rn N n s0 s1 p.1 p.2 ps q ∧ RunAll N n s0 s1 r q ps'
theorem RunAll.snoc {N n s0 s1 : Nat} : ∀ {l : List (Nat × Bool)} {p : Nat × Bool} {ps q ps' : List (Nat × Nat)}, RunAll N n s0 s1 l ps q → Rn N n s0 s1 p.1 p.2 q ps' → RunAll N n s0 s1 (l ++ [p]) ps ps'
  | [], p, ps, q, ps', h, r => by
    have h' : q = ps := h
    subst h'
    exact ⟨ps', r, rfl⟩
  | _ :: l, p, ps, q, ps', ⟨u, h1, h2⟩, r => ⟨u, h1, h2.snoc r⟩
theorem shr_some {N n s0 s1 k : Nat} {lo : Bool} {ps ps1 : List (Nat × Nat)} (h : shr N n s0 s1 ps k lo = some ps1) : ShrC N n s0 s1 ps k lo ∧ ps1 = ps.set k (nxP lo (ps.getD k (0, 0))) := by
  by_cases c : ShrC N n s0 s1 ps k lo
  · rw [shr_yes c] at h
    cases h
    exact ⟨c, rfl⟩
  · rw [shr_no c] at h; cases h
noncomputable def gapP (ps : List (Nat × Nat)) (k : Nat) : Nat := (ps.getD k (0, 0)).2 - (ps.getD k (0, 0)).1
theorem shr_gap {N n s0 s1 k : Nat} {lo : Bool} {ps ps1 : List (Nat × Nat)} (hk : k < ps.length) (h : shr N n s0 s1 ps k lo = some ps1) : gapP ps1 k < gapP ps k := by
  obtain ⟨⟨c1, c2, _⟩, rfl⟩ := shr_some h
  have e : (ps.set k (nxP lo (ps.getD k (0, 0)))).getD k (0, 0) = nxP lo (ps.getD k (0, 0)) := by simp [List.getD, hk]
  have m : nxP lo (ps.getD k (0, 0)) ∈ ps.set k (nxP lo (ps.getD k (0, 0))) := by
    have := getD_mem (l := ps.set k (nxP lo (ps.getD k (0, 0)))) (i := k) (d := (0, 0)) (by rw [List.length_set]; exact hk)
    rw [e] at this
    exact this
  have le := (c2.le _ m).1
  unfold gapP
  rw [e]
  unfold nxP at le ⊢
  cases lo with
  | true => rw [if_pos rfl] at le ⊢; dsimp only at le ⊢; omega
  | false => rw [if_neg Bool.false_ne_true] at le ⊢; have := c1 rfl; dsimp only at le ⊢; omega
noncomputable def ShV (H : Hp) (N n : Nat) : Option (List (Nat × Nat)) → V → Prop
  | none, v => v = .non
  | some ps, v => ∃ y, v = .ref y ∧ CRAt H y N n ps
noncomputable def spMt (mg : Str → Option Value) : Sp := fun vs H Q _ => ∃ (x : Addr) (N n : Nat) (ps : List (Nat × Nat)) (π : Mv), vs = [.ref x, .int n, .ref π.f] ∧ MvAt mg π H ∧ CRAt H x N n ps ∧ ∀ ps' y H', RunAll N n π.s0 π.s1 (eEnds n) ps ps' → Same H H' → CRAt H' y N n ps' → Q (.ref y) H'
theorem sc_mt : FnScope ["rule", "n", "move", "ends", "k", "end", "shorter"] ["rule", "n", "move"] (defScope s_mt) := ⟨rfl, rfl, rfl, by decide +kernel, rfl, by decide +kernel, by decide +kernel⟩
theorem ok_mt {f : Addr} {fd : FuncData} (F : Fun K "made_tight" "made_tight" s_mt f fd) (T : Txt mg) {fsws : Addr} {dsws : FuncData} (Gsws : FnOk P w K mg base CX0 8 fsws dsws ["rule", "k", "end", "share"] spSws) (bsws : Binds K dsws ["rule", "k", "end", "share"] []) (ksws : PySem.W.keepIn K (.ref fsws) = true) (msws : mg "sure_when_shorter" = some (.ref fsws)) : FnOk P w K mg base CX0 10 f fd ["rule", "n", "move"] (spMt mg) := by
  have GV := fun π : Mv => ok_clo (base := base) (P := P) (w := w) T Gsws bsws ksws msws π
  have bV := fun π : Mv => b_clo (K := K) (mg := mg) π
  refine F.ok sc_mt (fun vs H Q E h => ?_) (fun cdv A outer s H vs Q E hr h => ?_)
  · obtain ⟨x, N, n, ps, π, rfl, _⟩ := h
    rfl
  obtain ⟨x, N, n, ps, π, rfl, mv, hx, q⟩ := h
  refine ⟨_, (pss_cons (ps_set (i := 3) sc_mt.nd rfl (Or.inl rfl) (pe_op op_cat (pe_comp (ts := []) rfl ⟨rfl, sub0, rfl, rfl, rfl, rfl, by decide +kernel, rfl, rfl⟩ (pi_range1 rfl T.range (pa_cons (pe_op op_add (pv 1) pe_int) pa_nil)) (fun C s3 H3 fp => (pe_tup (pa_cons (pv 0) (pa_cons pe_str pa_nil))))) (pe_comp (ts := []) rfl ⟨rfl, sub0, rfl, rfl, rfl, rfl, by decide +kernel, rfl, rfl⟩ (pi_range3 rfl T.range (pa_cons (pv 1) (pa_cons (pe_un un_neg pe_int) (pa_cons (pe_un un_neg pe_int) pa_nil)))) (fun C s3 H3 fp => (pe_tup (pa_cons (pv 0) (pa_cons pe_str pa_nil)))))))
    (pss_cons (ps_for PassesOwn.never rfl (pi_list (pv 3)) (pg_tup rfl (pgs_cons (pg_name (i := 4) sc_mt.nd rfl (Or.inl rfl)) (pgs_cons (pg_name (i := 5) sc_mt.nd rfl (Or.inl rfl)) pgs_nil))) (pss_cons (ps_set (i := 6) sc_mt.nd rfl (Or.inl rfl) (pe_callV GV hr bV (pv 2) (pa_cons (pv 0) (pa_cons (pv 4) (pa_cons (pv 5) pa_nil)))))
      (pss_one (ps_while PassesOwn.never (pt_cmpR op_notN (pv 6) pe_non (nomark _)) (pss_cons (ps_set (i := 0) sc_mt.nd rfl (Or.inl rfl) (pv 6))
        (pss_one (ps_set (i := 6) sc_mt.nd rfl (Or.inl rfl) (pe_callV GV hr bV (pv 2) (pa_cons (pv 0) (pa_cons (pv 4) (pa_cons (pv 5) pa_nil)))))))))))
    (pss_one (ps_ret (pv 0))))), ?_⟩
  have n10 := hx.ok.n10
  have en : ((n : Int) + 1).toNat = n + 1 := by omega
  dsimp only
  refine seq_by (fun σ G => Same H G ∧ ∃ l zs, σ = [some (.ref x), some (.int n), some (.ref π.f), some (.ref l), none, none, none] ∧ G l = some (.lst zs) ∧ RowE G (eEnds n) zs) ?_ ?_
  · intro M hM
    refine ⟨_, rfl, _, _, rfl, rfl, _, rfl, by omega, by omega, fun D hD => ?_⟩
    rw [en]
    refine comp_rangeR (fun i ys G => RowE G (hiE i) ys) hD (Nat.le_of_lt (lt40 (by omega))) rfl ?_ ?_
    · intro k ys H2 kk hk s2 hD2 row hq
      refine ⟨_, rfl, (by show 2 ≤ sizeLine; decide), fun w hw => ?_⟩
      have s3 := same_new hw (.tup [V.int (0 + (k : Int)), V.str "high"])
      refine hq (.ref w) _ s3 ?_
      rw [hiE_snoc]
      have row2 : RowE (upd H2 w (.tup [V.int (0 + (k : Int)), V.str "high"])) (hiE k ++ [(k, false)]) (ys ++ [.ref w]) := (row.map fun b xs e => s3 _ _ e).app ⟨w, [], rfl, by show upd H2 w _ w = _; rw [upd_same, show (0 : Int) + (k : Int) = (k : Int) by omega]; rfl, rfl⟩
      exact row2.map fun b xs e => by rw [upd_ne (ne_of e (s3 _ _ hD2) (by intro z; cases z))]; exact e
    · intro ys H2 s2 hD2 ly row
      refine ⟨_, rfl, _, rfl, _, rfl, _, _, rfl, ⟨by omega, by omega, by decide, by decide⟩, fun D2 hD' => ?_⟩
      rw [show ((n : Int) - -1).toNat = n + 1 by omega]
      refine comp_downR (fun i ys G => RowE G (loE n i) ys) hD' (Nat.le_of_lt (lt40 (by omega))) rfl ?_ ?_
      · intro k ys2 H3 kk hk s3 hD3 row3 hq
        refine ⟨_, rfl, (by show 2 ≤ sizeLine; decide), fun w hw => ?_⟩
        have s4 := same_new hw (.tup [V.int ((n : Int) - (k : Int)), V.str "low"])
        refine hq (.ref w) _ s4 ?_
        rw [loE_snoc]
        have row4 : RowE (upd H3 w (.tup [V.int ((n : Int) - (k : Int)), V.str "low"])) (loE n k ++ [(n - k, true)]) (ys2 ++ [.ref w]) := (row3.map fun b xs e => s4 _ _ e).app ⟨w, [], rfl, by show upd H3 w _ w = _; rw [upd_same, show (n : Int) - (k : Int) = ((n - k : Nat) : Int) by omega]; rfl, rfl⟩
        exact row4.map fun b xs e => by rw [upd_ne (ne_of e (s4 _ _ hD3) (by intro z; cases z))]; exact e
      · intro ys2 H3 s3 hD3 ly2 row3
        refine ⟨D, D2, _, _, rfl, rfl, s3 _ _ hD2, hD3, Nat.le_of_lt (lt40 (by omega)), fun l hl => ?_⟩
        have s4 := same_new hl (.lst (ys ++ ys2))
        exact hM _ _ ⟨((s2.trans s3).trans s4), l, _, rfl, upd_same, ((row.map fun b xs e => s3 _ _ e).app row3).map fun b xs e => s4 _ _ e⟩
  rintro σ G ⟨sG, l, zs, rfl, hl, row⟩
  have lz := row.len
  refine ⟨_, rfl, l, rfl, ⟨_, SqL.of hl⟩, ?_⟩
  refine for_list (xs := zs) (fun i σ G' => Same G G' ∧ ∃ x' ps' v1 v2 v3, σ = [some (.ref x'), some (.int n), some (.ref π.f), some (.ref l), v1, v2, v3] ∧ CRAt G' x' N n ps' ∧ RunAll N n π.s0 π.s1 ((eEnds n).take i) ps ps') ⟨Same.refl G, x, ps, none, none, none, rfl, hx.keep sG, rfl⟩ ?_ ?_ ?_
  · rintro i σ G' hi ⟨sm, _⟩
    exact SqL.of (sm _ _ hl)
  · rintro i z σ G1 hz ⟨sm, x', ps', v1, v2, v3, rfl, hx', run⟩
    have hi : i < (eEnds n).length := by rw [← lz]; exact (List.getElem?_eq_some_iff.mp hz).1
    have ep := List.getElem?_eq_getElem hi
    generalize hp : (eEnds n)[i] = p at ep
    obtain ⟨k, lo⟩ := p
    have hk : k ≤ n := eEnds_le (List.mem_of_getElem? ep)
    obtain ⟨a, f1, f2⟩ := row.get ep
    rw [hz] at f1
    cases f1
    have f2' := sm _ _ f2
    have smH := sG.trans sm
    have mv1 := mv.keep smH
    refine ⟨a, _, rfl, SqT.of f2', rfl, .int (k : Nat), _, rfl, .str (eS lo), [], rfl, rfl, ?_⟩
    dsimp only
    have call : ∀ (G2 : Hp) (y : Addr) (qs : List (Nat × Nat)) (v3 : Option V) (D : Ends), Same G1 G2 → CRAt G2 y N n qs → (∀ v G3, Same G2 G3 → ShV G3 N n (shr N n π.s0 π.s1 qs k lo) v → D.nx [some (.ref y), some (.int n), some (.ref π.f), some (.ref l), some (.int (k : Nat)), some (.str (eS lo)), some v] G3) →
        tAsg (tCallV Mv.f 2 (spMv mg) (tCons (tVar 0) (tCons (tVar 4) (tCons (tVar 5) tNil)))) (gName 6) D [some (.ref y), some (.int n), some (.ref π.f), some (.ref l), some (.int (k : Nat)), some (.str (eS lo)), v3] G2 := fun G2 y qs v3 D s2 hy hM => by
      have mv2 := mv1.keep s2
      refine ⟨π, rfl, _, rfl, _, rfl, _, rfl, ⟨_, _, _, _, mv2.fn⟩, y, N, n, k, qs, lo, rfl, mv2, hy, hk, fun qs' e z G3 s3 hz => ?_, fun e G3 s3 => ?_⟩
      · exact hM _ _ s3 (by rw [e]; exact ⟨z, rfl, hz⟩)
      · exact hM _ _ s3 (by rw [e]; rfl)
    refine seq_by (fun σ G2 => Same G1 G2 ∧ ∃ v, σ = [some (.ref x'), some (.int n), some (.ref π.f), some (.ref l), some (.int (k : Nat)), some (.str (eS lo)), some v] ∧ ShV G2 N n (shr N n π.s0 π.s1 ps' k lo) v) ?_ ?_
    · intro M hM
      exact call G1 x' ps' v3 _ (Same.refl _) hx' fun v G3 s3 sv => hM _ _ ⟨s3, v, rfl, sv⟩
    rintro σ G2 ⟨s2, v, rfl, sv⟩
    refine ⟨fun m σ G3 => Same G1 G3 ∧ ∃ y qs v, σ = [some (.ref y), some (.int n), some (.ref π.f), some (.ref l), some (.int (k : Nat)), some (.str (eS lo)), some v] ∧ CRAt G3 y N n qs ∧ ShV G3 N n (shr N n π.s0 π.s1 qs k lo) v ∧ m = gapP qs k ∧ ∀ r, Rn N n π.s0 π.s1 k lo qs r → Rn N n π.s0 π.s1 k lo ps' r, ⟨_, s2, x', ps', v, rfl, hx'.keep s2, sv, rfl, fun r h => h⟩, ?_⟩
    rintro m σ G3 ⟨s3, y, qs, v, rfl, hy, sv, rfl, hr'⟩
    cases e : shr N n π.s0 π.s1 qs k lo with
    | none =>
      rw [e] at sv
      have ev : v = .non := sv
      subst ev
      refine ⟨_, rfl, rfl, _, rfl, iteF ⟨sm.trans s3, y, qs, _, _, _, rfl, hy, ?_⟩⟩
      rw [List.take_add_one, ep]
      exact RunAll.snoc run (hr' qs (.stop e))
    | some qs1 =>
      rw [e] at sv
      obtain ⟨z, rfl, hz'⟩ := sv
      refine ⟨_, rfl, rfl, _, rfl, iteT ⟨fun σ G4 => Same G1 G4 ∧ ∃ v, σ = [some (.ref z), some (.int n), some (.ref π.f), some (.ref l), some (.int (k : Nat)), some (.str (eS lo)), some v] ∧ CRAt G4 z N n qs1 ∧ ShV G4 N n (shr N n π.s0 π.s1 qs1 k lo) v, ?_, ?_⟩⟩
      · rintro σ' G4 ⟨s4, v, rfl, hz4, sv4⟩
        exact ⟨gapP qs1 k, shr_gap (by rw [hy.ok.len]; omega) e, s4, z, qs1, v, rfl, hz4, sv4, rfl, fun r h => hr' r (.step e h)⟩
      · refine ⟨_, rfl, ?_⟩
        exact call G3 z qs1 _ _ s3 hz' fun v G4 s4 sv4 => ⟨s3.trans s4, v, rfl, hz'.keep s4, sv4⟩
  · rintro σ G1 ⟨sm, x', ps', v1, v2, v3, rfl, hx', run⟩
    rw [List.take_of_length_le (by omega)] at run
    exact ⟨_, rfl, q ps' x' G1 run (sG.trans sm) hx'⟩
noncomputable def spIni (CN : Addr) : Sp := fun vs H Q _ => ∃ (e t : Addr) (v : V), vs = [.ref e, v] ∧ H e = some (XN CN e t) ∧ ∀ dx, H dx = none → dx ≠ e → Q .non (upd (upd H e (XE CN e dx t)) dx (.xd [("at", v)]))
theorem sc_ini : FnScope ["self", "at"] ["self", "at"] (defScope s_ini) := ⟨rfl, rfl, rfl, by decide +kernel, rfl, by decide +kernel, by decide +kernel⟩
theorem ok_ini {C : CA} {f : Addr} {fd : FuncData} (F : Fun K "__init__" "NotSure.__init__" s_ini f fd) (T : Txt mg) (cf : CF K mg C) : FnOk P w K mg base CX0 1 f fd ["self", "at"] (spIni C.NotSure) := by
  refine F.ok sc_ini (fun vs H Q E h => ?_) (fun cdv A outer s H vs Q E hr h => ?_)
  · obtain ⟨e, t, v, rfl, _⟩ := h
    rfl
  obtain ⟨e, t, v, rfl, he, q⟩ := h
  refine ⟨_, (pss_one (ps_fldX (pv 0) (pv 1) rfl)), ?_⟩
  exact ⟨_, rfl, _, rfl, _, e, t, rfl, he, cf.sNotSure, fun dx h1 h2 => q dx h1 h2⟩
noncomputable def SameT (T : Addr) (H H' : Hp) : Prop := ∀ b o, b ≠ T → H b = some o → H' b = some o
theorem SameT.of {T : Addr} {H H' : Hp} (s : Same H H') : SameT T H H' := fun b o _ e => s b o e
theorem SameT.trans {T : Addr} {H H1 H2 : Hp} (a : SameT T H H1) (b : SameT T H1 H2) : SameT T H H2 := fun c o n e => b c o n (a c o n e)
theorem SameT.tup {T : Addr} {H H' : Hp} (s : SameT T H H') {tp : Array Value} (hT : H T = some (.tbl tp)) : ∀ b xs, H b = some (.tup xs) → H' b = some (.tup xs) := fun b xs e => s b _ (fun z => by rw [z, hT] at e; cases e) e
noncomputable def SureC (N n s0 s1 : Nat) (ps : List (Nat × Nat)) : Prop := ∀ T, T ≤ N → s0 * binom N n ≤ s1 * cwy N n ps T
noncomputable def TbAt (T : Addr) (H : Hp) : Prop := ∃ tp : Array Value, H T = some (.tbl tp) ∧ TriplesOk tp.toList ∧ (codeAmong lamO tp.toList = none ∨ ∃ c oc, codeAmong lamO tp.toList = some (.ref c) ∧ H c = some (Fz oc) ∧ CodeIs oc lamQ)
theorem TbAt.keep {T : Addr} {H H' : Hp} (h : TbAt T H) (s : Same H H') : TbAt T H' := by
  obtain ⟨tp, a, b, c⟩ := h
  refine ⟨tp, s _ _ a, b, ?_⟩
  rcases c with c | ⟨d, oc, e1, e2, e3⟩
  · exact .inl c
  · exact .inr ⟨d, oc, e1, s _ _ e2, e3⟩
noncomputable def spUtgD (CN T : Addr) : Sp := fun vs H Q E => ∃ (x a : Addr) (N n s0 s1 : Nat) (ps : List (Nat × Nat)), vs = [.ref x, .ref a] ∧ CRAt H x N n ps ∧ ShAt H a s0 s1 ∧ TbAt T H ∧
  (SureC N n s0 s1 ps → ∀ ps' y H', RunAll N n s0 s1 (eEnds n) ps ps' → SameT T H H' → TbAt T H' → CRAt H' y N n ps' → Q (.ref y) H') ∧
  (∀ (T0 : Nat) dx H', T0 ≤ N → (∀ T', T' < T0 → s0 * binom N n ≤ s1 * cwy N n ps T') → ¬ s0 * binom N n ≤ s1 * cwy N n ps T0 → Same H H' → H' dx = some (.xd [("at", .int (T0 : Int))]) → E (.ref CN) (some dx) H')
theorem sc_utg : FnScope ["rule", "share", "T"] ["rule", "share"] (defScope s_utg) := ⟨rfl, rfl, rfl, by decide +kernel, rfl, by decide +kernel, by decide +kernel⟩
theorem ok_utg {C : CA} {f : Addr} {od an : Option Addr} {osl : Array (Option Value)} {oc kV dc pm cdv ct : Value} (lk : K.lookup f = some ⟨oc, od, .func (PySem.W.fnOf "urn_tight" "urn_tight" (defArgs s_utg) (defBody s_utg) (defScope s_utg) .none kV dc pm an cdv ct), osl⟩) (hcd : PySem.W.codeIn K cdv "urn_tight" = true) {c Tb : Addr} (hcode : cdv = .ref c) (hC : PySem.W.CodeHd base c Tb) (hB : base.BuiltinsAt mg Tb) (T : Txt mg) (cf : CF K mg C) {fucov : Addr} {ducov : FuncData} (Gucov : FnOk P w K mg base CX0 10 fucov ducov ["rule", "T"] spUcov) (bucov : Binds K ducov ["rule", "T"] []) (kucov : PySem.W.keepIn K (.ref fucov) = true) (mucov : mg "urn_cover" = some (.ref fucov)) {fund : Addr} {dund : FuncData} (Gund : FnOk P w K mg base CX0 10 fund dund ["one", "other"] spUnd) (bund : Binds K dund ["one", "other"] []) (kund : PySem.W.keepIn K (.ref fund) = true) (mund : mg "under" = some (.ref fund)) {fmt : Addr} {dmt : FuncData} (Gmt : FnOk P w K mg base CX0 10 fmt dmt ["rule", "n", "move"] (spMt mg)) (bmt : Binds K dmt ["rule", "n", "move"] []) (kmt : PySem.W.keepIn K (.ref fmt) = true) (mmt : mg "made_tight" = some (.ref fmt)) {dini : FuncData} (Gini : FnOk P w K mg base CX0 9 C.ini dini ["self", "at"] (spIni C.NotSure)) (bini : Binds K dini ["self", "at"] []) : FnOk P w K mg base (CXD P w) 11 f (PySem.W.fnOf "urn_tight" "urn_tight" (defArgs s_utg) (defBody s_utg) (defScope s_utg) .none kV dc pm an cdv ct) ["rule", "share"] (spUtgD C.NotSure Tb) := by
  refine Fun.okCD lk hcd sc_utg (fun vs H Q E h => ?_) (fun A outer s H vs Q E hr h => ?_)
  · obtain ⟨x, a, N, n, s0, s1, ps, rfl, _⟩ := h
    rfl
  obtain ⟨x, a, N, n, s0, s1, ps, rfl, hx, sh, ⟨tp, hT, trip, hno⟩, q, qx⟩ := h
  refine ⟨_, (pss_cons (ps_for PassesOwn.leaving rfl (pi_range1 rfl T.range (pa_cons (pe_op op_add (pe_ix ix_tup (pv 0) pe_int (fun _ _ => rfl)) pe_int) pa_nil)) (pg_name (i := 2) sc_utg.nd rfl (Or.inl rfl)) (pss_one (ps_if (pt_val (pe_call Gund hr rfl mund kund bund .nil pass0 (pa_cons (pe_call Gucov hr rfl mucov kucov bucov .nil pass0 (pa_cons (pv 0) (pa_cons (pv 2) pa_nil))) (pa_cons (pv 1) pa_nil)))) (pss_one (ps_raiseV ⟨rfl, rfl, rfl⟩ reachD rfl (pe_makeX ⟨rfl, rfl, rfl⟩ cf.kNotSure Gini hr rfl cf.mNotSure bini (pa_cons (pv 2) pa_nil)))) pss_nil)))
    (pss_one (ps_ret (pe_callW Gmt hr rfl mmt kmt bmt (i := 1) (y := "share") rfl rfl rfl rfl (pa_cons (pv 0) (pa_cons (pe_ix ix_tup (pv 0) pe_int (fun _ _ => rfl)) (pa_cons (pe_lam hcode hC hB rfl rfl) pa_nil))))))), ?_⟩
  obtain ⟨t, zs, ox, ot, row⟩ := hx.ob
  have ok := hx.ok
  have n10 := ok.n10
  have N30 := ok.N30
  have bp := bpos ok.nN
  have h0 := sh.h0
  have h1 := sh.h1
  refine ⟨_, rfl, x, _, 0, _, rfl, rfl, SqT.of ox, at0, _, _, rfl, rfl, _, rfl, by omega, by omega, ?_⟩
  refine for_range (lo := 0) (fun i σ G => Same H G ∧ (∀ T', T' < i → s0 * binom N n ≤ s1 * cwy N n ps T') ∧ ∃ v, σ = [some (.ref x), some (.ref a), v]) ⟨Same.refl H, fun T' z => absurd z (Nat.not_lt_zero _), none, rfl⟩ ?_ ?_
  · rintro i σ G hi ⟨sG, su, v, rfl⟩
    have ei : (0 : Int) + (i : Int) = (i : Int) := by omega
    rw [ei]
    have iN : i ≤ N := by omega
    refine ⟨_, rfl, _, rfl, x, N, n, i, ps, rfl, hx.keep sG, iN, fun cv G1 s1' hcv => ?_⟩
    have fc := frA_w N30 ok.nN (cwy_le iN) hcv
    refine ⟨_, rfl, cv, a, _, _, rfl, fc, (sh.keep (sG.trans s1')).fr, _, rfl, ?_⟩
    by_cases c : s0 * binom N n ≤ s1 * cwy N n ps i
    · rw [decide_eq_false (fun z => (rq_cmp bp (by omega)).mp z c)]
      refine iteF ⟨sG.trans s1', fun T' z => ?_, _, rfl⟩
      by_cases y : T' = i
      · rw [y]; exact c
      · exact su T' (by omega)
    · rw [decide_eq_true ((rq_cmp bp (by omega)).mpr c)]
      have sH := sG.trans s1'
      refine iteT ⟨_, rfl, (by show 1 ≤ sizeLine; decide), fun e tt he => ⟨e, tt, .int (i : Int), rfl, upd_same, fun dx hdx ne => ⟨rfl, e, _, _, dx, tt, rfl, ?_, cf.kNotSure.ini, ?_, ?_⟩⟩⟩
      · rw [upd_ne (Ne.symm ne), upd_same]
      · show H e = none
        cases q : H e with
        | none => rfl
        | some u => rw [sH _ _ q] at he; cases he
      · have hd1 : G1 dx = none := by rw [upd_ne ne] at hdx; exact hdx
        refine qx i dx _ iN su c (fun b o eb => ?_) (by rw [hid_ne ne, upd_same])
        have e1 := sH _ _ eb
        rw [hid_ne (ne_of_none e1 he), upd_ne (ne_of_none e1 hd1), upd_ne (ne_of_none e1 he), upd_ne (ne_of_none e1 he)]
        exact e1
  rintro σ G ⟨sG, su, v, rfl⟩
  have sure : SureC N n s0 s1 ps := fun T' hT' => su T' (by omega)
  have hTG := sG _ _ hT
  have fin : ∀ (H1 : Hp) (f' c' : Addr) (oc : Obj) (ctv : Value) (tp' : Array Value), (∀ b o', b ≠ Tb → G b = some o' → H1 b = some o') → H1 f' = some (Fz (PySem.W.kla_obj "<lambda>" lamQ lamP lamB lamS [("share", s.heap.objs.size + 1)] (pmV mg) c' ctv)) → H1 c' = some (Fz oc) → CodeIs oc lamQ →
      H1 Tb = some (.tbl tp') → TriplesOk tp'.toList → codeAmong lamO tp'.toList = some (.ref c') → ∀ o : Obj, o.data = .cell (some (.ref a)) → H1 (s.heap.objs.size + 1) = none → spMt mg [.ref x, .int n, .ref f'] (upd H1 (s.heap.objs.size + 1) (Fz o)) (fun r H2 => H2 (s.heap.objs.size + 1) = some (Fz o) → Q r (hid H2 (s.heap.objs.size + 1))) E0 := by
    intro H1 f' c' oc ctv tp' on hfn hcc hci hTb trp hit o hd hn
    generalize s.heap.objs.size + 1 = cS at *
    have tp1 : ∀ b xs, G b = some (.tup xs) → upd H1 cS (Fz o) b = some (.tup xs) := fun b xs e => by
      have e1 := on b _ (fun z => by rw [z, hTG] at e; cases e) e
      rw [upd_ne (ne_of_none e1 hn)]
      exact e1
    refine ⟨x, N, n, ps, ⟨f', c', cS, a, s0, s1, ctv, o⟩, rfl, ⟨?_, ⟨oc, ?_, hci⟩, upd_same, hd, ⟨tp1 _ _ (sG _ _ sh.ob), sh.h0, sh.h1, sh.h2, sh.cop⟩⟩, (hx.keep sG).map tp1, fun ps' y H3 run s3 hy e3 => ?_⟩
    · show upd H1 cS (Fz o) f' = _
      rw [upd_ne (ne_of_none hfn hn)]
      exact hfn
    · show upd H1 cS (Fz o) c' = _
      rw [upd_ne (ne_of_none hcc hn)]
      exact hcc
    · have out : ∀ b o', H1 b = some o' → hid H3 cS b = some o' := fun b o' e => by
        have nc := ne_of_none e hn
        rw [hid_ne nc]
        exact s3 _ _ (by rw [upd_ne nc]; exact e)
      exact q sure ps' y _ run (fun b o' nb e => out b o' (on b _ nb (sG _ _ e))) ⟨tp', out _ _ hTb, trp, .inr ⟨c', oc, hit, out _ _ hcc, hci⟩⟩ (hy.map fun b xs e => hid_tup e3 e)
  refine ⟨_, rfl, _, rfl, x, _, 1, _, rfl, rfl, SqT.of (sG _ _ ox), at1, ?_⟩
  rcases hno with hno | ⟨c0, oc0, hit0, hc0, hci0⟩
  · refine ⟨tp, hTG, trip, .inl ⟨hno, fun f' c' oc ctv hf hc' ne hci => ?_⟩⟩
    refine ⟨.ref a, rfl, fun o u ru hd hn => ?_⟩
    obtain rfl : u = Value.ref a := ru
    have el : (tp ++ #[rawInt lamO.line, rawInt lamO.col, .ref c']).toList = tp.toList ++ [rawInt lamO.line, rawInt lamO.col, .ref c'] := by simp
    have nTf : Tb ≠ f' := ne_of_none hTG hf
    have nTc : Tb ≠ c' := ne_of_none hTG hc'
    refine fin _ f' c' oc ctv (tp ++ #[rawInt lamO.line, rawInt lamO.col, .ref c']) (fun b o' nb e => ?_) upd_same ?_ hci ?_ ?_ ?_ o hd hn
    · rw [upd_ne (ne_of_none e hf), upd_ne (ne_of_none e hc'), upd_ne nb]
      exact e
    · rw [upd_ne (Ne.symm ne), upd_same]
    · rw [upd_ne nTf, upd_ne nTc, upd_same]
      rfl
    · rw [el]; exact TriplesOk_snoc _ _ _ _ trip
    · rw [el]; exact codeAmong_snoc _ trip hno
  · refine ⟨tp, hTG, trip, .inr ⟨c0, hit0, fun f' ctv hf => ?_⟩⟩
    refine ⟨.ref a, rfl, fun o u ru hd hn => ?_⟩
    obtain rfl : u = Value.ref a := ru
    have hcG := sG _ _ hc0
    refine fin _ f' c0 oc0 ctv tp (fun b o' nb e => ?_) upd_same ?_ hci0 ?_ trip hit0 o hd hn
    · rw [upd_ne (ne_of_none e hf)]; exact e
    · rw [upd_ne (ne_of_none hcG hf)]; exact hcG
    · rw [upd_ne (ne_of_none hTG hf)]; exact hTG
theorem getD_setP {l : List (Nat × Nat)} {j k : Nat} {v : Nat × Nat} (hj : j < l.length) : (l.set j v).getD k (0, 0) = if k = j then v else l.getD k (0, 0) := by
  simp only [List.getD, List.getElem?_set]
  by_cases c : j = k
  · subst c; simp [hj]
  · rw [if_neg c, if_neg (Ne.symm c)]
theorem cwy_set {N n k T : Nat} {ps : List (Nat × Nat)} {lo : Bool} (hk : k < ps.length) (hp : lo = false → 1 ≤ (ps.getD k (0, 0)).2) (hT : T ≠ lostP lo (ps.getD k (0, 0))) : cwy N n (ps.set k (nxP lo (ps.getD k (0, 0)))) T = cwy N n ps T := by
  unfold cwy hvL
  congr 1
  refine List.filter_congr fun j _ => ?_
  unfold hasB
  rw [getD_setP hk]
  by_cases c : j = k
  · subst c
    rw [if_pos rfl]
    generalize ps.getD j (0, 0) = p at *
    unfold nxP
    unfold lostP at hT
    cases lo with
    | true =>
      rw [if_pos rfl] at hT ⊢
      dsimp only
      congr 1
      exact decide_eq_decide.mpr (by omega)
    | false =>
      have := hp rfl
      rw [if_neg Bool.false_ne_true] at hT ⊢
      dsimp only
      congr 1
      exact decide_eq_decide.mpr (by omega)
  · rw [if_neg c]
theorem shr_sure {N n s0 s1 k : Nat} {lo : Bool} {ps ps1 : List (Nat × Nat)} (hk : k < ps.length) (h : shr N n s0 s1 ps k lo = some ps1) (s : SureC N n s0 s1 ps) : SureC N n s0 s1 ps1 := fun T hT => by
  obtain ⟨⟨c1, c2, c3⟩, rfl⟩ := shr_some h
  by_cases c : T = lostP lo (ps.getD k (0, 0))
  · rw [c]; exact c3
  · rw [cwy_set hk c1 c]; exact s T hT
theorem rn_sure {N n s0 s1 k : Nat} {lo : Bool} {ps ps' : List (Nat × Nat)} (h : Rn N n s0 s1 k lo ps ps') (hk : k < ps.length) (s : SureC N n s0 s1 ps) : SureC N n s0 s1 ps' ∧ ps'.length = ps.length := by
  induction h with
  | stop _ => exact ⟨s, rfl⟩
  | step e _ ih =>
    have l1 := congrArg List.length (shr_some e).2
    rw [List.length_set] at l1
    obtain ⟨a, b⟩ := ih (by omega) (shr_sure hk e s)
    exact ⟨a, b.trans l1⟩
theorem all_sure {N n s0 s1 : Nat} : ∀ {l : List (Nat × Bool)} {ps ps' : List (Nat × Nat)}, RunAll N n s0 s1 l ps ps' → (∀ p ∈ l, p.1 < ps.length) → SureC N n s0 s1 ps → SureC N n s0 s1 ps'
  | [], ps, ps', h, _, s => by rw [show ps' = ps from h]; exact s
  | p :: l, ps, ps', ⟨q, h1, h2⟩, hl, s => by
    obtain ⟨a, b⟩ := rn_sure h1 (hl p (.head _)) s
    exact all_sure h2 (fun p' hp' => by rw [b]; exact hl p' (.tail _ hp')) a
theorem rn_same {N n s0 s1 k : Nat} {lo : Bool} {ps a b : List (Nat × Nat)} (h : Rn N n s0 s1 k lo ps a) (g : Rn N n s0 s1 k lo ps b) : a = b := by
  induction h with
  | stop e =>
    cases g with
    | stop _ => rfl
    | step e2 _ => rw [e] at e2; cases e2
  | step e _ ih =>
    cases g with
    | stop e2 => rw [e] at e2; cases e2
    | step e2 r2 =>
      rw [e] at e2
      cases e2
      exact ih r2
theorem all_same {N n s0 s1 : Nat} : ∀ {l : List (Nat × Bool)} {ps a b : List (Nat × Nat)}, RunAll N n s0 s1 l ps a → RunAll N n s0 s1 l ps b → a = b
  | [], ps, a, b, h, g => by rw [show a = ps from h, show b = ps from g]
  | p :: l, ps, a, b, ⟨q1, h1, h2⟩, ⟨q2, g1, g2⟩ => by
    have e := rn_same h1 g1
    subst e
    exact all_same h2 g2
theorem all_stay {N n s0 s1 : Nat} : ∀ {l : List (Nat × Bool)} {ps a : List (Nat × Nat)}, RunAll N n s0 s1 l ps a → (∀ p ∈ l, shr N n s0 s1 ps p.1 p.2 = none) → a = ps
  | [], ps, a, h, _ => h
  | p :: l, ps, a, ⟨q, h1, h2⟩, hl => by
    have e := rn_same h1 (.stop (hl p (.head _)))
    subst e
    exact all_stay h2 fun p' hp => hl p' (.tail _ hp)
structure Wth (ps qs : List (Nat × Nat)) : Prop where
  len : qs.length = ps.length
  low : ∀ k, (ps.getD k (0, 0)).1 ≤ (qs.getD k (0, 0)).1
  high : ∀ k, (qs.getD k (0, 0)).2 ≤ (ps.getD k (0, 0)).2
theorem Wth.refl (ps : List (Nat × Nat)) : Wth ps ps := ⟨rfl, fun _ => Nat.le_refl _, fun _ => Nat.le_refl _⟩
theorem Wth.trans {ps qs rs : List (Nat × Nat)} (h : Wth ps qs) (g : Wth qs rs) : Wth ps rs := ⟨g.len.trans h.len, fun k => Nat.le_trans (h.low k) (g.low k), fun k => Nat.le_trans (g.high k) (h.high k)⟩
theorem wysum_sub {N T n : Nat} {c d : Nat → Bool} (h : ∀ k, d k = true → c k = true) (l : List Nat) : wysum N T n (l.filter d) ≤ wysum N T n (l.filter c) := by
  induction l with
  | nil => exact Nat.le_refl _
  | cons x l ih =>
    unfold wysum at *
    rw [List.filter_cons, List.filter_cons]
    cases hd : d x with
    | true =>
      rw [if_pos rfl, if_pos (h x hd)]
      simp only [List.map_cons, List.sum_cons]
      omega
    | false =>
      rw [if_neg Bool.false_ne_true]
      split
      · simp only [List.map_cons, List.sum_cons]
        omega
      · exact ih
theorem Wth.cov {N n T : Nat} {ps qs : List (Nat × Nat)} (h : Wth ps qs) : cwy N n qs T ≤ cwy N n ps T := by
  unfold cwy hvL
  refine wysum_sub (fun k hk => ?_) _
  unfold hasB at hk ⊢
  rw [Bool.and_eq_true, decide_eq_true_iff, decide_eq_true_iff] at hk ⊢
  exact ⟨Nat.le_trans (h.low k) hk.1, Nat.le_trans hk.2 (h.high k)⟩
theorem Wth.set {ps qs : List (Nat × Nat)} (h : Wth ps qs) {k : Nat} (hk : k < ps.length) {p q : Nat × Nat} (h1 : p.1 ≤ q.1) (h2 : q.2 ≤ p.2) : Wth (ps.set k p) (qs.set k q) := by
  refine ⟨by rw [List.length_set, List.length_set]; exact h.len, fun j => ?_, fun j => ?_⟩
  · rw [getD_setP hk, getD_setP (by rw [h.len]; exact hk)]
    split
    · exact h1
    · exact h.low j
  · rw [getD_setP hk, getD_setP (by rw [h.len]; exact hk)]
    split
    · exact h2
    · exact h.high j
theorem at_getP {l : List (Nat × Nat)} {i : Nat} {a : Nat × Nat} (h : l[i]? = some a) : l.getD i (0, 0) = a := by rw [List.getD, h]; rfl
theorem cr_low {N n : Nat} {ps : List (Nat × Nat)} (ok : IsCR N n ps) {i : Nat} (hi : i + 1 < ps.length) : (ps.getD i (0, 0)).1 ≤ (ps.getD (i + 1) (0, 0)).1 := by
  have e1 := List.getElem?_eq_getElem (show i < ps.length by omega)
  have e2 := List.getElem?_eq_getElem hi
  rw [at_getP e1, at_getP e2]
  exact ok.lows i _ _ e1 e2
theorem cr_high {N n : Nat} {ps : List (Nat × Nat)} (ok : IsCR N n ps) {i : Nat} (hi : i + 1 < ps.length) : (ps.getD i (0, 0)).2 ≤ (ps.getD (i + 1) (0, 0)).2 := by
  have e1 := List.getElem?_eq_getElem (show i < ps.length by omega)
  have e2 := List.getElem?_eq_getElem hi
  rw [at_getP e1, at_getP e2]
  exact ok.highs i _ _ e1 e2
theorem cr_le {N n : Nat} {ps : List (Nat × Nat)} (ok : IsCR N n ps) {i : Nat} (hi : i < ps.length) : (ps.getD i (0, 0)).1 ≤ (ps.getD i (0, 0)).2 ∧ (ps.getD i (0, 0)).2 ≤ N := by
  have e1 := List.getElem?_eq_getElem hi
  rw [at_getP e1]
  exact ok.le _ (List.mem_of_getElem? e1)
theorem cr_mk {N n : Nat} {ps qs : List (Nat × Nat)} (ok : IsCR N n ps) (hl : qs.length = ps.length) (h1 : ∀ i, i < qs.length → (qs.getD i (0, 0)).1 ≤ (qs.getD i (0, 0)).2 ∧ (qs.getD i (0, 0)).2 ≤ N)
    (h2 : ∀ i, i + 1 < qs.length → (qs.getD i (0, 0)).1 ≤ (qs.getD (i + 1) (0, 0)).1 ∧ (qs.getD i (0, 0)).2 ≤ (qs.getD (i + 1) (0, 0)).2) : IsCR N n qs where
  n1 := ok.n1
  n10 := ok.n10
  nN := ok.nN
  N30 := ok.N30
  len := hl.trans ok.len
  le := fun p hp => by
    obtain ⟨i, hi⟩ := List.mem_iff_getElem?.mp hp
    have := h1 i (List.getElem?_eq_some_iff.mp hi).1
    rw [at_getP hi] at this
    exact this
  lows := fun i a b ha hb => by
    have := h2 i (List.getElem?_eq_some_iff.mp hb).1
    rw [at_getP ha, at_getP hb] at this
    exact this.1
  highs := fun i a b ha hb => by
    have := h2 i (List.getElem?_eq_some_iff.mp hb).1
    rw [at_getP ha, at_getP hb] at this
    exact this.2
theorem cr_set {N n k : Nat} {ps : List (Nat × Nat)} (ok : IsCR N n ps) (hk : k < ps.length) {p : Nat × Nat} : IsCR N n (ps.set k p) ↔ (p.1 ≤ p.2 ∧ p.2 ≤ N ∧ (∀ j, j + 1 = k → (ps.getD j (0, 0)).1 ≤ p.1 ∧ (ps.getD j (0, 0)).2 ≤ p.2) ∧ (k + 1 < ps.length → p.1 ≤ (ps.getD (k + 1) (0, 0)).1 ∧ p.2 ≤ (ps.getD (k + 1) (0, 0)).2)) := by
  have ls : (ps.set k p).length = ps.length := List.length_set ..
  have gk : (ps.set k p).getD k (0, 0) = p := by rw [getD_setP hk, if_pos rfl]
  have gj : ∀ j, j ≠ k → (ps.set k p).getD j (0, 0) = ps.getD j (0, 0) := fun j hj => by rw [getD_setP hk, if_neg hj]
  constructor
  · intro c
    have a := cr_le c (i := k) (by omega)
    rw [gk] at a
    refine ⟨a.1, a.2, fun j hj => ?_, fun h => ?_⟩
    · have b1 := cr_low c (i := j) (by omega)
      have b2 := cr_high c (i := j) (by omega)
      rw [hj, gk, gj j (by omega)] at b1 b2
      exact ⟨b1, b2⟩
    · have b1 := cr_low c (i := k) (by omega)
      have b2 := cr_high c (i := k) (by omega)
      rw [gk, gj (k + 1) (by omega)] at b1 b2
      exact ⟨b1, b2⟩
  · rintro ⟨a1, a2, b, c⟩
    refine cr_mk ok ls (fun i hi => ?_) (fun i hi => ?_)
    · by_cases z : i = k
      · rw [z, gk]; exact ⟨a1, a2⟩
      · rw [gj i z]; exact cr_le ok (by omega)
    · by_cases z : i = k
      · rw [z, gk, gj (k + 1) (by omega)]; exact c (by omega)
      · rw [gj i z]
        by_cases y : i + 1 = k
        · rw [y, gk]; exact b i y
        · rw [gj (i + 1) y]; exact ⟨cr_low ok (by omega), cr_high ok (by omega)⟩
structure Stp (k : Nat) (lo : Bool) (ps qs : List (Nat × Nat)) : Prop where
  wi : Wth ps qs
  off : ∀ j, j ≠ k → qs.getD j (0, 0) = ps.getD j (0, 0)
  lows : lo = false → (qs.getD k (0, 0)).1 = (ps.getD k (0, 0)).1
  highs : lo = true → (qs.getD k (0, 0)).2 = (ps.getD k (0, 0)).2
theorem Stp.trans {k : Nat} {lo : Bool} {ps qs rs : List (Nat × Nat)} (h : Stp k lo ps qs) (g : Stp k lo qs rs) : Stp k lo ps rs :=
  ⟨h.wi.trans g.wi, fun j hj => (g.off j hj).trans (h.off j hj), fun z => (g.lows z).trans (h.lows z), fun z => (g.highs z).trans (h.highs z)⟩
theorem shr_stp {N n s0 s1 k : Nat} {lo : Bool} {ps qs : List (Nat × Nat)} (hk : k < ps.length) (h : shr N n s0 s1 ps k lo = some qs) : Stp k lo ps qs ∧ IsCR N n qs := by
  obtain ⟨⟨c1, c2, c3⟩, rfl⟩ := shr_some h
  have gk : (ps.set k (nxP lo (ps.getD k (0, 0)))).getD k (0, 0) = nxP lo (ps.getD k (0, 0)) := by rw [getD_setP hk, if_pos rfl]
  refine ⟨⟨⟨List.length_set .., fun j => ?_, fun j => ?_⟩, fun j hj => by rw [getD_setP hk, if_neg hj], fun z => by rw [gk, z]; rfl, fun z => by rw [gk, z]; rfl⟩, c2⟩
  · rw [getD_setP hk]
    split
    · next z =>
      rw [z]
      unfold nxP
      split
      · exact Nat.le_succ _
      · exact Nat.le_refl _
    · exact Nat.le_refl _
  · rw [getD_setP hk]
    split
    · next z =>
      rw [z]
      unfold nxP
      split
      · exact Nat.le_refl _
      · exact Nat.sub_le _ _
    · exact Nat.le_refl _
theorem rn_stp {N n s0 s1 k : Nat} {lo : Bool} {ps qs : List (Nat × Nat)} (h : Rn N n s0 s1 k lo ps qs) (ok : IsCR N n ps) (hk : k < ps.length) : Stp k lo ps qs ∧ IsCR N n qs ∧ shr N n s0 s1 qs k lo = none := by
  induction h with
  | stop e => exact ⟨⟨Wth.refl _, fun _ _ => rfl, fun _ => rfl, fun _ => rfl⟩, ok, e⟩
  | step e _ ih =>
    obtain ⟨a, b⟩ := shr_stp hk e
    obtain ⟨c, d, f⟩ := ih b (by rw [a.wi.len]; exact hk)
    exact ⟨a.trans c, d, f⟩
noncomputable def NoHurt (d p : Nat × Bool) : Prop := (d.2 = false → p.2 = true ∨ (p.1 ≠ d.1 ∧ p.1 + 1 ≠ d.1)) ∧ (d.2 = true → p.2 = true ∧ p.1 ≠ d.1 ∧ p.1 ≠ d.1 + 1)
theorem shrc_of {N n s0 s1 k : Nat} {lo : Bool} {ps : List (Nat × Nat)} (h : shr N n s0 s1 ps k lo = none) : ¬ ShrC N n s0 s1 ps k lo := fun c => by rw [shr_yes c] at h; cases h
theorem stuck {N n s0 s1 : Nat} {d p : Nat × Bool} {ps qs : List (Nat × Nat)} (ok : IsCR N n ps) (hd : d.1 < ps.length) (st : Stp p.1 p.2 ps qs) (okq : IsCR N n qs) (nh : NoHurt d p) (h : shr N n s0 s1 ps d.1 d.2 = none) : shr N n s0 s1 qs d.1 d.2 = none := by
  obtain ⟨j, lo⟩ := d
  obtain ⟨k, hi⟩ := p
  obtain ⟨nh1, nh2⟩ := nh
  dsimp only at *
  refine shr_no fun c => shrc_of h ?_
  obtain ⟨c1, c2, c3⟩ := c
  have lq := st.wi.len
  have hdq : j < qs.length := by omega
  obtain ⟨b1, b2, b3, b4⟩ := (cr_set okq hdq).mp c2
  have wl := st.wi.low
  have wh := st.wi.high
  have lo1 := wl j
  have hi1 := wh j
  have okj := cr_le ok hd
  cases lo with
  | false =>
    have same : ∀ i, (i = j ∨ i + 1 = j) → (qs.getD i (0, 0)).2 = (ps.getD i (0, 0)).2 := fun i hi' => by
      by_cases z : i = k
      · rcases nh1 rfl with y | y
        · rw [z]; exact st.highs y
        · omega
      · rw [st.off i z]
    have ej := same j (.inl rfl)
    have c1' := c1 rfl
    unfold nxP at b1 b2 b3 b4
    rw [if_neg Bool.false_ne_true] at b1 b2 b3 b4
    dsimp only at b1 b2 b3 b4
    refine ⟨fun _ => by omega, (cr_set ok hd).mpr ?_, ?_⟩
    · unfold nxP
      rw [if_neg Bool.false_ne_true]
      dsimp only
      refine ⟨by omega, by omega, fun i hi' => ?_, fun h' => ?_⟩
      · have := b3 i hi'
        have := same i (.inr hi')
        have := cr_low ok (i := i) (by omega)
        rw [hi'] at this
        omega
      · have := cr_low ok (i := j) h'
        have := cr_high ok (i := j) h'
        omega
    · have w2 : Wth (ps.set j (nxP false (ps.getD j (0, 0)))) (qs.set j (nxP false (qs.getD j (0, 0)))) := st.wi.set hd (by unfold nxP; rw [if_neg Bool.false_ne_true]; exact lo1) (by unfold nxP; rw [if_neg Bool.false_ne_true]; show (qs.getD j (0, 0)).2 - 1 ≤ (ps.getD j (0, 0)).2 - 1; omega)
      have el : lostP false (qs.getD j (0, 0)) = lostP false (ps.getD j (0, 0)) := ej
      rw [el] at c3
      exact Nat.le_trans c3 (Nat.mul_le_mul_left _ w2.cov)
  | true =>
    obtain ⟨y1, y2, y3⟩ := nh2 rfl
    have ej : (qs.getD j (0, 0)).1 = (ps.getD j (0, 0)).1 := by rw [st.off j (by omega)]
    have en : (qs.getD (j + 1) (0, 0)).1 = (ps.getD (j + 1) (0, 0)).1 := by rw [st.off (j + 1) (by omega)]
    unfold nxP at b1 b2 b3 b4
    rw [if_pos rfl] at b1 b2 b3 b4
    dsimp only at b1 b2 b3 b4
    refine ⟨(fun z => by cases z), (cr_set ok hd).mpr ?_, ?_⟩
    · unfold nxP
      rw [if_pos rfl]
      dsimp only
      refine ⟨by omega, by omega, fun i hi' => ?_, fun h' => ?_⟩
      · have x1 := cr_low ok (i := i) (by omega)
        have x2 := cr_high ok (i := i) (by omega)
        rw [hi'] at x1 x2
        omega
      · have := b4 (by omega)
        have := cr_high ok (i := j) h'
        omega
    · have w2 : Wth (ps.set j (nxP true (ps.getD j (0, 0)))) (qs.set j (nxP true (qs.getD j (0, 0)))) := st.wi.set hd (by unfold nxP; rw [if_pos rfl, if_pos rfl]; show (ps.getD j (0, 0)).1 + 1 ≤ (qs.getD j (0, 0)).1 + 1; omega) (by unfold nxP; rw [if_pos rfl, if_pos rfl]; exact hi1)
      have el : lostP true (qs.getD j (0, 0)) = lostP true (ps.getD j (0, 0)) := ej
      rw [el] at c3
      exact Nat.le_trans c3 (Nat.mul_le_mul_left _ w2.cov)
theorem run_tight {N n s0 s1 : Nat} : ∀ (l : List (Nat × Bool)) (done : List (Nat × Bool)) (ps qs : List (Nat × Nat)), RunAll N n s0 s1 l ps qs → IsCR N n ps → (∀ p ∈ l, p.1 ≤ n) → (∀ d ∈ done, d.1 ≤ n ∧ shr N n s0 s1 ps d.1 d.2 = none) → (∀ d ∈ done, ∀ p ∈ l, NoHurt d p) → l.Pairwise NoHurt →
    (∀ d ∈ done ++ l, shr N n s0 s1 qs d.1 d.2 = none) ∧ IsCR N n qs ∧ Wth ps qs
  | [], done, ps, qs, h, ok, _, hd, _, _ => by
    have e : qs = ps := h
    subst e
    exact ⟨fun d hd' => (hd d (by simpa using hd')).2, ok, Wth.refl _⟩
  | p :: l, done, ps, qs, ⟨r, h1, h2⟩, ok, hp, hd, hn, pw => by
    have lp := ok.len
    have p1 := hp p (.head _)
    obtain ⟨st, okr, nr⟩ := rn_stp h1 ok (by omega)
    obtain ⟨pw1, pw2⟩ := List.pairwise_cons.mp pw
    obtain ⟨a, b, c⟩ := run_tight l (done ++ [p]) r qs h2 okr (fun q hq => hp q (.tail _ hq)) (fun d hd' => by
      rcases List.mem_append.mp hd' with z | z
      · exact ⟨(hd d z).1, stuck ok (by have := (hd d z).1; omega) st okr (hn d z p (.head _)) (hd d z).2⟩
      · rw [List.mem_singleton.mp z]; exact ⟨p1, nr⟩) (fun d hd' q hq => by
      rcases List.mem_append.mp hd' with z | z
      · exact hn d z q (.tail _ hq)
      · rw [List.mem_singleton.mp z]; exact pw1 q hq) pw2
    refine ⟨fun d hd' => a d ?_, b, st.wi.trans c⟩
    rw [List.append_assoc]
    exact hd'
theorem eEnds_pw (n : Nat) : (eEnds n).Pairwise NoHurt := by
  unfold eEnds hiE loE
  refine List.pairwise_append.mpr ⟨?_, ?_, fun a ha b hb => ?_⟩
  · refine List.pairwise_map.mpr (List.pairwise_lt_range.imp fun {a b} h => ⟨fun _ => .inr ⟨?_, ?_⟩, fun z => by cases z⟩)
    · show b ≠ a; omega
    · show b + 1 ≠ a; omega
  · refine List.pairwise_map.mpr (List.Pairwise.imp_of_mem (fun {a b} ha hb h => ⟨(fun z => by cases z), fun _ => ⟨rfl, ?_, ?_⟩⟩) List.pairwise_lt_range)
    · have := List.mem_range.mp hb
      show n - b ≠ n - a
      omega
    · show n - b ≠ n - a + 1
      omega
  · obtain ⟨i, _, rfl⟩ := List.mem_map.mp ha
    obtain ⟨k, _, rfl⟩ := List.mem_map.mp hb
    exact ⟨fun _ => .inl rfl, fun z => by cases z⟩
theorem eEnds_has {n k : Nat} (hk : k ≤ n) (lo : Bool) : (k, lo) ∈ eEnds n := by
  unfold eEnds hiE loE
  cases lo with
  | false => exact List.mem_append_left _ (List.mem_map.mpr ⟨k, List.mem_range.mpr (by omega), rfl⟩)
  | true => exact List.mem_append_right _ (List.mem_map.mpr ⟨n - k, List.mem_range.mpr (by omega), by show (n - (n - k), true) = (k, true); congr 1; omega⟩)
theorem made_is {N n s0 s1 : Nat} {ps qs : List (Nat × Nat)} (h : RunAll N n s0 s1 (eEnds n) ps qs) (ok : IsCR N n ps) : (∀ k lo, k ≤ n → shr N n s0 s1 qs k lo = none) ∧ IsCR N n qs ∧ Wth ps qs := by
  obtain ⟨a, b, c⟩ := run_tight (eEnds n) [] ps qs h ok (fun p hp => eEnds_le hp) (fun d hd => by cases hd) (fun d hd => by cases hd) (eEnds_pw n)
  exact ⟨fun k lo hk => a (k, lo) (eEnds_has hk lo), b, c⟩
theorem boot_ValueError : bootBuiltins "ValueError" = some (.type "ValueError") := by decide +kernel
theorem sc_ls : FnScope ["_law_one", "_law_other"] ["_law_one", "_law_other"] (defScope s_ls) := ⟨rfl, rfl, rfl, by decide +kernel, rfl, by decide +kernel, by decide +kernel⟩
theorem ok_ls {f : Addr} {fd : FuncData} (F : Fun K "_law_less" "_law_less" s_ls f fd) (T : Txt mg) : FnOk P w K mg base CX0 1 f fd ["_law_one", "_law_other"] spUnd := by
  refine F.ok sc_ls (fun vs H Q E h => ?_) (fun cdv A outer s H vs Q E hr h => ?_)
  · obtain ⟨f, g, r, s, rfl, _⟩ := h
    rfl
  obtain ⟨f, g, r, s, rfl, t, u, q⟩ := h
  refine ⟨_, (pss_one (ps_ret (pe_cmpR op_lt (pe_op op_mulK (pe_ix ix_tup (pv 0) pe_int (fun _ _ => rfl)) (pe_ix ix_tup (pv 1) pe_int (fun _ _ => rfl))) (pe_op op_mulK (pe_ix ix_tup (pv 1) pe_int (fun _ _ => rfl)) (pe_ix ix_tup (pv 0) pe_int (fun _ _ => rfl))) (nomark _)))), ?_⟩
  refine ⟨_, rfl, f, _, 0, _, rfl, rfl, SqT.of t.ob, at0, _, rfl, g, _, 1, _, rfl, rfl, SqT.of u.ob, at1, _, _, rfl, rfl, ⟨t.st.smk (by decide), u.sb.smk (by decide)⟩, _, rfl, g, _, 0, _, rfl, rfl, SqT.of u.ob, at0, _, rfl, f, _, 1, _, rfl, rfl, SqT.of t.ob, at1, _, _, rfl, rfl, ⟨u.st.smk (by decide), t.sb.smk (by decide)⟩, _, _, rfl, rfl, ?_⟩
  have e : decide (r.num * (s.den : Int) < s.num * (r.den : Int)) = decide (r < s) := by
    by_cases c : r < s
    · rw [decide_eq_true c, decide_eq_true ((r_under r s).mpr c)]
    · rw [decide_eq_false c, decide_eq_false (fun z => c ((r_under r s).mp z))]
  show Q (.bl (decide (r.num * (s.den : Int) < s.num * (r.den : Int)))) H
  rw [e]
  exact q
theorem full_cr {N n : Nat} (n1 : 1 ≤ n) (n10 : n ≤ 10) (nN : n ≤ N) (N30 : N ≤ 30) : IsCR N n (List.replicate (n + 1) (0, N)) where
  n1 := n1
  n10 := n10
  nN := nN
  N30 := N30
  len := by simp
  le := fun p hp => by
    rw [List.eq_of_mem_replicate hp]
    exact ⟨Nat.zero_le _, Nat.le_refl _⟩
  lows := fun i p q hp hq => by
    rw [List.eq_of_mem_replicate (List.mem_of_getElem? hp), List.eq_of_mem_replicate (List.mem_of_getElem? hq)]
    exact Nat.le_refl _
  highs := fun i p q hp hq => by
    rw [List.eq_of_mem_replicate (List.mem_of_getElem? hp), List.eq_of_mem_replicate (List.mem_of_getElem? hq)]
    exact Nat.le_refl _
noncomputable def spStt (K : PySem.W.Frag) : Sp := fun vs H Q _ => ∃ (a sa : Addr) (ns : List Int) (N n s0 s1 : Nat), vs = [.ref a, .int N, .int n, .ref sa] ∧ SqL K H a (ns.map V.int) ∧ ns.length ≤ 63 ∧ 1 ≤ n ∧ n ≤ 10 ∧ n ≤ N ∧ N ≤ 30 ∧ ShAt H sa s0 s1 ∧ ∀ x H' ps, Same H H' → CRAt H' x N n ps → Q (.ref x) H'
theorem sc_stt : FnScope ["_law_script", "_law_things", "_law_drawn", "_law_share_here", "_law_way"] ["_law_script", "_law_things", "_law_drawn", "_law_share_here"] (defScope s_stt) := ⟨rfl, rfl, rfl, by decide +kernel, rfl, by decide +kernel, by decide +kernel⟩
theorem ok_stt {f : Addr} {fd : FuncData} (F : Fun K "_law_start" "_law_start" s_stt f fd) (T : Txt mg) {fcellU : Addr} {dcellU : FuncData} (GcellU : FnOk P w K mg base CX0 8 fcellU dcellU ["_law_script", "_law_k"] (spCellU K)) (bcellU : Binds K dcellU ["_law_script", "_law_k"] []) (kcellU : PySem.W.keepIn K (.ref fcellU) = true) (mcellU : mg "_law_cell" = some (.ref fcellU)) {futl : Addr} {dutl : FuncData} (Gutl : FnOk P w K mg base CX0 8 futl dutl ["N", "n", "share"] spUt) (butl : Binds K dutl ["N", "n", "share"] []) (kutl : PySem.W.keepIn K (.ref futl) = true) (mutl : mg "urn_tails" = some (.ref futl)) {fcr : Addr} {dcr : FuncData} (Gcr : FnOk P w K mg base CX0 8 fcr dcr ["_law_script", "_law_things", "_law_drawn", "_law_start_here"] (spCr K)) (bcr : Binds K dcr ["_law_script", "_law_things", "_law_drawn", "_law_start_here"] []) (kcr : PySem.W.keepIn K (.ref fcr) = true) (mcr : mg "_law_rule" = some (.ref fcr)) : FnOk P w K mg base CX0 9 f fd ["_law_script", "_law_things", "_law_drawn", "_law_share_here"] (spStt K) := by
  refine F.ok sc_stt (fun vs H Q E h => ?_) (fun cdv A outer s H vs Q E hr h => ?_)
  · obtain ⟨a, sa, ns, N, n, s0, s1, rfl, _⟩ := h
    rfl
  obtain ⟨a, sa, ns, N, n, s0, s1, rfl, hS, h63, n1, n10, nN, N30, sh, q⟩ := h
  refine ⟨_, (pss_cons (ps_set (i := 4) sc_stt.nd rfl (Or.inl rfl) (pe_op op_mod (pe_call GcellU hr rfl mcellU kcellU bcellU .nil pass0 (pa_cons (pv 0) (pa_cons pe_int pa_nil))) pe_int))
    (pss_cons (ps_if (pt_cmpR op_lt (pv 4) pe_int (nomark _)) (pss_one (ps_ret (pe_call Gutl hr rfl mutl kutl butl .nil pass0 (pa_cons (pv 1) (pa_cons (pv 2) (pa_cons (pv 3) pa_nil)))))) pss_nil)
    (pss_cons (ps_if (pt_cmpR op_lt (pv 4) pe_int (nomark _)) (pss_one (ps_ret (pe_tup (pa_cons (pv 1) (pa_cons (pv 2) (pa_cons (pe_callTy call_tuple_of rfl T.tuple boot_tuple (pa_cons (pe_comp (ts := [("_law_things", 1)]) rfl ⟨rfl, sub1 rfl, rfl, rfl, rfl, rfl, by decide +kernel, rfl, rfl⟩ (pi_range1 rfl T.range (pa_cons (pe_op op_add (pv 2) pe_int) pa_nil)) (fun C s3 H3 fp => (pe_tup (pa_cons pe_int (pa_cons (pv 1) pa_nil))))) pa_nil)) pa_nil)))))) pss_nil)
    (pss_one (ps_ret (pe_call Gcr hr rfl mcr kcr bcr .nil pass0 (pa_cons (pv 0) (pa_cons (pv 1) (pa_cons (pv 2) (pa_cons pe_int pa_nil)))))))))), ?_⟩
  refine ⟨_, rfl, a, ns, 50, rfl, hS, h63, by decide, by decide, fun r r0 r1 => ?_⟩
  refine ⟨_, _, rfl, rfl, (by show (0 : Int) < 5; decide), ?_⟩
  dsimp only
  generalize r % 5 = way
  refine ⟨_, rfl, _, _, rfl, rfl, _, rfl, ?_⟩
  refine ite2 (fun d => ?_) (fun d => ?_)
  · exact ⟨_, rfl, _, rfl, _, rfl, N, n, s0, s1, sa, rfl, sh.ob, n1, n10, nN, N30, sh.h0, sh.h1, sh.h2, fun x H' s' hx => q x H' _ s' hx⟩
  refine ⟨_, rfl, _, _, rfl, rfl, _, rfl, ?_⟩
  refine ite2 (fun d2 => ?_) (fun d2 => ?_)
  · have en : ((n : Int) + 1).toNat = n + 1 := by omega
    refine ⟨_, rfl, _, rfl, _, rfl, _, _, rfl, rfl, _, rfl, by omega, by omega, fun D hD => ?_⟩
    rw [en]
    refine comp_rangeR (fun i ys H' => RowN H' (List.replicate i (0, N)) ys) hD (Nat.le_of_lt (lt40 (by omega))) rfl ?_ ?_
    · rintro i ys H2 k hi sm e row hk
      refine ⟨_, rfl, (by show 2 ≤ sizeLine; decide), fun p hp => ?_⟩
      have sp := same_new hp (.tup [V.int 0, V.int (N : Int)])
      refine hk _ _ sp ?_
      rw [List.replicate_succ']
      exact ((row.keep sp).app (show RowN _ [(0, N)] [.ref p] from ⟨p, [], rfl, upd_same, rfl⟩)).write (sp _ _ e)
    · rintro ys H2 s2 hD2 hl2 row
      refine ⟨D, ys, rfl, .inl ⟨SqL.of hD2, fun t ht => ?_⟩⟩
      have s9 := same_new ht (.tup ys)
      have t9 : (upd H2 t (.tup ys)) t = some (.tup ys) := upd_same
      refine ⟨(by show 3 ≤ sizeLine; decide), fun x hx => ?_⟩
      have s10 := same_new hx (.tup [V.int N, V.int n, V.ref t])
      exact q x _ _ ((s2.trans s9).trans s10) ⟨⟨t, ys, upd_same, s10 _ _ t9, (row.keep s9).keep s10⟩, full_cr n1 n10 nN N30⟩
  · exact ⟨_, rfl, _, rfl, _, rfl, a, ns, N, n, 4, rfl, hS, h63, by decide, by decide, n1, n10, nN, N30, fun x H' ps s' hx => q x H' ps s' hx⟩
noncomputable def spRef (T : Addr) : Sp := fun vs H Q _ => ∃ (x a : Addr) (N n s0 s1 T0 : Nat) (ps : List (Nat × Nat)), vs = [.ref x, .ref a] ∧ CRAt H x N n ps ∧ ShAt H a s0 s1 ∧ TbAt T H ∧ T0 ≤ N ∧ (∀ T', T' < T0 → s0 * binom N n ≤ s1 * cwy N n ps T') ∧ ¬ s0 * binom N n ≤ s1 * cwy N n ps T0 ∧
  ∀ H', Same H H' → Q (.int (T0 : Int)) H'
theorem sc_ref : FnScope ["_law_rule_here", "_law_share_here", "_law_caught", "e"] ["_law_rule_here", "_law_share_here"] (defScope s_ref) := ⟨rfl, rfl, rfl, by decide +kernel, rfl, by decide +kernel, by decide +kernel⟩
theorem ok_ref {C : CA} {f : Addr} {fd : FuncData} (F : Fun K "_law_refused" "_law_refused" s_ref f fd) (T : Txt mg) (cf : CF K mg C) {futg : Addr} {dutg : FuncData} (Gutg : FnOk P w K mg base (CXD P w) 11 futg dutg ["rule", "share"] (spUtgD C.NotSure TB)) (butg : Binds K dutg ["rule", "share"] []) (kutg : PySem.W.keepIn K (.ref futg) = true) (mutg : mg "urn_tight" = some (.ref futg)) : FnOk P w K mg base CX0 12 f fd ["_law_rule_here", "_law_share_here"] (spRef TB) := by
  refine F.ok sc_ref (fun vs H Q E h => ?_) (fun cdv A outer s H vs Q E hr h => ?_)
  · obtain ⟨x, a, N, n, s0, s1, T0, ps, rfl, _⟩ := h
    rfl
  obtain ⟨x, a, N, n, s0, s1, T0, ps, rfl, hx, sh, tb, h0, lt, no, q⟩ := h
  refine ⟨_, (pss_cons (ps_set (i := 2) sc_ref.nd rfl (Or.inl rfl) pe_non)
    (pss_cons (ps_tryD (i := 3) ⟨rfl, rfl, rfl⟩ sc_ref.nd rfl rfl rfl cf.mStretchError cf.cStretchError (fun xe pn E hp => (pss_one (ps_expr (pe_callS Gutg hr rfl mutg kutg butg .nil hp (pa_cons (pv 0) (pa_cons (pv 1) pa_nil)))))) (fun e oe => (pss_one (ps_set (i := 2) sc_ref.nd rfl (Or.inl rfl) (pv 3)))))
    (pss_cons (ps_if (PW.pt (pw_or (pt_not (pt_val (pe_callB call_isinstF rfl T.isinstance boot_isinstance (pa_cons (pv 2) (pa_cons (pe_glob (v := .ref C.NotSure) rfl cf.mNotSure rfl) pa_nil))))) (pw_or1 (pt_not (pt_val (pe_callB call_isinstFB rfl T.isinstance boot_isinstance (pa_cons (pv 2) (pa_cons (pe_bltn (v := .ty "ValueError") rfl T.ValueError boot_ValueError rfl) pa_nil)))))))) (pss_one (ps_ret pe_non)) pss_nil)
    (pss_one (ps_ret (pe_attrX (pv 2) rfl)))))), ?_⟩
  dsimp only
  refine seq_by (fun σ G => G = H ∧ σ = [some (.ref x), some (.ref a), some .non, none]) (fun M hM => hM _ _ ⟨rfl, rfl⟩) ?_
  rintro σ G ⟨rfl, rfl⟩
  refine seq_by (fun σ G' => Same G G' ∧ ∃ e dx, σ = [some (.ref x), some (.ref a), some (.ref e), none] ∧ G' e = some (XOD (.ref C.NotSure) (some dx) e) ∧ G' dx = some (.xd [("at", .int (T0 : Int))])) ?_ ?_
  · intro M hM
    refine ⟨_, rfl, _, rfl, x, a, N, n, s0, s1, ps, rfl, hx, sh, tb, fun su => absurd (su T0 h0) no, fun T1 dx H' h1 lt1 no1 s1' hd => ⟨cf.sub1, fun e oe hn hoe => ?_⟩⟩
    have eT : T1 = T0 := by
      rcases Nat.lt_trichotomy T1 T0 with z | z | z
      · exact absurd (lt T1 z) no1
      · exact z
      · exact absurd (lt1 T0 z) no
    subst eT
    refine ⟨_, rfl, hM _ _ ⟨fun b o eb => ?_, e, dx, rfl, upd_same, ?_⟩⟩
    · rw [upd_ne (ne_of_none (s1' _ _ eb) hn)]
      exact s1' _ _ eb
    · rw [upd_ne (ne_of_none hd hn)]
      exact hd
  rintro σ G' ⟨sG, e, dx, rfl, he, hd⟩
  refine ⟨_, rfl, e, C.NotSure, C.NotSure, some dx, true, rfl, he, cf.iNotSure, cf.kit1, _, rfl, ?_⟩
  refine iteF ⟨_, rfl, e, C.NotSure, "ValueError", some dx, true, rfl, he, cf.iNotSure, cf.kit2, _, rfl, ?_⟩
  exact iteF ⟨_, rfl, e, C.NotSure, dx, _, _, rfl, he, hd, cf.gNotSure, rfl, q G' sG⟩
noncomputable def atN (lo : Bool) : Int := if lo = true then 0 else 1
theorem mv_pair (lo : Bool) (p : Nat × Nat) : ((p.1 : Int) + 1 - atN lo, (p.2 : Int) - atN lo) = mvI lo p := by
  cases lo with
  | true => exact Prod.ext (by show (p.1 : Int) + 1 - 0 = (p.1 : Int) + 1; omega) (by show (p.2 : Int) - 0 = (p.2 : Int); omega)
  | false => exact Prod.ext (by show (p.1 : Int) + 1 - 1 = (p.1 : Int); omega) rfl
noncomputable def spMvd : Sp := fun vs H Q _ => ∃ (x a : Addr) (N n s0 s1 k : Nat) (ps : List (Nat × Nat)) (lo : Bool), vs = [.ref x, .int k, .int (atN lo), .ref a] ∧ CRAt H x N n ps ∧ k ≤ n ∧ ShAt H a s0 s1 ∧
  ∀ v H', Same H H' → ShV H' N n (shr N n s0 s1 ps k lo) v → Q v H'
theorem some_at {H : Hp} {ps : List (Nat × Nat)} {zs : List V} {k j : Nat} {c : Addr} (row : RowN H ps zs) (hj : j < ps.length) (ne : j ≠ k) : ∃ b, (zs.set k (.ref c))[j]? = some (.ref b) ∧ H b = some (.tup [.int ((ps.getD j (0, 0)).1 : Int), .int ((ps.getD j (0, 0)).2 : Int)]) := by
  obtain ⟨b, f1, f2⟩ := row.get (List.getElem?_eq_getElem hj)
  refine ⟨b, by rw [List.getElem?_set_ne (Ne.symm ne)]; exact f1, ?_⟩
  rw [getD_in hj]
  exact f2
theorem pair_shr {lo : Bool} {p : Nat × Nat} (h : (mvI lo p).1 ≤ (mvI lo p).2) : zP (nxP lo p) = mvI lo p ∧ (lo = false → 1 ≤ p.2) := by
  cases lo with
  | true => exact ⟨rfl, fun z => by cases z⟩
  | false =>
    have h' : (p.1 : Int) ≤ (p.2 : Int) - 1 := h
    refine ⟨Prod.ext rfl ?_, fun _ => by omega⟩
    show ((p.2 - 1 : Nat) : Int) = (p.2 : Int) - 1
    omega
theorem sc_mvd : FnScope ["_law_rule_here", "_law_k", "_law_at", "_law_share_here", "_law_pair", "_law_some"] ["_law_rule_here", "_law_k", "_law_at", "_law_share_here"] (defScope s_mvd) := ⟨rfl, rfl, rfl, by decide +kernel, rfl, by decide +kernel, by decide +kernel⟩
theorem ok_mvd {f : Addr} {fd : FuncData} (F : Fun K "_law_moved" "_law_moved" s_mvd f fd) (T : Txt mg) {fucov : Addr} {ducov : FuncData} (Gucov : FnOk P w K mg base CX0 6 fucov ducov ["rule", "T"] spUcov) (bucov : Binds K ducov ["rule", "T"] []) (kucov : PySem.W.keepIn K (.ref fucov) = true) (mucov : mg "urn_cover" = some (.ref fucov)) {fls : Addr} {dls : FuncData} (Gls : FnOk P w K mg base CX0 6 fls dls ["_law_one", "_law_other"] spUnd) (bls : Binds K dls ["_law_one", "_law_other"] []) (kls : PySem.W.keepIn K (.ref fls) = true) (mls : mg "_law_less" = some (.ref fls)) : FnOk P w K mg base CX0 7 f fd ["_law_rule_here", "_law_k", "_law_at", "_law_share_here"] spMvd := by
  refine F.ok sc_mvd (fun vs H Q E h => ?_) (fun cdv A outer s H vs Q E hr h => ?_)
  · obtain ⟨x, a, N, n, s0, s1, k, ps, lo, rfl, _⟩ := h
    rfl
  obtain ⟨x, a, N, n, s0, s1, k, ps, lo, rfl, hx, hk, sh, q⟩ := h
  refine ⟨_, (pss_cons (ps_set (i := 4) sc_mvd.nd rfl (Or.inl rfl) (pe_tup (pa_cons (pe_op op_sub (pe_op op_add (pe_ix ix_tup (pe_ix ix_tup (pe_ix ix_tup (pv 0) pe_int (fun _ _ => rfl)) (pv 1) (fun _ _ => rfl)) pe_int (fun _ _ => rfl)) pe_int) (pv 2)) (pa_cons (pe_op op_sub (pe_ix ix_tup (pe_ix ix_tup (pe_ix ix_tup (pv 0) pe_int (fun _ _ => rfl)) (pv 1) (fun _ _ => rfl)) pe_int (fun _ _ => rfl)) (pv 2)) pa_nil))))
    (pss_cons (ps_set (i := 5) sc_mvd.nd rfl (Or.inl rfl) (pe_op op_catU (pe_op op_catU (pe_slice sl_tup (pe_ix ix_tup (pv 0) pe_int (fun _ _ => rfl)) po_none (po_some (pv 1))) (pe_tup (pa_cons (pv 4) pa_nil))) (pe_slice sl_tup (pe_ix ix_tup (pv 0) pe_int (fun _ _ => rfl)) (po_some (pe_op op_add (pv 1) pe_int)) po_none)))
    (pss_cons (ps_if (PW.pt (pw_or (pt_cmpR op_gt (pe_ix ix_tup (pv 4) pe_int (fun _ _ => rfl)) (pe_ix ix_tup (pv 4) pe_int (fun _ _ => rfl)) (nomark _)) (pw_or1 (PW.pt (pw_and (pt_cmpR op_gt (pv 1) pe_int (nomark _)) (pw_and1 (PW.pt (pw_or (pt_cmpR op_gt (pe_ix ix_tup (pe_ix ix_tup (pv 5) (pe_op op_sub (pv 1) pe_int) (fun _ _ => rfl)) pe_int (fun _ _ => rfl)) (pe_ix ix_tup (pv 4) pe_int (fun _ _ => rfl)) (nomark _)) (pw_or1 (pt_cmpR op_gt (pe_ix ix_tup (pe_ix ix_tup (pv 5) (pe_op op_sub (pv 1) pe_int) (fun _ _ => rfl)) pe_int (fun _ _ => rfl)) (pe_ix ix_tup (pv 4) pe_int (fun _ _ => rfl)) (nomark _))))))))))) (pss_one (ps_ret pe_non)) pss_nil)
    (pss_cons (ps_if (PW.pt (pw_and (pt_cmpR op_lt (pv 1) (pe_ix ix_tup (pv 0) pe_int (fun _ _ => rfl)) (nomark _)) (pw_and1 (PW.pt (pw_or (pt_cmpR op_lt (pe_ix ix_tup (pe_ix ix_tup (pv 5) (pe_op op_add (pv 1) pe_int) (fun _ _ => rfl)) pe_int (fun _ _ => rfl)) (pe_ix ix_tup (pv 4) pe_int (fun _ _ => rfl)) (nomark _)) (pw_or1 (pt_cmpR op_lt (pe_ix ix_tup (pe_ix ix_tup (pv 5) (pe_op op_add (pv 1) pe_int) (fun _ _ => rfl)) pe_int (fun _ _ => rfl)) (pe_ix ix_tup (pv 4) pe_int (fun _ _ => rfl)) (nomark _)))))))) (pss_one (ps_ret pe_non)) pss_nil)
    (pss_cons (ps_if (pt_val (pe_call Gls hr rfl mls kls bls .nil pass0 (pa_cons (pe_call Gucov hr rfl mucov kucov bucov .nil pass0 (pa_cons (pe_tup (pa_cons (pe_ix ix_tup (pv 0) pe_int (fun _ _ => rfl)) (pa_cons (pe_ix ix_tup (pv 0) pe_int (fun _ _ => rfl)) (pa_cons (pv 5) pa_nil)))) (pa_cons (pe_ix ix_tup (pe_ix ix_tup (pe_ix ix_tup (pv 0) pe_int (fun _ _ => rfl)) (pv 1) (fun _ _ => rfl)) (pv 2) (fun _ _ => rfl)) pa_nil))) (pa_cons (pv 3) pa_nil)))) (pss_one (ps_ret pe_non)) pss_nil)
    (pss_one (ps_ret (pe_tup (pa_cons (pe_ix ix_tup (pv 0) pe_int (fun _ _ => rfl)) (pa_cons (pe_ix ix_tup (pv 0) pe_int (fun _ _ => rfl)) (pa_cons (pv 5) pa_nil))))))))))), ?_⟩
  obtain ⟨t, zs, ox, ot, row⟩ := hx.ob
  have ok := hx.ok
  have lp := ok.len
  have n10 := ok.n10
  have lz := row.len
  have hkl : k < ps.length := by omega
  have hkz : k < zs.length := by omega
  have ep := List.getElem?_eq_getElem hkl
  have gp : ps.getD k (0, 0) = ps[k] := getD_in hkl
  obtain ⟨b, f1, f2⟩ := row.get ep
  rw [← gp] at f2
  have okk := cr_le ok hkl
  have at2' : atI [V.int N, V.int n, V.ref t] 2 = some (.ref t) := at2
  have one : 1 ≤ sizeLine := by decide
  have two : 2 ≤ sizeLine := by decide
  have sz : ∀ {m : Nat}, m ≤ 40 → m ≤ sizeLine := fun h => Nat.le_of_lt (lt40 h)
  generalize hp : ps.getD k (0, 0) = p at *
  have none_of : (¬ IsCR N n (ps.set k (nxP lo p)) ∨ ¬ (lo = false → 1 ≤ p.2)) → shr N n s0 s1 ps k lo = none := fun h => shr_no fun c => by
    obtain ⟨c1, c2, _⟩ := c
    rw [hp] at c1 c2
    rcases h with h | h
    · exact h c2
    · exact h c1
  refine ⟨_, rfl, x, _, 2, _, rfl, rfl, SqT.of ox, at2', _, rfl, t, _, _, _, rfl, rfl, SqT.of ot, atI_nat f1, b, _, 0, _, rfl, rfl, SqT.of f2, at0, _, _, rfl, rfl, _, rfl, _, _, rfl, rfl,
    _, rfl, x, _, 2, _, rfl, rfl, SqT.of ox, at2', _, rfl, t, _, _, _, rfl, rfl, SqT.of ot, atI_nat f1, b, _, 1, _, rfl, rfl, SqT.of f2, at1, _, rfl, _, _, rfl, rfl, two, fun c hc => ?_⟩
  have e0 := congrArg Prod.fst (mv_pair lo p)
  have e1 := congrArg Prod.snd (mv_pair lo p)
  dsimp only at e0 e1
  dsimp only
  rw [e0, e1]
  have w0 := same_new hc (.tup [V.int (mvI lo p).1, V.int (mvI lo p).2])
  have xc : upd H c (.tup [V.int (mvI lo p).1, V.int (mvI lo p).2]) c = some (.tup [V.int (mvI lo p).1, V.int (mvI lo p).2]) := upd_same
  generalize upd H c (.tup [V.int (mvI lo p).1, V.int (mvI lo p).2]) = H1 at *
  have c1 : ¬ (HT.sIx zs.length 0 none = 0 ∧ HT.sIx zs.length zs.length (some (k : Int)) = zs.length) := by rw [HT.sIx_nat]; omega
  have c2 : ¬ (HT.sIx zs.length 0 (some ((k : Int) + 1)) = 0 ∧ HT.sIx zs.length zs.length none = zs.length) := by
    rw [show ((k : Int) + 1) = ((k + 1 : Nat) : Int) from rfl, HT.sIx_nat]
    omega
  have g1 := cutV_up (ws := zs) (k := k) (by omega)
  have g2 : cutV zs (some ((k : Int) + 1)) none = zs.drop (k + 1) := cutV_from (ws := zs) (k := k + 1) (by omega)
  have es := fun y => set_cut (x := y) hkz
  refine seq_by (fun σ G => Same H1 G ∧ ∃ y, σ = [some (.ref x), some (.int k), some (.int (atN lo)), some (.ref a), some (.ref c), some (.ref y)] ∧ G y = some (.tup (zs.set k (.ref c)))) ?_ ?_
  · intro M hM
    refine ⟨_, rfl, x, _, 2, _, rfl, rfl, SqT.of (w0 _ _ ox), at2', _, rfl, _, rfl, t, zs, rfl, SqT.of (w0 _ _ ot), c1, fun p1 h1 => ?_⟩
    rw [g1]
    have w1 := same_new h1 (.tup (zs.take k))
    have x1 : upd H1 p1 (.tup (zs.take k)) p1 = some (.tup (zs.take k)) := upd_same
    generalize upd H1 p1 (.tup (zs.take k)) = G1 at *
    refine ⟨_, rfl, one, fun p2 h2 => ?_⟩
    have w2 := same_new h2 (.tup [V.ref c])
    have x2 : upd G1 p2 (.tup [V.ref c]) p2 = some (.tup [V.ref c]) := upd_same
    generalize upd G1 p2 (.tup [V.ref c]) = G2 at *
    have hne : k ≠ 0 → zs.take k ≠ [] := fun z1 z => by
      have z2 : (zs.take k).length = 0 := by rw [z]; rfl
      rw [List.length_take] at z2
      omega
    by_cases hk0 : k = 0
    · refine .inl ⟨p1, p2, _, rfl, rfl, SqT.of (by rw [w2 _ _ x1, hk0]; rfl), SqT.of x2, ?_⟩
      refine ⟨_, rfl, x, _, 2, _, rfl, rfl, SqT.of ((w1.trans w2) _ _ (w0 _ _ ox)), at2', _, rfl, _, _, rfl, rfl, _, rfl, t, zs, rfl, SqT.of ((w1.trans w2) _ _ (w0 _ _ ot)), c2, fun p4 h4 => ?_⟩
      rw [g2]
      have w4 := same_new h4 (.tup (zs.drop (k + 1)))
      have x4 : upd G2 p4 (.tup (zs.drop (k + 1))) p4 = some (.tup (zs.drop (k + 1))) := upd_same
      generalize upd G2 p4 (.tup (zs.drop (k + 1))) = G4 at *
      have x4' := w4 _ _ x2
      refine .inr ⟨p2, p4, [V.ref c], zs.drop (k + 1), rfl, rfl, SqT.of x4', SqT.of x4, by simp, sz (by simp; omega), fun z => ?_, fun z p5 h5 => ?_⟩
      · refine hM _ _ ⟨(w1.trans w2).trans w4, p2, rfl, ?_⟩
        rw [x4', ← es, z] <;> simp [hk0]
      · have w5 := same_new h5 (.tup ([V.ref c] ++ zs.drop (k + 1)))
        refine hM _ _ ⟨((w1.trans w2).trans w4).trans w5, p5, rfl, ?_⟩
        rw [upd_same, ← es] <;> simp [hk0]
    · refine .inr ⟨p1, p2, _, _, rfl, rfl, SqT.of (w2 _ _ x1), SqT.of x2, (hne hk0), sz (by simp; omega), fun z => absurd z (by simp), fun _ p3 h3 => ?_⟩
      have w3 := same_new h3 (.tup (zs.take k ++ [V.ref c]))
      have x3 : upd G2 p3 (.tup (zs.take k ++ [V.ref c])) p3 = some (.tup (zs.take k ++ [V.ref c])) := upd_same
      generalize upd G2 p3 (.tup (zs.take k ++ [V.ref c])) = G3 at *
      have w03 := (w1.trans w2).trans w3
      refine ⟨_, rfl, x, _, 2, _, rfl, rfl, SqT.of (w03 _ _ (w0 _ _ ox)), at2', _, rfl, _, _, rfl, rfl, _, rfl, t, zs, rfl, SqT.of (w03 _ _ (w0 _ _ ot)), c2, fun p4 h4 => ?_⟩
      rw [g2]
      have w4 := same_new h4 (.tup (zs.drop (k + 1)))
      have x4 : upd G3 p4 (.tup (zs.drop (k + 1))) p4 = some (.tup (zs.drop (k + 1))) := upd_same
      generalize upd G3 p4 (.tup (zs.drop (k + 1))) = G4 at *
      have x4' := w4 _ _ x3
      refine .inr ⟨p3, p4, (zs.take k ++ [V.ref c]), zs.drop (k + 1), rfl, rfl, SqT.of x4', SqT.of x4, by simp, sz (by simp; omega), fun z => ?_, fun z p5 h5 => ?_⟩
      · refine hM _ _ ⟨w03.trans w4, p3, rfl, ?_⟩
        rw [x4', ← es, z] <;> simp
      · have w5 := same_new h5 (.tup ((zs.take k ++ [V.ref c]) ++ zs.drop (k + 1)))
        refine hM _ _ ⟨(w03.trans w4).trans w5, p5, rfl, ?_⟩
        rw [upd_same, ← es] <;> simp
  rintro σ G ⟨sG, y, rfl, hy⟩
  have sH := w0.trans sG
  have hcG := sG _ _ xc
  have rowG := row.keep sH
  have lset : (zs.set k (.ref c)).length = zs.length := List.length_set ..
  have ok_k : (zs.set k (V.ref c))[k]? = some (.ref c) := List.getElem?_set_self hkz
  have no : shr N n s0 s1 ps k lo = none → ∀ H', Same G H' → Q .non H' := fun h H' s' => q _ _ (sH.trans s') (by rw [h]; rfl)
  have ahead : ∀ j, j + 1 = k → ∃ d, (zs.set k (V.ref c))[j]? = some (.ref d) ∧ G d = some (.tup [.int ((ps.getD j (0, 0)).1 : Int), .int ((ps.getD j (0, 0)).2 : Int)]) := fun j hj => some_at rowG (by omega) (by omega)
  have behind : k < n → ∃ d, (zs.set k (V.ref c))[k + 1]? = some (.ref d) ∧ G d = some (.tup [.int ((ps.getD (k + 1) (0, 0)).1 : Int), .int ((ps.getD (k + 1) (0, 0)).2 : Int)]) := fun hj => some_at rowG (by omega) (by omega)
  have crI : (mvI lo p).1 ≤ (mvI lo p).2 → (IsCR N n (ps.set k (nxP lo p)) ↔ ((∀ j, j + 1 = k → ((ps.getD j (0, 0)).1 : Int) ≤ (mvI lo p).1 ∧ ((ps.getD j (0, 0)).2 : Int) ≤ (mvI lo p).2) ∧ (k < n → (mvI lo p).1 ≤ ((ps.getD (k + 1) (0, 0)).1 : Int) ∧ (mvI lo p).2 ≤ ((ps.getD (k + 1) (0, 0)).2 : Int)))) := fun hle => by
    obtain ⟨ez, _⟩ := pair_shr hle
    have z1 : ((nxP lo p).1 : Int) = (mvI lo p).1 := congrArg Prod.fst ez
    have z2 : ((nxP lo p).2 : Int) = (mvI lo p).2 := congrArg Prod.snd ez
    have z3 : (nxP lo p).2 ≤ N := by
      have := okk.2
      unfold nxP
      split
      · exact this
      · show p.2 - 1 ≤ N; omega
    rw [cr_set ok hkl, ← z1, ← z2]
    constructor
    · rintro ⟨a1, a2, a3, a4⟩
      exact ⟨fun j hj => ⟨by have := (a3 j hj).1; omega, by have := (a3 j hj).2; omega⟩, fun h => ⟨by have := (a4 (by omega)).1; omega, by have := (a4 (by omega)).2; omega⟩⟩
    · rintro ⟨a3, a4⟩
      refine ⟨by omega, z3, fun j hj => ⟨by have := (a3 j hj).1; omega, by have := (a3 j hj).2; omega⟩, fun h => ⟨by have := (a4 (by omega)).1; omega, by have := (a4 (by omega)).2; omega⟩⟩
  refine seq_by (fun σ G' => G' = G ∧ σ = [some (.ref x), some (.int k), some (.int (atN lo)), some (.ref a), some (.ref c), some (.ref y)] ∧ (mvI lo p).1 ≤ (mvI lo p).2 ∧ (∀ j, j + 1 = k → ((ps.getD j (0, 0)).1 : Int) ≤ (mvI lo p).1 ∧ ((ps.getD j (0, 0)).2 : Int) ≤ (mvI lo p).2)) ?_ ?_
  · intro M hM
    refine ⟨_, rfl, c, _, 0, _, rfl, rfl, SqT.of hcG, at0, _, rfl, c, _, 1, _, rfl, rfl, SqT.of hcG, at1, _, _, rfl, rfl, _, rfl, ?_⟩
    by_cases d1 : (mvI lo p).2 < (mvI lo p).1
    · rw [decide_eq_true d1]
      refine iteT (no (none_of ?_) _ (Same.refl G))
      by_cases y1 : lo = false → 1 ≤ p.2
      · refine .inl fun z => ?_
        have := (cr_set ok hkl).mp z
        have y2 := this.1
        unfold nxP at y2
        unfold mvI at d1
        cases lo with
        | true =>
          rw [if_pos rfl] at y2 d1
          dsimp only at y2 d1
          omega
        | false =>
          have := y1 rfl
          rw [if_neg Bool.false_ne_true] at y2 d1
          dsimp only at y2 d1
          omega
      · exact .inr y1
    · rw [decide_eq_false d1]
      have d1' : (mvI lo p).1 ≤ (mvI lo p).2 := by omega
      refine iteF ⟨_, rfl, _, _, rfl, rfl, _, rfl, ?_⟩
      by_cases d2 : 0 < k
      · rw [decide_eq_true (show (0 : Int) < (k : Int) by omega)]
        obtain ⟨j, hj⟩ : ∃ j, j + 1 = k := ⟨k - 1, by omega⟩
        obtain ⟨d, g1', g2'⟩ := ahead j hj
        have ek : (k : Int) - 1 = (j : Int) := by omega
        have atj : atI (zs.set k (V.ref c)) ((k : Int) - 1) = some (.ref d) := by rw [ek]; exact atI_nat g1'
        refine iteT ⟨_, rfl, _, rfl, _, _, rfl, rfl, y, _, _, _, rfl, rfl, SqT.of hy, atj, d, _, 0, _, rfl, rfl, SqT.of g2', at0, _, rfl, c, _, 0, _, rfl, rfl, SqT.of hcG, at0, _, _, rfl, rfl, _, rfl, ?_⟩
        by_cases d3 : (mvI lo p).1 < ((ps.getD j (0, 0)).1 : Int)
        · rw [decide_eq_true d3]
          refine iteT (no (none_of (.inl fun z => ?_)) _ (Same.refl G))
          have := (((crI d1').mp z).1 j hj).1
          omega
        · rw [decide_eq_false d3]
          refine iteF ⟨_, rfl, _, rfl, _, _, rfl, rfl, y, _, _, _, rfl, rfl, SqT.of hy, atj, d, _, 1, _, rfl, rfl, SqT.of g2', at1, _, rfl, c, _, 1, _, rfl, rfl, SqT.of hcG, at1, _, _, rfl, rfl, _, rfl, ?_⟩
          by_cases d4 : (mvI lo p).2 < ((ps.getD j (0, 0)).2 : Int)
          · rw [decide_eq_true d4]
            refine iteT (no (none_of (.inl fun z => ?_)) _ (Same.refl G))
            have := (((crI d1').mp z).1 j hj).2
            omega
          · rw [decide_eq_false d4]
            refine iteF (hM _ _ ⟨rfl, rfl, d1', fun i hi => ?_⟩)
            have : i = j := by omega
            subst this
            omega
      · rw [decide_eq_false (show ¬ (0 : Int) < (k : Int) by omega)]
        exact iteF (hM _ _ ⟨rfl, rfl, d1', fun i hi => by omega⟩)
  rintro σ G' ⟨rfl, rfl, d1, d2⟩
  refine seq_by (fun σ G2 => G2 = G' ∧ σ = [some (.ref x), some (.int k), some (.int (atN lo)), some (.ref a), some (.ref c), some (.ref y)] ∧ IsCR N n (ps.set k (nxP lo p))) ?_ ?_
  · intro M hM
    refine ⟨_, rfl, _, rfl, x, _, 1, _, rfl, rfl, SqT.of (sH _ _ ox), at1, _, _, rfl, rfl, _, rfl, ?_⟩
    by_cases d3 : k < n
    · rw [decide_eq_true (show (k : Int) < (n : Int) by omega)]
      obtain ⟨d, g1', g2'⟩ := behind d3
      have atj : atI (zs.set k (V.ref c)) ((k : Int) + 1) = some (.ref d) := atI_nat (j := k + 1) g1'
      refine iteT ⟨_, rfl, _, rfl, _, _, rfl, rfl, y, _, _, _, rfl, rfl, SqT.of hy, atj, d, _, 0, _, rfl, rfl, SqT.of g2', at0, _, rfl, c, _, 0, _, rfl, rfl, SqT.of hcG, at0, _, _, rfl, rfl, _, rfl, ?_⟩
      by_cases d4 : ((ps.getD (k + 1) (0, 0)).1 : Int) < (mvI lo p).1
      · rw [decide_eq_true d4]
        refine iteT (no (none_of (.inl fun z => ?_)) _ (Same.refl _))
        have := (((crI d1).mp z).2 d3).1
        omega
      · rw [decide_eq_false d4]
        refine iteF ⟨_, rfl, _, rfl, _, _, rfl, rfl, y, _, _, _, rfl, rfl, SqT.of hy, atj, d, _, 1, _, rfl, rfl, SqT.of g2', at1, _, rfl, c, _, 1, _, rfl, rfl, SqT.of hcG, at1, _, _, rfl, rfl, _, rfl, ?_⟩
        by_cases d5 : ((ps.getD (k + 1) (0, 0)).2 : Int) < (mvI lo p).2
        · rw [decide_eq_true d5]
          refine iteT (no (none_of (.inl fun z => ?_)) _ (Same.refl _))
          have := (((crI d1).mp z).2 d3).2
          omega
        · rw [decide_eq_false d5]
          exact iteF (hM _ _ ⟨rfl, rfl, (crI d1).mpr ⟨d2, fun _ => ⟨by omega, by omega⟩⟩⟩)
    · rw [decide_eq_false (show ¬ (k : Int) < (n : Int) by omega)]
      exact iteF (hM _ _ ⟨rfl, rfl, (crI d1).mpr ⟨d2, fun z => absurd z d3⟩⟩)
  rintro σ G2 ⟨rfl, rfl, cr⟩
  obtain ⟨ez, h1⟩ := pair_shr d1
  have oxG := sH _ _ ox
  have otG := sH _ _ ot
  have rowS : RowN G2 (ps.set k (nxP lo p)) (zs.set k (.ref c)) := rown_set rowG (by
    have z1 : ((nxP lo p).1 : Int) = (mvI lo p).1 := congrArg Prod.fst ez
    have z2 : ((nxP lo p).2 : Int) = (mvI lo p).2 := congrArg Prod.snd ez
    rw [z1, z2]
    exact hcG)
  have lT : lostP lo p ≤ N := by
    unfold lostP
    split <;> omega
  have bp := bpos ok.nN
  have three : 3 ≤ sizeLine := by decide
  refine ⟨_, rfl, x, _, 0, _, rfl, rfl, SqT.of oxG, at0, _, rfl, x, _, 1, _, rfl, rfl, SqT.of oxG, at1, _, rfl, three, fun u hu => ?_⟩
  have wu := same_new hu (.tup [V.int N, V.int n, V.ref y])
  have xu : upd G2 u (.tup [V.int N, V.int n, V.ref y]) u = some (.tup [V.int N, V.int n, V.ref y]) := upd_same
  generalize upd G2 u (.tup [V.int N, V.int n, V.ref y]) = G3 at *
  have cru : CRAt G3 u N n (ps.set k (nxP lo p)) := ⟨⟨y, _, xu, wu _ _ hy, rowS.keep wu⟩, cr⟩
  have f2G := wu _ _ (sH _ _ f2)
  have eA : atI [V.int ((p.1 : Nat) : Int), V.int ((p.2 : Nat) : Int)] (atN lo) = some (.int (lostP lo p : Nat)) := by cases lo <;> rfl
  refine ⟨_, rfl, x, _, 2, _, rfl, rfl, SqT.of (wu _ _ oxG), at2', _, rfl, t, _, _, _, rfl, rfl, SqT.of (wu _ _ otG), atI_nat f1, _, rfl, b, _, _, _, rfl, rfl, SqT.of f2G, eA, u, N, n, lostP lo p, _, rfl, cru, lT, fun cv G4 s4 hcv => ?_⟩
  have fc := frA_w ok.N30 ok.nN (cwy_le lT) hcv
  have sH4 := (sH.trans wu).trans s4
  refine ⟨_, rfl, cv, a, _, _, rfl, fc, (sh.keep sH4).fr, _, rfl, ?_⟩
  have h1' := sh.h1
  have h0' := sh.h0
  by_cases cc : s0 * binom N n ≤ s1 * cwy N n (ps.set k (nxP lo p)) (lostP lo p)
  · have hh : shr N n s0 s1 ps k lo = some (ps.set k (nxP lo p)) := by
      have := shr_yes (N := N) (n := n) (s0 := s0) (s1 := s1) (ps := ps) (k := k) (lo := lo) (by unfold ShrC; rw [hp]; exact ⟨h1, cr, cc⟩)
      rw [hp] at this
      exact this
    rw [decide_eq_false (fun z => (rq_cmp bp (by omega)).mp z cc)]
    refine iteF ⟨_, rfl, x, _, 0, _, rfl, rfl, SqT.of (s4 _ _ (wu _ _ oxG)), at0, _, rfl, x, _, 1, _, rfl, rfl, SqT.of (s4 _ _ (wu _ _ oxG)), at1, _, rfl, three, fun w hw => ?_⟩
    have ww := same_new hw (.tup [V.int N, V.int n, V.ref y])
    refine q _ _ (sH4.trans ww) ?_
    rw [hh]
    exact ⟨w, rfl, ⟨y, _, upd_same, ww _ _ (s4 _ _ (wu _ _ hy)), ((rowS.keep wu).keep s4).keep ww⟩, cr⟩
  · have hh : shr N n s0 s1 ps k lo = none := shr_no fun z => by
      have := z.2.2
      rw [hp] at this
      exact cc this
    rw [decide_eq_true ((rq_cmp bp (by omega)).mpr cc)]
    exact iteT (no hh _ (wu.trans s4))
noncomputable def RowF (H : Hp) : List (Nat × Bool) → List V → Prop
  | [], xs => xs = []
  | p :: ps, xs => ∃ a ys, xs = .ref a :: ys ∧ H a = some (.tup [.int (p.1 : Nat), .int (atN p.2)]) ∧ RowF H ps ys
theorem RowF.map {H H' : Hp} (s : ∀ b xs, H b = some (.tup xs) → H' b = some (.tup xs)) : ∀ {ps : List (Nat × Bool)} {xs : List V}, RowF H ps xs → RowF H' ps xs
  | [], _, h => h
  | _ :: _, _, ⟨a, ys, e, h1, h2⟩ => ⟨a, ys, e, s _ _ h1, h2.map s⟩
theorem RowF.len {H : Hp} : ∀ {ps : List (Nat × Bool)} {xs : List V}, RowF H ps xs → xs.length = ps.length
  | [], _, h => by rw [show _ = [] from h]; rfl
  | _ :: _, _, ⟨a, ys, e, h1, h2⟩ => by rw [e, List.length_cons, List.length_cons, h2.len]
theorem RowF.get {H : Hp} : ∀ {ps : List (Nat × Bool)} {xs : List V} {i : Nat} {p : Nat × Bool}, RowF H ps xs → ps[i]? = some p → ∃ a, xs[i]? = some (.ref a) ∧ H a = some (.tup [.int (p.1 : Nat), .int (atN p.2)])
  | [], _, _, _, _, q => by simp at q
  | p :: _, _, 0, _, ⟨a, ys, e, h1, h2⟩, q => by
    rw [List.getElem?_cons_zero] at q
    cases q
    exact ⟨a, by rw [e]; rfl, h1⟩
  | _ :: _, _, i + 1, _, ⟨a, ys, e, h1, h2⟩, q => by
    rw [List.getElem?_cons_succ] at q
    obtain ⟨b, f, g⟩ := h2.get q
    exact ⟨b, by rw [e, List.getElem?_cons_succ]; exact f, g⟩
theorem RowF.app {H : Hp} : ∀ {ps qs : List (Nat × Bool)} {xs ys : List V}, RowF H ps xs → RowF H qs ys → RowF H (ps ++ qs) (xs ++ ys)
  | [], _, _, _, h, k => by rw [show _ = [] from h]; exact k
  | _ :: _, _, _, _, ⟨a, zs, e, h1, h2⟩, k => by rw [e]; exact ⟨a, _, rfl, h1, h2.app k⟩
noncomputable def spMade : Sp := fun vs H Q _ => ∃ (x a : Addr) (N n s0 s1 : Nat) (ps : List (Nat × Nat)), vs = [.ref x, .ref a] ∧ CRAt H x N n ps ∧ ShAt H a s0 s1 ∧ ∀ ps' y H', RunAll N n s0 s1 (eEnds n) ps ps' → Same H H' → CRAt H' y N n ps' → Q (.ref y) H'
theorem sc_made : FnScope ["_law_rule_here", "_law_share_here", "_law_turns_due", "_law_k", "_law_at", "_law_fresh"] ["_law_rule_here", "_law_share_here"] (defScope s_made) := ⟨rfl, rfl, rfl, by decide +kernel, rfl, by decide +kernel, by decide +kernel⟩
theorem ok_made {f : Addr} {fd : FuncData} (F : Fun K "_law_made" "_law_made" s_made f fd) (T : Txt mg) {fmvd : Addr} {dmvd : FuncData} (Gmvd : FnOk P w K mg base CX0 8 fmvd dmvd ["_law_rule_here", "_law_k", "_law_at", "_law_share_here"] spMvd) (bmvd : Binds K dmvd ["_law_rule_here", "_law_k", "_law_at", "_law_share_here"] []) (kmvd : PySem.W.keepIn K (.ref fmvd) = true) (mmvd : mg "_law_moved" = some (.ref fmvd)) : FnOk P w K mg base CX0 9 f fd ["_law_rule_here", "_law_share_here"] spMade := by
  refine F.ok sc_made (fun vs H Q E h => ?_) (fun cdv A outer s H vs Q E hr h => ?_)
  · obtain ⟨x, a, N, n, s0, s1, ps, rfl, _⟩ := h
    rfl
  obtain ⟨x, a, N, n, s0, s1, ps, rfl, hx, sh, q⟩ := h
  refine ⟨_, (pss_cons (ps_set (i := 2) sc_made.nd rfl (Or.inl rfl) (pe_op op_cat (pe_comp (ts := []) rfl ⟨rfl, sub0, rfl, rfl, rfl, rfl, by decide +kernel, rfl, rfl⟩ (pi_range1 rfl T.range (pa_cons (pe_op op_add (pe_ix ix_tup (pv 0) pe_int (fun _ _ => rfl)) pe_int) pa_nil)) (fun C s3 H3 fp => (pe_tup (pa_cons (pv 0) (pa_cons pe_int pa_nil))))) (pe_comp (ts := [("_law_rule_here", 0)]) rfl ⟨rfl, sub1 rfl, rfl, rfl, rfl, rfl, by decide +kernel, rfl, rfl⟩ (pi_range1 rfl T.range (pa_cons (pe_op op_add (pe_ix ix_tup (pv 0) pe_int (fun _ _ => rfl)) pe_int) pa_nil)) (fun C s3 H3 fp => (pe_tup (pa_cons (pe_op op_sub (pe_ix ix_tupC (pv 1) pe_int (fun _ _ => rfl)) (pv 0)) (pa_cons pe_int pa_nil)))))))
    (pss_cons (ps_for PassesOwn.never rfl (pi_list (pv 2)) (pg_tup rfl (pgs_cons (pg_name (i := 3) sc_made.nd rfl (Or.inl rfl)) (pgs_cons (pg_name (i := 4) sc_made.nd rfl (Or.inl rfl)) pgs_nil))) (pss_cons (ps_set (i := 5) sc_made.nd rfl (Or.inl rfl) (pe_call Gmvd hr rfl mmvd kmvd bmvd .nil pass0 (pa_cons (pv 0) (pa_cons (pv 3) (pa_cons (pv 4) (pa_cons (pv 1) pa_nil))))))
      (pss_one (ps_while PassesOwn.never (pt_cmpR op_notN (pv 5) pe_non (nomark _)) (pss_cons (ps_set (i := 0) sc_made.nd rfl (Or.inr rfl) (pv 5))
        (pss_one (ps_set (i := 5) sc_made.nd rfl (Or.inl rfl) (pe_call Gmvd hr rfl mmvd kmvd bmvd .nil pass0 (pa_cons (pv 0) (pa_cons (pv 3) (pa_cons (pv 4) (pa_cons (pv 1) pa_nil))))))))))))
    (pss_one (ps_ret (pv 0))))), ?_⟩
  have n10 := hx.ok.n10
  have en : ((n : Int) + 1).toNat = n + 1 := by omega
  obtain ⟨t, rs, ox, ot, rowN⟩ := hx.ob
  dsimp only
  refine seq_by (fun σ G => Same H G ∧ ∃ l zs, σ = [some (.ref x), some (.ref a), some (.ref l), none, none, none] ∧ G l = some (.lst zs) ∧ RowF G (eEnds n) zs) ?_ ?_
  · intro M hM
    refine ⟨_, rfl, x, _, 1, _, rfl, rfl, SqT.of ox, at1, _, _, rfl, rfl, _, rfl, by omega, by omega, fun D hD => ?_⟩
    rw [en]
    refine comp_rangeR (fun i ys G => RowF G (hiE i) ys) hD (Nat.le_of_lt (lt40 (by omega))) rfl ?_ ?_
    · intro k ys H2 kk hk s2 hD2 row hq
      refine ⟨_, rfl, (by show 2 ≤ sizeLine; decide), fun w hw => ?_⟩
      have s3 := same_new hw (.tup [V.int (0 + (k : Int)), V.int 1])
      refine hq (.ref w) _ s3 ?_
      rw [hiE_snoc]
      have row2 : RowF (upd H2 w (.tup [V.int (0 + (k : Int)), V.int 1])) (hiE k ++ [(k, false)]) (ys ++ [.ref w]) := (row.map fun b xs e => s3 _ _ e).app ⟨w, [], rfl, by show upd H2 w _ w = _; rw [upd_same, show (0 : Int) + (k : Int) = (k : Int) by omega]; rfl, rfl⟩
      exact row2.map fun b xs e => by rw [upd_ne (ne_of e (s3 _ _ hD2) (by intro z; cases z))]; exact e
    · intro ys H2 s2 hD2 ly row
      refine ⟨_, rfl, x, _, 1, _, rfl, rfl, SqT.of (s2 _ _ ox), at1, _, _, rfl, rfl, _, rfl, by omega, by omega, fun D2 hD' => ?_⟩
      rw [en]
      refine comp_rangeR (fun i ys G => RowF G (loE n i) ys) hD' (Nat.le_of_lt (lt40 (by omega))) rfl ?_ ?_
      · intro k ys2 H3 kk hk s3 hD3 row3 hq
        refine ⟨_, rfl, x, _, 1, _, rfl, rfl, SqT.of ((s2.trans s3) _ _ ox), at1, _, rfl, _, _, rfl, rfl, (by show 2 ≤ sizeLine; decide), fun w hw => ?_⟩
        have s4 := same_new hw (.tup [V.int ((n : Int) - (0 + (k : Int))), V.int 0])
        refine hq (.ref w) _ s4 ?_
        rw [loE_snoc]
        have row4 : RowF (upd H3 w (.tup [V.int ((n : Int) - (0 + (k : Int))), V.int 0])) (loE n k ++ [(n - k, true)]) (ys2 ++ [.ref w]) := (row3.map fun b xs e => s4 _ _ e).app ⟨w, [], rfl, by show upd H3 w _ w = _; rw [upd_same, show (n : Int) - (0 + (k : Int)) = ((n - k : Nat) : Int) by omega]; rfl, rfl⟩
        exact row4.map fun b xs e => by rw [upd_ne (ne_of e (s4 _ _ hD3) (by intro z; cases z))]; exact e
      · intro ys2 H3 s3 hD3 ly2 row3
        refine ⟨D, D2, _, _, rfl, rfl, s3 _ _ hD2, hD3, Nat.le_of_lt (lt40 (by omega)), fun l hl => ?_⟩
        have s4 := same_new hl (.lst (ys ++ ys2))
        exact hM _ _ ⟨((s2.trans s3).trans s4), l, _, rfl, upd_same, ((row.map fun b xs e => s3 _ _ e).app row3).map fun b xs e => s4 _ _ e⟩
  rintro σ G ⟨sG, l, zs, rfl, hl, row⟩
  have lz := row.len
  refine ⟨_, rfl, l, rfl, ⟨_, SqL.of hl⟩, ?_⟩
  refine for_list (xs := zs) (fun i σ G' => Same G G' ∧ ∃ x' ps' v1 v2 v3, σ = [some (.ref x'), some (.ref a), some (.ref l), v1, v2, v3] ∧ CRAt G' x' N n ps' ∧ RunAll N n s0 s1 ((eEnds n).take i) ps ps') ⟨Same.refl G, x, ps, none, none, none, rfl, hx.keep sG, rfl⟩ ?_ ?_ ?_
  · rintro i σ G' hi ⟨sm, _⟩
    exact SqL.of (sm _ _ hl)
  · rintro i z σ G1 hz ⟨sm, x', ps', v1, v2, v3, rfl, hx', run⟩
    have hi : i < (eEnds n).length := by rw [← lz]; exact (List.getElem?_eq_some_iff.mp hz).1
    have ep := List.getElem?_eq_getElem hi
    generalize hp : (eEnds n)[i] = p at ep
    obtain ⟨k, lo⟩ := p
    have hk : k ≤ n := eEnds_le (List.mem_of_getElem? ep)
    obtain ⟨b, f1, f2⟩ := row.get ep
    rw [hz] at f1
    cases f1
    have f2' := sm _ _ f2
    have smH := sG.trans sm
    refine ⟨b, _, rfl, SqT.of f2', rfl, .int (k : Nat), _, rfl, .int (atN lo), [], rfl, rfl, ?_⟩
    dsimp only
    refine seq_by (fun σ G2 => Same G1 G2 ∧ ∃ v, σ = [some (.ref x'), some (.ref a), some (.ref l), some (.int (k : Nat)), some (.int (atN lo)), some v] ∧ ShV G2 N n (shr N n s0 s1 ps' k lo) v) ?_ ?_
    · intro M hM
      exact ⟨_, rfl, _, rfl, _, rfl, _, rfl, x', a, N, n, s0, s1, k, ps', lo, rfl, hx', hk, sh.keep smH, fun v G3 s3 sv => hM _ _ ⟨s3, v, rfl, sv⟩⟩
    rintro σ G2 ⟨s2, v, rfl, sv⟩
    refine ⟨fun m σ G3 => Same G1 G3 ∧ ∃ y qs v, σ = [some (.ref y), some (.ref a), some (.ref l), some (.int (k : Nat)), some (.int (atN lo)), some v] ∧ CRAt G3 y N n qs ∧ ShV G3 N n (shr N n s0 s1 qs k lo) v ∧ m = gapP qs k ∧ ∀ r, Rn N n s0 s1 k lo qs r → Rn N n s0 s1 k lo ps' r, ⟨_, s2, x', ps', v, rfl, hx'.keep s2, sv, rfl, fun r h => h⟩, ?_⟩
    rintro m σ G3 ⟨s3, y, qs, v, rfl, hy, sv, rfl, hr'⟩
    cases e : shr N n s0 s1 qs k lo with
    | none =>
      rw [e] at sv
      have ev : v = .non := sv
      subst ev
      refine ⟨_, rfl, rfl, _, rfl, iteF ⟨sm.trans s3, y, qs, _, _, _, rfl, hy, ?_⟩⟩
      rw [List.take_add_one, ep]
      exact RunAll.snoc run (hr' qs (.stop e))
    | some qs1 =>
      rw [e] at sv
      obtain ⟨z, rfl, hz'⟩ := sv
      refine ⟨_, rfl, rfl, _, rfl, iteT ⟨fun σ G4 => Same G1 G4 ∧ ∃ v, σ = [some (.ref z), some (.ref a), some (.ref l), some (.int (k : Nat)), some (.int (atN lo)), some v] ∧ CRAt G4 z N n qs1 ∧ ShV G4 N n (shr N n s0 s1 qs1 k lo) v, ?_, ?_⟩⟩
      · rintro σ' G4 ⟨s4, v, rfl, hz4, sv4⟩
        exact ⟨gapP qs1 k, shr_gap (by rw [hy.ok.len]; omega) e, s4, z, qs1, v, rfl, hz4, sv4, rfl, fun r h => hr' r (.step e h)⟩
      · refine ⟨_, rfl, ?_⟩
        exact ⟨_, rfl, _, rfl, _, rfl, _, rfl, z, a, N, n, s0, s1, k, qs1, lo, rfl, hz', hk, sh.keep (smH.trans s3), fun v G4 s4 sv4 => ⟨s3.trans s4, v, rfl, hz'.keep s4, sv4⟩⟩
  · rintro σ G1 ⟨sm, x', ps', v1, v2, v3, rfl, hx', run⟩
    rw [List.take_of_length_le (by omega)] at run
    exact ⟨_, rfl, q ps' x' G1 run (sG.trans sm) hx'⟩
noncomputable def spTgt : Sp := fun vs H Q _ => ∃ (x a : Addr) (N n s0 s1 : Nat) (ps : List (Nat × Nat)), vs = [.ref x, .ref a] ∧ CRAt H x N n ps ∧ ShAt H a s0 s1 ∧ (∀ k lo, k ≤ n → shr N n s0 s1 ps k lo = none) ∧ ∀ H', Same H H' → Q (.bl true) H'
theorem sc_tgt : FnScope ["_law_rule_here", "_law_share_here", "_law_k"] ["_law_rule_here", "_law_share_here"] (defScope s_tgt) := ⟨rfl, rfl, rfl, by decide +kernel, rfl, by decide +kernel, by decide +kernel⟩
theorem ok_tgt {f : Addr} {fd : FuncData} (F : Fun K "_law_tight" "_law_tight" s_tgt f fd) (T : Txt mg) {fmvd : Addr} {dmvd : FuncData} (Gmvd : FnOk P w K mg base CX0 8 fmvd dmvd ["_law_rule_here", "_law_k", "_law_at", "_law_share_here"] spMvd) (bmvd : Binds K dmvd ["_law_rule_here", "_law_k", "_law_at", "_law_share_here"] []) (kmvd : PySem.W.keepIn K (.ref fmvd) = true) (mmvd : mg "_law_moved" = some (.ref fmvd)) : FnOk P w K mg base CX0 9 f fd ["_law_rule_here", "_law_share_here"] spTgt := by
  refine F.ok sc_tgt (fun vs H Q E h => ?_) (fun cdv A outer s H vs Q E hr h => ?_)
  · obtain ⟨x, a, N, n, s0, s1, ps, rfl, _⟩ := h
    rfl
  obtain ⟨x, a, N, n, s0, s1, ps, rfl, hx, sh, no, q⟩ := h
  refine ⟨_, (pss_cons (ps_for PassesOwn.never rfl (pi_range1 rfl T.range (pa_cons (pe_op op_add (pe_ix ix_tup (pv 0) pe_int (fun _ _ => rfl)) pe_int) pa_nil)) (pg_name (i := 2) sc_tgt.nd rfl (Or.inl rfl)) (pss_one (ps_if (PW.pt (pw_or (pt_cmpR op_notN (pe_call Gmvd hr rfl mmvd kmvd bmvd .nil pass0 (pa_cons (pv 0) (pa_cons (pv 2) (pa_cons pe_int (pa_cons (pv 1) pa_nil))))) pe_non (nomark _)) (pw_or1 (pt_cmpR op_notN (pe_call Gmvd hr rfl mmvd kmvd bmvd .nil pass0 (pa_cons (pv 0) (pa_cons (pv 2) (pa_cons pe_int (pa_cons (pv 1) pa_nil))))) pe_non (nomark _))))) (pss_one (ps_ret pe_bl)) pss_nil)))
    (pss_one (ps_ret pe_bl))), ?_⟩
  have n10 := hx.ok.n10
  obtain ⟨t, rs, ox, ot, rowN⟩ := hx.ob
  refine ⟨_, rfl, x, _, 1, _, rfl, rfl, SqT.of ox, at1, _, _, rfl, rfl, _, rfl, by omega, by omega, ?_⟩
  refine for_range (lo := 0) (fun i σ G => Same H G ∧ ∃ v, σ = [some (.ref x), some (.ref a), v]) ⟨Same.refl H, none, rfl⟩ ?_ ?_
  · rintro i σ G hi ⟨sG, v, rfl⟩
    have ei : (0 : Int) + (i : Int) = (i : Int) := by omega
    rw [ei]
    have hk : i ≤ n := by omega
    refine ⟨_, rfl, _, rfl, _, rfl, x, a, N, n, s0, s1, i, ps, true, rfl, hx.keep sG, hk, sh.keep sG, fun v1 G1 s1' sv => ?_⟩
    rw [no i true hk] at sv
    have ev : v1 = .non := sv
    subst ev
    refine ⟨rfl, _, rfl, iteF ⟨_, rfl, _, rfl, _, rfl, x, a, N, n, s0, s1, i, ps, false, rfl, hx.keep (sG.trans s1'), hk, sh.keep (sG.trans s1'), fun v2 G2 s2' sv2 => ?_⟩⟩
    rw [no i false hk] at sv2
    have ev : v2 = .non := sv2
    subst ev
    exact ⟨rfl, _, rfl, iteF ⟨(sG.trans s1').trans s2', _, rfl⟩⟩
  rintro σ G ⟨sG, v, rfl⟩
  exact q G sG
theorem cr_eq (N n : Nat) (ps : List (Nat × Nat)) : ruleT (N : Int) (n : Int) (ps.map zP) = crT N n ps := by
  unfold ruleT crT
  rw [nn_pp]
theorem good_cr {N n : Nat} {ps : List (Nat × Nat)} (c : IsCR N n ps) : GoodR (.int (N : Int)) (.int (n : Int)) (.tup (ps.map nnT)) (N : Int) (n : Int) (ps.map zP) := by
  have n1 := c.n1
  have n10 := c.n10
  have nN := c.nN
  have N30 := c.N30
  refine ⟨rfl, rfl, ⟨_, rfl, ?_⟩, by omega, by omega, by omega, by omega, by omega, by rw [List.length_map, c.len]; omega, fun q hq => ?_, fun i a b ha hb => ?_⟩
  · rw [nn_pp, map_pr2]
  · obtain ⟨q', hq', rfl⟩ := List.mem_map.mp hq
    have := c.le q' hq'
    unfold InN zP
    omega
  · rw [List.getElem?_map] at ha hb
    cases ea : ps[i]? with
    | none => rw [ea] at ha; cases ha
    | some a' =>
      cases eb : ps[i + 1]? with
      | none => rw [eb] at hb; cases hb
      | some b' =>
        rw [ea] at ha
        rw [eb] at hb
        cases ha
        cases hb
        have u := c.lows i a' b' ea eb
        have v := c.highs i a' b' ea eb
        unfold zP
        exact ⟨by show (a'.1 : Int) ≤ (b'.1 : Int); omega, by show (a'.2 : Int) ≤ (b'.2 : Int); omega⟩
theorem GoodS.sh {H : Hp} {v : V} (h : GoodS H v) : ∃ a s0 s1, v = .ref a ∧ ShAt H a s0 s1 := by
  obtain ⟨p, s0, s1, e, h1, h2, h3, h4, h5⟩ := h
  exact ⟨p, s0, s1, e, h1, h2, h3, h4, h5⟩
open Classical in
noncomputable def lkB (N n s0 s1 : Nat) (ps : List (Nat × Nat)) (T : Nat) : Bool := decide (¬ s0 * binom N n ≤ s1 * cwy N n ps T)
noncomputable def spLaw (K : PySem.W.Frag) (T : Addr) : Sp := fun vs H Q _ => ∃ (a : Addr) (ns : List Int), vs = [.ref a] ∧ SqL K H a (ns.map V.int) ∧ ns.length ≤ 63 ∧ (∀ i ∈ ns, Bg i) ∧ H T = some (.tbl #[]) ∧ ∀ H', Q (.bl true) H'
theorem first_lack {p : Nat → Bool} : ∀ {m : Nat} {l : List Nat} {t : Nat}, (List.range m).filter p = t :: l → t < m ∧ p t = true ∧ ∀ i, i < t → p i = false
  | m, l, t, h => by
    have hm : t ∈ (List.range m).filter p := by rw [h]; exact .head _
    obtain ⟨h1, h2⟩ := List.mem_filter.mp hm
    refine ⟨List.mem_range.mp h1, h2, fun i hi => ?_⟩
    cases hp : p i with
    | false => rfl
    | true =>
      have : i ∈ (List.range m).filter p := List.mem_filter.mpr ⟨List.mem_range.mpr (by have := List.mem_range.mp h1; omega), hp⟩
      rw [h] at this
      rcases List.mem_cons.mp this with z | z
      · omega
      · have pw : ((List.range m).filter p).Pairwise (· < ·) := List.Pairwise.filter _ List.pairwise_lt_range
        rw [h] at pw
        have := (List.pairwise_cons.mp pw).1 i z
        omega
theorem sc_law : FnScope ["_law_script", "_law_things", "_law_drawn", "_law_share_here", "_law_rule_here", "_law_lacks", "_law_kept", "_law_found", "_law_one", "_law_other"] ["_law_script"] (defScope s_law) := ⟨rfl, rfl, rfl, by decide +kernel, rfl, by decide +kernel, by decide +kernel⟩
theorem ok_law {C : CA} {f : Addr} {fd : FuncData} (F : Fun K "law" "law" s_law f fd) (T : Txt mg) (cf : CF K mg C) {fcellU : Addr} {dcellU : FuncData} (GcellU : FnOk P w K mg base CX0 12 fcellU dcellU ["_law_script", "_law_k"] (spCellU K)) (bcellU : Binds K dcellU ["_law_script", "_law_k"] []) (kcellU : PySem.W.keepIn K (.ref fcellU) = true) (mcellU : mg "_law_cell" = some (.ref fcellU)) {fshU : Addr} {dshU : FuncData} (GshU : FnOk P w K mg base CX0 12 fshU dshU ["_law_script", "_law_k"] (spShU K)) (bshU : Binds K dshU ["_law_script", "_law_k"] []) (kshU : PySem.W.keepIn K (.ref fshU) = true) (mshU : mg "_law_share" = some (.ref fshU)) {fstt : Addr} {dstt : FuncData} (Gstt : FnOk P w K mg base CX0 12 fstt dstt ["_law_script", "_law_things", "_law_drawn", "_law_share_here"] (spStt K)) (bstt : Binds K dstt ["_law_script", "_law_things", "_law_drawn", "_law_share_here"] []) (kstt : PySem.W.keepIn K (.ref fstt) = true) (mstt : mg "_law_start" = some (.ref fstt)) {fucov : Addr} {ducov : FuncData} (Gucov : FnOk P w K mg base CX0 12 fucov ducov ["rule", "T"] spUcov) (bucov : Binds K ducov ["rule", "T"] []) (kucov : PySem.W.keepIn K (.ref fucov) = true) (mucov : mg "urn_cover" = some (.ref fucov)) {fls : Addr} {dls : FuncData} (Gls : FnOk P w K mg base CX0 12 fls dls ["_law_one", "_law_other"] spUnd) (bls : Binds K dls ["_law_one", "_law_other"] []) (kls : PySem.W.keepIn K (.ref fls) = true) (mls : mg "_law_less" = some (.ref fls)) {fref : Addr} {dref : FuncData} (Gref : FnOk P w K mg base CX0 12 fref dref ["_law_rule_here", "_law_share_here"] (spRef TB)) (bref : Binds K dref ["_law_rule_here", "_law_share_here"] []) (kref : PySem.W.keepIn K (.ref fref) = true) (mref : mg "_law_refused" = some (.ref fref)) {futg : Addr} {dutg : FuncData} (Gutg : FnOk P w K mg base (CXD P w) 12 futg dutg ["rule", "share"] (spUtgD C.NotSure TB)) (butg : Binds K dutg ["rule", "share"] []) (kutg : PySem.W.keepIn K (.ref futg) = true) (mutg : mg "urn_tight" = some (.ref futg)) {fcrule : Addr} {dcrule : FuncData} (Gcrule : FnOk P w K mg base (CXX P w) 12 fcrule dcrule ["N", "n", "stretches"] (spCRX C)) (bcrule : Binds K dcrule ["N", "n", "stretches"] []) (kcrule : PySem.W.keepIn K (.ref fcrule) = true) (mcrule : mg "count_rule" = some (.ref fcrule)) {fmade : Addr} {dmade : FuncData} (Gmade : FnOk P w K mg base CX0 12 fmade dmade ["_law_rule_here", "_law_share_here"] spMade) (bmade : Binds K dmade ["_law_rule_here", "_law_share_here"] []) (kmade : PySem.W.keepIn K (.ref fmade) = true) (mmade : mg "_law_made" = some (.ref fmade)) {ful : Addr} {dul : FuncData} (Gul : FnOk P w K mg base CX0 12 ful dul ["rule"] spUl) (bul : Binds K dul ["rule"] []) (kul : PySem.W.keepIn K (.ref ful) = true) (mul : mg "urn_least" = some (.ref ful)) {ftgt : Addr} {dtgt : FuncData} (Gtgt : FnOk P w K mg base CX0 12 ftgt dtgt ["_law_rule_here", "_law_share_here"] spTgt) (btgt : Binds K dtgt ["_law_rule_here", "_law_share_here"] []) (ktgt : PySem.W.keepIn K (.ref ftgt) = true) (mtgt : mg "_law_tight" = some (.ref ftgt)) : FnOk P w K mg base CX0 13 f fd ["_law_script"] (spLaw K TB) := by
  refine F.ok sc_law (fun vs H Q E h => ?_) (fun cdv A outer s H vs Q E hr h => ?_)
  · obtain ⟨a, ns, rfl, _⟩ := h
    rfl
  obtain ⟨a, ns, rfl, hS, h63, hbg, hTB, q⟩ := h
  refine ⟨_, (pss_cons (ps_set (i := 1) sc_law.nd rfl (Or.inl rfl) (pe_op op_add pe_int (pe_op op_mod (pe_call GcellU hr rfl mcellU kcellU bcellU .nil pass0 (pa_cons (pv 0) (pa_cons pe_int pa_nil))) (pe_ix ix_list (pe_lst (pa_cons pe_int (pa_cons pe_int (pa_cons pe_int (pa_cons pe_int (pa_cons pe_int (pa_cons pe_int pa_nil))))))) (pe_op op_mod (pe_call GcellU hr rfl mcellU kcellU bcellU .nil pass0 (pa_cons (pv 0) (pa_cons pe_int pa_nil))) pe_int) (fun _ _ => rfl)))))
    (pss_cons (ps_set (i := 2) sc_law.nd rfl (Or.inl rfl) (pe_op op_add pe_int (pe_op op_mod (pe_call GcellU hr rfl mcellU kcellU bcellU .nil pass0 (pa_cons (pv 0) (pa_cons pe_int pa_nil))) (pe_callB (call_min2 rfl) rfl T.min boot_min (pa_cons (pv 1) (pa_cons pe_int pa_nil))))))
    (pss_cons (ps_set (i := 3) sc_law.nd rfl (Or.inr rfl) (pe_call GshU hr rfl mshU kshU bshU .nil pass0 (pa_cons (pv 0) (pa_cons pe_int pa_nil))))
    (pss_cons (ps_set (i := 4) sc_law.nd rfl (Or.inr rfl) (pe_call Gstt hr rfl mstt kstt bstt .nil pass0 (pa_cons (pv 0) (pa_cons (pv 1) (pa_cons (pv 2) (pa_cons (pv 3) pa_nil))))))
    (pss_cons (ps_setC (i := 5) sc_law.nd rfl (Or.inl rfl) (xs := ["_law_true"]) (ts := [("_law_share_here", 3), ("_law_rule_here", 4)]) rfl ⟨rfl, sub2 rfl rfl, rfl, rfl, rfl, by decide +kernel, rfl, rfl⟩ (pi_range1 rfl T.range (pa_cons (pe_op op_add (pv 1) pe_int) pa_nil)) (fun C s3 H3 fp => (pg_name (i := 0) (show (["_law_true", "_law_share_here", "_law_rule_here"] : List Str).Nodup by decide +kernel) rfl (Or.inl rfl) (Or.inr rfl))) (fun C s3 H3 fp => (pif_one (pt_val (pe_call Gls hr rfl mls kls bls .nil pass0 (pa_cons (pe_call Gucov hr rfl mucov kucov bucov .nil pass0 (pa_cons (pv 2) (pa_cons (pv 0) pa_nil))) (pa_cons (pv 1) pa_nil)))))) (fun C s3 H3 fp => (pv 0)))
    (pss_cons (ps_if (pt_cmpR (op_neNil hr.units) (pv 5) (pe_lst pa_nil) (nomark _)) (pss_one (ps_ret (pe_cmpR op_eq (pe_call Gref hr rfl mref kref bref .nil pass0 (pa_cons (pv 4) (pa_cons (pv 3) pa_nil))) (pe_ix ix_list (pv 5) pe_int (fun _ _ => rfl)) (nomark _)))) pss_nil)
    (pss_cons (ps_set (i := 6) sc_law.nd rfl (Or.inl rfl) (pe_tup (pa_cons (pe_ix ix_tup (pv 4) pe_int (fun _ _ => rfl)) (pa_cons (pe_ix ix_tup (pv 4) pe_int (fun _ _ => rfl)) (pa_cons (pe_callTy call_tuple_of rfl T.tuple boot_tuple (pa_cons (pe_compG (xs := ["_law_low_here", "_law_high"]) (ts := []) rfl ⟨rfl, sub0, rfl, rfl, rfl, by decide +kernel, rfl, rfl⟩ (pi_tup (pe_ix ix_tup (pv 4) pe_int (fun _ _ => rfl))) (fun C s3 H3 fp => (pg_tupC (n := 2) rfl (pgs_cons (pg_name (i := 0) (show (["_law_low_here", "_law_high"] : List Str).Nodup by decide +kernel) rfl (Or.inl rfl) (Or.inr rfl)) (pgs_cons (pg_name (i := 1) (show (["_law_low_here", "_law_high"] : List Str).Nodup by decide +kernel) rfl (Or.inl rfl) (Or.inr rfl)) pgs_nil)))) (fun C s3 H3 fp => pif_nil) (fun C s3 H3 fp => (pe_tup (pa_cons (pv 0) (pa_cons (pv 1) pa_nil))))) pa_nil)) pa_nil)))))
    (pss_cons (ps_set (i := 7) sc_law.nd rfl (Or.inl rfl) (pe_call Gutg hr rfl mutg kutg butg .nil passD (pa_cons (pv 4) (pa_cons (pv 3) pa_nil))))
    (pss_cons (ps_if (PW.pt (pw_or (pt_cmpR (op_neD hr.units) (pv 4) (pv 6) (nomark _)) (pw_or (pt_cmpR (op_neD hr.units) (pe_call Gcrule hr rfl mcrule kcrule bcrule .nil passN (pa_cons (pv 1) (pa_cons (pv 2) (pa_cons (pe_ix ix_tup (pv 7) pe_int (fun _ _ => rfl)) pa_nil)))) (pv 7) (nomark _)) (pw_or1 (pt_cmpR (op_neD hr.units) (pv 7) (pe_call Gmade hr rfl mmade kmade bmade .nil pass0 (pa_cons (pv 4) (pa_cons (pv 3) pa_nil))) (nomark _)))))) (pss_one (ps_ret pe_bl)) pss_nil)
    (pss_cons (ps_for PassesOwn.never rfl (pi_zipT rfl T.zip (pa_cons (pe_ix ix_tup (pv 7) pe_int (fun _ _ => rfl)) (pa_cons (pe_ix ix_tup (pv 4) pe_int (fun _ _ => rfl)) pa_nil))) (pg_tup rfl (pgs_cons (pg_name (i := 8) sc_law.nd rfl (Or.inl rfl)) (pgs_cons (pg_name (i := 9) sc_law.nd rfl (Or.inl rfl)) pgs_nil))) (pss_one (ps_if (PW.pt (pw_or (pt_cmpR op_lt (pe_ix ix_tup (pv 8) pe_int (fun _ _ => rfl)) (pe_ix ix_tup (pv 9) pe_int (fun _ _ => rfl)) (nomark _)) (pw_or1 (pt_cmpR op_gt (pe_ix ix_tup (pv 8) pe_int (fun _ _ => rfl)) (pe_ix ix_tup (pv 9) pe_int (fun _ _ => rfl)) (nomark _))))) (pss_one (ps_ret pe_bl)) pss_nil)))
    (pss_cons (ps_if (PW.pt (pw_or (pt_val (pe_call Gls hr rfl mls kls bls .nil pass0 (pa_cons (pe_ix ix_tup (pe_call Gul hr rfl mul kul bul .nil pass0 (pa_cons (pv 7) pa_nil)) pe_int (fun _ _ => rfl)) (pa_cons (pv 3) pa_nil)))) (pw_or1 (pt_not (pt_val (pe_call Gtgt hr rfl mtgt ktgt btgt .nil pass0 (pa_cons (pv 7) (pa_cons (pv 3) pa_nil)))))))) (pss_one (ps_ret pe_bl)) pss_nil)
    (pss_one (ps_ret (pe_cmpR (op_eqD hr.units) (pe_call Gutg hr rfl mutg kutg butg .nil passD (pa_cons (pv 7) (pa_cons (pv 3) pa_nil))) (pv 7) (nomark _))))))))))))))), ?_⟩
  have tb0 : TbAt TB H := ⟨#[], hTB, trivial, .inl rfl⟩
  refine ⟨_, rfl, a, ns, 0, rfl, hS, h63, by decide, by decide, fun r0 r00 r01 => ?_⟩
  refine ⟨(by show 6 ≤ sizeLine; decide), fun p1 h1 => ?_⟩
  dsimp only
  have w1 := same_new h1 (.lst [V.int 6, V.int 10, V.int 20, V.int 6, V.int 10, V.int 30])
  refine ⟨_, rfl, a, ns, 1, rfl, w1.seq hS, h63, by decide, by decide, fun r1 r10 r11 => ?_⟩
  have k0 := md0 r1 (show (0 : Int) < 6 by decide)
  have k1 := md1 r1 (show (0 : Int) < 6 by decide)
  refine ⟨_, _, rfl, rfl, (by show (0 : Int) < 6; decide), p1, _, _, _, rfl, rfl, SqL.of upd_same, at_getD (ns := [6, 10, 20, 6, 10, 30]) k0 k1, ?_⟩
  have hm : ([6, 10, 20, 6, 10, 30] : List Int).getD (r1 % 6).toNat 0 ∈ ([6, 10, 20, 6, 10, 30] : List Int) := getD_mem (by show (r1 % 6).toNat < 6; omega)
  have hw : 0 < ([6, 10, 20, 6, 10, 30] : List Int).getD (r1 % 6).toNat 0 ∧ ([6, 10, 20, 6, 10, 30] : List Int).getD (r1 % 6).toNat 0 ≤ 30 := by
    generalize ([6, 10, 20, 6, 10, 30] : List Int).getD (r1 % 6).toNat 0 = m at *
    simp only [List.mem_cons, List.not_mem_nil, or_false] at hm
    omega
  generalize ([6, 10, 20, 6, 10, 30] : List Int).getD (r1 % 6).toNat 0 = wd at *
  have tb1 := tb0.keep w1
  have hS1 := w1.seq hS
  generalize upd H p1 (.lst [V.int 6, V.int 10, V.int 20, V.int 6, V.int 10, V.int 30]) = H0 at *
  refine ⟨_, _, rfl, rfl, hw.1, _, _, rfl, rfl, ?_⟩
  have m0 := md0 r0 hw.1
  have m1 := md1 r0 hw.1
  obtain ⟨N, eN, N1, N30⟩ : ∃ N : Nat, 1 + r0 % wd = (N : Int) ∧ 1 ≤ N ∧ N ≤ 30 := ⟨(1 + r0 % wd).toNat, by omega, by omega, by omega⟩
  dsimp only
  rw [eN]
  refine ⟨_, rfl, a, ns, 2, rfl, hS1, h63, by decide, by decide, fun r2 r20 r21 => ?_⟩
  have mp : (0 : Int) < (if (10 : Int) < (N : Int) then (10 : Int) else (N : Int)) := by split <;> omega
  have ml : (if (10 : Int) < (N : Int) then (10 : Int) else (N : Int)) ≤ 10 ∧ (if (10 : Int) < (N : Int) then (10 : Int) else (N : Int)) ≤ (N : Int) := by split <;> omega
  refine ⟨_, rfl, _, _, rfl, _, _, rfl, rfl, mp, _, _, rfl, rfl, ?_⟩
  have j0 := md0 r2 mp
  have j1 := md1 r2 mp
  dsimp only
  generalize (if (10 : Int) < (N : Int) then (10 : Int) else (N : Int)) = mm at *
  obtain ⟨n, en, n1, n10, nN⟩ : ∃ n : Nat, 1 + r2 % mm = (n : Int) ∧ 1 ≤ n ∧ n ≤ 10 ∧ n ≤ N := ⟨(1 + r2 % mm).toNat, by omega, by omega, by omega, by omega⟩
  rw [en]
  refine ⟨_, rfl, a, ns, 60, rfl, hS1, h63, by decide, by decide, fun v H1 s1 gs => ?_⟩
  obtain ⟨sa, s0, s1', rfl, sh⟩ := gs.sh
  refine ⟨_, rfl, _, rfl, _, rfl, _, rfl, a, sa, ns, N, n, s0, s1', rfl, s1.seq hS1, h63, n1, n10, nN, N30, sh, fun x H2 ps s2 hx => ?_⟩
  have tb2 := (tb1.keep s1).keep s2
  have sh2 := sh.keep s2
  have bp := bpos nN
  have h0 := sh.h0
  have h1' := sh.h1
  have eN1 : ((N : Int) + 1).toNat = N + 1 := by omega
  refine ⟨_, rfl, _, _, rfl, rfl, _, rfl, by omega, by omega, fun D hD => ?_⟩
  rw [eN1]
  refine comp_rangeF (lkB N n s0 s1' ps) (fun t => V.int (t : Int)) hD (Nat.le_of_lt (lt40 (by omega))) ?_ ?_ ?_
  · intro i G kk hi sm hkk
    rw [show (0 : Int) + (i : Int) = (i : Int) from Int.zero_add _]
    have iN : i ≤ N := by omega
    refine ⟨_, rfl, _, rfl, x, N, n, i, ps, rfl, hx.keep sm, iN, fun cv G1 s3 hcv => ?_⟩
    have fc := frA_w N30 nN (cwy_le iN) hcv
    refine ⟨_, rfl, cv, sa, _, _, rfl, fc, (sh2.keep (sm.trans s3)).fr, _, rfl, ?_⟩
    have eb : decide (rq (cwy N n ps i : Int) (binom N n : Int) < rq (s0 : Int) (s1' : Int)) = lkB N n s0 s1' ps i := by
      unfold lkB
      by_cases c : s0 * binom N n ≤ s1' * cwy N n ps i
      · rw [decide_eq_false (fun z => (rq_cmp bp (by omega)).mp z c), decide_eq_false (fun z => z c)]
      · rw [decide_eq_true ((rq_cmp bp (by omega)).mpr c), decide_eq_true c]
    rw [eb]
    exact hkk _ s3
  · intro i G kk hi hp sm hkk
    rw [show (0 : Int) + (i : Int) = (i : Int) from Int.zero_add _]
    exact ⟨_, rfl, hkk G (Same.refl G)⟩
  intro H3 s3 hD3
  have hx3 := hx.keep s3
  have sh3 := sh2.keep s3
  have tb3 := tb2.keep s3
  dsimp only
  refine seq_by (fun σ G => Same H3 G ∧ σ = [some (.ref a), some (.int N), some (.int n), some (.ref sa), some (.ref x), some (.ref D), none, none, none, none] ∧ SureC N n s0 s1' ps) ?_ ?_
  · intro M hM
    refine ⟨_, rfl, Nat.zero_le _, fun e he => ?_⟩
    have se := same_new he (.lst [])
    refine ⟨D, e, _, rfl, rfl, SqL.of (se _ _ hD3), SqL.of upd_same, _, rfl, ?_⟩
    cases hl : (List.range (N + 1)).filter (lkB N n s0 s1' ps) with
    | nil =>
      refine iteF (hM _ _ ⟨se, rfl, fun T' hT' => ?_⟩)
      by_cases c : s0 * binom N n ≤ s1' * cwy N n ps T'
      · exact c
      · have : T' ∈ (List.range (N + 1)).filter (lkB N n s0 s1' ps) := List.mem_filter.mpr ⟨List.mem_range.mpr (by omega), decide_eq_true c⟩
        rw [hl] at this
        cases this
    | cons t l =>
      obtain ⟨f1, f2, f3⟩ := first_lack hl
      have f2' : ¬ s0 * binom N n ≤ s1' * cwy N n ps t := of_decide_eq_true f2
      have f3' : ∀ i, i < t → s0 * binom N n ≤ s1' * cwy N n ps i := fun i hi => by
        by_cases c : s0 * binom N n ≤ s1' * cwy N n ps i
        · exact c
        · have := f3 i hi
          unfold lkB at this
          rw [decide_eq_true c] at this
          cases this
      refine iteT ⟨_, rfl, _, rfl, x, sa, N, n, s0, s1', t, ps, rfl, hx3.keep se, sh3.keep se, tb3.keep se, by omega, f3', f2', fun G s4 => ?_⟩
      have hDG := s4 _ _ (se _ _ hD3)
      rw [hl] at hDG
      refine ⟨_, rfl, D, _, 0, _, rfl, rfl, SqL.of hDG, at0, rfl, ?_⟩
      exact eqT rfl (q _)
  rintro σ G ⟨sG, rfl, sure⟩
  have hxG := hx3.keep sG
  have shG := sh3.keep sG
  have tbG := tb3.keep sG
  obtain ⟨t, zs, ox, ot, row⟩ := hxG.ob
  have lz := row.len
  have lp := hxG.ok.len
  refine ⟨_, rfl, x, _, 0, _, rfl, rfl, SqT.of ox, at0, _, rfl, x, _, 1, _, rfl, rfl, SqT.of ox, at1, _, rfl, x, _, 2, _, rfl, rfl, SqT.of ox, at2, t, rfl, ⟨_, SqT.of ot⟩, fun D2 hD2 => ?_⟩
  refine comp_pairR (fun i ys G' => RowN G' (ps.take i) ys) hD2 (SqT.of ot) (Nat.le_of_lt (lt40 (by omega))) rfl ?_ ?_ ?_
  · intro i hi
    obtain ⟨b, f1, f2⟩ := row.get (List.getElem?_eq_getElem (show i < ps.length by omega))
    exact ⟨b, _, _, f1, f2⟩
  · intro i b u v ys G1 kk hb hbt sm hD3' r hk
    have hi := (List.getElem?_eq_some_iff.mp hb).1
    have ep := List.getElem?_eq_getElem (show i < ps.length by omega)
    obtain ⟨b', f1, f2⟩ := row.get ep
    rw [hb] at f1
    cases f1
    rw [f2] at hbt
    cases hbt
    refine ⟨_, rfl, _, rfl, (by show 2 ≤ sizeLine; decide), fun p hp => ?_⟩
    have sp := same_new hp (.tup [V.int (ps[i].1 : Int), V.int (ps[i].2 : Int)])
    refine hk _ _ sp ?_
    rw [List.take_add_one, ep]
    exact ((r.keep sp).app (show RowN _ [ps[i]] [.ref p] from ⟨p, [], rfl, upd_same, rfl⟩)).write (sp _ _ hD3')
  intro ys G1 s4 hD4 ly r
  rw [List.take_of_length_le (by omega)] at r
  refine ⟨D2, ys, rfl, .inl ⟨SqL.of hD4, fun t2 ht2 => ?_⟩⟩
  have s5 := same_new ht2 (.tup ys)
  have e5 : upd G1 t2 (.tup ys) t2 = some (.tup ys) := upd_same
  generalize upd G1 t2 (.tup ys) = G2 at *
  refine ⟨(by show 3 ≤ sizeLine; decide), fun kx hkx => ?_⟩
  have s6 := same_new hkx (.tup [V.int N, V.int n, V.ref t2])
  have e6 : upd G2 kx (.tup [V.int N, V.int n, V.ref t2]) kx = some (.tup [V.int N, V.int n, V.ref t2]) := upd_same
  have e5' := s6 _ _ e5
  generalize upd G2 kx (.tup [V.int N, V.int n, V.ref t2]) = G3 at *
  have s46 := (s4.trans s5).trans s6
  have crk : CRAt G3 kx N n ps := ⟨⟨t2, ys, e6, e5', (r.keep s5).keep s6⟩, hxG.ok⟩
  have hx4 := hxG.keep s46
  have sh4 := shG.keep s46
  have tb4 := tbG.keep s46
  refine ⟨_, rfl, _, rfl, x, sa, N, n, s0, s1', ps, rfl, hx4, sh4, tb4, fun _ ps' y G4 run st tb5 hy => ?_, fun T0 dx H' hT0 _ no _ _ => no (sure T0 hT0)⟩
  obtain ⟨tp4, hT4, _⟩ := tb4
  have tups := st.tup hT4
  have hx5 : CRAt G4 x N n ps := hx4.map tups
  have crk5 : CRAt G4 kx N n ps := crk.map tups
  have sh5 : ShAt G4 sa s0 s1' := ⟨tups _ _ sh4.ob, sh4.h0, sh4.h1, sh4.h2, sh4.cop⟩
  obtain ⟨noM, okM, wiM⟩ := made_is run hx.ok
  have sureM : SureC N n s0 s1' ps' := all_sure run (fun p hp => by have := eEnds_le hp; omega) sure
  obtain ⟨ty, zy, oy, oty, rowY⟩ := hy.ob
  have lzy := rowY.len
  have lpy := okM.len
  dsimp only
  refine seq_by (fun σ G5 => Same G4 G5 ∧ σ = [some (.ref a), some (.int N), some (.int n), some (.ref sa), some (.ref x), some (.ref D), some (.ref kx), some (.ref y), none, none]) ?_ ?_
  · intro M hM
    refine ⟨_, rfl, _, rfl, crT N n ps, cr_den hx5, cr_den crk5, dep_cr N n ps, _, rfl, iteF ?_⟩
    refine ⟨_, rfl, _, rfl, _, rfl, y, _, 2, _, rfl, rfl, SqT.of oy, at2, _, _, _, .int (N : Int), .int (n : Int), .tup (ps'.map nnT), rfl, rfl, rfl, ⟨ty, _, rfl, oty, rown_den rowY⟩, fun N' n' qs g p' G5 s7 dp => ?_, fun no => (no _ _ _ (good_cr okM)).elim⟩
    have gi := good_cr okM
    have eN' : N' = (N : Int) := by have := g.a; cases this; rfl
    have en' : n' = (n : Int) := by have := g.b; cases this; rfl
    have eq : qs = ps'.map zP := by
      obtain ⟨ts, e1, e2⟩ := g.seq
      cases e1
      rw [nn_pp, map_pr2] at e2
      exact (some_inj e2).symm
    subst eN' en' eq
    rw [cr_eq] at dp
    refine ⟨_, rfl, crT N n ps', dp, cr_den (hy.keep s7), dep_cr N n ps', _, rfl, iteF ?_⟩
    refine ⟨_, rfl, _, rfl, _, rfl, x, sa, N, n, s0, s1', ps, rfl, hx5.keep s7, sh5.keep s7, fun ps2 z G6 run2 s8 hz => ?_⟩
    have e2 := all_same run2 run
    subst e2
    exact ⟨crT N n ps2, cr_den ((hy.keep s7).keep s8), cr_den hz, dep_cr N n ps2, _, rfl, iteF (hM _ _ ⟨s7.trans s8, rfl⟩)⟩
  rintro σ G5 ⟨s7, rfl⟩
  have hx6 := hx5.keep s7
  have hy6 := hy.keep s7
  have sh6 := sh5.keep s7
  have tb6 := tb5.keep s7
  obtain ⟨tx6, zx6, ox6, otx6, rowX6⟩ := hx6.ob
  obtain ⟨ty6, zy6, oy6, oty6, rowY6⟩ := hy6.ob
  have l1 := rowX6.len
  have l2 := rowY6.len
  refine seq_by (fun σ G6 => Same G5 G6 ∧ ∃ v1 v2, σ = [some (.ref a), some (.int N), some (.int n), some (.ref sa), some (.ref x), some (.ref D), some (.ref kx), some (.ref y), v1, v2]) ?_ ?_
  · intro M hM
    refine ⟨_, rfl, y, _, 2, _, rfl, rfl, SqT.of oy6, at2, _, rfl, x, _, 2, _, rfl, rfl, SqT.of ox6, at2, ty6, tx6, rfl, ⟨_, SqT.of oty6⟩, ⟨_, SqT.of otx6⟩, ?_⟩
    refine for_zipT (xs := zy6) (ys := zx6) (n := n + 1) (fun i σ G6 => Same G5 G6 ∧ ∃ v1 v2, σ = [some (.ref a), some (.int N), some (.int n), some (.ref sa), some (.ref x), some (.ref D), some (.ref kx), some (.ref y), v1, v2]) ⟨Same.refl _, none, none, rfl⟩ (by omega) (by omega) (.inl (by omega)) ?_ ?_ ?_
    · rintro i σ G6 hi ⟨s8, _⟩
      exact ⟨SqT.of (s8 _ _ oty6), SqT.of (s8 _ _ otx6)⟩
    · rintro i u v TT σ G6 hi hu hv hTT ⟨s8, v1, v2, rfl⟩
      have sT := same_new hTT (.tup [u, v])
      obtain ⟨b1, f1, f2⟩ := rowY6.get (List.getElem?_eq_getElem (show i < ps'.length by omega))
      obtain ⟨b2, g1, g2⟩ := rowX6.get (List.getElem?_eq_getElem (show i < ps.length by omega))
      rw [hu] at f1
      cases f1
      rw [hv] at g1
      cases g1
      have wl := wiM.low i
      have wh := wiM.high i
      rw [getD_in (show i < ps.length by omega), getD_in (show i < ps'.length by omega)] at wl wh
      have s9 := s8.trans sT
      have f2' := s9 _ _ f2
      have g2' := s9 _ _ g2
      refine ⟨TT, _, rfl, SqT.of upd_same, rfl, _, _, rfl, _, _, rfl, rfl, ?_⟩
      refine ⟨_, rfl, b1, _, 0, _, rfl, rfl, SqT.of f2', at0, _, rfl, b2, _, 0, _, rfl, rfl, SqT.of g2', at0, _, _, rfl, rfl, _, rfl, ?_⟩
      rw [decide_eq_false (show ¬ ((ps'[i]).1 : Int) < ((ps[i]).1 : Int) by omega)]
      refine iteF ⟨_, rfl, b1, _, 1, _, rfl, rfl, SqT.of f2', at1, _, rfl, b2, _, 1, _, rfl, rfl, SqT.of g2', at1, _, _, rfl, rfl, _, rfl, ?_⟩
      rw [decide_eq_false (show ¬ ((ps[i]).2 : Int) < ((ps'[i]).2 : Int) by omega)]
      exact iteF ⟨s9, _, _, rfl⟩
    · rintro σ G6 ⟨s8, v1, v2, rfl⟩
      exact hM _ _ ⟨s8, v1, v2, rfl⟩
  rintro σ G6 ⟨s8, v1, v2, rfl⟩
  have hy7 := hy6.keep s8
  have sh7 := sh6.keep s8
  have tb7 := tb6.keep s8
  refine seq_by (fun σ G7 => Same G6 G7 ∧ σ = [some (.ref a), some (.int N), some (.int n), some (.ref sa), some (.ref x), some (.ref D), some (.ref kx), some (.ref y), v1, v2]) ?_ ?_
  · intro M hM
    refine ⟨_, rfl, y, N, n, ps', rfl, hy7, fun v G7 s9 fv => ?_⟩
    obtain ⟨w', t', e9, ht9, hw9⟩ := fewN_some (cwy N n ps') N
    rw [e9] at fv
    obtain ⟨ff, c', rfl, hff, hc'⟩ := fv
    have fw : FrA G7 c' (rq (w' : Int) (binom N n : Int)) := frA_w N30 nN (by rw [hw9]; exact cwy_le ht9) hc'
    refine ⟨ff, _, 0, _, rfl, rfl, SqT.of hff, at0, _, rfl, c', sa, _, _, rfl, fw, (sh7.keep s9).fr, _, rfl, ?_⟩
    have sw : s0 * binom N n ≤ s1' * w' := by rw [hw9]; exact sureM t' ht9
    rw [decide_eq_false (fun z => (rq_cmp bp (by omega)).mp z sw)]
    refine iteF ⟨_, rfl, _, rfl, y, sa, N, n, s0, s1', ps', rfl, hy7.keep s9, sh7.keep s9, noM, fun G8 s10 => ⟨_, rfl, ?_⟩⟩
    exact iteF (hM _ _ ⟨s9.trans s10, rfl⟩)
  rintro σ G7 ⟨s9, rfl⟩
  have hy8 := hy7.keep s9
  refine ⟨_, rfl, _, rfl, y, sa, N, n, s0, s1', ps', rfl, hy8, sh7.keep s9, tb7.keep s9, fun _ ps2 z G8 run2 st2 _ hz => ?_, fun T0 dx H' hT0 _ no _ _ => no (sureM T0 hT0)⟩
  have e2 := all_stay run2 (fun p hp => noM p.1 p.2 (eEnds_le hp))
  subst e2
  obtain ⟨tp7, hT7, _⟩ := tb7.keep s9
  exact ⟨_, rfl, crT N n ps2, cr_den hz, cr_den (hy8.map (st2.tup hT7)), dep_cr N n ps2, q _⟩
end
theorem all_mk {l : PySem.W.OpenLaw} {w : World} {K : PySem.W.Frag} {h : Heap} {mg : Str → Option Value} {fa f_cho f_whole f_cd f_frac f_und f_rowof f_half f_we f_mt f_tog f_crule f_cnt f_ucov f_ul f_utl f_tc f_had f_utg f_sws f_cellU f_rest f_low f_cr f_shU f_ls f_stt f_ref f_mvd f_made f_tgt f_law : Addr} (X : K.In h) (G : h.Ns mainGlobals mg) (hfa : mg "law" = some (.ref fa))
    {od_cho an_cho : Option Addr} {sl_cho : Array (Option Value)} {oc_cho kV_cho dc_cho pm_cho cd_cho ct_cho : Value}
    (a_cho : PySem.W.nsIn K mainGlobals "choices" = some (some (.ref f_cho))) (l_cho : K.lookup f_cho = some ⟨oc_cho, od_cho, .func (PySem.W.fnOf "choices" "choices" (defArgs s_cho) (defBody s_cho) (defScope s_cho) .none kV_cho dc_cho pm_cho an_cho cd_cho ct_cho), sl_cho⟩) (c_cho : PySem.W.codeIn K cd_cho "choices" = true) (k_cho : PySem.W.keepIn K (.ref f_cho) = true)
    {od_whole an_whole : Option Addr} {sl_whole : Array (Option Value)} {oc_whole kV_whole dc_whole pm_whole cd_whole ct_whole : Value}
    (a_whole : PySem.W.nsIn K mainGlobals "is_whole" = some (some (.ref f_whole))) (l_whole : K.lookup f_whole = some ⟨oc_whole, od_whole, .func (PySem.W.fnOf "is_whole" "is_whole" (defArgs s_whole) (defBody s_whole) (defScope s_whole) .none kV_whole dc_whole pm_whole an_whole cd_whole ct_whole), sl_whole⟩) (c_whole : PySem.W.codeIn K cd_whole "is_whole" = true) (k_whole : PySem.W.keepIn K (.ref f_whole) = true)
    {od_cd an_cd : Option Addr} {sl_cd : Array (Option Value)} {oc_cd kV_cd dc_cd pm_cd cd_cd ct_cd : Value}
    (a_cd : PySem.W.nsIn K mainGlobals "common_divisor" = some (some (.ref f_cd))) (l_cd : K.lookup f_cd = some ⟨oc_cd, od_cd, .func (PySem.W.fnOf "common_divisor" "common_divisor" (defArgs s_cd) (defBody s_cd) (defScope s_cd) .none kV_cd dc_cd pm_cd an_cd cd_cd ct_cd), sl_cd⟩) (c_cd : PySem.W.codeIn K cd_cd "common_divisor" = true) (k_cd : PySem.W.keepIn K (.ref f_cd) = true)
    {od_frac an_frac : Option Addr} {sl_frac : Array (Option Value)} {oc_frac kV_frac dc_frac pm_frac cd_frac ct_frac : Value}
    (a_frac : PySem.W.nsIn K mainGlobals "fraction" = some (some (.ref f_frac))) (l_frac : K.lookup f_frac = some ⟨oc_frac, od_frac, .func (PySem.W.fnOf "fraction" "fraction" (defArgs s_frac) (defBody s_frac) (defScope s_frac) .none kV_frac dc_frac pm_frac an_frac cd_frac ct_frac), sl_frac⟩) (c_frac : PySem.W.codeIn K cd_frac "fraction" = true) (k_frac : PySem.W.keepIn K (.ref f_frac) = true)
    {od_und an_und : Option Addr} {sl_und : Array (Option Value)} {oc_und kV_und dc_und pm_und cd_und ct_und : Value}
    (a_und : PySem.W.nsIn K mainGlobals "under" = some (some (.ref f_und))) (l_und : K.lookup f_und = some ⟨oc_und, od_und, .func (PySem.W.fnOf "under" "under" (defArgs s_und) (defBody s_und) (defScope s_und) .none kV_und dc_und pm_und an_und cd_und ct_und), sl_und⟩) (c_und : PySem.W.codeIn K cd_und "under" = true) (k_und : PySem.W.keepIn K (.ref f_und) = true)
    {od_rowof an_rowof : Option Addr} {sl_rowof : Array (Option Value)} {oc_rowof kV_rowof dc_rowof pm_rowof cd_rowof ct_rowof : Value}
    (a_rowof : PySem.W.nsIn K mainGlobals "is_row_of" = some (some (.ref f_rowof))) (l_rowof : K.lookup f_rowof = some ⟨oc_rowof, od_rowof, .func (PySem.W.fnOf "is_row_of" "is_row_of" (defArgs s_rowof) (defBody s_rowof) (defScope s_rowof) .none kV_rowof dc_rowof pm_rowof an_rowof cd_rowof ct_rowof), sl_rowof⟩) (c_rowof : PySem.W.codeIn K cd_rowof "is_row_of" = true) (k_rowof : PySem.W.keepIn K (.ref f_rowof) = true)
    {od_half an_half : Option Addr} {sl_half : Array (Option Value)} {oc_half kV_half dc_half pm_half cd_half ct_half : Value}
    (a_half : PySem.W.nsIn K mainGlobals "half_of_what_is_left" = some (some (.ref f_half))) (l_half : K.lookup f_half = some ⟨oc_half, od_half, .func (PySem.W.fnOf "half_of_what_is_left" "half_of_what_is_left" (defArgs s_half) (defBody s_half) (defScope s_half) .none kV_half dc_half pm_half an_half cd_half ct_half), sl_half⟩) (c_half : PySem.W.codeIn K cd_half "half_of_what_is_left" = true) (k_half : PySem.W.keepIn K (.ref f_half) = true)
    {od_we an_we : Option Addr} {sl_we : Array (Option Value)} {oc_we kV_we dc_we pm_we cd_we ct_we : Value}
    (a_we : PySem.W.nsIn K mainGlobals "with_end" = some (some (.ref f_we))) (l_we : K.lookup f_we = some ⟨oc_we, od_we, .func (PySem.W.fnOf "with_end" "with_end" (defArgs s_we) (defBody s_we) (defScope s_we) .none kV_we dc_we pm_we an_we cd_we ct_we), sl_we⟩) (c_we : PySem.W.codeIn K cd_we "with_end" = true) (k_we : PySem.W.keepIn K (.ref f_we) = true)
    {od_mt an_mt : Option Addr} {sl_mt : Array (Option Value)} {oc_mt kV_mt dc_mt pm_mt cd_mt ct_mt : Value}
    (a_mt : PySem.W.nsIn K mainGlobals "made_tight" = some (some (.ref f_mt))) (l_mt : K.lookup f_mt = some ⟨oc_mt, od_mt, .func (PySem.W.fnOf "made_tight" "made_tight" (defArgs s_mt) (defBody s_mt) (defScope s_mt) .none kV_mt dc_mt pm_mt an_mt cd_mt ct_mt), sl_mt⟩) (c_mt : PySem.W.codeIn K cd_mt "made_tight" = true) (k_mt : PySem.W.keepIn K (.ref f_mt) = true)
    {od_tog an_tog : Option Addr} {sl_tog : Array (Option Value)} {oc_tog kV_tog dc_tog pm_tog cd_tog ct_tog : Value}
    (a_tog : PySem.W.nsIn K mainGlobals "weights_together" = some (some (.ref f_tog))) (l_tog : K.lookup f_tog = some ⟨oc_tog, od_tog, .func (PySem.W.fnOf "weights_together" "weights_together" (defArgs s_tog) (defBody s_tog) (defScope s_tog) .none kV_tog dc_tog pm_tog an_tog cd_tog ct_tog), sl_tog⟩) (c_tog : PySem.W.codeIn K cd_tog "weights_together" = true) (k_tog : PySem.W.keepIn K (.ref f_tog) = true)
    {od_crule an_crule : Option Addr} {sl_crule : Array (Option Value)} {oc_crule kV_crule dc_crule pm_crule cd_crule ct_crule : Value}
    (a_crule : PySem.W.nsIn K mainGlobals "count_rule" = some (some (.ref f_crule))) (l_crule : K.lookup f_crule = some ⟨oc_crule, od_crule, .func (PySem.W.fnOf "count_rule" "count_rule" (defArgs s_crule) (defBody s_crule) (defScope s_crule) .none kV_crule dc_crule pm_crule an_crule cd_crule ct_crule), sl_crule⟩) (c_crule : PySem.W.codeIn K cd_crule "count_rule" = true) (k_crule : PySem.W.keepIn K (.ref f_crule) = true)
    {od_cnt an_cnt : Option Addr} {sl_cnt : Array (Option Value)} {oc_cnt kV_cnt dc_cnt pm_cnt cd_cnt ct_cnt : Value}
    (a_cnt : PySem.W.nsIn K mainGlobals "counts_of" = some (some (.ref f_cnt))) (l_cnt : K.lookup f_cnt = some ⟨oc_cnt, od_cnt, .func (PySem.W.fnOf "counts_of" "counts_of" (defArgs s_cnt) (defBody s_cnt) (defScope s_cnt) .none kV_cnt dc_cnt pm_cnt an_cnt cd_cnt ct_cnt), sl_cnt⟩) (c_cnt : PySem.W.codeIn K cd_cnt "counts_of" = true) (k_cnt : PySem.W.keepIn K (.ref f_cnt) = true)
    {od_ucov an_ucov : Option Addr} {sl_ucov : Array (Option Value)} {oc_ucov kV_ucov dc_ucov pm_ucov cd_ucov ct_ucov : Value}
    (a_ucov : PySem.W.nsIn K mainGlobals "urn_cover" = some (some (.ref f_ucov))) (l_ucov : K.lookup f_ucov = some ⟨oc_ucov, od_ucov, .func (PySem.W.fnOf "urn_cover" "urn_cover" (defArgs s_ucov) (defBody s_ucov) (defScope s_ucov) .none kV_ucov dc_ucov pm_ucov an_ucov cd_ucov ct_ucov), sl_ucov⟩) (c_ucov : PySem.W.codeIn K cd_ucov "urn_cover" = true) (k_ucov : PySem.W.keepIn K (.ref f_ucov) = true)
    {od_ul an_ul : Option Addr} {sl_ul : Array (Option Value)} {oc_ul kV_ul dc_ul pm_ul cd_ul ct_ul : Value}
    (a_ul : PySem.W.nsIn K mainGlobals "urn_least" = some (some (.ref f_ul))) (l_ul : K.lookup f_ul = some ⟨oc_ul, od_ul, .func (PySem.W.fnOf "urn_least" "urn_least" (defArgs s_ul) (defBody s_ul) (defScope s_ul) .none kV_ul dc_ul pm_ul an_ul cd_ul ct_ul), sl_ul⟩) (c_ul : PySem.W.codeIn K cd_ul "urn_least" = true) (k_ul : PySem.W.keepIn K (.ref f_ul) = true)
    {od_utl an_utl : Option Addr} {sl_utl : Array (Option Value)} {oc_utl kV_utl dc_utl pm_utl cd_utl ct_utl : Value}
    (a_utl : PySem.W.nsIn K mainGlobals "urn_tails" = some (some (.ref f_utl))) (l_utl : K.lookup f_utl = some ⟨oc_utl, od_utl, .func (PySem.W.fnOf "urn_tails" "urn_tails" (defArgs s_utl) (defBody s_utl) (defScope s_utl) .none kV_utl dc_utl pm_utl an_utl cd_utl ct_utl), sl_utl⟩) (c_utl : PySem.W.codeIn K cd_utl "urn_tails" = true) (k_utl : PySem.W.keepIn K (.ref f_utl) = true)
    {od_tc an_tc : Option Addr} {sl_tc : Array (Option Value)} {oc_tc kV_tc dc_tc pm_tc cd_tc ct_tc : Value}
    (a_tc : PySem.W.nsIn K mainGlobals "tails_counts" = some (some (.ref f_tc))) (l_tc : K.lookup f_tc = some ⟨oc_tc, od_tc, .func (PySem.W.fnOf "tails_counts" "tails_counts" (defArgs s_tc) (defBody s_tc) (defScope s_tc) .none kV_tc dc_tc pm_tc an_tc cd_tc ct_tc), sl_tc⟩) (c_tc : PySem.W.codeIn K cd_tc "tails_counts" = true) (k_tc : PySem.W.keepIn K (.ref f_tc) = true)
    {od_had an_had : Option Addr} {sl_had : Array (Option Value)} {oc_had kV_had dc_had pm_had cd_had ct_had : Value}
    (a_had : PySem.W.nsIn K mainGlobals "is_had" = some (some (.ref f_had))) (l_had : K.lookup f_had = some ⟨oc_had, od_had, .func (PySem.W.fnOf "is_had" "is_had" (defArgs s_had) (defBody s_had) (defScope s_had) .none kV_had dc_had pm_had an_had cd_had ct_had), sl_had⟩) (c_had : PySem.W.codeIn K cd_had "is_had" = true) (k_had : PySem.W.keepIn K (.ref f_had) = true)
    {od_utg an_utg : Option Addr} {sl_utg : Array (Option Value)} {oc_utg kV_utg dc_utg pm_utg cd_utg ct_utg : Value}
    (a_utg : PySem.W.nsIn K mainGlobals "urn_tight" = some (some (.ref f_utg))) (l_utg : K.lookup f_utg = some ⟨oc_utg, od_utg, .func (PySem.W.fnOf "urn_tight" "urn_tight" (defArgs s_utg) (defBody s_utg) (defScope s_utg) .none kV_utg dc_utg pm_utg an_utg cd_utg ct_utg), sl_utg⟩) (c_utg : PySem.W.codeIn K cd_utg "urn_tight" = true) (k_utg : PySem.W.keepIn K (.ref f_utg) = true)
    {od_sws an_sws : Option Addr} {sl_sws : Array (Option Value)} {oc_sws kV_sws dc_sws pm_sws cd_sws ct_sws : Value}
    (a_sws : PySem.W.nsIn K mainGlobals "sure_when_shorter" = some (some (.ref f_sws))) (l_sws : K.lookup f_sws = some ⟨oc_sws, od_sws, .func (PySem.W.fnOf "sure_when_shorter" "sure_when_shorter" (defArgs s_sws) (defBody s_sws) (defScope s_sws) .none kV_sws dc_sws pm_sws an_sws cd_sws ct_sws), sl_sws⟩) (c_sws : PySem.W.codeIn K cd_sws "sure_when_shorter" = true) (k_sws : PySem.W.keepIn K (.ref f_sws) = true)
    {od_cellU an_cellU : Option Addr} {sl_cellU : Array (Option Value)} {oc_cellU kV_cellU dc_cellU pm_cellU cd_cellU ct_cellU : Value}
    (a_cellU : PySem.W.nsIn K mainGlobals "_law_cell" = some (some (.ref f_cellU))) (l_cellU : K.lookup f_cellU = some ⟨oc_cellU, od_cellU, .func (PySem.W.fnOf "_law_cell" "_law_cell" (defArgs s_cellU) (defBody s_cellU) (defScope s_cellU) .none kV_cellU dc_cellU pm_cellU an_cellU cd_cellU ct_cellU), sl_cellU⟩) (c_cellU : PySem.W.codeIn K cd_cellU "_law_cell" = true) (k_cellU : PySem.W.keepIn K (.ref f_cellU) = true)
    {od_rest an_rest : Option Addr} {sl_rest : Array (Option Value)} {oc_rest kV_rest dc_rest pm_rest cd_rest ct_rest : Value}
    (a_rest : PySem.W.nsIn K mainGlobals "_law_rest" = some (some (.ref f_rest))) (l_rest : K.lookup f_rest = some ⟨oc_rest, od_rest, .func (PySem.W.fnOf "_law_rest" "_law_rest" (defArgs s_rest) (defBody s_rest) (defScope s_rest) .none kV_rest dc_rest pm_rest an_rest cd_rest ct_rest), sl_rest⟩) (c_rest : PySem.W.codeIn K cd_rest "_law_rest" = true) (k_rest : PySem.W.keepIn K (.ref f_rest) = true)
    {od_low an_low : Option Addr} {sl_low : Array (Option Value)} {oc_low kV_low dc_low pm_low cd_low ct_low : Value}
    (a_low : PySem.W.nsIn K mainGlobals "_law_low" = some (some (.ref f_low))) (l_low : K.lookup f_low = some ⟨oc_low, od_low, .func (PySem.W.fnOf "_law_low" "_law_low" (defArgs s_low) (defBody s_low) (defScope s_low) .none kV_low dc_low pm_low an_low cd_low ct_low), sl_low⟩) (c_low : PySem.W.codeIn K cd_low "_law_low" = true) (k_low : PySem.W.keepIn K (.ref f_low) = true)
    {od_cr an_cr : Option Addr} {sl_cr : Array (Option Value)} {oc_cr kV_cr dc_cr pm_cr cd_cr ct_cr : Value}
    (a_cr : PySem.W.nsIn K mainGlobals "_law_rule" = some (some (.ref f_cr))) (l_cr : K.lookup f_cr = some ⟨oc_cr, od_cr, .func (PySem.W.fnOf "_law_rule" "_law_rule" (defArgs s_cr) (defBody s_cr) (defScope s_cr) .none kV_cr dc_cr pm_cr an_cr cd_cr ct_cr), sl_cr⟩) (c_cr : PySem.W.codeIn K cd_cr "_law_rule" = true) (k_cr : PySem.W.keepIn K (.ref f_cr) = true)
    {od_shU an_shU : Option Addr} {sl_shU : Array (Option Value)} {oc_shU kV_shU dc_shU pm_shU cd_shU ct_shU : Value}
    (a_shU : PySem.W.nsIn K mainGlobals "_law_share" = some (some (.ref f_shU))) (l_shU : K.lookup f_shU = some ⟨oc_shU, od_shU, .func (PySem.W.fnOf "_law_share" "_law_share" (defArgs s_shU) (defBody s_shU) (defScope s_shU) .none kV_shU dc_shU pm_shU an_shU cd_shU ct_shU), sl_shU⟩) (c_shU : PySem.W.codeIn K cd_shU "_law_share" = true) (k_shU : PySem.W.keepIn K (.ref f_shU) = true)
    {od_ls an_ls : Option Addr} {sl_ls : Array (Option Value)} {oc_ls kV_ls dc_ls pm_ls cd_ls ct_ls : Value}
    (a_ls : PySem.W.nsIn K mainGlobals "_law_less" = some (some (.ref f_ls))) (l_ls : K.lookup f_ls = some ⟨oc_ls, od_ls, .func (PySem.W.fnOf "_law_less" "_law_less" (defArgs s_ls) (defBody s_ls) (defScope s_ls) .none kV_ls dc_ls pm_ls an_ls cd_ls ct_ls), sl_ls⟩) (c_ls : PySem.W.codeIn K cd_ls "_law_less" = true) (k_ls : PySem.W.keepIn K (.ref f_ls) = true)
    {od_stt an_stt : Option Addr} {sl_stt : Array (Option Value)} {oc_stt kV_stt dc_stt pm_stt cd_stt ct_stt : Value}
    (a_stt : PySem.W.nsIn K mainGlobals "_law_start" = some (some (.ref f_stt))) (l_stt : K.lookup f_stt = some ⟨oc_stt, od_stt, .func (PySem.W.fnOf "_law_start" "_law_start" (defArgs s_stt) (defBody s_stt) (defScope s_stt) .none kV_stt dc_stt pm_stt an_stt cd_stt ct_stt), sl_stt⟩) (c_stt : PySem.W.codeIn K cd_stt "_law_start" = true) (k_stt : PySem.W.keepIn K (.ref f_stt) = true)
    {od_ref an_ref : Option Addr} {sl_ref : Array (Option Value)} {oc_ref kV_ref dc_ref pm_ref cd_ref ct_ref : Value}
    (a_ref : PySem.W.nsIn K mainGlobals "_law_refused" = some (some (.ref f_ref))) (l_ref : K.lookup f_ref = some ⟨oc_ref, od_ref, .func (PySem.W.fnOf "_law_refused" "_law_refused" (defArgs s_ref) (defBody s_ref) (defScope s_ref) .none kV_ref dc_ref pm_ref an_ref cd_ref ct_ref), sl_ref⟩) (c_ref : PySem.W.codeIn K cd_ref "_law_refused" = true) (k_ref : PySem.W.keepIn K (.ref f_ref) = true)
    {od_mvd an_mvd : Option Addr} {sl_mvd : Array (Option Value)} {oc_mvd kV_mvd dc_mvd pm_mvd cd_mvd ct_mvd : Value}
    (a_mvd : PySem.W.nsIn K mainGlobals "_law_moved" = some (some (.ref f_mvd))) (l_mvd : K.lookup f_mvd = some ⟨oc_mvd, od_mvd, .func (PySem.W.fnOf "_law_moved" "_law_moved" (defArgs s_mvd) (defBody s_mvd) (defScope s_mvd) .none kV_mvd dc_mvd pm_mvd an_mvd cd_mvd ct_mvd), sl_mvd⟩) (c_mvd : PySem.W.codeIn K cd_mvd "_law_moved" = true) (k_mvd : PySem.W.keepIn K (.ref f_mvd) = true)
    {od_made an_made : Option Addr} {sl_made : Array (Option Value)} {oc_made kV_made dc_made pm_made cd_made ct_made : Value}
    (a_made : PySem.W.nsIn K mainGlobals "_law_made" = some (some (.ref f_made))) (l_made : K.lookup f_made = some ⟨oc_made, od_made, .func (PySem.W.fnOf "_law_made" "_law_made" (defArgs s_made) (defBody s_made) (defScope s_made) .none kV_made dc_made pm_made an_made cd_made ct_made), sl_made⟩) (c_made : PySem.W.codeIn K cd_made "_law_made" = true) (k_made : PySem.W.keepIn K (.ref f_made) = true)
    {od_tgt an_tgt : Option Addr} {sl_tgt : Array (Option Value)} {oc_tgt kV_tgt dc_tgt pm_tgt cd_tgt ct_tgt : Value}
    (a_tgt : PySem.W.nsIn K mainGlobals "_law_tight" = some (some (.ref f_tgt))) (l_tgt : K.lookup f_tgt = some ⟨oc_tgt, od_tgt, .func (PySem.W.fnOf "_law_tight" "_law_tight" (defArgs s_tgt) (defBody s_tgt) (defScope s_tgt) .none kV_tgt dc_tgt pm_tgt an_tgt cd_tgt ct_tgt), sl_tgt⟩) (c_tgt : PySem.W.codeIn K cd_tgt "_law_tight" = true) (k_tgt : PySem.W.keepIn K (.ref f_tgt) = true)
    {od_law an_law : Option Addr} {sl_law : Array (Option Value)} {oc_law kV_law dc_law pm_law cd_law ct_law : Value}
    (a_law : PySem.W.nsIn K mainGlobals "law" = some (some (.ref f_law))) (l_law : K.lookup f_law = some ⟨oc_law, od_law, .func (PySem.W.fnOf "law" "law" (defArgs s_law) (defBody s_law) (defScope s_law) .none kV_law dc_law pm_law an_law cd_law ct_law), sl_law⟩) (c_law : PySem.W.codeIn K cd_law "law" = true) (k_law : PySem.W.keepIn K (.ref f_law) = true)
    (z_range : PySem.W.nsIn K mainGlobals "range" = some none) (z_min : PySem.W.nsIn K mainGlobals "min" = some none) (z_max : PySem.W.nsIn K mainGlobals "max" = some none) (z_len : PySem.W.nsIn K mainGlobals "len" = some none) (z_isinstance : PySem.W.nsIn K mainGlobals "isinstance" = some none) (z_int : PySem.W.nsIn K mainGlobals "int" = some none) (z_bool : PySem.W.nsIn K mainGlobals "bool" = some none) (z_tuple : PySem.W.nsIn K mainGlobals "tuple" = some none) (z_list : PySem.W.nsIn K mainGlobals "list" = some none) (z_abs : PySem.W.nsIn K mainGlobals "abs" = some none) (z_all : PySem.W.nsIn K mainGlobals "all" = some none) (z_sum : PySem.W.nsIn K mainGlobals "sum" = some none) (z_sorted : PySem.W.nsIn K mainGlobals "sorted" = some none) (z_enumerate : PySem.W.nsIn K mainGlobals "enumerate" = some none) (z_zip : PySem.W.nsIn K mainGlobals "zip" = some none) (z_ValueError : PySem.W.nsIn K mainGlobals "ValueError" = some none)
    {d_StretchError d_NoNumber d_NoRule d_NotSure : Addr}
    (n_StretchError : PySem.W.nsIn K mainGlobals "StretchError" = some (some (.ref d_StretchError)))
    (n_NoNumber : PySem.W.nsIn K mainGlobals "NoNumber" = some (some (.ref d_NoNumber)))
    (n_NoRule : PySem.W.nsIn K mainGlobals "NoRule" = some (some (.ref d_NoRule)))
    (n_NotSure : PySem.W.nsIn K mainGlobals "NotSure" = some (some (.ref d_NotSure)))
    (x_NoRule : PySem.W.excIn K d_NoRule vbm "ValueError.__new__" = true)
    (ic_NoRule : PySem.W.isClsIn K d_NoRule = true)
    (ga_NoRule : PySem.W.findIn K (.ref d_NoRule) "__getattribute__" = some (some (.builtin "BaseException.__getattribute__")))
    (gt_NoRule : PySem.W.findIn K (.ref d_NoRule) "__getattr__" = some none)
    (cl_NoRule : PySem.W.findIn K (.ref d_NoRule) "__class__" = some (some (.builtin "object.__class__")))
    (sg_NoRule : PySem.W.specialIn K (.builtin "object.__class__") "__get__" = some (some (.builtin "getset_descriptor.__get__")))
    (tk_NoRule : PySem.W.takesIn K (.builtin "object.__class__") = some true)
    (ob_NoRule : PySem.W.mroIn K d_NoRule (.type "object") = some true)
    (be_NoRule : PySem.W.mroIn K d_NoRule (.type "BaseException") = some true)
    (x_NoNumber : PySem.W.excIn K d_NoNumber vbm "ValueError.__new__" = true)
    (ic_NoNumber : PySem.W.isClsIn K d_NoNumber = true)
    (ga_NoNumber : PySem.W.findIn K (.ref d_NoNumber) "__getattribute__" = some (some (.builtin "BaseException.__getattribute__")))
    (gt_NoNumber : PySem.W.findIn K (.ref d_NoNumber) "__getattr__" = some none)
    (cl_NoNumber : PySem.W.findIn K (.ref d_NoNumber) "__class__" = some (some (.builtin "object.__class__")))
    (sg_NoNumber : PySem.W.specialIn K (.builtin "object.__class__") "__get__" = some (some (.builtin "getset_descriptor.__get__")))
    (tk_NoNumber : PySem.W.takesIn K (.builtin "object.__class__") = some true)
    (ob_NoNumber : PySem.W.mroIn K d_NoNumber (.type "object") = some true)
    (be_NoNumber : PySem.W.mroIn K d_NoNumber (.type "BaseException") = some true)
    (t_NoRule : PySem.W.typeIn K (.ref d_NoRule) = some (.type "type")) (s_NoRule : PySem.W.isClsIn K d_NoRule = true) (u_NoRule : PySem.W.subIn K (.ref d_NoRule) (.type "BaseException") = some true)
    (t_StretchError : PySem.W.typeIn K (.ref d_StretchError) = some (.type "type")) (s_StretchError : PySem.W.isClsIn K d_StretchError = true) (u_StretchError : PySem.W.subIn K (.ref d_StretchError) (.type "BaseException") = some true)
    {f_ini : Addr} {od_ini an_ini : Option Addr} {sl_ini : Array (Option Value)} {oc_ini kV_ini dc_ini pm_ini cd_ini ct_ini : Value}
    (a_ini : PySem.W.findIn K (.ref d_NotSure) "__init__" = some (some (.ref f_ini))) (l_ini : K.lookup f_ini = some ⟨oc_ini, od_ini, .func (PySem.W.fnOf "__init__" "NotSure.__init__" (defArgs s_ini) (defBody s_ini) (defScope s_ini) .none kV_ini dc_ini pm_ini an_ini cd_ini ct_ini), sl_ini⟩) (c_ini : PySem.W.codeIn K cd_ini "NotSure.__init__" = true) (k_ini : PySem.W.keepIn K (.ref f_ini) = true)
    (xi_NotSure : L2.xinitIn K d_NotSure f_ini = true) (fn_NotSure : PySem.W.isFn K (.ref f_ini) = true) (kc_NotSure : PySem.W.keepIn K (.ref d_NotSure) = true)
    (sa_NotSure : PySem.W.findIn K (.ref d_NotSure) "__setattr__" = some (some (.builtin "object.__setattr__"))) (at_NotSure : PySem.W.findIn K (.ref d_NotSure) "at" = some none) (st_NotSure : (PySem.W.clsIn K d_NotSure).any (fun cd => L2.valMro cd.mro && cd.hasDict) = true)
    (hd_NotSure : PySem.W.hasDictIn K d_NotSure = true) (sb_NotSure : PySem.W.subIn K (.ref d_NotSure) (.type "BaseException") = some true) (ic_NotSure : PySem.W.isClsIn K d_NotSure = true)
    (ga_NotSure : PySem.W.findIn K (.ref d_NotSure) "__getattribute__" = some (some (.builtin "BaseException.__getattribute__")))
    (gt_NotSure : PySem.W.findIn K (.ref d_NotSure) "__getattr__" = some none)
    (cl_NotSure : PySem.W.findIn K (.ref d_NotSure) "__class__" = some (some (.builtin "object.__class__")))
    (sg_NotSure : PySem.W.specialIn K (.builtin "object.__class__") "__get__" = some (some (.builtin "getset_descriptor.__get__")))
    (tk_NotSure : PySem.W.takesIn K (.builtin "object.__class__") = some true)
    (ob_NotSure : PySem.W.mroIn K d_NotSure (.type "object") = some true)
    (be_NotSure : PySem.W.mroIn K d_NotSure (.type "BaseException") = some true)
    (f_sub : PySem.W.subIn K (.ref d_NoRule) (.ref d_NoRule) = some true)
    (f_sub1 : PySem.W.subIn K (.ref d_NotSure) (.ref d_StretchError) = some true)
    (f_kit1 : PySem.W.kitOne K (.ref d_NotSure) (.ref d_NotSure) = some true)
    (f_kit2 : PySem.W.kitOne K (.ref d_NotSure) (.type "ValueError") = some true) {cT T_ : Addr} {oT : Value} {dT : Option Addr} {vsT : Array Value} {slT : Array (Option Value)} (hcT : cd_utg = .ref cT) (lcT : K.lookup cT = some ⟨oT, dT, .fields vsT, slT⟩) (hvT : (vsT[11]? : Option Value) = some (.ref T_)) (tn : K.lookup T_ = none) (ts : T_ ≠ cStatics) :
    ∃ (c T : Addr) (fd : FuncData), PySem.W.tabIn K "urn_tight" = some (c, T) ∧ K.lookup T = none ∧ T ≠ cStatics ∧ (∀ (s : Shared) (v : Value), BindsTo s fd ⟨[v], []⟩ [("_law_script", v)]) ∧
      ∀ base : Heap, K.In base → base.Ns mainGlobals mg → PySem.W.CodeHd base c T → base.BuiltinsAt mg T → FnOk l.prog w K mg base CX0 13 fa fd ["_law_script"] (spLaw K T) := by
  have tb : PySem.W.tabIn K "urn_tight" = some (cT, T_) := L2.tab_mk a_utg l_utg hcT lcT hvT
  have e := hfa.symm.trans (PySem.W.mg_of X G a_law)
  cases e
  have T : Txt mg := ⟨PySem.W.mg_none_of X G z_range, PySem.W.mg_none_of X G z_min, PySem.W.mg_none_of X G z_max, PySem.W.mg_none_of X G z_len, PySem.W.mg_none_of X G z_isinstance, PySem.W.mg_none_of X G z_int, PySem.W.mg_none_of X G z_bool, PySem.W.mg_none_of X G z_tuple, PySem.W.mg_none_of X G z_list, PySem.W.mg_none_of X G z_abs, PySem.W.mg_none_of X G z_all, PySem.W.mg_none_of X G z_sum, PySem.W.mg_none_of X G z_sorted, PySem.W.mg_none_of X G z_enumerate, PySem.W.mg_none_of X G z_zip, PySem.W.mg_none_of X G z_ValueError⟩
  have cf : CF K mg ⟨d_StretchError, d_NoNumber, d_NoRule, d_NotSure, f_ini⟩ := ⟨PySem.W.mg_of X G n_StretchError, PySem.W.mg_of X G n_NoNumber, PySem.W.mg_of X G n_NoRule, PySem.W.mg_of X G n_NotSure, ⟨PySem.W.mg_of X G n_NoRule, x_NoRule⟩, ⟨PySem.W.mg_of X G n_NoNumber, x_NoNumber⟩, ⟨t_NoRule, s_NoRule, u_NoRule⟩, ⟨t_StretchError, s_StretchError, u_StretchError⟩, ⟨ga_NoRule, gt_NoRule, cl_NoRule, sg_NoRule, tk_NoRule, ob_NoRule, be_NoRule, ic_NoRule⟩, ⟨ga_NoNumber, gt_NoNumber, cl_NoNumber, sg_NoNumber, tk_NoNumber, ob_NoNumber, be_NoNumber, ic_NoNumber⟩, ⟨xi_NotSure, fn_NotSure, kc_NotSure⟩, ⟨sa_NotSure, at_NotSure, st_NotSure⟩, ⟨ga_NotSure, gt_NotSure, at_NotSure, hd_NotSure, sb_NotSure⟩, ⟨ga_NotSure, gt_NotSure, cl_NotSure, sg_NotSure, tk_NotSure, ob_NotSure, be_NotSure, ic_NotSure⟩, f_sub, f_sub1, f_kit1, f_kit2⟩
  have F_cho := fun_mk (st := s_cho) l_cho c_cho k_cho
  have b_cho := F_cho.binds (ps := ["n", "k"]) fun _ _ _ _ _ _ us hl => match us, hl with | [_, _], _ => rfl
  have m_cho := PySem.W.mg_of X G a_cho
  have F_whole := fun_mk (st := s_whole) l_whole c_whole k_whole
  have b_whole := F_whole.binds (ps := ["thing"]) fun _ _ _ _ _ _ us hl => match us, hl with | [_], _ => rfl
  have m_whole := PySem.W.mg_of X G a_whole
  have F_cd := fun_mk (st := s_cd) l_cd c_cd k_cd
  have b_cd := F_cd.binds (ps := ["one", "other"]) fun _ _ _ _ _ _ us hl => match us, hl with | [_, _], _ => rfl
  have m_cd := PySem.W.mg_of X G a_cd
  have F_frac := fun_mk (st := s_frac) l_frac c_frac k_frac
  have b_frac := F_frac.binds (ps := ["top", "bottom"]) fun _ _ _ _ _ _ us hl => match us, hl with | [_, _], _ => rfl
  have m_frac := PySem.W.mg_of X G a_frac
  have F_und := fun_mk (st := s_und) l_und c_und k_und
  have b_und := F_und.binds (ps := ["one", "other"]) fun _ _ _ _ _ _ us hl => match us, hl with | [_, _], _ => rfl
  have m_und := PySem.W.mg_of X G a_und
  have F_rowof := fun_mk (st := s_rowof) l_rowof c_rowof k_rowof
  have b_rowof := F_rowof.binds (ps := ["thing", "count"]) fun _ _ _ _ _ _ us hl => match us, hl with | [_, _], _ => rfl
  have m_rowof := PySem.W.mg_of X G a_rowof
  have F_half := fun_mk (st := s_half) l_half c_half k_half
  have b_half := F_half.binds (ps := ["share"]) fun _ _ _ _ _ _ us hl => match us, hl with | [_], _ => rfl
  have m_half := PySem.W.mg_of X G a_half
  have F_we := fun_mk (st := s_we) l_we c_we k_we
  have b_we := F_we.binds (ps := ["stretches", "k", "end", "value"]) fun _ _ _ _ _ _ us hl => match us, hl with | [_, _, _, _], _ => rfl
  have m_we := PySem.W.mg_of X G a_we
  have F_mt := fun_mk (st := s_mt) l_mt c_mt k_mt
  have b_mt := F_mt.binds (ps := ["rule", "n", "move"]) fun _ _ _ _ _ _ us hl => match us, hl with | [_, _, _], _ => rfl
  have m_mt := PySem.W.mg_of X G a_mt
  have F_tog := fun_mk (st := s_tog) l_tog c_tog k_tog
  have b_tog := F_tog.binds (ps := ["N", "T", "n", "outcomes"]) fun _ _ _ _ _ _ us hl => match us, hl with | [_, _, _, _], _ => rfl
  have m_tog := PySem.W.mg_of X G a_tog
  have F_crule := fun_mk (st := s_crule) l_crule c_crule k_crule
  have b_crule := F_crule.binds (ps := ["N", "n", "stretches"]) fun _ _ _ _ _ _ us hl => match us, hl with | [_, _, _], _ => rfl
  have m_crule := PySem.W.mg_of X G a_crule
  have F_cnt := fun_mk (st := s_cnt) l_cnt c_cnt k_cnt
  have b_cnt := F_cnt.binds (ps := ["thing", "N"]) fun _ _ _ _ _ _ us hl => match us, hl with | [_, _], _ => rfl
  have m_cnt := PySem.W.mg_of X G a_cnt
  have F_ucov := fun_mk (st := s_ucov) l_ucov c_ucov k_ucov
  have b_ucov := F_ucov.binds (ps := ["rule", "T"]) fun _ _ _ _ _ _ us hl => match us, hl with | [_, _], _ => rfl
  have m_ucov := PySem.W.mg_of X G a_ucov
  have F_ul := fun_mk (st := s_ul) l_ul c_ul k_ul
  have b_ul := F_ul.binds (ps := ["rule"]) fun _ _ _ _ _ _ us hl => match us, hl with | [_], _ => rfl
  have m_ul := PySem.W.mg_of X G a_ul
  have F_utl := fun_mk (st := s_utl) l_utl c_utl k_utl
  have b_utl := F_utl.binds (ps := ["N", "n", "share"]) fun _ _ _ _ _ _ us hl => match us, hl with | [_, _, _], _ => rfl
  have m_utl := PySem.W.mg_of X G a_utl
  have F_tc := fun_mk (st := s_tc) l_tc c_tc k_tc
  have b_tc := F_tc.binds (ps := ["N", "n", "k", "most"]) fun _ _ _ _ _ _ us hl => match us, hl with | [_, _, _, _], _ => rfl
  have m_tc := PySem.W.mg_of X G a_tc
  have F_had := fun_mk (st := s_had) l_had c_had k_had
  have b_had := F_had.binds (ps := ["N", "T", "n", "k", "most"]) fun _ _ _ _ _ _ us hl => match us, hl with | [_, _, _, _, _], _ => rfl
  have m_had := PySem.W.mg_of X G a_had
  have F_utg := fun_mk (st := s_utg) l_utg c_utg k_utg
  have b_utg := F_utg.binds (ps := ["rule", "share"]) fun _ _ _ _ _ _ us hl => match us, hl with | [_, _], _ => rfl
  have m_utg := PySem.W.mg_of X G a_utg
  have F_sws := fun_mk (st := s_sws) l_sws c_sws k_sws
  have b_sws := F_sws.binds (ps := ["rule", "k", "end", "share"]) fun _ _ _ _ _ _ us hl => match us, hl with | [_, _, _, _], _ => rfl
  have m_sws := PySem.W.mg_of X G a_sws
  have F_cellU := fun_mk (st := s_cellU) l_cellU c_cellU k_cellU
  have b_cellU := F_cellU.binds (ps := ["_law_script", "_law_k"]) fun _ _ _ _ _ _ us hl => match us, hl with | [_, _], _ => rfl
  have m_cellU := PySem.W.mg_of X G a_cellU
  have F_rest := fun_mk (st := s_rest) l_rest c_rest k_rest
  have b_rest := F_rest.binds (ps := ["_law_one", "_law_other"]) fun _ _ _ _ _ _ us hl => match us, hl with | [_, _], _ => rfl
  have m_rest := PySem.W.mg_of X G a_rest
  have F_low := fun_mk (st := s_low) l_low c_low k_low
  have b_low := F_low.binds (ps := ["_law_top", "_law_bottom"]) fun _ _ _ _ _ _ us hl => match us, hl with | [_, _], _ => rfl
  have m_low := PySem.W.mg_of X G a_low
  have F_cr := fun_mk (st := s_cr) l_cr c_cr k_cr
  have b_cr := F_cr.binds (ps := ["_law_script", "_law_things", "_law_drawn", "_law_start_here"]) fun _ _ _ _ _ _ us hl => match us, hl with | [_, _, _, _], _ => rfl
  have m_cr := PySem.W.mg_of X G a_cr
  have F_shU := fun_mk (st := s_shU) l_shU c_shU k_shU
  have b_shU := F_shU.binds (ps := ["_law_script", "_law_k"]) fun _ _ _ _ _ _ us hl => match us, hl with | [_, _], _ => rfl
  have m_shU := PySem.W.mg_of X G a_shU
  have F_ls := fun_mk (st := s_ls) l_ls c_ls k_ls
  have b_ls := F_ls.binds (ps := ["_law_one", "_law_other"]) fun _ _ _ _ _ _ us hl => match us, hl with | [_, _], _ => rfl
  have m_ls := PySem.W.mg_of X G a_ls
  have F_stt := fun_mk (st := s_stt) l_stt c_stt k_stt
  have b_stt := F_stt.binds (ps := ["_law_script", "_law_things", "_law_drawn", "_law_share_here"]) fun _ _ _ _ _ _ us hl => match us, hl with | [_, _, _, _], _ => rfl
  have m_stt := PySem.W.mg_of X G a_stt
  have F_ref := fun_mk (st := s_ref) l_ref c_ref k_ref
  have b_ref := F_ref.binds (ps := ["_law_rule_here", "_law_share_here"]) fun _ _ _ _ _ _ us hl => match us, hl with | [_, _], _ => rfl
  have m_ref := PySem.W.mg_of X G a_ref
  have F_mvd := fun_mk (st := s_mvd) l_mvd c_mvd k_mvd
  have b_mvd := F_mvd.binds (ps := ["_law_rule_here", "_law_k", "_law_at", "_law_share_here"]) fun _ _ _ _ _ _ us hl => match us, hl with | [_, _, _, _], _ => rfl
  have m_mvd := PySem.W.mg_of X G a_mvd
  have F_made := fun_mk (st := s_made) l_made c_made k_made
  have b_made := F_made.binds (ps := ["_law_rule_here", "_law_share_here"]) fun _ _ _ _ _ _ us hl => match us, hl with | [_, _], _ => rfl
  have m_made := PySem.W.mg_of X G a_made
  have F_tgt := fun_mk (st := s_tgt) l_tgt c_tgt k_tgt
  have b_tgt := F_tgt.binds (ps := ["_law_rule_here", "_law_share_here"]) fun _ _ _ _ _ _ us hl => match us, hl with | [_, _], _ => rfl
  have m_tgt := PySem.W.mg_of X G a_tgt
  have F_law := fun_mk (st := s_law) l_law c_law k_law
  have b_law := F_law.binds (ps := ["_law_script"]) fun _ _ _ _ _ _ us hl => match us, hl with | [_], _ => rfl
  have m_law := PySem.W.mg_of X G a_law
  have F_ini := fun_mk (st := s_ini) l_ini c_ini k_ini
  have b_ini := F_ini.binds (ps := ["self", "at"]) fun _ _ _ _ _ _ us hl => match us, hl with | [_, _], _ => rfl
  refine ⟨cT, T_, PySem.W.fnOf "law" "law" (defArgs s_law) (defBody s_law) (defScope s_law) .none kV_law dc_law pm_law an_law cd_law ct_law, tb, tn, ts, fun s v => .of_eq rfl, fun base _ _ hC_ hB_ => ?_⟩
  have G_cellU := ok_cellU (P := l.prog) (w := w) (base := base) F_cellU T
  have G_rest := ok_rest (P := l.prog) (w := w) (base := base) F_rest T
  have G_low := ok_low (P := l.prog) (w := w) (base := base) F_low T (G_rest.mono (by decide)) b_rest k_rest m_rest
  have G_shU := ok_shU (P := l.prog) (w := w) (base := base) F_shU T (G_cellU.mono (by decide)) b_cellU k_cellU m_cellU (G_low.mono (by decide)) b_low k_low m_low
  have G_whole := ok_whole (P := l.prog) (w := w) (base := base) F_whole T
  have G_cd := ok_cd (P := l.prog) (w := w) (base := base) F_cd T
  have G_frac := ok_frac (P := l.prog) (w := w) (base := base) F_frac T cf (G_whole.mono (by decide)) b_whole k_whole m_whole (G_cd.mono (by decide)) b_cd k_cd m_cd
  have G_half := ok_half (P := l.prog) (w := w) (base := base) F_half T (G_frac.mono (by decide)) b_frac k_frac m_frac
  have G_cho := ok_cho (P := l.prog) (w := w) (base := base) F_cho T
  have G_tog := ok_tog (P := l.prog) (w := w) (base := base) F_tog T (G_cho.mono (by decide)) b_cho k_cho m_cho (G_frac.mono (by decide)) b_frac k_frac m_frac
  have G_und := ok_und (P := l.prog) (w := w) (base := base) F_und T
  have G_had := ok_had (P := l.prog) (w := w) (base := base) F_had T (G_tog.mono (by decide)) b_tog k_tog m_tog (G_und.mono (by decide)) b_und k_und m_und
  have G_tc := ok_tc (P := l.prog) (w := w) (base := base) F_tc T (G_had.mono (by decide)) b_had k_had m_had
  have G_utl := ok_utl (P := l.prog) (w := w) (base := base) F_utl T (G_half.mono (by decide)) b_half k_half m_half (G_tc.mono (by decide)) b_tc k_tc m_tc
  have G_cr := ok_cr (P := l.prog) (w := w) (base := base) F_cr T (G_cellU.mono (by decide)) b_cellU k_cellU m_cellU
  have G_stt := ok_stt (P := l.prog) (w := w) (base := base) F_stt T (G_cellU.mono (by decide)) b_cellU k_cellU m_cellU (G_utl.mono (by decide)) b_utl k_utl m_utl (G_cr.mono (by decide)) b_cr k_cr m_cr
  have G_ucov := ok_ucov (P := l.prog) (w := w) (base := base) F_ucov T (G_tog.mono (by decide)) b_tog k_tog m_tog
  have G_ls := ok_ls (P := l.prog) (w := w) (base := base) F_ls T
  have G_rowof := ok_rowof (P := l.prog) (w := w) (base := base) F_rowof T
  have G_cnt := ok_cnt (P := l.prog) (w := w) (base := base) F_cnt T cf (G_rowof.mono (by decide)) b_rowof k_rowof m_rowof (G_whole.mono (by decide)) b_whole k_whole m_whole
  have G_crule := ok_crule (P := l.prog) (w := w) (base := base) F_crule T cf (G_whole.mono (by decide)) b_whole k_whole m_whole (G_rowof.mono (by decide)) b_rowof k_rowof m_rowof (G_cnt.mono (by decide)) b_cnt k_cnt m_cnt
  have G_we := ok_we (P := l.prog) (w := w) (base := base) F_we T
  have G_sws := ok_sws (P := l.prog) (w := w) (base := base) F_sws T cf (G_crule.mono (by decide)) b_crule k_crule m_crule (G_we.mono (by decide)) b_we k_we m_we (G_ucov.mono (by decide)) b_ucov k_ucov m_ucov (G_und.mono (by decide)) b_und k_und m_und
  have G_mt := ok_mt (P := l.prog) (w := w) (base := base) F_mt T (G_sws.mono (by decide)) b_sws k_sws m_sws
  have G_ini := ok_ini (P := l.prog) (w := w) (base := base) F_ini T cf
  have G_utg := ok_utg (P := l.prog) (w := w) (base := base) l_utg c_utg (tab_code a_utg l_utg tb) hC_ hB_ T cf (G_ucov.mono (by decide)) b_ucov k_ucov m_ucov (G_und.mono (by decide)) b_und k_und m_und (G_mt.mono (by decide)) b_mt k_mt m_mt (G_ini.mono (by decide)) b_ini
  have G_ref := ok_ref (P := l.prog) (w := w) (base := base) F_ref T cf (G_utg.mono (by decide)) b_utg k_utg m_utg
  have G_mvd := ok_mvd (P := l.prog) (w := w) (base := base) F_mvd T (G_ucov.mono (by decide)) b_ucov k_ucov m_ucov (G_ls.mono (by decide)) b_ls k_ls m_ls
  have G_made := ok_made (P := l.prog) (w := w) (base := base) F_made T (G_mvd.mono (by decide)) b_mvd k_mvd m_mvd
  have G_ul := ok_ul (P := l.prog) (w := w) (base := base) F_ul T (G_ucov.mono (by decide)) b_ucov k_ucov m_ucov (G_und.mono (by decide)) b_und k_und m_und
  have G_tgt := ok_tgt (P := l.prog) (w := w) (base := base) F_tgt T (G_mvd.mono (by decide)) b_mvd k_mvd m_mvd
  exact ok_law F_law T cf (G_cellU.mono (by decide)) b_cellU k_cellU m_cellU (G_shU.mono (by decide)) b_shU k_shU m_shU (G_stt.mono (by decide)) b_stt k_stt m_stt (G_ucov.mono (by decide)) b_ucov k_ucov m_ucov (G_ls.mono (by decide)) b_ls k_ls m_ls (G_ref.mono (by decide)) b_ref k_ref m_ref (G_utg.mono (by decide)) b_utg k_utg m_utg (G_crule.mono (by decide)) b_crule k_crule m_crule (G_made.mono (by decide)) b_made k_made m_made (G_ul.mono (by decide)) b_ul k_ul m_ul (G_tgt.mono (by decide)) b_tgt k_tgt m_tgt
theorem walk {l : PySem.W.OpenLaw} {q : Program} {loose : List Str} {XP : (Str → Option Value) → Heap → Prop} {YP : World → Heap → Prop} {d : DefRec} {K : Params → PySem.W.Frag} (hn : l.most = some 63) (hdf : d.params.defaults = []) (hrec : ((PyProof.Rows.recsOf q).find? (fun e => e.name == ("urn_tight" : Str))).isSome = true)
    (hY : ∀ (w : World) (h : Heap), YP w h → (K w.params).In h)
    (F : ∀ (w : World) (mg : Str → Option Value) (fa : Addr) (h : Heap), (K w.params).In h → h.Ns mainGlobals mg → mg d.name = some (.ref fa) →
      ∃ (c T : Addr) (fd : FuncData), PySem.W.tabIn (K w.params) "urn_tight" = some (c, T) ∧ (K w.params).lookup T = none ∧ T ≠ cStatics ∧ (∀ (s : Shared) (u : Value), BindsTo s fd ⟨[u], []⟩ [("_law_script", u)]) ∧
        ∀ base : Heap, (K w.params).In base → base.Ns mainGlobals mg → PySem.W.CodeHd base c T → base.BuiltinsAt mg T → FnOk l.prog w (K w.params) mg base CX0 13 fa fd ["_law_script"] (spLaw (K w.params) T)) :
    PySem.W.WalkO q loose XP YP l.row.toRowW d [] (fun f vs => PySem.call f vs) :=
  L2.walk_ofT (n := 63) (k := 13) (x := "_law_script") (sp := spLaw) hn (by decide) hdf ⟨rfl, by decide, by decide⟩ hrec hY F (fun _ _ _ a ns hl hb hS hT => ⟨a, ns, rfl, hS, hl, hb, hT, fun _ => rfl⟩)
end K34
open PySem PySem.W PyProof.Rows
def PySem.W.Fast.tw4380963302639570958 : Nat := 0
def PySem.W.Fast.tw4046761358346022110 : Nat := 0
def PySem.W.Fast.tw8259377565776732239 : Nat := 0
def PySem.W.Fast.tw7177906681293768179 : Nat := 0
def PySem.W.Fast.tw7005847213597524384 : Nat := 0
def PySem.W.Fast.tw9158490547554168355 : Nat := 0
def PySem.W.Fast.tw6091726129330796333 : Nat := 0
def PySem.W.Fast.tw1883139856055106482 : Nat := 0
set_option maxRecDepth 100000 in
set_option maxHeartbeats 0 in
theorem PySem.Challenge.cw_surestretch_k34_count_rules_made_tight_holds : PySem.Challenge.rw_surestretch_k34_count_rules_made_tight.Holds := by
  w_on; o_law; k_head; (case hw => w_witness2)
  k_fill
  refine K34.walk (l := PySem.Challenge.rw_surestretch_k34_count_rules_made_tight) rfl rfl (by decide +kernel) (fun w h Y => PySem.W.km_in_of Y) ?F
  case F =>
    intro w mg fa h KX G hmg
    refine' K34.all_mk KX G hmg ?a_cho ?l_cho ?c_cho ?k_cho ?a_whole ?l_whole ?c_whole ?k_whole ?a_cd ?l_cd ?c_cd ?k_cd ?a_frac ?l_frac ?c_frac ?k_frac ?a_und ?l_und ?c_und ?k_und ?a_rowof ?l_rowof ?c_rowof ?k_rowof ?a_half ?l_half ?c_half ?k_half ?a_we ?l_we ?c_we ?k_we ?a_mt ?l_mt ?c_mt ?k_mt ?a_tog ?l_tog ?c_tog ?k_tog ?a_crule ?l_crule ?c_crule ?k_crule ?a_cnt ?l_cnt ?c_cnt ?k_cnt ?a_ucov ?l_ucov ?c_ucov ?k_ucov ?a_ul ?l_ul ?c_ul ?k_ul ?a_utl ?l_utl ?c_utl ?k_utl ?a_tc ?l_tc ?c_tc ?k_tc ?a_had ?l_had ?c_had ?k_had ?a_utg ?l_utg ?c_utg ?k_utg ?a_sws ?l_sws ?c_sws ?k_sws ?a_cellU ?l_cellU ?c_cellU ?k_cellU ?a_rest ?l_rest ?c_rest ?k_rest ?a_low ?l_low ?c_low ?k_low ?a_cr ?l_cr ?c_cr ?k_cr ?a_shU ?l_shU ?c_shU ?k_shU ?a_ls ?l_ls ?c_ls ?k_ls ?a_stt ?l_stt ?c_stt ?k_stt ?a_ref ?l_ref ?c_ref ?k_ref ?a_mvd ?l_mvd ?c_mvd ?k_mvd ?a_made ?l_made ?c_made ?k_made ?a_tgt ?l_tgt ?c_tgt ?k_tgt ?a_law ?l_law ?c_law ?k_law ?z_range ?z_min ?z_max ?z_len ?z_isinstance ?z_int ?z_bool ?z_tuple ?z_list ?z_abs ?z_all ?z_sum ?z_sorted ?z_enumerate ?z_zip ?z_ValueError ?n_StretchError ?n_NoNumber ?n_NoRule ?n_NotSure ?x_NoRule ?ic_NoRule ?ga_NoRule ?gt_NoRule ?cl_NoRule ?sg_NoRule ?tk_NoRule ?ob_NoRule ?be_NoRule ?x_NoNumber ?ic_NoNumber ?ga_NoNumber ?gt_NoNumber ?cl_NoNumber ?sg_NoNumber ?tk_NoNumber ?ob_NoNumber ?be_NoNumber ?t_NoRule ?s_NoRule ?u_NoRule ?t_StretchError ?s_StretchError ?u_StretchError ?a_ini ?l_ini ?c_ini ?k_ini ?xi_NotSure ?fn_NotSure ?kc_NotSure ?sa_NotSure ?at_NotSure ?st_NotSure ?hd_NotSure ?sb_NotSure ?ic_NotSure ?ga_NotSure ?gt_NotSure ?cl_NotSure ?sg_NotSure ?tk_NotSure ?ob_NotSure ?be_NotSure ?f_sub ?f_sub1 ?f_kit1 ?f_kit2 ?hcT ?lcT ?hvT ?tn ?ts
    (case a_cho => k_is); (case l_cho => k_is); (case c_cho => k_is); (case k_cho => k_is); (case a_whole => k_is); (case l_whole => k_is); (case c_whole => k_is); (case k_whole => k_is)
    (case a_cd => k_is); (case l_cd => k_is); (case c_cd => k_is); (case k_cd => k_is); (case a_frac => k_is); (case l_frac => k_is); (case c_frac => k_is); (case k_frac => k_is)
    (case a_und => k_is); (case l_und => k_is); (case c_und => k_is); (case k_und => k_is); (case a_rowof => k_is); (case l_rowof => k_is); (case c_rowof => k_is); (case k_rowof => k_is)
    (case a_half => k_is); (case l_half => k_is); (case c_half => k_is); (case k_half => k_is); (case a_we => k_is); (case l_we => k_is); (case c_we => k_is); (case k_we => k_is)
    (case a_mt => k_is); (case l_mt => k_is); (case c_mt => k_is); (case k_mt => k_is); (case a_tog => k_is); (case l_tog => k_is); (case c_tog => k_is); (case k_tog => k_is)
    (case a_crule => k_is); (case l_crule => k_is); (case c_crule => k_is); (case k_crule => k_is); (case a_cnt => k_is); (case l_cnt => k_is); (case c_cnt => k_is); (case k_cnt => k_is)
    (case a_ucov => k_is); (case l_ucov => k_is); (case c_ucov => k_is); (case k_ucov => k_is); (case a_ul => k_is); (case l_ul => k_is); (case c_ul => k_is); (case k_ul => k_is)
    (case a_utl => k_is); (case l_utl => k_is); (case c_utl => k_is); (case k_utl => k_is); (case a_tc => k_is); (case l_tc => k_is); (case c_tc => k_is); (case k_tc => k_is)
    (case a_had => k_is); (case l_had => k_is); (case c_had => k_is); (case k_had => k_is); (case a_utg => k_is); (case l_utg => k_is); (case c_utg => k_is); (case k_utg => k_is)
    (case a_sws => k_is); (case l_sws => k_is); (case c_sws => k_is); (case k_sws => k_is); (case a_cellU => k_is); (case l_cellU => k_is); (case c_cellU => k_is); (case k_cellU => k_is)
    (case a_rest => k_is); (case l_rest => k_is); (case c_rest => k_is); (case k_rest => k_is); (case a_low => k_is); (case l_low => k_is); (case c_low => k_is); (case k_low => k_is)
    (case a_cr => k_is); (case l_cr => k_is); (case c_cr => k_is); (case k_cr => k_is); (case a_shU => k_is); (case l_shU => k_is); (case c_shU => k_is); (case k_shU => k_is)
    (case a_ls => k_is); (case l_ls => k_is); (case c_ls => k_is); (case k_ls => k_is); (case a_stt => k_is); (case l_stt => k_is); (case c_stt => k_is); (case k_stt => k_is)
    (case a_ref => k_is); (case l_ref => k_is); (case c_ref => k_is); (case k_ref => k_is); (case a_mvd => k_is); (case l_mvd => k_is); (case c_mvd => k_is); (case k_mvd => k_is)
    (case a_made => k_is); (case l_made => k_is); (case c_made => k_is); (case k_made => k_is); (case a_tgt => k_is); (case l_tgt => k_is); (case c_tgt => k_is); (case k_tgt => k_is)
    (case a_law => k_is); (case l_law => k_is); (case c_law => k_is); (case k_law => k_is); (case z_range => k_is); (case z_min => k_is); (case z_max => k_is); (case z_len => k_is)
    (case z_isinstance => k_is); (case z_int => k_is); (case z_bool => k_is); (case z_tuple => k_is); (case z_list => k_is); (case z_abs => k_is); (case z_all => k_is); (case z_sum => k_is)
    (case z_sorted => k_is); (case z_enumerate => k_is); (case z_zip => k_is); (case z_ValueError => k_is); (case n_StretchError => k_is); (case n_NoNumber => k_is); (case n_NoRule => k_is); (case n_NotSure => k_is)
    (case x_NoRule => k_exc); (case ic_NoRule => k_is); (case ga_NoRule => k_is); (case gt_NoRule => k_is); (case cl_NoRule => k_is); (case sg_NoRule => k_is); (case tk_NoRule => k_is); (case ob_NoRule => k_is)
    (case be_NoRule => k_is); (case x_NoNumber => k_exc); (case ic_NoNumber => k_is); (case ga_NoNumber => k_is); (case gt_NoNumber => k_is); (case cl_NoNumber => k_is); (case sg_NoNumber => k_is); (case tk_NoNumber => k_is)
    (case ob_NoNumber => k_is); (case be_NoNumber => k_is); (case t_NoRule => k_is); (case s_NoRule => k_is); (case u_NoRule => k_is); (case t_StretchError => k_is); (case s_StretchError => k_is); (case u_StretchError => k_is)
    (case a_ini => k_is); (case l_ini => k_is); (case c_ini => k_is); (case k_ini => k_is); (case xi_NotSure => first | exact rfl | kernel_rfl); (case fn_NotSure => k_is); (case kc_NotSure => k_is); (case sa_NotSure => k_is)
    (case at_NotSure => k_is); (case st_NotSure => first | exact rfl | kernel_rfl); (case hd_NotSure => k_is); (case sb_NotSure => k_is); (case ic_NotSure => k_is); (case ga_NotSure => k_is); (case gt_NotSure => k_is); (case cl_NotSure => k_is)
    (case sg_NotSure => k_is); (case tk_NotSure => k_is); (case ob_NotSure => k_is); (case be_NotSure => k_is); (case f_sub => k_is); (case f_sub1 => k_is); (case f_kit1 => kit_is); (case f_kit2 => kit_is)
    (case hcT => exact rfl); (case lcT => k_is); (case hvT => exact rfl); (case tn => first | kernel_rfl | exact rfl); (case ts => decide)